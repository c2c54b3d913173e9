/-
  batch: rows of changes; the document's Light, Same and Fills, walked. Rows of changes that are handed in, opened.
-/
import Derived.Test.YtkpahhioiefcbaaMb10
import Derived.Test.YtkpahhioiefcbaaMb24
import Derived.Laws.Cover1
import Derived.Laws.StructEq
import Derived.Test.YtkpahhioiefcbaaMb1
import Derived.Deep.Slices
import Derived.Deep.Fields
import Derived.ChangeSame
namespace Go.Proofs.Ytkpahhioiefcbaa
open Go.RowKit
set_option linter.unusedVariables false
set_option maxRecDepth 100000
set_option linter.unusedSimpArgs false

def kdCh : Kf ChV := ⟨ 44, 24, 3, 40, .agg #[.string ByteArray.empty, .string ByteArray.empty, .bool false], fun x => [.string x.1, .string x.2.1, .bool x.2.2]⟩
theorem kdCh_ok : kdCh.Ok := ⟨by kernel_rfl, by kernel_rfl, by kernel_rfl, by decide, by decide, by decide, fun _ => rfl, fun x u hu => by
  simp only [kdCh, List.mem_cons, List.not_mem_nil, or_false] at hu
  rcases hu with rfl | rfl | rfl <;> rfl⟩
/-- A row that is handed in, of any length. -/
structure FlW {α : Type} (K : Kf α) (w : World) (A : Option Addr) (C : Nat) (L : List α) : Prop where
  le : L.length ≤ 9223372036854775807
  cap : L.length ≤ C
  at' : 0 < L.length → ∃ b o, A = some ⟨b, o, none⟩ ∧ ∀ i x, L[i]? = some x → ∀ j u, (K.f x)[j]? = some u → w.cell? ⟨b, o + i * K.k + j, none⟩ = some u
theorem FlW.fl {α : Type} {K : Kf α} {w : World} {A : Option Addr} {C : Nat} {L : List α} (h : FlW K w A C L) (k : L.length ≤ 1048576) : FlV K w A C L := ⟨k, h.cap, h.at'⟩
theorem FlW.gr {α : Type} {K : Kf α} {w w' : World} {A : Option Addr} {C : Nat} {L : List α} (h : FlW K w A C L) (k : Ch (fun _ => False) w w') : FlW K w' A C L :=
  ⟨h.le, h.cap, fun h0 => by
    obtain ⟨b, o, hA, hc⟩ := h.at' h0
    exact ⟨b, o, hA, fun i x hx j u hu => k.cell (hc i x hx j u hu) (fun f => f)⟩⟩
/-- An answer, and a world that has but what is new. -/
def Tid (v : Value) (w : World) (e : Ending) (w' : World) : Prop := e = .returned v ∧ Ch (fun _ => False) w w'
/-! ### Light -/
def lightB (l : List ChV) (many bytes : Nat) : Bool := decide (l.length ≤ many) && l.all fun x => decide (x.1.size ≤ bytes) && decide (x.2.1.size ≤ bytes)
theorem light_big {l : List ChV} {many bytes : Nat} (h : ¬ l.length ≤ many) : lightB l many bytes = false := by unfold lightB; rw [decide_eq_false h]; rfl
theorem light_long {l : List ChV} {many bytes j : Nat} {x : ChV} (hx : l[j]? = some x) (h : ¬ (x.1.size ≤ bytes ∧ x.2.1.size ≤ bytes)) : lightB l many bytes = false := by
  unfold lightB
  rw [Bool.and_eq_false_iff]
  refine Or.inr (List.all_eq_false.2 ⟨x, List.mem_of_getElem? hx, ?_⟩)
  rw [Bool.and_eq_true, decide_eq_true_iff, decide_eq_true_iff]
  exact h
theorem light_yes {l : List ChV} {many bytes : Nat} (h : l.length ≤ many) (k : ∀ (i : Nat) (x : ChV), l[i]? = some x → x.1.size ≤ bytes ∧ x.2.1.size ≤ bytes) : lightB l many bytes = true := by
  unfold lightB
  rw [decide_eq_true h, Bool.true_and]
  refine List.all_eq_true.2 fun x hx => ?_
  obtain ⟨i, hi⟩ := List.mem_iff_getElem?.1 hx
  rw [Bool.and_eq_true, decide_eq_true_iff, decide_eq_true_iff]
  exact k i x hi
theorem light_is {l : List ChV} {many bytes : Nat} (h : lightB l many bytes = true) : l.length ≤ many ∧ ∀ x ∈ l, x.1.size ≤ bytes ∧ x.2.1.size ≤ bytes := by
  unfold lightB at h
  rw [Bool.and_eq_true, decide_eq_true_iff] at h
  refine ⟨h.1, fun x hx => ?_⟩
  have := List.all_eq_true.1 h.2 x hx
  rwa [Bool.and_eq_true, decide_eq_true_iff, decide_eq_true_iff] at this
set_option maxHeartbeats 1600000 in
theorem light_any (A : Option Addr) (C : Nat) (L : List ChV) (many bytes : Nat) (hm : many ≤ 1000) (hm2 : bytes ≤ 100000) (w : World) (h : FlW kdCh w A C L) : Calls Try.prog 14 #[.slice A L.length C, .int .i64 (many : Int), .int .i64 (bytes : Int)] w (Tid (.bool (lightB L many bytes)) w) := by
  have HV := Lib.hid h
  have hle := h.le
  obtain ⟨n, hn⟩ : ∃ n, n = L.length := ⟨_, rfl⟩
  rw [← hn] at hle ⊢
  have HN := Lib.hid hn
  have n0 : (0 : Int) ≤ (n : Int) := Int.natCast_nonneg _
  have n1 : (n : Int) ≤ 9223372036854775807 := by omega
  have m1 : (many : Int) ≤ 1000 := by omega
  have m0 : (0 : Int) ≤ (many : Int) := Int.natCast_nonneg _
  clear h hle
  by_cases hbig : n ≤ many
  · have hb : ¬ (many : Int) < (n : Int) := by omega
    have HB := Lib.hid (show L.length ≤ many by rw [← hn]; exact hbig)
    clear hbig hn hm hm2
    go_enter Try.func14, Try.ntmps14
    go_wp2
    go_loopw [7] (fun i wr => ∃ j : Nat, j ≤ n ∧ i = .int .i64 (j : Int) ∧ Hid (∀ (i : Nat) (x : ChV), i < j → L[i]? = some x → x.1.size ≤ bytes ∧ x.2.1.size ≤ bytes) ∧ Hid (Ch (fun _ => False) w wr)) (fun i _ => n - (intOf i).toNat)
    case atStart => exact ⟨0, Nat.zero_le _, rfl, Lib.hid fun i x hi => absurd hi (Nat.not_lt_zero i), Lib.hid (Ch.refl _ _)⟩
    case round =>
      obtain ⟨j, hj, rfl, HP, HC⟩ := hrel
      have j0 : (0 : Int) ≤ (j : Int) := Int.natCast_nonneg _
      by_cases hlt : j < n
      · have j1 : (j : Int) < (n : Int) := by omega
        obtain ⟨b, o, rfl, hc⟩ := (HV.out.gr HC.out).at' (by rw [← HN.out]; omega)
        have hx : L[j]? = some (L[j]'(by rw [← HN.out]; exact hlt)) := List.getElem?_eq_getElem _
        obtain ⟨x, hxe⟩ : ∃ x, L[j]? = some x := ⟨_, hx⟩
        have c0 : wr.cell? ⟨b, o + j * 3, none⟩ = some (.string x.1) := hc j x hxe 0 _ rfl
        have c1 : wr.cell? ⟨b, o + j * 3 + 1, none⟩ = some (.string x.2.1) := hc j x hxe 1 _ rfl
        have HX := Lib.hid hxe
        clear hc hx hxe
        by_cases q : x.1.size ≤ bytes
        · have t : ¬ (bytes : Int) < (x.1.size : Int) := by omega
          by_cases q2 : x.2.1.size ≤ bytes
          · have t2 : ¬ (bytes : Int) < (x.2.1.size : Int) := by omega
            have HP2 : Hid (∀ (i : Nat) (y : ChV), i < j + 1 → L[i]? = some y → y.1.size ≤ bytes ∧ y.2.1.size ≤ bytes) := Lib.hid fun i y hi hy => by
              by_cases e : i = j
              · rw [e, HX.out] at hy
                injection hy with hy
                rw [← hy]; exact ⟨q, q2⟩
              · exact HP.out i y (by omega) hy
            clear q q2
            go_wp2
            go_roundw
            case rel => exact ⟨j + 1, by omega, by go_num, HP2, HC⟩
            case measure => simp [intOf]; omega
          · have t2 : (bytes : Int) < (x.2.1.size : Int) := by omega
            have HG := Lib.hid (light_long (many := many) (bytes := bytes) HX.out (fun e => q2 e.2))
            clear q q2
            go_wp2
            go_ret
            exact ⟨by rw [HG.out]; rfl, HC.out⟩
        · have t : (bytes : Int) < (x.1.size : Int) := by omega
          have HG := Lib.hid (light_long (many := many) (bytes := bytes) HX.out (fun e => q e.1))
          clear q
          go_wp2
          go_ret
          exact ⟨by rw [HG.out]; rfl, HC.out⟩
      · have hje : j = n := by omega
        have j1 : ¬ (j : Int) < (n : Int) := by omega
        have HG := Lib.hid (light_yes (many := many) (bytes := bytes) HB.out fun i x hx => HP.out i x (by rw [hje, HN.out]; exact (List.getElem?_eq_some_iff.1 hx).1) hx)
        clear hje
        go_wp2
        go_ret
        exact ⟨by rw [HG.out]; rfl, HC.out⟩
  · have hb : (many : Int) < (n : Int) := by omega
    have HG := Lib.hid (light_big (l := L) (many := many) (bytes := bytes) (by rw [← hn]; exact hbig))
    clear hbig hn hm hm2
    go_enter Try.func14, Try.ntmps14
    go_wp2
    go_ret
    exact ⟨by rw [HG.out]; rfl, Ch.refl _ _⟩
#print axioms light_any
/-! ### Same, of one list twice -/
theorem fields_ch : Try.prog.underlying 44 = some (.struct (Try.prog.fieldsOf 44)) := by kernel_rfl
theorem held_ch : Try.prog.stoodInHeld 44 = false := by kernel_rfl
theorem neq_ch (a c : ByteArray) (i : Bool) (w : World) : (binOp .neq 44 (.agg #[.string a, .string c, .bool i]) (.agg #[.string a, .string c, .bool i])).run Try.prog w = .ok (.bool false) w := by
  have u3 : Try.prog.underlying 4 = some .bool := by kernel_rfl
  have u4 : Try.prog.underlying 9 = some .string := by kernel_rfl
  have a3 := Try.isAgg4
  have z3 := Try.sizeOf4
  have a4 := Try.isAgg9
  have z4 := Try.sizeOf9
  rw [run_neq_struct, show (10000 : Nat) = 9999 + 1 from rfl, run_equalIn_struct w _ _ _ _ fields_ch held_ch]
  simp only [Program.fieldsOf, Try.underlying44]
  go_simp
#print axioms neq_ch
set_option maxHeartbeats 1600000 in
theorem rsame_any (A A2 : Option Addr) (C C2 : Nat) (L : List ChV) (w : World) (h : FlV kdCh w A C L) (h2 : FlV kdCh w A2 C2 L) (hL : L.length ≤ 1000000) : Calls Try.prog 10 #[.slice A L.length C, .slice A2 L.length C2] w (Tid (.bool true) w) := by
  have HV := Lib.hid (And.intro h h2)
  obtain ⟨n, hn⟩ : ∃ n, n = L.length := ⟨_, rfl⟩
  rw [← hn] at hL ⊢
  have HN := Lib.hid hn
  have n0 : (0 : Int) ≤ (n : Int) := Int.natCast_nonneg _
  have n1 : (n : Int) ≤ 1000000 := by omega
  clear h h2 hn hL
  go_enter Try.func10, Try.ntmps10
  go_wp2
  go_loopw [5] (fun i wr => ∃ j : Nat, j ≤ n ∧ i = .int .i64 (j : Int) ∧ Hid (Ch (fun _ => False) w wr)) (fun i _ => n - (intOf i).toNat)
  case atStart => exact ⟨0, Nat.zero_le _, rfl, Lib.hid (Ch.refl _ _)⟩
  case round =>
    obtain ⟨j, hj, rfl, HC⟩ := hrel
    have j0 : (0 : Int) ≤ (j : Int) := Int.natCast_nonneg _
    by_cases hlt : j < n
    · have j1 : (j : Int) < (n : Int) := by omega
      have hx : L[j]? = some (L[j]'(by rw [← HN.out]; exact hlt)) := List.getElem?_eq_getElem _
      obtain ⟨x, hxe⟩ : ∃ x, L[j]? = some x := ⟨_, hx⟩
      have hv := HV.out.1.gr HC.out
      have hv2 := HV.out.2.gr HC.out
      obtain ⟨b, o, rfl, hc⟩ := hv.at' (by rw [← HN.out]; omega)
      obtain ⟨b2, o2, rfl, hc2⟩ := hv2.at' (by rw [← HN.out]; omega)
      have c0 : wr.cell? ⟨b, o + j * 3, none⟩ = some (.string x.1) := hc j x hxe 0 _ rfl
      have c1 : wr.cell? ⟨b, o + j * 3 + 1, none⟩ = some (.string x.2.1) := hc j x hxe 1 _ rfl
      have c2 : wr.cell? ⟨b, o + j * 3 + 2, none⟩ = some (.bool x.2.2) := hc j x hxe 2 _ rfl
      have d0 : wr.cell? ⟨b2, o2 + j * 3, none⟩ = some (.string x.1) := hc2 j x hxe 0 _ rfl
      have d1 : wr.cell? ⟨b2, o2 + j * 3 + 1, none⟩ = some (.string x.2.1) := hc2 j x hxe 1 _ rfl
      have d2 : wr.cell? ⟨b2, o2 + j * 3 + 2, none⟩ = some (.bool x.2.2) := hc2 j x hxe 2 _ rfl
      have l5 := neq_ch x.1 x.2.1 x.2.2 wr.drew
      have HC2 := Lib.hid (HC.out.trans (Ch.refl (fun _ => False) wr).drew)
      clear hc hc2 hx hxe hv hv2
      go_wp2
      go_region
      go_wp2
      go_roundw
      case rel => exact ⟨j + 1, by omega, by go_num, HC2⟩
      case measure => simp [intOf]; omega
    · have j1 : ¬ (j : Int) < (n : Int) := by omega
      go_wp2
      go_ret
      exact ⟨rfl, HC.out⟩
#print axioms rsame_any
/-! ### Fills -/
def prC (x : ChV) : Kv := (x.1, x.2.1)
def chK (p : Kv) : ChV := (p.1, p.2, false)
theorem pr_ch (L : List Kv) : (L.map chK).map prC = L := by rw [List.map_map]; exact List.map_id L
def fillP (L : List ChV) : Prop := (∀ x ∈ L, x.2.2 = false) ∧ Rise (L.map prC)
theorem fill_ch {L : List ChV} (h : fillP L) : (L.map prC).map chK = L := by
  rw [List.map_map]
  refine (List.map_congr_left fun x hx => ?_).trans (List.map_id L)
  obtain ⟨k, v, g⟩ := x
  have : g = false := h.1 _ hx
  rw [this]
  rfl
noncomputable def fillB (L : List ChV) : Bool := @decide (fillP L) (Classical.propDecidable _)
theorem fill_yes {L : List ChV} (h : fillP L) : fillB L = true := by unfold fillB; exact @decide_eq_true _ (Classical.propDecidable _) h
theorem fill_no {L : List ChV} (h : ¬ fillP L) : fillB L = false := by unfold fillB; exact @decide_eq_false _ (Classical.propDecidable _) h
theorem fill_is {L : List ChV} (h : fillB L = true) : fillP L := by
  by_cases q : fillP L
  · exact q
  · rw [fill_no q] at h; cases h
theorem fill_not {L : List ChV} (h : fillB L = false) : ¬ fillP L := fun q => by rw [fill_yes q] at h; cases h
theorem fill_nil : fillP [] := ⟨fun x hx => absurd hx (by simp), rise_nil⟩
theorem fill_snoc0 {L : List ChV} {x : ChV} (h : fillP L) (h0 : L = []) (hg : x.2.2 = false) : fillP (L ++ [x]) := by
  subst h0
  refine ⟨fun y hy => ?_, ?_⟩
  · have : y = x := by simpa using hy
    rw [this]; exact hg
  · exact rise_cons.2 ⟨fun y hy => absurd hy (by simp), rise_nil⟩
theorem fill_snoc {L : List ChV} {x y : ChV} (h : fillP (L ++ [y])) (hg : x.2.2 = false) (hk : kLt y.1 x.1 = true) : fillP ((L ++ [y]) ++ [x]) := by
  refine ⟨fun z hz => ?_, ?_⟩
  · rcases List.mem_append.1 hz with q | q
    · exact h.1 z q
    · have : z = x := by simpa using q
      rw [this]; exact hg
  · rw [List.map_append]
    refine rise_app.2 ⟨h.2, rise_cons.2 ⟨fun y hy => absurd hy (by simp), rise_nil⟩, fun a ha b hb => ?_⟩
    have hb : b = prC x := by simpa using hb
    rw [hb]
    have h2 := h.2
    rw [List.map_append] at h2 ha
    rcases List.mem_append.1 ha with q | q
    · exact kLt_trans ((rise_app.1 h2).2.2 a q (prC y) (by simp)) hk
    · have : a = prC y := by simpa using q
      rw [this]; exact hk
theorem fill_take {L : List ChV} (h : fillP L) (j : Nat) : fillP (L.take j) := by
  refine ⟨fun x hx => h.1 x (List.mem_of_mem_take hx), ?_⟩
  have := h.2
  rw [← List.take_append_drop j L, List.map_append] at this
  exact (rise_app.1 this).1
theorem fill_gone {L : List ChV} {j : Nat} {x : ChV} (hx : L[j]? = some x) (hg : x.2.2 = true) : ¬ fillP L := fun h => by
  have := h.1 x (List.mem_of_getElem? hx)
  rw [hg] at this; cases this
theorem take_two {L : List ChV} {j : Nat} {x y : ChV} (hx : L[j + 1]? = some x) (hy : L[j]? = some y) : L.take (j + 1 + 1) = (L.take j ++ [y]) ++ [x] := by
  rw [List.take_add_one, hx, List.take_add_one, hy]
  rfl
theorem fill_falls {L : List ChV} {j : Nat} {x y : ChV} (hx : L[j + 1]? = some x) (hy : L[j]? = some y) (hk : ¬ kLt y.1 x.1 = true) : ¬ fillP L := fun h => hk (by
  have h2 := (fill_take h (j + 1 + 1)).2
  rw [take_two hx hy, List.map_append] at h2
  exact (rise_app.1 h2).2.2 (prC y) (by simp) (prC x) (by simp))
set_option maxHeartbeats 3200000 in
theorem rfills_any (A : Option Addr) (C : Nat) (L : List ChV) (w : World) (h : FlV kdCh w A C L) (hL : L.length ≤ 1000000) : Calls Try.prog 12 #[.slice A L.length C] w (Tid (.bool (fillB L)) w) := by
  have HV := Lib.hid h
  obtain ⟨n, hn⟩ : ∃ n, n = L.length := ⟨_, rfl⟩
  rw [← hn] at hL ⊢
  have HN := Lib.hid hn
  have n0 : (0 : Int) ≤ (n : Int) := Int.natCast_nonneg _
  have n1 : (n : Int) ≤ 1000000 := by omega
  clear h hn hL
  go_enter Try.func12, Try.ntmps12
  go_wp2
  go_loopw [3] (fun i wr => ∃ j : Nat, j ≤ n ∧ i = .int .i64 (j : Int) ∧ Hid (fillP (L.take j)) ∧ Hid (Ch (fun _ => False) w wr)) (fun i _ => n - (intOf i).toNat)
  case atStart => exact ⟨0, Nat.zero_le _, rfl, Lib.hid fill_nil, Lib.hid (Ch.refl _ _)⟩
  case round =>
    obtain ⟨j, hj, rfl, HF, HC⟩ := hrel
    have j0 : (0 : Int) ≤ (j : Int) := Int.natCast_nonneg _
    by_cases hlt : j < n
    · have j1 : (j : Int) < (n : Int) := by omega
      have hx : L[j]? = some (L[j]'(by rw [← HN.out]; exact hlt)) := List.getElem?_eq_getElem _
      obtain ⟨x, hxe⟩ : ∃ x, L[j]? = some x := ⟨_, hx⟩
      have HC2 := Lib.hid (HC.out.trans (Ch.refl (fun _ => False) wr).drew)
      obtain ⟨b, o, rfl, hc⟩ := (HV.out.gr HC.out).at' (by rw [← HN.out]; omega)
      have c0 : wr.cell? ⟨b, o + j * 3, none⟩ = some (.string x.1) := hc j x hxe 0 _ rfl
      have c2 : wr.cell? ⟨b, o + j * 3 + 2, none⟩ = some (.bool x.2.2) := hc j x hxe 2 _ rfl
      have HX := Lib.hid hxe
      cases hg : x.2.2
      · rw [hg] at c2
        cases j with
        | zero =>
          have HF2 : Hid (fillP (L.take (0 + 1))) := Lib.hid (by rw [List.take_add_one, hxe]; exact fill_snoc0 HF.out (List.take_zero) hg)
          clear hc hx hxe hg HF
          go_wp2
          go_region
          go_wp2
          go_roundw
          case rel => exact ⟨0 + 1, by omega, by go_num, HF2, HC2⟩
          case measure => simp [intOf]; omega
        | succ i =>
          have hy : L[i]? = some (L[i]'(by rw [← HN.out]; omega)) := List.getElem?_eq_getElem _
          obtain ⟨y, hye⟩ : ∃ y, L[i]? = some y := ⟨_, hy⟩
          have e0 : wr.cell? ⟨b, o + i * 3, none⟩ = some (.string y.1) := hc i y hye 0 _ rfl
          have i0 : (0 : Int) ≤ (i : Int) := Int.natCast_nonneg _
          have i1 : ((i + 1 : Nat) : Int) = (i : Int) + 1 := by omega
          have i2 : (0 : Int) < ((i + 1 : Nat) : Int) := by omega
          have i3 : ((i + 1 : Nat) : Int) - 1 = (i : Int) := by omega
          have i4 : (i : Int) < (n : Int) := by omega
          have HY := Lib.hid hye
          by_cases hk : kLt y.1 x.1 = true
          · have q1 : Op.bytesLess x.1.toList y.1.toList = false := kLt_asymm (a := y.1) (b := x.1) hk
            have q2 : (x.1.toList == y.1.toList) = false := kEq_no.2 fun e => kLt_ne hk e.symm
            have HF2 : Hid (fillP (L.take (i + 1 + 1))) := Lib.hid (by
              rw [take_two hxe hye]
              refine fill_snoc ?_ hg hk
              have := HF.out
              rw [List.take_add_one, hye] at this
              exact this)
            clear hc hx hxe hy hye hg hk HF
            go_wp2
            go_region
            go_wp2
            go_roundw
            case rel => exact ⟨i + 1 + 1, by omega, by go_num, HF2, HC2⟩
            case measure => simp [intOf]; omega
          · have HNF := Lib.hid (fill_no (fill_falls hxe hye hk))
            by_cases he : x.1 = y.1
            · have q1 : Op.bytesLess x.1.toList y.1.toList = false := by rw [he]; exact kLt_irrefl y.1
              have q2 : (x.1.toList == y.1.toList) = true := kEq_iff.2 he
              clear hc hx hxe hy hye hg hk HF he
              go_wp2
              go_region
              go_wp2
              go_ret
              exact ⟨by rw [HNF.out]; rfl, HC2.out⟩
            · have q1 : Op.bytesLess x.1.toList y.1.toList = true := kLt_of (fun e => he e) (by simpa using hk)
              have q2 : (x.1.toList == y.1.toList) = false := kEq_no.2 he
              clear hc hx hxe hy hye hg hk HF he
              go_wp2
              go_region
              go_wp2
              go_ret
              exact ⟨by rw [HNF.out]; rfl, HC2.out⟩
      · rw [hg] at c2
        have HNF := Lib.hid (fill_no (fill_gone hxe hg))
        clear hc hx hxe hg HF
        go_wp2
        go_region
        go_wp2
        go_ret
        exact ⟨by rw [HNF.out]; rfl, HC2.out⟩
    · have hje : j = n := by omega
      have j1 : ¬ (j : Int) < (n : Int) := by omega
      have HFY : Hid (fillB L = true) := Lib.hid (fill_yes (by have := HF.out; rw [hje, HN.out, List.take_length] at this; exact this))
      clear hje HF
      go_wp2
      go_ret
      exact ⟨by rw [HFY.out]; rfl, HC.out⟩
#print axioms rfills_any
end Go.Proofs.Ytkpahhioiefcbaa
namespace Go.Proofs.Ytkpahhioiefcbaa
open Go.ChangeShapes Go.WideShapes Go.ChangeAt Go.RowKit Go.Deep
set_option linter.unusedVariables false
set_option maxRecDepth 100000

theorem add_pl13 (b o j : Nat) : (⟨b, o, none⟩ : Addr).add j = ⟨b, o + j, none⟩ := by simp [Addr.add]
theorem open_structs13 {α : Type} {H : Type} {enc : TypeId × Value → H} {W : World} {v : Value} {d : DataW H} {p : List MemPlace} {T S : TypeId} (k : Nat) (hS : Try.prog.underlying S = some (.slice T)) (hT : Try.prog.cellsOf T = k) (h0 : 0 < k) (at' : Nat → Nat → α → Prop) (a0 : α)
    (each : ∀ (cs : List Value) (y : DataW H × List MemPlace) (fuel : Nat), cs.length = k → DataW.trod enc Try.prog W 0 (fun _ => true) true fuel T cs = some y → ∃ q : α, ∀ b o, (∀ j u, cs[j]? = some u → W.cell? ⟨b, o + j, none⟩ = some u) → at' b o q)
    (hv : ∃ a len cap, v = .slice a len cap) (h : DataW.Trod enc Try.prog W 0 (fun _ => true) true S v d p) :
    ∃ (A : Option Addr) (C m : Nat) (F : Nat → α), v = .slice A m C ∧ m ≤ C ∧ m ≤ 9223372036854775807 ∧ (0 < m → ∃ b o, A = some ⟨b, o, none⟩ ∧ ∀ c, c < m → at' b (o + c * k) (F c)) := by
  obtain ⟨a0', len, cap, rfl⟩ := hv
  obtain ⟨fuel, hf⟩ := h
  rcases open_slice hS hf with ⟨hcs0, hx⟩ | ⟨a, len', cap', m, n, D, Pl, hcs0, _, hl, hm, hmm, hx, hi⟩
  · simp [Value.cells] at hcs0
    obtain ⟨rfl, rfl, rfl⟩ := hcs0
    exact ⟨none, 0, 0, fun _ => a0, rfl, Nat.le_refl _, by omega, fun h => absurd h (Nat.lt_irrefl 0)⟩
  · simp [Value.cells] at hcs0
    obtain ⟨rfl, rfl, rfl⟩ := hcs0
    simp only [if_true] at hmm
    have one : ∀ i, i < len → ∃ q : α, ∀ b o, a = ⟨b, o, none⟩ → at' b (o + i * k) q := fun i hil => by
      obtain ⟨cs', hc, ht⟩ := hi i (by omega)
      rw [hT] at hc
      obtain ⟨_, hcl, hat⟩ := World.cells?_some hc
      obtain ⟨q, hq⟩ := each cs' _ n hcl ht
      refine ⟨q, fun b o hao => hq b _ fun j u hu => ?_⟩
      subst hao
      have hj : j < k := by rw [← hcl]; exact (List.getElem?_eq_some_iff.1 hu).1
      have := hat j hj
      rw [add_pl13, add_pl13, hu] at this
      exact this
    have first : 0 < len → ∃ b o, a = ⟨b, o, none⟩ := fun hlen => by
      obtain ⟨cs', hc, _⟩ := hi 0 (by omega)
      rw [hT] at hc
      obtain ⟨_, hcl, hat⟩ := World.cells?_some hc
      have := hat 0 (by omega)
      rw [Nat.zero_mul, List.getElem?_eq_getElem (by omega)] at this
      obtain ⟨b, o, sp⟩ := a
      have hs : sp = none := by simpa [Addr.add] using World.cell?_spot this
      exact ⟨b, o, by rw [hs]⟩
    have ch : ∀ i, ∃ q : α, i < len → ∀ b o, a = ⟨b, o, none⟩ → at' b (o + i * k) q := fun i => by
      by_cases hil : i < len
      · obtain ⟨q, hq⟩ := one i hil; exact ⟨q, fun _ => hq⟩
      · exact ⟨a0, fun h => absurd h hil⟩
    obtain ⟨F, hF⟩ := Classical.axiomOfChoice ch
    refine ⟨some a, cap, len, F, rfl, hl, by unfold maxLen at hm; omega, fun h0 => ?_⟩
    obtain ⟨b, o, rfl⟩ := first h0
    exact ⟨b, o, rfl, fun c hc => hF c hc b o rfl⟩
theorem rng_len {α : Type} (F : Nat → α) (m : Nat) : ((List.range m).map F).length = m := by simp
theorem rng_get {α : Type} {F : Nat → α} {m i : Nat} {x : α} (h : ((List.range m).map F)[i]? = some x) : i < m ∧ F i = x := by
  have hi : i < m := by
    have := (List.getElem?_eq_some_iff.1 h).1
    rwa [rng_len] at this
  refine ⟨hi, ?_⟩
  rw [List.getElem?_map, List.getElem?_range hi] at h
  exact Option.some.inj h
theorem cellsCh : Try.prog.cellsOf 44 = 3 := by kernel_rfl
theorem open_chs {H : Type} {enc : TypeId × Value → H} {W : World} {v : Value} {d : DataW H} {p : List MemPlace} (hv : ∃ a len cap, v = .slice a len cap) (h : DataW.Trod enc Try.prog W 0 (fun _ => true) true 24 v d p) :
    ∃ (A : Option Addr) (C : Nat) (L : List ChV), v = .slice A L.length C ∧ FlW kdCh W A C L := by
  obtain ⟨A, C, m, F, rfl, h0, h1, h2⟩ := open_structs13 (α := ChV) 3 Try.underlying24 cellsCh (by decide) (fun b o q => ∀ j u, (kdCh.f q)[j]? = some u → W.cell? ⟨b, o + j, none⟩ = some u) (ByteArray.empty, ByteArray.empty, false) (fun cs y fuel hcl ht => by
    obtain ⟨ys, n', hn', hy, hlen', hyl, hfl⟩ := DataW.trod_struct Try.underlying44 ht
    match cs, hcl with
    | [x0, x1, x2], _ =>
      have g0 : DataW.trod enc Try.prog W 0 (fun _ => true) true n' 9 [x0] = ys[0]? := hfl 0 _ rfl
      have g1 : DataW.trod enc Try.prog W 0 (fun _ => true) true n' 9 [x1] = ys[1]? := hfl 1 _ rfl
      have g2 : DataW.trod enc Try.prog W 0 (fun _ => true) true n' 4 [x2] = ys[2]? := hfl 2 _ rfl
      have hys : ys.length = 3 := hyl
      match ys, hys with
      | [y0, y1, y2], _ =>
        obtain ⟨a0, e0, _⟩ := DataW.trod_string Try.underlying9 g0
        obtain ⟨a1, e1, _⟩ := DataW.trod_string Try.underlying9 g1
        obtain ⟨a2, e2, _⟩ := DataW.trod_bool Try.underlying4 g2
        simp only [List.cons.injEq, and_true] at e0 e1 e2
        subst e0 e1 e2
        exact ⟨(a0, a1, a2), fun b o hc => hc⟩) hv h
  refine ⟨A, C, (List.range m).map F, by rw [rng_len], by rw [rng_len]; exact h1, by rw [rng_len]; exact h0, fun hl => ?_⟩
  rw [rng_len] at hl
  obtain ⟨b, o, hA, hc⟩ := h2 hl
  refine ⟨b, o, hA, fun i x hx j u hu => ?_⟩
  obtain ⟨hi, rfl⟩ := rng_get hx
  exact hc i hi j u hu
#print axioms open_chs
end Go.Proofs.Ytkpahhioiefcbaa
