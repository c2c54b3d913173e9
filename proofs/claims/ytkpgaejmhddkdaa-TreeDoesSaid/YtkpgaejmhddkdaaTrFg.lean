/-
  The law's few and does, walked.
-/
import Derived.Test.YtkpgaejmhddkdaaTrFf
namespace Go.Proofs.Ytkpgaejmhddkdaa
open Go.RowKit
set_option linter.unusedVariables false
set_option maxRecDepth 100000
set_option linter.unusedSimpArgs false

/-- A call: does it let go, its key, what it puts. -/
abbrev OpV := Bool × ByteArray × Int
def kdOp : Kf OpV := ⟨ 31, 22, 3, 32, .agg #[.bool false, .string ByteArray.empty, .int .i64 0], fun x => [.bool x.1, .string x.2.1, .int .i64 x.2.2]⟩
theorem kdOp_ok : kdOp.Ok := ⟨by kernel_rfl, by kernel_rfl, by kernel_rfl, by decide, by decide, by decide, fun _ => rfl, fun x u hu => by
  simp only [kdOp, List.mem_cons, List.not_mem_nil, or_false] at hu
  rcases hu with rfl | rfl | rfl <;> rfl⟩
def fewB (l : List OpV) (most : Nat) : Bool := decide (l.length ≤ most) && l.all fun x => decide (x.2.1.size ≤ 100)
theorem fewB_big {l : List OpV} {most : Nat} (h : ¬ l.length ≤ most) : fewB l most = false := by unfold fewB; rw [decide_eq_false h]; rfl
theorem fewB_long {l : List OpV} {most j : Nat} {x : OpV} (hx : l[j]? = some x) (h : ¬ x.2.1.size ≤ 100) : fewB l most = false := by
  unfold fewB
  rw [Bool.and_eq_false_iff]
  refine Or.inr (List.all_eq_false.2 ⟨x, List.mem_of_getElem? hx, ?_⟩)
  rw [decide_eq_false h]
  exact Bool.false_ne_true
theorem fewB_yes {l : List OpV} {most : Nat} (h : l.length ≤ most) (k : ∀ (i : Nat) (x : OpV), l[i]? = some x → x.2.1.size ≤ 100) : fewB l most = true := by
  unfold fewB
  rw [decide_eq_true h, Bool.true_and]
  refine List.all_eq_true.2 fun x hx => ?_
  obtain ⟨i, hi⟩ := List.mem_iff_getElem?.1 hx
  exact decide_eq_true (k i x hi)
/-- A row that is handed in, of any length. -/
structure FlW {α : Type} (K : Kf α) (w : World) (A : Option Addr) (C : Nat) (L : List α) : Prop where
  le : L.length ≤ 9223372036854775807
  cap : L.length ≤ C
  at' : 0 < L.length → ∃ b o, A = some ⟨b, o, none⟩ ∧ ∀ i x, L[i]? = some x → ∀ j u, (K.f x)[j]? = some u → w.cell? ⟨b, o + i * K.k + j, none⟩ = some u
theorem FlW.fl {α : Type} {K : Kf α} {w : World} {A : Option Addr} {C : Nat} {L : List α} (h : FlW K w A C L) (k : L.length ≤ 1048576) : FlV K w A C L := ⟨k, h.cap, h.at'⟩
theorem FlW.gr {α : Type} {K : Kf α} {w w' : World} {A : Option Addr} {C : Nat} {L : List α} (h : FlW K w A C L) (k : Ch (fun _ => False) w w') : FlW K w' A C L :=
  ⟨h.le, h.cap, fun h0 => by
    obtain ⟨b, o, hA, hc⟩ := h.at' h0
    exact ⟨b, o, hA, fun i x hx j u hu => k.cell (hc i x hx j u hu) (fun f => f)⟩⟩
set_option maxHeartbeats 1600000 in
theorem few_any (A : Option Addr) (C : Nat) (L : List OpV) (most : Nat) (hm : most ≤ 1000) (w : World) (h : FlW kdOp w A C L) : Calls Try.prog 9 #[.slice A L.length C, .int .i64 (most : Int)] w (Tid (.bool (fewB L most)) w) := by
  have HV := Lib.hid h
  have hle := h.le
  obtain ⟨n, hn⟩ : ∃ n, n = L.length := ⟨_, rfl⟩
  rw [← hn] at hle ⊢
  have HN := Lib.hid hn
  have n0 : (0 : Int) ≤ (n : Int) := Int.natCast_nonneg _
  have n1 : (n : Int) ≤ 9223372036854775807 := by omega
  have m1 : (most : Int) ≤ 1000 := by omega
  have m0 : (0 : Int) ≤ (most : Int) := Int.natCast_nonneg _
  clear h hle
  by_cases hbig : n ≤ most
  · have hb : ¬ (most : Int) < (n : Int) := by omega
    have HB := Lib.hid (show L.length ≤ most by rw [← hn]; exact hbig)
    clear hbig hn hm
    go_enter Try.func9, Try.ntmps9
    go_wp2
    go_loopw [5] (fun i wr => ∃ j : Nat, j ≤ n ∧ i = .int .i64 (j : Int) ∧ Hid (∀ (i : Nat) (x : OpV), i < j → L[i]? = some x → x.2.1.size ≤ 100) ∧ Hid (Ch (fun _ => False) w wr)) (fun i _ => n - (intOf i).toNat)
    case atStart => exact ⟨0, Nat.zero_le _, rfl, Lib.hid fun i x hi => absurd hi (Nat.not_lt_zero i), Lib.hid (Ch.refl _ _)⟩
    case round =>
      obtain ⟨j, hj, rfl, HP, HC⟩ := hrel
      have j0 : (0 : Int) ≤ (j : Int) := Int.natCast_nonneg _
      by_cases hlt : j < n
      · have j1 : (j : Int) < (n : Int) := by omega
        obtain ⟨b, o, rfl, hc⟩ := (HV.out.gr HC.out).at' (by rw [← HN.out]; omega)
        have hx : L[j]? = some (L[j]'(by rw [← HN.out]; exact hlt)) := List.getElem?_eq_getElem _
        obtain ⟨x, hxe⟩ : ∃ x, L[j]? = some x := ⟨_, hx⟩
        have c0 : wr.cell? ⟨b, o + j * 3 + 1, none⟩ = some (.string x.2.1) := hc j x hxe 1 _ rfl
        have HX := Lib.hid hxe
        clear hc hx hxe
        by_cases q : x.2.1.size ≤ 100
        · have t : ¬ (100 : Int) < (x.2.1.size : Int) := by omega
          have HP2 : Hid (∀ (i : Nat) (y : OpV), i < j + 1 → L[i]? = some y → y.2.1.size ≤ 100) := Lib.hid fun i y hi hy => by
            by_cases e : i = j
            · rw [e, HX.out] at hy
              injection hy with hy
              rw [← hy]; exact q
            · exact HP.out i y (by omega) hy
          clear q
          go_wp2
          go_roundw
          case rel => exact ⟨j + 1, by omega, by go_num, HP2, HC⟩
          case measure => simp [intOf]; omega
        · have t : (100 : Int) < (x.2.1.size : Int) := by omega
          have HG := Lib.hid (fewB_long (most := most) HX.out q)
          clear q
          go_wp2
          go_ret
          exact ⟨by rw [HG.out]; rfl, HC.out⟩
      · have hje : j = n := by omega
        have j1 : ¬ (j : Int) < (n : Int) := by omega
        have HG := Lib.hid (fewB_yes (most := most) HB.out fun i x hx => HP.out i x (by rw [hje, HN.out]; exact (List.getElem?_eq_some_iff.1 hx).1) hx)
        clear hje
        go_wp2
        go_ret
        exact ⟨by rw [HG.out]; rfl, HC.out⟩
  · have hb : (most : Int) < (n : Int) := by omega
    have HG := Lib.hid (fewB_big (l := L) (most := most) (by rw [← hn]; exact hbig))
    clear hbig hn hm
    go_enter Try.func9, Try.ntmps9
    go_wp2
    go_ret
    exact ⟨by rw [HG.out]; rfl, Ch.refl _ _⟩
#print axioms few_any
def doesL (x : OpV) (L : List Kv) : List Kv := if x.1 then delL L x.2.1 else putL13 L x.2.1 x.2.2
def DoesP (w : World) (t : Nat) (x : OpV) (L : List Kv) (e : Ending) (w' : World) : Prop := ∃ h', e = .returned (.bool ((getL L x.2.1).isSome == x.1)) ∧ TreeIs w' t h' (doesL x L) ∧ Ch (fun i => i = t) w w'
set_option maxHeartbeats 1600000 in
theorem does_any {w : World} {t h : Nat} {L : List Kv} (ht : TreeIs w t h L) (x : OpV) (hL : L.length ≤ 100000) : Calls Try.prog 11 #[.pointer (some ⟨t, 0, none⟩), .agg #[.bool x.1, .string x.2.1, .int .i64 x.2.2]] w (DoesP w t x L) := by
  obtain ⟨d, k, v⟩ := x
  obtain ⟨w1, hw1⟩ : ∃ w1, w1 = w.alloc (.cells #[.bool d, .string k, .int .i64 v] 31) := ⟨_, rfl⟩
  obtain ⟨B, hB⟩ : ∃ B, B = w.heap.size := ⟨_, rfl⟩
  have hc : Ch (fun _ => False) w w1 := by rw [hw1]; exact (Ch.refl _ w).alloc _ _
  have hb : w1.heap[B]? = some (.cells #[.bool d, .string k, .int .i64 v] 31 (0, 0)) := by rw [hw1, hB]; exact heap_alloc_new _ _
  have c0 : w1.cell? ⟨B, 0, none⟩ = some (.bool d) := by rw [blk_cell hb]; rfl
  have c1 : w1.cell? ⟨B, 1, none⟩ = some (.string k) := by rw [blk_cell hb]; rfl
  have c2 : w1.cell? ⟨B, 2, none⟩ = some (.int .i64 v) := by rw [blk_cell hb]; rfl
  have HC := Lib.hid hc
  have hp := tput_any (ht.gr hc) k v hL
  have hd := tdel_any (ht.gr hc) k
  have HP := Lib.hid hp
  have HD := Lib.hid hd
  have HW := Lib.hid (And.intro hw1 hB)
  clear hc hb hp hd hw1 hB ht hL
  cases d
  · go_enter Try.func11, Try.ntmps11
    go_wp2_with (first
      | ((with_reducible refine wpList_isOp (.box 31 (.tmp 1)) rfl ?_); refine wpList_boxing _ w1 rfl 31 (.tmp 1) rfl #[.bool false, .string k, .int .i64 v] B rfl (by exact HW.out.2.symm) (by exact HW.out.1.symm) ?_)
      | (refine HP.out.mono ?_; rintro e w2 ⟨h', rfl, q1, q2⟩)
      | fail)
    have HQ := Lib.hid (And.intro q1 q2)
    clear q1 q2
    go_ret
    refine ⟨h', ?_, HQ.out.1, (HC.out.mono fun _ _ f => f.elim).trans HQ.out.2⟩
    have e : ((getL L k).isSome == false) = (getL L k).isNone := by cases getL L k <;> rfl
    show _ = Ending.returned (.bool ((getL L k).isSome == false))
    rw [e]
    rfl
  · go_enter Try.func11, Try.ntmps11
    go_wp2_with (first
      | ((with_reducible refine wpList_isOp (.box 31 (.tmp 1)) rfl ?_); refine wpList_boxing _ w1 rfl 31 (.tmp 1) rfl #[.bool true, .string k, .int .i64 v] B rfl (by exact HW.out.2.symm) (by exact HW.out.1.symm) ?_)
      | (refine HD.out.mono ?_; rintro e w2 ⟨h', rfl, q1, q2⟩)
      | fail)
    have HQ := Lib.hid (And.intro q1 q2)
    clear q1 q2
    go_ret
    refine ⟨h', ?_, HQ.out.1, (HC.out.mono fun _ _ f => f.elim).trans HQ.out.2⟩
    have e : ((getL L k).isSome == true) = (getL L k).isSome := by cases (getL L k).isSome <;> rfl
    show _ = Ending.returned (.bool ((getL L k).isSome == true))
    rw [e]
    rfl
#print axioms does_any
end Go.Proofs.Ytkpgaejmhddkdaa
