/-
  batch: lay and Encode, walked. batch: Encode, walked. batch: Dump, walked.
-/
import Derived.Test.YtkpahhioiefcbaaMb30
import Derived.Test.YtkpahhioiefcbaaMb29
import Derived.Test.YtkpahhioiefcbaaMb4
namespace Go.Proofs.Ytkpahhioiefcbaa
open Go.RowKit
set_option linter.unusedVariables false
set_option maxRecDepth 100000
set_option linter.unusedSimpArgs false

/-- A change that is boxed. -/
structure BxC (w w1 : World) (H : Nat) (x : ChV) : Prop where
  al : w.alloc (.cells (chC x) 44) = w1
  sz : w.heap.size = H
  cx : w1.heap[H]? = some (.cells (chC x) 44 (0, 0))
  ch : Ch (fun _ => False) w w1
theorem bxC (w : World) (x : ChV) : ∃ w1 H, BxC w w1 H x := ⟨_, _, rfl, rfl, heap_alloc_new w _, (Ch.refl _ w).alloc _ _⟩
theorem foot_lt {base B : Nat} {w : World} {v : Value} {L : List Nat} (h : OutIs base w B v L) {i : Nat} (hi : FootO B v i) : i < w.heap.size := by
  rcases hi with rfl | hi
  · exact h.box.lt
  · exact (World.ownsRow.lt h.own i hi).2
theorem off_new {base B b n C : Nat} {w : World} {v : Value} {L : List Nat} (h : OutIs base w B v L) (hb : w.heap.size ≤ b) : Off (FootO B v) (.slice (some ⟨b, 0, none⟩) n C) := fun b' o n' C' e hi => by
  injection e with e _ _
  injection e with e
  injection e with e _
  have := foot_lt h hi
  omega
/-- What an Out's row may have become: its own one, or a new one. -/
def Own' (w : World) (v v' : Value) : Prop := v'.ownBlock = v.ownBlock ∨ ∀ i, v'.ownBlock = some i → w.heap.size ≤ i
theorem Own'.refl (w : World) (v : Value) : Own' w v v := Or.inl rfl
theorem Own'.trans {w w1 : World} {v v1 v2 : Value} (h : Own' w v v1) (k : Own' w1 v1 v2) (hs : w.heap.size ≤ w1.heap.size) : Own' w v v2 := by
  rcases k with k | k
  · rcases h with h | h
    · exact Or.inl (k.trans h)
    · exact Or.inr fun i e => h i (k ▸ e)
  · exact Or.inr fun i e => Nat.le_trans hs (k i e)
theorem foot_then {w w1 w2 : World} {B : Nat} {v v1 : Value} (h : Own' w v v1) (k : Ch (FootO B v) w w1) (k2 : Ch (FootO B v1) w1 w2) : Ch (FootO B v) w w2 :=
  ch_then k k2 fun i hi => by
    rcases hi with q | q
    · exact Or.inl (Or.inl q)
    · rcases h with h | h
      · exact Or.inl (Or.inr (h ▸ q))
      · exact Or.inr (h i q)
/-- An Out behind some calls in a row. -/
structure LySt (base : Nat) (w wr : World) (B : Nat) (v v' : Value) (L : List Nat) : Prop where
  out : OutIs base wr B v' L
  own : Own' w v v'
  ch : Ch (FootO B v) w wr
theorem LySt.gr {base B : Nat} {w wr w' : World} {v v' : Value} {L : List Nat} (h : LySt base w wr B v v' L) (k : Ch (fun _ => False) wr w') : LySt base w w' B v v' L :=
  ⟨h.out.ch k fun _ _ f => f, h.own, h.ch.trans (k.mono fun _ _ f => f.elim)⟩
theorem LySt.put {base B : Nat} {w wr w' : World} {v v' : Value} {L L' : List Nat} {r : Value} {e : Ending} (h : LySt base w wr B v v' L) (p : PutPost base B v' L' r wr e w') : e = .returned r ∧ ∃ u, LySt base w w' B v u L' := by
  obtain ⟨h1, u, h2, h3, h4⟩ := p
  exact ⟨h1, u, h2, Own'.trans h.own h3 h.ch.size, foot_then h.own h.ch h4⟩
theorem LySt.num {base B : Nat} {w wr : World} {v v' : Value} {L : List Nat} (h : LySt base w wr B v v' L) (n : Nat) (hn : n ≤ 9223372036854775807) (hb : base ≤ wr.heap.size) (hL : L.length ≤ 1000000) : Calls Try.prog 32 #[.pointer (some ⟨B, 0, none⟩), .int .i64 (n : Int)] wr fun e w' => e = .returned (.int .i64 0) ∧ ∃ u, LySt base w w' B v u (L ++ Cod.digs n) :=
  (onum_any base B n v' L wr hn h.out hb hL).mono fun _ _ p => h.put p
theorem LySt.text {base B : Nat} {w wr w1 : World} {v v' : Value} {L : List Nat} {b C : Nat} {s : ByteArray} (h : LySt base w wr B v v' L) (k : Ch (fun _ => False) wr w1) (hs : s.size ≤ 4096) (hr : RowV w1 (.slice (some ⟨b, 0, none⟩) s.size C) s.size (zS s)) (hbw : wr.heap.size ≤ b) (hb : base ≤ wr.heap.size) (hL : L.length ≤ 1000000) : Calls Try.prog 50 #[.pointer (some ⟨B, 0, none⟩), .slice (some ⟨b, 0, none⟩) s.size C] w1 fun e w' => e = .returned (.int .i64 0) ∧ ∃ u, LySt base w w' B v u (L ++ byS s) :=
  (obytes_any base B s.size C (some ⟨b, 0, none⟩) (zS s) v' L w1 hs (h.gr k).out hr (off_new h.out hbw) (Nat.le_trans hb k.size) hL).mono fun _ _ p => (h.gr k).put p
theorem text_long (B b C : Nat) (s : ByteArray) (hs : ¬ s.size ≤ 4096) (hs2 : s.size ≤ 100000) (w : World) : Calls Try.prog 50 #[.pointer (some ⟨B, 0, none⟩), .slice (some ⟨b, 0, none⟩) s.size C] w fun e w' => e = .returned (.int .i64 2) ∧ w = w' :=
  obytes_long ⟨B, 0, none⟩ _ s.size C (by omega) (by omega) w
theorem LySt.back {base B : Nat} {w w1 w' : World} {v u : Value} {L : List Nat} (h : LySt base w1 w' B v u L) (k : Ch (fun _ => False) w w1) : LySt base w w' B v u L :=
  ⟨h.out, h.own.imp id fun q i e => Nat.le_trans k.size (q i e), (k.mono fun _ _ f => f.elim).trans h.ch⟩
theorem LySt.cell {base B H : Nat} {w w1 w' : World} {v u : Value} {L : List Nat} {x : ChV} (h : LySt base w1 w' B v u L) (hz : BxC w w1 H x) (hB : ∀ i, FootO B v i → i < H) : w'.heap[H]? = some (.cells (chC x) 44 (0, 0)) :=
  (h.ch.block H (blk_lt hz.cx) fun q => Nat.lt_irrefl _ (hB H q)).trans hz.cx
/-- What lay answers. -/
def LayP (base B : Nat) (v : Value) (L : List Nat) (x : ChV) (w : World) (e : Ending) (w' : World) : Prop := ∃ E, e = .returned (.int .i64 E) ∧ Ch (FootO B v) w w' ∧ (okC x → E = 0 ∧ ∃ u, LySt base w w' B v u (L ++ encC x)) ∧ (¬ okC x → ¬ E = 0)
set_option maxHeartbeats 6400000 in
theorem lay_any (base B : Nat) (v : Value) (L : List Nat) (x : ChV) (w : World) (h : OutIs base w B v L) (hb : base ≤ w.heap.size) (hL : L.length ≤ 920000) (hx : x.1.size ≤ 10000 ∧ x.2.1.size ≤ 10000) : Calls Try.prog 33 #[.pointer (some ⟨B, 0, none⟩), .agg (chC x)] w (LayP base B v L x w) := by
  obtain ⟨w1, H, hz⟩ := bxC w x
  have hl1 : LySt base w1 w1 B v v L := ⟨h.ch hz.ch fun _ _ f => f, Own'.refl _ _, Ch.refl _ _⟩
  obtain ⟨C2, w2, hcv, hr2, k2⟩ := text_conv x.1 (by omega) w1
  have c0 := chC_0 hz.cx
  have HZ := Lib.hid hz
  have HX := Lib.hid hx
  have HB := Lib.hid (show ∀ i, FootO B v i → i < H from fun i hi => by rw [← hz.sz]; exact foot_lt h hi)
  have HK2 := Lib.hid k2
  have HL := Lib.hid (And.intro hL (And.intro (Nat.le_trans hb hz.ch.size) hl1))
  have HR2 := Lib.hid hr2
  obtain ⟨b1, hb1⟩ : ∃ b, b = w1.heap.size := ⟨_, rfl⟩
  rw [← hb1] at hcv HR2
  have HBB := Lib.hid (show w1.heap.size ≤ b1 by rw [hb1]; exact Nat.le_refl _)
  clear h hb hL hz hr2 k2 hx hl1 hb1
  by_cases h1 : x.1.size ≤ 4096
  case neg =>
    have HLONG := Lib.hid (text_long B b1 C2 x.1 h1 (by have := HX.out; omega) w2)
    have HFIN : Hid (LayP base B v L x w (.returned (.int .i64 2)) w2) := Lib.hid ⟨2, rfl, ((HL.out.2.2.gr HK2.out).back HZ.out.ch).ch, fun q => absurd q.1 h1, fun _ => by decide⟩
    clear h1
    go_enter Try.func33, Try.ntmps33
    go_wp2_with (first
      | ((with_reducible refine wpList_isOp (.box 44 (.tmp 1)) rfl ?_); refine wpList_boxing _ w1 rfl 44 (.tmp 1) rfl (chC x) H rfl (by exact HZ.out.sz) (by exact HZ.out.al) ?_)
      | fail)
    refine HLONG.out.mono ?_
    rintro e w3 ⟨rfl, rfl⟩
    go_wp2_with fail
    go_ret
    exact HFIN.out
  case pos =>
    have HKEY := Lib.hid (HL.out.2.2.text HK2.out h1 HR2.out HBB.out HL.out.2.1 (by have := HL.out.1; omega))
    have H1 := Lib.hid h1
    have HLK := Lib.hid (show (L ++ byS x.1).length ≤ 930000 from by rw [List.length_append]; have := byS_len h1; have := HL.out.1; omega)
    clear h1
    go_enter Try.func33, Try.ntmps33
    go_wp2_with (first
      | ((with_reducible refine wpList_isOp (.box 44 (.tmp 1)) rfl ?_); refine wpList_boxing _ w1 rfl 44 (.tmp 1) rfl (chC x) H rfl (by exact HZ.out.sz) (by exact HZ.out.al) ?_)
      | fail)
    refine HKEY.out.mono ?_
    rintro e w3 ⟨rfl, v3, hl3⟩
    have hx3 := hl3.cell HZ.out HB.out
    have c2 := chC_2 hx3
    have HL3 := Lib.hid hl3
    have HS3 := Lib.hid (Nat.le_trans HL.out.2.1 hl3.ch.size)
    clear hl3 hx3 HKEY
    cases hg : x.2.2
    · rw [hg] at c2
      have HG := Lib.hid hg
      have hnum := HL3.out.num 1 (by omega) HS3.out (by have := HLK.out; omega)
      rw [show ((1 : Nat) : Int) = 1 from rfl, Cod.digs_small (show (1 : Nat) < 128 by omega)] at hnum
      have HNUM := Lib.hid hnum
      clear hg hnum
      go_wp2_with fail
      refine HNUM.out.mono ?_
      rintro e w4 ⟨rfl, v4, hl4⟩
      have c1 := chC_1 (hl4.cell HZ.out HB.out)
      obtain ⟨C5, w5, hcv5, hr5, k5⟩ := text_conv x.2.1 (by have := HX.out; omega) w4
      obtain ⟨b4, hb4⟩ : ∃ b, b = w4.heap.size := ⟨_, rfl⟩
      rw [← hb4] at hcv5 hr5
      have HS4 := Lib.hid (Nat.le_trans HL.out.2.1 hl4.ch.size)
      have HL4 := Lib.hid hl4
      have HK5 := Lib.hid k5
      have HR5 := Lib.hid hr5
      have HB4 := Lib.hid (show w4.heap.size ≤ b4 by rw [hb4]; exact Nat.le_refl _)
      clear hl4 hr5 k5 hb4 HNUM
      by_cases h2 : x.2.1.size ≤ 4096
      case neg =>
        have HLONG := Lib.hid (text_long B b4 C5 x.2.1 h2 (by have := HX.out; omega) w5)
        have HFIN : Hid (LayP base B v L x w (.returned (.int .i64 2)) w5) := Lib.hid ⟨2, rfl, ((HL4.out.gr HK5.out).back HZ.out.ch).ch, fun q => absurd (q.2 HG.out) h2, fun _ => by decide⟩
        clear h2
        go_wp2_with fail
        refine HLONG.out.mono ?_
        rintro e w6 ⟨rfl, rfl⟩
        go_wp2_with fail
        go_ret
        exact HFIN.out
      case pos =>
        have HVAL := Lib.hid (HL4.out.text HK5.out h2 HR5.out HB4.out HS4.out (by rw [List.length_append]; have := HLK.out; simp only [List.length_cons, List.length_nil]; omega))
        have H2 := Lib.hid h2
        clear h2
        go_wp2_with fail
        refine HVAL.out.mono ?_
        rintro e w6 ⟨rfl, v6, hl6⟩
        have HFIN : Hid (LayP base B v L x w (.returned (.int .i64 0)) w6) := Lib.hid ⟨0, rfl, (hl6.back HZ.out.ch).ch, fun _ => ⟨rfl, v6, by
          have e : L ++ encC x = L ++ byS x.1 ++ [1] ++ byS x.2.1 := by
            unfold encC
            rw [HG.out]
            simp
          rw [e]
          exact hl6.back HZ.out.ch⟩, fun q => absurd ⟨H1.out, fun _ => H2.out⟩ q⟩
        clear hl6 HVAL
        go_wp2_with fail
        go_ret
        exact HFIN.out
    · rw [hg] at c2
      have HG := Lib.hid hg
      have hnum := HL3.out.num 0 (by omega) HS3.out (by have := HLK.out; omega)
      rw [show ((0 : Nat) : Int) = 0 from rfl, Cod.digs_small (show (0 : Nat) < 128 by omega)] at hnum
      have HNUM := Lib.hid hnum
      clear hg hnum
      go_wp2_with fail
      refine HNUM.out.mono ?_
      rintro e w4 ⟨rfl, v4, hl4⟩
      have HFIN : Hid (LayP base B v L x w (.returned (.int .i64 0)) w4) := Lib.hid ⟨0, rfl, (hl4.back HZ.out.ch).ch, fun _ => ⟨rfl, v4, by
        have e : L ++ encC x = L ++ byS x.1 ++ [0] := by
          unfold encC
          rw [HG.out]
          simp
        rw [e]
        exact hl4.back HZ.out.ch⟩, fun q => absurd ⟨H1.out, fun q => by rw [HG.out] at q; cases q⟩ q⟩
      clear hl4 HNUM
      go_wp2_with fail
      go_ret
      exact HFIN.out
#print axioms lay_any
end Go.Proofs.Ytkpahhioiefcbaa
namespace Go.Proofs.Ytkpahhioiefcbaa
open Go.RowKit
set_option linter.unusedVariables false
set_option maxRecDepth 100000
set_option linter.unusedSimpArgs false

theorem encL_take (L : List ChV) (j : Nat) : (encL (L.take j)).length ≤ (encL L).length := by
  have h := congrArg (fun l => (encL l).length) (List.take_append_drop j L)
  simp only [encL, List.flatMap_append, List.length_append] at h
  unfold encL
  omega
/-- How it stands behind some changes. -/
structure EnSt (w wr : World) (B n : Nat) (L : List ChV) (j : Nat) (v : Value) : Prop where
  out : OutIs w.heap.size wr B v (Cod.digs n ++ encL (L.take j))
  ok : ∀ x ∈ L.take j, okC x
  ch : Ch (fun _ => False) w wr
theorem EnSt.len {w wr : World} {B n j : Nat} {L : List ChV} {v : Value} (h : EnSt w wr B n L j v) (hn : n ≤ 10000) (hL : (encL L).length ≤ 900000) : (Cod.digs n ++ encL (L.take j)).length ≤ 920000 := by
  have h1 := encL_take L j
  have h2 := Cod.digs_len10 (n := n) (by omega)
  rw [List.length_append]
  omega
theorem enc_bad {L : List ChV} {w w' : World} {E : Int} (h : ¬ okB L) (hE : ¬ E = 0) (k : Ch (fun _ => False) w w') : EncP w L (.returned (.tuple #[.slice none 0 0, .int .i64 E])) w' :=
  ⟨_, E, rfl, ⟨0, fun _ => 0, nil_row _ _, by omega⟩, k, fun q => absurd q h, fun _ => hE⟩
set_option maxHeartbeats 6400000 in
theorem benc_any (A : Option Addr) (C : Nat) (L : List ChV) (w : World) (hv : FlV kdCh w A C L) (hl : L.length ≤ 10000) (hx : ∀ x ∈ L, x.1.size ≤ 10000 ∧ x.2.1.size ≤ 10000) (hL : (encL L).length ≤ 900000) : Calls Try.prog 17 #[.slice A L.length C] w (EncP w L) := by
  have HV := Lib.hid hv
  have HXS := Lib.hid hx
  obtain ⟨n, hn⟩ : ∃ n, n = L.length := ⟨_, rfl⟩
  have HN := Lib.hid hn
  have n0 : (0 : Int) ≤ (n : Int) := Int.natCast_nonneg _
  have n1 : (n : Int) ≤ 10000 := by omega
  rw [← hn] at hl ⊢
  have HL := Lib.hid (And.intro hl hL)
  clear hv hx hn
  by_cases h1 : n ≤ 4096
  case neg =>
    have b1 : (4096 : Int) < (n : Int) := by omega
    have HFIN : Hid (EncP w L (.returned (.tuple #[.slice none 0 0, .int .i64 2])) w) := Lib.hid (enc_bad (fun q => by have := q.1; have := HN.out; omega) (by decide) (Ch.refl _ w))
    clear h1 hl hL
    go_enter Try.func17, Try.ntmps17
    go_wp2_with fail
    go_ret2
    exact HFIN.out
  case pos =>
    have b1 : ¬ (4096 : Int) < (n : Int) := by omega
    obtain ⟨w1, hw1⟩ : ∃ w1, w1 = w.alloc (.cells #[.slice none 0 0] 66) := ⟨_, rfl⟩
    obtain ⟨B, hB⟩ : ∃ B, B = w.heap.size := ⟨_, rfl⟩
    have ho : OutIs w.heap.size w1 B (.slice none 0 0) [] := by rw [hw1, hB]; exact nil_out _ w (Nat.le_refl _)
    have hc1 : Ch (fun _ => False) w w1 := by rw [hw1]; exact (Ch.refl _ w).alloc _ _
    have HNUM := Lib.hid (onum_any w.heap.size B n _ [] w1 (by omega) ho hc1.size (by simp))
    have HC1 := Lib.hid hc1
    have HO1 := Lib.hid ho
    have H1 := Lib.hid h1
    clear h1 hl hL ho hc1
    go_enter Try.func17, Try.ntmps17
    go_upto_region 4 with fail
    rw [← hB, ← hw1]
    clear hB hw1
    go_wp2_with fail
    refine HNUM.out.mono ?_
    rintro e w2 ⟨rfl, v2, ho2, _, k2⟩
    rw [List.nil_append] at ho2
    have HST : Hid (EnSt w w2 B n L 0 v2) := Lib.hid ⟨by rw [List.take_zero]; show OutIs _ _ _ _ (Cod.digs n ++ []); rw [List.append_nil]; exact ho2, fun x q => absurd q (by simp), HC1.out.new (k2.mono fun i _ hi => HO1.out.foot hi)⟩
    clear ho2 k2 HNUM HO1
    go_wp2_with fail
    go_loopw [6, 7, 16] (fun u6 u7 i wr => ∃ (j : Nat) (v : Value), j ≤ n ∧ i = .int .i64 (j : Int) ∧ Hid (EnSt w wr B n L j v)) (fun u6 u7 i _ => n - (intOf i).toNat)
    case atStart => exact ⟨0, v2, Nat.zero_le _, rfl, HST⟩
    case round =>
      obtain ⟨j, v, hj, rfl, HS⟩ := hrel
      have j0 : (0 : Int) ≤ (j : Int) := Int.natCast_nonneg _
      by_cases hlt : j < n
      · have j1 : (j : Int) < (n : Int) := by omega
        obtain ⟨x, hxe⟩ : ∃ x, L[j]? = some x := ⟨_, List.getElem?_eq_getElem (by rw [← HN.out]; exact hlt)⟩
        have hv2 := HV.out.gr HS.out.ch
        obtain ⟨b, o, rfl, hc⟩ := hv2.at' (by rw [← HN.out]; omega)
        have HLD := Lib.hid (hv2.load kdCh_ok hxe (Try.underlying44) rfl)
        obtain ⟨w4, Hx, hz⟩ := zeC wr
        obtain ⟨w5, hs⟩ := stC (x := x) hz.cx
        have HLV := Lib.hid (load_ch hs.cx)
        have k5 : Ch (fun _ => False) wr w5 := hz.ch.new (hs.ch.mono fun i _ e => by rw [e, ← hz.sz]; exact Nat.le_refl _)
        have hm := List.mem_of_getElem? hxe
        have hlay := lay_any w.heap.size B v (Cod.digs n ++ encL (L.take j)) x w5 (HS.out.out.ch k5 fun _ _ f => f) (Nat.le_trans HS.out.ch.size k5.size) (HS.out.len HL.out.1 HL.out.2) (HXS.out x hm)
        have HLAY := Lib.hid hlay
        have HZ := Lib.hid hz
        have HSX := Lib.hid hs
        have HK5 := Lib.hid (HS.out.ch.trans k5)
        have htk : L.take (j + 1) = L.take j ++ [x] := by rw [List.take_add_one, hxe]; rfl
        have HTK := Lib.hid htk
        have HM := Lib.hid hm
        have HFO := Lib.hid (show ∀ i, FootO B v i → w.heap.size ≤ i from fun i hi => HS.out.out.foot hi)
        clear hv2 hc hxe hz hs k5 hm hlay htk
        unfold LayP at HLAY
        by_cases hok : okC x
        case neg =>
          have HNO := Lib.hid (show ¬ okB L from fun q => hok (q.2 x HM.out))
          have HOKN := Lib.hid hok
          clear hok HS
          go_wp2_with (first
            | ((with_reducible refine wpList_isOp (.load 44 (.tmp 18)) rfl ?_); refine wpList_loading _ rfl 44 (.tmp 18) rfl (.agg (chC x)) ⟨b, o + j * 3, none⟩ rfl (by exact HLD.out) ?_)
            | ((with_reducible refine wpList_isOp (.alloc 44) rfl ?_); refine wpList_making _ w4 rfl 44 rfl (chC ch0) Hx (zero_ch _) (by exact HZ.out.sz) (by exact HZ.out.al) ?_)
            | ((with_reducible refine wpList_isOp (.store 44 (.tmp 6) (.tmp 19)) rfl ?_); refine wpList_storing _ w5 rfl 44 (.tmp 6) (.tmp 19) rfl (.agg (chC x)) ⟨Hx, 0, none⟩ rfl rfl (by exact HSX.out.st) ?_)
            | ((with_reducible refine wpList_isOp (.load 44 (.tmp 6)) rfl ?_); refine wpList_loading _ rfl 44 (.tmp 6) rfl (.agg (chC x)) ⟨Hx, 0, none⟩ rfl (by exact HLV.out) ?_)
            | fail)
          refine HLAY.out.mono ?_
          rintro e w6 ⟨E, rfl, k6, _, hE⟩
          have e1 : ¬ E = 0 := hE HOKN.out
          have HFIN := Lib.hid (enc_bad HNO.out e1 (HK5.out.new (k6.mono fun i _ hi => HFO.out i hi)))
          clear k6 hE HLAY
          go_wp2_with fail
          go_ret2
          exact HFIN.out
        case pos =>
          have HOK := Lib.hid hok
          clear hok
          go_wp2_with (first
            | ((with_reducible refine wpList_isOp (.load 44 (.tmp 18)) rfl ?_); refine wpList_loading _ rfl 44 (.tmp 18) rfl (.agg (chC x)) ⟨b, o + j * 3, none⟩ rfl (by exact HLD.out) ?_)
            | ((with_reducible refine wpList_isOp (.alloc 44) rfl ?_); refine wpList_making _ w4 rfl 44 rfl (chC ch0) Hx (zero_ch _) (by exact HZ.out.sz) (by exact HZ.out.al) ?_)
            | ((with_reducible refine wpList_isOp (.store 44 (.tmp 6) (.tmp 19)) rfl ?_); refine wpList_storing _ w5 rfl 44 (.tmp 6) (.tmp 19) rfl (.agg (chC x)) ⟨Hx, 0, none⟩ rfl rfl (by exact HSX.out.st) ?_)
            | ((with_reducible refine wpList_isOp (.load 44 (.tmp 6)) rfl ?_); refine wpList_loading _ rfl 44 (.tmp 6) rfl (.agg (chC x)) ⟨Hx, 0, none⟩ rfl (by exact HLV.out) ?_)
            | fail)
          refine HLAY.out.mono ?_
          rintro e w6 ⟨E, rfl, k6, hy, _⟩
          obtain ⟨rfl, v6, hl6⟩ := hy HOK.out
          have HS2 : Hid (EnSt w w6 B n L (j + 1) v6) := Lib.hid ⟨by
            rw [HTK.out, encL_snoc, ← List.append_assoc]
            exact hl6.out, fun y hy => by
            rw [HTK.out] at hy
            rcases List.mem_append.1 hy with q | q
            · exact HS.out.ok y q
            · rw [List.mem_singleton.1 q]; exact HOK.out, HK5.out.new (k6.mono fun i _ hi => HFO.out i hi)⟩
          clear k6 hy hl6 HLAY HS
          go_wp2_with fail
          go_roundw
          case rel => exact ⟨j + 1, v6, by omega, by go_num, HS2⟩
          case measure => simp [intOf]; omega
      · have hje : j = n := by omega
        have j1 : ¬ (j : Int) < (n : Int) := by omega
        have he : L.take j = L := by rw [hje, HN.out, List.take_length]
        have hout := HS.out.out
        have hlen := HS.out.len HL.out.1 HL.out.2
        rw [he] at hout hlen
        have e2 : Cod.digs n ++ encL L = encB L := by unfold encB; rw [HN.out]
        rw [e2] at hout hlen
        have HALL := Lib.hid (all_any _ B v (encB L) wr hout (by omega))
        have HOKB : Hid (okB L) := Lib.hid ⟨by have := H1.out; have := HN.out; omega, fun y hy => HS.out.ok y (by rw [he]; exact hy)⟩
        have HCH := Lib.hid HS.out.ch
        have HLE := Lib.hid hlen
        clear hje he hout hlen e2 HS
        go_wp2_with fail
        refine HALL.out.mono ?_
        rintro e w7 ⟨v7, rfl, ho7, k7⟩
        have hrow : RowV w7 v7 (encB L).length (Cod.litZ (encB L)) := ownsRow_rowV ho7 (by have := HLE.out; omega) fun c hc => by
          unfold Cod.litZ
          rw [List.getD, List.getElem?_eq_getElem hc]
          exact encB_b L _ (List.getElem_mem hc)
        have HFIN : Hid (EncP w L (.returned (.tuple #[v7, .int .i64 0])) w7) := Lib.hid ⟨v7, 0, rfl, ⟨_, _, hrow, by have := HLE.out; omega⟩, HCH.out.trans k7, fun _ => ⟨rfl, hrow⟩, fun q => absurd HOKB.out q⟩
        clear ho7 k7 hrow HALL
        go_wp2_with fail
        go_ret2
        exact HFIN.out
#print axioms benc_any
end Go.Proofs.Ytkpahhioiefcbaa
namespace Go.Proofs.Ytkpahhioiefcbaa
open Go.RowKit
set_option linter.unusedVariables false
set_option maxRecDepth 100000
set_option linter.unusedSimpArgs false
attribute [local go_sem] Oper.semAt_some wide_fn wide_depth

theorem cells_of {w : World} {p : Addr} {v : Value} (h : w.cell? p = some v) : ∃ c t f, w.heap[p.block]? = some (.cells c t f) := by
  unfold World.cell? at h
  split at h
  · rename_i c t f hc
    exact ⟨c, t, f, hc⟩
  · cases h
theorem RowV.putD {w w' : World} {D n : Nat} {v : Value} {z : Nat → Nat} (h : RowV w v n z) (k : Ch (fun i => i = D) w w') (hD : ∀ c t f, ¬ w.heap[D]? = some (.cells c t f)) : RowV w' v n z := h.off k fun b o m C e hb => by
  obtain ⟨A, C', e1, _, h3⟩ := h
  rw [e] at e1
  injection e1 with e1 e2 _
  obtain ⟨b', o', e4, hc⟩ := h3 (by omega)
  rw [← e1] at e4
  injection e4 with e4
  injection e4 with e5 e6
  obtain ⟨c, t, f, q⟩ := cells_of (hc 0 (by omega)).1
  rw [← e5, hb] at q
  exact hD c t f q
theorem EncP.putD {w W W' : World} {D : Nat} {L : List ChV} {e : Ending} (h : EncP w L e W) (k : Ch (fun i => i = D) W W') (hD : ∀ c t f, ¬ W.heap[D]? = some (.cells c t f)) (hw : w.heap.size ≤ D) : EncP w L e W' := by
  obtain ⟨v, E, h1, ⟨n, z, h2, h3⟩, h4, h5, h6⟩ := h
  exact ⟨v, E, h1, ⟨n, z, h2.putD k hD, h3⟩, h4.new (k.mono fun i _ e => by rw [e]; exact hw), fun q => ⟨(h5 q).1, (h5 q).2.putD k hD⟩, h6⟩
theorem EncP.low {w w0 W : World} {L : List ChV} {e : Ending} (h : EncP w L e W) (k : Ch (fun _ => False) w0 w) : EncP w0 L e W := by
  obtain ⟨v, E, h1, h2, h4, h5, h6⟩ := h
  exact ⟨v, E, h1, h2, k.trans h4, h5, h6⟩
theorem zipD (y : Kv) (t : Array Value) : ((#[9, 10] : Array Tmp).zip (encK y)).foldl (fun t (p, v) => t.setIfInBounds p v) t = (t.setIfInBounds 9 (.string y.1)).setIfInBounds 10 (.string y.2) := by
  simp [encK]
set_option maxHeartbeats 6400000 in
theorem bdump_any (t h : Nat) (L : List Kv) (w : World) (ht : TreeIs w t h L) (hl : L.length ≤ 10000) (hx : ∀ x ∈ L, x.1.size ≤ 10000 ∧ x.2.size ≤ 10000) (hL : (encL (L.map chK)).length ≤ 900000) :
    Calls Try.prog 19 #[.pointer (some ⟨t, 0, none⟩)] w (EncP w (L.map chK)) := by
  obtain ⟨w2, hw2⟩ : ∃ w2, w2 = w.alloc (.cells #[.slice none 0 0] 24) := ⟨_, rfl⟩
  obtain ⟨E, hE⟩ : ∃ E, E = w.heap.size := ⟨_, rfl⟩
  have hc2 : Ch (fun _ => False) w w2 := by rw [hw2]; exact (Ch.refl _ w).alloc _ _
  have hbE : w2.heap[E]? = some (.cells #[.slice none 0 0] 24 (0, 0)) := by rw [hw2, hE]; exact heap_alloc_new _ _
  have hlt : w.heap.size ≤ E := by rw [hE]; exact Nat.le_refl _
  have hfr := tfrom_any (some t) ⟨#[]⟩ w2
  unfold frF at hfr
  have HFR := Lib.hid hfr
  have HBE := Lib.hid hbE
  have HLT := Lib.hid hlt
  have HC2 := Lib.hid hc2
  have HT := Lib.hid (show TreeO w2 (some t) h L from ht.gr hc2)
  have HLE := Lib.hid (show (fromL L ⟨#[]⟩).length ≤ 10000 by rw [fromL_empty]; exact hl)
  have HXS := Lib.hid (And.intro hx hL)
  clear hfr hbE hlt hc2 ht hl hx hL
  refine (callsIn_wide (n := 9)).1 ?_
  refine callsIn_of_wp_marks Try.func19 rfl trivial ?_ rfl
  simp only [Try.ntmps19, List.size_toArray, List.length_cons, List.length_nil, Nat.reduceAdd, Nat.reduceSub, Array.replicate_succ, Array.replicate_zero, List.push_toArray, List.append_toArray, List.nil_append, List.cons_append]
  gi_upto_region 2 with fail
  rw [← hE, ← hw2]
  clear hE hw2
  gi_wp2_with (first
    | (refine (callsIn_wide.2 HFR.out).mono ?_; rintro e w3 ⟨Bt, Bk, rfl, q1, q2, q3, q4, q5⟩; have HQ := Lib.hid (And.intro q1 (And.intro q2 (And.intro q3 (And.intro q4 q5)))); clear q1 q2 q3 q4 q5)
    | fail)
  obtain ⟨q1, q2, q3, q4, q5⟩ := HQ.out
  have HT3 := Lib.hid (HT.out.gr q5)
  have HC3 := Lib.hid (HC2.out.trans q5)
  have HBT := Lib.hid (And.intro q1 q2)
  have HBE3 := Lib.hid ((q5.block E (blk_lt HBE.out) (fun f => f)).trans HBE.out)
  clear q1 q2 q3 q4 q5 HQ HFR HT HC2 HBE
  refine wpIn_rangeFunc_ownG (ps := #[9, 10]) rfl (by omega) (gf := 41) (lb := #[.pointer (some ⟨Bt, 0, none⟩), .pointer (some ⟨Bk, 0, none⟩)]) rfl trivial (enters_of Try.func41 (by kernel_rfl) rfl)
    (encs := encK) (Kp := KpT) (S := fun ys => ys = fromL L ⟨#[]⟩) (Sp := fun pre => pre <+: fromL L ⟨#[]⟩) (N := (fromL L ⟨#[]⟩).length) (w0 := w3)
    (fun l J Jx W hW hJ hJx hY h0 => from1_in 8 l Bt Bk h (some t) L ⟨#[]⟩ J Jx W hJ hY (HT3.out.below hW) ((hW.block Bt (blk_lt HBT.out.1)).trans HBT.out.1) ((hW.block Bk (blk_lt HBT.out.2)).trans HBT.out.2) h0)
    (fun h k => h.trans k) (fun W l o o' _ ho hc _ => KpT.put ho hc) (Below.refl _ _) (fun _ => rfl)
    (fun l W => AllI E w3 l W)
    (fun c l W => False) ?own ?ownX
    ⟨_, HBE3.out, FlO.start _ _ _, Ch.refl _ _⟩
    (fun y => { tmps := #[.pointer (some ⟨t, 0, none⟩), undef, .slice none 0 0, .int .i64 0, .pointer (some ⟨E, 0, none⟩), .string y.1, .string y.2, .pointer (some ⟨t, 0, none⟩), .func (.func 41) #[] #[.pointer (some ⟨Bt, 0, none⟩), .pointer (some ⟨Bk, 0, none⟩)], .string y.1, .string y.2, undef, undef, undef, undef, undef, undef, undef, undef, undef, undef], defers := [] }) ?assign ?body ?done ?stop
  case own =>
    rintro l W W' row hI hg hr
    exact hI.own hg (fun i e => (hr i e).2) (fun i e => (hr i e).1)
  case ownX =>
    rintro c l W W' row hI hg hr
    exact hI
  case stop =>
    rintro D c pre W hD hpre hI hK
    exact hI.elim
  case assign =>
    intro l y W K hK
    rw [zipD]
    simp only [List.setIfInBounds_toArray, List.set_cons_zero, List.set_cons_succ]
    gi_wp2
    exact hK
  case body =>
    rintro l pre y W ⟨v, q1, q2, q3⟩ hlen
    obtain ⟨g, cap, W2, hr, ho, hk, hg⟩ := FlO.app kdCk_ok (x := y) q2 (by have := HLE.out; omega) q3.size
    have hsl := fl_slice kdCk_ok W y
    have hne : ¬ v.ownBlock = some E := fun e => by
      obtain ⟨_, c, hc⟩ := own_at q2 e
      rw [q1] at hc
      injection hc with hc
      injection hc with _ hc _
      exact absurd hc (by decide)
    have he2 := (hk.block E (blk_lt q1) hne).trans q1
    obtain ⟨M, hM⟩ : ∃ M, M = pre.length + 1 := ⟨_, rfl⟩
    rw [← hM] at hr ho
    have hvs := var_set he2 (.slice (some ⟨g, 0, none⟩) M cap)
    have k1 : Ch (fun i => i = E) W2 (W2.setCell ⟨E, 0, none⟩ (.slice (some ⟨g, 0, none⟩) M cap)) := (Ch.refl (fun i => i = E) W2).setCell (p := ⟨E, 0, none⟩) (Or.inl rfl) _
    obtain ⟨W3, hW3⟩ : ∃ W3, W3 = W2.setCell ⟨E, 0, none⟩ (.slice (some ⟨g, 0, none⟩) M cap) := ⟨_, rfl⟩
    rw [← hW3] at hvs k1
    have hg2 : ¬ (Value.slice (some ⟨g, 0, none⟩) M cap).ownBlock = some E := fun e => by
      obtain ⟨_, c, hc⟩ := own_at ho e
      rw [he2] at hc
      injection hc with hc
      injection hc with _ hc _
      exact absurd hc (by decide)
    have hkk : Ch (fun i => v.ownBlock = some i ∨ i = E) W W3 := (hk.mono fun _ _ e => Or.inl e).trans (k1.mono fun _ _ e => Or.inr e)
    have HK1 := Lib.hid (keeps_cells (B := w3.heap.size) hkk fun i e => by
      rcases e with e | e
      · obtain ⟨_, c, hc⟩ := own_at q2 e
        exact Or.inr ⟨_, _, _, hc⟩
      · exact Or.inl (by rw [e]; exact blk_lt HBE3.out))
    have HK2 : Hid (KpT W W3) := Lib.hid (KpT.of hkk fun i c t f hi hc ht => by
      rcases hi with hi | hi
      · obtain ⟨_, c', hc'⟩ := own_at q2 hi
        rw [hc] at hc'
        injection hc' with hc'
        injection hc' with _ hc' _
        rw [hc'] at ht
        exact absurd ht (by unfold TTy; decide)
      · rw [hi, q1] at hc
        injection hc with hc
        injection hc with _ hc _
        rw [← hc] at ht
        exact absurd ht (by unfold TTy; decide))
    have HI : Hid (AllI E w3 (pre ++ [y]) W3) := Lib.hid ⟨_, hvs, ho.ch k1 fun i e x => hg2 (by rw [e, x]), ch_then q3 hkk fun i e => e.elim (fun q => Or.inr (q2.lo q).1) Or.inl⟩
    have c1 : W.cell? ⟨E, 0, none⟩ = some v := blk_cell q1
    have c2 : W2.cell? ⟨E, 0, none⟩ = some v := blk_cell he2
    have c3 : W2.frozen? ⟨E, 0, none⟩ = false := blk_frozen he2
    have HR := Lib.hid hr
    have HSL := Lib.hid hsl
    have HW3 := Lib.hid hW3
    clear hr ho hk hg hsl hne he2 hM hvs k1 hW3 hg2 hkk q1 q2 q3 hlen
    gi_upto_region 5 with fail
    refine wpIn_round_lit (by kernel_rfl) (fun ⟨_, _, h⟩ => h) ?_
    go_wp2_with (first
      | ((with_reducible refine wpList_isOp (.buildSlice 24 1 #[(0, .tmp 14)]) rfl ?_); refine wpList_sliceF _ _ rfl 24 0 1 (.tmp 14) rfl (.agg #[.string y.1, .string y.2, .bool false]) _ rfl (by exact HSL.out) ?_)
      | (at_builtin; refine wpList_appF 24 _ rfl (.tmp 11) (.tmp 15) rfl rfl _ _ (.slice (some ⟨g, 0, none⟩) M cap) W2 rfl rfl (by exact HR.out) ?_)
      | fail)
    rw [← HW3.out]
    gi_wp2
    exact ⟨HK1.out, HK2.out, HI.out⟩
  case done =>
    rintro D ys W hD hys ⟨v, q1, q2, q3⟩ hK
    rw [fromL_empty] at hys
    subst hys
    have c1 : W.cell? ⟨E, 0, none⟩ = some v := blk_cell q1
    obtain ⟨A, C, rfl⟩ := q2.len
    have hle := HLE.out
    rw [fromL_empty] at hle
    have henc := benc_any A C (ys.map chK) W ((q2.read kdCk_ok (by omega)).ck) (by rw [List.length_map]; exact hle) (fun x hx => by
      obtain ⟨p, hp, rfl⟩ := List.mem_map.1 hx
      exact HXS.out.1 p hp) HXS.out.2
    rw [List.length_map] at henc
    obtain ⟨n, hn⟩ : ∃ n, n = ys.length := ⟨_, rfl⟩
    rw [← hn] at henc c1
    have HENC := Lib.hid henc
    have HCW := Lib.hid (HC3.out.new (q3.mono fun i _ hi => by rw [hi]; exact HLT.out))
    have HDD := Lib.hid (And.intro hK (Nat.le_trans HC3.out.size hD))
    clear henc q1 q2 q3 hle hn
    gi_wp2_with (first
      | (refine (callsIn_wide.2 HENC.out).mono ?_; rintro e W4 hep; obtain ⟨v4, E4, rfl, h41, h42, h43⟩ := hep; have HEP := Lib.hid (show EncP W (ys.map chK) (.returned (.tuple #[v4, .int .i64 E4])) W4 from ⟨v4, E4, rfl, h41, h42, h43⟩); clear h41 h42 h43)
      | fail)
    have hd4 : W4.heap[D]? = some (.deferred (some [])) := by
      obtain ⟨_, _, _, _, k4, _⟩ := HEP.out
      exact (k4.block D (blk_lt HDD.out.1) (fun f => f)).trans HDD.out.1
    have kD : Ch (fun i => i = D) W4 (W4.putObj D (.deferred none)) := row_ch (grownBy_putObj' W4 D (.deferred none)) |>.mono fun i _ e => by injection e with e; exact e.symm
    refine ⟨by simp, .inl ⟨_, _, rfl, run_takeDeferred hd4, ?_⟩⟩
    refine ⟨.tuple #[v4, .int .i64 E4], (results_tmp2 rfl _ _ _).trans ?_, (HEP.out.low HCW.out).putD kD (fun c t f q => by rw [hd4] at q; cases q) HDD.out.2⟩
    rfl
#print axioms bdump_any
end Go.Proofs.Ytkpahhioiefcbaa
