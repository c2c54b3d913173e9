/-
  sup.each, body and Sector, walked.
-/
import Derived.Test.YtjdknebifcdicaaMg26
import Derived.Test.YtjdknebifcdicaaMg14
import Derived.Test.YtjdknebifcdicaaMg9
import Derived.BigRegion
import Derived.BigQuiet
namespace Go.Proofs.Ytjdknebifcdicaa
open Go.RowKit
set_option linter.unusedVariables false
set_option maxRecDepth 100000

/-! ### each -/
def ptrC (H : Nat) : Array Value := #[.pointer (some ⟨H, 3, none⟩), .pointer (some ⟨H, 4, none⟩), .pointer (some ⟨H, 5, none⟩), .pointer (some ⟨H, 6, none⟩), .pointer (some ⟨H, 7, none⟩), .pointer (some ⟨H, 8, none⟩), .pointer (some ⟨H, 9, none⟩), .pointer (some ⟨H, 10, none⟩), .pointer (some ⟨H, 11, none⟩)]
theorem ptr_cells (H : Nat) {c : Nat} (hc : c < 9) : (ptrC H)[c]? = some (.pointer (some ⟨H, 3 + c, none⟩)) := by
  match c, hc with
  | 0, _ => rfl
  | 1, _ => rfl
  | 2, _ => rfl
  | 3, _ => rfl
  | 4, _ => rfl
  | 5, _ => rfl
  | 6, _ => rfl
  | 7, _ => rfl
  | 8, _ => rfl
set_option maxHeartbeats 3200000 in
theorem seach_any (K : FuncId) (hK : K = 48 ∨ K = 57) (B H : Nat) (P : Nat → World → Prop) (w : World) (h0 : P 0 w) (hgr : ∀ j wr w', P j wr → Ch (fun _ => False) wr w' → P j w')
    (hstep : ∀ j, j < 9 → ∀ (wr : World) (G : Nat), P j wr → wr.heap[G]? = some (.cells (ptrC H) 96 (0, 0)) →
      Calls Try.prog K #[.pointer (some ⟨H, 3 + j, none⟩), .pointer (some ⟨B, 0, none⟩)] wr fun e w' => e = .returned (.tuple #[]) ∧ P (j + 1) w' ∧ w'.heap[G]? = wr.heap[G]?) :
    Calls Try.prog 47 #[.pointer (some ⟨H, 0, none⟩), .func (.func K) #[] #[.pointer (some ⟨B, 0, none⟩)]] w fun e w' => e = .returned (.tuple #[]) ∧ P 9 w' := by
  have HK := Lib.hid hK
  have HGR := Lib.hid hgr
  have HST := Lib.hid hstep
  have H0 := Lib.hid h0
  clear h0 hgr hstep hK
  go_enter Try.func47, Try.ntmps47
  go_wp2
  go_region_held3 (fun _ => True) (first | trivial) (first | (fail))
  obtain ⟨G, hG⟩ : ∃ G, G = w.heap.size := ⟨_, rfl⟩
  obtain ⟨w2, hw2⟩ : ∃ w2, w2 = (w.alloc (.cells (ptrC H) 96)).drew := ⟨_, rfl⟩
  have hc2 : Ch (fun _ => False) w w2 := by rw [hw2]; exact ((Ch.refl _ w).alloc _ _).drew
  have HG2 := Lib.hid (show w2.heap[G]? = some (.cells (ptrC H) 96 (0, 0)) by rw [hw2, hG]; exact heap_alloc_new w _)
  have HP2 := Lib.hid (HGR.out 0 w w2 H0.out hc2)
  unfold ptrC at hw2
  rw [← hw2, ← hG]
  clear hw2 hG hc2 H0
  go_wp2
  go_loopw [6, 39, 40, 41, 42, 43, 44, 45, 46] (fun _ i _ _ _ _ _ _ _ wr => ∃ k : Nat, k ≤ 9 ∧ i = .int .i64 k ∧ Hid (P k wr) ∧ Hid (wr.heap[G]? = some (.cells (ptrC H) 96 (0, 0)))) (fun _ i _ _ _ _ _ _ _ _ => 9 - (intOf i).toNat)
  case atStart => exact ⟨0, Nat.zero_le _, rfl, HP2, HG2⟩
  case round =>
    obtain ⟨k, hk, rfl, HP, HGR⟩ := hrel
    by_cases hlt : k < 9
    · have i1 : (0 : Int) ≤ (k : Int) := Int.natCast_nonneg _
      have i2 : (k : Int) < 9 := by omega
      have hcell : wr.cell? ⟨G, k, none⟩ = some (.pointer (some ⟨H, 3 + k, none⟩)) := by rw [blk_cell HGR.out]; exact ptr_cells H hlt
      have HS := Lib.hid (HST.out k hlt wr G HP.out HGR.out)
      have HLT := Lib.hid hlt
      clear hlt
      obtain ⟨o, ho⟩ : ∃ o, o = 3 + k := ⟨_, rfl⟩
      rw [← ho] at hcell HS
      clear ho
      rcases HK.out with rfl | rfl
      all_goals (
        go_wp2_with fail
        refine HS.out.mono ?_
        rintro e w3 ⟨rfl, hp, hg⟩
        have HP3 := Lib.hid hp
        have HG3 := Lib.hid (hg.trans HGR.out)
        clear hp hg hcell
        go_wp2
        go_roundw
        case rel => exact ⟨k + 1, HLT.out, by go_num, HP3, HG3⟩
        case measure => have := HLT.out; simp [intOf]; omega)
    · obtain rfl : k = 9 := by omega
      clear hlt hk
      rw [show ((9 : Nat) : Int) = 9 from rfl]
      go_wp2
      go_end0
      exact ⟨rfl, HP.out⟩
#print axioms seach_any

/-! ### the numbers are laid -/
set_option maxHeartbeats 400000 in
theorem lays_any (base B H o n : Nat) (v : Value) (L : List Nat) (w : World) (hn : n ≤ 9223372036854775807) (hc : w.cell? ⟨H, o, none⟩ = some (.int .i64 (n : Int))) (h : OutIs base w B v L) (hb : base ≤ w.heap.size) (hL : L.length ≤ 1000000) :
    Calls Try.prog 48 #[.pointer (some ⟨H, o, none⟩), .pointer (some ⟨B, 0, none⟩)] w (PutPost base B v (L ++ Cod.digs n) (.tuple #[]) w) := by
  have HO := Lib.hid (onum_any base B n v L w hn h hb hL)
  clear h
  go_enter Try.func48, Try.ntmps48
  go_wp2_with fail
  refine HO.out.mono ?_
  rintro e w2 ⟨rfl, h2⟩
  have H2 := Lib.hid h2
  clear h2 hc
  go_wp2
  go_end0
  exact ⟨rfl, H2.out⟩
#print axioms lays_any
/-- How the numbers of x, which stand in the variable H, are laid. -/
def LaysP (w : World) (B H : Nat) (x : Sp) (j : Nat) (wr : World) : Prop := wr.heap[H]? = some (.cells (supC x) 25 (0, 0)) ∧ ∃ v, OutIs w.heap.size wr B v (prefL x j) ∧ Ch (fun _ => False) w wr
theorem LaysP.gr {w : World} {B H : Nat} {x : Sp} (j : Nat) (wr w' : World) (h : LaysP w B H x j wr) (k : Ch (fun _ => False) wr w') : LaysP w B H x j w' := by
  obtain ⟨h1, v, h2, h3⟩ := h
  exact ⟨(k.block H (blk_lt h1) (fun f => f)).trans h1, v, h2.ch k (fun _ _ f => f), h3.trans k⟩
theorem foot_apart {base B j t : Nat} {w : World} {v : Value} {L : List Nat} {c : Array Value} (h : OutIs base w B v L) (hj : w.heap[j]? = some (.cells c t (0, 0))) (h1 : t ≠ 93) (h2 : t ≠ /-t-/5) : ¬ FootO B v j := fun f => by
  rcases f with rfl | f
  · exact cells_ne hj (show w.heap[j]? = _ from h.box) h1 rfl
  · obtain ⟨_, c2, hc2⟩ := own_at h.own f
    exact cells_ne hj hc2 h2 rfl
theorem numS_cell {w : World} {H : Nat} {x : Sp} (h : w.heap[H]? = some (.cells (supC x) 25 (0, 0))) {j : Nat} (hj : j < 9) : w.cell? ⟨H, 3 + j, none⟩ = some (.int .i64 (numS x j)) := by
  rw [blk_cell h]
  match j, hj with
  | 0, _ => rfl
  | 1, _ => rfl
  | 2, _ => rfl
  | 3, _ => rfl
  | 4, _ => rfl
  | 5, _ => rfl
  | 6, _ => rfl
  | 7, _ => rfl
  | 8, _ => rfl
theorem LaysP.step {w : World} {B H : Nat} {x : Sp} (hm : mayS x = true) {j : Nat} (hj : j < 9) (wr : World) (G : Nat) (h : LaysP w B H x j wr) (hG : wr.heap[G]? = some (.cells (ptrC H) 96 (0, 0))) :
    Calls Try.prog 48 #[.pointer (some ⟨H, 3 + j, none⟩), .pointer (some ⟨B, 0, none⟩)] wr fun e w' => e = .returned (.tuple #[]) ∧ LaysP w B H x (j + 1) w' ∧ w'.heap[G]? = wr.heap[G]? := by
  obtain ⟨h1, v, h2, h3⟩ := h
  have b := num_in hm j
  have hl := prefL_len hm j
  have hc := numS_cell h1 hj
  rw [show numS x j = (((numS x j).toNat : Nat) : Int) by omega] at hc
  refine (lays_any _ B H (3 + j) (numS x j).toNat v (prefL x j) wr (by omega) hc h2 h3.size (by omega)).mono ?_
  rintro e w' ⟨rfl, v', q1, q2, q3⟩
  rw [← prefL_snoc] at q1
  have aH : ¬ FootO B v H := foot_apart h2 h1 (by decide) (by decide)
  have aG : ¬ FootO B v G := foot_apart h2 hG (by decide) (by decide)
  exact ⟨rfl, ⟨(q3.block H (blk_lt h1) aH).trans h1, v', q1, h3.new (q3.mono fun i _ hi => h2.foot hi)⟩, q3.block G (blk_lt hG) aG⟩
set_option maxHeartbeats 800000 in
theorem sbody_any (x : Sp) (hm : mayS x = true) (w : World) : Calls Try.prog 27 #[.agg (supC x)] w (NewL (bodyL x).length (Cod.litZ (bodyL x)) w) := by
  obtain ⟨w1, H, hR⟩ := boxR w (supC x) 25
  obtain ⟨w2, hw2⟩ : ∃ w2, w2 = w1.alloc (.cells #[.slice none 0 0] 93) := ⟨_, rfl⟩
  obtain ⟨B, hB⟩ : ∃ B, B = w1.heap.size := ⟨_, rfl⟩
  have hc12 : Ch (fun _ => False) w1 w2 := by rw [hw2]; exact (Ch.refl _ w1).alloc _ _
  have hP : LaysP w B H x 0 w2 := ⟨(hc12.block H (blk_lt hR.cx) (fun f => f)).trans hR.cx, _, by rw [hw2, hB]; exact nil_out w.heap.size w1 hR.ch.size, hR.ch.trans hc12⟩
  have HE := Lib.hid (seach_any 48 (Or.inl rfl) B H (LaysP w B H x) w2 hP LaysP.gr (fun j hj wr G h hG => h.step hm hj wr G hG))
  have HL := Lib.hid (body_len hm)
  have HR := Lib.hid hR
  clear hR hc12 hP hm
  go_enter Try.func27, Try.ntmps27
  go_wp2_with ((with_reducible refine wpList_isOp (.box 25 (.tmp 0)) rfl ?_); refine wpList_boxing _ w1 rfl 25 (.tmp 0) rfl (supC x) H rfl (by exact HR.out.sz) (by exact HR.out.al) ?_)
  rw [← hw2, ← hB]
  clear hw2 hB
  refine HE.out.mono ?_
  rintro e w3 ⟨rfl, hp⟩
  obtain ⟨_, v, h2, h3⟩ := hp
  have HO := Lib.hid (all_any _ B v _ w3 h2 (by have := HL.out; unfold bodyL at this; omega))
  have HC := Lib.hid h3
  clear h2 h3
  go_wp2_with fail
  refine HO.out.mono ?_
  rintro e w4 ⟨r, rfl, q1, q2⟩
  have HQ := Lib.hid q1
  have HC4 := Lib.hid (HC.out.trans q2)
  clear q1 q2
  go_wp2
  go_ret
  obtain ⟨q0, q⟩ := HQ.out
  exact ⟨r, rfl, ⟨q0, q.elim Or.inl fun ⟨g, cap, cur, q1, q2, q3⟩ => Or.inr ⟨g, cap, cur, q1, Nat.le_trans HC.out.size q2, q3⟩⟩, HC4.out⟩
#print axioms sbody_any

/-! ### Sector -/
theorem not_may {x : Sp} {i : Int} (h : mayS x = false) : sokB x i = false := by unfold sokB; rw [h]; rfl
theorem not_place {x : Sp} {i : Int} (h : placeB i = false) : sokB x i = false := by unfold sokB; rw [h, Bool.and_false]
theorem supB_is {w : World} {x : Sp} {i : Int} {V : Value} (h : sokB x i = true) (hr : RowV w V (bodyL x).length (Cod.litZ (bodyL x))) : BkIs w (supB x i V) := by
  obtain ⟨h1, h2, h3⟩ := sokB_iff.1 h
  have m := mayS_iff.1 h1
  have m1 := m.vol
  have m2 := m.ep
  have m3 := m.gen
  refine ⟨?_, ?_, ?_, ?_, ?_, hr⟩
  · show N64 2; unfold N64; omega
  · show N64 x.vol; unfold N64; omega
  · show N64 i; unfold N64; omega
  · show N64 x.ep; unfold N64; omega
  · show N64 x.gen; unfold N64; omega
set_option maxHeartbeats 3200000 in
theorem ssector_any (x : Sp) (i : Int) (w : World) : Calls Try.prog 9 #[.agg (supC x), .int .i64 i] w (SecPost x i w) := by
  obtain ⟨w1, H, hR⟩ := boxR w (supC x) 25
  have HL := Lib.hid (load_su hR.cx)
  have HX := Lib.hid (su_x hR.cx)
  have HM := Lib.hid (smay_any x w1)
  have HR := Lib.hid hR
  clear hR
  cases hm : mayS x
  · have HN := Lib.hid (not_may (i := i) hm)
    rw [hm] at HM
    clear hm
    go_enter Try.func9, Try.ntmps9
    go_wp2_with (first | ((with_reducible refine wpList_isOp (.box 25 (.tmp 0)) rfl ?_); refine wpList_boxing _ w1 rfl 25 (.tmp 0) rfl (supC x) H rfl (by exact HR.out.sz) (by exact HR.out.al) ?_) | ((with_reducible refine wpList_isOp (.load 25 (.tmp 2)) rfl ?_); refine wpList_loading _ rfl 25 (.tmp 2) rfl (.agg (supC x)) ⟨H, 0, none⟩ rfl (by exact HL.out) ?_) | (go_at_call 14; refine HM.out.mono ?_; rintro e w2 ⟨rfl, hc2⟩))
    go_ret2
    exact secPost_no HN.out (HR.out.ch.trans hc2)
  cases hp : placeB i
  · have HN := Lib.hid (not_place (x := x) hp)
    have HQ := Lib.hid (show inB i 0 3 = false from hp)
    rw [hm] at HM
    clear hm hp
    go_enter Try.func9, Try.ntmps9
    go_wp2_with (first | ((with_reducible refine wpList_isOp (.box 25 (.tmp 0)) rfl ?_); refine wpList_boxing _ w1 rfl 25 (.tmp 0) rfl (supC x) H rfl (by exact HR.out.sz) (by exact HR.out.al) ?_) | ((with_reducible refine wpList_isOp (.load 25 (.tmp 2)) rfl ?_); refine wpList_loading _ rfl 25 (.tmp 2) rfl (.agg (supC x)) ⟨H, 0, none⟩ rfl (by exact HL.out) ?_) | (go_at_call 14; refine HM.out.mono ?_; rintro e w2 ⟨rfl, hc2⟩) | (go_at_call 25; refine (swithin_any _ _ _ _).mono ?_; rintro e w' ⟨rfl, rfl⟩; rw [HQ.out]))
    go_ret2
    exact secPost_no HN.out (HR.out.ch.trans hc2)
  have HN := Lib.hid (show sokB x i = true by unfold sokB; rw [hm, hp]; rfl)
  have HQ := Lib.hid (show inB i 0 3 = true from hp)
  have HB := Lib.hid (fun w => sbody_any x hm w)
  have HBL := Lib.hid (body_len hm)
  rw [hm] at HM
  clear hm hp
  go_enter Try.func9, Try.ntmps9
  go_wp2_with (first | ((with_reducible refine wpList_isOp (.box 25 (.tmp 0)) rfl ?_); refine wpList_boxing _ w1 rfl 25 (.tmp 0) rfl (supC x) H rfl (by exact HR.out.sz) (by exact HR.out.al) ?_) | ((with_reducible refine wpList_isOp (.load 25 (.tmp 2)) rfl ?_); refine wpList_loading _ rfl 25 (.tmp 2) rfl (.agg (supC x)) ⟨H, 0, none⟩ rfl (by exact HL.out) ?_) | (go_at_call 14; refine HM.out.mono ?_; rintro e w2 ⟨rfl, hc2⟩; have HX2 := Lib.hid (HX.out.gr hc2)) | (go_at_call 25; refine (swithin_any _ _ _ _).mono ?_; rintro e w' ⟨rfl, rfl⟩; rw [HQ.out]))
  obtain ⟨x0, x1, x2, x3, x4, x5, x6, x7, x8, x9, x10, x11⟩ := HX2.out
  go_region_held3 (fun w' => w'.cell? ⟨H, 0, none⟩ = some (.int .i64 (x).vol) ∧ w'.cell? ⟨H, 1, none⟩ = some (.int .i64 (x).gen) ∧ w'.cell? ⟨H, 2, none⟩ = some (.int .i64 (x).ep) ∧ w'.cell? ⟨H, 3, none⟩ = some (.int .i64 (x).area) ∧ w'.cell? ⟨H, 4, none⟩ = some (.int .i64 (x).snap) ∧ w'.cell? ⟨H, 5, none⟩ = some (.int .i64 (x).long) ∧ w'.cell? ⟨H, 6, none⟩ = some (.int .i64 (x).start) ∧ w'.cell? ⟨H, 7, none⟩ = some (.int .i64 (x).chain) ∧ w'.cell? ⟨H, 8, none⟩ = some (.int .i64 (x).g.wal) ∧ w'.cell? ⟨H, 9, none⟩ = some (.int .i64 (x).g.st) ∧ w'.cell? ⟨H, 10, none⟩ = some (.int .i64 (x).g.k) ∧ w'.cell? ⟨H, 11, none⟩ = some (.int .i64 (x).g.m)) (first | exact kb | exact ka | go_keep)
    (first
      | (go_at_call 27; refine (HB.out _).mono ?_; rintro e w3 ⟨v, rfl, q1, q2⟩; have ka := (HX2.out.drew.gr q2).all; obtain ⟨A, C, rfl⟩ := own_slice q1; have HK := Lib.hid (supB_is (i := i) HN.out (ownsRow_rowV q1 (by have := HBL.out; omega) (fun c _ => Cod.litZ_b (prefL_b x 9) c))); have HC3 := Lib.hid q2; clear q1)
      | (go_at_call 26; refine (bseal_any (supB x i (.slice A (bodyL x).length C)) A C _ rfl HK.out).mono ?_; rintro e w4 hq; obtain ⟨A4, C4, rfl, q3, q4⟩ := hq; have kb := ((HX2.out.drew.gr HC3.out).gr q4).all))
  go_wp2
  go_ret2
  exact secPost_yes (V := .slice A (bodyL x).length C) HN.out (((HR.out.ch.trans hc2).drew).trans HC3.out) ⟨A4, C4, rfl, q3, q4⟩
#print axioms ssector_any
end Go.Proofs.Ytjdknebifcdicaa
