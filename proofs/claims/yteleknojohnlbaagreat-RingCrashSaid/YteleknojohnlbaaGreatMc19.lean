/-
  code.NewIn and (*code.In).rest, Left, get, Num, Int and Bytes, walked. The document's run, halves, GetNum and GetInt (quartermasterref05), walked. The document's GetNum and GetInt (quartermasterref05), walked. geo.within, shares, firstShare, firstStripeGroup, end, May, Sectors, Room, Groups, walked. What a sector opens to, told by its bytes alone; digits of words; an Out apart from other blocks. (Cut out of sup's texts.).
-/
import Derived.Test.YteleknojohnlbaaGreatMc18
import Derived.Test.YteleknojohnlbaaGreatMc2
import Derived.Test.YteleknojohnlbaaGreatMc1
import Derived.Test.YteleknojohnlbaaGreatMc15
import Derived.Test.YteleknojohnlbaaGreatMc17
namespace Go.Proofs.YteleknojohnlbaaGreat
open Go.RowKit Go.Shelf Cod
set_option linter.unusedVariables false
set_option maxRecDepth 100000
def NN (x : Value) : Prop := (∀ m C, x = .slice none m C → C = 0) ∧ ∀ ad m C, x = .slice (some ad) m C → ∃ b o, ad = ⟨b, o, none⟩
theorem nn_none : NN (.slice none 0 0) := ⟨fun m C e => by injection e with _ _ e; exact e.symm, fun ad m C e => by cases e⟩
theorem nn_some (b o m C : Nat) : NN (.slice (some ⟨b, o, none⟩) m C) := ⟨fun m C e => (by cases e), fun ad m C e => by injection e with e _ _; injection e with e; exact ⟨b, o, e.symm⟩⟩
structure InIs (w : World) (B : Nat) (x : Value) (n : Nat) (z : Nat → Nat) : Prop where
  box : Boxed w B 172 x
  row : RowV w x n z
  nn : NN x
theorem InIs.cell {w : World} {B n : Nat} {x : Value} {z : Nat → Nat} (h : InIs w B x n z) : w.cell? ⟨B, 0, none⟩ = some x := h.box.cell
theorem boxed_far {w : World} {B t o : Nat} {x : Value} (h : Boxed w B t x) (ho : 0 < o) : w.cell? ⟨B, o, none⟩ = none := by
  unfold World.cell?
  rw [show w.heap[B]? = _ from h]
  simp
  omega
theorem InIs.off {w : World} {B n : Nat} {x : Value} {z : Nat → Nat} (h : InIs w B x n z) : Off (fun i => i = B) x := fun b o m C e hb => by
  subst hb
  obtain ⟨A, D, e1, _, h3⟩ := h.row
  rw [e] at e1
  injection e1 with e1 e2 _
  obtain ⟨b', o', e4, hc⟩ := h3 (by omega)
  rw [← e1] at e4
  injection e4 with e4
  injection e4 with e5 e6
  subst e5
  subst e6
  have h1 := (hc 0 (by omega)).1
  rw [Nat.add_zero] at h1
  rcases Nat.eq_zero_or_pos o with rfl | q
  · rw [h.cell, e] at h1
    cases h1
  · rw [boxed_far h.box q] at h1
    cases h1
theorem InIs.ch {w w' : World} {B n : Nat} {x : Value} {z : Nat → Nat} {S : Nat → Prop} (h : InIs w B x n z) (k : Ch S w w') (hB : ¬ S B) (ho : Off S x) : InIs w' B x n z :=
  ⟨(k.block B h.box.lt hB).trans h.box, h.row.off k ho, h.nn⟩
theorem InIs.gr {w w' : World} {B n : Nat} {x : Value} {z : Nat → Nat} (h : InIs w B x n z) (k : Ch (fun _ => False) w w') : InIs w' B x n z := h.ch k (fun f => f) (fun _ _ _ _ _ f => f)
theorem InIs.congr {w : World} {B n m : Nat} {x : Value} {z y : Nat → Nat} (h : InIs w B x n z) (e : n = m) (he : ∀ i, i < n → z i = y i) : InIs w B x m y := by
  subst e
  exact ⟨h.box, h.row.congr he, h.nn⟩
theorem owns_nn {w : World} {base k : Nat} {v : Value} {xs : List Value} (h : w.ownsRow base /-t-/5 1 v k xs) : NN v := by
  rcases h.2 with ⟨rfl, _⟩ | ⟨g, cap, cur, rfl, _⟩
  · exact nn_none
  · exact nn_some _ _ _ _
set_option maxHeartbeats 400000 in
theorem rest_any (B : Nat) (A : Option Addr) (n C : Nat) (w : World) (h : w.cell? ⟨B, 0, none⟩ = some (.slice A n C)) : Calls Tryz.prog 121 #[.pointer (some ⟨B, 0, none⟩)] w fun e w' => e = .returned (.slice A n C) ∧ w = w' := by
  go_enter Tryz.func121, Tryz.ntmps121
  go_wp2
  go_ret
  exact ⟨rfl, rfl⟩
set_option maxHeartbeats 400000 in
theorem left_any (B n : Nat) (x : Value) (z : Nat → Nat) (w : World) (h : InIs w B x n z) : Calls Tryz.prog 122 #[.pointer (some ⟨B, 0, none⟩)] w fun e w' => e = .returned (.int .i64 (n : Int)) ∧ w = w' := by
  obtain ⟨A, C, rfl, hl, _⟩ := id h.row
  have H := Lib.hid h.cell
  clear h hl
  go_enter Tryz.func122, Tryz.ntmps122
  go_wp2_with fail
  refine (rest_any B A n C _ H.out).mono ?_
  rintro e w' ⟨rfl, rfl⟩
  go_wp2
  go_ret
  exact ⟨rfl, rfl⟩
set_option maxHeartbeats 400000 in
theorem newIn_any (A : Option Addr) (n C : Nat) (z : Nat → Nat) (w : World) (h : RowV w (.slice A n C) n z) (hn : n ≤ 1048576) : Calls Tryz.prog 83 #[.slice A n C] w fun e w' => ∃ B x, e = .returned (.pointer (some ⟨B, 0, none⟩)) ∧ InIs w' B x n z ∧ w.heap.size ≤ B ∧ Ch (fun _ => False) w w' := by
  have HR := Lib.hid (clone_any A n C z w h hn)
  have HB := Lib.hid h.bytes
  clear h
  go_enter Tryz.func83, Tryz.ntmps83
  go_wp2_with fail
  refine HR.out.mono ?_
  rintro e w1 ⟨x, rfl, h1, h2⟩
  have hr := ownsRow_rowV h1 (by omega) HB.out
  obtain ⟨A1, C1, rfl, _⟩ := id hr
  have H1 := Lib.hid hr
  have H2 := Lib.hid h2
  have H3 := Lib.hid (owns_nn h1)
  clear h1 h2 hr
  go_wp2
  go_ret
  exact ⟨_, _, rfl, ⟨Boxed.new _ _ _, H1.out.gr ((Ch.refl _ _).alloc _ _), H3.out⟩, H2.out.size, H2.out.alloc _ _⟩
theorem Ch.toS {w w1 : World} {p : Addr} {B : Nat} (h : Ch (fun _ => False) w w1) (hp : p.block = B) (v : Value) : Ch (fun i => i = B) w (w1.setCell p v) := (h.mono (fun _ _ f => f.elim)).setCell (Or.inl hp) v
theorem Ch.toN {S : Nat → Prop} {w w1 : World} (h : Ch (fun _ => False) w w1) : Ch S w w1 := h.mono (fun _ _ f => f.elim)
theorem set_ch (w : World) (B : Nat) (v : Value) : Ch (fun i => i = B) w (w.setCell ⟨B, 0, none⟩ v) := Ch.setCell (S := fun i => i = B) (Ch.refl _ w) (p := ⟨B, 0, none⟩) (Or.inl rfl) v
theorem off_of {b B o n C : Nat} (h : ¬ b = B) : Off (fun i => i = B) (.slice (some ⟨b, o, none⟩) n C) := fun b' o' m C' e hb => by
  injection e with e _ _
  injection e with e
  injection e with e _
  omega
theorem none_row (w : World) (A : Option Addr) (z : Nat → Nat) : RowV w (.slice A 0 0) 0 z := ⟨A, 0, rfl, by omega, fun h => absurd h (Nat.lt_irrefl 0)⟩
theorem resV_le (top : Nat) (z : Nat → Nat) (k e : Nat) : resV top z k e ≤ top := by
  unfold resV
  split
  · split
    · assumption
    · exact Nat.zero_le _
  · exact Nat.zero_le _
theorem resE_cases (top : Nat) (z : Nat → Nat) (k e : Nat) : (resE top z k e = 0 ∧ e = 0 ∧ resK top z k e = k ∧ resV top z k e = val z k) ∨ (¬ resE top z k e = 0 ∧ resK top z k e = 0 ∧ resV top z k e = 0) := by
  by_cases he : e = 0
  · by_cases h : val z k ≤ top
    · obtain ⟨h1, h2, h3⟩ := res_ok (k := k) he h
      exact Or.inl ⟨h3, he, h2, h1⟩
    · obtain ⟨h1, h2, h3⟩ := res_bad (k := k) (Or.inr ⟨he, (by omega : top < val z k)⟩)
      exact Or.inr ⟨by rw [h3]; decide, h2, h1⟩
  · right
    unfold resE resK resV
    rw [if_neg he, if_neg he, if_neg he]
    exact ⟨he, rfl, rfl⟩
def GetPost (B n : Nat) (x : Value) (z : Nat → Nat) (k : Nat) (r : Value) (w : World) (e : Ending) (w' : World) : Prop :=
  e = .returned r ∧ ∃ x', InIs w' B x' (n - k) (fun i => z (k + i)) ∧ (∀ S, Off S x → Off S x') ∧ Ch (fun i => i = B) w w'
theorem Off.part {S : Nat → Prop} {b o n C p m D : Nat} (h : Off S (.slice (some ⟨b, o, none⟩) n C)) (hn : 0 < n) : Off S (.slice (some ⟨b, p, none⟩) m D) := fun b' o' m' C' e hb => by
  injection e with e _ _
  injection e with e
  injection e with e _
  subst e
  exact h.at hn hb
theorem Off.zero {S : Nat → Prop} {A : Option Addr} {C : Nat} : Off S (.slice A 0 C) := fun b' o' m' C' e hb => by cases e
set_option maxHeartbeats 1000000 in
theorem get_any (B n : Nat) (x : Value) (z : Nat → Nat) (top k e : Nat) (w : World) (h : InIs w B x n z) (ht : 9223372036854775807 ≤ top) (ht2 : top < 18446744073709551616) (hr : Rd n z k e) :
    Calls Tryz.prog 120 #[.pointer (some ⟨B, 0, none⟩), .int .u64 (top : Int)] w (GetPost B n x z (resK top z k e) (.tuple #[.int .u64 (resV top z k e : Int), .int .i64 (resE top z k e : Int)]) w) := by
  obtain ⟨A, C, rfl, hl, h3⟩ := id h.row
  have HN := Lib.hid (number_any A n C z top k e w h.row ht ht2 hr)
  have HC := Lib.hid h.cell
  have HH := Lib.hid h
  rcases resE_cases top z k e with ⟨e1, e2, e3, e4⟩ | ⟨e1, e3, e4⟩
  · subst e2
    obtain ⟨hk0, hkn, _⟩ := rd_ok_short hr
    rw [e1, e3, e4] at HN ⊢
    obtain ⟨b, o, rfl, _⟩ := h3 (by omega)
    have hl1 := hl.1
    have hl2 := hl.2
    have HT := Lib.hid (row_tail h.row hkn)
    have e5 : ((n - k : Nat) : Int) = (n : Int) - (k : Int) := by omega
    have e6 : ((C - k : Nat) : Int) = (C : Int) - (k : Int) := by omega
    have hb := h.off.at (by omega)
    clear h h3 hl ht ht2 hr e1 e3 e4
    by_cases hC : C = k
    · subst hC
      obtain rfl : n = C := by omega
      go_enter Tryz.func120, Tryz.ntmps120
      go_wp2_with fail
      refine (rest_any B _ n n _ HC.out).mono ?_
      rintro e w' ⟨rfl, rfl⟩
      go_wp2_with fail
      refine HN.out.mono ?_
      rintro e w1 ⟨rfl, hch⟩
      have hI := HH.out.gr hch
      have c1 := hI.box.cell
      have f1 := hI.box.frozen
      have HI := Lib.hid hI
      have HCH := Lib.hid hch
      clear hI hch
      go_wp2
      go_ret2
      refine ⟨rfl, .slice (some ⟨b, o, none⟩) 0 0, ?_, fun S _ => Off.zero, HCH.out.toS (p := ⟨B, 0, none⟩) rfl _⟩
      rw [Nat.sub_self]
      exact ⟨HI.out.box.set _, none_row _ _ _, nn_some _ _ _ _⟩
    · have t1 : (C : Int) - (k : Int) ≠ 0 := by omega
      go_enter Tryz.func120, Tryz.ntmps120
      go_wp2_with fail
      refine (rest_any B _ n C _ HC.out).mono ?_
      rintro e w' ⟨rfl, rfl⟩
      go_wp2_with fail
      refine HN.out.mono ?_
      rintro e w1 ⟨rfl, hch⟩
      have hI := HH.out.gr hch
      have c1 := hI.box.cell
      have f1 := hI.box.frozen
      have HI := Lib.hid hI
      have HCH := Lib.hid hch
      clear hI hch
      go_wp2
      go_ret2
      refine ⟨rfl, .slice (some ⟨b, o + k, none⟩) (n - k) (C - k), ?_, fun S h => h.part (by omega), HCH.out.toS (p := ⟨B, 0, none⟩) rfl _⟩
      exact ⟨HI.out.box.set _, (HT.out.gr HCH.out).off (set_ch w1 B _) (off_of hb), nn_some _ _ _ _⟩
  · have t1 : ((resE top z k e : Int) != 0) = true := by simpa using e1
    rw [e3, e4] at HN ⊢
    have hl1 := hl.1
    clear h h3 hl ht ht2 hr e1 e3 e4
    go_enter Tryz.func120, Tryz.ntmps120
    go_wp2_with fail
    refine (rest_any B _ n C _ HC.out).mono ?_
    rintro e' w' ⟨rfl, rfl⟩
    go_wp2_with fail
    refine HN.out.mono ?_
    rintro e' w1 ⟨rfl, hch⟩
    have HI := Lib.hid (HH.out.gr hch)
    have HCH := Lib.hid hch
    clear hch
    go_wp2
    go_ret2
    exact ⟨rfl, _, HI.out.congr (by omega) (fun i _ => by rw [Nat.zero_add]), fun S h => h, HCH.out.toN⟩
def T63 : Nat := 9223372036854775807
set_option maxHeartbeats 400000 in
theorem inum_any (B n : Nat) (x : Value) (z : Nat → Nat) (k e : Nat) (w : World) (h : InIs w B x n z) (hr : Rd n z k e) :
    Calls Tryz.prog 84 #[.pointer (some ⟨B, 0, none⟩)] w (GetPost B n x z (resK T63 z k e) (.tuple #[.int .i64 (resV T63 z k e : Int), .int .i64 (resE T63 z k e : Int)]) w) := by
  have HN := Lib.hid (show Calls Tryz.prog 120 #[.pointer (some ⟨B, 0, none⟩), .int .u64 9223372036854775807] w _ from get_any B n x z T63 k e w h (by decide) (by decide) hr)
  have hv : (resV T63 z k e : Int) ≤ 9223372036854775807 := by have := resV_le T63 z k e; unfold T63 at this; unfold T63; omega
  obtain ⟨V, hV⟩ : ∃ V, V = resV T63 z k e := ⟨_, rfl⟩
  obtain ⟨E, hE⟩ : ∃ V, V = resE T63 z k e := ⟨_, rfl⟩
  rw [← hV, ← hE] at HN ⊢
  rw [← hV] at hv
  clear hV hE h hr
  go_enter Tryz.func84, Tryz.ntmps84
  go_wp2_with fail
  refine HN.out.mono ?_
  rintro e' w1 ⟨rfl, hch⟩
  have HC := Lib.hid hch
  clear hch
  go_wp2
  go_ret2
  exact ⟨rfl, HC.out⟩
end Go.Proofs.YteleknojohnlbaaGreat
namespace Go.Proofs.YteleknojohnlbaaGreat
open Go.RowKit Go.Shelf Cod
set_option linter.unusedVariables false
set_option maxRecDepth 100000
end Go.Proofs.YteleknojohnlbaaGreat
namespace Go.Proofs.YteleknojohnlbaaGreat
open Go.RowKit Go.Shelf Cod
set_option linter.unusedVariables false
set_option maxRecDepth 100000
end Go.Proofs.YteleknojohnlbaaGreat
namespace Go.Proofs.YteleknojohnlbaaGreat
open Go.RowKit
set_option linter.unusedVariables false
set_option maxRecDepth 100000
set_option maxHeartbeats 400000 in
theorem within_any (n a b : Int) (w : World) : Calls Tryz.prog 69 #[.int .i64 n, .int .i64 a, .int .i64 b] w fun e w' => e = .returned (.bool (inB n a b)) ∧ w = w' := by
  by_cases h1 : a ≤ n
  · by_cases h2 : n ≤ b
    · have HE := Lib.hid (show inB n a b = true from inB_true.2 ⟨h1, h2⟩)
      have t1 : decide (a ≤ n) = true := decide_eq_true h1
      have t2 : decide (n ≤ b) = true := decide_eq_true h2
      clear h1 h2
      go_enter Tryz.func69, Tryz.ntmps69
      go_wp2
      go_ret
      exact ⟨ret_bool HE.out.symm, rfl⟩
    · have HE := Lib.hid (show inB n a b = false from decide_eq_false fun q => h2 q.2)
      have t1 : decide (a ≤ n) = true := decide_eq_true h1
      have t2 : decide (n ≤ b) = false := decide_eq_false h2
      clear h1 h2
      go_enter Tryz.func69, Tryz.ntmps69
      go_wp2
      go_ret
      exact ⟨ret_bool HE.out.symm, rfl⟩
  · have HE := Lib.hid (show inB n a b = false from decide_eq_false fun q => h1 q.1)
    have t1 : decide (a ≤ n) = false := decide_eq_false h1
    clear h1
    go_enter Tryz.func69, Tryz.ntmps69
    go_wp2
    go_ret
    exact ⟨ret_bool HE.out.symm, rfl⟩
theorem GeX.all {w : World} {H : Nat} {g : Ge} (h : GeX w H g) : w.cell? ⟨H, 0, none⟩ = some (.int .i64 g.wal) ∧ w.cell? ⟨H, 1, none⟩ = some (.int .i64 g.st) ∧ w.cell? ⟨H, 2, none⟩ = some (.int .i64 g.k) ∧ w.cell? ⟨H, 3, none⟩ = some (.int .i64 g.m) := ⟨h.x0, h.x1, h.x2, h.x3⟩
theorem wrapI_in {x : Int} (h1 : -9223372036854775808 ≤ x) (h2 : x ≤ 9223372036854775807) : IntKind.i64.wrap x = x := by rw [IntKind.wrap_i64]; omega
section
variable (n : Gn) (h : n.Ok) (w : World)
include h
set_option maxHeartbeats 400000 in
theorem shares_any : Calls Tryz.prog 112 #[.agg (geC n.ge)] w (Ans (.int .i64 (n.q : Int)) w) := by
  obtain ⟨w1, H, hR⟩ := geR w n.ge
  obtain ⟨k, hk⟩ : ∃ k, k = n.K := ⟨_, rfl⟩
  obtain ⟨m, hm⟩ : ∃ m, m = n.M := ⟨_, rfl⟩
  have x2 : w1.cell? ⟨H, 2, none⟩ = some (.int .i64 (k : Int)) := by rw [hk]; exact hR.x.x2
  have x3 : w1.cell? ⟨H, 3, none⟩ = some (.int .i64 (m : Int)) := by rw [hm]; exact hR.x.x3
  have b1 : k ≤ 16 := by rw [hk]; exact h.k2
  have b2 : m ≤ 8 := by rw [hm]; exact h.m2
  have HE := Lib.hid (show (k : Int) + (m : Int) = (n.q : Int) by rw [hk, hm]; unfold Gn.q; omega)
  have HR := Lib.hid hR
  clear hR hk hm h
  go_enter Tryz.func112, Tryz.ntmps112
  go_wp2_with ((with_reducible refine wpList_isOp (.box 23 (.tmp 0)) rfl ?_); refine wpList_boxing _ w1 rfl 23 (.tmp 0) rfl (geC n.ge) H rfl (by exact HR.out.sz) (by exact HR.out.al) ?_)
  go_ret
  exact ⟨ret_int HE.out, HR.out.ch⟩
set_option maxHeartbeats 400000 in
theorem firstShare_any : Calls Tryz.prog 111 #[.agg (geC n.ge)] w (Ans (.int .i64 (n.fs : Int)) w) := by
  obtain ⟨w1, H, hR⟩ := geR w n.ge
  obtain ⟨k, hk⟩ : ∃ k, k = n.W := ⟨_, rfl⟩
  have x0 : w1.cell? ⟨H, 0, none⟩ = some (.int .i64 (k : Int)) := by rw [hk]; exact hR.x.x0
  have b1 : k ≤ 512 := by rw [hk]; exact h.w2
  have HE := Lib.hid (show 4 + 2 * (k : Int) = (n.fs : Int) by rw [hk]; unfold Gn.fs; omega)
  have HR := Lib.hid hR
  clear hR hk h
  go_enter Tryz.func111, Tryz.ntmps111
  go_wp2_with ((with_reducible refine wpList_isOp (.box 23 (.tmp 0)) rfl ?_); refine wpList_boxing _ w1 rfl 23 (.tmp 0) rfl (geC n.ge) H rfl (by exact HR.out.sz) (by exact HR.out.al) ?_)
  go_ret
  exact ⟨ret_int HE.out, HR.out.ch⟩
theorem wrap_stripes : IntKind.i64.wrap (IntKind.i64.wrap (2 * n.ge.st) * (n.q : Int)) = ((2 * (n.S * n.q) : Nat) : Int) := by
  have b1 := h.s2
  have b2 := h.t2
  have e1 : n.ge.st = (n.S : Int) := rfl
  rw [e1, wrapI_in (x := 2 * (n.S : Int)) (by omega) (by omega)]
  have e2 : 2 * (n.S : Int) * (n.q : Int) = ((2 * (n.S * n.q) : Nat) : Int) := by rw [Int.mul_assoc]; omega
  rw [e2]
  exact wrapI_in (by omega) (by omega)
set_option maxHeartbeats 1600000 in
theorem end_any : Calls Tryz.prog 70 #[.agg (geC n.ge)] w (Ans (.int .i64 (n.tot : Int)) w) := by
  obtain ⟨w1, H, hR⟩ := geR w n.ge
  obtain ⟨x0, x1, x2, x3⟩ := hR.x
  have HR := Lib.hid hR
  have HX := Lib.hid hR.x
  have HK := Lib.hid h
  have HE := Lib.hid (show IntKind.i64.wrap ((n.fs : Int) + IntKind.i64.wrap (IntKind.i64.wrap (2 * n.ge.st) * (n.q : Int))) = (n.tot : Int) by
    have b1 := h.fs2
    have b2 := h.t2
    rw [wrap_stripes n h, wrapI_in (by omega) (by omega)]
    unfold Gn.tot
    omega)
  clear hR h
  go_enter Tryz.func70, Tryz.ntmps70
  go_wp2_with ((with_reducible refine wpList_isOp (.box 23 (.tmp 0)) rfl ?_); refine wpList_boxing _ w1 rfl 23 (.tmp 0) rfl (geC n.ge) H rfl (by exact HR.out.sz) (by exact HR.out.al) ?_)
  go_region_held3 (fun w' => w'.cell? ⟨H, 0, none⟩ = some (.int .i64 (n.ge).wal) ∧ w'.cell? ⟨H, 1, none⟩ = some (.int .i64 (n.ge).st) ∧ w'.cell? ⟨H, 2, none⟩ = some (.int .i64 (n.ge).k) ∧ w'.cell? ⟨H, 3, none⟩ = some (.int .i64 (n.ge).m)) (first | go_keep | exact ka | exact kb)
    (first
      | (go_at_call 111; refine (firstShare_any n HK.out _).mono ?_; rintro e w2 ⟨rfl, hc2⟩; have hx2 := HX.out.drew.gr hc2; have ka := hx2.all)
      | (go_at_call 112; refine (shares_any n HK.out _).mono ?_; rintro e w3 ⟨rfl, hc3⟩; have hx3 := hx2.gr hc3; have kb := hx3.all))
  go_wp2
  go_ret
  exact ⟨ret_int HE.out, (HR.out.ch.drew.trans hc2).trans hc3⟩
end
theorem mayG_eq (g : Ge) : mayG g = (inB g.wal 8 512 && (inB g.st 1 32 && (inB g.k 1 16 && inB g.m 1 8))) := rfl
set_option maxHeartbeats 1600000 in
theorem gmay_any (g : Ge) (w : World) : Calls Tryz.prog 39 #[.agg (geC g)] w (Ans (.bool (mayG g)) w) := by
  obtain ⟨w1, H, hR⟩ := geR w g
  obtain ⟨x0, x1, x2, x3⟩ := hR.x
  have HR := Lib.hid hR
  have HX := Lib.hid hR.x
  clear hR
  cases t1 : inB g.wal 8 512
  · have HE := Lib.hid (show mayG g = false by rw [mayG_eq, t1]; rfl)
    go_enter Tryz.func39, Tryz.ntmps39
    go_wp2_with (first | ((with_reducible refine wpList_isOp (.box 23 (.tmp 0)) rfl ?_); refine wpList_boxing _ w1 rfl 23 (.tmp 0) rfl (geC g) H rfl (by exact HR.out.sz) (by exact HR.out.al) ?_) | (go_at_call 69; refine (within_any _ _ _ _).mono ?_; rintro e w' ⟨rfl, rfl⟩))
    go_ret
    exact ⟨ret_bool HE.out.symm, HR.out.ch⟩
  cases t2 : inB g.st 1 32
  · have HE := Lib.hid (show mayG g = false by rw [mayG_eq, t1, t2]; rfl)
    go_enter Tryz.func39, Tryz.ntmps39
    go_wp2_with (first | ((with_reducible refine wpList_isOp (.box 23 (.tmp 0)) rfl ?_); refine wpList_boxing _ w1 rfl 23 (.tmp 0) rfl (geC g) H rfl (by exact HR.out.sz) (by exact HR.out.al) ?_) | (go_at_call 69; refine (within_any _ _ _ _).mono ?_; rintro e w' ⟨rfl, rfl⟩))
    go_ret
    exact ⟨ret_bool HE.out.symm, HR.out.ch⟩
  cases t3 : inB g.k 1 16
  · have HE := Lib.hid (show mayG g = false by rw [mayG_eq, t1, t2, t3]; rfl)
    go_enter Tryz.func39, Tryz.ntmps39
    go_wp2_with (first | ((with_reducible refine wpList_isOp (.box 23 (.tmp 0)) rfl ?_); refine wpList_boxing _ w1 rfl 23 (.tmp 0) rfl (geC g) H rfl (by exact HR.out.sz) (by exact HR.out.al) ?_) | (go_at_call 69; refine (within_any _ _ _ _).mono ?_; rintro e w' ⟨rfl, rfl⟩))
    go_ret
    exact ⟨ret_bool HE.out.symm, HR.out.ch⟩
  cases t4 : inB g.m 1 8
  · have HE := Lib.hid (show mayG g = false by rw [mayG_eq, t1, t2, t3, t4]; rfl)
    go_enter Tryz.func39, Tryz.ntmps39
    go_wp2_with (first | ((with_reducible refine wpList_isOp (.box 23 (.tmp 0)) rfl ?_); refine wpList_boxing _ w1 rfl 23 (.tmp 0) rfl (geC g) H rfl (by exact HR.out.sz) (by exact HR.out.al) ?_) | (go_at_call 69; refine (within_any _ _ _ _).mono ?_; rintro e w' ⟨rfl, rfl⟩))
    go_ret
    exact ⟨ret_bool HE.out.symm, HR.out.ch⟩
  have hm : mayG g = true := by rw [mayG_eq, t1, t2, t3, t4]; rfl
  have HE := Lib.hid hm
  obtain ⟨n, hn, rfl⟩ := may_nat hm
  have HT := Lib.hid (end_any n hn)
  have HD := Lib.hid (show decide ((n.tot : Int) ≤ 4096) = true by have := hn.tot2; exact decide_eq_true (by omega))
  have t5 := HD.out
  clear hm hn
  go_enter Tryz.func39, Tryz.ntmps39
  go_wp2_with (first | ((with_reducible refine wpList_isOp (.box 23 (.tmp 0)) rfl ?_); refine wpList_boxing _ w1 rfl 23 (.tmp 0) rfl (geC n.ge) H rfl (by exact HR.out.sz) (by exact HR.out.al) ?_) | (go_at_call 69; refine (within_any _ _ _ _).mono ?_; rintro e w' ⟨rfl, rfl⟩) | (go_at_call 70; refine (HT.out _).mono ?_; rintro e w2 ⟨rfl, hc2⟩))
  go_ret
  exact ⟨ret_bool HE.out.symm, HR.out.ch.trans hc2⟩
end Go.Proofs.YteleknojohnlbaaGreat
namespace Go.Proofs.YteleknojohnlbaaGreat
open Go.RowKit
set_option linter.unusedVariables false
set_option maxRecDepth 100000
def wordS (n : Int) : Bool := inB n 0 4294967295
theorem digs_len5 {n : Nat} (h : n ≤ 4294967295) : (Cod.digs n).length ≤ 5 := by
  rcases Cod.digs_len 5 n (by omega) with h | h
  · exact h
  · omega
theorem numZ_at {z y : Nat → Nat} (h : ∀ c, c < 256 → z c = y c) {a : Nat} (ha : a + 3 < 256) : numZ z a = numZ y a := by
  unfold numZ
  rw [h a (by omega), h (a + 1) (by omega), h (a + 2) (by omega), h (a + 3) ha]
theorem readB_at {z y : Nat → Nat} (h : ∀ c, c < 256 → z c = y c) (V U : Value) : Same (readB V z) (readB U y) := by
  have hl : blkLong z = blkLong y := by unfold blkLong; rw [h 20 (by omega), h 21 (by omega)]
  have e : (readB V z).len = (readB U y).len := by
    show (if blkLong z ≤ 228 then blkLong z else 228) = (if blkLong y ≤ 228 then blkLong y else 228)
    rw [hl]
  refine ⟨?_, ?_, ?_, ?_, ?_, e, fun c hc => ?_⟩
  · show ((z 2 : Nat) : Int) = (y 2 : Nat); rw [h 2 (by omega)]
  · show ((numZ z 4 : Nat) : Int) = (numZ y 4 : Nat); rw [numZ_at h (by omega)]
  · show ((numZ z 8 : Nat) : Int) = (numZ y 8 : Nat); rw [numZ_at h (by omega)]
  · show ((numZ z 12 : Nat) : Int) = (numZ y 12 : Nat); rw [numZ_at h (by omega)]
  · show ((numZ z 16 : Nat) : Int) = (numZ y 16 : Nat); rw [numZ_at h (by omega)]
  · have : (readB U y).len ≤ 228 := by show (if blkLong y ≤ 228 then blkLong y else 228) ≤ 228; split <;> omega
    exact h (24 + c) (by omega)
theorem opensB_eq {z y : Nat → Nat} (h : ∀ c, c < 256 → z c = y c) : opensB 256 z = opensB 256 y := by
  have s := readB_at h undef undef
  have e : eqB 256 256 (sectZ (readB undef z)) z = eqB 256 256 (sectZ (readB undef y)) y := by
    unfold eqB
    refine decide_eq_decide.2 ⟨fun q => ⟨rfl, fun c hc => ?_⟩, fun q => ⟨rfl, fun c hc => ?_⟩⟩
    · rw [← h c hc, ← s.sect c]; exact q.2 c hc
    · rw [h c hc, s.sect c]; exact q.2 c hc
  rw [opensB_at, opensB_at, s.may, e]
theorem Same.trans {a b c : Bk} (h : Same a b) (k : Same b c) : Same a c := ⟨h.kind.trans k.kind, h.vol.trans k.vol, h.addr.trans k.addr, h.epoch.trans k.epoch, h.seq.trans k.seq, h.len.trans k.len, fun j hj => (h.z j (by rw [k.len]; exact hj)).trans (k.z j hj)⟩
theorem flat_left {P R : List Nat} {i : Nat} (h : i < P.length) : Cod.litZ (P ++ R) i = Cod.litZ P i := by rw [← Cod.litZ_app]; unfold jnZ; rw [if_pos h]
theorem flat_right (P R : List Nat) (i : Nat) : Cod.litZ (P ++ R) (P.length + i) = Cod.litZ R i := by rw [← Cod.litZ_app]; unfold jnZ; rw [if_neg (by omega), Nat.add_sub_cancel_left]
theorem foot_apart {base B j t : Nat} {w : World} {v : Value} {L : List Nat} {c : Array Value} (h : OutIs base w B v L) (hj : w.heap[j]? = some (.cells c t (0, 0))) (h1 : t ≠ 132) (h2 : t ≠ /-t-/5) : ¬ FootO B v j := fun f => by
  rcases f with rfl | f
  · exact cells_ne hj (show w.heap[j]? = _ from h.box) h1 rfl
  · obtain ⟨_, c2, hc2⟩ := own_at h.own f
    exact cells_ne hj hc2 h2 rfl
theorem open_len {n : Nat} {z : Nat → Nat} {V : Value} : (openB n z V).len ≤ 228 := by
  unfold openB
  split
  · exact readL_le z
  · exact Nat.zero_le _
end Go.Proofs.YteleknojohnlbaaGreat
