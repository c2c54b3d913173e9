/-
  code.NewIn and (*code.In).rest, Left, get, Num, Int and Bytes, walked. The document's Same (quartermasterref04), walked. The document's run, halves, GetNum and GetInt (quartermasterref05), walked.
-/
import Derived.Test.YtkpahhioiefcbaaMb6
import Derived.Test.YtkpahhioiefcbaaMb1
namespace Go.Proofs.Ytkpahhioiefcbaa
open Go.RowKit Go.Shelf Cod
set_option linter.unusedVariables false
set_option maxRecDepth 100000

/-! ### an In: a block with a row that is left -/
/-- A slice that is nil has no room; another one lies in a block. -/
def NN (x : Value) : Prop := (∀ m C, x = .slice none m C → C = 0) ∧ ∀ ad m C, x = .slice (some ad) m C → ∃ b o, ad = ⟨b, o, none⟩
theorem nn_none : NN (.slice none 0 0) := ⟨fun m C e => by injection e with _ _ e; exact e.symm, fun ad m C e => by cases e⟩
theorem nn_some (b o m C : Nat) : NN (.slice (some ⟨b, o, none⟩) m C) := ⟨fun m C e => (by cases e), fun ad m C e => by injection e with e _ _; injection e with e; exact ⟨b, o, e.symm⟩⟩
structure InIs (w : World) (B : Nat) (x : Value) (n : Nat) (z : Nat → Nat) : Prop where
  box : Boxed w B 73 x
  row : RowV w x n z
  nn : NN x
theorem InIs.cell {w : World} {B n : Nat} {x : Value} {z : Nat → Nat} (h : InIs w B x n z) : w.cell? ⟨B, 0, none⟩ = some x := h.box.cell
theorem boxed_far {w : World} {B t o : Nat} {x : Value} (h : Boxed w B t x) (ho : 0 < o) : w.cell? ⟨B, o, none⟩ = none := by
  unfold World.cell?
  rw [show w.heap[B]? = _ from h]
  simp
  omega
theorem InIs.off {w : World} {B n : Nat} {x : Value} {z : Nat → Nat} (h : InIs w B x n z) : Off (fun i => i = B) x := fun b o m C e hb => by
  subst hb
  obtain ⟨A, D, e1, _, h3⟩ := h.row
  rw [e] at e1
  injection e1 with e1 e2 _
  obtain ⟨b', o', e4, hc⟩ := h3 (by omega)
  rw [← e1] at e4
  injection e4 with e4
  injection e4 with e5 e6
  subst e5
  subst e6
  have h1 := (hc 0 (by omega)).1
  rw [Nat.add_zero] at h1
  rcases Nat.eq_zero_or_pos o with rfl | q
  · rw [h.cell, e] at h1
    cases h1
  · rw [boxed_far h.box q] at h1
    cases h1
theorem InIs.ch {w w' : World} {B n : Nat} {x : Value} {z : Nat → Nat} {S : Nat → Prop} (h : InIs w B x n z) (k : Ch S w w') (hB : ¬ S B) (ho : Off S x) : InIs w' B x n z :=
  ⟨(k.block B h.box.lt hB).trans h.box, h.row.off k ho, h.nn⟩
theorem InIs.gr {w w' : World} {B n : Nat} {x : Value} {z : Nat → Nat} (h : InIs w B x n z) (k : Ch (fun _ => False) w w') : InIs w' B x n z := h.ch k (fun f => f) (fun _ _ _ _ _ f => f)
theorem InIs.congr {w : World} {B n m : Nat} {x : Value} {z y : Nat → Nat} (h : InIs w B x n z) (e : n = m) (he : ∀ i, i < n → z i = y i) : InIs w B x m y := by
  subst e
  exact ⟨h.box, h.row.congr he, h.nn⟩
theorem owns_nn {w : World} {base k : Nat} {v : Value} {xs : List Value} (h : w.ownsRow base /-t-/5 1 v k xs) : NN v := by
  rcases h.2 with ⟨rfl, _⟩ | ⟨g, cap, cur, rfl, _⟩
  · exact nn_none
  · exact nn_some _ _ _ _
set_option maxHeartbeats 400000 in
theorem rest_nil (w : World) : Calls Try.prog 38 #[.pointer none] w fun e w' => e = .returned (.slice none 0 0) ∧ w = w' := by
  go_enter Try.func38, Try.ntmps38
  go_wp2
  go_ret
  exact ⟨rfl, rfl⟩
set_option maxHeartbeats 400000 in
theorem rest_any (B : Nat) (A : Option Addr) (n C : Nat) (w : World) (h : w.cell? ⟨B, 0, none⟩ = some (.slice A n C)) : Calls Try.prog 38 #[.pointer (some ⟨B, 0, none⟩)] w fun e w' => e = .returned (.slice A n C) ∧ w = w' := by
  go_enter Try.func38, Try.ntmps38
  go_wp2
  go_ret
  exact ⟨rfl, rfl⟩
set_option maxHeartbeats 400000 in
theorem left_nil (w : World) : Calls Try.prog 24 #[.pointer none] w fun e w' => e = .returned (.int .i64 0) ∧ w = w' := by
  go_enter Try.func24, Try.ntmps24
  go_wp2_with fail
  refine (rest_nil _).mono ?_
  rintro e w' ⟨rfl, rfl⟩
  go_wp2
  go_ret
  exact ⟨rfl, rfl⟩
set_option maxHeartbeats 400000 in
theorem left_any (B n : Nat) (x : Value) (z : Nat → Nat) (w : World) (h : InIs w B x n z) : Calls Try.prog 24 #[.pointer (some ⟨B, 0, none⟩)] w fun e w' => e = .returned (.int .i64 (n : Int)) ∧ w = w' := by
  obtain ⟨A, C, rfl, hl, _⟩ := id h.row
  have H := Lib.hid h.cell
  clear h hl
  go_enter Try.func24, Try.ntmps24
  go_wp2_with fail
  refine (rest_any B A n C _ H.out).mono ?_
  rintro e w' ⟨rfl, rfl⟩
  go_wp2
  go_ret
  exact ⟨rfl, rfl⟩
#print axioms left_any
set_option maxHeartbeats 400000 in
theorem newIn_any (A : Option Addr) (n C : Nat) (z : Nat → Nat) (w : World) (h : RowV w (.slice A n C) n z) (hn : n ≤ 1048576) : Calls Try.prog 21 #[.slice A n C] w fun e w' => ∃ B x, e = .returned (.pointer (some ⟨B, 0, none⟩)) ∧ InIs w' B x n z ∧ w.heap.size ≤ B ∧ Ch (fun _ => False) w w' := by
  have HR := Lib.hid (clone_any A n C z w h hn)
  have HB := Lib.hid h.bytes
  clear h
  go_enter Try.func21, Try.ntmps21
  go_wp2_with fail
  refine HR.out.mono ?_
  rintro e w1 ⟨x, rfl, h1, h2⟩
  have hr := ownsRow_rowV h1 (by omega) HB.out
  obtain ⟨A1, C1, rfl, _⟩ := id hr
  have H1 := Lib.hid hr
  have H2 := Lib.hid h2
  have H3 := Lib.hid (owns_nn h1)
  clear h1 h2 hr
  go_wp2
  go_ret
  exact ⟨_, _, rfl, ⟨Boxed.new _ _ _, H1.out.gr ((Ch.refl _ _).alloc _ _), H3.out⟩, H2.out.size, H2.out.alloc _ _⟩
#print axioms newIn_any

/-! ### get -/
theorem Ch.toS {w w1 : World} {p : Addr} {B : Nat} (h : Ch (fun _ => False) w w1) (hp : p.block = B) (v : Value) : Ch (fun i => i = B) w (w1.setCell p v) := (h.mono (fun _ _ f => f.elim)).setCell (Or.inl hp) v
theorem Ch.toN {S : Nat → Prop} {w w1 : World} (h : Ch (fun _ => False) w w1) : Ch S w w1 := h.mono (fun _ _ f => f.elim)
theorem set_ch (w : World) (B : Nat) (v : Value) : Ch (fun i => i = B) w (w.setCell ⟨B, 0, none⟩ v) := Ch.setCell (S := fun i => i = B) (Ch.refl _ w) (p := ⟨B, 0, none⟩) (Or.inl rfl) v
theorem off_of {b B o n C : Nat} (h : ¬ b = B) : Off (fun i => i = B) (.slice (some ⟨b, o, none⟩) n C) := fun b' o' m C' e hb => by
  injection e with e _ _
  injection e with e
  injection e with e _
  omega
theorem none_row (w : World) (A : Option Addr) (z : Nat → Nat) : RowV w (.slice A 0 0) 0 z := ⟨A, 0, rfl, by omega, fun h => absurd h (Nat.lt_irrefl 0)⟩
theorem resV_le (top : Nat) (z : Nat → Nat) (k e : Nat) : resV top z k e ≤ top := by
  unfold resV
  split
  · split
    · assumption
    · exact Nat.zero_le _
  · exact Nat.zero_le _
theorem resE_cases (top : Nat) (z : Nat → Nat) (k e : Nat) : (resE top z k e = 0 ∧ e = 0 ∧ resK top z k e = k ∧ resV top z k e = val z k) ∨ (¬ resE top z k e = 0 ∧ resK top z k e = 0 ∧ resV top z k e = 0) := by
  by_cases he : e = 0
  · by_cases h : val z k ≤ top
    · obtain ⟨h1, h2, h3⟩ := res_ok (k := k) he h
      exact Or.inl ⟨h3, he, h2, h1⟩
    · obtain ⟨h1, h2, h3⟩ := res_bad (k := k) (Or.inr ⟨he, (by omega : top < val z k)⟩)
      exact Or.inr ⟨by rw [h3]; decide, h2, h1⟩
  · right
    unfold resE resK resV
    rw [if_neg he, if_neg he, if_neg he]
    exact ⟨he, rfl, rfl⟩
/-- What is left behind a get. -/
def GetPost (B n : Nat) (x : Value) (z : Nat → Nat) (k : Nat) (r : Value) (w : World) (e : Ending) (w' : World) : Prop :=
  e = .returned r ∧ ∃ x', InIs w' B x' (n - k) (fun i => z (k + i)) ∧ (∀ S, Off S x → Off S x') ∧ Ch (fun i => i = B) w w'
theorem Off.part {S : Nat → Prop} {b o n C p m D : Nat} (h : Off S (.slice (some ⟨b, o, none⟩) n C)) (hn : 0 < n) : Off S (.slice (some ⟨b, p, none⟩) m D) := fun b' o' m' C' e hb => by
  injection e with e _ _
  injection e with e
  injection e with e _
  subst e
  exact h.at hn hb
theorem Off.zero {S : Nat → Prop} {A : Option Addr} {C : Nat} : Off S (.slice A 0 C) := fun b' o' m' C' e hb => by cases e
set_option maxHeartbeats 1000000 in
theorem get_any (B n : Nat) (x : Value) (z : Nat → Nat) (top k e : Nat) (w : World) (h : InIs w B x n z) (ht : 9223372036854775807 ≤ top) (ht2 : top < 18446744073709551616) (hr : Rd n z k e) :
    Calls Try.prog 36 #[.pointer (some ⟨B, 0, none⟩), .int .u64 (top : Int)] w (GetPost B n x z (resK top z k e) (.tuple #[.int .u64 (resV top z k e : Int), .int .i64 (resE top z k e : Int)]) w) := by
  obtain ⟨A, C, rfl, hl, h3⟩ := id h.row
  have HN := Lib.hid (number_any A n C z top k e w h.row ht ht2 hr)
  have HC := Lib.hid h.cell
  have HH := Lib.hid h
  rcases resE_cases top z k e with ⟨e1, e2, e3, e4⟩ | ⟨e1, e3, e4⟩
  · subst e2
    obtain ⟨hk0, hkn, _⟩ := rd_ok_short hr
    rw [e1, e3, e4] at HN ⊢
    obtain ⟨b, o, rfl, _⟩ := h3 (by omega)
    have hl1 := hl.1
    have hl2 := hl.2
    have HT := Lib.hid (row_tail h.row hkn)
    have e5 : ((n - k : Nat) : Int) = (n : Int) - (k : Int) := by omega
    have e6 : ((C - k : Nat) : Int) = (C : Int) - (k : Int) := by omega
    have hb := h.off.at (by omega)
    clear h h3 hl ht ht2 hr e1 e3 e4
    by_cases hC : C = k
    · subst hC
      obtain rfl : n = C := by omega
      go_enter Try.func36, Try.ntmps36
      go_wp2_with fail
      refine (rest_any B _ n n _ HC.out).mono ?_
      rintro e w' ⟨rfl, rfl⟩
      go_wp2_with fail
      refine HN.out.mono ?_
      rintro e w1 ⟨rfl, hch⟩
      have hI := HH.out.gr hch
      have c1 := hI.box.cell
      have f1 := hI.box.frozen
      have HI := Lib.hid hI
      have HCH := Lib.hid hch
      clear hI hch
      go_wp2
      go_ret2
      refine ⟨rfl, .slice (some ⟨b, o, none⟩) 0 0, ?_, fun S _ => Off.zero, HCH.out.toS (p := ⟨B, 0, none⟩) rfl _⟩
      rw [Nat.sub_self]
      exact ⟨HI.out.box.set _, none_row _ _ _, nn_some _ _ _ _⟩
    · have t1 : (C : Int) - (k : Int) ≠ 0 := by omega
      go_enter Try.func36, Try.ntmps36
      go_wp2_with fail
      refine (rest_any B _ n C _ HC.out).mono ?_
      rintro e w' ⟨rfl, rfl⟩
      go_wp2_with fail
      refine HN.out.mono ?_
      rintro e w1 ⟨rfl, hch⟩
      have hI := HH.out.gr hch
      have c1 := hI.box.cell
      have f1 := hI.box.frozen
      have HI := Lib.hid hI
      have HCH := Lib.hid hch
      clear hI hch
      go_wp2
      go_ret2
      refine ⟨rfl, .slice (some ⟨b, o + k, none⟩) (n - k) (C - k), ?_, fun S h => h.part (by omega), HCH.out.toS (p := ⟨B, 0, none⟩) rfl _⟩
      exact ⟨HI.out.box.set _, (HT.out.gr HCH.out).off (set_ch w1 B _) (off_of hb), nn_some _ _ _ _⟩
  · have t1 : ((resE top z k e : Int) != 0) = true := by simpa using e1
    rw [e3, e4] at HN ⊢
    have hl1 := hl.1
    clear h h3 hl ht ht2 hr e1 e3 e4
    go_enter Try.func36, Try.ntmps36
    go_wp2_with fail
    refine (rest_any B _ n C _ HC.out).mono ?_
    rintro e' w' ⟨rfl, rfl⟩
    go_wp2_with fail
    refine HN.out.mono ?_
    rintro e' w1 ⟨rfl, hch⟩
    have HI := Lib.hid (HH.out.gr hch)
    have HCH := Lib.hid hch
    clear hch
    go_wp2
    go_ret2
    exact ⟨rfl, _, HI.out.congr (by omega) (fun i _ => by rw [Nat.zero_add]), fun S h => h, HCH.out.toN⟩
#print axioms get_any

/-! ### Num, Int -/
def T63 : Nat := 9223372036854775807
def T64 : Nat := 18446744073709551615
set_option maxHeartbeats 400000 in
theorem getNil_any (top : Nat) (ht : 9223372036854775807 ≤ top) (ht2 : top < 18446744073709551616) (w : World) : Calls Try.prog 36 #[.pointer none, .int .u64 (top : Int)] w fun e w' => e = .returned (.tuple #[.int .u64 0, .int .i64 6]) ∧ Ch (fun _ => False) w w' := by
  have HN := Lib.hid (number_any none 0 0 (fun _ => 0) top 0 6 w (nil_row w _) ht ht2 (rd_short (by omega) (fun i hi => absurd hi (Nat.not_lt_zero i))))
  clear ht ht2
  go_enter Try.func36, Try.ntmps36
  go_wp2_with fail
  refine (rest_nil _).mono ?_
  rintro e' w' ⟨rfl, rfl⟩
  go_wp2_with fail
  refine HN.out.mono ?_
  rintro e' w1 ⟨rfl, hch⟩
  obtain ⟨h1, h2, h3⟩ := res_short (top := top) (k := 0) (z := fun _ => 0)
  rw [h1, h2, h3]
  have HCH := Lib.hid hch
  clear hch h1 h2 h3
  go_wp2
  go_ret2
  exact ⟨rfl, HCH.out⟩
set_option maxHeartbeats 400000 in
theorem inum_nil (w : World) : Calls Try.prog 22 #[.pointer none] w fun e w' => e = .returned (.tuple #[.int .i64 0, .int .i64 6]) ∧ Ch (fun _ => False) w w' := by
  have HN := Lib.hid (show Calls Try.prog 36 #[.pointer none, .int .u64 9223372036854775807] w _ from getNil_any 9223372036854775807 (by omega) (by omega) w)
  go_enter Try.func22, Try.ntmps22
  go_wp2_with fail
  refine HN.out.mono ?_
  rintro e' w1 ⟨rfl, hch⟩
  go_wp2
  go_ret2
  exact ⟨rfl, hch⟩
set_option maxHeartbeats 400000 in
theorem inum_any (B n : Nat) (x : Value) (z : Nat → Nat) (k e : Nat) (w : World) (h : InIs w B x n z) (hr : Rd n z k e) :
    Calls Try.prog 22 #[.pointer (some ⟨B, 0, none⟩)] w (GetPost B n x z (resK T63 z k e) (.tuple #[.int .i64 (resV T63 z k e : Int), .int .i64 (resE T63 z k e : Int)]) w) := by
  have HN := Lib.hid (show Calls Try.prog 36 #[.pointer (some ⟨B, 0, none⟩), .int .u64 9223372036854775807] w _ from get_any B n x z T63 k e w h (by decide) (by decide) hr)
  have hv : (resV T63 z k e : Int) ≤ 9223372036854775807 := by have := resV_le T63 z k e; unfold T63 at this; unfold T63; omega
  obtain ⟨V, hV⟩ : ∃ V, V = resV T63 z k e := ⟨_, rfl⟩
  obtain ⟨E, hE⟩ : ∃ V, V = resE T63 z k e := ⟨_, rfl⟩
  rw [← hV, ← hE] at HN ⊢
  rw [← hV] at hv
  clear hV hE h hr
  go_enter Try.func22, Try.ntmps22
  go_wp2_with fail
  refine HN.out.mono ?_
  rintro e' w1 ⟨rfl, hch⟩
  have HC := Lib.hid hch
  clear hch
  go_wp2
  go_ret2
  exact ⟨rfl, HC.out⟩
#print axioms inum_any
end Go.Proofs.Ytkpahhioiefcbaa
namespace Go.Proofs.Ytkpahhioiefcbaa
open Go.RowKit
set_option linter.unusedVariables false
set_option maxRecDepth 100000

def eqB (n m : Nat) (z y : Nat → Nat) : Bool := decide (n = m ∧ ∀ c, c < n → z c = y c)
/-! ### Same -/
theorem RowV.at {w : World} {A : Option Addr} {n C : Nat} {z : Nat → Nat} (h : RowV w (.slice A n C) n z) (hn : 0 < n) : ∃ b o, A = some ⟨b, o, none⟩ ∧ ∀ c, c < n → w.cell? ⟨b, o + c, none⟩ = some (.int .u8 (z c : Int)) := by
  obtain ⟨_, _, e, _, h3⟩ := h
  injection e with e _ _
  subst e
  obtain ⟨b, o, rfl, h4⟩ := h3 hn
  exact ⟨b, o, rfl, fun c hc => (h4 c hc).1⟩
set_option maxHeartbeats 800000 in
set_option maxRecDepth 100000 in
theorem same_any (A B : Option Addr) (n m C D : Nat) (z y : Nat → Nat) (w : World) (h : RowV w (.slice A n C) n z) (h2 : RowV w (.slice B m D) m y) : Calls Try.prog 18 #[.slice A n C, .slice B m D] w (Qu (.bool (eqB n m z y)) w) := by
  obtain ⟨_, _, _, hl, _⟩ := id h
  have hl1 := hl.1
  obtain ⟨_, _, _, hm, _⟩ := id h2
  have hm1 := hm.1
  clear hl hm
  by_cases e : n = m
  · subst e
    have t1 : ((n : Int) != (n : Int)) = false := by simp
    have HV := Lib.hid h
    have HV2 := Lib.hid h2
    clear h h2
    go_enter Try.func18, Try.ntmps18
    go_wp2
    go_loopw [5] (fun i wr => ∃ k : Nat, k ≤ n ∧ i = .int .i64 k ∧ (∃ d, wr = w.drewN d) ∧ Hid (∀ c, c < k → z c = y c)) (fun i _ => n - (intOf i).toNat)
    case atStart => exact ⟨0, Nat.zero_le _, rfl, ⟨0, rfl⟩, fun c hc => absurd hc (Nat.not_lt_zero c)⟩
    case round =>
      obtain ⟨k, hk, rfl, ⟨d, rfl⟩, HK⟩ := hrel
      by_cases hlt : k < n
      · obtain ⟨b, o, rfl, hc⟩ := HV.out.at (by omega)
        obtain ⟨b2, o2, rfl, hc2⟩ := HV2.out.at (by omega)
        have c1 := hc k hlt
        have c2 := hc2 k hlt
        have i1 : (0 : Int) ≤ (k : Int) := Int.natCast_nonneg _
        have i2 : (k : Int) < (n : Int) := by omega
        clear hc hc2
        by_cases q : z k = y k
        · have t2 : ((z k : Int) != (y k : Int)) = false := by simp [q]
          have HS : Hid (∀ c, c < k + 1 → z c = y c) := fun c hc => by
            by_cases e : c = k
            · rw [e]; exact q
            · exact HK c (by omega)
          clear q
          go_wp2
          go_quiet (fail)
          go_wp2
          go_roundw
          case rel => exact ⟨k + 1, by omega, by go_num, ⟨_, rfl⟩, HS⟩
          case measure => simp [intOf]; omega
        · have t2 : ((z k : Int) != (y k : Int)) = true := by simp; omega
          have HS := Lib.hid (show eqB n n z y = false from decide_eq_false fun h => q (h.2 k hlt))
          clear q
          go_wp2
          go_quiet (fail)
          go_wp2
          go_ret
          exact ⟨ret_bool HS.out.symm, _, World.drewN_drewN _ _ _⟩
      · obtain rfl : k = n := by omega
        have HS := Lib.hid (show eqB k k z y = true from decide_eq_true ⟨rfl, HK.out⟩)
        go_wp2
        go_ret
        exact ⟨ret_bool HS.out.symm, _, rfl⟩
  · have t1 : ((n : Int) != (m : Int)) = true := by simp; omega
    have HS := Lib.hid (show eqB n m z y = false from decide_eq_false fun h => e h.1)
    clear e h h2
    go_enter Try.func18, Try.ntmps18
    go_wp2
    go_ret
    exact ⟨ret_bool HS.out.symm, 0, rfl⟩
#print axioms same_any
end Go.Proofs.Ytkpahhioiefcbaa
namespace Go.Proofs.Ytkpahhioiefcbaa
open Go.RowKit Go.Shelf Cod
set_option linter.unusedVariables false
set_option maxRecDepth 100000

theorem ret_pair {a b c d : Int} (h : a = b) (k : c = d) : Ending.returned (.tuple #[.int .i64 a, .int .i64 c]) = .returned (.tuple #[.int .i64 b, .int .i64 d]) := by rw [h, k]
set_option maxHeartbeats 1000000 in
set_option maxRecDepth 100000 in
theorem run_any (A : Option Addr) (n C : Nat) (z : Nat → Nat) (k e : Nat) (w : World) (h : RowV w (.slice A n C) n z) (hr : Rd n z k e) : Calls Try.prog 39 #[.slice A n C] w fun en w' => en = .returned (.tuple #[.int .i64 (k : Int), .int .i64 (e : Int)]) ∧ w = w' := by
  obtain ⟨_, _, _, hl, _⟩ := id h
  have hl1 := hl.1
  have HV := Lib.hid h
  have HD := Lib.hid hr
  clear h hr hl
  go_enter Try.func39, Try.ntmps39
  go_wp2
  go_loop [4] (fun i => ∃ m : Nat, m ≤ n ∧ m ≤ 9 ∧ i = .int .i64 m ∧ Hid (∀ j, j < m → 128 ≤ z j)) (fun i => n - (intOf i).toNat)
  case atStart => exact ⟨0, Nat.zero_le _, by omega, rfl, fun j hj => absurd hj (Nat.not_lt_zero j)⟩
  case round =>
    obtain ⟨m, hm, hm9, rfl, HZ⟩ := hrel
    by_cases hlt : m < n
    · obtain ⟨b, o, rfl, hc⟩ := HV.out.at (by omega)
      have c1 := hc m hlt
      have hz := HV.out.bytes m hlt
      have t0 : ((m : Int) == 10) = false := by simp; omega
      clear hc
      by_cases h9 : m = 9
      · subst h9
        by_cases h1 : 1 < z 9
        · have HE := Lib.hid (rd_one HD.out (rd_long hlt HZ.out h1))
          have t1 : decide ((1 : Int) < (z 9 : Int)) = true := by simp; omega
          clear h1
          go_wp2
          go_ret2
          exact ⟨ret_pair (by rw [HE.out.1]; rfl) (by rw [HE.out.2]; rfl), rfl⟩
        · have t1 : decide ((1 : Int) < (z 9 : Int)) = false := by simp; omega
          have t2 : decide ((z 9 : Int) < 128) = true := by simp; omega
          by_cases h0 : z 9 = 0
          · have HE := Lib.hid (rd_one HD.out (rd_idle (by omega) hlt (by omega) HZ.out h0))
            have t3 : ((z 9 : Int) == 0) = true := by simp; omega
            clear h0 h1
            go_wp2
            go_ret2
            exact ⟨ret_pair (by rw [HE.out.1]; rfl) (by rw [HE.out.2]; rfl), rfl⟩
          · have HE := Lib.hid (rd_one HD.out (rd_ok hlt (by omega) HZ.out (by omega) (fun _ => by omega) (fun q => absurd q h0)))
            have t3 : ((z 9 : Int) == 0) = false := by simp; omega
            clear h0 h1
            go_wp2
            go_ret2
            exact ⟨ret_pair (by rw [HE.out.1]; rfl) (by rw [HE.out.2]; rfl), rfl⟩
      · have t9 : ((m : Int) == 9) = false := by simp; omega
        by_cases h2 : z m < 128
        · have t2 : decide ((z m : Int) < 128) = true := by simp; omega
          by_cases h0 : z m = 0
          · have t3 : ((z m : Int) == 0) = true := by simp; omega
            by_cases hp : 0 < m
            · have HE := Lib.hid (rd_one HD.out (rd_idle hp hlt hm9 HZ.out h0))
              have t4 : decide ((0 : Int) < (m : Int)) = true := by simp; omega
              have t5 : decide (0 < m) = true := by simp; omega
              clear h0 hp h2 h9
              go_wp2
              go_ret2
              exact ⟨ret_pair (by rw [HE.out.1]; rfl) (by rw [HE.out.2]; rfl), rfl⟩
            · have HE := Lib.hid (rd_one HD.out (rd_ok hlt hm9 HZ.out h2 (fun q => absurd q h9) (fun _ => by omega)))
              have t4 : decide ((0 : Int) < (m : Int)) = false := by simp; omega
              have t5 : decide (0 < m) = false := by simp; omega
              clear h0 hp h2 h9
              go_wp2
              go_ret2
              exact ⟨ret_pair (by rw [HE.out.1]; omega) (by rw [HE.out.2]; rfl), rfl⟩
          · have HE := Lib.hid (rd_one HD.out (rd_ok hlt hm9 HZ.out h2 (fun q => absurd q h9) (fun q => absurd q h0)))
            have t3 : ((z m : Int) == 0) = false := by simp; omega
            clear h0 h2 h9
            go_wp2
            go_ret2
            exact ⟨ret_pair (by rw [HE.out.1]; omega) (by rw [HE.out.2]; rfl), rfl⟩
        · have t2 : decide ((z m : Int) < 128) = false := by simp; omega
          have HZ2 : Hid (∀ j, j < m + 1 → 128 ≤ z j) := fun j hj => by
            by_cases q : j = m
            · rw [q]; omega
            · exact HZ j (by omega)
          have hm8 : m + 1 ≤ 9 := by omega
          clear h2 h9
          go_wp2
          go_round
          case rel => exact ⟨m + 1, by omega, hm8, by go_num, HZ2⟩
          case measure => simp [intOf]; omega
    · obtain rfl : m = n := by omega
      have HE := Lib.hid (rd_one HD.out (rd_short hm9 HZ.out))
      go_wp2
      go_ret2
      exact ⟨ret_pair (by rw [HE.out.1]; rfl) (by rw [HE.out.2]; rfl), rfl⟩
#print axioms run_any

/-! ### halves -/
theorem val_mono (z : Nat → Nat) {i j : Nat} (h : i ≤ j) : val z i ≤ val z j := by
  induction j with
  | zero => obtain rfl : i = 0 := by omega
            exact Nat.le_refl _
  | succ j ih =>
    by_cases q : i = j + 1
    · rw [q]; exact Nat.le_refl _
    · exact Nat.le_trans (ih (by omega)) (Nat.le_add_right _ _)
def pw7 (k : Nat) : Nat := 64 * 128 ^ (if k < 9 then k else 8)
theorem pw7_zero : pw7 0 = 64 := by decide
theorem pw7_next {k : Nat} (h : k < 8) : pw7 (k + 1) = pw7 k * 128 := by unfold pw7; rw [if_pos (by omega), if_pos (by omega), Nat.pow_succ]; omega
theorem pw7_last : pw7 9 = pw7 8 := by decide
theorem pw7_le {k : Nat} (h : k ≤ 8) : pw7 k ≤ 4611686018427387904 := by
  unfold pw7
  rw [if_pos (by omega)]
  have : 128 ^ k ≤ 128 ^ 8 := Nat.pow_le_pow_right (by omega) h
  have e : (128 : Nat) ^ 8 = 72057594037927936 := by decide
  omega
theorem pw7_le8 {k : Nat} (h : k < 8) : pw7 k * 128 ≤ 4611686018427387904 := by rw [← pw7_next h]; exact pw7_le (by omega)
theorem half_step (z : Nat → Nat) {k : Nat} (h : k ≤ 8) : val z (k + 2) / 2 = val z (k + 1) / 2 + z (k + 1) % 128 * pw7 k := by
  rw [half_next]; unfold pw7; rw [if_pos (by omega)]
set_option maxHeartbeats 1000000 in
set_option maxRecDepth 100000 in
theorem halves_any (A : Option Addr) (m C : Nat) (z : Nat → Nat) (w : World) (h : RowV w (.slice A m C) m z) (hm : 0 < m) (hm10 : m ≤ 10) (hv : val z m < 18446744073709551616) :
    Calls Try.prog 40 #[.slice A m C] w fun en w' => en = .returned (.tuple #[.int .i64 ((val z m / 2 : Nat) : Int), .int .i64 ((val z m % 2 : Nat) : Int)]) ∧ w = w' := by
  have HV := Lib.hid h
  have HT := Lib.hid hv
  obtain ⟨b, o, rfl, hc⟩ := h.at hm
  have c0 := hc 0 hm
  have HC := Lib.hid hc
  have hz := h.bytes 0 hm
  have H0 := Lib.hid (show (z 0 : Int) % 128 / 2 = ((val z (0 + 1) / 2 : Nat) : Int) by rw [half_zero]; omega)
  have HO := Lib.hid (show (z 0 : Int) % 2 = ((val z m % 2 : Nat) : Int) by
    obtain ⟨j, rfl⟩ : ∃ j, m = j + 1 := ⟨m - 1, by omega⟩
    rw [odd_is]; omega)
  rw [Nat.add_zero] at c0
  have hmm : (m : Int) ≠ 0 := by omega
  clear h hv hc
  go_enter Try.func40, Try.ntmps40
  go_wp2
  go_loop [4, 6, 7] (fun hf p q => ∃ i : Nat, i + 1 ≤ m ∧ q = .int .i64 ((i : Int) + 1) ∧ p = .int .i64 (pw7 i : Int) ∧ hf = .int .i64 ((val z (i + 1) / 2 : Nat) : Int)) (fun _ _ q => m - (intOf q).toNat)
  case atStart => exact ⟨0, hm, rfl, by rw [pw7_zero]; rfl, int_eq H0.out⟩
  case round =>
    obtain ⟨i, hi, rfl, rfl, rfl⟩ := hrel
    by_cases hlt : i + 1 < m
    · have c1 := HC.out (i + 1) hlt
      have hz1 := HV.out.bytes (i + 1) hlt
      have hstep := half_step z (k := i) (by omega)
      have hmono := val_mono z (show i + 2 ≤ m by omega)
      have hpl := pw7_le (k := i) (by omega)
      have HN8 : Hid (i < 8 → pw7 (i + 1) = pw7 i * 128) := fun h => pw7_next h
      have HL9 : Hid (i < 8 → pw7 i * 128 ≤ 4611686018427387904) := fun h => pw7_le8 h
      have HL8 : Hid (i = 8 → pw7 (i + 1) = pw7 i) := fun h => by subst h; exact pw7_last
      have t1 : decide ((i : Int) + 1 < (m : Int)) = true := by simp; omega
      obtain ⟨H, hH⟩ : ∃ H, H = val z (i + 1) / 2 := ⟨_, rfl⟩
      obtain ⟨P, hP⟩ : ∃ P, P = pw7 i := ⟨_, rfl⟩
      obtain ⟨X, hX⟩ : ∃ X, X = z (i + 1) := ⟨_, rfl⟩
      obtain ⟨Q, hQ⟩ : ∃ Q, Q = X % 128 * P := ⟨_, rfl⟩
      rw [← hH, ← hX, ← hP, ← hQ] at hstep
      rw [← hX] at c1 hz1
      rw [← hP] at hpl HN8 HL8 HL9 ⊢
      rw [← hH]
      have hlim : H + Q ≤ 9223372036854775807 := by have := HT.out; omega
      have e0 : (X : Int) % 128 * (P : Int) = (Q : Int) := by rw [hQ]; simp
      have e1 : IntKind.i64.wrap ((X : Int) % 128 * (P : Int)) = (Q : Int) := by rw [e0]; exact IntWalk.i64_in _ (by omega)
      have e2 : wrap64 ((X : Int) % 128 * (P : Int)) = (Q : Int) := by rw [e0]; exact IntWalk.wrap64_in _ (by omega)
      have HST := Lib.hid hstep
      clear hH hP hX hQ hstep hmono e0
      by_cases h8 : i < 8
      · have HP8 := Lib.hid (HN8.out h8)
        have hpl2 : P * 128 ≤ 9223372036854775807 := by have := HL9.out h8; omega
        have t2 : decide ((i : Int) + 1 < 9) = true := by simp; omega
        clear hpl
        go_wp2
        go_round
        case rel => exact ⟨i + 1, hlt, by go_num, by rw [HP8.out]; go_num, by rw [HST.out]; go_num⟩
        case measure => simp [intOf]; omega
      · have HP8 := Lib.hid (HL8.out (by omega))
        have t2 : decide ((i : Int) + 1 < 9) = false := by simp; omega
        clear hpl
        go_wp2
        go_round
        case rel => exact ⟨i + 1, hlt, by go_num, by rw [HP8.out], by rw [HST.out]; go_num⟩
        case measure => simp [intOf]; omega
    · obtain rfl : i + 1 = m := by omega
      have t1 : decide ((i : Int) + 1 < ((i + 1 : Nat) : Int)) = false := by simp
      go_wp2
      go_ret2
      exact ⟨ret_pair rfl HO.out, rfl⟩
#print axioms halves_any
end Go.Proofs.Ytkpahhioiefcbaa
