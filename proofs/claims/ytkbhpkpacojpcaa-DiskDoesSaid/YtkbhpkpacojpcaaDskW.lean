/-
  law06.has, and the chapter's examples (awake), walked.
-/
import Derived.Test.YtkbhpkpacojpcaaDskJ
import Derived.Test.YtkbhpkpacojpcaaDskG
namespace Go.Proofs.Ytkbhpkpacojpcaa
open Go.RowKit
set_option linter.unusedVariables false

theorem DPost.told {base : Nat} {p : Ph} {d d' : Dev} {r : Value} {w0 w w' : World} {e : Ending} (h : DPost base p d d' r w e w') (h0 : DevIs base w p d) (hb : w0.heap.size ≤ base) (hc : Ch (fun _ => False) w0 w) :
    e = .returned r ∧ ∃ p', p'.B = p.B ∧ DevIs base w' p' d' ∧ Ch (fun _ => False) w0 w' := by
  obtain ⟨h1, p', h2, h3, _, h5⟩ := h
  exact ⟨h1, p', h2, h3, hc.new (h5.mono fun i _ hi => Nat.le_trans hb (h0.foot hi).1)⟩
/-- Has a sector, as it is read, that byte throughout? -/
def hasP (d : Dev) (a : Int) (b : Nat) : Bool := decide (readE d a = 0) && eqB (readL d a) 256 (readZ d a) (fun _ => b)
theorem eqB_yes {n m : Nat} {z y : Nat → Nat} (h : n = m) (k : ∀ c, c < n → z c = y c) : eqB n m z y = true := decide_eq_true ⟨h, k⟩
theorem hasP_yes {d : Dev} {a : Int} {b : Nat} (h : readE d a = 0) (h2 : ∀ c, c < 256 → readZ d a c = b) : hasP d a b = true := by
  unfold hasP
  have e : readL d a = 256 := by unfold readL; rw [if_pos h]
  rw [decide_eq_true h, Bool.true_and]
  exact eqB_yes e (fun c hc => h2 c (by omega))
set_option maxHeartbeats 800000 in
theorem lhas_any (base : Nat) (p : Ph) (d : Dev) (a : Int) (b : Nat) (hb : b < 256) (w : World) (h : DevIs base w p d) (ho : d.ops ≤ 1152921504606846976) (hW : d.W.length ≤ 1048576) :
    Calls Try.prog 19 #[.pointer (some ⟨p.B, 0, none⟩), .int .i64 a, .int .u8 (b : Int)] w (DPost base p d (readD d a) (.bool (hasP d a b)) w) := by
  have HR := Lib.hid (read_any base p d a w h ho hW)
  have hZ : Bytes (readL d a) (readZ d a) := fun c hc => by
    unfold readL at hc
    by_cases q : readE d a = 0
    · rw [if_pos q] at hc
      by_cases q2 : openE d a = 0
      · obtain ⟨_, k, rfl, hk⟩ := openE_ok q2
        unfold readZ
        rw [Int.toNat_natCast]
        cases hl : lastW d.W k with
        | none => exact h.byt k c hk hc
        | some x => exact (h.wok x (scan_mem hl).1).2 c hc
      · unfold readE at q; rw [if_neg q2] at q; exact (q2 q).elim
    · rw [if_neg q] at hc; omega
  have HZ := Lib.hid hZ
  have HL := Lib.hid (show readL d a ≤ 256 by unfold readL; split <;> omega)
  have HN := Lib.hid (show (readD d a).n = d.n by unfold readD; split <;> rfl)
  clear hZ h
  by_cases he : readE d a = 0
  · have HS : Hid (∀ x, hasP d a b = x ↔ eqB (readL d a) 256 (readZ d a) (fun _ => b) = x) := fun x => by unfold hasP; rw [decide_eq_true he, Bool.true_and]
    have t1 : (readE d a == 0) = true := by simpa using he
    clear he
    go_enter Try.func19, Try.ntmps19
    go_wp2_with fail
    refine HR.out.mono ?_
    rintro e w1 ⟨v, rfl, h1, hv, hc1⟩
    have hr := ownsRow_rowV hv (by have := HL.out; omega) HZ.out
    obtain ⟨A, C, rfl, _⟩ := id hr
    have H1 := Lib.hid h1
    have HRV := Lib.hid hr
    have HC1 := Lib.hid hc1
    clear hv hr h1 hc1
    go_wp2_with fail
    refine (sector_any b hb _).mono ?_
    rintro e w2 ⟨b2, rfl, h2, hb2, hc2⟩
    have HR2 := Lib.hid (rowIs_rowV h2 (by omega) (fun _ _ => hb))
    have HC2 := Lib.hid hc2
    clear h2 hc2 hb2
    go_wp2_with fail
    refine (same_any _ _ _ _ _ _ _ _ _ (HRV.out.gr HC2.out) HR2.out).mono ?_
    rintro e w3 ⟨rfl, n, rfl⟩
    have HP := Lib.hid (show DPost base p d (readD d a) (.bool (hasP d a b)) w (.returned (.bool (eqB (readL d a) 256 (readZ d a) (fun _ => b)))) (w2.drewN n) from
      ⟨by rw [(HS.out _).2 rfl], p, rfl, (H1.out.gr HC2.out).gr ((Ch.refl _ _).drewN n), fun i hi => Or.inl ((foot_n HN.out).1 hi), (HC1.out.trans (HC2.out.mono fun _ _ f => f.elim)).drewN n⟩)
    go_wp2
    go_ret
    exact HP.out
  · have HS := Lib.hid (show hasP d a b = false by unfold hasP; rw [decide_eq_false he, Bool.false_and])
    have t1 : (readE d a == 0) = false := by simpa using he
    rw [HS.out]
    clear he
    go_enter Try.func19, Try.ntmps19
    go_wp2_with fail
    refine HR.out.mono ?_
    rintro e w1 ⟨v, rfl, h1, hv, hc1⟩
    have hr := ownsRow_rowV hv (by have := HL.out; omega) HZ.out
    obtain ⟨A, C, rfl, _⟩ := id hr
    have H1 := Lib.hid h1
    have HRV := Lib.hid hr
    have HC1 := Lib.hid hc1
    clear hv hr h1 hc1
    go_wp2_with fail
    refine (sector_any b hb _).mono ?_
    rintro e w2 ⟨b2, rfl, h2, hb2, hc2⟩
    have HR2 := Lib.hid (rowIs_rowV h2 (by omega) (fun _ _ => hb))
    have HC2 := Lib.hid hc2
    clear h2 hc2 hb2
    go_wp2_with fail
    refine (same_any _ _ _ _ _ _ _ _ _ (HRV.out.gr HC2.out) HR2.out).mono ?_
    rintro e w3 ⟨rfl, n, rfl⟩
    have HP := Lib.hid (show DPost base p d (readD d a) (.bool false) w (.returned (.bool false)) (w2.drewN n) from
      ⟨rfl, p, rfl, (H1.out.gr HC2.out).gr ((Ch.refl _ _).drewN n), fun i hi => Or.inl ((foot_n HN.out).1 hi), (HC1.out.trans (HC2.out.mono fun _ _ f => f.elim)).drewN n⟩)
    go_wp2
    go_ret
    exact HP.out
#print axioms lhas_any

/-! ### one device, of one's own -/
/-- Behind w0 there is a device at B, and nothing old has turned. -/
def One (w0 : World) (B : Nat) (d : Dev) (w : World) : Prop := Ch (fun _ => False) w0 w ∧ ∃ p : Ph, p.B = B ∧ DevIs w0.heap.size w p d
theorem One.ch {w0 w : World} {B : Nat} {d : Dev} (h : One w0 B d w) : Ch (fun _ => False) w0 w := h.1
theorem One.gr {w0 w w' : World} {B : Nat} {d : Dev} (h : One w0 B d w) (k : Ch (fun _ => False) w w') : One w0 B d w' := by
  obtain ⟨h1, p, h2, h3⟩ := h
  exact ⟨h1.trans k, p, h2, h3.gr k⟩
/-- An answer, and the device behind it. -/
def OneP (w0 : World) (B : Nat) (d : Dev) (r : Value) (e : Ending) (w' : World) : Prop := e = .returned r ∧ One w0 B d w'
theorem DPost.one {p : Ph} {d d' : Dev} {r : Value} {w0 w w' : World} {e : Ending} (h : DPost w0.heap.size p d d' r w e w') (h0 : DevIs w0.heap.size w p d) (hc : Ch (fun _ => False) w0 w) : OneP w0 p.B d' r e w' := by
  obtain ⟨h1, p', h2, h3, h4⟩ := h.told h0 (Nat.le_refl _) hc
  exact ⟨h1, h4, p', h2, h3⟩
/-- How much has happened to it. -/
structure Lim (d : Dev) (t : Nat) : Prop where
  ops : d.ops ≤ t
  W : d.W.length ≤ t
  drops : ∀ a, d.drops a ≤ 1000 * t
section
variable {w0 w : World} {B : Nat} {d : Dev}
theorem One.write {w1 : World} {a : Int} {b bb t : Nat} (h : One w0 B d w) (h1 : w1.rowIs b /-t-/5 256 (fun i => .int .u8 (((fun _ => bb) i : Nat) : Int))) (hbb : bb < 256) (hb : w.heap.size ≤ b) (hc : Ch (fun _ => False) w w1) (hl : Lim d t) (ht : t ≤ 1000000) :
    Calls Try.prog 15 #[.pointer (some ⟨B, 0, none⟩), .int .i64 a, .slice (some ⟨b, 0, none⟩) 256 256] w1 (OneP w0 B (writeD d a 256 (fun _ => bb)) (.int .i64 (writeE d a 256))) := by
  obtain ⟨k, p, rfl, h3⟩ := h
  refine (write_any _ p d a b 0 256 256 (fun _ => bb) w1 (h3.gr hc) (rowIs_rowV h1 (by omega) (fun _ _ => hbb)) (fun q => by have := (h3.foot q).2; omega) (by have := hl.ops; omega) (by have := hl.W; omega) (fun a => by have := hl.drops a; omega)).mono ?_
  exact fun e w' hp => hp.one (h3.gr hc) (k.trans hc)
theorem One.has {a : Int} {b t : Nat} (h : One w0 B d w) (hb : b < 256) (hl : Lim d t) (ht : t ≤ 1000000) :
    Calls Try.prog 19 #[.pointer (some ⟨B, 0, none⟩), .int .i64 a, .int .u8 (b : Int)] w (OneP w0 B (readD d a) (.bool (hasP d a b))) := by
  obtain ⟨k, p, rfl, h3⟩ := h
  exact (lhas_any _ p d a b hb w h3 (by have := hl.ops; omega) (by have := hl.W; omega)).mono fun e w' hp => hp.one h3 k
theorem One.flush {t : Nat} (h : One w0 B d w) (hl : Lim d t) (ht : t ≤ 1000000) : Calls Try.prog 17 #[.pointer (some ⟨B, 0, none⟩)] w (OneP w0 B (flushD d) (.int .i64 (flushE d))) := by
  obtain ⟨k, p, rfl, h3⟩ := h
  exact (flush_any _ p d w h3 (by have := hl.W; omega)).mono fun e w' hp => hp.one h3 k
theorem One.crash0 {t C : Nat} (h : One w0 B d w) (hl : Lim d t) (ht : t ≤ 1000000) : Calls Try.prog 18 #[.pointer (some ⟨B, 0, none⟩), .slice none 0 C] w (OneP w0 B (crashD d 0 (fun _ => false)) (.tuple #[])) := by
  obtain ⟨k, p, rfl, h3⟩ := h
  exact (crash_any _ p d none 0 C (fun _ => false) w h3 (by have := hl.W; omega) ⟨none, C, rfl, by omega, fun h => absurd h (Nat.lt_irrefl 0)⟩ (fun b o e => by cases e)).mono fun e w' hp => hp.one h3 k
theorem One.drop {t : Nat} {f : Fa} (h : One w0 B d w) (hk : f.kind = 4) (hf : FaOk f) (hp : hasB d f.pl = true) (hl : Lim d t) (ht : t ≤ 1000000) : Calls Try.prog 22 #[.pointer (some ⟨B, 0, none⟩), .agg (faC f)] w (OneP w0 B (dropD d f) (.int .i64 (dropE f))) := by
  obtain ⟨k, p, rfl, h3⟩ := h
  exact (fault_drop _ p d (dropD d f) (.int .i64 (dropE f)) f w h3 hp hk (fun w' h' => drop_any _ p d f w' h' hf (of_decide_eq_true hp) (fun a => by have := hl.drops a; omega))).mono fun e w' hp => hp.one h3 k
theorem One.len (h : One w0 B d w) : Calls Try.prog 25 #[.pointer (some ⟨B, 0, none⟩)] w fun e w' => e = .returned (.int .i64 (d.n : Int)) ∧ w = w' := by
  obtain ⟨k, p, rfl, h3⟩ := h
  exact len_any _ p d w h3
theorem One.new (n : Nat) (w : World) (h : 1 ≤ n) (h2 : n ≤ 4096) (w0 : World) (hc : Ch (fun _ => False) w0 w) : Calls Try.prog 10 #[.int .i64 (n : Int)] w fun e w' => ∃ B, e = .returned (.tuple #[.pointer (some ⟨B, 0, none⟩), .int .i64 0]) ∧ One w0 B (dev0 n) w' := by
  refine (new_any n w h h2).mono ?_
  rintro e w' ⟨p, h1, h3, h4⟩
  refine ⟨p.B, h1, hc.trans h4, p, rfl, ?_⟩
  have hb := hc.size
  refine ⟨h3.blk, h3.sec, ?_, h3.ms, h3.inj, Nat.le_trans hb h3.lowB, Nat.le_trans hb h3.lowG, fun a ha i hi => Nat.le_trans hb (h3.lowM a ha i hi), h3.byt, h3.wok, h3.mok, h3.nn, h3.lf⟩
  refine ⟨h3.wts.1, ?_⟩
  rcases h3.wts.2 with q | ⟨g, cap, cur, q1, q2, q3⟩
  · exact Or.inl q
  · exact Or.inr ⟨g, cap, cur, q1, Nat.le_trans hb q2, q3⟩
end

/-! ### awake -/
def mkD (o : Nat) (dr : Nat → Nat) (W : List Wt) : Dev := { dev0 2 with ops := o, drops := dr, W := W }
def z0 : Nat → Nat := fun _ => 0
theorem mkD_lim {o : Nat} {dr : Nat → Nat} {W : List Wt} (h : o ≤ 10) (h2 : W.length ≤ 10) (h3 : ∀ a, dr a ≤ 1) : Lim (mkD o dr W) 10 := ⟨h, h2, fun a => Nat.le_trans (h3 a) (by omega)⟩
def f4 : Fa := ⟨4, 0, 0, 1, 0, 0, 0, 0, 0⟩
theorem i64_lit {x : Int} (h : -9223372036854775808 ≤ x ∧ x ≤ 9223372036854775807) : I64 x := h
theorem ok4 : FaOk f4 := ⟨i64_lit (by decide), i64_lit (by decide), i64_lit (by decide), i64_lit (by decide), i64_lit (by decide), by decide, by decide, by decide, by decide⟩
theorem z0_le : ∀ a, z0 a ≤ 1 := fun a => Nat.zero_le _
theorem up_le {f : Nat → Nat} {b x : Nat} (h : ∀ a, f a ≤ 1) (hx : x ≤ 1) : ∀ a, up f b x a ≤ 1 := fun a => by unfold up; split; exact hx; exact h a
set_option maxHeartbeats 3200000 in
set_option maxRecDepth 100000 in
theorem awake_any (w : World) : Calls Try.prog 9 #[] w (Told w) := by
  go_enter Try.func9, Try.ntmps9
  go_wp2_with fail
  refine (show Calls Try.prog _ #[.int .i64 2] _ _ from One.new 2 w (by omega) (by omega) w (Ch.refl _ _)).mono ?_
  rintro e w1 ⟨B, rfl, h1⟩
  have H1 := Lib.hid (show One w B (mkD 0 z0 []) w1 from h1)
  clear h1
  go_wp2_with fail
  refine (show Calls Try.prog _ #[.int .u8 1] _ _ from sector_any 1 (by omega) _).mono ?_
  rintro e w2 ⟨b2, rfl, h2, hb2, hc2⟩
  have HX := Lib.hid (H1.out.write (a := 0) h2 (by omega) hb2 hc2 (mkD_lim (by omega) (by decide) z0_le) (by omega))
  clear h2 hb2 hc2
  go_wp2_with fail
  refine HX.out.mono ?_
  rintro e w3 ⟨rfl, h3⟩
  have H3 := Lib.hid (show One w B (mkD 1 z0 [⟨0, fun _ => 1⟩]) w3 from h3)
  rw [show writeE (mkD 0 z0 []) 0 256 = 0 from rfl]
  clear h3 HX H1
  go_wp2_with fail
  refine (show Calls Try.prog _ #[_, .int .i64 0, .int .u8 1] _ _ from H3.out.has (a := 0) (b := 1) (by omega) (mkD_lim (by omega) (by decide) z0_le) (by omega)).mono ?_
  rintro e w4 ⟨rfl, h4⟩
  have H4 := Lib.hid (show One w B (mkD 2 z0 [⟨0, fun _ => 1⟩]) w4 from h4)
  rw [hasP_yes (d := mkD 1 z0 [⟨0, fun _ => 1⟩]) (a := 0) (b := 1) rfl (fun _ _ => rfl)]
  clear h4 H3
  go_wp2_with fail
  refine (H4.out.crash0 (mkD_lim (by omega) (by decide) z0_le) (by omega)).mono ?_
  rintro e w5 ⟨rfl, h5⟩
  have H5 := Lib.hid (show One w B (mkD 2 z0 []) w5 from h5)
  clear h5 H4
  go_wp2_with fail
  refine (show Calls Try.prog _ #[_, .int .i64 0, .int .u8 0] _ _ from H5.out.has (a := 0) (b := 0) (by omega) (mkD_lim (by omega) (by decide) z0_le) (by omega)).mono ?_
  rintro e w6 ⟨rfl, h6⟩
  have H6 := Lib.hid (show One w B (mkD 3 z0 []) w6 from h6)
  rw [hasP_yes (d := mkD 2 z0 []) (a := 0) (b := 0) rfl (fun _ _ => rfl)]
  clear h6 H5
  go_wp2_with fail
  refine (show Calls Try.prog _ #[_, .agg (faC f4)] _ _ from H6.out.drop rfl ok4 rfl (mkD_lim (by omega) (by decide) z0_le) (by omega)).mono ?_
  rintro e w7 ⟨rfl, h7⟩
  have H7 := Lib.hid (show One w B (mkD 3 (up z0 0 1) []) w7 from h7)
  rw [show dropE f4 = 0 from rfl]
  clear h7 H6
  go_wp2_with fail
  refine (show Calls Try.prog _ #[.int .u8 2] _ _ from sector_any 2 (by omega) _).mono ?_
  rintro e w8 ⟨b8, rfl, h8, hb8, hc8⟩
  have HX := Lib.hid (H7.out.write (a := 0) h8 (by omega) hb8 hc8 (mkD_lim (by omega) (by decide) (up_le z0_le (by omega))) (by omega))
  clear h8 hb8 hc8
  go_wp2_with fail
  refine HX.out.mono ?_
  rintro e w9 ⟨rfl, h9⟩
  have H9 := Lib.hid (show One w B (mkD 4 (up (up z0 0 1) 0 0) []) w9 from h9)
  clear h9 HX H7
  go_wp2_with fail
  refine (show Calls Try.prog _ #[_, .int .i64 0, .int .u8 0] _ _ from H9.out.has (a := 0) (b := 0) (by omega) (mkD_lim (by omega) (by decide) (up_le (up_le z0_le (by omega)) (by omega))) (by omega)).mono ?_
  rintro e w10 ⟨rfl, h10⟩
  have H10 := Lib.hid (show One w B (mkD 5 (up (up z0 0 1) 0 0) []) w10 from h10)
  rw [hasP_yes (d := mkD 4 (up (up z0 0 1) 0 0) []) (a := 0) (b := 0) rfl (fun _ _ => rfl)]
  clear h10 H9
  go_wp2_with fail
  refine (show Calls Try.prog _ #[.int .u8 2] _ _ from sector_any 2 (by omega) _).mono ?_
  rintro e w11 ⟨b11, rfl, h11, hb11, hc11⟩
  have HX := Lib.hid (H10.out.write (a := 0) h11 (by omega) hb11 hc11 (mkD_lim (by omega) (by decide) (up_le (up_le z0_le (by omega)) (by omega))) (by omega))
  clear h11 hb11 hc11
  go_wp2_with fail
  refine HX.out.mono ?_
  rintro e w12 ⟨rfl, h12⟩
  have H12 := Lib.hid (show One w B (mkD 6 (up (up z0 0 1) 0 0) [⟨0, fun _ => 2⟩]) w12 from h12)
  clear h12 HX H10
  go_wp2_with fail
  refine (show Calls Try.prog _ #[_, .int .i64 0, .int .u8 2] _ _ from H12.out.has (a := 0) (b := 2) (by omega) (mkD_lim (by omega) (by decide) (up_le (up_le z0_le (by omega)) (by omega))) (by omega)).mono ?_
  rintro e w13 ⟨rfl, h13⟩
  have H13 := Lib.hid (show One w B (mkD 7 (up (up z0 0 1) 0 0) [⟨0, fun _ => 2⟩]) w13 from h13)
  rw [hasP_yes (d := mkD 6 (up (up z0 0 1) 0 0) [⟨0, fun _ => 2⟩]) (a := 0) (b := 2) rfl (fun _ _ => rfl)]
  clear h13 H12
  go_wp2_with fail
  refine (show Calls Try.prog _ #[_] _ (fun e w' => e = .returned (.int .i64 2) ∧ w13 = w') from H13.out.len).mono ?_
  rintro e w14 ⟨rfl, rfl⟩
  go_wp2
  go_ret
  exact ⟨rfl, H13.out.ch⟩
#print axioms awake_any
end Go.Proofs.Ytkbhpkpacojpcaa
