/-
  The calls of gf.Field, walked: whatever field they are called on, a nil one and a zero one too.
-/
import Derived.Test.YtlgdajmidcdiaaaNew
import Derived.Deep.QuietTactic
import Derived.BigQuiet
namespace Go.Proofs.Ytlgdajmidcdiaaa
open Go.RowKit

theorem fv_ex (i : Nat) (h : i < 255) : fv 255 i = .int .u8 (Gf.ex i : Int) := by
  unfold fv fn; rw [if_pos h, if_pos h]
theorem fv_lg (a : Nat) : fv 255 (255 + a) = .int .u8 (Gf.lg a : Int) := by
  unfold fv fn; rw [if_neg (by omega), Nat.add_sub_cancel_left]; rfl
theorem full_ex {w : World} {b : Nat} (h : w.rowIs b 59 511 (fv 255)) (i : Nat) (hi : i < 255) : w.cell? ⟨b, i, none⟩ = some (.int .u8 (Gf.ex i : Int)) := by
  rw [h.cell (by omega), fv_ex i hi]
theorem full_lg {w : World} {b : Nat} (h : w.rowIs b 59 511 (fv 255)) (a : Nat) (ha : a < 256) : w.cell? ⟨b, 255 + a, none⟩ = some (.int .u8 (Gf.lg a : Int)) := by
  rw [h.cell (by omega), fv_lg a]

def FullPost (b : Nat) (w : World) (e : Ending) (w' : World) : Prop := e = .returned (.pointer (some ⟨b, 0, none⟩)) ∧ w = w'
set_option maxHeartbeats 400000 in
theorem filled_full (b : Nat) (w : World) (h : w.rowIs b 59 511 (fv 255)) :
    Calls Try.prog 56 #[.pointer (some ⟨b, 0, none⟩)] w (FullPost b w) := by
  have c : w.cell? ⟨b, 0, none⟩ = some (.int .u8 1) := full_ex h 0 (by omega)
  clear h
  go_enter Try.func56, Try.ntmps56
  go_wp2
  go_ret
  exact ⟨rfl, rfl⟩
set_option maxHeartbeats 400000 in
theorem filled_nil (w : World) : Calls Try.prog 56 #[.pointer none] w (NewPost w) := by
  go_enter Try.func56, Try.ntmps56
  go_wp2_with (go_at_call 33; refine (new_any _).mono ?_; rintro e w' ⟨rfl, h1, h2⟩)
  go_ret
  exact ⟨rfl, by assumption, by assumption⟩
set_option maxHeartbeats 400000 in
theorem filled_zero (b : Nat) (w : World) (c : w.cell? ⟨b, 0, none⟩ = some (.int .u8 0)) : Calls Try.prog 56 #[.pointer (some ⟨b, 0, none⟩)] w (NewPost w) := by
  go_enter Try.func56, Try.ntmps56
  go_wp2_with (go_at_call 33; refine (new_any _).mono ?_; rintro e w' ⟨rfl, h1, h2⟩)
  go_ret
  exact ⟨rfl, by assumption, by assumption⟩
def Rv (w : World) (v : Value) : Prop := v = .pointer none ∨ ∃ b, v = .pointer (some ⟨b, 0, none⟩) ∧ b < w.heap.size ∧ (w.cell? ⟨b, 0, none⟩ = some (.int .u8 0) ∨ w.rowIs b 59 511 (fv 255))
theorem Rv.full {w : World} {b : Nat} (h : w.rowIs b 59 511 (fv 255)) : Rv w (.pointer (some ⟨b, 0, none⟩)) := Or.inr ⟨b, rfl, h.lt, Or.inr h⟩
theorem Rv.gr {w w' : World} {v : Value} (h : Rv w v) (k : Gr w.heap.size w w') : Rv w' v := by
  rcases h with h | ⟨b, h, hb, hc⟩
  · exact Or.inl h
  · refine Or.inr ⟨b, h, Nat.lt_of_lt_of_le hb k.1.size, ?_⟩
    rcases hc with hc | hc
    · exact Or.inl ((k.1.cell (p := ⟨b, 0, none⟩) hb).trans hc)
    · exact Or.inr (k.rowIs hb hc)
def FillPost (w : World) (e : Ending) (w' : World) : Prop := ∃ b, e = .returned (.pointer (some ⟨b, 0, none⟩)) ∧ w'.rowIs b 59 511 (fv 255) ∧ Gr w.heap.size w w'
theorem filled_any (v : Value) (w : World) (h : Rv w v) : Calls Try.prog 56 #[v] w (FillPost w) := by
  rcases h with rfl | ⟨b, rfl, hb, hc | hc⟩
  · exact (filled_nil w).mono fun e w' ⟨h1, h2, h3⟩ => ⟨_, h1, h2, h3⟩
  · exact (filled_zero b w hc).mono fun e w' ⟨h1, h2, h3⟩ => ⟨_, h1, h2, h3⟩
  · refine (filled_full b w hc).mono ?_
    rintro e w' ⟨h1, rfl⟩
    exact ⟨b, h1, hc, Gr.refl _ _⟩

def er (n : Int) : Nat := (n % 255).toNat
theorem er_lt (n : Int) : er n < 255 := by unfold er; omega
theorem er_neg (n : Int) (h : n < 0) : (n.tmod 255 < 0 ∧ -255 < n.tmod 255 ∧ (n.tmod 255 + 255).toNat = er n) ∨ (n.tmod 255 = 0 ∧ er n = 0) := by
  unfold er
  have e : n.tmod 255 = -((-n) % 255) := by
    have := Int.neg_tmod (-n) 255
    rw [Int.neg_neg] at this
    rw [this, Int.tmod_eq_emod_of_nonneg (by omega)]
  omega
def ExpFull (n : Int) (w : World) (e : Ending) (w' : World) : Prop := e = .returned (.int .u8 (Gf.ex (er n) : Int)) ∧ w = w'
def ExpPost (n : Int) (w : World) (e : Ending) (w' : World) : Prop := e = .returned (.int .u8 (Gf.ex (er n) : Int)) ∧ Gr w.heap.size w w'
set_option maxHeartbeats 400000 in
theorem exp_full (b : Nat) (n : Int) (n0 : -9223372036854775808 ≤ n) (n1 : n ≤ 9223372036854775807) (w : World) (h : w.rowIs b 59 511 (fv 255)) :
    Calls Try.prog 57 #[.pointer (some ⟨b, 0, none⟩), .int .i64 n] w (ExpFull n w) := by
  have H := Lib.hid h
  clear h
  by_cases hn : 0 ≤ n
  · have c : w.cell? ⟨b, (n % 255).toNat, none⟩ = some (.int .u8 (Gf.ex (er n) : Int)) := full_ex H.out (er n) (er_lt n)
    have h1 : 0 ≤ n % 255 := by omega
    have h2 : n % 255 < 255 := by omega
    go_enter Try.func57, Try.ntmps57
    go_wp2_with (go_at_call 56; refine (filled_full _ _ H.out).mono ?_; rintro e w' ⟨rfl, rfl⟩)
    go_ret
    exact ⟨rfl, rfl⟩
  · rcases er_neg n (by omega) with ⟨h1, h2, h3⟩ | ⟨h1, h2⟩
    · have c : w.cell? ⟨b, (n.tmod 255 + 255).toNat, none⟩ = some (.int .u8 (Gf.ex (er n) : Int)) := by rw [h3]; exact full_ex H.out (er n) (er_lt n)
      clear h3
      go_enter Try.func57, Try.ntmps57
      go_wp2_with (go_at_call 56; refine (filled_full _ _ H.out).mono ?_; rintro e w' ⟨rfl, rfl⟩)
      go_ret
      exact ⟨rfl, rfl⟩
    · have c := full_ex H.out 0 (by omega)
      have H2 := Lib.hid h2
      clear h2
      go_enter Try.func57, Try.ntmps57
      go_wp2_with (go_at_call 56; refine (filled_full _ _ H.out).mono ?_; rintro e w' ⟨rfl, rfl⟩)
      go_ret
      exact ⟨ret_int (by rw [H2.out]), rfl⟩
set_option maxHeartbeats 400000 in
theorem exp_any (v : Value) (n : Int) (n0 : -9223372036854775808 ≤ n) (n1 : n ≤ 9223372036854775807) (w : World) (h : Rv w v) :
    Calls Try.prog 57 #[v, .int .i64 n] w (ExpPost n w) := by
  by_cases hn : 0 ≤ n
  · have h1 : 0 ≤ n % 255 := by omega
    have h2 : n % 255 < 255 := by omega
    go_enter Try.func57, Try.ntmps57
    go_wp2_with fail
    refine (filled_any _ _ h).mono ?_
    rintro e w1 ⟨b, rfl, hr, hg⟩
    have c : w1.cell? ⟨b, (n % 255).toNat, none⟩ = some (.int .u8 (Gf.ex (er n) : Int)) := full_ex hr (er n) (er_lt n)
    go_wp2
    go_ret
    exact ⟨rfl, hg⟩
  · rcases er_neg n (by omega) with ⟨h1, h2, h3⟩ | ⟨h1, h2⟩
    · have H3 := Lib.hid h3
      clear h3
      go_enter Try.func57, Try.ntmps57
      go_wp2_with fail
      refine (filled_any _ _ h).mono ?_
      rintro e w1 ⟨b, rfl, hr, hg⟩
      have c : w1.cell? ⟨b, (n.tmod 255 + 255).toNat, none⟩ = some (.int .u8 (Gf.ex (er n) : Int)) := by rw [H3.out]; exact full_ex hr (er n) (er_lt n)
      go_wp2
      go_ret
      exact ⟨rfl, hg⟩
    · have H2 := Lib.hid h2
      clear h2
      go_enter Try.func57, Try.ntmps57
      go_wp2_with fail
      refine (filled_any _ _ h).mono ?_
      rintro e w1 ⟨b, rfl, hr, hg⟩
      have c := full_ex hr 0 (by omega)
      go_wp2
      go_ret
      exact ⟨ret_int (by rw [H2.out]), hg⟩

/-- The error: 8 (ErrZero) of nothing, else none. -/
def ze (a : Nat) : Int := if a = 0 then 8 else 0
def lv (a : Nat) : Int := if a = 0 then 0 else (Gf.lg a : Int)
def qv (a b : Nat) : Int := if b = 0 then 0 else (Gf.quo a b : Int)
theorem ze_pos {a : Nat} (h : ¬ a = 0) : ze a = 0 := if_neg h
theorem lv_pos {a : Nat} (h : ¬ a = 0) : lv a = (Gf.lg a : Int) := if_neg h
theorem qv_pos {a b : Nat} (h : ¬ b = 0) : qv a b = (Gf.quo a b : Int) := if_neg h
theorem ret_pair {k l : IntKind} {a b c d : Int} (h : a = c) (h2 : b = d) : Ending.returned (.tuple #[.int k a, .int l b]) = .returned (.tuple #[.int k c, .int l d]) := by rw [h, h2]
def LogPost (a : Nat) (w : World) (e : Ending) (w' : World) : Prop :=
  e = .returned (.tuple #[.int .i64 (lv a), .int .i64 (ze a)]) ∧ Gr w.heap.size w w'
theorem exp_quiet (b : Nat) (n : Int) (n0 : -9223372036854775808 ≤ n) (n1 : n ≤ 9223372036854775807) (w : World) (k : Nat) (h : w.rowIs b 59 511 (fv 255)) :
    Calls Try.prog 57 #[.pointer (some ⟨b, 0, none⟩), .int .i64 n] (w.drewN k) fun e w' => e = .returned (.int .u8 (Gf.ex (er n) : Int)) ∧ ∃ m, w' = w.drewN m :=
  (exp_full b n n0 n1 (w.drewN k) h).mono fun _ _ ⟨he, hw⟩ => ⟨he, k, hw.symm⟩

def MulPost (a b : Nat) (w : World) (e : Ending) (w' : World) : Prop := e = .returned (.int .u8 (Gf.mul a b : Int)) ∧ Gr w.heap.size w w'
theorem er_sum (x y : Nat) : er ((x : Int) + (y : Int)) = (x + y) % 255 := by unfold er; omega
theorem er_dif (x y : Nat) (h : y ≤ 255) : er ((x : Int) - (y : Int)) = (x + 255 - y) % 255 := by unfold er; omega
set_option maxHeartbeats 400000 in
theorem mul_any (v : Value) (a b : Int) (a0 : 0 ≤ a) (a1 : a < 256) (b0 : 0 ≤ b) (b1 : b < 256) (w : World) (h : Rv w v) :
    Calls Try.prog 50 #[v, .int .u8 a, .int .u8 b] w (MulPost a.toNat b.toNat w) := by
  by_cases ha : a = 0
  · subst ha
    go_enter Try.func50, Try.ntmps50
    go_wp2
    go_ret
    exact ⟨ret_int (by rw [show (0 : Int).toNat = 0 from rfl, Gf.zero_mul]; rfl), Gr.refl _ _⟩
  by_cases hb : b = 0
  · subst hb
    have ha' : (a == 0) = false := by rw [beq_eq_false_iff_ne]; exact ha
    go_enter Try.func50, Try.ntmps50
    go_wp2
    go_ret
    exact ⟨ret_int (by rw [show (0 : Int).toNat = 0 from rfl, Gf.mul_zero]; rfl), Gr.refl _ _⟩
  have ha' : (a == 0) = false := by rw [beq_eq_false_iff_ne]; exact ha
  have hb' : (b == 0) = false := by rw [beq_eq_false_iff_ne]; exact hb
  have HM := Lib.hid (Gf.mul_of (a := a.toNat) (b := b.toNat) (by omega) (by omega))
  clear ha hb
  go_enter Try.func50, Try.ntmps50
  go_wp2_with fail
  refine (filled_any _ _ h).mono ?_
  rintro e w1 ⟨g, rfl, hr, hg⟩
  have c1 := full_lg hr a.toNat (by omega)
  have c2 := full_lg hr b.toNat (by omega)
  have l1 := Gf.lg_le a.toNat
  have l2 := Gf.lg_le b.toNat
  have HE := Lib.hid (er_sum (Gf.lg a.toNat) (Gf.lg b.toNat))
  have HR := Lib.hid hr
  clear hr h
  go_wp2
  go_quiet ((go_at_call 57; exact exp_quiet _ _ (by omega) (by omega) _ _ HR.out))
  go_wp2
  go_ret
  refine ⟨ret_int ?_, hg.drewN _⟩
  rw [HM.out, HE.out, Gf.ex_mod]

def DivPost (a b : Nat) (w : World) (e : Ending) (w' : World) : Prop :=
  e = .returned (.tuple #[.int .u8 (qv a b), .int .i64 (ze b)]) ∧ Gr w.heap.size w w'
set_option maxHeartbeats 400000 in
theorem div_any (v : Value) (a b : Int) (a0 : 0 ≤ a) (a1 : a < 256) (b0 : 0 ≤ b) (b1 : b < 256) (w : World) (h : Rv w v) :
    Calls Try.prog 51 #[v, .int .u8 a, .int .u8 b] w (DivPost a.toNat b.toNat w) := by
  by_cases hb : b = 0
  · subst hb
    go_enter Try.func51, Try.ntmps51
    go_wp2
    go_ret2
    exact ⟨rfl, Gr.refl _ _⟩
  have hb' : (b == 0) = false := by rw [beq_eq_false_iff_ne]; exact hb
  have hB : ¬ b.toNat = 0 := by omega
  have HB := Lib.hid hB
  clear hb hB
  by_cases ha : a = 0
  · subst ha
    go_enter Try.func51, Try.ntmps51
    go_wp2
    go_ret2
    exact ⟨ret_pair (by rw [qv_pos HB.out]; rfl) (ze_pos HB.out).symm, Gr.refl _ _⟩
  have ha' : (a == 0) = false := by rw [beq_eq_false_iff_ne]; exact ha
  have HM := Lib.hid (show Gf.quo a.toNat b.toNat = Gf.ex (Gf.lg a.toNat + 255 - Gf.lg b.toNat) by unfold Gf.quo; rw [if_neg (by omega)])
  clear ha
  go_enter Try.func51, Try.ntmps51
  go_wp2_with fail
  refine (filled_any _ _ h).mono ?_
  rintro e w1 ⟨g, rfl, hr, hg⟩
  have c1 := full_lg hr a.toNat (by omega)
  have c2 := full_lg hr b.toNat (by omega)
  have l1 := Gf.lg_le a.toNat
  have l2 := Gf.lg_le b.toNat
  have HE := Lib.hid (er_dif (Gf.lg a.toNat) (Gf.lg b.toNat) l2)
  have HR := Lib.hid hr
  clear hr h
  go_wp2
  go_quiet ((go_at_call 57; exact exp_quiet _ _ (by omega) (by omega) _ _ HR.out))
  go_wp2
  go_ret2
  refine ⟨ret_pair ?_ (ze_pos HB.out).symm, hg.drewN _⟩
  rw [qv_pos HB.out, HM.out, HE.out, Gf.ex_mod]
set_option maxHeartbeats 400000 in
theorem inv_any (v : Value) (b : Int) (b0 : 0 ≤ b) (b1 : b < 256) (w : World) (h : Rv w v) :
    Calls Try.prog 42 #[v, .int .u8 b] w (DivPost 1 b.toNat w) := by
  go_enter Try.func42, Try.ntmps42
  go_wp2_with fail
  refine (div_any _ _ _ (by omega) (by omega) b0 b1 _ h).mono ?_
  rintro e w1 ⟨rfl, hg⟩
  go_wp2
  go_ret2
  exact ⟨rfl, hg⟩
theorem add_any (v : Value) (a b : Int) (a0 : 0 ≤ a) (a1 : a < 256) (b0 : 0 ≤ b) (b1 : b < 256) (w : World) :
    Calls Try.prog 43 #[v, .int .u8 a, .int .u8 b] w fun e w' => e = .returned (.int .u8 (xr a.toNat b.toNat : Int)) ∧ w = w' := by
  have H := Lib.hid (show bits .xor .u8 a b = (xr a.toNat b.toNat : Int) from by
    obtain ⟨a, rfl⟩ := Int.eq_ofNat_of_zero_le a0
    obtain ⟨b, rfl⟩ := Int.eq_ofNat_of_zero_le b0
    exact bits_xor_byte a b (by omega) (by omega))
  go_enter Try.func43, Try.ntmps43
  go_wp2
  go_ret
  exact ⟨ret_int H.out, rfl⟩
#print axioms inv_any
#print axioms mul_any
#print axioms exp_any
end Go.Proofs.Ytlgdajmidcdiaaa
