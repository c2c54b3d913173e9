/-
  gf.New, walked: the tables that it fills hold the powers of two, and which power each number is. The calls of gf.Field, walked: whatever field they are called on, a nil one and a zero one too. The document's own answer, walked: Div (quartermasterref01), which finds its own by trying. Matrices over the field, in plain numbers: sums, products, One, Cauchy's, the steps of an elimination. No program is named here. How matrices lie in memory; what a call has turned; the field's calls on a full field.
-/
import Derived.Test.YtlbdopcchoklhaaGreatMh9
import Derived.Deep.OwnRows
import Derived.Deep.Draws
import Derived.OneCell
import Derived.Deep.QuietTactic
import Derived.BigQuiet
import Derived.Test.YtlbdopcchoklhaaGreatMh1
import Derived.Deep.RegionHeld3
import Derived.StillTailTactics
import Derived.Laws.MakeOwn
namespace Go.Proofs.YtlbdopcchoklhaaGreat
open Go.RowKit

/-! ### what was there before is as it was -/
def Gr (B : Nat) (w w' : World) : Prop := Below B w w' ∧ ∀ a, w'.frozen? a = w.frozen? a
theorem Gr.refl (B : Nat) (w : World) : Gr B w w := ⟨Below.refl B w, fun _ => rfl⟩
theorem Gr.trans {B : Nat} {a b c : World} (h : Gr B a b) (k : Gr B b c) : Gr B a c := ⟨h.1.trans k.1, fun x => (k.2 x).trans (h.2 x)⟩
theorem Gr.mono {B B' : Nat} {a b : World} (h : Gr B a b) (k : B' ≤ B) : Gr B' a b := ⟨h.1.mono k, h.2⟩
theorem Gr.next {a b c : World} (h : Gr a.heap.size a b) (k : Gr b.heap.size b c) : Gr a.heap.size a c := h.trans (k.mono h.1.size)
theorem Gr.drewN {B : Nat} {a b : World} (h : Gr B a b) (n : Nat) : Gr B a (b.drewN n) := ⟨⟨h.1.os, h.1.tape, h.1.output, h.1.size, h.1.block⟩, h.2⟩
theorem Gr.drew {B : Nat} {a b : World} (h : Gr B a b) : Gr B a b.drew := ⟨h.1.drew, h.2⟩
theorem Gr.alloc {B : Nat} {a b : World} (h : Gr B a b) (hB : B ≤ b.heap.size) (c : Array Value) (t : TypeId) : Gr B a (b.alloc (.cells c t)) :=
  ⟨h.1.alloc hB _, fun x => (frozen?_alloc_cells _ _ _ x).trans (h.2 x)⟩
theorem Gr.setCell {B : Nat} {a b : World} (h : Gr B a b) {p : Addr} (hp : B ≤ p.block) (v : Value) : Gr B a (b.setCell p v) :=
  ⟨h.1.setCell hp v, fun x => (World.frozen?_setCell _ _ _ _).trans (h.2 x)⟩
theorem Gr.grown {a b : World} (h : Gr a.heap.size a b) : Grown a b := ⟨h.1.frame _, h.2, h.1.size⟩
theorem Gr.rowIs {B : Nat} {a b : World} (h : Gr B a b) {g : Nat} {t : TypeId} {n : Nat} {f : Nat → Value} (hg : g < B) (r : a.rowIs g t n f) : b.rowIs g t n f := r.of_block (h.1.block g hg)

/-! ### the tables, as they stand behind n powers -/
def fn (n j : Nat) : Nat := if j < 255 then (if j < n then Gf.ex j else 0) else Gf.lgU n (j - 255)
def fv (n j : Nat) : Value := .int .u8 (fn n j : Int)
theorem fn_step (n j : Nat) (hn : n < 255) : fn (n + 1) j = if j = 255 + Gf.ex n then n else if j = n then Gf.ex n else fn n j := by
  by_cases h : j < 255
  · have e1 : ∀ m, fn m j = if j < m then Gf.ex j else 0 := fun m => by unfold fn; rw [if_pos h]
    rw [e1, e1, if_neg (show ¬ j = 255 + Gf.ex n by omega)]
    by_cases e : j = n
    · subst e; rw [if_pos (show j < j + 1 by omega), if_pos (show j = j from rfl)]
    · rw [if_neg e]
      by_cases q : j < n
      · rw [if_pos (show j < n + 1 by omega), if_pos q]
      · rw [if_neg (show ¬ j < n + 1 by omega), if_neg q]
  · have e1 : ∀ m, fn m j = Gf.lgU m (j - 255) := fun m => by unfold fn; rw [if_neg h]
    rw [e1, e1]
    show (if j - 255 = Gf.ex n then n else Gf.lgU n (j - 255)) = _
    by_cases e : j - 255 = Gf.ex n
    · rw [if_pos e, if_pos (show j = 255 + Gf.ex n by omega)]
    · rw [if_neg e, if_neg (show ¬ j = 255 + Gf.ex n by omega), if_neg (show ¬ j = n by omega)]
theorem fv_step (n j : Nat) (hn : n < 255) : fv (n + 1) j = if j = 255 + Gf.ex n then .int .u8 (n : Int) else if j = n then .int .u8 (Gf.ex n : Int) else fv n j := by
  unfold fv
  rw [fn_step n j hn]
  split
  · rfl
  · split <;> rfl
def zf : Array Value := Array.replicate 511 (.int .u8 0)
theorem zf_run (w : World) : (zeroValue 162).run Tryz.prog w = .ok (.agg zf) w := by kernel_rfl
theorem zf_size : zf.size = 511 := by simp [zf]
theorem lgU_zero (a : Nat) : Gf.lgU 0 a = 0 := rfl
theorem fv_zero (j : Nat) : fv 0 j = .int .u8 0 := by
  unfold fv fn
  rw [lgU_zero, if_neg (show ¬ j < 0 by omega)]
  simp
theorem zf_get (i : Nat) (h : i < zf.size) : zf[i]? = some (fv 0 i) := by
  rw [fv_zero]
  rw [zf_size] at h
  simp [zf, h]

/-! ### double; the closure -/
theorem bits_xor_small (a b : Nat) (ha : a < 65536) (hb : b < 65536) : bits .xor .i64 (a : Int) (b : Int) = ((a ^^^ b : Nat) : Int) := by
  have hx : a ^^^ b < 2 ^ 16 := Nat.xor_lt_two_pow (by omega) (by omega)
  have h1 : (BitVec.ofInt 64 (a : Int)).toNat = a := by
    rw [BitVec.ofInt_natCast, BitVec.toNat_ofNat]; exact Nat.mod_eq_of_lt (by omega)
  have h2 : (BitVec.ofInt 64 (b : Int)).toNat = b := by
    rw [BitVec.ofInt_natCast, BitVec.toNat_ofNat]; exact Nat.mod_eq_of_lt (by omega)
  show IntKind.i64.wrap ((BitVec.ofInt 64 (a : Int) ^^^ BitVec.ofInt 64 (b : Int)).toNat : Int) = _
  rw [BitVec.toNat_xor, h1, h2]
  simp [IntKind.wrap, IntKind.bits, IntKind.signed]
  omega
theorem bits_xor_byte (a b : Nat) (ha : a < 256) (hb : b < 256) : bits .xor .u8 (a : Int) (b : Int) = ((a ^^^ b : Nat) : Int) := by
  have hx : a ^^^ b < 2 ^ 8 := Nat.xor_lt_two_pow (by omega) (by omega)
  have h1 : (BitVec.ofInt 8 (a : Int)).toNat = a := by
    rw [BitVec.ofInt_natCast, BitVec.toNat_ofNat]; exact Nat.mod_eq_of_lt (by omega)
  have h2 : (BitVec.ofInt 8 (b : Int)).toNat = b := by
    rw [BitVec.ofInt_natCast, BitVec.toNat_ofNat]; exact Nat.mod_eq_of_lt (by omega)
  show IntKind.u8.wrap ((BitVec.ofInt 8 (a : Int) ^^^ BitVec.ofInt 8 (b : Int)).toNat : Int) = _
  rw [BitVec.toNat_xor, h1, h2]
  simp [IntKind.wrap, IntKind.bits, IntKind.signed]
  omega
theorem dbl_hi (a : Int) (h0 : 0 ≤ a) (h : a < 256) (h2 : 256 ≤ a * 2) : bits .xor .i64 (a * 2) 285 % 256 = (Gf.dbl a.toNat : Int) := by
  obtain ⟨a, rfl⟩ := Int.eq_ofNat_of_zero_le h0
  rw [Int.toNat_natCast]
  have e := bits_xor_small (a * 2) 285 (by omega) (by omega)
  have l := Gf.dbl_lt (a := a) (by omega)
  have d : Gf.dbl a = (a * 2) ^^^ 285 := by unfold Gf.dbl; rw [if_pos (by omega)]
  rw [← d] at e
  have e' : bits .xor .i64 ((a : Int) * 2) 285 = (Gf.dbl a : Int) := e
  rw [e']; omega
theorem dbl_lo (a : Int) (h0 : 0 ≤ a) (h2 : a * 2 < 256) : a * 2 = (Gf.dbl a.toNat : Int) := by
  unfold Gf.dbl; rw [if_neg (by omega)]; omega
set_option maxHeartbeats 400000 in
theorem double_any (a : Int) (h0 : 0 ≤ a) (h1 : a < 256) (w : World) :
    Calls Tryz.prog 153 #[.int .u8 a] w fun e w' => e = .returned (.int .u8 (Gf.dbl a.toNat : Int)) ∧ w = w' := by
  have HH := Lib.hid (dbl_hi a h0 h1)
  have HL := Lib.hid (dbl_lo a h0)
  go_enter Tryz.func153, Tryz.ntmps153
  go_wp2
  · go_ret
    exact ⟨ret_int (HH.out (by assumption)), rfl⟩
  · go_ret
    exact ⟨ret_int (HL.out (by assumption)), rfl⟩

set_option maxHeartbeats 400000 in
set_option maxRecDepth 100000 in
theorem put_anyF (g b : Nat) (n p : Int) (n0 : 0 ≤ n) (hn : n < 255) (p0 : 0 ≤ p) (hp : p < 256) (f : Nat → Value) (w : World) (hgb : b ≠ g) (hg : w.cell? ⟨g, 0, none⟩ = some (.pointer (some ⟨b, 0, none⟩))) (hr : w.rowIs b 162 511 f) :
    Calls Tryz.prog 144 #[.int .i64 n, .int .u8 p, .pointer (some ⟨g, 0, none⟩)] w fun e w' => e = .returned (.tuple #[]) ∧ (w.setCell ⟨b, n.toNat, none⟩ (.int .u8 p)).setCell ⟨b, 255 + p.toNat, none⟩ (.int .u8 n) = w' := by
  obtain ⟨n, rfl⟩ := Int.eq_ofNat_of_zero_le n0
  obtain ⟨p, rfl⟩ := Int.eq_ofNat_of_zero_le p0
  rw [Int.toNat_natCast, Int.toNat_natCast]
  have c1 := hr.cell (i := n) (by omega)
  have z1 := hr.frozen n
  have z2 := hr.frozen (255 + p)
  have c2 := (hr.set n (.int .u8 p)).cell (i := 255 + p) (by omega)
  have c3 : (w.setCell ⟨b, n, none⟩ (.int .u8 p)).cell? ⟨g, 0, none⟩ = some (.pointer (some ⟨b, 0, none⟩)) := by
    rw [World.cell?_setCell_other _ _ _ _ (fun e => hgb (congrArg Addr.block e))]; exact hg
  clear hr
  go_enter Tryz.func144, Tryz.ntmps144
  go_wp2
  go_end0
  exact ⟨rfl, rfl⟩

theorem put_row {w : World} {b n : Nat} (hn : n < 255) (hr : w.rowIs b 162 511 (fv n)) :
    ((w.setCell ⟨b, n, none⟩ (.int .u8 (Gf.ex n : Int))).setCell ⟨b, 255 + Gf.ex n, none⟩ (.int .u8 (n : Int))).rowIs b 162 511 (fv (n + 1)) :=
  ((hr.set n _).set (255 + Gf.ex n) _).congr fun i _ => (fv_step n i hn).symm
theorem put_cell {w : World} {b g n p : Nat} {u v x : Value} (hgb : b ≠ g) (hg : w.cell? ⟨g, 0, none⟩ = some x) :
    ((w.setCell ⟨b, n, none⟩ u).setCell ⟨b, p, none⟩ v).cell? ⟨g, 0, none⟩ = some x := by
  rw [World.cell?_setCell_other _ _ _ _ (fun e => hgb (congrArg Addr.block e)), World.cell?_setCell_other _ _ _ _ (fun e => hgb (congrArg Addr.block e))]; exact hg

def EachPost (B b g : Nat) (w : World) (e : Ending) (w' : World) : Prop :=
  e = .returned (.tuple #[]) ∧ w'.rowIs b 162 511 (fv 255) ∧ w'.cell? ⟨g, 0, none⟩ = some (.pointer (some ⟨b, 0, none⟩)) ∧ Gr B w w'
def EachRel (B b g k : Nat) (w wr : World) : Prop :=
  wr.rowIs b 162 511 (fv k) ∧ wr.cell? ⟨g, 0, none⟩ = some (.pointer (some ⟨b, 0, none⟩)) ∧ Gr B w wr
theorem each_step {B b g k : Nat} {w wr : World} (h : EachRel B b g k w wr) (hk : k < 255) (hgb : b ≠ g) (hB : B ≤ b) :
    EachRel B b g (k + 1) w ((wr.setCell ⟨b, k, none⟩ (.int .u8 (Gf.ex k : Int))).setCell ⟨b, 255 + Gf.ex k, none⟩ (.int .u8 (k : Int))) :=
  ⟨put_row hk h.1, put_cell hgb h.2.1, (h.2.2.setCell hB _).setCell hB _⟩
set_option maxHeartbeats 800000 in
set_option maxRecDepth 100000 in
theorem each_anyF (B b g : Nat) (w : World) (hB : B ≤ b) (hgb : b ≠ g) (hg : w.cell? ⟨g, 0, none⟩ = some (.pointer (some ⟨b, 0, none⟩))) (hr : w.rowIs b 162 511 (fv 0)) :
    Calls Tryz.prog 143 #[.func (.func 144) #[] #[.pointer (some ⟨g, 0, none⟩)]] w (EachPost B b g w) := by
  have h0 : EachRel B b g 0 w w := ⟨hr, hg, Gr.refl _ _⟩
  have HGB := Lib.hid hgb
  clear hg hr hgb
  go_enter Tryz.func143, Tryz.ntmps143
  go_wp2
  go_loopw [2, 4] (fun p i wr => ∃ k : Nat, k ≤ 255 ∧ i = .int .i64 k ∧ p = .int .u8 (Gf.ex k : Int) ∧ EachRel B b g k w wr) (fun _ i _ => 255 - (intOf i).toNat)
  case atStart => exact ⟨0, Nat.zero_le _, rfl, rfl, h0⟩
  case round =>
    obtain ⟨k, hk, rfl, rfl, hrel⟩ := hrel
    have hel := Gf.ex_lt k
    by_cases hlt : k < 255
    · have hstep := each_step hrel hlt HGB.out hB
      have HD := Lib.hid (show Gf.ex (k + 1) = Gf.dbl (Gf.ex k) from rfl)
      go_wp2_with (first | (go_at_call 144; refine (put_anyF _ b _ _ (by omega) (by omega) (by omega) (by omega) _ _ HGB.out hrel.2.1 hrel.1).mono ?_; rintro e w' ⟨rfl, rfl⟩; simp only [Int.toNat_natCast]) | (go_at_call 153; refine (double_any _ (by omega) (by omega) _).mono ?_; rintro e w' ⟨rfl, rfl⟩; simp only [Int.toNat_natCast]))
      go_roundw
      case rel => exact ⟨k + 1, by omega, by go_num, by rw [HD.out], hstep⟩
      case measure => simp [intOf]; omega
    · have HE := Lib.hid (show k = 255 by omega)
      go_wp2
      go_end0
      rw [HE.out] at hrel
      exact ⟨rfl, hrel.1, hrel.2.1, hrel.2.2⟩

def NewPost (w : World) (e : Ending) (w' : World) : Prop :=
  e = .returned (.pointer (some ⟨w.heap.size, 0, none⟩)) ∧ w'.rowIs w.heap.size 162 511 (fv 255) ∧ Gr w.heap.size w w'
theorem new_row (w : World) : (w.alloc (.cells zf 162)).rowIs w.heap.size 162 511 (fv 0) := by
  have := World.rowIs_alloc w zf 162 (fv 0) zf_get
  rwa [zf_size] at this
set_option maxHeartbeats 800000 in
set_option maxRecDepth 100000 in
theorem new_anyF (w : World) : Calls Tryz.prog 123 #[] w (NewPost w) := by
  have hz := zf_run
  go_enter Tryz.func123, Tryz.ntmps123
  go_wp2_with fail
  refine (each_anyF w.heap.size w.heap.size (w.heap.size + 1) _ (Nat.le_refl _) (by omega) ?_ ((new_row w).alloc _)).mono ?_
  · exact cell_of_one (by simpa using heap_alloc_new (w.alloc (.cells zf 162)) (.cells #[.pointer (some ⟨w.heap.size, 0, none⟩)] 146))
  · rintro e w1 ⟨rfl, h1, h2, h3⟩
    go_wp2
    go_ret
    exact ⟨rfl, h1, (((Gr.refl _ w).alloc (Nat.le_refl _) zf 162).alloc (by simp) _ 146).trans h3⟩
end Go.Proofs.YtlbdopcchoklhaaGreat
namespace Go.Proofs.YtlbdopcchoklhaaGreat
open Go.RowKit

theorem fv_ex (i : Nat) (h : i < 255) : fv 255 i = .int .u8 (Gf.ex i : Int) := by
  unfold fv fn; rw [if_pos h, if_pos h]
theorem fv_lg (a : Nat) : fv 255 (255 + a) = .int .u8 (Gf.lg a : Int) := by
  unfold fv fn; rw [if_neg (by omega), Nat.add_sub_cancel_left]; rfl
theorem full_ex {w : World} {b : Nat} (h : w.rowIs b 162 511 (fv 255)) (i : Nat) (hi : i < 255) : w.cell? ⟨b, i, none⟩ = some (.int .u8 (Gf.ex i : Int)) := by
  rw [h.cell (by omega), fv_ex i hi]
theorem full_lg {w : World} {b : Nat} (h : w.rowIs b 162 511 (fv 255)) (a : Nat) (ha : a < 256) : w.cell? ⟨b, 255 + a, none⟩ = some (.int .u8 (Gf.lg a : Int)) := by
  rw [h.cell (by omega), fv_lg a]

def FullPost (b : Nat) (w : World) (e : Ending) (w' : World) : Prop := e = .returned (.pointer (some ⟨b, 0, none⟩)) ∧ w = w'
set_option maxHeartbeats 400000 in
theorem filled_full (b : Nat) (w : World) (h : w.rowIs b 162 511 (fv 255)) :
    Calls Tryz.prog 154 #[.pointer (some ⟨b, 0, none⟩)] w (FullPost b w) := by
  have c : w.cell? ⟨b, 0, none⟩ = some (.int .u8 1) := full_ex h 0 (by omega)
  clear h
  go_enter Tryz.func154, Tryz.ntmps154
  go_wp2
  go_ret
  exact ⟨rfl, rfl⟩
def Rv (w : World) (v : Value) : Prop := v = .pointer none ∨ ∃ b, v = .pointer (some ⟨b, 0, none⟩) ∧ b < w.heap.size ∧ (w.cell? ⟨b, 0, none⟩ = some (.int .u8 0) ∨ w.rowIs b 162 511 (fv 255))
theorem Rv.gr {w w' : World} {v : Value} (h : Rv w v) (k : Gr w.heap.size w w') : Rv w' v := by
  rcases h with h | ⟨b, h, hb, hc⟩
  · exact Or.inl h
  · refine Or.inr ⟨b, h, Nat.lt_of_lt_of_le hb k.1.size, ?_⟩
    rcases hc with hc | hc
    · exact Or.inl ((k.1.cell (p := ⟨b, 0, none⟩) hb).trans hc)
    · exact Or.inr (k.rowIs hb hc)
def FillPost (w : World) (e : Ending) (w' : World) : Prop := ∃ b, e = .returned (.pointer (some ⟨b, 0, none⟩)) ∧ w'.rowIs b 162 511 (fv 255) ∧ Gr w.heap.size w w'
def er (n : Int) : Nat := (n % 255).toNat
theorem er_lt (n : Int) : er n < 255 := by unfold er; omega
theorem er_neg (n : Int) (h : n < 0) : (n.tmod 255 < 0 ∧ -255 < n.tmod 255 ∧ (n.tmod 255 + 255).toNat = er n) ∨ (n.tmod 255 = 0 ∧ er n = 0) := by
  unfold er
  have e : n.tmod 255 = -((-n) % 255) := by
    have := Int.neg_tmod (-n) 255
    rw [Int.neg_neg] at this
    rw [this, Int.tmod_eq_emod_of_nonneg (by omega)]
  omega
def ExpFull (n : Int) (w : World) (e : Ending) (w' : World) : Prop := e = .returned (.int .u8 (Gf.ex (er n) : Int)) ∧ w = w'
def ExpPost (n : Int) (w : World) (e : Ending) (w' : World) : Prop := e = .returned (.int .u8 (Gf.ex (er n) : Int)) ∧ Gr w.heap.size w w'
set_option maxHeartbeats 400000 in
theorem exp_full (b : Nat) (n : Int) (n0 : -9223372036854775808 ≤ n) (n1 : n ≤ 9223372036854775807) (w : World) (h : w.rowIs b 162 511 (fv 255)) :
    Calls Tryz.prog 155 #[.pointer (some ⟨b, 0, none⟩), .int .i64 n] w (ExpFull n w) := by
  have H := Lib.hid h
  clear h
  by_cases hn : 0 ≤ n
  · have c : w.cell? ⟨b, (n % 255).toNat, none⟩ = some (.int .u8 (Gf.ex (er n) : Int)) := full_ex H.out (er n) (er_lt n)
    have h1 : 0 ≤ n % 255 := by omega
    have h2 : n % 255 < 255 := by omega
    go_enter Tryz.func155, Tryz.ntmps155
    go_wp2_with (go_at_call 154; refine (filled_full _ _ H.out).mono ?_; rintro e w' ⟨rfl, rfl⟩)
    go_ret
    exact ⟨rfl, rfl⟩
  · rcases er_neg n (by omega) with ⟨h1, h2, h3⟩ | ⟨h1, h2⟩
    · have c : w.cell? ⟨b, (n.tmod 255 + 255).toNat, none⟩ = some (.int .u8 (Gf.ex (er n) : Int)) := by rw [h3]; exact full_ex H.out (er n) (er_lt n)
      clear h3
      go_enter Tryz.func155, Tryz.ntmps155
      go_wp2_with (go_at_call 154; refine (filled_full _ _ H.out).mono ?_; rintro e w' ⟨rfl, rfl⟩)
      go_ret
      exact ⟨rfl, rfl⟩
    · have c := full_ex H.out 0 (by omega)
      have H2 := Lib.hid h2
      clear h2
      go_enter Tryz.func155, Tryz.ntmps155
      go_wp2_with (go_at_call 154; refine (filled_full _ _ H.out).mono ?_; rintro e w' ⟨rfl, rfl⟩)
      go_ret
      exact ⟨ret_int (by rw [H2.out]), rfl⟩
/-- The error: 8 (ErrZero) of nothing, else none. -/
def ze (a : Nat) : Int := if a = 0 then 8 else 0
def lv (a : Nat) : Int := if a = 0 then 0 else (Gf.lg a : Int)
def qv (a b : Nat) : Int := if b = 0 then 0 else (Gf.quo a b : Int)
theorem ze_pos {a : Nat} (h : ¬ a = 0) : ze a = 0 := if_neg h
theorem qv_pos {a b : Nat} (h : ¬ b = 0) : qv a b = (Gf.quo a b : Int) := if_neg h
theorem ret_pairF {k l : IntKind} {a b c d : Int} (h : a = c) (h2 : b = d) : Ending.returned (.tuple #[.int k a, .int l b]) = .returned (.tuple #[.int k c, .int l d]) := by rw [h, h2]
def LogPost (a : Nat) (w : World) (e : Ending) (w' : World) : Prop :=
  e = .returned (.tuple #[.int .i64 (lv a), .int .i64 (ze a)]) ∧ Gr w.heap.size w w'
theorem exp_quiet (b : Nat) (n : Int) (n0 : -9223372036854775808 ≤ n) (n1 : n ≤ 9223372036854775807) (w : World) (k : Nat) (h : w.rowIs b 162 511 (fv 255)) :
    Calls Tryz.prog 155 #[.pointer (some ⟨b, 0, none⟩), .int .i64 n] (w.drewN k) fun e w' => e = .returned (.int .u8 (Gf.ex (er n) : Int)) ∧ ∃ m, w' = w.drewN m :=
  (exp_full b n n0 n1 (w.drewN k) h).mono fun _ _ ⟨he, hw⟩ => ⟨he, k, hw.symm⟩

def MulPost (a b : Nat) (w : World) (e : Ending) (w' : World) : Prop := e = .returned (.int .u8 (Gf.mul a b : Int)) ∧ Gr w.heap.size w w'
theorem er_sum (x y : Nat) : er ((x : Int) + (y : Int)) = (x + y) % 255 := by unfold er; omega
theorem er_dif (x y : Nat) (h : y ≤ 255) : er ((x : Int) - (y : Int)) = (x + 255 - y) % 255 := by unfold er; omega
def DivPost (a b : Nat) (w : World) (e : Ending) (w' : World) : Prop :=
  e = .returned (.tuple #[.int .u8 (qv a b), .int .i64 (ze b)]) ∧ Gr w.heap.size w w'
theorem add_any (v : Value) (a b : Int) (a0 : 0 ≤ a) (a1 : a < 256) (b0 : 0 ≤ b) (b1 : b < 256) (w : World) :
    Calls Tryz.prog 138 #[v, .int .u8 a, .int .u8 b] w fun e w' => e = .returned (.int .u8 (xr a.toNat b.toNat : Int)) ∧ w = w' := by
  have H := Lib.hid (show bits .xor .u8 a b = (xr a.toNat b.toNat : Int) from by
    obtain ⟨a, rfl⟩ := Int.eq_ofNat_of_zero_le a0
    obtain ⟨b, rfl⟩ := Int.eq_ofNat_of_zero_le b0
    exact bits_xor_byte a b (by omega) (by omega))
  go_enter Tryz.func138, Tryz.ntmps138
  go_wp2
  go_ret
  exact ⟨ret_int H.out, rfl⟩
end Go.Proofs.YtlbdopcchoklhaaGreat
namespace Go.Proofs.YtlbdopcchoklhaaGreat
open Go.RowKit

end Go.Proofs.YtlbdopcchoklhaaGreat
namespace Go.Proofs.YtlbdopcchoklhaaGreat
set_option linter.unusedVariables false
set_option maxRecDepth 100000

def oneZ (r c : Nat) : Nat := if r = c then 1 else 0
def zeroZ (r c : Nat) : Nat := 0
def cauZ (cols r c : Nat) : Nat := Gf.quo 1 (xr (cols + r) c)
theorem cauZ_lt (cols r c : Nat) : cauZ cols r c < 256 := Gf.quo_lt _ _
theorem cau_sum {cols r c : Nat} (h : c < cols) : ¬ xr (cols + r) c = 0 := fun e => by
  have e' : (cols + r) ^^^ c = 0 := e
  have e2 : cols + r = c := by
    have := congrArg (· ^^^ c) e'
    simp only [Nat.xor_assoc, Nat.xor_self, Nat.xor_zero, Nat.zero_xor] at this
    exact this
  omega
def xsum : Nat → (Nat → Nat) → Nat
  | 0, _ => 0
  | n + 1, f => xr (xsum n f) (f n)
theorem xsum_lt {n : Nat} {f : Nat → Nat} (h : ∀ j, j < n → f j < 256) : xsum n f < 256 := by
  induction n with
  | zero => show 0 < 256; omega
  | succ n ih => exact Gf.xor_lt (ih fun j hj => h j (by omega)) (h n (by omega))
theorem xsum_congr {n : Nat} {f g : Nat → Nat} (h : ∀ j, j < n → f j = g j) : xsum n f = xsum n g := by
  induction n with
  | zero => rfl
  | succ n ih => show xr _ _ = xr _ _; rw [ih fun j hj => h j (by omega), h n (by omega)]
def mulZ (k : Nat) (a b : Nat → Nat → Nat) (r c : Nat) : Nat := xsum k (fun j => Gf.mul (a r j) (b j c))
theorem mulZ_lt (k : Nat) (a b : Nat → Nat → Nat) (r c : Nat) : mulZ k a b r c < 256 := xsum_lt fun _ _ => Gf.mul_lt _ _
def besZ (n : Nat) (X : Nat → Nat → Nat) (r c : Nat) : Nat := if c < n then X r c else if c = n + r then 1 else 0
def colZ (lo : Nat) (Z : Nat → Nat → Nat) (r c : Nat) : Nat := Z r (lo + c)
/-- Each row but row c, less its number in column c times row c. -/
def lessZ (c : Nat) (Z : Nat → Nat → Nat) (r k : Nat) : Nat := if r = c then Z r k else xr (Z r k) (Gf.mul (Z c k) (Z r c))
def sw (c p r : Nat) : Nat := if r = c then p else if r = p then c else r
theorem sw_lt {c p r n : Nat} (hc : c < n) (hp : p < n) (hr : r < n) : sw c p r < n := by unfold sw; split; exact hp; split; exact hc; exact hr
theorem sw_sw (c p r : Nat) : sw c p (sw c p r) = r := by
  unfold sw
  by_cases h1 : r = c
  · subst h1
    by_cases h2 : p = r
    · simp [h2]
    · simp [h2]
  · by_cases h2 : r = p
    · subst h2; simp [h1]
    · simp [h1, h2]
theorem sw_inj {c p r q : Nat} (h : sw c p r = sw c p q) : r = q := by rw [← sw_sw c p r, h, sw_sw]
/-- Row c times s. -/
def scaleZ (c s : Nat) (Z : Nat → Nat → Nat) (r k : Nat) : Nat := if r = c then Gf.mul (Z r k) s else Z r k
def swapZ (c p : Nat) (Z : Nat → Nat → Nat) (r k : Nat) : Nat := Z (sw c p r) k
/-- A step: rows c and p swapped, row c made 1 at c, the others made 0 there. -/
def stepZ (c p : Nat) (Z : Nat → Nat → Nat) : Nat → Nat → Nat := lessZ c (scaleZ c (Gf.quo 1 (Z p c)) (swapZ c p Z))
end Go.Proofs.YtlbdopcchoklhaaGreat
namespace Go.Proofs.YtlbdopcchoklhaaGreat
open Go.RowKit

/-! ### what has turned: the blocks of S alone, and what is new -/
theorem Ch.gr {a b : World} (h : Ch (fun _ => False) a b) : Ch (fun _ => False) a b := h
theorem Gr.ch {a b : World} (h : Gr a.heap.size a b) (S : Nat → Prop) : Ch S a b := Below.ch h.1 S
/-! ### a row, a matrix, tto be read -/
def MatV (w : World) (v : Value) (n : Nat) (L : Nat → Nat) (Z : Nat → Nat → Nat) : Prop :=
  ∃ (A : Option Addr) (C : Nat), v = .slice A n C ∧ (n ≤ 140737488351232 ∧ n ≤ C) ∧ (0 < n → ∃ b o, A = some ⟨b, o, none⟩ ∧ ∀ r, r < n → ∃ x, w.cell? ⟨b, o + r, none⟩ = some x ∧ RowV w x (L r) (Z r))
theorem MatV.ch {S : Nat → Prop} {w w' : World} {v : Value} {n : Nat} {L : Nat → Nat} {Z : Nat → Nat → Nat} (h : MatV w v n L Z) (k : Ch S w w') (hS : ∀ i, i < w.heap.size → ¬ S i) : MatV w' v n L Z := by
  obtain ⟨A, C, h1, h2, h3⟩ := h
  refine ⟨A, C, h1, h2, fun hl => ?_⟩
  obtain ⟨b, o, hA, hc⟩ := h3 hl
  refine ⟨b, o, hA, fun r hr => ?_⟩
  obtain ⟨x, hx, hv⟩ := hc r hr
  exact ⟨x, k.cell hx (hS _ (World.block_lt_of_cell? _ _ hx)), hv.ch k hS⟩
theorem MatV.gr {w w' : World} {v : Value} {n : Nat} {L : Nat → Nat} {Z : Nat → Nat → Nat} (h : MatV w v n L Z) (k : Ch (fun _ => False) w w') : MatV w' v n L Z := h.ch k (fun _ _ f => f)
theorem MatV.drewN {w : World} {v : Value} {n : Nat} {L : Nat → Nat} {Z : Nat → Nat → Nat} (h : MatV w v n L Z) (k : Nat) : MatV (w.drewN k) v n L Z := h.gr ((Ch.refl _ _).drewN k)
theorem MatV.congr {w : World} {v : Value} {n : Nat} {L : Nat → Nat} {Z Y : Nat → Nat → Nat} (h : MatV w v n L Z) (e : ∀ r c, r < n → c < L r → Z r c = Y r c) : MatV w v n L Y := by
  obtain ⟨A, C, h1, h2, h3⟩ := h
  refine ⟨A, C, h1, h2, fun hl => ?_⟩
  obtain ⟨b, o, hA, hc⟩ := h3 hl
  refine ⟨b, o, hA, fun r hr => ?_⟩
  obtain ⟨x, hx, hv⟩ := hc r hr
  exact ⟨x, hx, hv.congr fun c hcl => e r c hr hcl⟩
theorem MatV.byte {w : World} {v : Value} {n : Nat} {L : Nat → Nat} {Z : Nat → Nat → Nat} (h : MatV w v n L Z) {r c : Nat} (hr : r < n) (hc : c < L r) : Z r c < 256 := by
  obtain ⟨A, C, _, _, h3⟩ := h
  obtain ⟨b, o, _, h4⟩ := h3 (by omega)
  obtain ⟨x, _, B, D, _, _, h5⟩ := h4 r hr
  obtain ⟨b', o', _, h6⟩ := h5 (by omega)
  exact (h6 c hc).2

/-! ### a matrix of one's own, tto be turned -/
structure Own (w : World) (g n m : Nat) (B : Nat → Nat) (Z : Nat → Nat → Nat) : Prop where
  top : w.rowIs g /-t-/24 n (fun r => .slice (some ⟨B r, 0, none⟩) m m)
  row : ∀ r, r < n → w.rowIs (B r) /-t-/5 m (fun c => .int .u8 (Z r c : Int))
  inj : ∀ r s, r < n → s < n → B r = B s → r = s
  off : ∀ r, r < n → B r ≠ g
  byte : ∀ r c, r < n → c < m → Z r c < 256
def mv (g n : Nat) : Value := .slice (some ⟨g, 0, none⟩) n n
theorem Own.mat {w : World} {g n m : Nat} {B : Nat → Nat} {Z : Nat → Nat → Nat} (h : Own w g n m B Z) (hn : n ≤ 140737488351232) (hm : m ≤ 140737488351232) : MatV w (.slice (some ⟨g, 0, none⟩) n n) n (fun _ => m) Z := by
  refine ⟨_, _, rfl, ⟨hn, Nat.le_refl _⟩, fun _ => ⟨g, 0, rfl, fun r hr => ⟨.slice (some ⟨B r, 0, none⟩) m m, ?_, ?_⟩⟩⟩
  · rw [Nat.zero_add]; exact h.top.cell hr
  · exact ⟨_, _, rfl, ⟨hm, Nat.le_refl _⟩, fun _ => ⟨B r, 0, rfl, fun c hc => ⟨by rw [Nat.zero_add]; exact (h.row r hr).cell hc, h.byte r c hr hc⟩⟩⟩
theorem Own.ch {S : Nat → Prop} {w w' : World} {g n m : Nat} {B : Nat → Nat} {Z : Nat → Nat → Nat} (h : Own w g n m B Z) (k : Ch S w w') (h1 : ¬ S g) (h2 : ∀ r, r < n → ¬ S (B r)) : Own w' g n m B Z :=
  ⟨k.rowIs h.top h1, fun r hr => k.rowIs (h.row r hr) (h2 r hr), h.inj, h.off, h.byte⟩
theorem Own.congr {w : World} {g n m : Nat} {B : Nat → Nat} {Z Y : Nat → Nat → Nat} (h : Own w g n m B Z) (e : ∀ r c, r < n → c < m → Z r c = Y r c) : Own w g n m B Y :=
  ⟨h.top, fun r hr => (h.row r hr).congr fun c hc => by rw [e r c hr hc], h.inj, h.off, fun r c hr hc => by rw [← e r c hr hc]; exact h.byte r c hr hc⟩
/-- One row has turned, nothing else. -/
theorem Own.turn {w w' : World} {g n m : Nat} {B : Nat → Nat} {Z : Nat → Nat → Nat} (h : Own w g n m B Z) {i : Nat} (hi : i < n) {y : Nat → Nat} (k : Ch (fun j => j = B i) w w') (hr : w'.rowIs (B i) /-t-/5 m (fun c => .int .u8 (y c : Int))) (hy : ∀ c, c < m → y c < 256) :
    Own w' g n m B (fun r c => if r = i then y c else Z r c) := by
  refine ⟨k.rowIs h.top (fun e => h.off i hi e.symm), fun r hrn => ?_, h.inj, h.off, fun r c hrn hc => ?_⟩
  · by_cases e : r = i
    · subst e; simpa using hr
    · refine (k.rowIs (h.row r hrn) (fun q => e (h.inj r i hrn hi q))).congr fun c _ => by rw [if_neg e]
  · by_cases e : r = i
    · simp [e, hy c hc]
    · simp only [if_neg e]; exact h.byte r c hrn hc

/-! ### the field's calls, on a full field -/
def fullAt (w : World) (b : Nat) : Prop := w.rowIs b /-t-/162 511 (fv 255)
theorem fullAt.ch {S : Nat → Prop} {w w' : World} {b : Nat} (h : fullAt w b) (k : Ch S w w') (hS : ¬ S b) : fullAt w' b := k.rowIs h hS
theorem fullAt.drewN {w : World} {b : Nat} (h : fullAt w b) (n : Nat) : fullAt (w.drewN n) b := h
theorem fullAt.row {w : World} {b : Nat} (h : fullAt w b) : w.rowIs b /-t-/162 511 (fv 255) := h

set_option maxHeartbeats 400000 in
theorem mul_full (g : Nat) (a b : Int) (a0 : 0 ≤ a) (a1 : a < 256) (b0 : 0 ≤ b) (b1 : b < 256) (w : World) (h : fullAt w g) :
    Calls Tryz.prog 145 #[.pointer (some ⟨g, 0, none⟩), .int .u8 a, .int .u8 b] w (Qu (.int .u8 (Gf.mul a.toNat b.toNat : Int)) w) := by
  by_cases ha : a = 0
  · subst ha
    go_enter Tryz.func145, Tryz.ntmps145
    go_wp2
    go_ret
    exact ⟨ret_int (by rw [show (0 : Int).toNat = 0 from rfl, Gf.zero_mul]; rfl), 0, rfl⟩
  by_cases hb : b = 0
  · subst hb
    have ha' : (a == 0) = false := by rw [beq_eq_false_iff_ne]; exact ha
    go_enter Tryz.func145, Tryz.ntmps145
    go_wp2
    go_ret
    exact ⟨ret_int (by rw [show (0 : Int).toNat = 0 from rfl, Gf.mul_zero]; rfl), 0, rfl⟩
  have ha' : (a == 0) = false := by rw [beq_eq_false_iff_ne]; exact ha
  have hb' : (b == 0) = false := by rw [beq_eq_false_iff_ne]; exact hb
  have HM := Lib.hid (Gf.mul_of (a := a.toNat) (b := b.toNat) (by omega) (by omega))
  clear ha hb
  have c1 := full_lg h.row a.toNat (by omega)
  have c2 := full_lg h.row b.toNat (by omega)
  have l1 := Gf.lg_le a.toNat
  have l2 := Gf.lg_le b.toNat
  have HE := Lib.hid (er_sum (Gf.lg a.toNat) (Gf.lg b.toNat))
  have HR := Lib.hid h.row
  clear h
  go_enter Tryz.func145, Tryz.ntmps145
  go_wp2_with fail
  refine (filled_full _ _ HR.out).mono ?_
  rintro e w1 ⟨rfl, rfl⟩
  go_wp2
  go_quiet ((go_at_call 155; exact exp_quiet _ _ (by omega) (by omega) _ _ HR.out))
  go_wp2
  go_ret
  refine ⟨ret_int ?_, _, rfl⟩
  rw [HM.out, HE.out, Gf.ex_mod]

set_option maxHeartbeats 400000 in
theorem div_full (g : Nat) (a b : Int) (a0 : 0 ≤ a) (a1 : a < 256) (b0 : 0 ≤ b) (b1 : b < 256) (w : World) (h : fullAt w g) :
    Calls Tryz.prog 147 #[.pointer (some ⟨g, 0, none⟩), .int .u8 a, .int .u8 b] w (Qu (.tuple #[.int .u8 (qv a.toNat b.toNat), .int .i64 (ze b.toNat)]) w) := by
  by_cases hb : b = 0
  · subst hb
    go_enter Tryz.func147, Tryz.ntmps147
    go_wp2
    go_ret2
    exact ⟨rfl, 0, rfl⟩
  have hb' : (b == 0) = false := by rw [beq_eq_false_iff_ne]; exact hb
  have hB : ¬ b.toNat = 0 := by omega
  have HB := Lib.hid hB
  clear hb hB
  by_cases ha : a = 0
  · subst ha
    go_enter Tryz.func147, Tryz.ntmps147
    go_wp2
    go_ret2
    exact ⟨ret_pairF (by rw [qv_pos HB.out]; rfl) (ze_pos HB.out).symm, 0, rfl⟩
  have ha' : (a == 0) = false := by rw [beq_eq_false_iff_ne]; exact ha
  have HM := Lib.hid (show Gf.quo a.toNat b.toNat = Gf.ex (Gf.lg a.toNat + 255 - Gf.lg b.toNat) by unfold Gf.quo; rw [if_neg (by omega)])
  clear ha
  have c1 := full_lg h.row a.toNat (by omega)
  have c2 := full_lg h.row b.toNat (by omega)
  have l1 := Gf.lg_le a.toNat
  have l2 := Gf.lg_le b.toNat
  have HE := Lib.hid (er_dif (Gf.lg a.toNat) (Gf.lg b.toNat) l2)
  have HR := Lib.hid h.row
  clear h
  go_enter Tryz.func147, Tryz.ntmps147
  go_wp2_with fail
  refine (filled_full _ _ HR.out).mono ?_
  rintro e w1 ⟨rfl, rfl⟩
  go_wp2
  go_quiet ((go_at_call 155; exact exp_quiet _ _ (by omega) (by omega) _ _ HR.out))
  go_wp2
  go_ret2
  refine ⟨ret_pairF ?_ (ze_pos HB.out).symm, _, rfl⟩
  rw [qv_pos HB.out, HM.out, HE.out, Gf.ex_mod]
set_option maxHeartbeats 400000 in
theorem inv_full (g : Nat) (b : Int) (b0 : 0 ≤ b) (b1 : b < 256) (w : World) (h : fullAt w g) :
    Calls Tryz.prog 137 #[.pointer (some ⟨g, 0, none⟩), .int .u8 b] w (Qu (.tuple #[.int .u8 (qv 1 b.toNat), .int .i64 (ze b.toNat)]) w) := by
  go_enter Tryz.func137, Tryz.ntmps137
  go_wp2_with fail
  refine (div_full _ _ _ (by omega) (by omega) b0 b1 _ h).mono ?_
  rintro e w1 ⟨rfl, n, rfl⟩
  go_wp2
  go_ret2
  exact ⟨rfl, n, rfl⟩
end Go.Proofs.YtlbdopcchoklhaaGreat
