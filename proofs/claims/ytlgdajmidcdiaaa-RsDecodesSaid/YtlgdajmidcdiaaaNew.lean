/-
  gf.New, walked: the tables that it fills hold the powers of two, and which power each number is.
-/
import Derived.Test.YtlgdajmidcdiaaaRef
import Derived.Deep.OwnRows
import Derived.Deep.Draws
import Derived.OneCell
namespace Go.Proofs.Ytlgdajmidcdiaaa
open Go.RowKit

/-! ### what was there before is as it was -/
def Gr (B : Nat) (w w' : World) : Prop := Below B w w' ∧ ∀ a, w'.frozen? a = w.frozen? a
theorem Gr.refl (B : Nat) (w : World) : Gr B w w := ⟨Below.refl B w, fun _ => rfl⟩
theorem Gr.trans {B : Nat} {a b c : World} (h : Gr B a b) (k : Gr B b c) : Gr B a c := ⟨h.1.trans k.1, fun x => (k.2 x).trans (h.2 x)⟩
theorem Gr.mono {B B' : Nat} {a b : World} (h : Gr B a b) (k : B' ≤ B) : Gr B' a b := ⟨h.1.mono k, h.2⟩
theorem Gr.next {a b c : World} (h : Gr a.heap.size a b) (k : Gr b.heap.size b c) : Gr a.heap.size a c := h.trans (k.mono h.1.size)
theorem Gr.drewN {B : Nat} {a b : World} (h : Gr B a b) (n : Nat) : Gr B a (b.drewN n) := ⟨⟨h.1.os, h.1.tape, h.1.output, h.1.size, h.1.block⟩, h.2⟩
theorem Gr.drew {B : Nat} {a b : World} (h : Gr B a b) : Gr B a b.drew := ⟨h.1.drew, h.2⟩
theorem Gr.alloc {B : Nat} {a b : World} (h : Gr B a b) (hB : B ≤ b.heap.size) (c : Array Value) (t : TypeId) : Gr B a (b.alloc (.cells c t)) :=
  ⟨h.1.alloc hB _, fun x => (frozen?_alloc_cells _ _ _ x).trans (h.2 x)⟩
theorem Gr.setCell {B : Nat} {a b : World} (h : Gr B a b) {p : Addr} (hp : B ≤ p.block) (v : Value) : Gr B a (b.setCell p v) :=
  ⟨h.1.setCell hp v, fun x => (World.frozen?_setCell _ _ _ _).trans (h.2 x)⟩
theorem Gr.grown {a b : World} (h : Gr a.heap.size a b) : Grown a b := ⟨h.1.frame _, h.2, h.1.size⟩
theorem Gr.rowIs {B : Nat} {a b : World} (h : Gr B a b) {g : Nat} {t : TypeId} {n : Nat} {f : Nat → Value} (hg : g < B) (r : a.rowIs g t n f) : b.rowIs g t n f := r.of_block (h.1.block g hg)

/-! ### the tables, as they stand behind n powers -/
def fn (n j : Nat) : Nat := if j < 255 then (if j < n then Gf.ex j else 0) else Gf.lgU n (j - 255)
def fv (n j : Nat) : Value := .int .u8 (fn n j : Int)
theorem fn_step (n j : Nat) (hn : n < 255) : fn (n + 1) j = if j = 255 + Gf.ex n then n else if j = n then Gf.ex n else fn n j := by
  by_cases h : j < 255
  · have e1 : ∀ m, fn m j = if j < m then Gf.ex j else 0 := fun m => by unfold fn; rw [if_pos h]
    rw [e1, e1, if_neg (show ¬ j = 255 + Gf.ex n by omega)]
    by_cases e : j = n
    · subst e; rw [if_pos (show j < j + 1 by omega), if_pos (show j = j from rfl)]
    · rw [if_neg e]
      by_cases q : j < n
      · rw [if_pos (show j < n + 1 by omega), if_pos q]
      · rw [if_neg (show ¬ j < n + 1 by omega), if_neg q]
  · have e1 : ∀ m, fn m j = Gf.lgU m (j - 255) := fun m => by unfold fn; rw [if_neg h]
    rw [e1, e1]
    show (if j - 255 = Gf.ex n then n else Gf.lgU n (j - 255)) = _
    by_cases e : j - 255 = Gf.ex n
    · rw [if_pos e, if_pos (show j = 255 + Gf.ex n by omega)]
    · rw [if_neg e, if_neg (show ¬ j = 255 + Gf.ex n by omega), if_neg (show ¬ j = n by omega)]
theorem fv_step (n j : Nat) (hn : n < 255) : fv (n + 1) j = if j = 255 + Gf.ex n then .int .u8 (n : Int) else if j = n then .int .u8 (Gf.ex n : Int) else fv n j := by
  unfold fv
  rw [fn_step n j hn]
  split
  · rfl
  · split <;> rfl
def zf : Array Value := Array.replicate 511 (.int .u8 0)
theorem zf_run (w : World) : (zeroValue 59).run Try.prog w = .ok (.agg zf) w := by kernel_rfl
theorem zf_size : zf.size = 511 := by simp [zf]
theorem lgU_zero (a : Nat) : Gf.lgU 0 a = 0 := rfl
theorem fv_zero (j : Nat) : fv 0 j = .int .u8 0 := by
  unfold fv fn
  rw [lgU_zero, if_neg (show ¬ j < 0 by omega)]
  simp
theorem zf_get (i : Nat) (h : i < zf.size) : zf[i]? = some (fv 0 i) := by
  rw [fv_zero]
  rw [zf_size] at h
  simp [zf, h]

/-! ### double; the closure -/
theorem bits_xor_small (a b : Nat) (ha : a < 65536) (hb : b < 65536) : bits .xor .i64 (a : Int) (b : Int) = ((a ^^^ b : Nat) : Int) := by
  have hx : a ^^^ b < 2 ^ 16 := Nat.xor_lt_two_pow (by omega) (by omega)
  have h1 : (BitVec.ofInt 64 (a : Int)).toNat = a := by
    rw [BitVec.ofInt_natCast, BitVec.toNat_ofNat]; exact Nat.mod_eq_of_lt (by omega)
  have h2 : (BitVec.ofInt 64 (b : Int)).toNat = b := by
    rw [BitVec.ofInt_natCast, BitVec.toNat_ofNat]; exact Nat.mod_eq_of_lt (by omega)
  show IntKind.i64.wrap ((BitVec.ofInt 64 (a : Int) ^^^ BitVec.ofInt 64 (b : Int)).toNat : Int) = _
  rw [BitVec.toNat_xor, h1, h2]
  simp [IntKind.wrap, IntKind.bits, IntKind.signed]
  omega
theorem bits_xor_byte (a b : Nat) (ha : a < 256) (hb : b < 256) : bits .xor .u8 (a : Int) (b : Int) = ((a ^^^ b : Nat) : Int) := by
  have hx : a ^^^ b < 2 ^ 8 := Nat.xor_lt_two_pow (by omega) (by omega)
  have h1 : (BitVec.ofInt 8 (a : Int)).toNat = a := by
    rw [BitVec.ofInt_natCast, BitVec.toNat_ofNat]; exact Nat.mod_eq_of_lt (by omega)
  have h2 : (BitVec.ofInt 8 (b : Int)).toNat = b := by
    rw [BitVec.ofInt_natCast, BitVec.toNat_ofNat]; exact Nat.mod_eq_of_lt (by omega)
  show IntKind.u8.wrap ((BitVec.ofInt 8 (a : Int) ^^^ BitVec.ofInt 8 (b : Int)).toNat : Int) = _
  rw [BitVec.toNat_xor, h1, h2]
  simp [IntKind.wrap, IntKind.bits, IntKind.signed]
  omega
theorem dbl_hi (a : Int) (h0 : 0 ≤ a) (h : a < 256) (h2 : 256 ≤ a * 2) : bits .xor .i64 (a * 2) 285 % 256 = (Gf.dbl a.toNat : Int) := by
  obtain ⟨a, rfl⟩ := Int.eq_ofNat_of_zero_le h0
  rw [Int.toNat_natCast]
  have e := bits_xor_small (a * 2) 285 (by omega) (by omega)
  have l := Gf.dbl_lt (a := a) (by omega)
  have d : Gf.dbl a = (a * 2) ^^^ 285 := by unfold Gf.dbl; rw [if_pos (by omega)]
  rw [← d] at e
  have e' : bits .xor .i64 ((a : Int) * 2) 285 = (Gf.dbl a : Int) := e
  rw [e']; omega
theorem dbl_lo (a : Int) (h0 : 0 ≤ a) (h2 : a * 2 < 256) : a * 2 = (Gf.dbl a.toNat : Int) := by
  unfold Gf.dbl; rw [if_neg (by omega)]; omega
set_option maxHeartbeats 400000 in
theorem double_any (a : Int) (h0 : 0 ≤ a) (h1 : a < 256) (w : World) :
    Calls Try.prog 55 #[.int .u8 a] w fun e w' => e = .returned (.int .u8 (Gf.dbl a.toNat : Int)) ∧ w = w' := by
  have HH := Lib.hid (dbl_hi a h0 h1)
  have HL := Lib.hid (dbl_lo a h0)
  go_enter Try.func55, Try.ntmps55
  go_wp2
  · go_ret
    exact ⟨ret_int (HH.out (by assumption)), rfl⟩
  · go_ret
    exact ⟨ret_int (HL.out (by assumption)), rfl⟩

set_option maxHeartbeats 400000 in
set_option maxRecDepth 100000 in
theorem put_any (g b : Nat) (n p : Int) (n0 : 0 ≤ n) (hn : n < 255) (p0 : 0 ≤ p) (hp : p < 256) (f : Nat → Value) (w : World) (hgb : b ≠ g) (hg : w.cell? ⟨g, 0, none⟩ = some (.pointer (some ⟨b, 0, none⟩))) (hr : w.rowIs b 59 511 f) :
    Calls Try.prog 49 #[.int .i64 n, .int .u8 p, .pointer (some ⟨g, 0, none⟩)] w fun e w' => e = .returned (.tuple #[]) ∧ (w.setCell ⟨b, n.toNat, none⟩ (.int .u8 p)).setCell ⟨b, 255 + p.toNat, none⟩ (.int .u8 n) = w' := by
  obtain ⟨n, rfl⟩ := Int.eq_ofNat_of_zero_le n0
  obtain ⟨p, rfl⟩ := Int.eq_ofNat_of_zero_le p0
  rw [Int.toNat_natCast, Int.toNat_natCast]
  have c1 := hr.cell (i := n) (by omega)
  have z1 := hr.frozen n
  have z2 := hr.frozen (255 + p)
  have c2 := (hr.set n (.int .u8 p)).cell (i := 255 + p) (by omega)
  have c3 : (w.setCell ⟨b, n, none⟩ (.int .u8 p)).cell? ⟨g, 0, none⟩ = some (.pointer (some ⟨b, 0, none⟩)) := by
    rw [World.cell?_setCell_other _ _ _ _ (fun e => hgb (congrArg Addr.block e))]; exact hg
  clear hr
  go_enter Try.func49, Try.ntmps49
  go_wp2
  go_end0
  exact ⟨rfl, rfl⟩

theorem put_row {w : World} {b n : Nat} (hn : n < 255) (hr : w.rowIs b 59 511 (fv n)) :
    ((w.setCell ⟨b, n, none⟩ (.int .u8 (Gf.ex n : Int))).setCell ⟨b, 255 + Gf.ex n, none⟩ (.int .u8 (n : Int))).rowIs b 59 511 (fv (n + 1)) :=
  ((hr.set n _).set (255 + Gf.ex n) _).congr fun i _ => (fv_step n i hn).symm
theorem put_cell {w : World} {b g n p : Nat} {u v x : Value} (hgb : b ≠ g) (hg : w.cell? ⟨g, 0, none⟩ = some x) :
    ((w.setCell ⟨b, n, none⟩ u).setCell ⟨b, p, none⟩ v).cell? ⟨g, 0, none⟩ = some x := by
  rw [World.cell?_setCell_other _ _ _ _ (fun e => hgb (congrArg Addr.block e)), World.cell?_setCell_other _ _ _ _ (fun e => hgb (congrArg Addr.block e))]; exact hg

def EachPost (B b g : Nat) (w : World) (e : Ending) (w' : World) : Prop :=
  e = .returned (.tuple #[]) ∧ w'.rowIs b 59 511 (fv 255) ∧ w'.cell? ⟨g, 0, none⟩ = some (.pointer (some ⟨b, 0, none⟩)) ∧ Gr B w w'
def EachRel (B b g k : Nat) (w wr : World) : Prop :=
  wr.rowIs b 59 511 (fv k) ∧ wr.cell? ⟨g, 0, none⟩ = some (.pointer (some ⟨b, 0, none⟩)) ∧ Gr B w wr
theorem each_step {B b g k : Nat} {w wr : World} (h : EachRel B b g k w wr) (hk : k < 255) (hgb : b ≠ g) (hB : B ≤ b) :
    EachRel B b g (k + 1) w ((wr.setCell ⟨b, k, none⟩ (.int .u8 (Gf.ex k : Int))).setCell ⟨b, 255 + Gf.ex k, none⟩ (.int .u8 (k : Int))) :=
  ⟨put_row hk h.1, put_cell hgb h.2.1, (h.2.2.setCell hB _).setCell hB _⟩
set_option maxHeartbeats 800000 in
set_option maxRecDepth 100000 in
theorem each_any (B b g : Nat) (w : World) (hB : B ≤ b) (hgb : b ≠ g) (hg : w.cell? ⟨g, 0, none⟩ = some (.pointer (some ⟨b, 0, none⟩))) (hr : w.rowIs b 59 511 (fv 0)) :
    Calls Try.prog 48 #[.func (.func 49) #[] #[.pointer (some ⟨g, 0, none⟩)]] w (EachPost B b g w) := by
  have h0 : EachRel B b g 0 w w := ⟨hr, hg, Gr.refl _ _⟩
  have HGB := Lib.hid hgb
  clear hg hr hgb
  go_enter Try.func48, Try.ntmps48
  go_wp2
  go_loopw [2, 4] (fun p i wr => ∃ k : Nat, k ≤ 255 ∧ i = .int .i64 k ∧ p = .int .u8 (Gf.ex k : Int) ∧ EachRel B b g k w wr) (fun _ i _ => 255 - (intOf i).toNat)
  case atStart => exact ⟨0, Nat.zero_le _, rfl, rfl, h0⟩
  case round =>
    obtain ⟨k, hk, rfl, rfl, hrel⟩ := hrel
    have hel := Gf.ex_lt k
    by_cases hlt : k < 255
    · have hstep := each_step hrel hlt HGB.out hB
      have HD := Lib.hid (show Gf.ex (k + 1) = Gf.dbl (Gf.ex k) from rfl)
      go_wp2_with (first | (go_at_call 49; refine (put_any _ b _ _ (by omega) (by omega) (by omega) (by omega) _ _ HGB.out hrel.2.1 hrel.1).mono ?_; rintro e w' ⟨rfl, rfl⟩; simp only [Int.toNat_natCast]) | (go_at_call 55; refine (double_any _ (by omega) (by omega) _).mono ?_; rintro e w' ⟨rfl, rfl⟩; simp only [Int.toNat_natCast]))
      go_roundw
      case rel => exact ⟨k + 1, by omega, by go_num, by rw [HD.out], hstep⟩
      case measure => simp [intOf]; omega
    · have HE := Lib.hid (show k = 255 by omega)
      go_wp2
      go_end0
      rw [HE.out] at hrel
      exact ⟨rfl, hrel.1, hrel.2.1, hrel.2.2⟩

def NewPost (w : World) (e : Ending) (w' : World) : Prop :=
  e = .returned (.pointer (some ⟨w.heap.size, 0, none⟩)) ∧ w'.rowIs w.heap.size 59 511 (fv 255) ∧ Gr w.heap.size w w'
theorem new_row (w : World) : (w.alloc (.cells zf 59)).rowIs w.heap.size 59 511 (fv 0) := by
  have := World.rowIs_alloc w zf 59 (fv 0) zf_get
  rwa [zf_size] at this
set_option maxHeartbeats 800000 in
set_option maxRecDepth 100000 in
theorem new_any (w : World) : Calls Try.prog 33 #[] w (NewPost w) := by
  have hz := zf_run
  go_enter Try.func33, Try.ntmps33
  go_wp2_with fail
  refine (each_any w.heap.size w.heap.size (w.heap.size + 1) _ (Nat.le_refl _) (by omega) ?_ ((new_row w).alloc _)).mono ?_
  · exact cell_of_one (by simpa using heap_alloc_new (w.alloc (.cells zf 59)) (.cells #[.pointer (some ⟨w.heap.size, 0, none⟩)] 45))
  · rintro e w1 ⟨rfl, h1, h2, h3⟩
    go_wp2
    go_ret
    exact ⟨rfl, h1, (((Gr.refl _ w).alloc (Nat.le_refl _) zf 59).alloc (by simp) _ 45).trans h3⟩
#print axioms new_any
end Go.Proofs.Ytlgdajmidcdiaaa
