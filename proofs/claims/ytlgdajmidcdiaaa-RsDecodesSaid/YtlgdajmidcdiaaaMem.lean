/-
  How matrices lie in memory; what a call has turned; the field's calls on a full field.
-/
import Derived.Test.YtlgdajmidcdiaaaDivs
import Derived.Test.YtlgdajmidcdiaaaDefs
import Derived.Deep.RegionHeld3
import Derived.StillTailTactics
import Derived.Laws.MakeOwn
namespace Go.Proofs.Ytlgdajmidcdiaaa
open Go.RowKit

/-! ### what has turned: the blocks of S alone, and what is new -/
structure Ch (S : Nat → Prop) (w w' : World) : Prop where
  os : w'.os = w.os
  tape : w'.tape = w.tape
  output : w'.output = w.output
  size : w.heap.size ≤ w'.heap.size
  block : ∀ k, k < w.heap.size → ¬ S k → w'.heap[k]? = w.heap[k]?
theorem Ch.refl (S : Nat → Prop) (w : World) : Ch S w w := ⟨rfl, rfl, rfl, Nat.le_refl _, fun _ _ _ => rfl⟩
theorem Ch.trans {S : Nat → Prop} {a b c : World} (h : Ch S a b) (k : Ch S b c) : Ch S a c :=
  ⟨k.os.trans h.os, k.tape.trans h.tape, k.output.trans h.output, Nat.le_trans h.size k.size, fun i hi hS => (k.block i (Nat.lt_of_lt_of_le hi h.size) hS).trans (h.block i hi hS)⟩
theorem Ch.mono {S T : Nat → Prop} {a b : World} (h : Ch S a b) (k : ∀ i, i < a.heap.size → S i → T i) : Ch T a b :=
  ⟨h.os, h.tape, h.output, h.size, fun i hi hT => h.block i hi (fun hs => hT (k i hi hs))⟩
theorem Ch.drewN {S : Nat → Prop} {a b : World} (h : Ch S a b) (n : Nat) : Ch S a (b.drewN n) := ⟨h.os, h.tape, h.output, h.size, h.block⟩
theorem Ch.drew {S : Nat → Prop} {a b : World} (h : Ch S a b) : Ch S a b.drew := ⟨h.os, h.tape, h.output, h.size, h.block⟩
theorem Ch.alloc {S : Nat → Prop} {a b : World} (h : Ch S a b) (c : Array Value) (t : TypeId) : Ch S a (b.alloc (.cells c t)) :=
  ⟨h.os, h.tape, h.output, Nat.le_trans h.size (by simp), fun i hi hS => (Below.heap_alloc _ _ _ (Nat.lt_of_lt_of_le hi h.size)).trans (h.block i hi hS)⟩
theorem Ch.setCell {S : Nat → Prop} {a b : World} (h : Ch S a b) {p : Addr} (hp : S p.block ∨ a.heap.size ≤ p.block) (v : Value) : Ch S a (b.setCell p v) :=
  ⟨h.os, h.tape, h.output, by simpa [World.setCell] using h.size, fun i hi hS => (Below.heap_setCell b p v i (by
    rintro rfl
    rcases hp with hp | hp
    · exact hS hp
    · omega)).trans (h.block i hi hS)⟩
theorem Ch.gr {a b : World} (h : Ch (fun _ => False) a b) : Ch (fun _ => False) a b := h
theorem Ch.below {a b : World} (h : Ch (fun _ => False) a b) : Below a.heap.size a b := ⟨h.os, h.tape, h.output, h.size, fun i hi => h.block i hi (fun f => f)⟩
theorem Below.ch {a b : World} (h : Below a.heap.size a b) (S : Nat → Prop) : Ch S a b := ⟨h.os, h.tape, h.output, h.size, fun i hi _ => h.block i hi⟩
theorem Gr.ch {a b : World} (h : Gr a.heap.size a b) (S : Nat → Prop) : Ch S a b := Below.ch h.1 S
theorem Ch.grown {S : Nat → Prop} {a b c : World} {row : Option Nat} (h : Ch S a b) (k : b.grownBy c row) (hr : ∀ i, row = some i → S i ∨ a.heap.size ≤ i) : Ch S a c :=
  ⟨k.os.trans h.os, k.tape.trans h.tape, k.output.trans h.output, Nat.le_trans h.size k.size, fun i hi hS => (k.block i (Nat.lt_of_lt_of_le hi h.size) (fun e => by
    rcases hr i e.symm with q | q
    · exact hS q
    · omega)).trans (h.block i hi hS)⟩
theorem Ch.cell {S : Nat → Prop} {a b : World} (h : Ch S a b) {p : Addr} {v : Value} (hc : a.cell? p = some v) (hS : ¬ S p.block) : b.cell? p = some v :=
  (World.cell?_of_block (h.block p.block (World.block_lt_of_cell? _ _ hc) hS)).trans hc
theorem Ch.rowIs {S : Nat → Prop} {a b : World} (h : Ch S a b) {g : Nat} {t : TypeId} {n : Nat} {f : Nat → Value} (r : a.rowIs g t n f) (hS : ¬ S g) : b.rowIs g t n f :=
  r.of_block (h.block g r.lt hS)

/-! ### a row, a matrix, to be read -/
def RowV (w : World) (v : Value) (l : Nat) (z : Nat → Nat) : Prop :=
  ∃ (A : Option Addr) (C : Nat), v = .slice A l C ∧ (l ≤ 140737488351232 ∧ l ≤ C) ∧ (0 < l → ∃ b o, A = some ⟨b, o, none⟩ ∧ ∀ c, c < l → w.cell? ⟨b, o + c, none⟩ = some (.int .u8 (z c : Int)) ∧ z c < 256)
def MatV (w : World) (v : Value) (n : Nat) (L : Nat → Nat) (Z : Nat → Nat → Nat) : Prop :=
  ∃ (A : Option Addr) (C : Nat), v = .slice A n C ∧ (n ≤ 140737488351232 ∧ n ≤ C) ∧ (0 < n → ∃ b o, A = some ⟨b, o, none⟩ ∧ ∀ r, r < n → ∃ x, w.cell? ⟨b, o + r, none⟩ = some x ∧ RowV w x (L r) (Z r))
theorem RowV.ch {S : Nat → Prop} {w w' : World} {v : Value} {l : Nat} {z : Nat → Nat} (h : RowV w v l z) (k : Ch S w w') (hS : ∀ i, i < w.heap.size → ¬ S i) : RowV w' v l z := by
  obtain ⟨A, C, h1, h2, h3⟩ := h
  refine ⟨A, C, h1, h2, fun hl => ?_⟩
  obtain ⟨b, o, hA, hc⟩ := h3 hl
  exact ⟨b, o, hA, fun c hcl => ⟨k.cell (hc c hcl).1 (hS _ (World.block_lt_of_cell? _ _ (hc c hcl).1)), (hc c hcl).2⟩⟩
theorem MatV.ch {S : Nat → Prop} {w w' : World} {v : Value} {n : Nat} {L : Nat → Nat} {Z : Nat → Nat → Nat} (h : MatV w v n L Z) (k : Ch S w w') (hS : ∀ i, i < w.heap.size → ¬ S i) : MatV w' v n L Z := by
  obtain ⟨A, C, h1, h2, h3⟩ := h
  refine ⟨A, C, h1, h2, fun hl => ?_⟩
  obtain ⟨b, o, hA, hc⟩ := h3 hl
  refine ⟨b, o, hA, fun r hr => ?_⟩
  obtain ⟨x, hx, hv⟩ := hc r hr
  exact ⟨x, k.cell hx (hS _ (World.block_lt_of_cell? _ _ hx)), hv.ch k hS⟩
theorem MatV.gr {w w' : World} {v : Value} {n : Nat} {L : Nat → Nat} {Z : Nat → Nat → Nat} (h : MatV w v n L Z) (k : Ch (fun _ => False) w w') : MatV w' v n L Z := h.ch k (fun _ _ f => f)
theorem MatV.drewN {w : World} {v : Value} {n : Nat} {L : Nat → Nat} {Z : Nat → Nat → Nat} (h : MatV w v n L Z) (k : Nat) : MatV (w.drewN k) v n L Z := h.gr ((Ch.refl _ _).drewN k)
theorem RowV.congr {w : World} {v : Value} {l : Nat} {z y : Nat → Nat} (h : RowV w v l z) (e : ∀ c, c < l → z c = y c) : RowV w v l y := by
  obtain ⟨A, C, h1, h2, h3⟩ := h
  refine ⟨A, C, h1, h2, fun hl => ?_⟩
  obtain ⟨b, o, hA, hc⟩ := h3 hl
  exact ⟨b, o, hA, fun c hcl => by rw [← e c hcl]; exact hc c hcl⟩
theorem MatV.congr {w : World} {v : Value} {n : Nat} {L : Nat → Nat} {Z Y : Nat → Nat → Nat} (h : MatV w v n L Z) (e : ∀ r c, r < n → c < L r → Z r c = Y r c) : MatV w v n L Y := by
  obtain ⟨A, C, h1, h2, h3⟩ := h
  refine ⟨A, C, h1, h2, fun hl => ?_⟩
  obtain ⟨b, o, hA, hc⟩ := h3 hl
  refine ⟨b, o, hA, fun r hr => ?_⟩
  obtain ⟨x, hx, hv⟩ := hc r hr
  exact ⟨x, hx, hv.congr fun c hcl => e r c hr hcl⟩
theorem MatV.byte {w : World} {v : Value} {n : Nat} {L : Nat → Nat} {Z : Nat → Nat → Nat} (h : MatV w v n L Z) {r c : Nat} (hr : r < n) (hc : c < L r) : Z r c < 256 := by
  obtain ⟨A, C, _, _, h3⟩ := h
  obtain ⟨b, o, _, h4⟩ := h3 (by omega)
  obtain ⟨x, _, B, D, _, _, h5⟩ := h4 r hr
  obtain ⟨b', o', _, h6⟩ := h5 (by omega)
  exact (h6 c hc).2

/-! ### a matrix of one's own, to be turned -/
structure Own (w : World) (g n m : Nat) (B : Nat → Nat) (Z : Nat → Nat → Nat) : Prop where
  top : w.rowIs g /-t-/33 n (fun r => .slice (some ⟨B r, 0, none⟩) m m)
  row : ∀ r, r < n → w.rowIs (B r) /-t-/5 m (fun c => .int .u8 (Z r c : Int))
  inj : ∀ r s, r < n → s < n → B r = B s → r = s
  off : ∀ r, r < n → B r ≠ g
  byte : ∀ r c, r < n → c < m → Z r c < 256
def mv (g n : Nat) : Value := .slice (some ⟨g, 0, none⟩) n n
theorem Own.mat {w : World} {g n m : Nat} {B : Nat → Nat} {Z : Nat → Nat → Nat} (h : Own w g n m B Z) (hn : n ≤ 140737488351232) (hm : m ≤ 140737488351232) : MatV w (.slice (some ⟨g, 0, none⟩) n n) n (fun _ => m) Z := by
  refine ⟨_, _, rfl, ⟨hn, Nat.le_refl _⟩, fun _ => ⟨g, 0, rfl, fun r hr => ⟨.slice (some ⟨B r, 0, none⟩) m m, ?_, ?_⟩⟩⟩
  · rw [Nat.zero_add]; exact h.top.cell hr
  · exact ⟨_, _, rfl, ⟨hm, Nat.le_refl _⟩, fun _ => ⟨B r, 0, rfl, fun c hc => ⟨by rw [Nat.zero_add]; exact (h.row r hr).cell hc, h.byte r c hr hc⟩⟩⟩
theorem Own.ch {S : Nat → Prop} {w w' : World} {g n m : Nat} {B : Nat → Nat} {Z : Nat → Nat → Nat} (h : Own w g n m B Z) (k : Ch S w w') (h1 : ¬ S g) (h2 : ∀ r, r < n → ¬ S (B r)) : Own w' g n m B Z :=
  ⟨k.rowIs h.top h1, fun r hr => k.rowIs (h.row r hr) (h2 r hr), h.inj, h.off, h.byte⟩
theorem Own.congr {w : World} {g n m : Nat} {B : Nat → Nat} {Z Y : Nat → Nat → Nat} (h : Own w g n m B Z) (e : ∀ r c, r < n → c < m → Z r c = Y r c) : Own w g n m B Y :=
  ⟨h.top, fun r hr => (h.row r hr).congr fun c hc => by rw [e r c hr hc], h.inj, h.off, fun r c hr hc => by rw [← e r c hr hc]; exact h.byte r c hr hc⟩
/-- One row has turned, nothing else. -/
theorem Own.turn {w w' : World} {g n m : Nat} {B : Nat → Nat} {Z : Nat → Nat → Nat} (h : Own w g n m B Z) {i : Nat} (hi : i < n) {y : Nat → Nat} (k : Ch (fun j => j = B i) w w') (hr : w'.rowIs (B i) /-t-/5 m (fun c => .int .u8 (y c : Int))) (hy : ∀ c, c < m → y c < 256) :
    Own w' g n m B (fun r c => if r = i then y c else Z r c) := by
  refine ⟨k.rowIs h.top (fun e => h.off i hi e.symm), fun r hrn => ?_, h.inj, h.off, fun r c hrn hc => ?_⟩
  · by_cases e : r = i
    · subst e; simpa using hr
    · refine (k.rowIs (h.row r hrn) (fun q => e (h.inj r i hrn hi q))).congr fun c _ => by rw [if_neg e]
  · by_cases e : r = i
    · simp [e, hy c hc]
    · simp only [if_neg e]; exact h.byte r c hrn hc

/-! ### the field's calls, on a full field -/
def Qu (v : Value) (w : World) (e : Ending) (w' : World) : Prop := e = .returned v ∧ ∃ n, w' = w.drewN n
theorem Qu.at {P : Program} {f : FuncId} {args : Array Value} {w : World} {k : Nat} {v : Value} (h : Calls P f args (w.drewN k) (Qu v (w.drewN k))) :
    Calls P f args (w.drewN k) fun e w' => e = .returned v ∧ ∃ m, w' = w.drewN m :=
  h.mono fun _ _ ⟨he, m, hm⟩ => ⟨he, k + m, by rw [hm, World.drewN_drewN]⟩
def fullAt (w : World) (b : Nat) : Prop := w.rowIs b /-t-/59 511 (fv 255)
theorem fullAt.ch {S : Nat → Prop} {w w' : World} {b : Nat} (h : fullAt w b) (k : Ch S w w') (hS : ¬ S b) : fullAt w' b := k.rowIs h hS
theorem fullAt.drewN {w : World} {b : Nat} (h : fullAt w b) (n : Nat) : fullAt (w.drewN n) b := h
theorem fullAt.row {w : World} {b : Nat} (h : fullAt w b) : w.rowIs b /-t-/59 511 (fv 255) := h

set_option maxHeartbeats 400000 in
theorem mul_full (g : Nat) (a b : Int) (a0 : 0 ≤ a) (a1 : a < 256) (b0 : 0 ≤ b) (b1 : b < 256) (w : World) (h : fullAt w g) :
    Calls Try.prog 50 #[.pointer (some ⟨g, 0, none⟩), .int .u8 a, .int .u8 b] w (Qu (.int .u8 (Gf.mul a.toNat b.toNat : Int)) w) := by
  by_cases ha : a = 0
  · subst ha
    go_enter Try.func50, Try.ntmps50
    go_wp2
    go_ret
    exact ⟨ret_int (by rw [show (0 : Int).toNat = 0 from rfl, Gf.zero_mul]; rfl), 0, rfl⟩
  by_cases hb : b = 0
  · subst hb
    have ha' : (a == 0) = false := by rw [beq_eq_false_iff_ne]; exact ha
    go_enter Try.func50, Try.ntmps50
    go_wp2
    go_ret
    exact ⟨ret_int (by rw [show (0 : Int).toNat = 0 from rfl, Gf.mul_zero]; rfl), 0, rfl⟩
  have ha' : (a == 0) = false := by rw [beq_eq_false_iff_ne]; exact ha
  have hb' : (b == 0) = false := by rw [beq_eq_false_iff_ne]; exact hb
  have HM := Lib.hid (Gf.mul_of (a := a.toNat) (b := b.toNat) (by omega) (by omega))
  clear ha hb
  have c1 := full_lg h.row a.toNat (by omega)
  have c2 := full_lg h.row b.toNat (by omega)
  have l1 := Gf.lg_le a.toNat
  have l2 := Gf.lg_le b.toNat
  have HE := Lib.hid (er_sum (Gf.lg a.toNat) (Gf.lg b.toNat))
  have HR := Lib.hid h.row
  clear h
  go_enter Try.func50, Try.ntmps50
  go_wp2_with fail
  refine (filled_full _ _ HR.out).mono ?_
  rintro e w1 ⟨rfl, rfl⟩
  go_wp2
  go_quiet ((go_at_call 57; exact exp_quiet _ _ (by omega) (by omega) _ _ HR.out))
  go_wp2
  go_ret
  refine ⟨ret_int ?_, _, rfl⟩
  rw [HM.out, HE.out, Gf.ex_mod]

set_option maxHeartbeats 400000 in
theorem div_full (g : Nat) (a b : Int) (a0 : 0 ≤ a) (a1 : a < 256) (b0 : 0 ≤ b) (b1 : b < 256) (w : World) (h : fullAt w g) :
    Calls Try.prog 51 #[.pointer (some ⟨g, 0, none⟩), .int .u8 a, .int .u8 b] w (Qu (.tuple #[.int .u8 (qv a.toNat b.toNat), .int .i64 (ze b.toNat)]) w) := by
  by_cases hb : b = 0
  · subst hb
    go_enter Try.func51, Try.ntmps51
    go_wp2
    go_ret2
    exact ⟨rfl, 0, rfl⟩
  have hb' : (b == 0) = false := by rw [beq_eq_false_iff_ne]; exact hb
  have hB : ¬ b.toNat = 0 := by omega
  have HB := Lib.hid hB
  clear hb hB
  by_cases ha : a = 0
  · subst ha
    go_enter Try.func51, Try.ntmps51
    go_wp2
    go_ret2
    exact ⟨ret_pair (by rw [qv_pos HB.out]; rfl) (ze_pos HB.out).symm, 0, rfl⟩
  have ha' : (a == 0) = false := by rw [beq_eq_false_iff_ne]; exact ha
  have HM := Lib.hid (show Gf.quo a.toNat b.toNat = Gf.ex (Gf.lg a.toNat + 255 - Gf.lg b.toNat) by unfold Gf.quo; rw [if_neg (by omega)])
  clear ha
  have c1 := full_lg h.row a.toNat (by omega)
  have c2 := full_lg h.row b.toNat (by omega)
  have l1 := Gf.lg_le a.toNat
  have l2 := Gf.lg_le b.toNat
  have HE := Lib.hid (er_dif (Gf.lg a.toNat) (Gf.lg b.toNat) l2)
  have HR := Lib.hid h.row
  clear h
  go_enter Try.func51, Try.ntmps51
  go_wp2_with fail
  refine (filled_full _ _ HR.out).mono ?_
  rintro e w1 ⟨rfl, rfl⟩
  go_wp2
  go_quiet ((go_at_call 57; exact exp_quiet _ _ (by omega) (by omega) _ _ HR.out))
  go_wp2
  go_ret2
  refine ⟨ret_pair ?_ (ze_pos HB.out).symm, _, rfl⟩
  rw [qv_pos HB.out, HM.out, HE.out, Gf.ex_mod]
set_option maxHeartbeats 400000 in
theorem inv_full (g : Nat) (b : Int) (b0 : 0 ≤ b) (b1 : b < 256) (w : World) (h : fullAt w g) :
    Calls Try.prog 42 #[.pointer (some ⟨g, 0, none⟩), .int .u8 b] w (Qu (.tuple #[.int .u8 (qv 1 b.toNat), .int .i64 (ze b.toNat)]) w) := by
  go_enter Try.func42, Try.ntmps42
  go_wp2_with fail
  refine (div_full _ _ _ (by omega) (by omega) b0 b1 _ h).mono ?_
  rintro e w1 ⟨rfl, n, rfl⟩
  go_wp2
  go_ret2
  exact ⟨rfl, n, rfl⟩
#print axioms inv_full
end Go.Proofs.Ytlgdajmidcdiaaa
