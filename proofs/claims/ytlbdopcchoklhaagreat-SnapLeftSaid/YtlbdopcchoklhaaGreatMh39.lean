/-
  How the program's Read stands between two rounds. The program's Read, walked.
-/
import Derived.Test.YtlbdopcchoklhaaGreatMh37
import Derived.Test.YtlbdopcchoklhaaGreatMh38
import Derived.Test.YtlbdopcchoklhaaGreatMh18
namespace Go.Proofs.YtlbdopcchoklhaaGreat
open Go.RowKit
set_option linter.unusedVariables false
set_option maxRecDepth 100000
set_option linter.unusedSimpArgs false

/-- The bytes of the data of some stripes. -/
def rdB (K : Nat) (Ds : Nat → Nat → Nat → Nat) (i : Nat) : Nat := sharesZ K (Ds (i / (K * 228))) ((i % (K * 228)) / 228) ((i % (K * 228)) % 228)
theorem rdB_at {K P c : Nat} {Ds : Nat → Nat → Nat → Nat} (hc : c < K * 228) : rdB K Ds (P * (K * 228) + c) = sharesZ K (Ds P) (c / 228) (c % 228) := by
  have h1 : (P * (K * 228) + c) / (K * 228) = P := by rw [Nat.mul_comm P, Nat.mul_add_div (by omega), Nat.div_eq_of_lt hc, Nat.add_zero]
  have h2 : (P * (K * 228) + c) % (K * 228) = c := by rw [Nat.mul_comm P, Nat.mul_add_mod, Nat.mod_eq_of_lt hc]
  unfold rdB
  rw [h1, h2]
theorem rdB_b (K : Nat) (Ds : Nat → Nat → Nat → Nat) (i : Nat) : rdB K Ds i < 256 := shares_b _ _ _ _
theorem rdB_congr {K N : Nat} {Ds Es : Nat → Nat → Nat → Nat} (h : ∀ j, j < N → Ds j = Es j) {i : Nat} (hi : i < N * (K * 228)) : rdB K Ds i = rdB K Es i := by
  have hj : i / (K * 228) < N := by
    rw [Nat.div_lt_iff_lt_mul (Nat.pos_of_ne_zero fun e => by rw [e, Nat.mul_zero] at hi; omega)]
    exact hi
  unfold rdB
  rw [h _ hj]
/-- Of a stripe that is read: how many are left; its data. -/
def leftN (d : Dev) (vol no : Int) (n : Gn) (a s : Nat) : Nat := (idx (lftL vol no (frsN n a s) (rdL d (frsN n a s)) (rdZ d (frsN n a s))) n.q).length
def DatS (d : Dev) (vol no : Int) (n : Gn) (a s : Nat) (D : Nat → Nat → Nat) : Prop := DataOf (lftL vol no (frsN n a s) (rdL d (frsN n a s)) (rdZ d (frsN n a s))) n.q n.K 228 (lftX (rdZ d (frsN n a s))) D
theorem DevIs.cellsS {base : Nat} {w : World} {p : Ph} {d : Dev} (h : DevIs base w p d) {i : Nat} (hi : Foot p d i) : ∃ c t, w.heap[i]? = some (.cells c t (0, 0)) := by
  rcases hi with rfl | rfl | hi | ⟨a, ha, hi⟩
  · exact ⟨_, _, h.blk⟩
  · obtain ⟨c, hc, _⟩ := h.sec; exact ⟨c, _, hc⟩
  · obtain ⟨_, c, hc⟩ := own_at h.wts hi; exact ⟨c, _, hc⟩
  · obtain ⟨c, hc⟩ := (h.ms a ha).at hi; exact ⟨c, _, hc⟩
theorem foot_op {p : Ph} {d : Dev} {c : Nat} {i : Nat} : Foot p (opD d c) i ↔ Foot p d i := foot_n rfl
/-- What has been read of the stripes L. -/
structure RdI (base : Nat) (p : Ph) (d : Dev) (c0 : Nat) (vol no : Int) (n : Gn) (a : Nat) (wL : World) (Lb : Nat) (L : List Nat) (v : Value) (Ds : Nat → Nat → Nat → Nat) (c : Nat) (W : World) : Prop where
  var : W.heap[Lb]? = some (.cells #[v] /-t-/24 (0, 0))
  own : W.ownsRow wL.heap.size /-t-/5 1 v (L.length * (n.K * 228)) (bytesL (L.length * (n.K * 228)) (rdB n.K Ds))
  dat : ∀ j, j < L.length → n.K ≤ leftN d vol no n a (L.getD j 0) ∧ DatS d vol no n a (L.getD j 0) (Ds j)
  ops : c ≤ c0 + L.length * n.q
  dev : DevIs base W p (opD d c)
  ch : Ch (fun i => Foot p d i ∨ i = Lb) wL W
theorem nc_of {W : World} {row : Option Nat} {B : Nat} (hr : ∀ r, row = some r → B ≤ r ∧ ∃ o : Obj, W.heap[r]? = some o ∧ o.isCells = false) {i : Nat} {c : Array Value} {t : TypeId} {f : Nat × Nat} (h : W.heap[i]? = some (.cells c t f)) : ¬ row = some i := fun e => by
  obtain ⟨_, o, ho, hn⟩ := hr i e
  rw [h] at ho; cases ho; cases hn
section
variable {base : Nat} {p : Ph} {d : Dev} {c0 c Lb : Nat} {vol no : Int} {n : Gn} {a : Nat} {wL W W' : World} {L : List Nat} {v : Value} {Ds : Nat → Nat → Nat → Nat}
theorem RdI.nc (h : RdI base p d c0 vol no n a wL Lb L v Ds c W) {row : Option Nat} (hg : W.grownBy W' row) (hr : ∀ r, row = some r → wL.heap.size ≤ r ∧ ∃ o : Obj, W.heap[r]? = some o ∧ o.isCells = false) : RdI base p d c0 vol no n a wL Lb L v Ds c W' :=
  ⟨((row_ch hg).block Lb (blk_lt h.var) (nc_of hr h.var)).trans h.var, ownsRow_chS h.own (row_ch hg) fun i hi => by
    obtain ⟨c, hc⟩ := own_cells h.own i hi
    exact nc_of hr hc, h.dat, h.ops, h.dev.ch (row_ch hg) fun i hi => by
    obtain ⟨c, t, hc⟩ := h.dev.cellsS hi
    exact nc_of hr hc, ch_then h.ch (row_ch hg) fun i e => Or.inr (hr i e).1⟩
/-- A stripe more. -/
theorem RdI.next (h : RdI base p d c0 vol no n a wL Lb L v Ds c W) {s c' : Nat} {D : Nat → Nat → Nat} {w4 w6 : World} {x : Value} (hf : ∀ i, Foot p d i → i < wL.heap.size ∧ i ≠ Lb) (hL : Lb < wL.heap.size) (h4 : Ch (Foot p d) W w4) (hdev : DevIs base w4 p (opD d c')) (hc' : c' ≤ c + n.q) (h6 : Ch (fun _ => False) w4 w6)
    (hk : n.K ≤ leftN d vol no n a s) (hD : DatS d vol no n a s D) (hx : OutSt w4 (fun i => sharesZ n.K D (i / 228) (i % 228)) x (n.K * 228) w6) (hsz : (L.length + 1) * (n.K * 228) ≤ 1000000) :
    ∃ v2 W2, (Builtin.append_ #[ /-t-/24, /-t-/24] /-t-/24 #[v, x]).run Tryz.prog w6 = .ok v2 W2 ∧ ∃ Ds', v2.ownBlock ≠ some Lb ∧ W2.heap[Lb]? = some (.cells #[v] /-t-/24 (0, 0)) ∧ RdI base p d c0 vol no n a wL Lb (L ++ [s]) v2 Ds' c' (W2.setCell ⟨Lb, 0, none⟩ v2) ∧ Ch (fun i => Foot p d i ∨ v.ownBlock = some i ∨ i = Lb) W (W2.setCell ⟨Lb, 0, none⟩ v2) := by
  have hlow := own_low h.own
  have hoff : ∀ i, v.ownBlock = some i → ¬ Foot p d i := fun i hi hfi => by have := hlow i hi; have := (hf i hfi).1; omega
  have ho4 := ownsRow_chS h.own h4 hoff
  have ho6 := ownsRow_ch ho4 h6
  have hrow : RowV w6 x (n.K * 228) (fun i => sharesZ n.K D (i / 228) (i % 228)) := ownsRow_rowV hx.own (by rw [Nat.succ_mul] at hsz; omega) (fun c _ => shares_b _ _ _ _)
  have hszz := hsz
  rw [Nat.succ_mul] at hszz
  obtain ⟨v2, W2, hr, ho2, hg2, hv2⟩ := app_row ho6 (Nat.le_trans h.ch.size (Nat.le_trans h4.size h6.size)) hrow (by omega)
  have k46 : Ch (Foot p d) W w6 := h4.trans (h6.mono fun _ _ f => f.elim)
  have hne : ¬ v.ownBlock = some Lb := fun e => by have := hlow Lb e; omega
  have hv6 : w6.heap[Lb]? = some (.cells #[v] /-t-/24 (0, 0)) := (k46.block Lb (blk_lt h.var) (fun q => (hf Lb q).2 rfl)).trans h.var
  have hvW2 := ((row_ch hg2).block Lb (blk_lt hv6) hne).trans hv6
  have hlow2 := own_low ho2
  have hne2 : v2.ownBlock ≠ some Lb := fun e => by have := hlow2 Lb e; omega
  have kE : Ch (fun i => i = Lb) W2 (W2.setCell ⟨Lb, 0, none⟩ v2) := (Ch.refl (fun i => i = Lb) W2).setCell (p := ⟨Lb, 0, none⟩) (Or.inl rfl) _
  have hkk : Ch (fun i => Foot p d i ∨ v.ownBlock = some i ∨ i = Lb) W (W2.setCell ⟨Lb, 0, none⟩ v2) :=
    ((k46.mono fun _ _ q => Or.inl q).trans ((row_ch hg2).mono fun _ _ e => Or.inr (Or.inl e))).trans (kE.mono fun _ _ e => Or.inr (Or.inr e))
  obtain ⟨Es, hEs⟩ : ∃ Es : Nat → Nat → Nat → Nat, Es = fun j => if j = L.length then D else Ds j := ⟨_, rfl⟩
  have hE1 : Es L.length = D := by rw [hEs]; exact if_pos rfl
  have hE2 : ∀ j, j < L.length → Ds j = Es j := fun j hj => by rw [hEs]; exact (if_neg (by omega)).symm
  have hlen : (L ++ [s]).length = L.length + 1 := List.length_append
  refine ⟨v2, W2, hr, Es, hne2, hvW2, ⟨var_set hvW2 _, ?_, fun j hj => ?_, ?_, ?_, ?_⟩, hkk⟩
  · rw [hlen, Nat.succ_mul]
    refine ownsRow_chS (?_ : W2.ownsRow _ _ _ _ _ _) kE fun i e x => hne2 (by rw [e, x])
    rw [bytesL_congr (y := rdB n.K Es) fun i hi => ?_] at ho2
    · exact ho2
    · unfold jnZ
      by_cases q : i < L.length * (n.K * 228)
      · rw [if_pos q]; exact rdB_congr hE2 q
      · rw [if_neg q]
        have hc : i - L.length * (n.K * 228) < n.K * 228 := by omega
        have := rdB_at (P := L.length) (Ds := Es) hc
        rw [hE1, show L.length * (n.K * 228) + (i - L.length * (n.K * 228)) = i by omega] at this
        exact this.symm
  · rw [hlen] at hj
    by_cases q : j < L.length
    · have := h.dat j q
      rw [List.getD_eq_getElem?_getD] at this ⊢
      rw [List.getElem?_append_left q, ← hE2 j q]
      exact this
    · obtain rfl : j = L.length := by omega
      rw [List.getD_eq_getElem?_getD, List.getElem?_append_right (Nat.le_refl _), Nat.sub_self, hE1]
      exact ⟨hk, hD⟩
  · rw [hlen, Nat.succ_mul]
    have := h.ops
    omega
  · refine (hdev.gr h6).ch (((row_ch hg2).mono fun _ _ e => Or.inl e).trans (kE.mono fun _ _ e => Or.inr e) : Ch (fun i => v.ownBlock = some i ∨ i = Lb) w6 _) fun i hi q => ?_
    have hi' := foot_op.1 hi
    rcases q with q | q
    · exact hoff i q hi'
    · exact (hf i hi').2 q
  · refine ch_then h.ch hkk fun i q => ?_
    rcases q with q | q | q
    · exact Or.inl (Or.inl q)
    · exact Or.inr (hlow i q)
    · exact Or.inl (Or.inr q)
/-- A stripe of which too few are left. -/
structure RdX (base : Nat) (p : Ph) (d : Dev) (c0 : Nat) (vol no : Int) (n : Gn) (a : Nat) (wL : World) (Lb R E : Nat) (W : World) : Prop where
  few : ∃ s, s < n.S ∧ leftN d vol no n a s < n.K
  r : W.heap[R]? = some (.cells #[.slice none 0 0] /-t-/24 (0, 0))
  x : W.heap[E]? = some (.cells #[.int .i64 22] 27 (0, 0))
  dev : ∃ c, c ≤ c0 + n.S * n.q ∧ DevIs base W p (opD d c)
  ch : Ch (fun i => Foot p d i ∨ (i = Lb ∨ (i = R ∨ i = E))) wL W
theorem RdX.nc {R E : Nat} (h : RdX base p d c0 vol no n a wL Lb R E W) {row : Option Nat} (hg : W.grownBy W' row) (hr : ∀ r, row = some r → wL.heap.size ≤ r ∧ ∃ o : Obj, W.heap[r]? = some o ∧ o.isCells = false) : RdX base p d c0 vol no n a wL Lb R E W' := by
  obtain ⟨c, hc, hd⟩ := h.dev
  exact ⟨h.few, ((row_ch hg).block R (blk_lt h.r) (nc_of hr h.r)).trans h.r, ((row_ch hg).block E (blk_lt h.x) (nc_of hr h.x)).trans h.x, ⟨c, hc, hd.ch (row_ch hg) fun i hi => by
    obtain ⟨c, t, hc⟩ := hd.cellsS hi
    exact nc_of hr hc⟩, ch_then h.ch (row_ch hg) fun i e => Or.inr (hr i e).1⟩
end
/-- What Read answers. -/
def RdPost (base : Nat) (p : Ph) (d : Dev) (c0 : Nat) (vol no : Int) (n : Gn) (a long : Nat) (w : World) (e : Ending) (w' : World) : Prop :=
  ∃ c, c ≤ c0 + n.S * n.q ∧ DevIs base w' p (opD d c) ∧ Ch (Foot p d) w w' ∧
    ((∃ v Ds, (∀ s, s < n.S → n.K ≤ leftN d vol no n a s ∧ DatS d vol no n a s (Ds s)) ∧ e = .returned (.tuple #[v, .int .i64 0]) ∧ RowV w' v long (rdB n.K Ds) ∧ ∀ b, v.ownBlock = some b → w.heap.size ≤ b ∧ b < w'.heap.size) ∨
      ((∃ s, s < n.S ∧ leftN d vol no n a s < n.K) ∧ e = .returned (.tuple #[.slice none 0 0, .int .i64 22])))
/-! ### the variables of a call of Read -/
structure ReV (w W : World) (Bp Bv H Ba Bn R E : Nat) (P : Option Addr) (vol : Int) (g : Ge) (a no : Int) : Prop where
  p : W.heap[Bp]? = some (.cells #[.pointer P] 46 (0, 0))
  v : W.heap[Bv]? = some (.cells #[.int .i64 vol] /-t-/3 (0, 0))
  h : W.heap[H]? = some (.cells (geC g) 23 (0, 0))
  a : W.heap[Ba]? = some (.cells #[.int .i64 a] /-t-/3 (0, 0))
  n : W.heap[Bn]? = some (.cells #[.int .i64 no] /-t-/3 (0, 0))
  r : W.heap[R]? = some (.cells #[.slice none 0 0] /-t-/24 (0, 0))
  x : W.heap[E]? = some (.cells #[.int .i64 0] 27 (0, 0))
  ord : w.heap.size ≤ Bp ∧ w.heap.size ≤ Bv ∧ w.heap.size ≤ H ∧ w.heap.size ≤ Ba ∧ w.heap.size ≤ Bn ∧ w.heap.size ≤ R ∧ w.heap.size ≤ E ∧ R < E ∧ Bp < R ∧ Bv < R ∧ H < R ∧ Ba < R ∧ Bn < R
  ch : Ch (fun _ => False) w W
theorem ReV.gr {w W W' : World} {Bp Bv H Ba Bn R E : Nat} {P : Option Addr} {vol a no : Int} {g : Ge} (h : ReV w W Bp Bv H Ba Bn R E P vol g a no) (c : Ch (fun _ => False) W W') : ReV w W' Bp Bv H Ba Bn R E P vol g a no :=
  ⟨(c.block _ (blk_lt h.p) (fun f => f)).trans h.p, (c.block _ (blk_lt h.v) (fun f => f)).trans h.v, (c.block _ (blk_lt h.h) (fun f => f)).trans h.h, (c.block _ (blk_lt h.a) (fun f => f)).trans h.a, (c.block _ (blk_lt h.n) (fun f => f)).trans h.n, (c.block _ (blk_lt h.r) (fun f => f)).trans h.r, (c.block _ (blk_lt h.x) (fun f => f)).trans h.x, h.ord, h.ch.trans c⟩
theorem reV (w : World) (P : Option Addr) (vol a no : Int) (g : Ge) : ∃ w2 H w6 Bp Bv Ba Bn R E, GeR ((w.alloc (.cells #[.pointer P] 46)).alloc (.cells #[.int .i64 vol] /-t-/3)) w2 H g ∧ (Bp = w.heap.size ∧ Bv = w.heap.size + 1 ∧ Ba = w2.heap.size ∧ Bn = w2.heap.size + 1 ∧ R = w2.heap.size + 1 + 1 ∧ E = w2.heap.size + 1 + 1 + 1) ∧
    w6 = (((w2.alloc (.cells #[.int .i64 a] /-t-/3)).alloc (.cells #[.int .i64 no] /-t-/3)).alloc (.cells #[.slice none 0 0] /-t-/24)).alloc (.cells #[.int .i64 0] 27) ∧ ReV w w6 Bp Bv H Ba Bn R E P vol g a no := by
  obtain ⟨wp, hwp⟩ : ∃ wp, wp = w.alloc (.cells #[.pointer P] 46) := ⟨_, rfl⟩
  obtain ⟨w1, hw1⟩ : ∃ w1, w1 = wp.alloc (.cells #[.int .i64 vol] /-t-/3) := ⟨_, rfl⟩
  obtain ⟨w2, H, hR⟩ := geR w1 g
  have sp : wp.heap.size = w.heap.size + 1 := by rw [hwp]; exact Array.size_push _
  have s1 : w1.heap.size = w.heap.size + 2 := by rw [hw1]; exact (Array.size_push _).trans (by rw [sp])
  have ap : wp.heap[w.heap.size]? = some (.cells #[.pointer P] 46 (0, 0)) := by rw [hwp]; exact heap_alloc_new _ _
  have a1 : w1.heap[w.heap.size + 1]? = some (.cells #[.int .i64 vol] /-t-/3 (0, 0)) := by rw [hw1, ← sp]; exact heap_alloc_new _ _
  have cp : Ch (fun _ => False) w wp := by rw [hwp]; exact (Ch.refl _ w).alloc _ _
  have c1 : Ch (fun _ => False) wp w1 := by rw [hw1]; exact (Ch.refl _ wp).alloc _ _
  obtain ⟨w3, hw3⟩ : ∃ w3, w3 = w2.alloc (.cells #[.int .i64 a] /-t-/3) := ⟨_, rfl⟩
  obtain ⟨w4, hw4⟩ : ∃ w4, w4 = w3.alloc (.cells #[.int .i64 no] /-t-/3) := ⟨_, rfl⟩
  obtain ⟨w5, hw5⟩ : ∃ w5, w5 = w4.alloc (.cells #[.slice none 0 0] /-t-/24) := ⟨_, rfl⟩
  obtain ⟨w6, hw6⟩ : ∃ w6, w6 = w5.alloc (.cells #[.int .i64 0] 27) := ⟨_, rfl⟩
  have s3 : w3.heap.size = w2.heap.size + 1 := by rw [hw3]; exact Array.size_push _
  have s4 : w4.heap.size = w2.heap.size + 2 := by rw [hw4]; exact (Array.size_push _).trans (by rw [s3])
  have s5 : w5.heap.size = w2.heap.size + 3 := by rw [hw5]; exact (Array.size_push _).trans (by rw [s4])
  have c3 : Ch (fun _ => False) w2 w3 := by rw [hw3]; exact (Ch.refl _ w2).alloc _ _
  have c4 : Ch (fun _ => False) w3 w4 := by rw [hw4]; exact (Ch.refl _ w3).alloc _ _
  have c5 : Ch (fun _ => False) w4 w5 := by rw [hw5]; exact (Ch.refl _ w4).alloc _ _
  have c6 : Ch (fun _ => False) w5 w6 := by rw [hw6]; exact (Ch.refl _ w5).alloc _ _
  have a3 : w3.heap[w2.heap.size]? = some (.cells #[.int .i64 a] /-t-/3 (0, 0)) := by rw [hw3]; exact heap_alloc_new _ _
  have a4 : w4.heap[w2.heap.size + 1]? = some (.cells #[.int .i64 no] /-t-/3 (0, 0)) := by rw [hw4, ← s3]; exact heap_alloc_new _ _
  have a5 : w5.heap[w2.heap.size + 2]? = some (.cells #[.slice none 0 0] /-t-/24 (0, 0)) := by rw [hw5, ← s4]; exact heap_alloc_new _ _
  have a6 : w6.heap[w2.heap.size + 3]? = some (.cells #[.int .i64 0] 27 (0, 0)) := by rw [hw6, ← s5]; exact heap_alloc_new _ _
  have k5 := c6
  have k4 := c5.trans k5
  have k3 := c4.trans k4
  have k2 := c3.trans k3
  have k1 := hR.ch.trans k2
  have kp := c1.trans k1
  have up : ∀ {A B : World} (k : Ch (fun _ => False) A B) {i : Nat} {c : Array Value} {t : TypeId}, A.heap[i]? = some (.cells c t (0, 0)) → B.heap[i]? = some (.cells c t (0, 0)) := fun k _ _ _ h => (k.block _ (blk_lt h) (fun f => f)).trans h
  have sz := (c1.trans hR.ch).size
  have hH := hR.sz
  have hHl := blk_lt hR.cx
  have szp := hR.ch.size
  subst hwp
  subst hw1
  exact ⟨w2, H, w6, w.heap.size, w.heap.size + 1, w2.heap.size, w2.heap.size + 1, w2.heap.size + 2, w2.heap.size + 3, hR, ⟨rfl, rfl, rfl, rfl, rfl, rfl⟩, by rw [hw6, hw5, hw4, hw3],
    ⟨up kp ap, up k1 a1, up k2 hR.cx, up k3 a3, up k4 a4, up k5 a5, a6, ⟨by omega, by omega, by omega, by omega, by omega, by omega, by omega, by omega, by omega, by omega, by omega, by omega, by omega⟩, cp.trans kp⟩⟩
theorem ReV.fail {w W : World} {Bp Bv H Ba Bn R E : Nat} {P : Option Addr} {vol a no : Int} {g : Ge} (h : ReV w W Bp Bv H Ba Bn R E P vol g a no) (k : Int) :
    ErrPost k w (.returned (.tuple #[.slice none 0 0, .int .i64 k])) ((W.setCell ⟨R, 0, none⟩ (.slice none 0 0)).setCell ⟨E, 0, none⟩ (.int .i64 k)) ∧
    ((W.setCell ⟨R, 0, none⟩ (.slice none 0 0)).setCell ⟨E, 0, none⟩ (.int .i64 k)).cell? ⟨R, 0, none⟩ = some (.slice none 0 0) ∧ ((W.setCell ⟨R, 0, none⟩ (.slice none 0 0)).setCell ⟨E, 0, none⟩ (.int .i64 k)).cell? ⟨E, 0, none⟩ = some (.int .i64 k) := by
  obtain ⟨_, _, _, _, _, o1, o2, o3, _⟩ := h.ord
  have hne : R ≠ E := by omega
  have r1 := var_set h.r (.slice none 0 0)
  have k1 : Ch (fun i => i = R) W (W.setCell ⟨R, 0, none⟩ (.slice none 0 0)) := (Ch.refl (fun i => i = R) W).setCell (p := ⟨R, 0, none⟩) (Or.inl rfl) _
  have x1 := (k1.block E (blk_lt h.x) (fun e => hne e.symm)).trans h.x
  have k2 : Ch (fun i => i = E) (W.setCell ⟨R, 0, none⟩ (.slice none 0 0)) ((W.setCell ⟨R, 0, none⟩ (.slice none 0 0)).setCell ⟨E, 0, none⟩ (.int .i64 k)) := (Ch.refl (fun i => i = E) _).setCell (p := ⟨E, 0, none⟩) (Or.inl rfl) _
  have x2 := var_set x1 (.int .i64 k)
  have r2 := (k2.block R (blk_lt r1) hne).trans r1
  exact ⟨⟨rfl, (h.ch.new (k1.mono fun i _ e => by rw [e]; exact o1)).new (k2.mono fun i _ e => by rw [e]; exact o2)⟩, blk_cell r2, blk_cell x2⟩
theorem results_rd {fn : Func} {p q : Tmp} (h : fn.results = #[.cell p /-t-/24, .cell q 27]) (tmps : Array Value) (w : World) (R E : Nat) (v : Value) (e : Int) (hp : tmps.getD p undef = .pointer (some ⟨R, 0, none⟩)) (hq : tmps.getD q undef = .pointer (some ⟨E, 0, none⟩))
    (hv : w.cell? ⟨R, 0, none⟩ = some v) (he : w.cell? ⟨E, 0, none⟩ = some (.int .i64 e)) : (results fn tmps).run Tryz.prog w = .ok (.tuple #[v, .int .i64 e]) w := by
  simp only [Array.getD_eq_getD_getElem?] at hp hq
  simp [results, h, go_sem, hp, hq, asAddr, hv, he]
end Go.Proofs.YtlbdopcchoklhaaGreat
namespace Go.Proofs.YtlbdopcchoklhaaGreat
open Go.RowKit
set_option linter.unusedVariables false
set_option maxRecDepth 100000
set_option linter.unusedSimpArgs false
attribute [local go_sem] Oper.semAt_some wide_fn wide_depth

end Go.Proofs.YtlbdopcchoklhaaGreat
