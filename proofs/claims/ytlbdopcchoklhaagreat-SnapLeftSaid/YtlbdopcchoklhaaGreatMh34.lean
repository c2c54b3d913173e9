/-
  How the program's Puts stands between two rounds: the writes that are gathered in a variable. The program's Puts, walked.
-/
import Derived.Test.YtlbdopcchoklhaaGreatMh33
namespace Go.Proofs.YtlbdopcchoklhaaGreat
open Go.RowKit
set_option linter.unusedVariables false
set_option maxRecDepth 100000
set_option linter.unusedSimpArgs false

theorem PutsO.off {S : Nat → Prop} {w W W' : World} {v : Value} {k : Nat} {f : Nat → PutP} {s : Nat → Value} (h : PutsO w W v k f s) (c : Ch S W W') (h1 : ∀ i, v.ownBlock = some i → ¬ S i) (h2 : ∀ i cc, W.heap[i]? = some (.cells cc /-t-/5 (0, 0)) → ¬ S i) (h3 : ∀ i, S i → w.heap.size ≤ i) : PutsO w W' v k f s :=
  ⟨ownsRow_chS h.own c h1, fun i hi => by
    obtain ⟨sb, so, sC, q⟩ := h.rows i hi
    obtain ⟨cc, hcc⟩ := q.blk
    exact ⟨sb, so, sC, q.ch c (h2 sb cc hcc)⟩, h.ch.new (c.mono fun i _ hi => h3 i hi)⟩
/-- The writes gathered so far, in the variable Lb. -/
structure PtI (w w8 : World) (Lb : Nat) (f : Nat → PutP) (cnt : Nat) (v : Value) (W : World) : Prop where
  var : W.heap[Lb]? = some (.cells #[v] 30 (0, 0))
  put : ∃ St, PutsO w W v cnt f St
  low : ∀ b, v.ownBlock = some b → w8.heap.size ≤ b
  ch : Ch (fun i => i = Lb) w8 W
section
variable {w w8 W W' : World} {Lb cnt : Nat} {f : Nat → PutP} {v : Value}
theorem PtI.off {S : Nat → Prop} (h : PtI w w8 Lb f cnt v W) (c : Ch S W W') (h0 : ¬ S Lb) (h1 : ∀ i, v.ownBlock = some i → ¬ S i) (h2 : ∀ i cc, W.heap[i]? = some (.cells cc /-t-/5 (0, 0)) → ¬ S i) (h3 : ∀ i, S i → w8.heap.size ≤ i) (hw : w.heap.size ≤ w8.heap.size) : PtI w w8 Lb f cnt v W' := by
  obtain ⟨St, hp⟩ := h.put
  exact ⟨(c.block Lb (blk_lt h.var) h0).trans h.var, ⟨St, hp.off c h1 h2 fun i hi => Nat.le_trans hw (h3 i hi)⟩, h.low, ch_then h.ch c fun i hi => Or.inr (h3 i hi)⟩
theorem PtI.gr (h : PtI w w8 Lb f cnt v W) (c : Ch (fun _ => False) W W') : PtI w w8 Lb f cnt v W' := by
  obtain ⟨St, hp⟩ := h.put
  exact ⟨(c.block Lb (blk_lt h.var) (fun f => f)).trans h.var, ⟨St, hp.gr c⟩, h.low, ch_then h.ch c fun i hi => hi.elim⟩
theorem PtI.nc (h : PtI w w8 Lb f cnt v W) {row : Option Nat} (hg : W.grownBy W' row) (hr : ∀ r, row = some r → w8.heap.size ≤ r ∧ ∃ o : Obj, W.heap[r]? = some o ∧ o.isCells = false) (hw : w.heap.size ≤ w8.heap.size) : PtI w w8 Lb f cnt v W' := by
  have hnc : ∀ i c t f, W.heap[i]? = some (.cells c t f) → ¬ row = some i := fun i c t f hc e => by
    obtain ⟨_, o, ho, hn⟩ := hr i e
    rw [hc] at ho; cases ho; cases hn
  obtain ⟨St, hp⟩ := h.put
  refine h.off (row_ch hg) (hnc _ _ _ _ h.var) (fun i hi => ?_) (fun i cc hc => hnc _ _ _ _ hc) (fun i hi => (hr i hi).1) hw
  obtain ⟨c, hc⟩ := own_cells hp.own i hi
  exact hnc _ _ _ _ hc
/-- One more. -/
theorem PtI.app (h : PtI w w8 Lb f cnt v W) (hw : w.heap.size ≤ Lb) (hL : Lb < w8.heap.size) {sb so sC : Nat} {u : Value} (hu : OwnB w W u (f cnt).n (f cnt).z sb so sC) (hk : cnt ≤ 1048576) :
    ∃ g cap W2, (Builtin.append_ #[ 30, 30] 30 #[v, .slice (some ⟨W.heap.size, 0, none⟩) 1 1]).run Tryz.prog (W.alloc (.cells #[.int .i64 (f cnt).pl, u] 35)) = .ok (.slice (some ⟨g, 0, none⟩) (cnt + 1) cap) W2 ∧
      W2.heap[Lb]? = some (.cells #[v] 30 (0, 0)) ∧ PtI w w8 Lb f (cnt + 1) (.slice (some ⟨g, 0, none⟩) (cnt + 1) cap) (W2.setCell ⟨Lb, 0, none⟩ (.slice (some ⟨g, 0, none⟩) (cnt + 1) cap)) ∧
      Ch (fun i => v.ownBlock = some i ∨ i = Lb) W (W2.setCell ⟨Lb, 0, none⟩ (.slice (some ⟨g, 0, none⟩) (cnt + 1) cap)) ∧ (v.ownBlock = some g ∨ W.heap.size ≤ g) := by
  obtain ⟨St, hp⟩ := h.put
  obtain ⟨g, cap, W2, hr, hp2, hk2, hg⟩ := hp.app2 hu hk
  have hne : ¬ v.ownBlock = some Lb := fun e => by have := h.low Lb e; omega
  have hv2 := (hk2.block Lb (blk_lt h.var) hne).trans h.var
  have kE : Ch (fun i => i = Lb) W2 (W2.setCell ⟨Lb, 0, none⟩ (.slice (some ⟨g, 0, none⟩) (cnt + 1) cap)) := (Ch.refl (fun i => i = Lb) W2).setCell (p := ⟨Lb, 0, none⟩) (Or.inl rfl) _
  have hlow : ∀ b, (Value.slice (some ⟨g, 0, none⟩) (cnt + 1) cap).ownBlock = some b → w8.heap.size ≤ b := fun b e => by
    have e : g = b := by simpa [Value.ownBlock] using e
    subst e
    rcases hg with q | q
    · exact h.low _ q
    · exact Nat.le_trans h.ch.size q
  have hkk : Ch (fun i => v.ownBlock = some i ∨ i = Lb) W (W2.setCell ⟨Lb, 0, none⟩ (.slice (some ⟨g, 0, none⟩) (cnt + 1) cap)) := (hk2.mono fun _ _ e => Or.inl e).trans (kE.mono fun _ _ e => Or.inr e)
  refine ⟨g, cap, W2, hr, hv2, ⟨var_set hv2 _, ⟨_, hp2.off kE (fun i e x => ?_) (fun i cc hc x => ?_) (fun i e => by rw [e]; exact hw)⟩, hlow, ch_then h.ch hkk fun i e => e.elim (fun q => Or.inr (h.low i q)) Or.inl⟩, hkk, hg⟩
  · have := hlow i e
    omega
  · rw [x] at hc
    exact cells_ne hv2 hc (by decide) rfl
end
/-- How it stands within a round, i of a stripe's shares written. -/
def PtS (w w8 ws w4 : World) (Lb Hg Ha : Nat) (f : Nat → PutP) (X : Nat → Prop) (S4 : Value) (q : Nat) (Y : Nat → Nat → Nat) (cnt : Nat) (v : Value) (W : World) : Prop :=
  PtI w w8 Lb f cnt v W ∧ (∀ b, v.ownBlock = some b → ¬ X b) ∧ MatX W X S4 q (fun _ => 228) Y ∧ w4.heap.size ≤ W.heap.size ∧ KeepsFrom w8.heap.size ws W ∧ KpStr Hg Ha ws W
section
variable {w w8 ws w4 W W' : World} {Lb Hg Ha q cnt : Nat} {f : Nat → PutP} {X : Nat → Prop} {S4 v : Value} {Y : Nat → Nat → Nat}
theorem PtS.gr (h : PtS w w8 ws w4 Lb Hg Ha f X S4 q Y cnt v W) (c : Ch (fun _ => False) W W') : PtS w w8 ws w4 Lb Hg Ha f X S4 q Y cnt v W' :=
  ⟨h.1.gr c, h.2.1, matX_ch h.2.2.1 c (fun _ _ f => f), Nat.le_trans h.2.2.2.1 c.size, h.2.2.2.2.1.trans (keeps_ch c fun _ f => f.elim), h.2.2.2.2.2.trans (KpX.of c fun _ _ f => f)⟩
theorem PtS.app (h : PtS w w8 ws w4 Lb Hg Ha f X S4 q Y cnt v W) (hw : w.heap.size ≤ Lb) (hL : Lb < w8.heap.size) (hX : ∀ b, X b → b ≠ Lb ∧ b < w4.heap.size) (hgl : Hg < w8.heap.size ∧ Hg ≠ Lb) (hal : Ha < w8.heap.size ∧ Ha ≠ Lb) {sb so sC : Nat} {u : Value} (hu : OwnB w W u (f cnt).n (f cnt).z sb so sC) (hk : cnt ≤ 1048576) :
    ∃ g cap W2, (Builtin.append_ #[ 30, 30] 30 #[v, .slice (some ⟨W.heap.size, 0, none⟩) 1 1]).run Tryz.prog (W.alloc (.cells #[.int .i64 (f cnt).pl, u] 35)) = .ok (.slice (some ⟨g, 0, none⟩) (cnt + 1) cap) W2 ∧
      W2.heap[Lb]? = some (.cells #[v] 30 (0, 0)) ∧ PtS w w8 ws w4 Lb Hg Ha f X S4 q Y (cnt + 1) (.slice (some ⟨g, 0, none⟩) (cnt + 1) cap) (W2.setCell ⟨Lb, 0, none⟩ (.slice (some ⟨g, 0, none⟩) (cnt + 1) cap)) := by
  obtain ⟨g, cap, W2, hr, hv, hp, hkk, hg⟩ := h.1.app hw hL hu hk
  obtain ⟨St, hps⟩ := h.1.put
  have hoff : ∀ b, X b → ¬ (v.ownBlock = some b ∨ b = Lb) := fun b hb e => by
    rcases e with e | e
    · exact h.2.1 b e hb
    · exact (hX b hb).1 e
  refine ⟨g, cap, W2, hr, hv, hp, fun b e hb => ?_, matX_ch h.2.2.1 hkk hoff, Nat.le_trans h.2.2.2.1 hkk.size, h.2.2.2.2.1.trans (keeps_cells hkk fun i e => ?_), h.2.2.2.2.2.trans (KpX.of hkk fun i hi e => ?_)⟩
  · have e : g = b := by simpa [Value.ownBlock] using e
    subst e
    rcases hg with e | e
    · exact h.2.1 _ e hb
    · have := (hX _ hb).2
      have := h.2.2.2.1
      omega
  · rcases e with e | e
    · obtain ⟨c, hc⟩ := own_cells hps.own i e
      exact Or.inr ⟨_, _, _, hc⟩
    · exact Or.inl (by rw [e]; exact hL)
  · have hlt : i < w8.heap.size ∧ i ≠ Lb := by rcases hi with rfl | rfl; exact hgl; exact hal
    rcases e with e | e
    · have := h.1.low i e; omega
    · exact hlt.2 e
end
theorem results_pts {fn : Func} {p q : Tmp} (h : fn.results = #[.cell p 30, .cell q 27]) (tmps : Array Value) (w : World) (R E : Nat) (v : Value) (e : Int) (hp : tmps.getD p undef = .pointer (some ⟨R, 0, none⟩)) (hq : tmps.getD q undef = .pointer (some ⟨E, 0, none⟩))
    (hv : w.cell? ⟨R, 0, none⟩ = some v) (he : w.cell? ⟨E, 0, none⟩ = some (.int .i64 e)) : (results fn tmps).run Tryz.prog w = .ok (.tuple #[v, .int .i64 e]) w := by
  simp only [Array.getD_eq_getD_getElem?] at hp hq
  simp [results, h, go_sem, hp, hq, asAddr, hv, he]
/-! ### the writes of some stripes, one behind the other -/
def stpP (vol ep no : Int) (n : Gn) (a : Nat) (Z : Nat → Nat) (L : List Nat) (j : Nat) : PutP := ⟨(frsN n a (L.getD (j / n.q) 0) : Int) + ((j % n.q : Nat) : Int), 256, sectZ (shrK vol ep no n a Z undef (L.getD (j / n.q) 0) (j % n.q))⟩
theorem stp_pre {vol ep no : Int} {n : Gn} {a : Nat} {Z : Nat → Nat} {L : List Nat} {s j : Nat} (h : j < L.length * n.q) : stpP vol ep no n a Z L j = stpP vol ep no n a Z (L ++ [s]) j := by
  have hq : 0 < n.q := Nat.pos_of_ne_zero fun e => by rw [e, Nat.mul_zero] at h; omega
  have hl : j / n.q < L.length := (Nat.div_lt_iff_lt_mul hq).2 h
  unfold stpP
  rw [List.getD_eq_getElem?_getD, List.getD_eq_getElem?_getD, List.getElem?_append_left hl]
theorem stp_new {vol ep no : Int} {n : Gn} {a : Nat} {Z : Nat → Nat} {L : List Nat} {s i : Nat} (h : i < n.q) : stpP vol ep no n a Z (L ++ [s]) (L.length * n.q + i) = ⟨(frsN n a s : Int) + (i : Int), 256, sectZ (shrK vol ep no n a Z undef s i)⟩ := by
  have h1 : (L.length * n.q + i) / n.q = L.length := by rw [Nat.mul_comm, Nat.mul_add_div (by omega), Nat.div_eq_of_lt h, Nat.add_zero]
  have h2 : (L.length * n.q + i) % n.q = i := by rw [Nat.mul_comm, Nat.mul_add_mod, Nat.mod_eq_of_lt h]
  unfold stpP
  rw [h1, h2, List.getD_eq_getElem?_getD, List.getElem?_append_right (Nat.le_refl _), Nat.sub_self]
  rfl
theorem stp_all {vol ep no : Int} {n : Gn} {a : Nat} {Z : Nat → Nat} {j : Nat} (h : j < n.S * n.q) : stpP vol ep no n a Z (List.range n.S) j = snpP vol ep no n a Z j := by
  have hq : 0 < n.q := Nat.pos_of_ne_zero fun e => by rw [e, Nat.mul_zero] at h; omega
  have hl : j / n.q < n.S := (Nat.div_lt_iff_lt_mul hq).2 h
  unfold stpP snpP
  rw [List.getD_eq_getElem?_getD, List.getElem?_range hl]
  rfl
theorem putL_fcongr {f g : Nat → PutP} {s : Nat → Value} {k : Nat} (h : ∀ c, c < k → f c = g c) : putL f s k = putL g s k := by
  induction k with
  | zero => rfl
  | succ k ih => rw [putL_snoc, putL_snoc, ih (fun c hc => h c (by omega)), h k (by omega)]
theorem PutsO.fcongr {w W : World} {v : Value} {k : Nat} {f g : Nat → PutP} {s : Nat → Value} (h : PutsO w W v k f s) (e : ∀ c, c < k → f c = g c) : PutsO w W v k g s :=
  ⟨by rw [← putL_fcongr e]; exact h.own, fun c hc => by rw [← e c hc]; exact h.rows c hc, h.ch⟩
theorem PtI.fcongr {w w8 W : World} {Lb cnt : Nat} {f g : Nat → PutP} {v : Value} (h : PtI w w8 Lb f cnt v W) (e : ∀ c, c < cnt → f c = g c) : PtI w w8 Lb g cnt v W := by
  obtain ⟨St, hp⟩ := h.put
  exact ⟨h.var, ⟨St, hp.fcongr e⟩, h.low, h.ch⟩
/-! ### the data, in pieces -/
structure DatI (W : World) (gd G ND : Nat) (Z : Nat → Nat) : Prop where
  lst : ∀ r, r < ND → W.cell? ⟨gd, r, none⟩ = some (chV G r)
  byt : ∀ j, j < ND * 228 → W.cell? ⟨G, j, none⟩ = some (.int .u8 (Z j : Int)) ∧ Z j < 256
theorem DatI.ch {S : Nat → Prop} {W W' : World} {gd G ND : Nat} {Z : Nat → Nat} (h : DatI W gd G ND Z) (k : Ch S W W') (h1 : ¬ S gd) (h2 : ¬ S G) : DatI W' gd G ND Z :=
  ⟨fun r hr => k.cell (h.lst r hr) h1, fun j hj => ⟨k.cell (h.byt j hj).1 h2, (h.byt j hj).2⟩⟩
theorem datI_of {W : World} {base gd G ND Cd : Nat} {Z : Nat → Nat} (h1 : W.ownsRow base /-t-/24 1 (.slice (some ⟨gd, 0, none⟩) ND Cd) ND (valsL ND (chV G))) (h2 : RowV W (.slice (some ⟨G, 0, none⟩) (ND * 228) (ND * 228)) (ND * 228) Z) : DatI W gd G ND Z := by
  refine ⟨fun r hr => ?_, fun j hj => ?_⟩
  · have := World.ownsRow.cells h1 (g := gd) rfl r (chV G r) (valsL_get hr)
    rw [add_pl, Nat.zero_add] at this
    exact this
  · obtain ⟨A, C, e, _, h3⟩ := h2
    injection e with e _ _
    obtain ⟨b, o, hA, hc⟩ := h3 (by omega)
    rw [hA] at e
    injection e with e
    injection e with e1 e2
    subst e1 e2
    have := hc j hj
    rw [Nat.zero_add] at this
    exact this
theorem DatI.row {W : World} {gd G ND r : Nat} {Z : Nat → Nat} (h : DatI W gd G ND Z) (hr : r < ND) : RowV W (chV G r) 228 (fun c => Z (r * 228 + c)) :=
  ⟨some ⟨G, r * 228, none⟩, 228, rfl, ⟨by omega, Nat.le_refl _⟩, fun _ => ⟨G, r * 228, rfl, fun c hc => h.byt (r * 228 + c) (by have : (r + 1) * 228 ≤ ND * 228 := Nat.mul_le_mul_right _ hr; omega)⟩⟩
/-- A stripe's data. -/
theorem DatI.part {W : World} {gd G ND D1 K Cd s : Nat} {Z : Nat → Nat} (h : DatI W gd G ND Z) (hD : D1 = s * K) (hK : D1 + K ≤ ND) (hN : ND ≤ 65536) (hC : K ≤ Cd) : MatV W (.slice (some ⟨gd, D1, none⟩) K Cd) K (fun _ => 228) (datZ K Z s) ∧ RowsAt W gd D1 K (fun r => chV G (D1 + r)) := by
  refine ⟨⟨_, _, rfl, ⟨by omega, hC⟩, fun _ => ⟨gd, D1, rfl, fun r hr => ⟨chV G (D1 + r), h.lst _ (by omega), ?_⟩⟩⟩, fun r hr => ⟨h.lst _ (by omega), rfl⟩⟩
  have := h.row (r := D1 + r) (by omega)
  rw [hD] at this ⊢
  exact this
/-- All shares of a stripe, that may be read while writes are gathered. -/
theorem shares_mat {ws w4 : World} {g4 C4 q K m G D1 : Nat} {Gm : Nat → Value} {D : Nat → Nat → Nat} (hq : q = K + m) (hD : AllB D) (h : w4.ownsRow ws.heap.size /-t-/24 1 (.slice (some ⟨g4, 0, none⟩) q C4) q (valsL K (fun r => chV G (D1 + r)) ++ valsL m Gm)) (h1 : ∀ r, r < K → RowV w4 (chV G (D1 + r)) 228 (D r))
    (h2 : ∀ r, r < m → RowV w4 (Gm r) 228 (mulZ K (cauZ K) D r) ∧ ∀ b, (Gm r).ownBlock = some b → ws.heap.size ≤ b ∧ b < w4.heap.size) :
    MatX w4 (fun b => b = G ∨ (ws.heap.size ≤ b ∧ b < w4.heap.size)) (.slice (some ⟨g4, 0, none⟩) q C4) q (fun _ => 228) (sharesZ K D) := by
  have hb := World.ownsRow.lt h g4 rfl
  refine ⟨g4, 0, C4, rfl, Or.inr hb, fun r hr => ?_⟩
  by_cases hk : r < K
  · have hc := World.ownsRow.cells h (g := g4) rfl r (chV G (D1 + r)) (by rw [List.getElem?_append_left (by unfold valsL; simp; omega)]; exact valsL_get hk)
    rw [add_pl] at hc
    refine ⟨_, _, hc, (h1 r hk).congr fun c _ => (shares_data hD hk c).symm, fun b e => ?_⟩
    have e : G = b := by simpa [Value.ownBlock] using e
    exact Or.inl e.symm
  · have hl : (valsL K (fun r => chV G (D1 + r))).length = K := by unfold valsL; simp
    have hc := World.ownsRow.cells h (g := g4) rfl r (Gm (r - K)) (by rw [List.getElem?_append_right (by rw [hl]; omega), hl]; exact valsL_get (by omega))
    rw [add_pl] at hc
    obtain ⟨hrow, hblk⟩ := h2 (r - K) (by omega)
    obtain ⟨A', C', e, _⟩ := id hrow
    rw [e] at hc hrow hblk
    refine ⟨A', C', hc, hrow.congr fun c _ => ?_, fun b e => Or.inr (hblk b e)⟩
    rw [← shares_rest, show K + (r - K) = r by omega]
end Go.Proofs.YtlbdopcchoklhaaGreat
namespace Go.Proofs.YtlbdopcchoklhaaGreat
open Go.RowKit
set_option linter.unusedVariables false
set_option maxRecDepth 100000
set_option linter.unusedSimpArgs false
attribute [local go_sem] Oper.semAt_some wide_fn wide_depth

/-- The variables of a call of Puts. -/
structure PuV (w W : World) (Bv H Be Bn R E : Nat) (vol ep no : Int) (g : Ge) : Prop where
  v : W.heap[Bv]? = some (.cells #[.int .i64 vol] /-t-/3 (0, 0))
  h : W.heap[H]? = some (.cells (geC g) 23 (0, 0))
  e : W.heap[Be]? = some (.cells #[.int .i64 ep] /-t-/3 (0, 0))
  n : W.heap[Bn]? = some (.cells #[.int .i64 no] /-t-/3 (0, 0))
  r : W.heap[R]? = some (.cells #[.slice none 0 0] 30 (0, 0))
  x : W.heap[E]? = some (.cells #[.int .i64 0] 27 (0, 0))
  ord : w.heap.size ≤ R ∧ w.heap.size ≤ E ∧ R < E
  ch : Ch (fun _ => False) w W
theorem PuV.gr {w W W' : World} {Bv H Be Bn R E : Nat} {vol ep no : Int} {g : Ge} (h : PuV w W Bv H Be Bn R E vol ep no g) (c : Ch (fun _ => False) W W') : PuV w W' Bv H Be Bn R E vol ep no g :=
  ⟨(c.block _ (blk_lt h.v) (fun f => f)).trans h.v, (c.block _ (blk_lt h.h) (fun f => f)).trans h.h, (c.block _ (blk_lt h.e) (fun f => f)).trans h.e, (c.block _ (blk_lt h.n) (fun f => f)).trans h.n, (c.block _ (blk_lt h.r) (fun f => f)).trans h.r, (c.block _ (blk_lt h.x) (fun f => f)).trans h.x, h.ord, h.ch.trans c⟩
theorem puV (w : World) (vol ep no : Int) (g : Ge) : ∃ w2 H w6 Bv Be Bn R E, GeR (w.alloc (.cells #[.int .i64 vol] /-t-/3)) w2 H g ∧ (Bv = w.heap.size ∧ Be = w2.heap.size ∧ Bn = w2.heap.size + 1 ∧ R = w2.heap.size + 1 + 1 ∧ E = w2.heap.size + 1 + 1 + 1) ∧
    w6 = (((w2.alloc (.cells #[.int .i64 ep] /-t-/3)).alloc (.cells #[.int .i64 no] /-t-/3)).alloc (.cells #[.slice none 0 0] 30)).alloc (.cells #[.int .i64 0] 27) ∧ PuV w w6 Bv H Be Bn R E vol ep no g := by
  obtain ⟨w2, H, hR⟩ := geR (w.alloc (.cells #[.int .i64 vol] /-t-/3)) g
  have a1 : (w.alloc (.cells #[.int .i64 vol] /-t-/3)).heap[w.heap.size]? = some (.cells #[.int .i64 vol] /-t-/3 (0, 0)) := heap_alloc_new _ _
  have c1 : Ch (fun _ => False) w (w.alloc (.cells #[.int .i64 vol] /-t-/3)) := (Ch.refl _ w).alloc _ _
  obtain ⟨w3, hw3⟩ : ∃ w3, w3 = w2.alloc (.cells #[.int .i64 ep] /-t-/3) := ⟨_, rfl⟩
  obtain ⟨w4, hw4⟩ : ∃ w4, w4 = w3.alloc (.cells #[.int .i64 no] /-t-/3) := ⟨_, rfl⟩
  obtain ⟨w5, hw5⟩ : ∃ w5, w5 = w4.alloc (.cells #[.slice none 0 0] 30) := ⟨_, rfl⟩
  obtain ⟨w6, hw6⟩ : ∃ w6, w6 = w5.alloc (.cells #[.int .i64 0] 27) := ⟨_, rfl⟩
  have s3 : w3.heap.size = w2.heap.size + 1 := by rw [hw3]; exact Array.size_push _
  have s4 : w4.heap.size = w2.heap.size + 2 := by rw [hw4]; exact (Array.size_push _).trans (by rw [s3])
  have s5 : w5.heap.size = w2.heap.size + 3 := by rw [hw5]; exact (Array.size_push _).trans (by rw [s4])
  have c3 : Ch (fun _ => False) w2 w3 := by rw [hw3]; exact (Ch.refl _ w2).alloc _ _
  have c4 : Ch (fun _ => False) w3 w4 := by rw [hw4]; exact (Ch.refl _ w3).alloc _ _
  have c5 : Ch (fun _ => False) w4 w5 := by rw [hw5]; exact (Ch.refl _ w4).alloc _ _
  have c6 : Ch (fun _ => False) w5 w6 := by rw [hw6]; exact (Ch.refl _ w5).alloc _ _
  have a3 : w3.heap[w2.heap.size]? = some (.cells #[.int .i64 ep] /-t-/3 (0, 0)) := by rw [hw3]; exact heap_alloc_new _ _
  have a4 : w4.heap[w2.heap.size + 1]? = some (.cells #[.int .i64 no] /-t-/3 (0, 0)) := by rw [hw4, ← s3]; exact heap_alloc_new _ _
  have a5 : w5.heap[w2.heap.size + 2]? = some (.cells #[.slice none 0 0] 30 (0, 0)) := by rw [hw5, ← s4]; exact heap_alloc_new _ _
  have a6 : w6.heap[w2.heap.size + 3]? = some (.cells #[.int .i64 0] 27 (0, 0)) := by rw [hw6, ← s5]; exact heap_alloc_new _ _
  have k5 := c6
  have k4 := c5.trans k5
  have k3 := c4.trans k4
  have k2 := c3.trans k3
  have k1 := hR.ch.trans k2
  have up : ∀ {A B : World} (k : Ch (fun _ => False) A B) {i : Nat} {c : Array Value} {t : TypeId}, A.heap[i]? = some (.cells c t (0, 0)) → B.heap[i]? = some (.cells c t (0, 0)) := fun k _ _ _ h => (k.block _ (blk_lt h) (fun f => f)).trans h
  have sz := (c1.trans hR.ch).size
  exact ⟨w2, H, w6, w.heap.size, w2.heap.size, w2.heap.size + 1, w2.heap.size + 2, w2.heap.size + 3, hR, ⟨rfl, rfl, rfl, rfl, rfl⟩, by rw [hw6, hw5, hw4, hw3],
    ⟨up k1 a1, up k2 hR.cx, up k3 a3, up k4 a4, up k5 a5, a6, ⟨by omega, by omega, by omega⟩, c1.trans k1⟩⟩
/-- The answer with an error. -/
theorem PuV.fail {w W : World} {Bv H Be Bn R E : Nat} {vol ep no : Int} {g : Ge} (h : PuV w W Bv H Be Bn R E vol ep no g) (k : Int) :
    ErrPost k w (.returned (.tuple #[.slice none 0 0, .int .i64 k])) ((W.setCell ⟨R, 0, none⟩ (.slice none 0 0)).setCell ⟨E, 0, none⟩ (.int .i64 k)) ∧
    ((W.setCell ⟨R, 0, none⟩ (.slice none 0 0)).setCell ⟨E, 0, none⟩ (.int .i64 k)).cell? ⟨R, 0, none⟩ = some (.slice none 0 0) ∧ ((W.setCell ⟨R, 0, none⟩ (.slice none 0 0)).setCell ⟨E, 0, none⟩ (.int .i64 k)).cell? ⟨E, 0, none⟩ = some (.int .i64 k) := by
  obtain ⟨o1, o2, o3⟩ := h.ord
  have hne : R ≠ E := by omega
  have r1 := var_set h.r (.slice none 0 0)
  have k1 : Ch (fun i => i = R) W (W.setCell ⟨R, 0, none⟩ (.slice none 0 0)) := (Ch.refl (fun i => i = R) W).setCell (p := ⟨R, 0, none⟩) (Or.inl rfl) _
  have x1 := (k1.block E (blk_lt h.x) (fun e => hne e.symm)).trans h.x
  have k2 : Ch (fun i => i = E) (W.setCell ⟨R, 0, none⟩ (.slice none 0 0)) ((W.setCell ⟨R, 0, none⟩ (.slice none 0 0)).setCell ⟨E, 0, none⟩ (.int .i64 k)) := (Ch.refl (fun i => i = E) _).setCell (p := ⟨E, 0, none⟩) (Or.inl rfl) _
  have x2 := var_set x1 (.int .i64 k)
  have r2 := (k2.block R (blk_lt r1) hne).trans r1
  exact ⟨⟨rfl, (h.ch.new (k1.mono fun i _ e => by rw [e]; exact o1)).new (k2.mono fun i _ e => by rw [e]; exact o2)⟩, blk_cell r2, blk_cell x2⟩
theorem pts_may {vol ep no : Int} {n : Gn} {a : Nat} (hn : n.Ok) (ha : a ≤ 1) (hv : 0 ≤ vol ∧ vol ≤ 4294967295) (he : 0 ≤ ep ∧ ep ≤ 4294967295) (ho : 0 ≤ no ∧ no ≤ 4294967295) : smayB vol n.ge (a : Int) 0 ep no = true := by
  unfold smayB
  rw [show frsB n.ge (a : Int) 0 = true from frsB_yes hn ha (s := 0) (by have := hn.s1; omega), wordB_iff.2 hv, wordB_iff.2 he, wordB_iff.2 ho]
  rfl
theorem room_ge {n : Gn} (hn : n.Ok) : roomG n.ge = ((n.S * n.K * 228 : Nat) : Int) := by
  unfold roomG
  rw [ok_may hn, Int.natCast_mul, Int.natCast_mul]
  rfl
end Go.Proofs.YtlbdopcchoklhaaGreat
