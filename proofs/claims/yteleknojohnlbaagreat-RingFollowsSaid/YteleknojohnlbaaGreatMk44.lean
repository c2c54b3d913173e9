/-
  The document's Follow (quartermasterref11): how it stands between two rounds; its fits, of whatever was taken.
-/
import Derived.Test.YteleknojohnlbaaGreatMk37
import Derived.Test.YteleknojohnlbaaGreatMk38
import Derived.Test.YteleknojohnlbaaGreatMk39
import Derived.Test.YteleknojohnlbaaGreatMk43
namespace Go.Proofs.YteleknojohnlbaaGreat
open Go.RowKit
set_option linter.unusedVariables false
set_option maxRecDepth 100000
set_option linter.unusedSimpArgs false
theorem Nums.app2 {w wr : World} {v : Value} {k : Nat} {q : Nat → Int} (h : Nums w wr v k q) (hk : k ≤ 1048576) :
    ∃ g cap w2, (∀ x, x = q k → (Builtin.append_ #[ 45, 45] 45 #[v, .slice (some ⟨wr.heap.size, 0, none⟩) 1 1]).run Tryz.prog (wr.alloc (.cells #[.int .i64 x] /-t-/3)) = .ok (.slice (some ⟨g, 0, none⟩) (k + 1) cap) w2) ∧ Nums w w2 (.slice (some ⟨g, 0, none⟩) (k + 1) cap) (k + 1) q ∧ Ch (fun i => v.ownBlock = some i) wr w2 := by
  obtain ⟨i0, hi, hz0, hz1, hz2⟩ := info_parts Tryz.infoI
  have k1 : Ch (fun _ => False) wr (wr.alloc (.cells #[.int .i64 (q k)] /-t-/3)) := (Ch.refl _ wr).alloc _ _
  obtain ⟨g, cap, w2, hr, h2, h3, h4, _⟩ := run_append_lies (P := Tryz.prog) (wr.alloc (.cells #[.int .i64 (q k)] /-t-/3)) 45 45 w.heap.size /-t-/3 i0 (.int .i64 0) 1 8 underI hi hz0 hz1 hz2 rfl (by decide) v k (numL k q) (ownsRow_ch h.own k1) ⟨wr.heap.size, 0, none⟩ 1 1 [.int .i64 (q k)] rfl (fun j u hu => by
    rw [add_pl, blk_cell (heap_alloc_new wr _), Nat.zero_add]
    show ([Value.int .i64 (q k)].toArray)[j]? = some u
    rw [List.getElem?_toArray]
    exact hu) (fun u hu => by rw [List.mem_singleton.1 hu]; rfl) (by omega) (by unfold maxLen; omega) (by omega) (Nat.le_trans h.ch.size k1.size) _ rfl
  rw [← numL_snoc] at h2
  have kc := h.ch.trans k1
  have k2 : Ch (fun i => v.ownBlock = some i) (wr.alloc (.cells #[.int .i64 (q k)] /-t-/3)) w2 := (Ch.refl _ _).grown h3 (fun i hi => Or.inl hi)
  exact ⟨g, cap, w2, fun x hx => by subst hx; exact hr, ⟨h2, kc.new (k2.mono fun i _ hi => (own_at h.own hi).1)⟩, (k1.mono fun _ _ f => f.elim).trans k2⟩
theorem Nums.set {S : Nat → Prop} {w wr w' : World} {v : Value} {k : Nat} {q : Nat → Int} (h : Nums w wr v k q) (g : Ch S wr w') (hl : Ch (fun _ => False) w w') (hS : ∀ i, S i → ¬ ∃ c, wr.heap[i]? = some (.cells c /-t-/3 (0, 0))) : Nums w w' v k q :=
  ⟨own_of h.own fun i hi => by
    obtain ⟨hb, c, hc⟩ := own_at h.own hi
    exact g.block i (blk_lt hc) fun q => hS i q ⟨c, hc⟩, hl⟩
def lastP (L : List Pv) : Pn := match L[L.length - 1]? with | some x => x.p | none => pn0
theorem lastP_snoc (L : List Pv) (x : Pv) : lastP (L ++ [x]) = x.p := by
  unfold lastP
  rw [List.length_append]
  simp
structure FolW (m : Mi) (start : Nat) (chain : Int) (w4 wr : World) (k : Nat) (L : List Pv) (v15 v16 : Value) (sm : Int) : Prop where
  len : L.length = k
  own : RwO kdP elP w4 wr v15 L
  sums : ∃ qf, Nums w4 wr v16 k qf ∧ ∀ i x, L[i]? = some x → qf i = sumM m x.p
  ch : Ch (fun _ => False) w4 wr
  ok : ∀ i x, L[i]? = some x → Cand m (start + i) x.p
  run : allI m start chain = (pvP L ++ (runR m (m.g.W - k) (lastP L) sm (start + k)).1, (runR m (m.g.W - k) (lastP L) sm (start + k)).2)
  sm : N64 sm
section
variable {m : Mi} {start : Nat} {chain : Int} {w4 wr wx : World} {k : Nat} {L : List Pv} {v15 v16 : Value} {sm : Int}
theorem folW_start (m : Mi) (start : Nat) (chain : Int) (w : World) (hc : 0 ≤ chain ∧ chain ≤ 4294967295) : FolW m start chain w w 0 [] (.slice none 0 0) (.slice none 0 0) chain :=
  ⟨rfl, RwO.start _ _ _ _, ⟨fun _ => 0, Nums.start w _, fun i x hx => by simp at hx⟩, Ch.refl _ w, fun i x hx => by simp at hx, rfl, by unfold N64; omega⟩
theorem FolW.gr (h : FolW m start chain w4 wr k L v15 v16 sm) (g : Ch (fun _ => False) wr wx) : FolW m start chain w4 wx k L v15 v16 sm :=
  ⟨h.len, h.own.gr g, by obtain ⟨qf, q1, q2⟩ := h.sums; exact ⟨qf, q1.set g (h.ch.trans g) (fun _ f => f.elim), q2⟩, h.ch.trans g, h.ok, h.run, h.sm⟩
theorem FolW.full (h : FolW m start chain w4 wr m.g.W L v15 v16 sm) : allI m start chain = (pvP L, false) := by
  rw [h.run, Nat.sub_self, run_zero]
  simp
theorem FolW.full_at (h : FolW m start chain w4 wr k L v15 v16 sm) (hk : k = m.g.W) : allI m start chain = (pvP L, false) := by subst hk; exact h.full
theorem FolW.ended (h : FolW m start chain w4 wr k L v15 v16 sm) (hk : k < m.g.W) (hp : (cdM m (start + k)).find? (fitsP (lastP L) sm) = none) (hc : clM m ((start + k) % m.g.W) = true) : allI m start chain = (pvP L, false) := by
  rw [h.run, show m.g.W - k = (m.g.W - (k + 1)) + 1 by omega, run_none hp, hc]
  simp
theorem FolW.hurt (h : FolW m start chain w4 wr k L v15 v16 sm) (hk : k < m.g.W) (hp : (cdM m (start + k)).find? (fitsP (lastP L) sm) = none) (hc : clM m ((start + k) % m.g.W) = false) : (allI m start chain).2 = true := by
  rw [h.run, show m.g.W - k = (m.g.W - (k + 1)) + 1 by omega, run_none hp, hc]
  rfl
structure FolMid (m : Mi) (start : Nat) (chain : Int) (w4 wr : World) (k : Nat) (L : List Pv) (v15 v16 : Value) (sm : Int) (p : Pn) (V : Value) (g cap : Nat) (w2 : World) : Prop where
  run : (Builtin.append_ #[ 102, 102] 102 #[v15, .slice (some ⟨wr.heap.size, 0, none⟩) 1 1]).run Tryz.prog (wr.alloc (.cells (pcC p V) 26)) = .ok (.slice (some ⟨g, 0, none⟩) (k + 1) cap) w2
  own : RwO kdP elP w4 w2 (.slice (some ⟨g, 0, none⟩) (k + 1) cap) (L ++ [⟨p, V⟩])
  sums : ∃ qf, Nums w4 w2 v16 k qf ∧ ∀ i x, L[i]? = some x → qf i = sumM m x.p
  ch : Ch (fun _ => False) w4 w2
  ch2 : Ch (fun i => v15.ownBlock = some i) wr w2
theorem FolW.mid (h : FolW m start chain w4 wr k L v15 v16 sm) (hk : k ≤ 512) {p : Pn} {V : Value} (hr : RowN w4 wr V p.B.length (Cod.litZ p.B)) (hb : ∀ c ∈ p.B, c < 256) : ∃ g cap w2, FolMid m start chain w4 wr k L v15 v16 sm p V g cap w2 := by
  obtain ⟨A, C, hV⟩ := hr.len
  obtain ⟨g, cap, w2, hrun, ho, hc⟩ := h.own.app kdP_ok (x := ⟨p, V⟩) (elP_ok ⟨_, _, _, hV⟩) (show ByN elP w4 wr ⟨p, V⟩ from ⟨hr, hb⟩) (by rw [h.len]; omega) h.ch.size
  rw [h.len] at hrun ho
  have hcw : Ch (fun _ => False) w4 w2 := h.ch.new (hc.mono fun i _ hi => (own_at h.own.own hi).1)
  obtain ⟨qf, q1, q2⟩ := h.sums
  exact ⟨g, cap, w2, hrun, ho, ⟨qf, q1.set hc hcw (fun i hi ⟨c, hcx⟩ => by
    obtain ⟨_, c2, hc2⟩ := own_at h.own.own hi
    exact cells_ne hc2 hcx (by decide) rfl), q2⟩, hcw, hc⟩
theorem fol_next {p : Pn} {V : Value} {g cap : Nat} {w2 w3 : World} (h : FolW m start chain w4 wr k L v15 v16 sm) (hm : FolMid m start chain w4 wr k L v15 v16 sm p V g cap w2) (hk : k < m.g.W) (hk2 : k ≤ 512) (hf : (cdM m (start + k)).find? (fitsP (lastP L) sm) = some p) (hcd : Cand m (start + k) p) (k3 : Ch (fun _ => False) w2 w3) {s2 : Int} (hs : s2 = sumM m p) :
    ∃ g2 cap2 w5, (Builtin.append_ #[ 45, 45] 45 #[v16, .slice (some ⟨w3.heap.size, 0, none⟩) 1 1]).run Tryz.prog (w3.alloc (.cells #[.int .i64 s2] /-t-/3)) = .ok (.slice (some ⟨g2, 0, none⟩) (k + 1) cap2) w5 ∧ FolW m start chain w4 w5 (k + 1) (L ++ [⟨p, V⟩]) (.slice (some ⟨g, 0, none⟩) (k + 1) cap) (.slice (some ⟨g2, 0, none⟩) (k + 1) cap2) s2 := by
  obtain ⟨qf, q1, q2⟩ := hm.sums
  have q1' : Nums w4 w3 v16 k (up qf k s2) := ⟨by rw [← numL_congr fun c hc => (up_other qf s2 (show c ≠ k by omega)).symm]; exact (q1.set k3 (hm.ch.trans k3) (fun _ f => f.elim)).own, hm.ch.trans k3⟩
  obtain ⟨g2, cap2, w5, hr, hn, hc⟩ := q1'.app2 (by omega)
  refine ⟨g2, cap2, w5, hr s2 (up_same qf k s2).symm, ⟨by rw [List.length_append, h.len]; rfl, ?_, ⟨_, hn, fun i x hx => ?_⟩, hn.ch, fun i x hx => ?_, ?_, ?_⟩⟩
  · refine (hm.own.gr k3).ch hc fun i hi _ => ?_
    obtain ⟨_, c2, hc2⟩ := own_at q1'.own hi
    exact ⟨fun ⟨c, hcx⟩ => cells_ne hc2 hcx (by decide) rfl, fun ⟨c, hcx⟩ => cells_ne hc2 hcx (by decide) rfl⟩
  · by_cases e : i = k
    · subst e
      rw [List.getElem?_append_right (by rw [h.len]; exact Nat.le_refl _), h.len, Nat.sub_self] at hx
      injection hx with hx
      rw [up_same, ← hx, hs]
    · have : i < L.length := by
        have := (List.getElem?_eq_some_iff.1 hx).1
        rw [List.length_append] at this
        have h1 := h.len
        simp only [List.length_cons, List.length_nil] at this
        omega
      rw [List.getElem?_append_left this] at hx
      rw [up_other _ _ e]
      exact q2 i x hx
  · by_cases e : i = k
    · subst e
      rw [List.getElem?_append_right (by rw [h.len]; exact Nat.le_refl _), h.len, Nat.sub_self] at hx
      injection hx with hx
      rw [← hx]
      exact hcd
    · have : i < L.length := by
        have := (List.getElem?_eq_some_iff.1 hx).1
        rw [List.length_append] at this
        have h1 := h.len
        simp only [List.length_cons, List.length_nil] at this
        omega
      rw [List.getElem?_append_left this] at hx
      exact h.ok i x hx
  · have hr := h.run
    rw [show m.g.W - k = (m.g.W - (k + 1)) + 1 by omega, run_some hf] at hr
    rw [hr, lastP_snoc, hs]
    unfold pvP
    rw [List.map_append, List.append_assoc]
    rfl
  · have := sumR_word (vol := m.vol) (g := m.g.ge) hcd.byt
    rw [hs]
    unfold N64 sumM
    omega
end
theorem r11fits_any (p : Pn) (V : Value) (A : Option Addr) (C : Nat) (L : List Pv) (s : Int) (w : World) (h : RwV kdP elP w A C L) (ho : ∀ (i : Nat) (x : Pv), L[i]? = some x → 1 ≤ x.p.ofn) (hl : L.length ≤ 1000) : Calls Tryz.prog 57 #[.agg (pcC p V), .slice A L.length C, .int .i64 s] w (Ans (.bool (fitsP (lastP L) s p)) w) := by
  rcases Nat.eq_zero_or_pos L.length with q | q
  · obtain rfl : L = [] := List.length_eq_zero_iff.1 q
    exact r11fits_none p V A C s w
  · obtain ⟨x, hx⟩ : ∃ x, L[L.length - 1]? = some x := ⟨L[L.length - 1]'(by omega), List.getElem?_eq_getElem _⟩
    have e : lastP L = x.p := by unfold lastP; rw [hx]
    rw [e]
    exact r11fits_some p V A C L x s w h hx (ho _ x hx) hl
structure HoldFw (b O H : Nat) (A' : Option Addr) (nn C' : Nat) (g : Ge) (w : World) : Prop where
  c : w.cell? ⟨b, O, none⟩ = some (.slice A' nn C')
  x0 : w.cell? ⟨H, 0, none⟩ = some (.int .i64 g.wal)
  x1 : w.cell? ⟨H, 1, none⟩ = some (.int .i64 g.st)
  x2 : w.cell? ⟨H, 2, none⟩ = some (.int .i64 g.k)
  x3 : w.cell? ⟨H, 3, none⟩ = some (.int .i64 g.m)
theorem HoldFw.gr {b O H : Nat} {A' : Option Addr} {nn C' : Nat} {g : Ge} {w w' : World} (h : HoldFw b O H A' nn C' g w) (k : Ch (fun _ => False) w w') : HoldFw b O H A' nn C' g w' :=
  ⟨k.cell h.c (fun f => f), k.cell h.x0 (fun f => f), k.cell h.x1 (fun f => f), k.cell h.x2 (fun f => f), k.cell h.x3 (fun f => f)⟩
structure TldF (m : Mi) (s c : Nat) (w4 wd wx : World) (G : Nat) (o : Option Pn) (V : Value) : Prop where
  tell : TellsM m s c o
  var : wx.heap[G]? = some (.cells (pcC (optP o) V) 26 (0, 0))
  row : RowN w4 wx V (optP o).B.length (Cod.litZ (optP o).B)
  ch : Ch (fun _ => False) wd wx
  lo : wd.heap.size ≤ G
structure SwF (m : Mi) (s : Nat) (w4 wr wx : World) (X Y : Nat) (p1 : Pn) (V1 : Value) (p2 : Pn) (V2 : Value) (b : Bool) : Prop where
  x : wx.heap[X]? = some (.cells (pcC p1 V1) 26 (0, 0))
  y : wx.heap[Y]? = some (.cells (pcC p2 V2) 26 (0, 0))
  rx : RowN w4 wx V1 p1.B.length (Cod.litZ p1.B)
  ry : RowN w4 wx V2 p2.B.length (Cod.litZ p2.B)
  cd : cdM m s = if b then [p1, p2] else [p1]
  ch : Ch (fun _ => False) wr wx
  c1 : Cand m s p1
  c2 : b = true → Cand m s p2
  lo : wr.heap.size ≤ X ∧ wr.heap.size ≤ Y ∧ X ≠ Y
theorem optP_some {o : Option Pn} {s : Int} {p : Pn} (h : atS o s = some p) : optP o = p := by rw [(atS_seq h).1]; rfl
theorem tells_cand {m : Mi} {s c : Nat} {o : Option Pn} {p : Pn} (h : TellsM m s c o) (e : atS o (s : Int) = some p) : Cand m s p := cand_of (c := c) ⟨o, h⟩ (by rw [← oF_eq h]; exact e)
theorem tells_clean {m : Mi} {s c : Nat} {o : Option Pn} {p : Pn} (hc : c = 0 ∨ c = 1) (h : TellsM m s c o) (e : atS o (s : Int) = some p) : clM m (s % m.g.W) = true := by
  have h1 := (atS_seq e).1
  have h2 := (h p).1 h1
  have h3 := clean_tells h2
  unfold clM cleanM
  rcases hc with rfl | rfl
  · rw [h3]; rfl
  · rw [h3, Bool.or_true]
theorem cd_eq {m : Mi} {s : Nat} {o0 o1 : Option Pn} (h0 : TellsM m s 0 o0) (h1 : TellsM m s 1 o1) : cdM m s = candR (atS o0 (s : Int)) (atS o1 (s : Int)) := by
  unfold cdM
  rw [← oF_eq h0, ← oF_eq h1]
theorem results_tl {fn : Func} {q u : Tmp} (h : fn.results = #[.cell q 40, .tmp u]) (tmps : Array Value) (w : World) (H : Nat) (t : Tl) (ep : Int) (V e : Value) (hp : tmps.getD q undef = .pointer (some ⟨H, 0, none⟩)) (hq : tmps.getD u undef = e) (hg : w.heap[H]? = some (.cells (tlC t ep V) 40 (0, 0))) :
    (results fn tmps).run Tryz.prog w = .ok (.tuple #[.agg (tlC t ep V), e]) w := by
  rw [results_cell_tmp h, hp, hq]
  simp [asAddr, load_tl hg]
theorem is_some {o : Option Pn} {s : Int} (h : (atS o s).isSome = true) : atS o s = some (optP o) := by
  cases e : atS o s with
  | none => rw [e] at h; cases h
  | some p => rw [optP_some e]
theorem no_some {o : Option Pn} {s : Int} (h : (atS o s).isSome = false) : atS o s = none := by
  cases e : atS o s with
  | none => rfl
  | some p => rw [e] at h; cases h
section
variable {m : Mi} {s : Nat} {w4 wr wa wb wx : World} {X0 X1 : Nat} {p0 p1 : Option Pn} {V0 V1 : Value} {d0 d1 : Bool}
theorem tld_none (h0 : TldF m s 0 w4 wr wa X0 p0 V0) (h1 : TldF m s 1 w4 wa wb X1 p1 V1) (e0 : (atS p0 (s : Int)).isSome = false) (e1 : (atS p1 (s : Int)).isSome = false) : cdM m s = [] := by
  rw [cd_eq h0.tell h1.tell, no_some e0, no_some e1]; rfl
theorem sw_no (h0 : TldF m s 0 w4 wr wa X0 p0 V0) (h1 : TldF m s 1 w4 wa wb X1 p1 V1) (e0 : (atS p0 (s : Int)).isSome = d0) (e1 : (atS p1 (s : Int)).isSome = d1) (hn : d0 = true ∨ d1 = true) (hs : (d1 && (!d0 || decide ((optP p0).ep < (optP p1).ep))) = false) : SwF m s w4 wr wb X0 X1 (optP p0) V0 (optP p1) V1 d1 := by
  have hd0 : d0 = true := by
    rcases hn with q | q
    · exact q
    · subst q
      cases d0 with
      | true => rfl
      | false => cases hs
  subst hd0
  have f0 := is_some e0
  refine ⟨(h1.ch.block X0 (blk_lt h0.var) (fun f => f)).trans h0.var, h1.var, h0.row.gr h1.ch, h1.row, ?_, h0.ch.trans h1.ch, tells_cand h0.tell f0, fun q => ?_, h0.lo, Nat.le_trans h0.ch.size h1.lo, ?_⟩
  · rw [cd_eq h0.tell h1.tell, f0]
    cases d1 with
    | false => rw [no_some e1]; rfl
    | true =>
      rw [is_some e1]
      have : ¬ (optP p0).ep < (optP p1).ep := by simpa using hs
      unfold candR
      simp only
      rw [if_neg this]; rfl
  · subst q; exact tells_cand h1.tell (is_some e1)
  · have := h1.lo; have := blk_lt h0.var; omega
structure SwX (wb wz wv wu wt : World) (X0 X1 Z : Nat) (P0 P1 : Pn) (V0 V1 : Value) : Prop where
  z : VarR wb wz wv Z (pcC pn0 (.slice none 0 0)) (pcC P0 V0) 26
  u : StPc wv wu X0 P1 V1
  t : StPc wu wt X1 P0 V0
  l1 : (loadVar 26 ⟨X1, 0, none⟩).run Tryz.prog wv = .ok (.agg (pcC P1 V1)) wv
  l2 : (loadVar 26 ⟨Z, 0, none⟩).run Tryz.prog wu = .ok (.agg (pcC P0 V0)) wu
theorem sw_yes (hw : Ch (fun _ => False) w4 wr) (h0 : TldF m s 0 w4 wr wa X0 p0 V0) (h1 : TldF m s 1 w4 wa wb X1 p1 V1) (e0 : (atS p0 (s : Int)).isSome = d0) (e1 : (atS p1 (s : Int)).isSome = d1) (hs : (d1 && (!d0 || decide ((optP p0).ep < (optP p1).ep))) = true) :
    ∃ wz wv wu wt Z, SwX wb wz wv wu wt X0 X1 Z (optP p0) (optP p1) V0 V1 ∧ SwF m s w4 wr wt X0 X1 (optP p1) V1 (optP p0) V0 d0 := by
  have hd1 : d1 = true := by
    cases d1 with
    | true => rfl
    | false => cases hs
  subst hd1
  have f1 := is_some e1
  have hne : X0 ≠ X1 := by have := h1.lo; have := blk_lt h0.var; omega
  have hV0 : SlV V0 := by obtain ⟨A, C, e⟩ := h0.row.len; exact ⟨_, _, _, e⟩
  have hV1 : SlV V1 := by obtain ⟨A, C, e⟩ := h1.row.len; exact ⟨_, _, _, e⟩
  have b0 := (h1.ch.block X0 (blk_lt h0.var) (fun f => f)).trans h0.var
  obtain ⟨wz, wv, Z, hz⟩ := varPc (optP p0) hV0 wb
  have b0v := (hz.ch.block X0 (blk_lt b0) (fun f => f)).trans b0
  have b1v := (hz.ch.block X1 (blk_lt h1.var) (fun f => f)).trans h1.var
  obtain ⟨wu, hu⟩ := stPc (optP p1) b0v hV1
  have hZ0 : Z ≠ X0 := by have := hz.sz; have := blk_lt b0; omega
  have hZ1 : Z ≠ X1 := by have := hz.sz; have := blk_lt h1.var; omega
  have zu := (hu.ch.block Z (blk_lt hz.cx) hZ0).trans hz.cx
  have b1u := (hu.ch.block X1 (blk_lt b1v) hne.symm).trans b1v
  obtain ⟨wt, ht⟩ := stPc (optP p0) b1u hV0
  have hl0 := h0.lo
  have hl1 := Nat.le_trans h0.ch.size h1.lo
  have k1 : Ch (fun _ => False) wr wt := (((h0.ch.trans h1.ch).trans hz.ch).new (hu.ch.mono fun i _ hi => by rw [hi]; exact hl0)).new (ht.ch.mono fun i _ hi => by rw [hi]; exact hl1)
  refine ⟨wz, wv, wu, wt, Z, ⟨hz, hu, ht, load_pc b1v, load_pc zu⟩, (ht.ch.block X0 (blk_lt hu.cx) hne).trans hu.cx, ht.cx, ((h1.row.gr hz.ch).set hu.ch b0v (by decide)).set ht.ch b1u (by decide), (((h0.row.gr h1.ch).gr hz.ch).set hu.ch b0v (by decide)).set ht.ch b1u (by decide), ?_, k1, tells_cand h1.tell f1, fun q => ?_, hl0, hl1, hne⟩
  · rw [cd_eq h0.tell h1.tell, f1]
    cases d0 with
    | false => rw [no_some e0]; rfl
    | true =>
      rw [is_some e0]
      have : (optP p0).ep < (optP p1).ep := by simpa using hs
      unfold candR
      simp only
      rw [if_pos this]; rfl
  · subst q; exact tells_cand h0.tell (is_some e0)
end
structure RdyF (m : Mi) (start : Nat) (chain : Int) (w4 wx : World) (k s : Nat) (L : List Pv) (v15 v16 : Value) (sm : Int) (X : Nat) (p : Pn) (V : Value) : Prop where
  fol : FolW m start chain w4 wx k L v15 v16 sm
  x : wx.heap[X]? = some (.cells (pcC p V) 26 (0, 0))
  row : RowN w4 wx V p.B.length (Cod.litZ p.B)
  cd : Cand m s p
  find : (cdM m s).find? (fitsP (lastP L) sm) = some p
  off : ∀ i, v15.ownBlock = some i → i ≠ X
theorem own_old {m : Mi} {start : Nat} {chain : Int} {w4 wr : World} {k : Nat} {L : List Pv} {v15 v16 : Value} {sm : Int} (h : FolW m start chain w4 wr k L v15 v16 sm) {X : Nat} (hX : wr.heap.size ≤ X) : ∀ i, v15.ownBlock = some i → i ≠ X := fun i hi e => by
  obtain ⟨_, c, hc⟩ := own_at h.own.own hi
  have := blk_lt hc
  omega
theorem RdyF.gr {m : Mi} {start : Nat} {chain : Int} {w4 wx wy : World} {k s : Nat} {L : List Pv} {v15 v16 : Value} {sm : Int} {X : Nat} {p : Pn} {V : Value} (h : RdyF m start chain w4 wx k s L v15 v16 sm X p V) (c : Ch (fun _ => False) wx wy) : RdyF m start chain w4 wy k s L v15 v16 sm X p V :=
  ⟨h.fol.gr c, (c.block X (blk_lt h.x) (fun f => f)).trans h.x, h.row.gr c, h.cd, h.find, h.off⟩
structure AftF (m : Mi) (start : Nat) (chain : Int) (w4 wx : World) (k s : Nat) (L : List Pv) (v15 v16 : Value) (sm : Int) (X : Nat) (p : Pn) (V : Value) (g cap : Nat) (w7 : World) : Prop where
  mid : FolMid m start chain w4 wx k L v15 v16 sm p V g cap w7
  x : w7.heap[X]? = some (.cells (pcC p V) 26 (0, 0))
  pc : PcIs w7 p V
theorem RdyF.app {m : Mi} {start : Nat} {chain : Int} {w4 wx : World} {k s : Nat} {L : List Pv} {v15 v16 : Value} {sm : Int} {X : Nat} {p : Pn} {V : Value} (h : RdyF m start chain w4 wx k s L v15 v16 sm X p V) (hk : k ≤ 512) : ∃ g cap w7, AftF m start chain w4 wx k s L v15 v16 sm X p V g cap w7 := by
  obtain ⟨g, cap, w7, hm⟩ := h.fol.mid hk h.row h.cd.byt
  exact ⟨g, cap, w7, hm, (hm.ch2.block X (blk_lt h.x) (fun e => h.off X e rfl)).trans h.x, (hm.own.rows ⟨p, V⟩ (List.mem_append_right _ (List.mem_singleton.2 rfl))).row.row, h.cd.byt⟩
theorem swF_rdy1 {m : Mi} {start : Nat} {chain : Int} {w4 wr wx : World} {k s : Nat} {L : List Pv} {v15 v16 : Value} {sm : Int} {X Y : Nat} {p1 p2 : Pn} {V1 V2 : Value} {b : Bool} (h : FolW m start chain w4 wr k L v15 v16 sm) (hs : SwF m s w4 wr wx X Y p1 V1 p2 V2 b) (hf : fitsP (lastP L) sm p1 = true) : RdyF m start chain w4 wx k s L v15 v16 sm X p1 V1 :=
  ⟨h.gr hs.ch, hs.x, hs.rx, hs.c1, by rw [hs.cd]; cases b <;> simp [hf], own_old h hs.lo.1⟩
theorem swF_none {m : Mi} {w4 wr wx : World} {s : Nat} {X Y : Nat} {p1 p2 : Pn} {V1 V2 : Value} {b : Bool} {a : Pn} {sm : Int} (hs : SwF m s w4 wr wx X Y p1 V1 p2 V2 b) (hf : fitsP a sm p1 = false) (hb : b = true → fitsP a sm p2 = false) : (cdM m s).find? (fitsP a sm) = none := by
  rw [hs.cd]
  cases b
  · simp [hf]
  · simp [hf, hb rfl]
theorem swF_rdy2 {m : Mi} {start : Nat} {chain : Int} {w4 wr wx wy : World} {k s : Nat} {L : List Pv} {v15 v16 : Value} {sm : Int} {X Y : Nat} {p1 p2 : Pn} {V1 V2 : Value} (h : FolW m start chain w4 wr k L v15 v16 sm) (hs : SwF m s w4 wr wx X Y p1 V1 p2 V2 true) (c : Ch (fun _ => False) wx wy) (hf : fitsP (lastP L) sm p1 = false) (hf2 : fitsP (lastP L) sm p2 = true) :
    ∃ wn, (loadVar 26 ⟨Y, 0, none⟩).run Tryz.prog wy = .ok (.agg (pcC p2 V2)) wy ∧ StPc wy wn X p2 V2 ∧ RdyF m start chain w4 wn k s L v15 v16 sm X p2 V2 := by
  have bx := (c.block X (blk_lt hs.x) (fun f => f)).trans hs.x
  have by' := (c.block Y (blk_lt hs.y) (fun f => f)).trans hs.y
  obtain ⟨wn, hn⟩ := stPc p2 bx (V := V2) (by obtain ⟨A, C, e⟩ := hs.ry.len; exact ⟨_, _, _, e⟩)
  have k1 : Ch (fun _ => False) wr wn := (hs.ch.trans c).new (hn.ch.mono fun i _ hi => by rw [hi]; exact hs.lo.1)
  exact ⟨wn, load_pc by', hn, h.gr k1, hn.cx, (hs.ry.gr c).set hn.ch bx (by decide), hs.c2 rfl, by rw [hs.cd]; simp [hf, hf2], own_old h hs.lo.1⟩
theorem swF_clean {m : Mi} {w4 wr wa wb : World} {s X0 X1 : Nat} {p0 p1 : Option Pn} {V0 V1 : Value} {d0 d1 : Bool} (h0 : TldF m s 0 w4 wr wa X0 p0 V0) (h1 : TldF m s 1 w4 wa wb X1 p1 V1) (e0 : (atS p0 (s : Int)).isSome = d0) (e1 : (atS p1 (s : Int)).isSome = d1) (hn : d0 = true ∨ d1 = true) : clM m (s % m.g.W) = true := by
  rcases hn with q | q
  · subst q; exact tells_clean (Or.inl rfl) h0.tell (is_some e0)
  · subst q; exact tells_clean (Or.inr rfl) h1.tell (is_some e1)
end Go.Proofs.YteleknojohnlbaaGreat
