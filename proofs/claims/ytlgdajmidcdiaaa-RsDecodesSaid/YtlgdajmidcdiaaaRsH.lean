/-
  Rows of one's own in a list of one's own, to be turned and exchanged: how they lie in memory.
-/
import Derived.Test.YtlgdajmidcdiaaaRsG
import Derived.Test.YtlgdajmidcdiaaaRsRef
namespace Go.Proofs.Ytlgdajmidcdiaaa
open Go.RowKit
set_option linter.unusedVariables false

theorem heap_set {w : World} {b o : Nat} {cs : Array Value} {t : TypeId} {fr : Nat × Nat} {v : Value} (hb : w.heap[b]? = some (.cells cs t fr)) : (w.setCell ⟨b, o, none⟩ v).heap[b]? = some (.cells (cs.setIfInBounds o v) t fr) := by
  simp [World.setCell, Array.getElem?_modify, hb]
def BRow (w : World) (b m : Nat) (z : Nat → Nat) : Prop := ∃ cs t, w.heap[b]? = some (.cells cs t (0, 0)) ∧ ∀ c, c < m → cs[c]? = some (.int .u8 (z c : Int)) ∧ z c < 256
theorem BRow.of_block {w w' : World} {b m : Nat} {z : Nat → Nat} (h : BRow w b m z) (e : w'.heap[b]? = w.heap[b]?) : BRow w' b m z := by
  obtain ⟨cs, t, hb, hc⟩ := h
  exact ⟨cs, t, e.trans hb, hc⟩
theorem BRow.lt {w : World} {b m : Nat} {z : Nat → Nat} (h : BRow w b m z) : b < w.heap.size := by
  obtain ⟨cs, t, hb, _⟩ := h
  exact (Array.getElem?_eq_some_iff.1 hb).1
theorem BRow.at {w : World} {b m : Nat} {z : Nat → Nat} (h : BRow w b m z) {c : Nat} (hc : c < m) : w.cell? ⟨b, c, none⟩ = some (.int .u8 (z c : Int)) ∧ w.frozen? ⟨b, c, none⟩ = false ∧ z c < 256 := by
  obtain ⟨cs, t, hb, hx⟩ := h
  exact ⟨by simp [World.cell?, hb, (hx c hc).1], by simp [World.frozen?, hb], (hx c hc).2⟩
theorem BRow.set {w : World} {b m : Nat} {z : Nat → Nat} (h : BRow w b m z) (i y : Nat) (hy : y < 256) : BRow (w.setCell ⟨b, i, none⟩ (.int .u8 (y : Int))) b m (fun c => if c = i then y else z c) := by
  obtain ⟨cs, t, hb, hx⟩ := h
  refine ⟨_, t, heap_set hb, fun c hc => ?_⟩
  rw [Array.getElem?_setIfInBounds]
  by_cases e : i = c
  · subst e
    have hlt := (Array.getElem?_eq_some_iff.1 (hx i hc).1).1
    rw [if_pos rfl, if_pos hlt]
    exact ⟨by simp, by simp [hy]⟩
  · rw [if_neg e]
    simp only [if_neg (fun q : c = i => e q.symm)]
    exact hx c hc
theorem BRow.congr {w : World} {b m : Nat} {z y : Nat → Nat} (h : BRow w b m z) (e : ∀ c, c < m → z c = y c) : BRow w b m y := by
  obtain ⟨cs, t, hb, hx⟩ := h
  exact ⟨cs, t, hb, fun c hc => by rw [← e c hc]; exact hx c hc⟩
theorem owns_brow {w : World} {base g m cap : Nat} {z : Nat → Nat} (h : w.ownsRow base /-t-/5 1 (.slice (some ⟨g, 0, none⟩) m cap) m (bytesL m z)) (hz : ∀ c, c < m → z c < 256) : BRow w g m z := by
  rcases h.2 with ⟨hn, _⟩ | ⟨g', cap', cur, he, hb, hgg, hcap, hm, hs, ht⟩
  · cases hn
  · injection he with he1 he2 he3
    injection he1 with he1
    injection he1 with he4
    subst he4
    refine ⟨cur, _, hgg, fun c hc => ⟨?_, hz c hc⟩⟩
    have := congrArg (fun l : List Value => l[c]?) ht
    simp only [Nat.mul_one, List.getElem?_take, if_pos hc, Array.getElem?_toList] at this
    rw [this]; unfold bytesL; simp [hc]
def rowF (m : Nat) (B K : Nat → Nat) (r : Nat) : Value := .slice (some ⟨B r, 0, none⟩) m (K r)
/-- While it is built. -/
structure GridL (base : Nat) (w : World) (v : Value) (i m : Nat) (B K : Nat → Nat) (Z : Nat → Nat → Nat) : Prop where
  own : w.ownsRow base /-t-/33 1 v i (valsL i (rowF m B K))
  row : ∀ r, r < i → BRow w (B r) m (Z r)
  inj : ∀ r s, r < i → s < i → B r = B s → r = s
  off : ∀ r, r < i → v.ownBlock ≠ some (B r)
  lo : ∀ r, r < i → base ≤ B r
  cap : ∀ r, r < i → m ≤ K r
def up1 (F : Nat → Nat) (i u r : Nat) : Nat := if r = i then u else F r
theorem GridL.more {base : Nat} {w w' : World} {v : Value} {i m b k g cap : Nat} {B K : Nat → Nat} {Z : Nat → Nat → Nat} (h : GridL base w v i m B K Z) (hb : w.heap.size ≤ b) (hbase : base ≤ w.heap.size) {w3 : World} (hch : Ch (fun _ => False) w w3) (hrow : BRow w3 b m (Z i)) (hk : m ≤ k)
    (h1 : w'.ownsRow base /-t-/33 1 (.slice (some ⟨g, 0, none⟩) (i + 1) cap) (i + 1) (valsL i (rowF m B K) ++ [.slice (some ⟨b, 0, none⟩) m k])) (o : Obj) (h2 : (w3.alloc o).grownBy w' v.ownBlock) (h3 : v.ownBlock = some g ∨ g = w3.heap.size + 1) :
    GridL base w' (.slice (some ⟨g, 0, none⟩) (i + 1) cap) (i + 1) m (up1 B i b) (up1 K i k) Z := by
  have hbs := hrow.lt
  have hs3 := hch.size
  have vb : ∀ q, v.ownBlock = some q → q < w.heap.size := fun q e => (World.ownsRow.lt h.own q e).2
  have keep : ∀ q, q < w3.heap.size → v.ownBlock ≠ some q → w'.heap[q]? = w3.heap[q]? := fun q hq hne => (h2.block q (by simpa using Nat.lt_succ_of_lt hq) (fun e => hne e.symm)).trans (Below.heap_alloc w3 o q hq)
  have uB : ∀ r, r < i → up1 B i b r = B r := fun r hr => by unfold up1; rw [if_neg (by omega)]
  have uBi : up1 B i b i = b := by unfold up1; rw [if_pos rfl]
  have uKi : up1 K i k i = k := by unfold up1; rw [if_pos rfl]
  have rl : ∀ r, r < i → B r < w.heap.size := fun r hr => (h.row r hr).lt
  have gn : ∀ q, q < w3.heap.size → v.ownBlock ≠ some q → (Value.slice (some ⟨g, 0, none⟩) (i + 1) cap).ownBlock ≠ some q := fun q hq hne e => by
    have e' : g = q := by simpa [Value.ownBlock] using e
    rcases h3 with h3 | h3
    · exact hne (by rw [h3, e'])
    · omega
  refine ⟨?_, fun r hr => ?_, fun r s hr hs e => ?_, fun r hr => ?_, fun r hr => ?_, fun r hr => ?_⟩
  · have e : valsL (i + 1) (rowF m (up1 B i b) (up1 K i k)) = valsL i (rowF m B K) ++ [.slice (some ⟨b, 0, none⟩) m k] := by
      unfold valsL
      rw [List.range_succ, List.map_append]
      congr 1
      · exact List.map_congr_left fun r hr => by
          have := List.mem_range.1 hr
          unfold rowF up1; rw [if_neg (by omega), if_neg (by omega)]
      · simp [rowF, up1]
    rw [e]; exact h1
  · by_cases e : r = i
    · subst e; rw [uBi]; exact hrow.of_block (keep b hbs (fun q => by have := vb b q; omega))
    · rw [uB r (by omega)]
      have := rl r (by omega)
      exact ((h.row r (by omega)).of_block (hch.block _ this (fun f => f))).of_block (keep _ (by omega) (h.off r (by omega)))
  · by_cases e1 : r = i
    · by_cases e2 : s = i
      · omega
      · rw [e1, uBi, uB s (by omega)] at e
        have := rl s (by omega); omega
    · by_cases e2 : s = i
      · rw [e2, uBi, uB r (by omega)] at e
        have := rl r (by omega); omega
      · rw [uB r (by omega), uB s (by omega)] at e
        exact h.inj r s (by omega) (by omega) e
  · by_cases e : r = i
    · subst e; rw [uBi]; exact gn b hbs (fun q => by have := vb b q; omega)
    · rw [uB r (by omega)]; have := rl r (by omega); exact gn _ (by omega) (h.off r (by omega))
  · by_cases e : r = i
    · subst e; rw [uBi]; omega
    · rw [uB r (by omega)]; exact h.lo r (by omega)
  · by_cases e : r = i
    · subst e; rw [uKi]; exact hk
    · unfold up1; rw [if_neg e]; exact h.cap r (by omega)
structure Grid (base : Nat) (w : World) (g n m : Nat) (B K : Nat → Nat) (Z : Nat → Nat → Nat) : Prop where
  top : ∃ cs t, w.heap[g]? = some (.cells cs t (0, 0)) ∧ ∀ r, r < n → cs[r]? = some (rowF m B K r)
  row : ∀ r, r < n → BRow w (B r) m (Z r)
  inj : ∀ r s, r < n → s < n → B r = B s → r = s
  off : ∀ r, r < n → B r ≠ g
  lo : base ≤ g ∧ ∀ r, r < n → base ≤ B r
theorem GridL.grid {base : Nat} {w : World} {g n cap m : Nat} {B K : Nat → Nat} {Z : Nat → Nat → Nat} (h : GridL base w (.slice (some ⟨g, 0, none⟩) n cap) n m B K Z) : Grid base w g n m B K Z := by
  refine ⟨?_, h.row, h.inj, fun r hr e => h.off r hr (by rw [e]; rfl), (World.ownsRow.lt h.own g rfl).1, h.lo⟩
  rcases h.own.2 with ⟨hn, _⟩ | ⟨g', cap', cur, he, hb, hgg, hcap, hm, hs, ht⟩
  · cases hn
  · injection he with he1 he2 he3
    injection he1 with he1
    injection he1 with he4
    subst he4
    refine ⟨cur, _, hgg, fun c hc => ?_⟩
    have := congrArg (fun l : List Value => l[c]?) ht
    simp only [Nat.mul_one, List.getElem?_take, if_pos hc, Array.getElem?_toList] at this
    rw [this]; exact valsL_get hc
theorem Grid.topAt {base : Nat} {w : World} {g n m : Nat} {B K : Nat → Nat} {Z : Nat → Nat → Nat} (h : Grid base w g n m B K Z) {r : Nat} (hr : r < n) : w.cell? ⟨g, r, none⟩ = some (.slice (some ⟨B r, 0, none⟩) m (K r)) ∧ w.frozen? ⟨g, r, none⟩ = false := by
  obtain ⟨cs, t, hb, hx⟩ := h.top
  exact ⟨by simp [World.cell?, hb, hx r hr, rowF], by simp [World.frozen?, hb]⟩
theorem Grid.at {base : Nat} {w : World} {g n m : Nat} {B K : Nat → Nat} {Z : Nat → Nat → Nat} (h : Grid base w g n m B K Z) {r c : Nat} (hr : r < n) (hc : c < m) : w.cell? ⟨B r, c, none⟩ = some (.int .u8 (Z r c : Int)) ∧ w.frozen? ⟨B r, c, none⟩ = false ∧ Z r c < 256 := (h.row r hr).at hc
theorem Grid.congr {base : Nat} {w : World} {g n m : Nat} {B K : Nat → Nat} {Z Y : Nat → Nat → Nat} (h : Grid base w g n m B K Z) (e : ∀ r c, r < n → c < m → Z r c = Y r c) : Grid base w g n m B K Y :=
  ⟨h.top, fun r hr => (h.row r hr).congr fun c hc => e r c hr hc, h.inj, h.off, h.lo⟩
theorem Grid.drewN {base : Nat} {w : World} {g n m : Nat} {B K : Nat → Nat} {Z : Nat → Nat → Nat} (h : Grid base w g n m B K Z) (k : Nat) : Grid base (w.drewN k) g n m B K Z := ⟨h.top, h.row, h.inj, h.off, h.lo⟩
theorem Grid.drew {base : Nat} {w : World} {g n m : Nat} {B K : Nat → Nat} {Z : Nat → Nat → Nat} (h : Grid base w g n m B K Z) : Grid base w.drew g n m B K Z := ⟨h.top, h.row, h.inj, h.off, h.lo⟩
def updZ (Z : Nat → Nat → Nat) (r c y : Nat) (r' c' : Nat) : Nat := if r' = r ∧ c' = c then y else Z r' c'
theorem Grid.setRow {base : Nat} {w : World} {g n m : Nat} {B K : Nat → Nat} {Z : Nat → Nat → Nat} (h : Grid base w g n m B K Z) {r : Nat} (hr : r < n) (c y : Nat) (hy : y < 256) : Grid base (w.setCell ⟨B r, c, none⟩ (.int .u8 (y : Int))) g n m B K (updZ Z r c y) := by
  refine ⟨?_, fun q hq => ?_, h.inj, h.off, h.lo⟩
  · obtain ⟨cs, t, hb, hx⟩ := h.top
    exact ⟨cs, t, (Below.heap_setCell w ⟨B r, c, none⟩ _ g (fun e => h.off r hr e.symm)).trans hb, hx⟩
  · by_cases e : q = r
    · subst e
      exact ((h.row q hq).set c y hy).congr fun c' _ => by unfold updZ; simp
    · refine ((h.row q hq).of_block (Below.heap_setCell w ⟨B r, c, none⟩ _ (B q) (fun e2 => e (h.inj q r hq hr e2)))).congr fun c' _ => by unfold updZ; rw [if_neg (fun z => e z.1)]
theorem Grid.swap {base : Nat} {w : World} {g n m : Nat} {B K : Nat → Nat} {Z : Nat → Nat → Nat} (h : Grid base w g n m B K Z) {c p : Nat} (hc : c < n) (hp : p < n) : Grid base ((w.setCell ⟨g, c, none⟩ (.slice (some ⟨B p, 0, none⟩) m (K p))).setCell ⟨g, p, none⟩ (.slice (some ⟨B c, 0, none⟩) m (K c))) g n m (fun r => B (sw c p r)) (fun r => K (sw c p r)) (swapZ c p Z) := by
  refine ⟨?_, fun q hq => ?_, fun r s hr hs e => sw_inj (h.inj _ _ (sw_lt hc hp hr) (sw_lt hc hp hs) e), fun r hr => h.off _ (sw_lt hc hp hr), h.lo.1, fun r hr => h.lo.2 _ (sw_lt hc hp hr)⟩
  · obtain ⟨cs, t, hb, hx⟩ := h.top
    refine ⟨_, t, heap_set (heap_set hb), fun r hr => ?_⟩
    have hlc := (Array.getElem?_eq_some_iff.1 (hx c hc)).1
    have hlp := (Array.getElem?_eq_some_iff.1 (hx p hp)).1
    rw [Array.getElem?_setIfInBounds, Array.getElem?_setIfInBounds]
    unfold rowF sw
    by_cases q1 : r = c
    · subst q1
      by_cases q2 : p = r
      · subst q2; simp [hlp]
      · simp [q2, hlc]
    · by_cases q2 : r = p
      · subst q2; simp [q1, hlp]
      · rw [if_neg (fun e => q2 e.symm), if_neg (fun e => q1 e.symm)]
        simp only [if_neg q1, if_neg q2]
        exact hx r hr
  · have hr := h.row _ (sw_lt hc hp hq)
    have hne := h.off _ (sw_lt hc hp hq)
    exact (hr.of_block (Below.heap_setCell w ⟨g, c, none⟩ _ _ hne)).of_block (Below.heap_setCell _ ⟨g, p, none⟩ _ _ hne)
theorem Grid.mid {base : Nat} {w : World} {g n m : Nat} {B K : Nat → Nat} {Z : Nat → Nat → Nat} (h : Grid base w g n m B K Z) {c p : Nat} (hc : c < n) (hp : p < n) : (w.setCell ⟨g, c, none⟩ (.slice (some ⟨B p, 0, none⟩) m (K p))).cell? ⟨g, p, none⟩ = some (.slice (some ⟨B p, 0, none⟩) m (K p)) ∧ (w.setCell ⟨g, c, none⟩ (.slice (some ⟨B p, 0, none⟩) m (K p))).frozen? ⟨g, p, none⟩ = false := by
  obtain ⟨cs, t, hb, hx⟩ := h.top
  have hb2 := heap_set (o := c) (v := .slice (some ⟨B p, 0, none⟩) m (K p)) hb
  have hlc := (Array.getElem?_eq_some_iff.1 (hx c hc)).1
  have hk : (cs.setIfInBounds c (.slice (some ⟨B p, 0, none⟩) m (K p)))[p]? = some (.slice (some ⟨B p, 0, none⟩) m (K p)) := by
    rw [Array.getElem?_setIfInBounds]
    by_cases e : c = p
    · rw [if_pos e, if_pos hlc]
    · rw [if_neg e]; exact hx p hp
  obtain ⟨cs2, hcs2⟩ : ∃ cs2, cs2 = cs.setIfInBounds c (.slice (some ⟨B p, 0, none⟩) m (K p)) := ⟨_, rfl⟩
  rw [← hcs2] at hb2 hk
  exact ⟨by simp [World.cell?, hb2, hk], by simp [World.frozen?, hb2]⟩
/-- The exchange, as the walk needs it. -/
theorem Grid.swapped {w wr : World} {g n m c p : Nat} {B K : Nat → Nat} {Z : Nat → Nat → Nat} {x : Nat → Nat} (h : Grid w.heap.size wr g n m B K Z) (he : Elim n c x Z) (hch : Ch (fun _ => False) w wr) (hc : c < n) (hcp : c ≤ p) (hp : p < n) (h0 : 0 < Z p c) :
    ∃ B2 K2 Z1, Grid w.heap.size ((wr.setCell ⟨g, c, none⟩ (.slice (some ⟨B p, 0, none⟩) m (K p))).setCell ⟨g, p, none⟩ (.slice (some ⟨B c, 0, none⟩) m (K c))) g n m B2 K2 Z1 ∧ Elim n c x Z1 ∧ 0 < Z1 c c ∧ Ch (fun _ => False) w ((wr.setCell ⟨g, c, none⟩ (.slice (some ⟨B p, 0, none⟩) m (K p))).setCell ⟨g, p, none⟩ (.slice (some ⟨B c, 0, none⟩) m (K c))) :=
  ⟨_, _, _, h.swap hc hp, he.swap hc hcp hp, by unfold swapZ sw; rw [if_pos rfl]; exact h0, (hch.setCell (p := ⟨g, c, none⟩) (Or.inr h.lo.1) _).setCell (p := ⟨g, p, none⟩) (Or.inr h.lo.1) _⟩
theorem Grid.ch {base : Nat} {w0 w w' : World} {g n m : Nat} {B K : Nat → Nat} {Z : Nat → Nat → Nat} (h : Grid base w g n m B K Z) (k : Ch (fun _ => False) w w') : Grid base w' g n m B K Z := by
  refine ⟨?_, fun r hr => (h.row r hr).of_block (k.block _ (h.row r hr).lt (fun f => f)), h.inj, h.off, h.lo⟩
  obtain ⟨cs, t, hb, hx⟩ := h.top
  exact ⟨cs, t, (k.block g (Array.getElem?_eq_some_iff.1 hb).1 (fun f => f)).trans hb, hx⟩
/-- A part of a row less so much of row c. -/
def partQ (c i q k : Nat) (Z : Nat → Nat → Nat) (r j : Nat) : Nat := if r = i ∧ j < k then xr (Z r j) (Gf.mul q (Z c j)) else Z r j
theorem partQ_zero (c i q : Nat) (Z : Nat → Nat → Nat) (r j : Nat) : partQ c i q 0 Z r j = Z r j := by unfold partQ; rw [if_neg (fun h => Nat.not_lt_zero _ h.2)]
theorem partQ_next {c i q k : Nat} {Z : Nat → Nat → Nat} (hc : c ≠ i) (r j : Nat) : updZ (partQ c i q k Z) i k (xr (Z i k) (Gf.mul q (Z c k))) r j = partQ c i q (k + 1) Z r j := by
  unfold updZ partQ
  by_cases e : r = i
  · subst e
    by_cases e2 : j = k
    · subst e2; rw [if_pos ⟨rfl, rfl⟩, if_pos ⟨rfl, by omega⟩]
    · rw [if_neg (fun h => e2 h.2)]
      by_cases e3 : j < k
      · rw [if_pos ⟨rfl, e3⟩, if_pos ⟨rfl, by omega⟩]
      · rw [if_neg (fun h => e3 h.2), if_neg (fun h => by omega)]
  · rw [if_neg (fun h => e h.1), if_neg (fun h => e h.1), if_neg (fun h => e h.1)]
theorem partQ_c {c i q k : Nat} {Z : Nat → Nat → Nat} (hc : c ≠ i) (j : Nat) : partQ c i q k Z c j = Z c j := by unfold partQ; rw [if_neg (fun h => hc h.1)]
theorem partQ_i {c i q k : Nat} {Z : Nat → Nat → Nat} : partQ c i q k Z i k = Z i k := by unfold partQ; rw [if_neg (fun h => Nat.lt_irrefl _ h.2)]
theorem partQ_done {c i m : Nat} {Z : Nat → Nat → Nat} (hc : i ≠ c) (r j : Nat) (hj : j < m) : partQ c i (Gf.quo (Z i c) (Z c c)) m (lessQ c i Z) r j = lessQ c (i + 1) Z r j := by
  unfold partQ
  by_cases e : r = i
  · subst e
    rw [if_pos ⟨rfl, hj⟩, lessQ_c]
    unfold lessQ
    rw [if_neg (fun h => Nat.lt_irrefl _ h.1), if_pos ⟨by omega, hc⟩]
  · rw [if_neg (fun h => e h.1)]
    unfold lessQ
    by_cases q : r < i ∧ r ≠ c
    · rw [if_pos q, if_pos ⟨by omega, q.2⟩]
    · rw [if_neg q, if_neg (fun h => q ⟨by omega, h.2⟩)]
theorem lessQ_skip {c : Nat} {Z : Nat → Nat → Nat} (r j : Nat) : lessQ c c Z r j = lessQ c (c + 1) Z r j := by
  unfold lessQ
  by_cases q : r < c ∧ r ≠ c
  · rw [if_pos q, if_pos ⟨by omega, q.2⟩]
  · rw [if_neg q, if_neg (fun h => q ⟨by omega, h.2⟩)]
#print axioms Grid.swap
#print axioms GridL.more
end Go.Proofs.Ytlgdajmidcdiaaa
