/-
  A tree's nodes in memory: what may be read, and what is one's own; find, child, copied.
-/
import Derived.Test.YtkpgaejmhddkdaaTreI
import Derived.Test.YtkpgaejmhddkdaaTreJ
import Derived.Deep.RegionHeld3
namespace Go.Proofs.Ytkpgaejmhddkdaa
open Go.RowKit
set_option linter.unusedVariables false
set_option maxRecDepth 100000
set_option linter.unusedSimpArgs false

inductive All2 {α β : Type} (R : α → β → Prop) : List α → List β → Prop
  | nil : All2 R [] []
  | cons {a b l m} : R a b → All2 R l m → All2 R (a :: l) (b :: m)
theorem All2.len {α β : Type} {R : α → β → Prop} {l : List α} {m : List β} (h : All2 R l m) : l.length = m.length := by
  induction h with
  | nil => rfl
  | cons _ _ ih => simp [ih]
theorem All2.imp {α β : Type} {R S : α → β → Prop} {l : List α} {m : List β} (h : All2 R l m) (f : ∀ a b, R a b → S a b) : All2 S l m := by
  induction h with
  | nil => exact .nil
  | cons r _ ih => exact .cons (f _ _ r) ih
theorem All2.app {α β : Type} {R : α → β → Prop} {l l2 : List α} {m m2 : List β} (h : All2 R l m) (h2 : All2 R l2 m2) : All2 R (l ++ l2) (m ++ m2) := by
  induction h with
  | nil => exact h2
  | cons r _ ih => exact .cons r ih
theorem All2.split {α β : Type} {R : α → β → Prop} : ∀ {l : List α} {m : List β}, All2 R l m → ∀ i, i < l.length → ∃ l1 x l2 m1 y m2, l = l1 ++ x :: l2 ∧ m = m1 ++ y :: m2 ∧ l1.length = i ∧ m1.length = i ∧ All2 R l1 m1 ∧ R x y ∧ All2 R l2 m2
  | _, _, .nil, i, hi => by simp at hi
  | _, _, .cons (a := a) (b := b) (l := l) (m := m) r h, 0, _ => ⟨[], a, l, [], b, m, rfl, rfl, rfl, rfl, .nil, r, h⟩
  | _, _, .cons (a := a) (b := b) (l := l) (m := m) r h, i + 1, hi => by
    obtain ⟨l1, x, l2, m1, y, m2, rfl, rfl, e1, e2, h1, h2, h3⟩ := h.split i (by simpa using hi)
    exact ⟨a :: l1, x, l2, b :: m1, y, m2, rfl, rfl, by simp [e1], by simp [e2], .cons r h1, h2, h3⟩
theorem All2.mem {α β : Type} {R : α → β → Prop} {l : List α} {m : List β} (h : All2 R l m) : ∀ y ∈ m, ∃ x ∈ l, R x y := by
  induction h with
  | nil => intro y hy; cases hy
  | cons r _ ih =>
    intro y hy
    rcases List.mem_cons.1 hy with rfl | hy
    · exact ⟨_, List.mem_cons_self .., r⟩
    · obtain ⟨x, hx, hr⟩ := ih y hy
      exact ⟨x, List.mem_cons_of_mem _ hx, hr⟩

/-- A row to be read, in blocks of F. -/
structure RowF {α : Type} (F : Nat → Prop) (K : Kf α) (w : World) (A : Option Addr) (C : Nat) (L : List α) : Prop where
  v : FlV K w A C L
  f : L ≠ [] → ∀ b o, A = some ⟨b, o, none⟩ → F b
  ty : L ≠ [] → ∀ b o, A = some ⟨b, o, none⟩ → ∃ c fr, w.heap[b]? = some (.cells c K.T fr)
theorem RowF.ch {α : Type} {F : Nat → Prop} {K : Kf α} {w w' : World} {A : Option Addr} {C : Nat} {L : List α} {S : Nat → Prop} (h : RowF F K w A C L) (k : Ch S w w') (hS : ∀ i, F i → ¬ S i) : RowF F K w' A C L := by
  refine ⟨?_, h.f, fun hL b o e => ?_⟩
  · cases L with
    | nil => exact ⟨Nat.zero_le _, Nat.zero_le _, fun q => absurd q (Nat.lt_irrefl 0)⟩
    | cons x L => exact h.v.ch k fun b o e => hS b (h.f (by simp) b o e)
  · obtain ⟨c, fr, hc⟩ := h.ty hL b o e
    exact ⟨c, fr, (k.block b (blk_lt hc) (hS b (h.f hL b o e))).trans hc⟩
theorem RowF.mono {α : Type} {F G : Nat → Prop} {K : Kf α} (hK : K.Ok) {w : World} {A : Option Addr} {C : Nat} {L : List α} (h : RowF F K w A C L) (k : ∀ i, F i → i < w.heap.size → G i) : RowF G K w A C L := by
  refine ⟨h.v, fun hL b o e => k b (h.f hL b o e) ?_, h.ty⟩
  cases L with
  | nil => exact absurd rfl hL
  | cons x L =>
    obtain ⟨b', o', e', hc⟩ := h.v.at' (by simp)
    rw [e'] at e
    injection e with e
    injection e with e1 e2
    subst e1
    have hk : 0 < (K.f x).length := by rw [hK.len]; exact hK.k0
    exact World.block_lt_of_cell? _ _ (hc 0 x rfl 0 _ (List.getElem?_eq_getElem hk))
def nodeC (vp vc : Value) : Array Value := #[vp, vc]
/-- A node that may be read: its pairs and its children, in blocks of F. -/
structure NdAt (F : Nat → Prop) (w : World) (b : Nat) (ps : List Kv) (cs : List Nat) : Prop where
  fb : F b
  ex : ∃ A C A2 C2, w.heap[b]? = some (.cells #[.slice A ps.length C, .slice A2 cs.length C2] 60 (0, 0)) ∧ RowF F kdPr w A C ps ∧ RowF F kdNd w A2 C2 cs
theorem NdAt.ch {F S : Nat → Prop} {w w' : World} {b : Nat} {ps : List Kv} {cs : List Nat} (h : NdAt F w b ps cs) (k : Ch S w w') (hS : ∀ i, F i → ¬ S i) : NdAt F w' b ps cs := by
  obtain ⟨hb, A, C, A2, C2, h1, h2, h3⟩ := h
  exact ⟨hb, A, C, A2, C2, (k.block b (blk_lt h1) (hS b hb)).trans h1, h2.ch k hS, h3.ch k hS⟩
theorem NdAt.mono {F G : Nat → Prop} {w : World} {b : Nat} {ps : List Kv} {cs : List Nat} (h : NdAt F w b ps cs) (k : ∀ i, F i → i < w.heap.size → G i) : NdAt G w b ps cs := by
  obtain ⟨hb, A, C, A2, C2, h1, h2, h3⟩ := h
  exact ⟨k b hb (blk_lt h1), A, C, A2, C2, h1, h2.mono kdPr_ok k, h3.mono kdNd_ok k⟩
theorem NdAt.lt {F : Nat → Prop} {w : World} {b : Nat} {ps : List Kv} {cs : List Nat} (h : NdAt F w b ps cs) : b < w.heap.size := by
  obtain ⟨hb, A, C, A2, C2, h1, h2, h3⟩ := h
  exact blk_lt h1
def ptrV : Option Nat → Value
  | none => .pointer none
  | some b => .pointer (some ⟨b, 0, none⟩)
/-- What a node's children are. -/
def KidsP (P : Option Nat → Nat → List Kv → Prop) (h : Nat) (ps : List Kv) (cs : List Nat) (L : List Kv) : Prop :=
  (h = 0 ∧ cs = [] ∧ L = ps) ∨ (0 < h ∧ ∃ Ls, Ls.length = ps.length + 1 ∧ L = flat ps Ls ∧ All2 (fun c l => ∃ m, 3 ≤ m ∧ m ≤ 7 ∧ P (some c) m l) cs Ls)
theorem KidsP.imp {P Q : Option Nat → Nat → List Kv → Prop} {h : Nat} {ps : List Kv} {cs : List Nat} {L : List Kv} (k : KidsP P h ps cs L) (f : ∀ p m l, P p m l → Q p m l) : KidsP Q h ps cs L := by
  rcases k with k | ⟨h0, Ls, h1, h2, h3⟩
  · exact Or.inl k
  · exact Or.inr ⟨h0, Ls, h1, h2, h3.imp fun a b ⟨m, q1, q2, q3⟩ => ⟨m, q1, q2, f _ _ _ q3⟩⟩
/-- A tree so high, with so many pairs in its root, that has such things. -/
def TrIs (F : Nat → Prop) : Nat → World → Option Nat → Nat → List Kv → Prop
  | 0, _, p, m, L => p = none ∧ m = 0 ∧ L = []
  | h + 1, w, p, m, L => ∃ b ps cs, p = some b ∧ NdAt F w b ps cs ∧ m = ps.length ∧ KidsP (TrIs F h w) h ps cs L
theorem TrIs.ch {F S : Nat → Prop} {w w' : World} (k : Ch S w w') (hS : ∀ i, F i → ¬ S i) : ∀ {h : Nat} {p : Option Nat} {m : Nat} {L : List Kv}, TrIs F h w p m L → TrIs F h w' p m L
  | 0, _, _, _, q => q
  | h + 1, p, m, L, ⟨b, ps, cs, e, h1, h2, h3⟩ => ⟨b, ps, cs, e, h1.ch k hS, h2, h3.imp fun _ _ _ q => TrIs.ch k hS q⟩
theorem TrIs.gr {F : Nat → Prop} {w w' : World} (k : Ch (fun _ => False) w w') {h : Nat} {p : Option Nat} {m : Nat} {L : List Kv} (q : TrIs F h w p m L) : TrIs F h w' p m L := q.ch k fun _ _ f => f
theorem TrIs.mono {F G : Nat → Prop} {w : World} (k : ∀ i, F i → i < w.heap.size → G i) : ∀ {h : Nat} {p : Option Nat} {m : Nat} {L : List Kv}, TrIs F h w p m L → TrIs G h w p m L
  | 0, _, _, _, q => q
  | h + 1, p, m, L, ⟨b, ps, cs, e, h1, h2, h3⟩ => ⟨b, ps, cs, e, h1.mono k, h2, h3.imp fun _ _ _ q => TrIs.mono k q⟩
/-- A tree has at least so many. -/
theorem TrIs.low {F : Nat → Prop} {w : World} : ∀ {h : Nat} {p : Option Nat} {m : Nat} {L : List Kv}, TrIs F h w p m L → 0 < h → (m + 1) * 4 ^ (h - 1) ≤ L.length + 1
  | 0, _, _, _, _, h0 => absurd h0 (Nat.lt_irrefl 0)
  | h + 1, p, m, L, ⟨b, ps, cs, e, h1, h2, h3⟩, _ => by
    rcases h3 with ⟨rfl, _, rfl⟩ | ⟨h0, Ls, hl, rfl, hk⟩
    · rw [h2]; simp
    · obtain ⟨h', rfl⟩ : ∃ h', h = h' + 1 := ⟨h - 1, by omega⟩
      rw [h2]
      refine flat_low hl fun l hlm => ?_
      obtain ⟨c, _, m', h3', _, ht⟩ := hk.mem l hlm
      have := TrIs.low ht (Nat.succ_pos _)
      simp only [Nat.add_sub_cancel] at this ⊢
      rw [Nat.pow_succ]
      have h4 : 4 * 4 ^ h' ≤ (m' + 1) * 4 ^ h' := Nat.mul_le_mul_right _ (by omega)
      omega
/-- A node of one's own: its block, and its two rows. -/
structure OwnN (w0 w : World) (nb : Nat) (vp vc : Value) (ps : List Kv) (cs : List Nat) : Prop where
  lo : w0.heap.size ≤ nb
  blk : w.heap[nb]? = some (.cells #[vp, vc] 60 (0, 0))
  pr : FlO kdPr w0 w vp ps
  nd : FlO kdNd w0 w vc cs
/-- Its blocks. -/
def OwnS (nb : Nat) (vp vc : Value) (i : Nat) : Prop := i = nb ∨ vp.ownBlock = some i ∨ vc.ownBlock = some i
theorem OwnN.ch {S : Nat → Prop} {w0 w w' : World} {nb : Nat} {vp vc : Value} {ps : List Kv} {cs : List Nat} (h : OwnN w0 w nb vp vc ps cs) (k : Ch S w w') (hS : ∀ i, OwnS nb vp vc i → ¬ S i) : OwnN w0 w' nb vp vc ps cs :=
  ⟨h.lo, (k.block nb (blk_lt h.blk) (hS nb (Or.inl rfl))).trans h.blk, h.pr.ch k fun i e => hS i (Or.inr (Or.inl e)), h.nd.ch k fun i e => hS i (Or.inr (Or.inr e))⟩
theorem OwnN.gr {w0 w w' : World} {nb : Nat} {vp vc : Value} {ps : List Kv} {cs : List Nat} (h : OwnN w0 w nb vp vc ps cs) (k : Ch (fun _ => False) w w') : OwnN w0 w' nb vp vc ps cs := h.ch k fun _ _ f => f
/-- They are new, and there. -/
theorem OwnN.at {w0 w : World} {nb : Nat} {vp vc : Value} {ps : List Kv} {cs : List Nat} (h : OwnN w0 w nb vp vc ps cs) {i : Nat} (hi : OwnS nb vp vc i) : w0.heap.size ≤ i ∧ i < w.heap.size := by
  rcases hi with rfl | hi | hi
  · exact ⟨h.lo, blk_lt h.blk⟩
  · exact h.pr.lo hi
  · exact h.nd.lo hi
theorem own_row {α : Type} {K : Kf α} (hK : K.Ok) {w0 w : World} {v : Value} {L : List α} (h : FlO K w0 w v L) (hl : L.length ≤ 1048576) {F : Nat → Prop} (hF : ∀ i, v.ownBlock = some i → F i) : ∃ A C, v = .slice A L.length C ∧ RowF F K w A C L := by
  obtain ⟨A, C, rfl⟩ := h.len
  exact ⟨A, C, rfl, h.read hK hl, fun _ b o e => hF b (by rw [e]; rfl), fun _ b o e => by
    obtain ⟨_, c, hc⟩ := own_at h (i := b) (by rw [e]; rfl)
    exact ⟨c, _, hc⟩⟩
theorem OwnN.read {w0 w : World} {nb : Nat} {vp vc : Value} {ps : List Kv} {cs : List Nat} (h : OwnN w0 w nb vp vc ps cs) (hl : ps.length ≤ 1000) (hl2 : cs.length ≤ 1000) {F : Nat → Prop} (hF : ∀ i, OwnS nb vp vc i → F i) : NdAt F w nb ps cs := by
  obtain ⟨A, C, rfl, h1⟩ := own_row kdPr_ok h.pr (by omega) (F := F) fun i e => hF i (Or.inr (Or.inl e))
  obtain ⟨A2, C2, rfl, h2⟩ := own_row kdNd_ok h.nd (by omega) (F := F) fun i e => hF i (Or.inr (Or.inr e))
  exact ⟨hF nb (Or.inl rfl), A, C, A2, C2, h.blk, h1, h2⟩
#print axioms OwnN.read
end Go.Proofs.Ytkpgaejmhddkdaa
