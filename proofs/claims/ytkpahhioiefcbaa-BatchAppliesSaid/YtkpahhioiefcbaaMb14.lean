/-
  A tree's nodes in memory: what may be read, and what is one's own; find, child, copied. find, child and copied of a node, walked. What Insert, Delete and Replace do tto the cells of a row, copy by copy.
-/
import Derived.Test.YtkpahhioiefcbaaMb13
import Derived.Deep.RegionHeld3
import Derived.Test.YtkpahhioiefcbaaMb12
namespace Go.Proofs.Ytkpahhioiefcbaa
open Go.RowKit
set_option linter.unusedVariables false
set_option maxRecDepth 100000
set_option linter.unusedSimpArgs false

inductive All2 {α β : Type} (R : α → β → Prop) : List α → List β → Prop
  | nil : All2 R [] []
  | cons {a b l m} : R a b → All2 R l m → All2 R (a :: l) (b :: m)
theorem All2.len {α β : Type} {R : α → β → Prop} {l : List α} {m : List β} (h : All2 R l m) : l.length = m.length := by
  induction h with
  | nil => rfl
  | cons _ _ ih => simp [ih]
theorem All2.imp {α β : Type} {R S : α → β → Prop} {l : List α} {m : List β} (h : All2 R l m) (f : ∀ a b, R a b → S a b) : All2 S l m := by
  induction h with
  | nil => exact .nil
  | cons r _ ih => exact .cons (f _ _ r) ih
theorem All2.app {α β : Type} {R : α → β → Prop} {l l2 : List α} {m m2 : List β} (h : All2 R l m) (h2 : All2 R l2 m2) : All2 R (l ++ l2) (m ++ m2) := by
  induction h with
  | nil => exact h2
  | cons r _ ih => exact .cons r ih
theorem All2.split {α β : Type} {R : α → β → Prop} : ∀ {l : List α} {m : List β}, All2 R l m → ∀ i, i < l.length → ∃ l1 x l2 m1 y m2, l = l1 ++ x :: l2 ∧ m = m1 ++ y :: m2 ∧ l1.length = i ∧ m1.length = i ∧ All2 R l1 m1 ∧ R x y ∧ All2 R l2 m2
  | _, _, .nil, i, hi => by simp at hi
  | _, _, .cons (a := a) (b := b) (l := l) (m := m) r h, 0, _ => ⟨[], a, l, [], b, m, rfl, rfl, rfl, rfl, .nil, r, h⟩
  | _, _, .cons (a := a) (b := b) (l := l) (m := m) r h, i + 1, hi => by
    obtain ⟨l1, x, l2, m1, y, m2, rfl, rfl, e1, e2, h1, h2, h3⟩ := h.split i (by simpa using hi)
    exact ⟨a :: l1, x, l2, b :: m1, y, m2, rfl, rfl, by simp [e1], by simp [e2], .cons r h1, h2, h3⟩
theorem All2.mem {α β : Type} {R : α → β → Prop} {l : List α} {m : List β} (h : All2 R l m) : ∀ y ∈ m, ∃ x ∈ l, R x y := by
  induction h with
  | nil => intro y hy; cases hy
  | cons r _ ih =>
    intro y hy
    rcases List.mem_cons.1 hy with rfl | hy
    · exact ⟨_, List.mem_cons_self .., r⟩
    · obtain ⟨x, hx, hr⟩ := ih y hy
      exact ⟨x, List.mem_cons_of_mem _ hx, hr⟩

/-- A row tto be read, in blocks of F. -/
structure RowF {α : Type} (F : Nat → Prop) (K : Kf α) (w : World) (A : Option Addr) (C : Nat) (L : List α) : Prop where
  v : FlV K w A C L
  f : L ≠ [] → ∀ b o, A = some ⟨b, o, none⟩ → F b
  ty : L ≠ [] → ∀ b o, A = some ⟨b, o, none⟩ → ∃ c fr, w.heap[b]? = some (.cells c K.T fr)
theorem RowF.ch {α : Type} {F : Nat → Prop} {K : Kf α} {w w' : World} {A : Option Addr} {C : Nat} {L : List α} {S : Nat → Prop} (h : RowF F K w A C L) (k : Ch S w w') (hS : ∀ i, F i → ¬ S i) : RowF F K w' A C L := by
  refine ⟨?_, h.f, fun hL b o e => ?_⟩
  · cases L with
    | nil => exact ⟨Nat.zero_le _, Nat.zero_le _, fun q => absurd q (Nat.lt_irrefl 0)⟩
    | cons x L => exact h.v.ch k fun b o e => hS b (h.f (by simp) b o e)
  · obtain ⟨c, fr, hc⟩ := h.ty hL b o e
    exact ⟨c, fr, (k.block b (blk_lt hc) (hS b (h.f hL b o e))).trans hc⟩
theorem RowF.mono {α : Type} {F G : Nat → Prop} {K : Kf α} (hK : K.Ok) {w : World} {A : Option Addr} {C : Nat} {L : List α} (h : RowF F K w A C L) (k : ∀ i, F i → i < w.heap.size → G i) : RowF G K w A C L := by
  refine ⟨h.v, fun hL b o e => k b (h.f hL b o e) ?_, h.ty⟩
  cases L with
  | nil => exact absurd rfl hL
  | cons x L =>
    obtain ⟨b', o', e', hc⟩ := h.v.at' (by simp)
    rw [e'] at e
    injection e with e
    injection e with e1 e2
    subst e1
    have hk : 0 < (K.f x).length := by rw [hK.len]; exact hK.k0
    exact World.block_lt_of_cell? _ _ (hc 0 x rfl 0 _ (List.getElem?_eq_getElem hk))
def nodeC (vp vc : Value) : Array Value := #[vp, vc]
/-- A node that may be read: its pairs and its children, in blocks of F. -/
structure NdAt (F : Nat → Prop) (w : World) (b : Nat) (ps : List Kv) (cs : List Nat) : Prop where
  fb : F b
  ex : ∃ A C A2 C2, w.heap[b]? = some (.cells #[.slice A ps.length C, .slice A2 cs.length C2] 89 (0, 0)) ∧ RowF F kdPr w A C ps ∧ RowF F kdNd w A2 C2 cs
theorem NdAt.ch {F S : Nat → Prop} {w w' : World} {b : Nat} {ps : List Kv} {cs : List Nat} (h : NdAt F w b ps cs) (k : Ch S w w') (hS : ∀ i, F i → ¬ S i) : NdAt F w' b ps cs := by
  obtain ⟨hb, A, C, A2, C2, h1, h2, h3⟩ := h
  exact ⟨hb, A, C, A2, C2, (k.block b (blk_lt h1) (hS b hb)).trans h1, h2.ch k hS, h3.ch k hS⟩
theorem NdAt.mono {F G : Nat → Prop} {w : World} {b : Nat} {ps : List Kv} {cs : List Nat} (h : NdAt F w b ps cs) (k : ∀ i, F i → i < w.heap.size → G i) : NdAt G w b ps cs := by
  obtain ⟨hb, A, C, A2, C2, h1, h2, h3⟩ := h
  exact ⟨k b hb (blk_lt h1), A, C, A2, C2, h1, h2.mono kdPr_ok k, h3.mono kdNd_ok k⟩
theorem NdAt.lt {F : Nat → Prop} {w : World} {b : Nat} {ps : List Kv} {cs : List Nat} (h : NdAt F w b ps cs) : b < w.heap.size := by
  obtain ⟨hb, A, C, A2, C2, h1, h2, h3⟩ := h
  exact blk_lt h1
def ptrV : Option Nat → Value
  | none => .pointer none
  | some b => .pointer (some ⟨b, 0, none⟩)
/-- What a node's children are. -/
def KidsP (P : Option Nat → Nat → List Kv → Prop) (h : Nat) (ps : List Kv) (cs : List Nat) (L : List Kv) : Prop :=
  (h = 0 ∧ cs = [] ∧ L = ps) ∨ (0 < h ∧ ∃ Ls, Ls.length = ps.length + 1 ∧ L = flat ps Ls ∧ All2 (fun c l => ∃ m, 3 ≤ m ∧ m ≤ 7 ∧ P (some c) m l) cs Ls)
theorem KidsP.imp {P Q : Option Nat → Nat → List Kv → Prop} {h : Nat} {ps : List Kv} {cs : List Nat} {L : List Kv} (k : KidsP P h ps cs L) (f : ∀ p m l, P p m l → Q p m l) : KidsP Q h ps cs L := by
  rcases k with k | ⟨h0, Ls, h1, h2, h3⟩
  · exact Or.inl k
  · exact Or.inr ⟨h0, Ls, h1, h2, h3.imp fun a b ⟨m, q1, q2, q3⟩ => ⟨m, q1, q2, f _ _ _ q3⟩⟩
/-- A tree so high, with so many pairs in its root, that has such things. -/
def TrIs (F : Nat → Prop) : Nat → World → Option Nat → Nat → List Kv → Prop
  | 0, _, p, m, L => p = none ∧ m = 0 ∧ L = []
  | h + 1, w, p, m, L => ∃ b ps cs, p = some b ∧ NdAt F w b ps cs ∧ m = ps.length ∧ KidsP (TrIs F h w) h ps cs L
theorem TrIs.ch {F S : Nat → Prop} {w w' : World} (k : Ch S w w') (hS : ∀ i, F i → ¬ S i) : ∀ {h : Nat} {p : Option Nat} {m : Nat} {L : List Kv}, TrIs F h w p m L → TrIs F h w' p m L
  | 0, _, _, _, q => q
  | h + 1, p, m, L, ⟨b, ps, cs, e, h1, h2, h3⟩ => ⟨b, ps, cs, e, h1.ch k hS, h2, h3.imp fun _ _ _ q => TrIs.ch k hS q⟩
theorem TrIs.gr {F : Nat → Prop} {w w' : World} (k : Ch (fun _ => False) w w') {h : Nat} {p : Option Nat} {m : Nat} {L : List Kv} (q : TrIs F h w p m L) : TrIs F h w' p m L := q.ch k fun _ _ f => f
theorem TrIs.mono {F G : Nat → Prop} {w : World} (k : ∀ i, F i → i < w.heap.size → G i) : ∀ {h : Nat} {p : Option Nat} {m : Nat} {L : List Kv}, TrIs F h w p m L → TrIs G h w p m L
  | 0, _, _, _, q => q
  | h + 1, p, m, L, ⟨b, ps, cs, e, h1, h2, h3⟩ => ⟨b, ps, cs, e, h1.mono k, h2, h3.imp fun _ _ _ q => TrIs.mono k q⟩
/-- A tree has at least so many. -/
theorem TrIs.low {F : Nat → Prop} {w : World} : ∀ {h : Nat} {p : Option Nat} {m : Nat} {L : List Kv}, TrIs F h w p m L → 0 < h → (m + 1) * 4 ^ (h - 1) ≤ L.length + 1
  | 0, _, _, _, _, h0 => absurd h0 (Nat.lt_irrefl 0)
  | h + 1, p, m, L, ⟨b, ps, cs, e, h1, h2, h3⟩, _ => by
    rcases h3 with ⟨rfl, _, rfl⟩ | ⟨h0, Ls, hl, rfl, hk⟩
    · rw [h2]; simp
    · obtain ⟨h', rfl⟩ : ∃ h', h = h' + 1 := ⟨h - 1, by omega⟩
      rw [h2]
      refine flat_low hl fun l hlm => ?_
      obtain ⟨c, _, m', h3', _, ht⟩ := hk.mem l hlm
      have := TrIs.low ht (Nat.succ_pos _)
      simp only [Nat.add_sub_cancel] at this ⊢
      rw [Nat.pow_succ]
      have h4 : 4 * 4 ^ h' ≤ (m' + 1) * 4 ^ h' := Nat.mul_le_mul_right _ (by omega)
      omega
/-- A node of one's own: its block, and its two rows. -/
structure OwnN (w0 w : World) (nb : Nat) (vp vc : Value) (ps : List Kv) (cs : List Nat) : Prop where
  lo : w0.heap.size ≤ nb
  blk : w.heap[nb]? = some (.cells #[vp, vc] 89 (0, 0))
  pr : FlO kdPr w0 w vp ps
  nd : FlO kdNd w0 w vc cs
/-- Its blocks. -/
def OwnS (nb : Nat) (vp vc : Value) (i : Nat) : Prop := i = nb ∨ vp.ownBlock = some i ∨ vc.ownBlock = some i
theorem OwnN.ch {S : Nat → Prop} {w0 w w' : World} {nb : Nat} {vp vc : Value} {ps : List Kv} {cs : List Nat} (h : OwnN w0 w nb vp vc ps cs) (k : Ch S w w') (hS : ∀ i, OwnS nb vp vc i → ¬ S i) : OwnN w0 w' nb vp vc ps cs :=
  ⟨h.lo, (k.block nb (blk_lt h.blk) (hS nb (Or.inl rfl))).trans h.blk, h.pr.ch k fun i e => hS i (Or.inr (Or.inl e)), h.nd.ch k fun i e => hS i (Or.inr (Or.inr e))⟩
theorem OwnN.gr {w0 w w' : World} {nb : Nat} {vp vc : Value} {ps : List Kv} {cs : List Nat} (h : OwnN w0 w nb vp vc ps cs) (k : Ch (fun _ => False) w w') : OwnN w0 w' nb vp vc ps cs := h.ch k fun _ _ f => f
/-- They are new, and there. -/
theorem OwnN.at {w0 w : World} {nb : Nat} {vp vc : Value} {ps : List Kv} {cs : List Nat} (h : OwnN w0 w nb vp vc ps cs) {i : Nat} (hi : OwnS nb vp vc i) : w0.heap.size ≤ i ∧ i < w.heap.size := by
  rcases hi with rfl | hi | hi
  · exact ⟨h.lo, blk_lt h.blk⟩
  · exact h.pr.lo hi
  · exact h.nd.lo hi
theorem own_row {α : Type} {K : Kf α} (hK : K.Ok) {w0 w : World} {v : Value} {L : List α} (h : FlO K w0 w v L) (hl : L.length ≤ 1048576) {F : Nat → Prop} (hF : ∀ i, v.ownBlock = some i → F i) : ∃ A C, v = .slice A L.length C ∧ RowF F K w A C L := by
  obtain ⟨A, C, rfl⟩ := h.len
  exact ⟨A, C, rfl, h.read hK hl, fun _ b o e => hF b (by rw [e]; rfl), fun _ b o e => by
    obtain ⟨_, c, hc⟩ := own_at h (i := b) (by rw [e]; rfl)
    exact ⟨c, _, hc⟩⟩
theorem OwnN.read {w0 w : World} {nb : Nat} {vp vc : Value} {ps : List Kv} {cs : List Nat} (h : OwnN w0 w nb vp vc ps cs) (hl : ps.length ≤ 1000) (hl2 : cs.length ≤ 1000) {F : Nat → Prop} (hF : ∀ i, OwnS nb vp vc i → F i) : NdAt F w nb ps cs := by
  obtain ⟨A, C, rfl, h1⟩ := own_row kdPr_ok h.pr (by omega) (F := F) fun i e => hF i (Or.inr (Or.inl e))
  obtain ⟨A2, C2, rfl, h2⟩ := own_row kdNd_ok h.nd (by omega) (F := F) fun i e => hF i (Or.inr (Or.inr e))
  exact ⟨hF nb (Or.inl rfl), A, C, A2, C2, h.blk, h1, h2⟩
#print axioms OwnN.read
end Go.Proofs.Ytkpahhioiefcbaa
namespace Go.Proofs.Ytkpahhioiefcbaa
open Go.RowKit
set_option linter.unusedVariables false
set_option maxRecDepth 100000
set_option linter.unusedSimpArgs false

theorem nfind_any {F : Nat → Prop} {w : World} {b : Nat} {ps : List Kv} {cs : List Nat} (k : ByteArray) (h : NdAt F w b ps cs) (hr : Rise ps) (hl : ps.length ≤ 1000) :
    Calls Try.prog 52 #[.pointer (some ⟨b, 0, none⟩), .string k] w (FindP ps k w) := by
  obtain ⟨_, A, C, A2, C2, hb, h1, h2⟩ := h
  have c0 : w.cell? ⟨b, 0, none⟩ = some (.slice A ps.length C) := by rw [blk_cell hb]; rfl
  have HB := Lib.hid (bsf_any A C ps k w h1.v hr hl)
  obtain ⟨n, hn⟩ : ∃ n, n = ps.length := ⟨_, rfl⟩
  rw [← hn] at c0 HB
  clear h1 h2 hb hr hl hn
  go_enter Try.func52, Try.ntmps52
  go_wp2_with fail
  refine HB.out.mono ?_
  rintro e w1 ⟨x, y, e1, rfl, e2, e3, e4⟩
  have HF : Hid (FindP ps k w (.returned (.tuple #[.int .i64 (x.length : Int), .bool (hereB y k)])) w1) := Lib.hid ⟨x, y, e1, rfl, e2, e3, e4⟩
  clear e1 e2 e3 e4
  go_wp2_with fail
  go_ret2
  exact HF.out
#print axioms nfind_any
theorem nchild_any {F : Nat → Prop} {w : World} {b : Nat} {ps : List Kv} {cs : List Nat} (i : Nat) (h : NdAt F w b ps cs) (hi : cs = [] ∨ i < cs.length) :
    Calls Try.prog 53 #[.pointer (some ⟨b, 0, none⟩), .int .i64 (i : Int)] w fun e w' => e = .returned (ptrV cs[i]?) ∧ w' = w := by
  obtain ⟨_, A, C, A2, C2, hb, h1, h2⟩ := h
  have c1 : w.cell? ⟨b, 1, none⟩ = some (.slice A2 cs.length C2) := by rw [blk_cell hb]; rfl
  have hcap := h2.v.le
  rcases hi with rfl | hi
  · have c1 : w.cell? ⟨b, 1, none⟩ = some (.slice A2 0 C2) := c1
    clear hb h1 h2
    go_enter Try.func53, Try.ntmps53
    go_wp2
    go_ret
    exact ⟨rfl, rfl⟩
  · obtain ⟨b2, o2, rfl, hc⟩ := h2.v.at' (by omega)
    have hx : cs[i]? = some cs[i] := List.getElem?_eq_getElem hi
    obtain ⟨c, hce⟩ : ∃ c, cs[i]? = some c := ⟨_, hx⟩
    have c2 : w.cell? ⟨b2, o2 + i, none⟩ = some (.pointer (some ⟨c, 0, none⟩)) := by have := hc i c hce 0 _ rfl; rw [show kdNd.k = 1 from rfl, Nat.mul_one] at this; exact this
    rw [hce]
    obtain ⟨n, hn⟩ : ∃ n, n = cs.length := ⟨_, rfl⟩
    rw [← hn] at c1 hi
    have i0 : (0 : Int) ≤ (i : Int) := Int.natCast_nonneg _
    have i1 : (i : Int) < (n : Int) := by omega
    have n0 : ¬ (n : Int) = 0 := by omega
    clear hb h1 h2 hc hx hce hn hcap
    go_enter Try.func53, Try.ntmps53
    go_wp2
    go_ret
    exact ⟨rfl, rfl⟩
#print axioms nchild_any
/-- The answer of what makes a row, written out. -/
def RowS {α : Type} (K : Kf α) (w : World) (n : Nat) (L : List α) (e : Ending) (w' : World) : Prop := ∃ A C, e = .returned (.slice A n C) ∧ FlO K w w' (.slice A n C) L ∧ Ch (fun _ => False) w w'
theorem RowP.form {α : Type} {K : Kf α} {w : World} {L : List α} {e : Ending} {w' : World} (h : RowP K w L e w') : RowS K w L.length L e w' := by
  obtain ⟨v, rfl, h1, h2⟩ := h
  obtain ⟨A, C, rfl⟩ := h1.len
  exact ⟨A, C, rfl, h1, h2⟩
/-- A node of one's own with these. -/
def CopyP (w : World) (ps : List Kv) (cs : List Nat) (e : Ending) (w' : World) : Prop := ∃ nb vp vc, e = .returned (.pointer (some ⟨nb, 0, none⟩)) ∧ OwnN w w' nb vp vc ps cs ∧ Ch (fun _ => False) w w'
set_option maxHeartbeats 1600000 in
theorem ncopied_any {F : Nat → Prop} {w : World} {b : Nat} {ps : List Kv} {cs : List Nat} (h : NdAt F w b ps cs) : Calls Try.prog 54 #[.pointer (some ⟨b, 0, none⟩)] w (CopyP w ps cs) := by
  obtain ⟨_, A, C, A2, C2, hb, h1, h2⟩ := h
  have c0 : w.cell? ⟨b, 0, none⟩ = some (.slice A ps.length C) := by rw [blk_cell hb]; rfl
  have c1 : w.cell? ⟨b, 1, none⟩ = some (.slice A2 cs.length C2) := by rw [blk_cell hb]; rfl
  obtain ⟨n, hn⟩ : ∃ n, n = ps.length := ⟨_, rfl⟩
  obtain ⟨m, hm⟩ : ∃ m, m = cs.length := ⟨_, rfl⟩
  have HP : Hid (∀ w', Ch (fun _ => False) w w' → Calls Try.prog 65 #[.slice A n C] w' (RowS kdPr w' n ps)) := Lib.hid fun w' k => by rw [hn]; exact (clonePr_any A C ps w' (h1.v.gr k)).mono fun e w2 q => q.form
  have HN : Hid (∀ w', Ch (fun _ => False) w w' → Calls Try.prog 66 #[.slice A2 m C2] w' (RowS kdNd w' m cs)) := Lib.hid fun w' k => by rw [hm]; exact (cloneNd_any A2 C2 cs w' (h2.v.gr k)).mono fun e w2 q => q.form
  rw [← hn] at c0
  rw [← hm] at c1
  clear h1 h2 hb hn hm
  go_enter Try.func54, Try.ntmps54
  go_wp2_with fail
  have hcd := (Ch.refl (fun _ => False) w).drew
  go_region_held3 (fun w' => w'.cell? ⟨b, 0, none⟩ = some (.slice A n C) ∧ w'.cell? ⟨b, 1, none⟩ = some (.slice A2 m C2)) (first | go_keep | exact ka | exact kb)
    (first
      | (go_at_call 65; refine (HP.out _ hcd).mono ?_; rintro e w2 ⟨Ap, Cp, rfl, hp2, hc2⟩; have hcA := hcd.trans hc2; have ka := And.intro (hcA.cell c0 (fun f => f)) (hcA.cell c1 (fun f => f)))
      | (go_at_call 66; refine (HN.out _ hcA).mono ?_; rintro e w3 ⟨An, Cn, rfl, hp3, hc3⟩; have hcB := hcA.trans hc3; have kb := And.intro (hcB.cell c0 (fun f => f)) (hcB.cell c1 (fun f => f))))
  have HF : Hid (CopyP w ps cs (.returned (.pointer (some ⟨w3.heap.size, 0, none⟩))) (w3.alloc (.cells #[.slice Ap n Cp, .slice An m Cn] 89))) := Lib.hid (by
    have k := (Ch.refl (fun _ => False) w3).alloc #[.slice Ap n Cp, .slice An m Cn] 89
    exact ⟨_, _, _, rfl, ⟨hcB.size, heap_alloc_new w3 _, ((hp2.low hcd.size).gr hc3).gr k, (hp3.low hcA.size).gr k⟩, hcB.trans k⟩)
  clear hp2 hp3 hc2 hc3 hcA hcB ka kb hcd
  go_wp2
  go_ret
  exact HF.out
#print axioms ncopied_any
end Go.Proofs.Ytkpahhioiefcbaa
namespace Go.Proofs.Ytkpahhioiefcbaa
open Go.RowKit
set_option linter.unusedVariables false
set_option maxRecDepth 100000

theorem list_cut {β : Type} (M : List β) (a : Nat) (h : a ≤ M.length) : ∃ Y Z, M = Y ++ Z ∧ Y.length = a := ⟨M.take a, M.drop a, (List.take_append_drop a M).symm, by rw [List.length_take]; omega⟩
section
variable {α : Type} {K : Kf α}
theorem flC_one (hK : K.Ok) (L : List α) : ∀ u ∈ flC K L, u.oneCell' = true := fun u hu => by
  unfold flC at hu
  obtain ⟨x, _, hx⟩ := List.mem_flatMap.1 hu
  exact hK.one x u hx
/-- Whose heap is the same. -/
theorem blk_heap {w W : World} (h : W.heap = w.heap) {g : Nat} {o : Obj} (k : w.heap[g]? = some o) : W.heap[g]? = some o := by rw [h]; exact k
theorem cell_heap {w W : World} (h : W.heap = w.heap) {a : Addr} {v : Value} (k : w.cell? a = some v) : W.cell? a = some v := by
  unfold World.cell? at k ⊢
  rw [h]; exact k
/-- Cells of a block, as a source. -/
theorem src_blk {w : World} {g : Nat} {T : TypeId} {X cs Z : List Value} (h : w.heap[g]? = some (.cells (X ++ (cs ++ Z)).toArray T (0, 0))) {o : Nat} (ho : o = X.length) : ∀ j u, cs[j]? = some u → w.cell? ((⟨g, o, none⟩ : Addr).add j) = some u := fun j u hj => by
  rw [add_pl, blk_cell h, List.getElem?_toArray, ho, List.getElem?_append_right (by omega), show X.length + j - X.length = j by omega, List.getElem?_append_left (List.getElem?_eq_some_iff.1 hj).1]
  exact hj
/-- Cells that are read, as a source. -/
theorem src_flv (hK : K.Ok) {w : World} {b o C : Nat} {M : List α} (h : FlV K w (some ⟨b, o, none⟩) C M) : ∀ j u, (flC K M)[j]? = some u → w.cell? ((⟨b, o, none⟩ : Addr).add j) = some u := fun j u hj => by
  have hjl : j < M.length * K.k := by rw [← flC_len hK M]; exact (List.getElem?_eq_some_iff.1 hj).1
  have hk0 := hK.k0
  have hq : j / K.k < M.length := (Nat.div_lt_iff_lt_mul hk0).2 hjl
  obtain ⟨b', o', hA, hc⟩ := h.at' (Nat.lt_of_le_of_lt (Nat.zero_le _) hq)
  injection hA with hA
  injection hA with e1 e2
  subst e1 e2
  have hx : M[j / K.k]? = some M[j / K.k] := List.getElem?_eq_getElem hq
  have hr : j % K.k < (K.f M[j / K.k]).length := by rw [hK.len]; exact Nat.mod_lt _ hk0
  have hu : (K.f M[j / K.k])[j % K.k]? = some ((K.f M[j / K.k])[j % K.k]) := List.getElem?_eq_getElem hr
  have e1 := flC_get hK hx _ _ hu
  have ed : j / K.k * K.k + j % K.k = j := by rw [Nat.mul_comm]; exact Nat.div_add_mod j K.k
  rw [ed, hj] at e1
  injection e1 with e1
  rw [e1, add_pl]
  have := hc _ _ hx _ _ hu
  rw [show o + j / K.k * K.k + j % K.k = o + j by omega] at this
  exact this
/-- One place further up: what stands behind A. -/
theorem run_shift (hK : K.Ok) {w0 w : World} {g cap : Nat} {A B : List α} {R : List Value} (h : FlG K w0 w g cap (A ++ B) R) (hc : A.length + B.length + 1 ≤ cap) :
    ∃ U Z : List Value, U.length = K.k ∧ (flC K A ++ (U ++ (flC K B ++ Z))).length = (flC K (A ++ B) ++ R).length ∧ ∀ (W : World), W.heap = w.heap → ∀ (ty : TypeId) (o o2 dl sl dc sc : Nat), o = (A.length + 1) * K.k → o2 = A.length * K.k → Nat.min sl dl = B.length →
      (Builtin.copy_ #[K.S, K.S] ty #[.slice (some ⟨g, o, none⟩) dl dc, .slice (some ⟨g, o2, none⟩) sl sc]).run Try.prog W = .ok (goInt B.length) (W.setRow g (flC K A ++ (U ++ (flC K B ++ Z))).toArray) := by
  have hR := h.rest hK
  rw [List.length_append] at hR
  have hk0 := hK.k0
  have hRk : K.k ≤ R.length := by
    rw [hR]
    have : 1 * K.k ≤ (cap - (A.length + B.length)) * K.k := Nat.mul_le_mul_right _ (by omega)
    omega
  have hBl := flC_len hK B
  have hAl := flC_len hK A
  obtain ⟨U, M, e1, hU⟩ := list_cut (flC K B ++ R) K.k (by rw [List.length_append]; omega)
  have hM : (flC K B).length ≤ M.length := by
    have := congrArg List.length e1
    rw [List.length_append, List.length_append] at this; omega
  obtain ⟨Y, Z, e2, hY⟩ := list_cut M (flC K B).length hM
  have e3 : flC K (A ++ B) ++ R = (flC K A ++ U) ++ (Y ++ Z) := by rw [flC_app, List.append_assoc, e1, e2, List.append_assoc]
  have hb := h.blk
  refine ⟨U, Z, hU, ?_, fun W hW ty o o2 dl sl dc sc ho ho2 hmin => ?_⟩
  · rw [e3]
    simp only [List.length_append]
    omega
  · have r := run_copyF hK W ty g o dl dc sl sc B.length ⟨g, o2, none⟩ (flC K A ++ U) Y Z (flC K B) (by rw [← e3]; exact blk_heap hW hb) (by rw [List.length_append, hAl, hU, ho, Nat.succ_mul]) hY hBl hmin
      (src_blk (Z := R) (X := flC K A) (T := K.T) (by rw [← List.append_assoc, ← flC_app]; exact blk_heap hW hb) (by rw [hAl, ho2])) (flC_one hK B)
    rw [r]
    simp only [List.append_assoc]
/-- So many elements are laid over what stands behind A. -/
theorem run_over (hK : K.Ok) {w : World} {g : Nat} {A : List α} {U T : List Value} (h : w.heap[g]? = some (.cells (flC K A ++ (U ++ T)).toArray K.T (0, 0))) (M : List α) (hU : U.length = M.length * K.k) (a : Addr) (hsrc : ∀ j u, (flC K M)[j]? = some u → w.cell? (a.add j) = some u) :
    ∀ (W : World), W.heap = w.heap → ∀ (ty : TypeId) (o dl sl dc sc : Nat), o = A.length * K.k → Nat.min sl dl = M.length →
      (Builtin.copy_ #[K.S, K.S] ty #[.slice (some ⟨g, o, none⟩) dl dc, .slice (some a) sl sc]).run Try.prog W = .ok (goInt M.length) (W.setRow g (flC K (A ++ M) ++ T).toArray) := fun W hW ty o dl sl dc sc ho hmin => by
  have r := run_copyF hK W ty g o dl dc sl sc M.length a (flC K A) U T (flC K M) (blk_heap hW h) (by rw [flC_len hK, ho]) (by rw [hU, flC_len hK]) (flC_len hK M) hmin (fun j u hj => cell_heap hW (hsrc j u hj)) (flC_one hK M)
  rw [r, flC_app, List.append_assoc]
end
/-- A block that begins with M, tto be read. -/
theorem flv_blk {α : Type} {K : Kf α} (hK : K.Ok) {w : World} {b C : Nat} {M : List α} {R : List Value} {T : TypeId} {fr : Nat × Nat} (h : w.heap[b]? = some (.cells (flC K M ++ R).toArray T fr)) (hl : M.length ≤ 1048576) (hC : M.length ≤ C) : FlV K w (some ⟨b, 0, none⟩) C M :=
  ⟨hl, hC, fun _ => ⟨b, 0, rfl, fun i x hx j u hu => by
    have e := flC_get hK hx j u hu
    have hlt := (List.getElem?_eq_some_iff.1 e).1
    rw [blk_cell h, List.getElem?_toArray, show 0 + i * K.k + j = i * K.k + j by omega, List.getElem?_append_left hlt]
    exact e⟩⟩
/-- No word of strings' bytes: two rows in two blocks do not overlap. -/
theorem overlaps_no (w : World) (S e R : TypeId) (hun : Try.prog.underlying S = some (.slice e)) (size : Nat) (hz : (Try.prog.info? e).map (·.size) = some size) (a b oa ob la ca lb cb : Nat) (hne : a ≠ b) (cA cB : Array Value) (tA tB : TypeId) (hA : w.heap[a]? = some (.cells cA tA (0, 0))) (hB : w.heap[b]? = some (.cells cB tB (0, 0))) (hk : 0 < cB.size) :
    (Extern.SlicesOverlaps.overlaps #[S, S] #[R] #[.slice (some ⟨a, oa, none⟩) la ca, .slice (some ⟨b, ob, none⟩) lb cb]).run Try.prog w = .ok (.bool false) w :=
  Lib.run_overlaps_apart w S R e hun size (fun w => by
    cases hq : Try.prog.info? e with
    | none => rw [hq] at hz; cases hz
    | some i =>
      rw [hq] at hz
      simp at hz
      simp [sizeOf, typeInfo, hq, hz]) ⟨a, oa, none⟩ ⟨b, ob, none⟩ la ca lb cb hne tA tB cA.size cB.size (by simp [World.shape?, hA]) (by simp [World.shape?, hB]) (by omega) (by simp [World.frozen?, hA]) (by simp [World.frozen?, hA])
#print axioms overlaps_no
end Go.Proofs.Ytkpahhioiefcbaa
