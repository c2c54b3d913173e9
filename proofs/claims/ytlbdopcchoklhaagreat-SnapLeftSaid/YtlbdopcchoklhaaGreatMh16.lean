/-
  Of One's rows and Cauchy's behind them any as many as there are columns, each once, make nothing of nothing but nothing. No program is named here. Which of One's rows and Cauchy's are taken does not matter, as long as each is taken once. No program is named here. Lists of rows that are joined by append; a matrix' tail and front; what an inverse means.
-/
import Derived.Test.YtlbdopcchoklhaaGreatMh15
import Derived.Maps.AppendAt
namespace Go.Proofs.YtlbdopcchoklhaaGreat
set_option linter.unusedVariables false
set_option maxRecDepth 100000

def lsum (l : List Nat) (f : Nat → Nat) : Nat := l.foldr (fun b s => xr (f b) s) 0
theorem lsum_cons (b : Nat) (l : List Nat) (f : Nat → Nat) : lsum (b :: l) f = xr (f b) (lsum l f) := rfl
theorem lsum_lt {l : List Nat} {f : Nat → Nat} (h : ∀ b ∈ l, f b < 256) : lsum l f < 256 := by
  induction l with
  | nil => show 0 < 256; omega
  | cons b l ih => exact xr_lt8 (h b (by simp)) (ih fun c hc => h c (by simp [hc]))
theorem lsum_congr {l : List Nat} {f g : Nat → Nat} (h : ∀ b ∈ l, f b = g b) : lsum l f = lsum l g := by
  induction l with
  | nil => rfl
  | cons b l ih => rw [lsum_cons, lsum_cons, h b (by simp), ih fun c hc => h c (by simp [hc])]
theorem lsum_none {l : List Nat} {f : Nat → Nat} (h : ∀ b ∈ l, f b = 0) : lsum l f = 0 := by
  induction l with
  | nil => rfl
  | cons b l ih => rw [lsum_cons, h b (by simp), ih fun c hc => h c (by simp [hc])]; rfl
theorem lsum_add (l : List Nat) (f g : Nat → Nat) : lsum l (fun b => xr (f b) (g b)) = xr (lsum l f) (lsum l g) := by
  induction l with
  | nil => exact (xr_z 0).symm
  | cons b l ih => rw [lsum_cons, lsum_cons, lsum_cons, ih, xr_four]
theorem lsum_mul {a : Nat} {l : List Nat} {f : Nat → Nat} (ha : a < 256) (h : ∀ b ∈ l, f b < 256) : lsum l (fun b => Gf.mul a (f b)) = Gf.mul a (lsum l f) := by
  induction l with
  | nil => exact (Gf.mul_zero a).symm
  | cons b l ih => rw [lsum_cons, lsum_cons, ih fun c hc => h c (by simp [hc]), mul_xr ha (h b (by simp)) (lsum_lt fun c hc => h c (by simp [hc]))]
theorem mul_eq0 {a b : Nat} (ha : a < 256) (hb : b < 256) (h : Gf.mul a b = 0) (h0 : 0 < b) : a = 0 := by
  by_cases q : a = 0
  · exact q
  · have := Gf.mul_pos (show 0 < a by omega) h0; omega
theorem xr_pos {a b : Nat} (h : a ≠ b) : 0 < xr a b := by
  by_cases q : xr a b = 0
  · exact absurd (xr_eq q) h
  · omega
def iv (u : Nat) : Nat := Gf.quo 1 u
theorem iv_lt (u : Nat) : iv u < 256 := Gf.quo_lt _ _
theorem mul_iv {u : Nat} (hu : u < 256) (h0 : 0 < u) : Gf.mul u (iv u) = 1 := by unfold iv; rw [Gf.mul_comm, Gf.mul_quo (by omega) hu h0]
theorem iv_pos {u : Nat} (hu : u < 256) (h0 : 0 < u) : 0 < iv u := quo_pos hu h0
/-- (u + t) x / u = x + x t / u. -/
theorem one_part {u t x : Nat} (hu : u < 256) (u0 : 0 < u) (ht : t < 256) (hx : x < 256) : Gf.mul (xr u t) (Gf.mul x (iv u)) = xr x (Gf.mul x (Gf.mul t (iv u))) := by
  rw [xr_mul (Gf.mul_lt _ _) hu ht, mul_lc hu hx (iv_lt u), mul_iv hu u0, Gf.mul_one hx, mul_lc ht hx (iv_lt u)]
theorem two_parts {u v t x : Nat} (hu : u < 256) (u0 : 0 < u) (hv : v < 256) (v0 : 0 < v) (ht : t < 256) (hx : x < 256) :
    xr (Gf.mul (xr u t) (Gf.mul x (iv u))) (Gf.mul (xr v t) (Gf.mul x (iv v))) = Gf.mul (xr u v) (Gf.mul (Gf.mul x (Gf.mul t (iv v))) (iv u)) := by
  have hy : Gf.mul x (Gf.mul t (iv v)) < 256 := Gf.mul_lt _ _
  rw [one_part hu u0 ht hx, one_part hv v0 ht hx, xr_four, xr_self, z_xr]
  rw [xr_mul (Gf.mul_lt _ _) hu hv, mul_lc hu hy (iv_lt u), mul_iv hu u0, Gf.mul_one hy]
  have e : Gf.mul v (Gf.mul (Gf.mul x (Gf.mul t (iv v))) (iv u)) = Gf.mul x (Gf.mul t (iv u)) := by
    rw [Gf.mul_comm (Gf.mul x (Gf.mul t (iv v))), mul_lc hv (iv_lt u) hy, mul_lc hv hx (Gf.mul_lt _ _), mul_lc hv ht (iv_lt v), mul_iv hv v0, Gf.mul_one ht, mul_lc (iv_lt u) hx ht, Gf.mul_comm (iv u)]
  rw [e, xr_comm]
theorem cau_kernel : ∀ (bs aas : List Nat) (x : Nat → Nat), bs.length ≤ aas.length → aas.Nodup → bs.Nodup → (∀ a ∈ aas, a < 256) → (∀ b ∈ bs, b < 256) → (∀ a ∈ aas, ∀ b ∈ bs, a ≠ b) → (∀ b, x b < 256) →
    (∀ a ∈ aas, lsum bs (fun k => Gf.mul (x k) (iv (xr a k))) = 0) → ∀ b ∈ bs, x b = 0
  | [], _, _, _, _, _, _, _, _, _, _ => fun b hb => by cases hb
  | b :: bs, [], _, hl, _, _, _, _, _, _, _ => by simp at hl
  | b :: bs, a :: aas, x, hl, na, nb, ha, hb, hne, hx, h => by
    have ha0 := ha a (by simp)
    have hb0 := hb b (by simp)
    have nb' := List.nodup_cons.1 nb
    have na' := List.nodup_cons.1 na
    have hab := hne a (by simp) b (by simp)
    have sa := h a (by simp)
    have key : ∀ k ∈ bs, Gf.mul (x k) (Gf.mul (xr b k) (iv (xr a k))) = 0 := by
      refine cau_kernel bs aas (fun k => Gf.mul (x k) (Gf.mul (xr b k) (iv (xr a k)))) (by simpa using hl) na'.2 nb'.2 (fun c hc => ha c (by simp [hc])) (fun c hc => hb c (by simp [hc])) (fun c hc d hd => hne c (by simp [hc]) d (by simp [hd])) (fun k => Gf.mul_lt _ _) fun a' ha' => ?_
      have ha1 := ha a' (by simp [ha'])
      have sa' := h a' (by simp [ha'])
      have hne' : a' ≠ a := fun e => na'.1 (by rw [← e]; exact ha')
      -- (a' + b) times the sum at a', and (a + b) times that at a
      have e1 : lsum (b :: bs) (fun k => xr (Gf.mul (xr a' b) (Gf.mul (x k) (iv (xr a' k)))) (Gf.mul (xr a b) (Gf.mul (x k) (iv (xr a k))))) = 0 := by
        rw [lsum_add, lsum_mul (xr_lt8 ha1 hb0) fun _ _ => Gf.mul_lt _ _, lsum_mul (xr_lt8 ha0 hb0) fun _ _ => Gf.mul_lt _ _, sa, sa', Gf.mul_zero, Gf.mul_zero]; rfl
      rw [lsum_cons] at e1
      have e2 : xr (Gf.mul (xr a' b) (Gf.mul (x b) (iv (xr a' b)))) (Gf.mul (xr a b) (Gf.mul (x b) (iv (xr a b)))) = 0 := by
        have p1 := xr_pos (hne a' (by simp [ha']) b (by simp))
        have p2 := xr_pos hab
        rw [mul_lc (xr_lt8 ha1 hb0) (hx b) (iv_lt _), mul_iv (xr_lt8 ha1 hb0) p1, mul_lc (xr_lt8 ha0 hb0) (hx b) (iv_lt _), mul_iv (xr_lt8 ha0 hb0) p2, xr_self]
      rw [e2, z_xr] at e1
      have e3 : lsum bs (fun k => Gf.mul (xr a' a) (Gf.mul (Gf.mul (x k) (Gf.mul (xr b k) (iv (xr a k)))) (iv (xr a' k)))) = 0 := by
        rw [← e1]
        refine lsum_congr fun k hk => ?_
        have hk0 := hb k (by simp [hk])
        have q1 := xr_pos (hne a' (by simp [ha']) k (by simp [hk]))
        have q2 := xr_pos (hne a (by simp) k (by simp [hk]))
        have t1 : xr (xr a' k) (xr b k) = xr a' b := by rw [xr_comm b k, xr_assoc, ← xr_assoc k, xr_self, z_xr]
        have t2 : xr (xr a k) (xr b k) = xr a b := by rw [xr_comm b k, xr_assoc, ← xr_assoc k, xr_self, z_xr]
        have t3 : xr (xr a' k) (xr a k) = xr a' a := by rw [xr_comm a k, xr_assoc, ← xr_assoc k, xr_self, z_xr]
        have := two_parts (xr_lt8 ha1 hk0) q1 (xr_lt8 ha0 hk0) q2 (xr_lt8 hb0 hk0) (hx k)
        rw [t1, t2, t3] at this
        exact this.symm
      rw [lsum_mul (xr_lt8 ha1 ha0) fun _ _ => Gf.mul_lt _ _, Gf.mul_comm] at e3
      exact mul_eq0 (lsum_lt fun _ _ => Gf.mul_lt _ _) (xr_lt8 ha1 ha0) e3 (xr_pos hne')
    have hrest : ∀ k ∈ bs, x k = 0 := fun k hk => by
      have hk0 := hb k (by simp [hk])
      have q1 := xr_pos (fun e : b = k => nb'.1 (by rw [e]; exact hk))
      have q2 := xr_pos (hne a (by simp) k (by simp [hk]))
      exact mul_eq0 (hx k) (Gf.mul_lt _ _) (key k hk) (Gf.mul_pos q1 (iv_pos (xr_lt8 ha0 hk0) q2))
    intro c hc
    rcases List.mem_cons.1 hc with rfl | hc
    · rw [lsum_cons, lsum_none fun k hk => by rw [hrest k hk, Gf.zero_mul], xr_z] at sa
      exact mul_eq0 (hx c) (iv_lt _) sa (iv_pos (xr_lt8 ha0 hb0) (xr_pos hab))
    · exact hrest c hc
end Go.Proofs.YtlbdopcchoklhaaGreat
namespace Go.Proofs.YtlbdopcchoklhaaGreat
set_option linter.unusedVariables false
set_option maxRecDepth 100000

/-- One's rows, and Cauchy's behind them. -/
def allZ (cols r c : Nat) : Nat := if r < cols then oneZ r c else cauZ cols (r - cols) c
theorem allZ_b (cols : Nat) : AllB (allZ cols) := fun r c => by
  unfold allZ; split
  · exact AllB.one r c
  · exact cauZ_lt _ _ _
theorem lsum_filter {p : Nat → Bool} {l : List Nat} {f : Nat → Nat} (h : ∀ b ∈ l, p b = false → f b = 0) : lsum (l.filter p) f = lsum l f := by
  induction l with
  | nil => rfl
  | cons b l ih =>
    have ih' := ih fun c hc => h c (by simp [hc])
    by_cases q : p b = true
    · rw [List.filter_cons_of_pos q, lsum_cons, lsum_cons, ih']
    · have q' : p b = false := by simpa using q
      rw [List.filter_cons_of_neg q, lsum_cons, h b (by simp) q', z_xr, ih']
theorem lsum_append (l m : List Nat) (f : Nat → Nat) : lsum (l ++ m) f = xr (lsum l f) (lsum m f) := by
  induction l with
  | nil => exact (z_xr _).symm
  | cons b l ih => rw [List.cons_append, lsum_cons, lsum_cons, ih, xr_assoc]
theorem lsum_range (n : Nat) (f : Nat → Nat) : lsum (List.range n) f = xsum n f := by
  induction n with
  | zero => rfl
  | succ n ih =>
    rw [List.range_succ, lsum_append, ih]
    show xr _ (xr (f n) 0) = xr _ (f n)
    rw [xr_z]
theorem nodup_len : ∀ (l m : List Nat), l.Nodup → (∀ x ∈ l, x ∈ m) → l.length ≤ m.length
  | [], m, _, _ => Nat.zero_le _
  | a :: l, m, hn, hs => by
    have hn' := List.nodup_cons.1 hn
    have ha := hs a (by simp)
    have := nodup_len l (m.erase a) hn'.2 fun x hx => (List.mem_erase_of_ne (fun e => hn'.1 (by rw [← e]; exact hx))).2 (hs x (by simp [hx]))
    rw [List.length_erase_of_mem ha] at this
    have : 0 < m.length := List.length_pos_of_mem ha
    simp only [List.length_cons]
    omega
theorem filter_both (p : Nat → Bool) (l : List Nat) : (l.filter p).length + (l.filter fun x => !p x).length = l.length := by
  induction l with
  | nil => rfl
  | cons b l ih =>
    by_cases q : p b = true
    · rw [List.filter_cons_of_pos q, List.filter_cons_of_neg (by simp [q])]
      simp only [List.length_cons]; omega
    · rw [List.filter_cons_of_neg q, List.filter_cons_of_pos (by simpa using q)]
      simp only [List.length_cons]; omega
/-- Any rows, each once, make nothing of nothing but nothing. -/
theorem rows_sure {cols more : Nat} (wh : Nat → Nat) (hc : cols + more ≤ 256) (hw : ∀ r, r < cols → wh r < cols + more) (hi : ∀ r s, r < cols → s < cols → wh r = wh s → r = s)
    (x : Nat → Nat) (hx : ∀ j, x j < 256) (h : ∀ r, r < cols → xsum cols (fun j => Gf.mul (allZ cols (wh r) j) (x j)) = 0) : ∀ c, c < cols → x c = 0 := by
  have hW : ((List.range cols).map wh).Nodup := by
    refine List.pairwise_map.2 (List.Pairwise.imp_of_mem (fun {a b} ha hb (q : a ≠ b) e => q (hi a b (List.mem_range.1 ha) (List.mem_range.1 hb) e)) List.nodup_range)
  have hone : ∀ r, r < cols → wh r < cols → x (wh r) = 0 := fun r hr hl => by
    have := h r hr
    rw [xsum_single (i := wh r) _ hl fun j _ hj => by unfold allZ oneZ; rw [if_pos hl, if_neg (fun e => hj e.symm), Gf.zero_mul]] at this
    unfold allZ oneZ at this
    rw [if_pos hl, if_pos rfl, one_mul' (hx _)] at this
    exact this
  have hids : ∀ j, j ∈ ((List.range cols).map wh).filter (fun k => decide (k < cols)) → x j = 0 := fun j hj => by
    obtain ⟨h1, h2⟩ := List.mem_filter.1 hj
    obtain ⟨r, hr, rfl⟩ := List.mem_map.1 h1
    exact hone r (List.mem_range.1 hr) (of_decide_eq_true h2)
  obtain ⟨ids, hidse⟩ : ∃ ids, ids = ((List.range cols).map wh).filter (fun k => decide (k < cols)) := ⟨_, rfl⟩
  rw [← hidse] at hids
  have hidn : ids.Nodup := by rw [hidse]; exact hW.filter _
  have hlen1 : ids.length + (((List.range cols).map wh).filter fun k => !decide (k < cols)).length = cols := by
    rw [hidse, filter_both]; simp
  have hlen2 := filter_both (fun j => decide (j ∈ ids)) (List.range cols)
  rw [List.length_range] at hlen2
  have hlen3 : ids.length ≤ ((List.range cols).filter fun j => decide (j ∈ ids)).length := nodup_len _ _ hidn fun j hj => by
    refine List.mem_filter.2 ⟨?_, by simpa using hj⟩
    rw [hidse] at hj
    exact List.mem_range.2 (of_decide_eq_true (List.mem_filter.1 hj).2)
  have key := cau_kernel ((List.range cols).filter fun j => !decide (j ∈ ids)) (((List.range cols).map wh).filter fun k => !decide (k < cols)) x (by omega) (hW.filter _) (List.nodup_range.filter _)
    (fun a ha => by
      obtain ⟨r, hr, rfl⟩ := List.mem_map.1 (List.mem_filter.1 ha).1
      have := hw r (List.mem_range.1 hr); omega)
    (fun b hb => by have := List.mem_range.1 (List.mem_filter.1 hb).1; omega)
    (fun a ha b hb e => by
      have h1 := (List.mem_filter.1 ha).2
      have h2 := List.mem_range.1 (List.mem_filter.1 hb).1
      simp at h1
      omega) hx
    (fun a ha => by
      obtain ⟨h1, h2⟩ := List.mem_filter.1 ha
      obtain ⟨r, hr, rfl⟩ := List.mem_map.1 h1
      have hge : cols ≤ wh r := by simpa using h2
      rw [lsum_filter fun b hb q => by
        have hb' : b ∈ ids := by simpa using q
        rw [hids b hb', Gf.zero_mul], lsum_range]
      rw [← h r (List.mem_range.1 hr)]
      refine xsum_congr fun j _ => ?_
      unfold allZ cauZ iv
      rw [if_neg (by omega), show cols + (wh r - cols) = wh r by omega, Gf.mul_comm])
  intro c hcc
  by_cases q : c ∈ ids
  · exact hids c q
  · exact key c (List.mem_filter.2 ⟨List.mem_range.2 hcc, by simpa using q⟩)
end Go.Proofs.YtlbdopcchoklhaaGreat
namespace Go.Proofs.YtlbdopcchoklhaaGreat
open Go.RowKit
set_option linter.unusedVariables false
set_option maxRecDepth 100000

theorem nil_mat (w : World) (L : Nat → Nat) (Z : Nat → Nat → Nat) : MatV w (.slice none 0 0) 0 L Z := ⟨none, 0, rfl, by omega, fun h => absurd h (Nat.lt_irrefl 0)⟩
/-! ### numbers that are bytes everywhere -/
def trunc (Z : Nat → Nat → Nat) (r c : Nat) : Nat := Z r c % 256
theorem MatV.trunc {w : World} {v : Value} {n : Nat} {L : Nat → Nat} {Z : Nat → Nat → Nat} (h : MatV w v n L Z) : MatV w v n L (trunc Z) := h.congr fun r c hr hc => (Nat.mod_eq_of_lt (h.byte hr hc)).symm

/-! ### what an answer of Inv means -/
/-- M makes nothing of nothing but nothing. -/
def Sure (n : Nat) (M : Nat → Nat → Nat) : Prop := ∀ x : Nat → Nat, (∀ j, x j < 256) → (∀ r, r < n → xsum n (fun j => Gf.mul (M r j) (x j)) = 0) → ∀ c, c < n → x c = 0
def Both (n : Nat) (V M : Nat → Nat → Nat) : Prop := AllB V ∧ Eq2 n n (mulZ n V M) oneZ ∧ Eq2 n n (mulZ n M V) oneZ
theorem Reach.both {n : Nat} {X W : Nat → Nat → Nat} (hX : AllB X) (h : Reach n X n W) : Both n (left n W) X := by
  obtain ⟨⟨D, ht⟩, hc⟩ := (Reach.turned hX h)
  exact ⟨left_b ht.b, (ht.done hX hc).1, (ht.done hX hc).2⟩
theorem Reach.not_sure {n c : Nat} {X W : Nat → Nat → Nat} (hX : AllB X) (h : Reach n X c W) (hc : c < n) (h0 : ∀ r, c ≤ r → r < n → W r c = 0) (hs : Sure n X) : False := by
  obtain ⟨⟨D, ht⟩, hcl⟩ := (Reach.turned hX h)
  obtain ⟨x, hb, h1, hz⟩ := ht.stuck hX hcl hc h0
  have := hs x hb hz c hc
  omega
theorem Both.sure {n : Nat} {V M : Nat → Nat → Nat} (hM : AllB M) (h : Both n V M) : Sure n M := by
  intro x hb hz c hc
  have e1 : mulZ n (mulZ n V M) (fun j _ => x j) c 0 = x c := by
    rw [show mulZ n (mulZ n V M) (fun j _ => x j) c 0 = mulZ n oneZ (fun j _ => x j) c 0 from xsum_congr fun j hj => by rw [h.2.1 c j hc hj]]
    exact one_mulZ (fun j _ => hb j) hc 0
  rw [← e1, mulZ_assoc h.1 hM (fun j _ => hb j)]
  exact xsum_none fun j hj => by
    show Gf.mul (V c j) (xsum n fun i => Gf.mul (M j i) (x i)) = 0
    rw [hz j hj, Gf.mul_zero]
/-- An inverse's inverse is what there was. -/
theorem Both.back {n : Nat} {U V M : Nat → Nat → Nat} (hM : AllB M) (h : Both n V M) (k : Both n U V) : Eq2 n n U M := by
  intro r c hr hc
  rw [← mulZ_one k.1 hc r]
  rw [show mulZ n U oneZ r c = mulZ n U (mulZ n V M) r c from xsum_congr fun j hj => by rw [h.2.1 j c hj hc]]
  rw [← mulZ_assoc k.1 h.1 hM]
  rw [show mulZ n (mulZ n U V) M r c = mulZ n oneZ M r c from xsum_congr fun j hj => by rw [k.2.1 r j hr hj]]
  exact one_mulZ hM hr c
/-- Inv, by what its answer means. -/
def InvAns (n : Nat) (X : Nat → Nat → Nat) (w : World) (e : Ending) (w' : World) : Prop :=
  ∃ (A : Option Addr) (len C : Nat) (k : Int), e = .returned (.tuple #[.slice A len C, .int .i64 k]) ∧ Ch (fun _ => False) w w' ∧ ((∃ V, k = 0 ∧ Both n V X ∧ MatV w' (.slice A len C) n (fun _ => n) V) ∨ (k = 5 ∧ ¬ Sure n X ∧ MatV w' (.slice A len C) 0 (fun _ => n) X))
theorem inv_ans (va : Value) (n : Nat) (L : Nat → Nat) (X : Nat → Nat → Nat) (hX : AllB X) (w : World) (ha : MatV w va n L X) (m1 : mayBF n L = true) (hk : L 0 = n) : Calls Tryz.prog 118 #[va] w (InvAns n X w) := by
  refine (inv_yes va n L X w ha m1 hk).mono ?_
  rintro e w' (⟨W, hre, v, rfl, hM, hch⟩ | ⟨c, W, hc, hre, hz, rfl, hch⟩)
  · obtain ⟨A, C, rfl, _⟩ := id hM
    exact ⟨A, n, C, 0, rfl, hch, Or.inl ⟨_, rfl, hre.both hX, hM⟩⟩
  · exact ⟨none, 0, 0, 5, rfl, hch, Or.inr ⟨rfl, fun hs => hre.not_sure hX hc hz hs, nil_mat _ _ _⟩⟩
theorem may_const {n m : Nat} (h1 : 1 ≤ n) (h2 : n ≤ 64) (h3 : 1 ≤ m) (h4 : m ≤ 4096) : mayBF n (fun _ => m) = true := mayB_mk ⟨h1, h2, h3, h4, fun _ _ => rfl⟩
/-! ### a row's copy, by append tto nothing -/
/-! ### a matrix, as the values of its rows -/
def valsL (n : Nat) (F : Nat → Value) : List Value := (List.range n).map F
theorem valsL_get {n j : Nat} {F : Nat → Value} (h : j < n) : (valsL n F)[j]? = some (F j) := by unfold valsL; simp [h]
/-- append of a matrix' rows tto a list of rows. -/
theorem app_rows {base k m b o C : Nat} {w : World} {v : Value} {xs : List Value} {G : Nat → Value} (ho : w.ownsRow base /-t-/24 1 v k xs) (hb : base ≤ w.heap.size) (hk : k + m ≤ 65536)
    (hG : ∀ r, r < m → w.cell? ⟨b, o + r, none⟩ = some (G r) ∧ (G r).oneCell' = true) :
    ∃ v' w', (Builtin.append_ #[ /-t-/37, /-t-/37] /-t-/37 #[v, .slice (some ⟨b, o, none⟩) m C]).run Tryz.prog w = .ok v' w' ∧ w'.ownsRow base /-t-/24 1 v' (k + m) (xs ++ valsL m G) ∧ w.grownBy w' v.ownBlock := by
  obtain ⟨i0, hi, hz0, hz1, hz2⟩ := info_parts Tryz.info24
  obtain ⟨v', w', hr, h2, h3, _, _⟩ := run_append_own_at (P := Tryz.prog) w base /-t-/37 /-t-/37 /-t-/24 i0 (.slice none 0 0) 1 24 Tryz.underlying37 hi hz0 hz1 hz2 rfl (by decide) v k xs ho ⟨b, o, none⟩ m C (valsL m G) (by unfold valsL; simp)
    (fun j u hu => by
      by_cases q : j < m
      · rw [valsL_get q] at hu
        injection hu with hu
        rw [add_pl, ← hu]
        exact (hG j q).1
      · unfold valsL at hu
        rw [List.getElem?_eq_none (by simp; omega)] at hu
        cases hu)
    (fun u hu => by unfold valsL at hu; obtain ⟨c, hc, rfl⟩ := List.mem_map.1 hu; exact (hG c (List.mem_range.1 hc)).2) (by unfold maxLen; omega) (by omega) hb
  exact ⟨v', w', hr, h2, h3⟩
theorem wpList_rows_of {ops : Array Oper} {rest : List Oper} {o : Oper} {a : Act} {Q : Exit → Act → World → Prop} (w : World) (hgd : o.guard = none) (s x : Operand)
    (ho : o.op = .call { callee := .builtin .append, args := #[s, x], argTypes := #[ /-t-/37, /-t-/37] }) (hty : o.type = /-t-/37) (sv xv v' : Value) (w' : World) (hs : a.eval s = sv) (hx : a.eval x = xv)
    (hrun : (Builtin.append_ #[ /-t-/37, /-t-/37] /-t-/37 #[sv, xv]).run Tryz.prog w = .ok v' w') (h : wpList Tryz.prog ops Q rest (a.put o.dst v') w') : wpList Tryz.prog ops Q (o :: rest) a w := by
  refine wpList_plain hgd fun _ hK => ?_
  unfold Oper.wp execOp
  simp only [ho, hty, resolve, invoke, builtin, Sem.run_bind, Sem.run_pure, Result.andThen_ok, List.map_toArray, List.map_cons, List.map_nil, hs, hx, hrun]
  exact hK _ _ h
theorem mat_front {w : World} {b o n C k : Nat} {L : Nat → Nat} {Z : Nat → Nat → Nat} (h : MatV w (.slice (some ⟨b, o, none⟩) n C) n L Z) (hk : k ≤ n) : MatV w (.slice (some ⟨b, o, none⟩) k C) k L Z := by
  obtain ⟨A, C', e, hn, h3⟩ := h
  injection e with e1 e2 e3
  subst e1
  refine ⟨_, _, rfl, by omega, fun h0 => ?_⟩
  obtain ⟨b', o', e4, h4⟩ := h3 (by omega)
  injection e4 with e5
  injection e5 with e6 e7
  subst e6
  subst e7
  exact ⟨_, _, rfl, fun r hr => h4 r (by omega)⟩

/-! ### a matrix' tail -/
theorem mat_tail {w : World} {b o n C k : Nat} {L : Nat → Nat} {Z : Nat → Nat → Nat} (h : MatV w (.slice (some ⟨b, o, none⟩) n C) n L Z) (hk : k < n) : MatV w (.slice (some ⟨b, o + k, none⟩) (n - k) (C - k)) (n - k) (fun r => L (k + r)) (fun r => Z (k + r)) := by
  obtain ⟨A, C', e, hn, h3⟩ := h
  injection e with e1 e2 e3
  subst e1
  refine ⟨_, _, rfl, by omega, fun h0 => ?_⟩
  obtain ⟨b', o', e4, h4⟩ := h3 (by omega)
  injection e4 with e5
  injection e5 with e6 e7
  subst e6
  subst e7
  refine ⟨_, _, rfl, fun r hr => ?_⟩
  obtain ⟨x, hx, hv⟩ := h4 (k + r) (by omega)
  exact ⟨x, by rw [Nat.add_assoc]; exact hx, hv⟩
/-! ### lists that are joined -/
def jn (k : Nat) (L M : Nat → Nat) (r : Nat) : Nat := if r < k then L r else M (r - k)
def jz (k : Nat) (X Y : Nat → Nat → Nat) (r c : Nat) : Nat := if r < k then X r c else Y (r - k) c
theorem RowV.grown {w w' : World} {row : Option Nat} {v : Value} {l : Nat} {z : Nat → Nat} (h : RowV w v l z) (g : w.grownBy w' row) (hv : ∀ b, v.ownBlock = some b → row ≠ some b) : RowV w' v l z := by
  obtain ⟨A, C, rfl, h2, h3⟩ := h
  refine ⟨A, C, rfl, h2, fun hl => ?_⟩
  obtain ⟨b, o, rfl, hc⟩ := h3 hl
  exact ⟨b, o, rfl, fun c hcl => ⟨g.cell (hc c hcl).1 (fun e => hv b rfl e.symm), (hc c hcl).2⟩⟩
theorem BldL.congr {base lo : Nat} {w : World} {v : Value} {k : Nat} {L : Nat → Nat} {Z Y : Nat → Nat → Nat} (h : BldL base lo w v k L Z) (e : ∀ r c, r < k → c < L r → Z r c = Y r c) : BldL base lo w v k L Y := by
  obtain ⟨xs, h1, h2⟩ := h
  refine ⟨xs, h1, fun r hr => ?_⟩
  obtain ⟨x, hx, hv, ho⟩ := h2 r hr
  exact ⟨x, hx, hv.congr fun c hc => e r c hr hc, ho⟩
theorem BldL.lens {base lo : Nat} {w : World} {v : Value} {k : Nat} {L M : Nat → Nat} {Z : Nat → Nat → Nat} (h : BldL base lo w v k L Z) (e : ∀ r, r < k → L r = M r) : BldL base lo w v k M Z := by
  obtain ⟨xs, h1, h2⟩ := h
  refine ⟨xs, h1, fun r hr => ?_⟩
  obtain ⟨x, hx, hv, ho⟩ := h2 r hr
  exact ⟨x, hx, by rw [← e r hr]; exact hv, ho⟩
theorem BldL.low {base lo lo2 : Nat} {w : World} {v : Value} {k : Nat} {L : Nat → Nat} {Z : Nat → Nat → Nat} (h : BldL base lo w v k L Z) (hl : lo2 ≤ lo) : BldL base lo2 w v k L Z := by
  obtain ⟨xs, h1, h2⟩ := h
  refine ⟨xs, h1, fun r hr => ?_⟩
  obtain ⟨x, hx, hv, ho⟩ := h2 r hr
  exact ⟨x, hx, hv, fun b hb => ⟨(ho b hb).1, (ho b hb).2.1, (ho b hb).2.2.low hl⟩⟩
theorem BldL.base {base base2 lo : Nat} {w : World} {v : Value} {k : Nat} {L : Nat → Nat} {Z : Nat → Nat → Nat} (h : BldL base lo w v k L Z) (hb : base2 ≤ base) : BldL base2 lo w v k L Z := by
  obtain ⟨xs, h1, h2⟩ := h
  exact ⟨xs, ownsRow_low h1 hb, h2⟩
theorem Bld.base {base base2 : Nat} {w : World} {v : Value} {k : Nat} {L : Nat → Nat} {Z : Nat → Nat → Nat} (h : Bld base w v k L Z) (hb : base2 ≤ base) : Bld base2 w v k L Z := BldL.low (BldL.base h hb) hb
theorem BldL.block {base lo : Nat} {w : World} {v : Value} {k : Nat} {L : Nat → Nat} {Z : Nat → Nat → Nat} (h : BldL base lo w v k L Z) {q : Nat} (hq : v.ownBlock = some q) : base ≤ q ∧ q < w.heap.size := by
  obtain ⟨xs, h1, _⟩ := h
  exact World.ownsRow.lt h1 q hq
/-- What is appended: rows' values where they lie. -/
def Src (w : World) (v : Value) (lo b o m : Nat) (G : Nat → Value) (M : Nat → Nat) (Y : Nat → Nat → Nat) : Prop :=
  ∀ r, r < m → w.cell? ⟨b, o + r, none⟩ = some (G r) ∧ (G r).oneCell' = true ∧ RowV w (G r) (M r) (Y r) ∧ ∀ q, (G r).ownBlock = some q → q < w.heap.size ∧ v.ownBlock ≠ some q ∧ Far lo w q
def Joins (v u : Value) (base lo : Nat) (w : World) (k : Nat) (L : Nat → Nat) (X : Nat → Nat → Nat) (v' : Value) (w' : World) : Prop :=
  (Builtin.append_ #[ /-t-/37, /-t-/37] /-t-/37 #[v, u]).run Tryz.prog w = .ok v' w' ∧ BldL base lo w' v' k L X ∧ w.grownBy w' v.ownBlock
theorem src_join {base lo : Nat} {w : World} {v : Value} {k m b o C : Nat} {L M : Nat → Nat} {X Y : Nat → Nat → Nat} {G : Nat → Value} (h : BldL base lo w v k L X) (hb : base ≤ w.heap.size) (hk : k + m ≤ 65536) (hG : Src w v lo b o m G M Y) :
    ∃ v' w', Joins v (.slice (some ⟨b, o, none⟩) m C) base lo w (k + m) (jn k L M) (jz k X Y) v' w' := by
  obtain ⟨xs, ho, hr⟩ := h
  have hlen : xs.length = k := by have := ho.1; omega
  obtain ⟨i0, hi, hz0, hz1, hz2⟩ := info_parts Tryz.info24
  obtain ⟨v', w', hrun, h2, h3, _, h5⟩ := run_append_own_at (P := Tryz.prog) w base /-t-/37 /-t-/37 /-t-/24 i0 (.slice none 0 0) 1 24 Tryz.underlying37 hi hz0 hz1 hz2 rfl (by decide) v k xs ho ⟨b, o, none⟩ m C (valsL m G) (by unfold valsL; simp)
    (fun j u hu => by
      by_cases q : j < m
      · rw [valsL_get q] at hu
        injection hu with hu
        rw [add_pl, ← hu]
        exact (hG j q).1
      · unfold valsL at hu
        rw [List.getElem?_eq_none (by simp; omega)] at hu
        cases hu)
    (fun u hu => by unfold valsL at hu; obtain ⟨c, hc, rfl⟩ := List.mem_map.1 hu; exact (hG c (List.mem_range.1 hc)).2.1) (by unfold maxLen; omega) (by omega) hb
  refine ⟨v', w', hrun, ⟨_, h2, fun r hrk => ?_⟩, h3⟩
  have keep : ∀ x l z, RowV w x l z → (∀ q, x.ownBlock = some q → q < w.heap.size ∧ v.ownBlock ≠ some q ∧ Far lo w q) → RowV w' x l z ∧ ∀ q, x.ownBlock = some q → q < w'.heap.size ∧ v'.ownBlock ≠ some q ∧ Far lo w' q := fun x l z hx hq => by
    refine ⟨hx.grown h3 (fun q e => (hq q e).2.1), fun q e => ⟨Nat.lt_of_lt_of_le (hq q e).1 h3.size, fun e2 => ?_, (hq q e).2.2.of_block (h3.block q (hq q e).1 (fun e2 => (hq q e).2.1 e2.symm))⟩⟩
    rcases h5 with h5 | h5
    · exact (hq q e).2.1 (by rw [← h5]; exact e2)
    · rw [h5] at e2
      injection e2 with e2
      have := (hq q e).1
      omega
  by_cases q : r < k
  · obtain ⟨x, hx, hv, hoo⟩ := hr r q
    have := keep x _ _ hv hoo
    refine ⟨x, by rw [List.getElem?_append_left (by omega)]; exact hx, ?_, this.2⟩
    have e1 : jn k L M r = L r := if_pos q
    have e2 : jz k X Y r = X r := by funext c; exact if_pos q
    rw [e1, e2]; exact this.1
  · have := keep (G (r - k)) _ _ (hG (r - k) (by omega)).2.2.1 (hG (r - k) (by omega)).2.2.2
    refine ⟨G (r - k), by rw [List.getElem?_append_right (by omega), hlen]; exact valsL_get (by omega), ?_, this.2⟩
    have e1 : jn k L M r = M (r - k) := if_neg q
    have e2 : jz k X Y r = Y (r - k) := by funext c; exact if_neg q
    rw [e1, e2]; exact this.1
theorem app_none (w : World) (A : Option Addr) (n C c : Nat) (hA : A = none → n = 0 ∧ C = 0) (hn : n ≤ C) : (Builtin.append_ #[ /-t-/37, /-t-/37] /-t-/37 #[.slice A n C, .slice none 0 c]).run Tryz.prog w = .ok (.slice A n C) w := by
  obtain ⟨i0, hi, hz0, hz1, hz2⟩ := info_parts Tryz.info24
  cases A with
  | none =>
    obtain ⟨rfl, rfl⟩ := hA rfl
    simp [Builtin.append_, run_underlying Tryz.underlying37, sizeOf, typeInfo, hi, Builtin.lenOf, Builtin.firstCells]
  | some a =>
    simp [Builtin.append_, run_underlying Tryz.underlying37, sizeOf, typeInfo, hi, Builtin.lenOf, Builtin.firstCells, storeCells, hn]
theorem BldL.src {base lo : Nat} {w : World} {u : Value} {k lo2 : Nat} {L : Nat → Nat} {Z : Nat → Nat → Nat} {g C : Nat} (h : BldL base lo w (.slice (some ⟨g, 0, none⟩) k C) k L Z) (hlo : lo2 ≤ lo) (hv : ∀ q, u.ownBlock = some q → q < lo) : ∃ G, Src w u lo2 g 0 k G L Z := by
  obtain ⟨xs, h1, h2⟩ := h
  have hlen : xs.length = k := by have := h1.1; omega
  refine ⟨fun r => xs.getD r (.bool false), fun r hr => ?_⟩
  obtain ⟨x, hx, hrv, ho⟩ := h2 r hr
  have e : xs.getD r (.bool false) = x := by rw [List.getD, hx]; rfl
  show w.cell? ⟨g, 0 + r, none⟩ = some (xs.getD r (.bool false)) ∧ (xs.getD r (.bool false)).oneCell' = true ∧ RowV w (xs.getD r (.bool false)) (L r) (Z r) ∧ ∀ q, (xs.getD r (.bool false)).ownBlock = some q → q < w.heap.size ∧ u.ownBlock ≠ some q ∧ Far lo2 w q
  rw [e]
  have hc := World.ownsRow.cells h1 (g := g) rfl r x hx
  rw [add_pl] at hc
  refine ⟨hc, ?_, hrv, fun q hq => ⟨(ho q hq).1, fun e2 => ?_, (ho q hq).2.2.low hlo⟩⟩
  · obtain ⟨A, C, rfl, _⟩ := hrv; rfl
  · have := hv q e2
    have := (ho q hq).2.2.1
    omega
/-- Two that were built, the second behind the first, joined. -/
theorem bld_join {base lo base2 lo2 : Nat} {w : World} {v u : Value} {k m : Nat} {L M : Nat → Nat} {X Y : Nat → Nat → Nat} (h : BldL base lo w v k L X) (h2 : BldL base2 lo2 w u m M Y) (hb : base ≤ w.heap.size) (hk : k + m ≤ 65536) (hs : ∀ q, v.ownBlock = some q → q < lo2) (hlo : lo ≤ lo2) :
    ∃ v' w', Joins v u base lo w (k + m) (jn k L M) (jz k X Y) v' w' := by
  obtain ⟨ys, hy, hyr⟩ := id h2
  rcases hy.2 with ⟨rfl, h0⟩ | ⟨g, cap, cur, rfl, _⟩
  · subst h0
    obtain ⟨xs, ho, hr⟩ := h
    have hB : BldL base lo w v (k + 0) (jn k L M) (jz k X Y) := ⟨xs, ho, fun r hrk => by
      obtain ⟨x, hx, hv, hoo⟩ := hr r hrk
      have e1 : jn k L M r = L r := if_pos hrk
      have e2 : jz k X Y r = X r := by funext c; exact if_pos hrk
      exact ⟨x, hx, by rw [e1, e2]; exact hv, hoo⟩⟩
    refine ⟨v, w, ?_, hB, ⟨rfl, rfl, rfl, Nat.le_refl _, fun _ _ _ => rfl⟩⟩
    rcases ho.2 with ⟨rfl, h0⟩ | ⟨g, cap, cur, rfl, _, _, hc, _⟩
    · exact app_none w none 0 0 0 (fun _ => ⟨rfl, rfl⟩) (Nat.le_refl _)
    · exact app_none w _ k cap 0 (fun e => by cases e) hc
  · obtain ⟨G, hG⟩ := h2.src (u := v) hlo hs
    exact src_join h hb hk hG
/-- What was picked is a matrix. -/
theorem owns_mat {base : Nat} {w : World} {v : Value} {l : List Nat} {F : Nat → Value} {L : Nat → Nat} {Z : Nat → Nat → Nat} (h : w.ownsRow base /-t-/24 1 v l.length (l.map F)) (hl : l.length ≤ 140737488351232) (hF : ∀ r, r ∈ l → RowV w (F r) (L r) (Z r)) : MatV w v l.length (fun i => L (l.getD i 0)) (fun i => Z (l.getD i 0)) := by
  rcases h.2 with ⟨rfl, h0⟩ | ⟨g, cap, cur, rfl, hb, hgg, hcap, hm, hs, ht⟩
  · rw [h0]; exact nil_mat _ _ _
  · refine ⟨_, _, rfl, ⟨hl, hcap⟩, fun _ => ⟨g, 0, rfl, fun r hr => ⟨F (l.getD r 0), ?_, hF _ ?_⟩⟩⟩
    · have := World.ownsRow.cells h (g := g) rfl r (F (l.getD r 0)) (by rw [List.getElem?_map, List.getElem?_eq_getElem hr, List.getD, List.getElem?_eq_getElem hr]; rfl)
      rwa [add_pl] at this
    · rw [List.getD, List.getElem?_eq_getElem hr]; exact List.getElem_mem _
end Go.Proofs.YtlbdopcchoklhaaGreat
