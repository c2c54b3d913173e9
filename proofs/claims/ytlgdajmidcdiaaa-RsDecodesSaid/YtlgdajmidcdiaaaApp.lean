/-
  Lists of rows that are joined by append; a matrix' tail and front; what an inverse means.
-/
import Derived.Test.YtlgdajmidcdiaaaInv
import Derived.Test.YtlgdajmidcdiaaaRefMul
import Derived.Test.YtlgdajmidcdiaaaCauB
import Derived.Maps.AppendAt
namespace Go.Proofs.Ytlgdajmidcdiaaa
open Go.RowKit
set_option linter.unusedVariables false

theorem nil_mat (w : World) (L : Nat → Nat) (Z : Nat → Nat → Nat) : MatV w (.slice none 0 0) 0 L Z := ⟨none, 0, rfl, by omega, fun h => absurd h (Nat.lt_irrefl 0)⟩
/-! ### numbers that are bytes everywhere -/
def trunc (Z : Nat → Nat → Nat) (r c : Nat) : Nat := Z r c % 256
theorem trunc_b (Z : Nat → Nat → Nat) : AllB (trunc Z) := fun r c => Nat.mod_lt _ (by omega)
theorem MatV.trunc {w : World} {v : Value} {n : Nat} {L : Nat → Nat} {Z : Nat → Nat → Nat} (h : MatV w v n L Z) : MatV w v n L (trunc Z) := h.congr fun r c hr hc => (Nat.mod_eq_of_lt (h.byte hr hc)).symm

/-! ### what an answer of Inv means -/
/-- M makes nothing of nothing but nothing. -/
def Sure (n : Nat) (M : Nat → Nat → Nat) : Prop := ∀ x : Nat → Nat, (∀ j, x j < 256) → (∀ r, r < n → xsum n (fun j => Gf.mul (M r j) (x j)) = 0) → ∀ c, c < n → x c = 0
def Both (n : Nat) (V M : Nat → Nat → Nat) : Prop := AllB V ∧ Eq2 n n (mulZ n V M) oneZ ∧ Eq2 n n (mulZ n M V) oneZ
theorem Reach.both {n : Nat} {X W : Nat → Nat → Nat} (hX : AllB X) (h : Reach n X n W) : Both n (left n W) X := by
  obtain ⟨⟨D, ht⟩, hc⟩ := (Reach.turned hX h)
  exact ⟨left_b ht.b, (ht.done hX hc).1, (ht.done hX hc).2⟩
theorem Reach.not_sure {n c : Nat} {X W : Nat → Nat → Nat} (hX : AllB X) (h : Reach n X c W) (hc : c < n) (h0 : ∀ r, c ≤ r → r < n → W r c = 0) (hs : Sure n X) : False := by
  obtain ⟨⟨D, ht⟩, hcl⟩ := (Reach.turned hX h)
  obtain ⟨x, hb, h1, hz⟩ := ht.stuck hX hcl hc h0
  have := hs x hb hz c hc
  omega
theorem Both.sure {n : Nat} {V M : Nat → Nat → Nat} (hM : AllB M) (h : Both n V M) : Sure n M := by
  intro x hb hz c hc
  have e1 : mulZ n (mulZ n V M) (fun j _ => x j) c 0 = x c := by
    rw [show mulZ n (mulZ n V M) (fun j _ => x j) c 0 = mulZ n oneZ (fun j _ => x j) c 0 from xsum_congr fun j hj => by rw [h.2.1 c j hc hj]]
    exact one_mulZ (fun j _ => hb j) hc 0
  rw [← e1, mulZ_assoc h.1 hM (fun j _ => hb j)]
  exact xsum_none fun j hj => by
    show Gf.mul (V c j) (xsum n fun i => Gf.mul (M j i) (x i)) = 0
    rw [hz j hj, Gf.mul_zero]
theorem Both.flip {n : Nat} {V M : Nat → Nat → Nat} (hM : AllB M) (h : Both n V M) : Both n M V := ⟨hM, h.2.2, h.2.1⟩
/-- An inverse's inverse is what there was. -/
theorem Both.back {n : Nat} {U V M : Nat → Nat → Nat} (hM : AllB M) (h : Both n V M) (k : Both n U V) : Eq2 n n U M := by
  intro r c hr hc
  rw [← mulZ_one k.1 hc r]
  rw [show mulZ n U oneZ r c = mulZ n U (mulZ n V M) r c from xsum_congr fun j hj => by rw [h.2.1 j c hj hc]]
  rw [← mulZ_assoc k.1 h.1 hM]
  rw [show mulZ n (mulZ n U V) M r c = mulZ n oneZ M r c from xsum_congr fun j hj => by rw [k.2.1 r j hr hj]]
  exact one_mulZ hM hr c
/-- Inv, by what its answer means. -/
def InvAns (n : Nat) (X : Nat → Nat → Nat) (w : World) (e : Ending) (w' : World) : Prop :=
  ∃ (A : Option Addr) (len C : Nat) (k : Int), e = .returned (.tuple #[.slice A len C, .int .i64 k]) ∧ Ch (fun _ => False) w w' ∧ ((∃ V, k = 0 ∧ Both n V X ∧ MatV w' (.slice A len C) n (fun _ => n) V) ∨ (k = 5 ∧ ¬ Sure n X ∧ MatV w' (.slice A len C) 0 (fun _ => n) X))
theorem inv_ans (va : Value) (n : Nat) (L : Nat → Nat) (X : Nat → Nat → Nat) (hX : AllB X) (w : World) (ha : MatV w va n L X) (m1 : mayB n L = true) (hk : L 0 = n) : Calls Try.prog 45 #[va] w (InvAns n X w) := by
  refine (inv_yes va n L X w ha m1 hk).mono ?_
  rintro e w' (⟨W, hre, v, rfl, hM, hch⟩ | ⟨c, W, hc, hre, hz, rfl, hch⟩)
  · obtain ⟨A, C, rfl, _⟩ := id hM
    exact ⟨A, n, C, 0, rfl, hch, Or.inl ⟨_, rfl, hre.both hX, hM⟩⟩
  · exact ⟨none, 0, 0, 5, rfl, hch, Or.inr ⟨rfl, fun hs => hre.not_sure hX hc hz hs, nil_mat _ _ _⟩⟩
theorem may_const {n m : Nat} (h1 : 1 ≤ n) (h2 : n ≤ 64) (h3 : 1 ≤ m) (h4 : m ≤ 4096) : mayB n (fun _ => m) = true := mayB_mk ⟨h1, h2, h3, h4, fun _ _ => rfl⟩
/-! ### a row's copy, by append to nothing -/
theorem append_nil_nil (w : World) (ty : TypeId) (i : TypeInfo) (hi : Try.prog.info? /-t-/5 = some i) (c : Nat) : (Builtin.append_ #[ /-t-/33, /-t-/33] ty #[.slice none 0 0, .slice none 0 c]).run Try.prog w = .ok (.slice none 0 0) w := by
  simp [Builtin.append_, run_underlying Try.underlying33, sizeOf, typeInfo, hi, Builtin.lenOf, Builtin.firstCells]
theorem app_copy {w : World} {x : Value} {l : Nat} {z : Nat → Nat} (h : RowV w x l z) (hl : l ≤ 65536) : ∃ v' w', (Builtin.append_ #[ /-t-/33, /-t-/33] /-t-/33 #[.slice none 0 0, x]).run Try.prog w = .ok v' w' ∧ w'.ownsRow w.heap.size /-t-/5 1 v' l (bytesL l z) ∧ Ch (fun _ => False) w w' := by
  obtain ⟨A, C, rfl, hb, hc⟩ := h
  obtain ⟨j0, gi, gz0, gz1, gz2⟩ := info_parts Try.info5
  cases A with
  | none =>
    have h0 : l = 0 := by
      by_cases q : 0 < l
      · obtain ⟨b, o, e, _⟩ := hc q; cases e
      · omega
    subst h0
    exact ⟨_, _, append_nil_nil w _ j0 gi C, World.ownsRow_nil _ _ _ _, Ch.refl _ _⟩
  | some ad =>
    have hcells : ∀ j u, (bytesL l z)[j]? = some u → w.cell? (ad.add j) = some u := fun j u hu => by
      by_cases q : j < l
      · obtain ⟨b, o, e, h2⟩ := hc (by omega)
        injection e with e
        subst e
        rw [add_pl, (h2 j q).1]
        unfold bytesL at hu
        simp [q] at hu
        rw [hu]
      · unfold bytesL at hu
        rw [List.getElem?_eq_none (by simp; omega)] at hu
        cases hu
    obtain ⟨v', w', hr, h2, h3, _, h5⟩ := run_append_own_at (P := Try.prog) w w.heap.size /-t-/33 /-t-/33 /-t-/5 j0 (.int .u8 0) 1 1 Try.underlying33 gi gz0 gz1 gz2 rfl (by decide) (.slice none 0 0) 0 [] (World.ownsRow_nil _ _ _ _) ad l C (bytesL l z) (by unfold bytesL; simp) hcells
      (fun u hu => by unfold bytesL at hu; obtain ⟨c, _, rfl⟩ := List.mem_map.1 hu; rfl) (by unfold maxLen; omega) (by omega) (Nat.le_refl _)
    rw [Nat.zero_add, List.nil_append] at h2
    exact ⟨v', w', hr, h2, (Ch.refl _ w).grown h3 (fun i hi => by cases hi)⟩

theorem wpList_copy_of {ops : Array Oper} {rest : List Oper} {o : Oper} {a : Act} {Q : Exit → Act → World → Prop} (w : World) (hgd : o.guard = none) (s x : Operand)
    (ho : o.op = .call { callee := .builtin .append, args := #[s, x], argTypes := #[ /-t-/33, /-t-/33] }) (hty : o.type = /-t-/33) (sv xv v' : Value) (w' : World) (hs : a.eval s = sv) (hx : a.eval x = xv)
    (hrun : (Builtin.append_ #[ /-t-/33, /-t-/33] /-t-/33 #[sv, xv]).run Try.prog w = .ok v' w') (h : wpList Try.prog ops Q rest (a.put o.dst v') w') : wpList Try.prog ops Q (o :: rest) a w := by
  refine wpList_plain hgd fun _ hK => ?_
  unfold Oper.wp execOp
  simp only [ho, hty, resolve, invoke, builtin, Sem.run_bind, Sem.run_pure, Result.andThen_ok, List.map_toArray, List.map_cons, List.map_nil, hs, hx, hrun]
  exact hK _ _ h
/-! ### a matrix, as the values of its rows -/
theorem mat_vals {w : World} {b o n C : Nat} {L : Nat → Nat} {Z : Nat → Nat → Nat} (h : MatV w (.slice (some ⟨b, o, none⟩) n C) n L Z) (hL : ∀ r, r < n → 0 < L r) :
    ∃ F : Nat → Value, ∀ r, r < n → w.cell? ⟨b, o + r, none⟩ = some (F r) ∧ RowV w (F r) (L r) (Z r) ∧ (F r).oneCell' = true ∧ ∀ q, (F r).ownBlock = some q → q < w.heap.size := by
  refine ⟨fun r => (w.cell? ⟨b, o + r, none⟩).getD (.bool false), fun r hr => ?_⟩
  obtain ⟨A, C', e, _, h3⟩ := h
  injection e with e1 e2 e3
  subst e1
  obtain ⟨b', o', e4, h4⟩ := h3 (by omega)
  injection e4 with e5
  injection e5 with e6 e7
  subst e6
  subst e7
  obtain ⟨x, hx, hv⟩ := h4 r hr
  have ex : (w.cell? ⟨b, o + r, none⟩).getD (.bool false) = x := by rw [hx]; rfl
  show w.cell? ⟨b, o + r, none⟩ = some ((w.cell? ⟨b, o + r, none⟩).getD (.bool false)) ∧ RowV w ((w.cell? ⟨b, o + r, none⟩).getD (.bool false)) (L r) (Z r) ∧ ((w.cell? ⟨b, o + r, none⟩).getD (.bool false)).oneCell' = true ∧ ∀ q, ((w.cell? ⟨b, o + r, none⟩).getD (.bool false)).ownBlock = some q → q < w.heap.size
  rw [ex]
  refine ⟨hx, hv, ?_, fun q hq => ?_⟩
  · obtain ⟨A, C, rfl, _⟩ := hv; rfl
  · obtain ⟨A, C, rfl, _, hc⟩ := hv
    obtain ⟨b2, o2, rfl, hc2⟩ := hc (hL r hr)
    have e : b2 = q := by simpa [Value.ownBlock] using hq
    rw [← e]
    exact World.block_lt_of_cell? _ _ (hc2 0 (hL r hr)).1
def valsL (n : Nat) (F : Nat → Value) : List Value := (List.range n).map F
theorem valsL_get {n j : Nat} {F : Nat → Value} (h : j < n) : (valsL n F)[j]? = some (F j) := by unfold valsL; simp [h]
/-- append of a matrix' rows to a list of rows. -/
theorem app_rows {base k m b o C : Nat} {w : World} {v : Value} {xs : List Value} {G : Nat → Value} (ho : w.ownsRow base /-t-/33 1 v k xs) (hb : base ≤ w.heap.size) (hk : k + m ≤ 65536)
    (hG : ∀ r, r < m → w.cell? ⟨b, o + r, none⟩ = some (G r) ∧ (G r).oneCell' = true) :
    ∃ v' w', (Builtin.append_ #[ /-t-/22, /-t-/22] /-t-/22 #[v, .slice (some ⟨b, o, none⟩) m C]).run Try.prog w = .ok v' w' ∧ w'.ownsRow base /-t-/33 1 v' (k + m) (xs ++ valsL m G) ∧ w.grownBy w' v.ownBlock := by
  obtain ⟨i0, hi, hz0, hz1, hz2⟩ := info_parts Try.info33
  obtain ⟨v', w', hr, h2, h3, _, _⟩ := run_append_own_at (P := Try.prog) w base /-t-/22 /-t-/22 /-t-/33 i0 (.slice none 0 0) 1 24 Try.underlying22 hi hz0 hz1 hz2 rfl (by decide) v k xs ho ⟨b, o, none⟩ m C (valsL m G) (by unfold valsL; simp)
    (fun j u hu => by
      by_cases q : j < m
      · rw [valsL_get q] at hu
        injection hu with hu
        rw [add_pl, ← hu]
        exact (hG j q).1
      · unfold valsL at hu
        rw [List.getElem?_eq_none (by simp; omega)] at hu
        cases hu)
    (fun u hu => by unfold valsL at hu; obtain ⟨c, hc, rfl⟩ := List.mem_map.1 hu; exact (hG c (List.mem_range.1 hc)).2) (by unfold maxLen; omega) (by omega) hb
  exact ⟨v', w', hr, h2, h3⟩
theorem wpList_rows_of {ops : Array Oper} {rest : List Oper} {o : Oper} {a : Act} {Q : Exit → Act → World → Prop} (w : World) (hgd : o.guard = none) (s x : Operand)
    (ho : o.op = .call { callee := .builtin .append, args := #[s, x], argTypes := #[ /-t-/22, /-t-/22] }) (hty : o.type = /-t-/22) (sv xv v' : Value) (w' : World) (hs : a.eval s = sv) (hx : a.eval x = xv)
    (hrun : (Builtin.append_ #[ /-t-/22, /-t-/22] /-t-/22 #[sv, xv]).run Try.prog w = .ok v' w') (h : wpList Try.prog ops Q rest (a.put o.dst v') w') : wpList Try.prog ops Q (o :: rest) a w := by
  refine wpList_plain hgd fun _ hK => ?_
  unfold Oper.wp execOp
  simp only [ho, hty, resolve, invoke, builtin, Sem.run_bind, Sem.run_pure, Result.andThen_ok, List.map_toArray, List.map_cons, List.map_nil, hs, hx, hrun]
  exact hK _ _ h
theorem mat_front {w : World} {b o n C k : Nat} {L : Nat → Nat} {Z : Nat → Nat → Nat} (h : MatV w (.slice (some ⟨b, o, none⟩) n C) n L Z) (hk : k ≤ n) : MatV w (.slice (some ⟨b, o, none⟩) k C) k L Z := by
  obtain ⟨A, C', e, hn, h3⟩ := h
  injection e with e1 e2 e3
  subst e1
  refine ⟨_, _, rfl, by omega, fun h0 => ?_⟩
  obtain ⟨b', o', e4, h4⟩ := h3 (by omega)
  injection e4 with e5
  injection e5 with e6 e7
  subst e6
  subst e7
  exact ⟨_, _, rfl, fun r hr => h4 r (by omega)⟩

/-! ### a matrix' tail -/
theorem mat_tail {w : World} {b o n C k : Nat} {L : Nat → Nat} {Z : Nat → Nat → Nat} (h : MatV w (.slice (some ⟨b, o, none⟩) n C) n L Z) (hk : k < n) : MatV w (.slice (some ⟨b, o + k, none⟩) (n - k) (C - k)) (n - k) (fun r => L (k + r)) (fun r => Z (k + r)) := by
  obtain ⟨A, C', e, hn, h3⟩ := h
  injection e with e1 e2 e3
  subst e1
  refine ⟨_, _, rfl, by omega, fun h0 => ?_⟩
  obtain ⟨b', o', e4, h4⟩ := h3 (by omega)
  injection e4 with e5
  injection e5 with e6 e7
  subst e6
  subst e7
  refine ⟨_, _, rfl, fun r hr => ?_⟩
  obtain ⟨x, hx, hv⟩ := h4 (k + r) (by omega)
  exact ⟨x, by rw [Nat.add_assoc]; exact hx, hv⟩
/-! ### lists that are joined -/
def jn (k : Nat) (L M : Nat → Nat) (r : Nat) : Nat := if r < k then L r else M (r - k)
def jz (k : Nat) (X Y : Nat → Nat → Nat) (r c : Nat) : Nat := if r < k then X r c else Y (r - k) c
theorem RowV.grown {w w' : World} {row : Option Nat} {v : Value} {l : Nat} {z : Nat → Nat} (h : RowV w v l z) (g : w.grownBy w' row) (hv : ∀ b, v.ownBlock = some b → row ≠ some b) : RowV w' v l z := by
  obtain ⟨A, C, rfl, h2, h3⟩ := h
  refine ⟨A, C, rfl, h2, fun hl => ?_⟩
  obtain ⟨b, o, rfl, hc⟩ := h3 hl
  exact ⟨b, o, rfl, fun c hcl => ⟨g.cell (hc c hcl).1 (fun e => hv b rfl e.symm), (hc c hcl).2⟩⟩
theorem BldL.congr {base lo : Nat} {w : World} {v : Value} {k : Nat} {L : Nat → Nat} {Z Y : Nat → Nat → Nat} (h : BldL base lo w v k L Z) (e : ∀ r c, r < k → c < L r → Z r c = Y r c) : BldL base lo w v k L Y := by
  obtain ⟨xs, h1, h2⟩ := h
  refine ⟨xs, h1, fun r hr => ?_⟩
  obtain ⟨x, hx, hv, ho⟩ := h2 r hr
  exact ⟨x, hx, hv.congr fun c hc => e r c hr hc, ho⟩
theorem BldL.lens {base lo : Nat} {w : World} {v : Value} {k : Nat} {L M : Nat → Nat} {Z : Nat → Nat → Nat} (h : BldL base lo w v k L Z) (e : ∀ r, r < k → L r = M r) : BldL base lo w v k M Z := by
  obtain ⟨xs, h1, h2⟩ := h
  refine ⟨xs, h1, fun r hr => ?_⟩
  obtain ⟨x, hx, hv, ho⟩ := h2 r hr
  exact ⟨x, hx, by rw [← e r hr]; exact hv, ho⟩
theorem BldL.low {base lo lo2 : Nat} {w : World} {v : Value} {k : Nat} {L : Nat → Nat} {Z : Nat → Nat → Nat} (h : BldL base lo w v k L Z) (hl : lo2 ≤ lo) : BldL base lo2 w v k L Z := by
  obtain ⟨xs, h1, h2⟩ := h
  refine ⟨xs, h1, fun r hr => ?_⟩
  obtain ⟨x, hx, hv, ho⟩ := h2 r hr
  exact ⟨x, hx, hv, fun b hb => ⟨(ho b hb).1, (ho b hb).2.1, (ho b hb).2.2.low hl⟩⟩
theorem ownsRow_low {w : World} {base base2 : Nat} {e : TypeId} {v : Value} {n : Nat} {xs : List Value} (h : w.ownsRow base e 1 v n xs) (hb : base2 ≤ base) : w.ownsRow base2 e 1 v n xs := by
  refine ⟨h.1, ?_⟩
  rcases h.2 with hn | ⟨g, cap, cur, rfl, hb2, rest⟩
  · exact Or.inl hn
  · exact Or.inr ⟨g, cap, cur, rfl, Nat.le_trans hb hb2, rest⟩
theorem BldL.base {base base2 lo : Nat} {w : World} {v : Value} {k : Nat} {L : Nat → Nat} {Z : Nat → Nat → Nat} (h : BldL base lo w v k L Z) (hb : base2 ≤ base) : BldL base2 lo w v k L Z := by
  obtain ⟨xs, h1, h2⟩ := h
  exact ⟨xs, ownsRow_low h1 hb, h2⟩
theorem Bld.base {base base2 : Nat} {w : World} {v : Value} {k : Nat} {L : Nat → Nat} {Z : Nat → Nat → Nat} (h : Bld base w v k L Z) (hb : base2 ≤ base) : Bld base2 w v k L Z := BldL.low (BldL.base h hb) hb
theorem BldL.block {base lo : Nat} {w : World} {v : Value} {k : Nat} {L : Nat → Nat} {Z : Nat → Nat → Nat} (h : BldL base lo w v k L Z) {q : Nat} (hq : v.ownBlock = some q) : base ≤ q ∧ q < w.heap.size := by
  obtain ⟨xs, h1, _⟩ := h
  exact World.ownsRow.lt h1 q hq
/-- What is appended: rows' values where they lie. -/
def Src (w : World) (v : Value) (lo b o m : Nat) (G : Nat → Value) (M : Nat → Nat) (Y : Nat → Nat → Nat) : Prop :=
  ∀ r, r < m → w.cell? ⟨b, o + r, none⟩ = some (G r) ∧ (G r).oneCell' = true ∧ RowV w (G r) (M r) (Y r) ∧ ∀ q, (G r).ownBlock = some q → q < w.heap.size ∧ v.ownBlock ≠ some q ∧ Far lo w q
def Joins (v u : Value) (base lo : Nat) (w : World) (k : Nat) (L : Nat → Nat) (X : Nat → Nat → Nat) (v' : Value) (w' : World) : Prop :=
  (Builtin.append_ #[ /-t-/22, /-t-/22] /-t-/22 #[v, u]).run Try.prog w = .ok v' w' ∧ BldL base lo w' v' k L X ∧ w.grownBy w' v.ownBlock
theorem src_join {base lo : Nat} {w : World} {v : Value} {k m b o C : Nat} {L M : Nat → Nat} {X Y : Nat → Nat → Nat} {G : Nat → Value} (h : BldL base lo w v k L X) (hb : base ≤ w.heap.size) (hk : k + m ≤ 65536) (hG : Src w v lo b o m G M Y) :
    ∃ v' w', Joins v (.slice (some ⟨b, o, none⟩) m C) base lo w (k + m) (jn k L M) (jz k X Y) v' w' := by
  obtain ⟨xs, ho, hr⟩ := h
  have hlen : xs.length = k := by have := ho.1; omega
  obtain ⟨i0, hi, hz0, hz1, hz2⟩ := info_parts Try.info33
  obtain ⟨v', w', hrun, h2, h3, _, h5⟩ := run_append_own_at (P := Try.prog) w base /-t-/22 /-t-/22 /-t-/33 i0 (.slice none 0 0) 1 24 Try.underlying22 hi hz0 hz1 hz2 rfl (by decide) v k xs ho ⟨b, o, none⟩ m C (valsL m G) (by unfold valsL; simp)
    (fun j u hu => by
      by_cases q : j < m
      · rw [valsL_get q] at hu
        injection hu with hu
        rw [add_pl, ← hu]
        exact (hG j q).1
      · unfold valsL at hu
        rw [List.getElem?_eq_none (by simp; omega)] at hu
        cases hu)
    (fun u hu => by unfold valsL at hu; obtain ⟨c, hc, rfl⟩ := List.mem_map.1 hu; exact (hG c (List.mem_range.1 hc)).2.1) (by unfold maxLen; omega) (by omega) hb
  refine ⟨v', w', hrun, ⟨_, h2, fun r hrk => ?_⟩, h3⟩
  have keep : ∀ x l z, RowV w x l z → (∀ q, x.ownBlock = some q → q < w.heap.size ∧ v.ownBlock ≠ some q ∧ Far lo w q) → RowV w' x l z ∧ ∀ q, x.ownBlock = some q → q < w'.heap.size ∧ v'.ownBlock ≠ some q ∧ Far lo w' q := fun x l z hx hq => by
    refine ⟨hx.grown h3 (fun q e => (hq q e).2.1), fun q e => ⟨Nat.lt_of_lt_of_le (hq q e).1 h3.size, fun e2 => ?_, (hq q e).2.2.of_block (h3.block q (hq q e).1 (fun e2 => (hq q e).2.1 e2.symm))⟩⟩
    rcases h5 with h5 | h5
    · exact (hq q e).2.1 (by rw [← h5]; exact e2)
    · rw [h5] at e2
      injection e2 with e2
      have := (hq q e).1
      omega
  by_cases q : r < k
  · obtain ⟨x, hx, hv, hoo⟩ := hr r q
    have := keep x _ _ hv hoo
    refine ⟨x, by rw [List.getElem?_append_left (by omega)]; exact hx, ?_, this.2⟩
    have e1 : jn k L M r = L r := if_pos q
    have e2 : jz k X Y r = X r := by funext c; exact if_pos q
    rw [e1, e2]; exact this.1
  · have := keep (G (r - k)) _ _ (hG (r - k) (by omega)).2.2.1 (hG (r - k) (by omega)).2.2.2
    refine ⟨G (r - k), by rw [List.getElem?_append_right (by omega), hlen]; exact valsL_get (by omega), ?_, this.2⟩
    have e1 : jn k L M r = M (r - k) := if_neg q
    have e2 : jz k X Y r = Y (r - k) := by funext c; exact if_neg q
    rw [e1, e2]; exact this.1
theorem app_none (w : World) (A : Option Addr) (n C c : Nat) (hA : A = none → n = 0 ∧ C = 0) (hn : n ≤ C) : (Builtin.append_ #[ /-t-/22, /-t-/22] /-t-/22 #[.slice A n C, .slice none 0 c]).run Try.prog w = .ok (.slice A n C) w := by
  obtain ⟨i0, hi, hz0, hz1, hz2⟩ := info_parts Try.info33
  cases A with
  | none =>
    obtain ⟨rfl, rfl⟩ := hA rfl
    simp [Builtin.append_, run_underlying Try.underlying22, sizeOf, typeInfo, hi, Builtin.lenOf, Builtin.firstCells]
  | some a =>
    simp [Builtin.append_, run_underlying Try.underlying22, sizeOf, typeInfo, hi, Builtin.lenOf, Builtin.firstCells, storeCells, hn]
theorem BldL.src {base lo : Nat} {w : World} {u : Value} {k lo2 : Nat} {L : Nat → Nat} {Z : Nat → Nat → Nat} {g C : Nat} (h : BldL base lo w (.slice (some ⟨g, 0, none⟩) k C) k L Z) (hlo : lo2 ≤ lo) (hv : ∀ q, u.ownBlock = some q → q < lo) : ∃ G, Src w u lo2 g 0 k G L Z := by
  obtain ⟨xs, h1, h2⟩ := h
  have hlen : xs.length = k := by have := h1.1; omega
  refine ⟨fun r => xs.getD r (.bool false), fun r hr => ?_⟩
  obtain ⟨x, hx, hrv, ho⟩ := h2 r hr
  have e : xs.getD r (.bool false) = x := by rw [List.getD, hx]; rfl
  show w.cell? ⟨g, 0 + r, none⟩ = some (xs.getD r (.bool false)) ∧ (xs.getD r (.bool false)).oneCell' = true ∧ RowV w (xs.getD r (.bool false)) (L r) (Z r) ∧ ∀ q, (xs.getD r (.bool false)).ownBlock = some q → q < w.heap.size ∧ u.ownBlock ≠ some q ∧ Far lo2 w q
  rw [e]
  have hc := World.ownsRow.cells h1 (g := g) rfl r x hx
  rw [add_pl] at hc
  refine ⟨hc, ?_, hrv, fun q hq => ⟨(ho q hq).1, fun e2 => ?_, (ho q hq).2.2.low hlo⟩⟩
  · obtain ⟨A, C, rfl, _⟩ := hrv; rfl
  · have := hv q e2
    have := (ho q hq).2.2.1
    omega
/-- Two that were built, the second behind the first, joined. -/
theorem bld_join {base lo base2 lo2 : Nat} {w : World} {v u : Value} {k m : Nat} {L M : Nat → Nat} {X Y : Nat → Nat → Nat} (h : BldL base lo w v k L X) (h2 : BldL base2 lo2 w u m M Y) (hb : base ≤ w.heap.size) (hk : k + m ≤ 65536) (hs : ∀ q, v.ownBlock = some q → q < lo2) (hlo : lo ≤ lo2) :
    ∃ v' w', Joins v u base lo w (k + m) (jn k L M) (jz k X Y) v' w' := by
  obtain ⟨ys, hy, hyr⟩ := id h2
  rcases hy.2 with ⟨rfl, h0⟩ | ⟨g, cap, cur, rfl, _⟩
  · subst h0
    obtain ⟨xs, ho, hr⟩ := h
    have hB : BldL base lo w v (k + 0) (jn k L M) (jz k X Y) := ⟨xs, ho, fun r hrk => by
      obtain ⟨x, hx, hv, hoo⟩ := hr r hrk
      have e1 : jn k L M r = L r := if_pos hrk
      have e2 : jz k X Y r = X r := by funext c; exact if_pos hrk
      exact ⟨x, hx, by rw [e1, e2]; exact hv, hoo⟩⟩
    refine ⟨v, w, ?_, hB, ⟨rfl, rfl, rfl, Nat.le_refl _, fun _ _ _ => rfl⟩⟩
    rcases ho.2 with ⟨rfl, h0⟩ | ⟨g, cap, cur, rfl, _, _, hc, _⟩
    · exact app_none w none 0 0 0 (fun _ => ⟨rfl, rfl⟩) (Nat.le_refl _)
    · exact app_none w _ k cap 0 (fun e => by cases e) hc
  · obtain ⟨G, hG⟩ := h2.src (u := v) hlo hs
    exact src_join h hb hk hG
/-- A matrix whose rows have some, as a source. -/
theorem mat_src {w : World} {b o n C : Nat} {L : Nat → Nat} {Z : Nat → Nat → Nat} (h : MatV w (.slice (some ⟨b, o, none⟩) n C) n L Z) (hL : ∀ r, r < n → 0 < L r) : ∃ G, Src w (.slice none 0 0) 0 b o n G L Z := by
  obtain ⟨F, hF⟩ := mat_vals h hL
  exact ⟨F, fun r hr => ⟨(hF r hr).1, (hF r hr).2.2.1, (hF r hr).2.1, fun q hq => ⟨(hF r hr).2.2.2 q hq, (fun e => by cases e), Far.zero _ _⟩⟩⟩
/-- What was picked is a matrix. -/
theorem owns_mat {base : Nat} {w : World} {v : Value} {l : List Nat} {F : Nat → Value} {L : Nat → Nat} {Z : Nat → Nat → Nat} (h : w.ownsRow base /-t-/33 1 v l.length (l.map F)) (hl : l.length ≤ 140737488351232) (hF : ∀ r, r ∈ l → RowV w (F r) (L r) (Z r)) : MatV w v l.length (fun i => L (l.getD i 0)) (fun i => Z (l.getD i 0)) := by
  rcases h.2 with ⟨rfl, h0⟩ | ⟨g, cap, cur, rfl, hb, hgg, hcap, hm, hs, ht⟩
  · rw [h0]; exact nil_mat _ _ _
  · refine ⟨_, _, rfl, ⟨hl, hcap⟩, fun _ => ⟨g, 0, rfl, fun r hr => ⟨F (l.getD r 0), ?_, hF _ ?_⟩⟩⟩
    · have := World.ownsRow.cells h (g := g) rfl r (F (l.getD r 0)) (by rw [List.getElem?_map, List.getElem?_eq_getElem hr, List.getD, List.getElem?_eq_getElem hr]; rfl)
      rwa [add_pl] at this
    · rw [List.getD, List.getElem?_eq_getElem hr]; exact List.getElem_mem _
#print axioms bld_join
end Go.Proofs.Ytlgdajmidcdiaaa
