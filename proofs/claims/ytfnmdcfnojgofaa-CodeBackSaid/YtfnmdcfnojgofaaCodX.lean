/-
  What is put, and got back: calls in a row of one's own; numbers and bytes at the front of what there is.
-/
import Derived.Test.YtfnmdcfnojgofaaCodL4
namespace Go.Proofs.Ytfnmdcfnojgofaa
open Go.RowKit Go.Shelf Cod
set_option linter.unusedVariables false

theorem litZ_left {P R : List Nat} {i : Nat} (h : i < P.length) : litZ (P ++ R) i = litZ P i := by rw [← litZ_app]; unfold jnZ; rw [if_pos h]
theorem litZ_right (P R : List Nat) (i : Nat) : litZ (P ++ R) (P.length + i) = litZ R i := by rw [← litZ_app]; unfold jnZ; rw [if_neg (by omega), Nat.add_sub_cancel_left]
theorem in_right {w : World} {B K : Nat} {x : Value} {P R : List Nat} (hK : K = P.length) (h : InIs w B x ((P ++ R).length - K) (fun i => litZ (P ++ R) (K + i))) : InIs w B x R.length (litZ R) := by
  subst hK
  exact h.congr (by simp) (fun i _ => litZ_right P R i)
theorem rd_front {n : Nat} (h : n < 18446744073709551616) (R : List Nat) : Rd (digs n ++ R).length (litZ (digs n ++ R)) (digs n).length 0 ∧ val (litZ (digs n ++ R)) (digs n).length = n := rd_digs h (fun i hi => litZ_left hi) (by simp)
theorem inum_back (B n : Nat) (x : Value) (R : List Nat) (w : World) (hn : n ≤ 9223372036854775807) (h : InIs w B x (digs n ++ R).length (litZ (digs n ++ R))) :
    Calls Try.prog 17 #[.pointer (some ⟨B, 0, none⟩)] w fun e w' => e = .returned (.tuple #[.int .i64 (n : Int), .int .i64 0]) ∧ ∃ x', InIs w' B x' R.length (litZ R) ∧ Ch (fun i => i = B) w w' := by
  obtain ⟨h1, h2⟩ := rd_front (n := n) (by omega) R
  obtain ⟨h3, h4, h5⟩ := res_ok (top := T63) (k := (digs n).length) (z := litZ (digs n ++ R)) rfl (by rw [h2]; unfold T63; exact hn)
  refine (inum_any B _ x _ _ 0 w h h1).mono ?_
  rintro e w' ⟨rfl, x', h6, _, h7⟩
  rw [h3, h2, h5]
  exact ⟨rfl, x', in_right h4 h6, h7⟩
theorem iint_back (B : Nat) (n : Int) (x : Value) (R : List Nat) (w : World) (hn : -9223372036854775808 ≤ n ∧ n ≤ 9223372036854775807) (h : InIs w B x (digs (turnZ n) ++ R).length (litZ (digs (turnZ n) ++ R))) :
    Calls Try.prog 19 #[.pointer (some ⟨B, 0, none⟩)] w fun e w' => e = .returned (.tuple #[.int .i64 n, .int .i64 0]) ∧ ∃ x', InIs w' B x' R.length (litZ R) ∧ Ch (fun i => i = B) w w' := by
  obtain ⟨h1, h2⟩ := rd_front (turn_lt hn) R
  obtain ⟨h3, h4, h5⟩ := res_ok (top := T64) (k := (digs (turnZ n)).length) (z := litZ (digs (turnZ n) ++ R)) rfl (by rw [h2]; unfold T64; have := turn_lt hn; omega)
  refine (iint_any B _ x _ _ 0 w h h1).mono ?_
  rintro e w' ⟨rfl, x', h6, _, h7⟩
  rw [h3, h2, h5, back_turn]
  exact ⟨rfl, x', in_right h4 h6, h7⟩
theorem ibytes_back (B l : Nat) (z : Nat → Nat) (x : Value) (R : List Nat) (w : World) (hl : l ≤ 4096) (hR : (byL l z ++ R).length ≤ 1048576) (h : InIs w B x (byL l z ++ R).length (litZ (byL l z ++ R))) :
    Calls Try.prog 21 #[.pointer (some ⟨B, 0, none⟩)] w fun e w' => ∃ y, e = .returned (.tuple #[y, .int .i64 0]) ∧ RowV w' y l z ∧ ∃ x', InIs w' B x' R.length (litZ R) ∧ Ch (fun i => i = B) w w' := by
  have ea : byL l z ++ R = digs l ++ (rowL l z ++ R) := by unfold byL; rw [List.append_assoc]
  rw [ea] at h hR
  obtain ⟨h1, h2⟩ := rd_front (n := l) (by omega) (rowL l z ++ R)
  obtain ⟨h3, h4, h5⟩ := res_ok (top := T63) (k := (digs l).length) (z := litZ (digs l ++ (rowL l z ++ R))) rfl (by rw [h2]; unfold T63; omega)
  rw [h2] at h3
  have hE := bE_fine (n := (digs l ++ (rowL l z ++ R)).length) h5 (by rw [h3]; exact hl) (by rw [h3, h4]; simp [rowL_len])
  obtain ⟨h6, h7, _⟩ := b_ok hE
  rw [h3] at h6
  rw [h3, h4] at h7
  refine (ibytes_any B _ x _ _ 0 w h h1 hR).mono ?_
  rintro e w' ⟨y, rfl, hy, _, x', h8, _, h9⟩
  rw [hE]
  refine ⟨y, rfl, ?_, x', ?_, h9⟩
  · rw [h6] at hy
    refine hy.congr fun c hc => ?_
    rw [h4, litZ_right, litZ_left (by rw [rowL_len]; exact hc)]
    exact litZ_range l z hc
  · rw [h7, ← ea] at h8
    exact in_right (by unfold byL; rw [List.length_append, rowL_len]) h8
#print axioms ibytes_back

/-! ### calls in a row of one's own -/
def flatL (D : List PutD) : List Nat := D.flatMap putL
theorem flatL_snoc (D : List PutD) (p : PutD) : flatL (D ++ [p]) = flatL D ++ putL p := by simp [flatL]
def cellsD (D : List PutD) : List Value := D.flatMap fun p => [.int .i64 p.kd, .int .i64 p.nn, p.V]
theorem cellsD_cons (p : PutD) (D : List PutD) : cellsD (p :: D) = .int .i64 p.kd :: .int .i64 p.nn :: p.V :: cellsD D := by simp [cellsD]
theorem cellsD_snoc (D : List PutD) (p : PutD) : cellsD (D ++ [p]) = cellsD D ++ [.int .i64 p.kd, .int .i64 p.nn, p.V] := by simp [cellsD]
theorem cellsD_get : ∀ {D : List PutD} {i : Nat} {p : PutD}, D[i]? = some p → (cellsD D)[i * 3]? = some (.int .i64 p.kd) ∧ (cellsD D)[i * 3 + 1]? = some (.int .i64 p.nn) ∧ (cellsD D)[i * 3 + 2]? = some p.V
  | [], i, p, h => by simp at h
  | q :: D, 0, p, h => by
    simp only [List.getElem?_cons_zero, Option.some.injEq] at h
    subst h
    rw [cellsD_cons]
    exact ⟨rfl, rfl, rfl⟩
  | q :: D, i + 1, p, h => by
    rw [List.getElem?_cons_succ] at h
    rw [cellsD_cons, show (i + 1) * 3 = i * 3 + 1 + 1 + 1 by omega]
    simpa only [List.getElem?_cons_succ] using cellsD_get h
theorem flatL_split {D : List PutD} {i : Nat} {p : PutD} (h : D[i]? = some p) : flatL (D.drop i) = putL p ++ flatL (D.drop (i + 1)) := by
  obtain ⟨hi, rfl⟩ := List.getElem?_eq_some_iff.1 h
  rw [List.drop_eq_getElem_cons hi]
  rfl
structure Good (w : World) (p : PutD) : Prop where
  row : RowV w p.V p.l p.z
  nn : -9223372036854775808 ≤ p.nn ∧ p.nn ≤ 9223372036854775807
  ok : putE p = 0
theorem Good.gr {w w' : World} {p : PutD} (h : Good w p) (k : Ch (fun _ => False) w w') : Good w' p := ⟨h.row.gr k, h.nn, h.ok⟩
theorem flatL_len {w : World} : ∀ {D : List PutD}, (∀ p ∈ D, Good w p) → (flatL D).length ≤ 4106 * D.length
  | [], _ => Nat.le_refl _
  | p :: D, h => by
    have h1 := putL_len p (h p (List.mem_cons_self ..)).nn
    have h2 := flatL_len (D := D) fun q hq => h q (List.mem_cons_of_mem _ hq)
    have e : flatL (p :: D) = putL p ++ flatL D := rfl
    rw [e, List.length_append, List.length_cons]
    omega
theorem ownsRow_offS {w w' : World} {base n s : Nat} {e : TypeId} {v : Value} {xs : List Value} {S : Nat → Prop} (h : w.ownsRow base e s v n xs) (k : Ch S w w') (hS : ∀ i, v.ownBlock = some i → ¬ S i) : w'.ownsRow base e s v n xs := by
  refine ⟨h.1, ?_⟩
  rcases h.2 with hn | ⟨g, cap, cur, rfl, hb, hgg, rest⟩
  · exact Or.inl hn
  · exact Or.inr ⟨g, cap, cur, rfl, hb, (k.block g (Array.getElem?_eq_some_iff.1 hgg).1 (hS g rfl)).trans hgg, rest⟩
structure BackSt (w W : World) (Bo : Nat) (v vd : Value) (L : List Nat) (D : List PutD) : Prop where
  out : OutIs w.heap.size W Bo v L
  done : W.ownsRow w.heap.size 32 3 vd D.length (cellsD D)
  ne : ∀ i, vd.ownBlock = some i → ¬ Foot Bo v i
  ch : Ch (fun _ => False) w W
  good : ∀ p ∈ D, Good w p
theorem BackSt.gr {w W W' : World} {Bo : Nat} {v vd : Value} {L : List Nat} {D : List PutD} (h : BackSt w W Bo v vd L D) (k : Ch (fun _ => False) W W') : BackSt w W' Bo v vd L D := ⟨h.out.ch k (fun _ _ f => f), ownsRow_offS h.done k (fun _ _ f => f), h.ne, h.ch.trans k, h.good⟩
theorem BackSt.put {w W W' : World} {Bo : Nat} {v vd r : Value} {L L' : List Nat} {D : List PutD} {e : Ending} (h : BackSt w W Bo v vd L D) (hp : PutPost w.heap.size Bo v L' r W e W') : e = .returned r ∧ ∃ v', BackSt w W' Bo v' vd L' D := by
  obtain ⟨h1, v', h2, h3, h4⟩ := hp
  refine ⟨h1, v', h2, ownsRow_offS h.done h4 h.ne, fun i e hf => ?_, h.ch.new (h4.mono fun i _ hi => h.out.foot hi), h.good⟩
  rcases hf with rfl | hf
  · exact h.ne _ e (Or.inl rfl)
  · rcases h3 with q | q
    · exact h.ne _ e (Or.inr (q ▸ hf))
    · have := (World.ownsRow.lt h.done i e).2
      have := q i hf
      omega
theorem info_put : (Try.prog.info? 32).map (fun i => (i.zero, i.size, i.bytes)) = some (some (.agg #[.int .i64 0, .int .i64 0, .slice none 0 0]), 3, 40) := by kernel_rfl
theorem BackSt.app {w W : World} {Bo : Nat} {v vd : Value} {L : List Nat} {D : List PutD} {p : PutD} (h : BackSt w W Bo v vd L D) (hg : Good w p) (hD : D.length ≤ 1000) :
    ∃ vd' W', (Builtin.append_ #[ 22, 22] 22 #[vd, .slice (some ⟨W.heap.size, 0, none⟩) 1 1]).run Try.prog (W.alloc (.cells #[.int .i64 p.kd, .int .i64 p.nn, p.V] 32)) = .ok vd' W' ∧ BackSt w W' Bo v vd' L (D ++ [p]) := by
  obtain ⟨j0, gi, gz0, gz1, gz2⟩ := info_parts info_put
  have h1 := h.gr ((Ch.refl (fun _ => False) W).alloc #[.int .i64 p.kd, .int .i64 p.nn, p.V] 32)
  have hnew : ∀ j u, [Value.int .i64 p.kd, .int .i64 p.nn, p.V][j]? = some u → (W.alloc (.cells #[.int .i64 p.kd, .int .i64 p.nn, p.V] 32)).cell? ((⟨W.heap.size, 0, none⟩ : Addr).add j) = some u := fun j u hu => by
    rw [add_pl, cell_of_row _ _ _ _ _ (0, 0) (heap_alloc_new W _), Nat.zero_add, ← hu]
    simp
  have hone : ∀ u ∈ [Value.int .i64 p.kd, .int .i64 p.nn, p.V], u.oneCell' = true := fun u hu => by
    obtain ⟨A, C, hV, _⟩ := hg.row
    simp only [List.mem_cons, List.not_mem_nil, or_false] at hu
    rcases hu with rfl | rfl | rfl
    · rfl
    · rfl
    · rw [hV]; rfl
  obtain ⟨v', w', hr, h2, h3, _, h5⟩ := run_append_own_at (P := Try.prog) _ w.heap.size 22 22 32 j0 _ 3 40 Try.underlying22 gi gz0 gz1 gz2 rfl (by decide) vd D.length (cellsD D) h1.done ⟨W.heap.size, 0, none⟩ 1 1 _ rfl hnew hone (by unfold maxLen; omega) (by omega) h1.ch.size
  rw [← cellsD_snoc] at h2
  have e : (D ++ [p]).length = D.length + 1 := by simp
  rw [← e] at h2
  refine ⟨v', w', hr, h1.out.ch ((Ch.refl (fun i => vd.ownBlock = some i) _).grown h3 (fun i e => Or.inl e)) (fun i hf e => h1.ne i e hf), h2, fun i e hf => ?_, h1.ch.grown h3 (fun i e => Or.inr (World.ownsRow.lt h1.done i e).1), fun q hq => ?_⟩
  · rcases h5 with q | q
    · exact h1.ne i (q ▸ e) hf
    · rw [q] at e
      injection e with e
      exact h1.out.fresh (Nat.le_of_eq e) hf
  · rcases List.mem_append.1 hq with hq | hq
    · exact h.good q hq
    · rw [List.mem_singleton.1 hq]; exact hg
def dP : PutD := ⟨0, 0, .slice none 0 0, 0, fun _ => 0⟩
theorem BackSt.row {w W : World} {Bo : Nat} {v vd : Value} {L : List Nat} {D : List PutD} (h : BackSt w W Bo v vd L D) (hD : D.length ≤ 1000) : RowP W vd D.length (fun c => D.getD c dP) := by
  rcases h.done.2 with ⟨rfl, h0⟩ | ⟨g, cap, cur, rfl, hb, hgg, hcap, hm, hs, ht⟩
  · exact ⟨none, 0, by rw [h0], ⟨by omega, by omega⟩, fun h => absurd h (by omega)⟩
  · refine ⟨_, _, rfl, ⟨by omega, hcap⟩, fun _ => ⟨g, 0, rfl, fun c hc => ?_⟩⟩
    have hd : D[c]? = some (D.getD c dP) := by simp [List.getD, hc]
    obtain ⟨g0, g1, g2⟩ := cellsD_get hd
    have hg := (h.good _ (List.mem_of_getElem? hd)).gr h.ch
    have k0 := World.ownsRow.cells h.done (g := g) rfl _ _ g0
    have k1 := World.ownsRow.cells h.done (g := g) rfl _ _ g1
    have k2 := World.ownsRow.cells h.done (g := g) rfl _ _ g2
    rw [add_pl] at k0 k1 k2
    rw [← Nat.add_assoc] at k1 k2
    exact ⟨k0, k1, k2, hg.row, hg.nn⟩
theorem wpList_appP_of {ops : Array Oper} {rest : List Oper} {o : Oper} {a : Act} {Q : Exit → Act → World → Prop} (w : World) (hgd : o.guard = none) (s x : Operand)
    (ho : o.op = .call { callee := .builtin .append, args := #[s, x], argTypes := #[ 22, 22] }) (hty : o.type = 22) (sv xv v' : Value) (w' : World) (hs : a.eval s = sv) (hx : a.eval x = xv)
    (hrun : (Builtin.append_ #[ 22, 22] 22 #[sv, xv]).run Try.prog w = .ok v' w') (h : wpList Try.prog ops Q rest (a.put o.dst v') w') : wpList Try.prog ops Q (o :: rest) a w := by
  refine wpList_plain hgd fun _ hK => ?_
  unfold Oper.wp execOp
  simp only [ho, hty, resolve, invoke, builtin, Sem.run_bind, Sem.run_pure, Result.andThen_ok, List.map_toArray, List.map_cons, List.map_nil, hs, hx, hrun]
  exact hK _ _ h
/-- Between two gets. -/
structure InSt (w W : World) (B : Nat) (x : Value) (R : List Nat) : Prop where
  inn : InIs W B x R.length (litZ R)
  ch : Ch (fun _ => False) w W
  low : w.heap.size ≤ B
#print axioms BackSt.row
end Go.Proofs.Ytfnmdcfnojgofaa
