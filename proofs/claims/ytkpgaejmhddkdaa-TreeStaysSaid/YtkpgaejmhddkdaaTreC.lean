/-
  A node, plainly: what stands ahead of a child, in it and behind it; what Put, Del, Get and From make of a list that is parted so.
-/
import Derived.Test.YtkpgaejmhddkdaaTreA
namespace Go.Proofs.Ytkpgaejmhddkdaa
open Go.RowKit
set_option linter.unusedVariables false
set_option maxRecDepth 100000

/-- The pairs of a node with what its children have between them. -/
def flat : List Kv → List (List Kv) → List Kv
  | [], Ls => Ls.headD []
  | p :: ps, Ls => Ls.headD [] ++ p :: flat ps Ls.tail
/-- What stands ahead: each child and the pair behind it. -/
def fr : List Kv → List (List Kv) → List Kv
  | [], _ => []
  | p :: ps, Ls => Ls.headD [] ++ p :: fr ps Ls.tail
/-- What stands behind: each pair and the child behind it. -/
def bk : List Kv → List (List Kv) → List Kv
  | [], _ => []
  | p :: ps, Ls => p :: (Ls.headD [] ++ bk ps Ls.tail)
theorem flat_app : ∀ {a b : List Kv} {A B : List (List Kv)}, A.length = a.length → flat (a ++ b) (A ++ B) = fr a A ++ flat b B
  | [], b, [], B, _ => rfl
  | p :: a, b, l :: A, B, h => by
    have h' : A.length = a.length := by simpa using h
    show l ++ p :: flat (a ++ b) (A ++ B) = (l ++ p :: fr a A) ++ flat b B
    rw [flat_app h', List.append_assoc, List.cons_append]
  | [], b, l :: A, B, h => by simp at h
  | p :: a, b, [], B, h => by simp at h
theorem flat_cons : ∀ (b : List Kv) (l : List Kv) (B : List (List Kv)), flat b (l :: B) = l ++ bk b B
  | [], l, B => by simp [flat, bk]
  | p :: b, l, B => by
    show l ++ p :: flat b B = l ++ p :: (B.headD [] ++ bk b B.tail)
    cases B with
    | nil =>
      congr 2
      have : ∀ b : List Kv, flat b [] = bk b [] := fun b => by
        induction b with
        | nil => rfl
        | cons p b ih => show [] ++ p :: flat b [] = p :: ([] ++ bk b []); rw [ih]; rfl
      rw [this]; rfl
    | cons m B => rw [flat_cons b m B]; rfl
theorem flat_at {a b : List Kv} {A B : List (List Kv)} (l : List Kv) (h : A.length = a.length) : flat (a ++ b) (A ++ l :: B) = fr a A ++ (l ++ bk b B) := by
  rw [flat_app h, flat_cons]
theorem fr_app : ∀ {a b : List Kv} {A B : List (List Kv)}, A.length = a.length → fr (a ++ b) (A ++ B) = fr a A ++ fr b B
  | [], b, [], B, _ => rfl
  | p :: a, b, l :: A, B, h => by
    have h' : A.length = a.length := by simpa using h
    show l ++ p :: fr (a ++ b) (A ++ B) = (l ++ p :: fr a A) ++ fr b B
    rw [fr_app h', List.append_assoc, List.cons_append]
  | [], b, l :: A, B, h => by simp at h
  | p :: a, b, [], B, h => by simp at h
theorem bk_app : ∀ {a b : List Kv} {A B : List (List Kv)}, A.length = a.length → bk (a ++ b) (A ++ B) = bk a A ++ bk b B
  | [], b, [], B, _ => rfl
  | p :: a, b, l :: A, B, h => by
    have h' : A.length = a.length := by simpa using h
    show p :: (l ++ bk (a ++ b) (A ++ B)) = p :: (l ++ bk a A) ++ bk b B
    rw [bk_app h', List.cons_append, List.append_assoc]
  | [], b, l :: A, B, h => by simp at h
  | p :: a, b, [], B, h => by simp at h
/-- Children that have nothing. -/
theorem flat_leaf : ∀ (ps : List Kv) (Ls : List (List Kv)), (∀ l ∈ Ls, l = []) → flat ps Ls = ps
  | [], Ls, h => by
    cases Ls with
    | nil => rfl
    | cons l Ls => exact h l (List.mem_cons_self ..)
  | p :: ps, Ls, h => by
    cases Ls with
    | nil => show [] ++ p :: flat ps [] = _; rw [flat_leaf ps [] (by simp)]; rfl
    | cons l Ls =>
      show l ++ p :: flat ps Ls = _
      rw [h l (List.mem_cons_self ..), flat_leaf ps Ls (fun m hm => h m (List.mem_cons_of_mem _ hm))]
      rfl
theorem flat_len : ∀ (ps : List Kv) (Ls : List (List Kv)), Ls.length = ps.length + 1 → (flat ps Ls).length + 1 = (Ls.map (fun l => l.length + 1)).sum
  | [], [l], _ => by simp [flat]
  | p :: ps, l :: Ls, h => by
    have h' : Ls.length = ps.length + 1 := by simpa using h
    show (l ++ p :: flat ps Ls).length + 1 = l.length + 1 + (Ls.map (fun l => l.length + 1)).sum
    rw [← flat_len ps Ls h', List.length_append, List.length_cons]
    omega
  | [], [], h => by simp at h
  | [], _ :: _ :: _, h => by simp at h
  | _ :: _, [], h => by simp at h
theorem sum_low (c : Nat) : ∀ (Ls : List (List Kv)), (∀ l ∈ Ls, c ≤ l.length + 1) → Ls.length * c ≤ (Ls.map (fun l => l.length + 1)).sum
  | [], _ => by simp
  | l :: Ls, h => by
    have h1 := h l (List.mem_cons_self ..)
    have h2 := sum_low c Ls (fun m hm => h m (List.mem_cons_of_mem _ hm))
    rw [List.length_cons, Nat.succ_mul, List.map_cons, List.sum_cons]
    omega
theorem flat_low {c : Nat} {ps : List Kv} {Ls : List (List Kv)} (h : Ls.length = ps.length + 1) (hc : ∀ l ∈ Ls, c ≤ l.length + 1) : (ps.length + 1) * c ≤ (flat ps Ls).length + 1 := by
  rw [flat_len ps Ls h, ← h]
  exact sum_low c Ls hc
/-- The pairs themselves are among all. -/
theorem mem_flat : ∀ {ps : List Kv} {Ls : List (List Kv)} {x : Kv}, x ∈ ps → x ∈ flat ps Ls
  | p :: ps, Ls, x, h => by
    show x ∈ Ls.headD [] ++ p :: flat ps Ls.tail
    rcases List.mem_cons.1 h with rfl | h
    · exact List.mem_append_right _ (List.mem_cons_self ..)
    · exact List.mem_append_right _ (List.mem_cons_of_mem _ (mem_flat h))
theorem rise_pairs : ∀ {ps : List Kv} {Ls : List (List Kv)}, Rise (flat ps Ls) → Rise ps
  | [], _, _ => rise_nil
  | p :: ps, Ls, h => by
    have h2 := rise_cons.1 (rise_app.1 (show Rise (Ls.headD [] ++ p :: flat ps Ls.tail) from h)).2.1
    exact rise_cons.2 ⟨fun y hy => h2.1 y (mem_flat hy), rise_pairs h2.2⟩
theorem fr_below {k : ByteArray} : ∀ {a : List Kv} {A : List (List Kv)}, Rise (fr a A) → (∀ p ∈ a, kLt p.1 k = true) → ∀ x ∈ fr a A, kLt x.1 k = true
  | [], _, _, _, x, hx => by cases hx
  | p :: a, A, h, hk, x, hx => by
    obtain ⟨h1, h2, h3⟩ := rise_app.1 (show Rise (A.headD [] ++ p :: fr a A.tail) from h)
    have hp := hk p (List.mem_cons_self ..)
    rcases List.mem_append.1 (show x ∈ A.headD [] ++ p :: fr a A.tail from hx) with q | q
    · exact kLt_trans (h3 x q p (List.mem_cons_self ..)) hp
    · rcases List.mem_cons.1 q with rfl | q
      · exact hp
      · exact fr_below (rise_cons.1 h2).2 (fun y hy => hk y (List.mem_cons_of_mem _ hy)) x q
theorem bk_above {k : ByteArray} : ∀ {b : List Kv} {B : List (List Kv)}, Rise (bk b B) → (∀ p ∈ b, kLt k p.1 = true) → ∀ x ∈ bk b B, kLt k x.1 = true
  | [], _, _, _, x, hx => by cases hx
  | p :: b, B, h, hk, x, hx => by
    obtain ⟨h1, h2⟩ := rise_cons.1 (show Rise (p :: (B.headD [] ++ bk b B.tail)) from h)
    have hp := hk p (List.mem_cons_self ..)
    rcases List.mem_cons.1 (show x ∈ p :: (B.headD [] ++ bk b B.tail) from hx) with rfl | q
    · exact hp
    · exact kLt_trans hp (h1 x q)

/-! ### parted lists -/
theorem delL_app (X Y : List Kv) (k : ByteArray) : delL (X ++ Y) k = delL X k ++ delL Y k := List.filter_append ..
theorem delL_off {X : List Kv} {k : ByteArray} (h : ∀ x ∈ X, kLt x.1 k = true ∨ kLt k x.1 = true) : delL X k = X := by
  refine List.filter_eq_self.2 fun x hx => ?_
  rcases h x hx with q | q
  · rw [kEq_no.2 (kLt_ne q)]; rfl
  · rw [kEq_no.2 (Ne.symm (kLt_ne q))]; rfl
theorem delL_mid {X l Y : List Kv} {k : ByteArray} (hX : ∀ x ∈ X, kLt x.1 k = true) (hY : ∀ x ∈ Y, kLt k x.1 = true) : delL (X ++ (l ++ Y)) k = X ++ (delL l k ++ Y) := by
  rw [delL_app, delL_app, delL_off fun x hx => Or.inl (hX x hx), delL_off fun x hx => Or.inr (hY x hx)]
theorem delL_here {X Y : List Kv} {p : Kv} {k : ByteArray} (hX : ∀ x ∈ X, kLt x.1 k = true) (hY : ∀ x ∈ Y, kLt k x.1 = true) (hp : p.1 = k) : delL (X ++ p :: Y) k = X ++ Y := by
  have := delL_mid (l := [p]) hX hY
  rw [show delL [p] k = [] by simp [delL, hp, kEq_self]] at this
  simpa using this
theorem fil_all {X : List Kv} {q : Kv → Bool} (h : ∀ x ∈ X, q x = true) : X.filter q = X := List.filter_eq_self.2 h
theorem fil_none {X : List Kv} {q : Kv → Bool} (h : ∀ x ∈ X, q x = false) : X.filter q = [] := List.filter_eq_nil_iff.2 fun x hx => by rw [h x hx]; exact Bool.false_ne_true
theorem putL_mid {X l Y : List Kv} {k : ByteArray} {v : Int} (hX : ∀ x ∈ X, kLt x.1 k = true) (hY : ∀ x ∈ Y, kLt k x.1 = true) : putL13 (X ++ (l ++ Y)) k v = X ++ (putL13 l k v ++ Y) := by
  unfold putL13
  simp only [List.filter_append]
  rw [fil_all (X := X) hX, fil_none (X := Y) (q := fun x => kLt x.1 k) (fun x hx => kLt_asymm (hY x hx)), fil_none (X := X) (q := fun x => kLt k x.1) (fun x hx => kLt_asymm (hX x hx)), fil_all (X := Y) (q := fun x => kLt k x.1) hY]
  simp
theorem putL_here {X Y : List Kv} {p : Kv} {k : ByteArray} {v : Int} (hX : ∀ x ∈ X, kLt x.1 k = true) (hY : ∀ x ∈ Y, kLt k x.1 = true) (hp : p.1 = k) : putL13 (X ++ p :: Y) k v = X ++ (k, v) :: Y := by
  have := putL_mid (l := [p]) (v := v) hX hY
  rw [show putL13 [p] k v = [(k, v)] by simp [putL13, hp, kLt_irrefl]] at this
  simpa using this
theorem putL_nil (k : ByteArray) (v : Int) : putL13 [] k v = [(k, v)] := rfl
theorem putL_gap {X Y : List Kv} {k : ByteArray} {v : Int} (hX : ∀ x ∈ X, kLt x.1 k = true) (hY : ∀ x ∈ Y, kLt k x.1 = true) : putL13 (X ++ Y) k v = X ++ (k, v) :: Y := by
  have := putL_mid (l := []) (v := v) hX hY
  simpa [putL_nil] using this
theorem getL_app_off {X Y : List Kv} {k : ByteArray} (hX : ∀ x ∈ X, kLt x.1 k = true ∨ kLt k x.1 = true) : getL (X ++ Y) k = getL Y k := by
  unfold getL
  rw [List.find?_append, List.find?_eq_none.2 fun x hx => ?_]
  · rfl
  · rcases hX x hx with q | q
    · rw [kEq_no.2 (kLt_ne q)]; exact Bool.false_ne_true
    · rw [kEq_no.2 (Ne.symm (kLt_ne q))]; exact Bool.false_ne_true
theorem getL_off {Y : List Kv} {k : ByteArray} (hY : ∀ x ∈ Y, kLt x.1 k = true ∨ kLt k x.1 = true) : getL Y k = none := by
  have := getL_app_off (Y := []) hY
  rw [List.append_nil] at this
  exact this
theorem getL_mid {X l Y : List Kv} {k : ByteArray} (hX : ∀ x ∈ X, kLt x.1 k = true) (hY : ∀ x ∈ Y, kLt k x.1 = true) : getL (X ++ (l ++ Y)) k = getL l k := by
  rw [getL_app_off fun x hx => Or.inl (hX x hx)]
  have hn := getL_off (k := k) fun x hx => Or.inr (hY x hx)
  unfold getL at hn ⊢
  rw [List.find?_append]
  cases h : l.find? fun x => kEq x.1 k with
  | some x => rfl
  | none => exact hn
theorem getL_here {X Y : List Kv} {p : Kv} {k : ByteArray} (hX : ∀ x ∈ X, kLt x.1 k = true) (hp : p.1 = k) : getL (X ++ p :: Y) k = some p.2 := by
  rw [getL_app_off fun x hx => Or.inl (hX x hx)]
  unfold getL
  rw [List.find?_cons_of_pos (by show kEq p.1 k = true; rw [hp]; exact kEq_self k)]
  rfl
theorem fromL_mid {X l Y : List Kv} {k : ByteArray} (hX : ∀ x ∈ X, kLt x.1 k = true) (hY : ∀ x ∈ Y, kLt k x.1 = true) : fromL (X ++ (l ++ Y)) k = fromL l k ++ Y := by
  unfold fromL
  rw [List.filter_append, List.filter_append, fil_none (X := X) (fun x hx => by rw [hX x hx]; rfl), fil_all (X := Y) (fun x hx => by rw [kLt_asymm (hY x hx)]; rfl)]
  rfl
theorem fromL_all {Y : List Kv} {k : ByteArray} (hY : ∀ x ∈ Y, kLt x.1 k = false) : fromL Y k = Y := fil_all fun x hx => by rw [hY x hx]; rfl
theorem fromL_none {X : List Kv} {k : ByteArray} (hX : ∀ x ∈ X, kLt x.1 k = true) : fromL X k = [] := fil_none fun x hx => by rw [hX x hx]; rfl
theorem fromL_app (X Y : List Kv) (k : ByteArray) : fromL (X ++ Y) k = fromL X k ++ fromL Y k := List.filter_append ..
/-- One key, at most once: how many more or fewer. -/
def loL (l : List Kv) (k : ByteArray) : List Kv := l.filter fun x => kLt x.1 k
def eqL (l : List Kv) (k : ByteArray) : List Kv := l.filter fun x => kEq x.1 k
def hiL (l : List Kv) (k : ByteArray) : List Kv := l.filter fun x => kLt k x.1
theorem part_len {l : List Kv} (h : Rise l) (k : ByteArray) : l.length = (loL l k).length + (eqL l k).length + (hiL l k).length := by
  have e : l = loL l k ++ eqL l k ++ hiL l k := rise_part h k
  have := congrArg List.length e
  rw [List.length_append, List.length_append] at this
  exact this
theorem put_len0 (l : List Kv) (k : ByteArray) (v : Int) : (putL13 l k v).length = (loL l k).length + 1 + (hiL l k).length := by
  show (loL l k ++ (k, v) :: hiL l k).length = _
  rw [List.length_append, List.length_cons]; omega
theorem eqL_len {l : List Kv} (h : Rise l) (k : ByteArray) : (eqL l k).length = if (getL l k).isSome then 1 else 0 := by
  have hr : Rise (eqL l k) := rise_filter h _
  have mem : ∀ y, y ∈ eqL l k ↔ y ∈ l ∧ kEq y.1 k = true := fun y => List.mem_filter
  generalize eqL l k = E at hr mem
  have hs : (getL l k).isSome = (l.find? fun x => kEq x.1 k).isSome := by unfold getL; rw [Option.isSome_map]
  rw [hs]
  cases f : l.find? fun x => kEq x.1 k with
  | none =>
    rw [List.find?_eq_none] at f
    match E, mem with
    | [], _ => rfl
    | y :: r, mem => exact absurd ((mem y).1 (List.mem_cons_self ..)).2 (f y ((mem y).1 (List.mem_cons_self ..)).1)
  | some y =>
    have hy := List.find?_some f
    have my : y ∈ E := (mem y).2 ⟨List.mem_of_find?_eq_some f, hy⟩
    match E, my, hr, mem with
    | [_], _, _, _ => rfl
    | a :: b :: r, _, hr, mem =>
      have ab := (rise_cons.1 hr).1 b (List.mem_cons_self ..)
      have ea := kEq_iff.1 ((mem a).1 (List.mem_cons_self ..)).2
      have eb := kEq_iff.1 ((mem b).1 (List.mem_cons_of_mem _ (List.mem_cons_self ..))).2
      rw [ea, eb, kLt_irrefl] at ab; cases ab
theorem putL_len {l : List Kv} (h : Rise l) (k : ByteArray) (v : Int) : (putL13 l k v).length = l.length + (if (getL l k).isSome then 0 else 1) := by
  have h1 := part_len h k
  rw [eqL_len h k] at h1
  rw [put_len0]
  split at h1 <;> rename_i q <;> simp only [q] <;> simp <;> omega
theorem delL_len {l : List Kv} (h : Rise l) (k : ByteArray) : (delL l k).length + (if (getL l k).isSome then 1 else 0) = l.length := by
  have e : l = loL l k ++ eqL l k ++ hiL l k := rise_part h k
  have h2 : delL l k = loL l k ++ hiL l k := by
    conv => lhs; rw [e]
    rw [delL_app, delL_app, delL_off (X := loL l k) fun x hx => Or.inl (List.mem_filter.1 hx).2, delL_off (X := hiL l k) fun x hx => Or.inr (List.mem_filter.1 hx).2]
    rw [show delL (eqL l k) k = [] from fil_none fun x hx => by rw [(List.mem_filter.1 hx).2]; rfl, List.append_nil]
  have h1 := part_len h k
  rw [eqL_len h k] at h1
  rw [h2, List.length_append]
  omega
#print axioms delL_len
end Go.Proofs.Ytkpgaejmhddkdaa
