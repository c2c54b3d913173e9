/-
  Keys in the order of their bytes, and lists of keys with what they have, plainly. A node, plainly: what stands ahead of a child, in it and behind it; what Put, Del, Get and From make of a list that is parted so. The kinds of a tree's rows; slices.Clone of them.
-/
import Derived.Test.YtkpahhioiefcbaaMb1
import Derived.Laws.Strings
import Derived.Test.YtkpahhioiefcbaaMb11
namespace Go.Proofs.Ytkpahhioiefcbaa
open Go.RowKit
set_option linter.unusedVariables false
set_option maxRecDepth 100000

/-! ### keys -/
theorem bl_irrefl : ∀ a : List UInt8, Op.bytesLess a a = false
  | [] => rfl
  | a :: x => by
    unfold Op.bytesLess
    rw [bl_irrefl x]
    simp
theorem bl_trans : ∀ {a b c : List UInt8}, Op.bytesLess a b = true → Op.bytesLess b c = true → Op.bytesLess a c = true
  | _, [], _, h, _ => by unfold Op.bytesLess at h; cases h
  | [], _ :: _, [], _, h => by unfold Op.bytesLess at h; cases h
  | [], _ :: _, _ :: _, _, _ => by unfold Op.bytesLess; rfl
  | _ :: _, _ :: _, [], _, h => by unfold Op.bytesLess at h; cases h
  | a :: x, b :: y, c :: z, h, h2 => by
    unfold Op.bytesLess at h h2 ⊢
    simp only [Bool.or_eq_true, Bool.and_eq_true, decide_eq_true_eq, beq_iff_eq] at h h2 ⊢
    rcases h with h | ⟨rfl, h⟩
    · rcases h2 with h2 | ⟨rfl, h2⟩
      · exact Or.inl (UInt8.lt_trans h h2)
      · exact Or.inl h
    · rcases h2 with h2 | ⟨rfl, h2⟩
      · exact Or.inl h2
      · exact Or.inr ⟨rfl, bl_trans h h2⟩
theorem bl_total : ∀ {a b : List UInt8}, a ≠ b → Op.bytesLess a b = true ∨ Op.bytesLess b a = true
  | [], [], h => absurd rfl h
  | [], _ :: _, _ => Or.inl (by unfold Op.bytesLess; rfl)
  | _ :: _, [], _ => Or.inr (by unfold Op.bytesLess; rfl)
  | a :: x, b :: y, h => by
    unfold Op.bytesLess
    simp only [Bool.or_eq_true, Bool.and_eq_true, decide_eq_true_eq, beq_iff_eq]
    by_cases e : a = b
    · subst e
      rcases bl_total (a := x) (b := y) (fun q => h (by rw [q])) with q | q
      · exact Or.inl (Or.inr ⟨rfl, q⟩)
      · exact Or.inr (Or.inr ⟨rfl, q⟩)
    · rcases Nat.lt_or_gt_of_ne (fun q => e (UInt8.toNat_inj.1 q)) with q | q
      · exact Or.inl (Or.inl (UInt8.lt_iff_toNat_lt.2 q))
      · exact Or.inr (Or.inl (UInt8.lt_iff_toNat_lt.2 q))
/-- Is a below b? -/
def kLt (a b : ByteArray) : Bool := Op.bytesLess a.toList b.toList
def kEq (a b : ByteArray) : Bool := a.toList == b.toList
theorem kEq_iff {a b : ByteArray} : kEq a b = true ↔ a = b := by
  unfold kEq
  rw [beq_iff_eq, ByteArray.toList_eq, ByteArray.toList_eq]
  exact ⟨fun h => by
    cases a; cases b
    congr 1
    exact Array.ext' h, fun h => by rw [h]⟩
theorem kEq_no {a b : ByteArray} : kEq a b = false ↔ a ≠ b := by
  rw [← Bool.not_eq_true, kEq_iff]
theorem kEq_self (a : ByteArray) : kEq a a = true := kEq_iff.2 rfl
theorem kEq_symm (a b : ByteArray) : kEq a b = kEq b a := by
  by_cases h : a = b
  · rw [h]
  · rw [kEq_no.2 h, kEq_no.2 (Ne.symm h)]
theorem kLt_irrefl (a : ByteArray) : kLt a a = false := bl_irrefl _
theorem kLt_trans {a b c : ByteArray} (h : kLt a b = true) (h2 : kLt b c = true) : kLt a c = true := bl_trans h h2
theorem kLt_asymm {a b : ByteArray} (h : kLt a b = true) : kLt b a = false := by
  cases e : kLt b a with
  | false => rfl
  | true => rw [← kLt_irrefl a]; exact (kLt_trans h e).symm
theorem kLt_total {a b : ByteArray} (h : a ≠ b) : kLt a b = true ∨ kLt b a = true := bl_total fun e => h (kEq_iff.1 (beq_iff_eq.2 e))
theorem kLt_ne {a b : ByteArray} (h : kLt a b = true) : a ≠ b := fun e => by rw [e, kLt_irrefl] at h; cases h
/-- Neither equal nor above: below. -/
theorem kLt_of {a b : ByteArray} (h : a ≠ b) (h2 : kLt b a = false) : kLt a b = true := by
  rcases kLt_total h with q | q
  · exact q
  · rw [q] at h2; cases h2
theorem kLt_of_le {a b c : ByteArray} (h : kLt b a = false) (h2 : kLt b c = true) : kLt a c = true := by
  by_cases e : a = b
  · rw [e]; exact h2
  · exact kLt_trans (kLt_of e h) h2

/-! ### rising lists of pairs -/
abbrev Kv := ByteArray × ByteArray
def Rise (l : List Kv) : Prop := l.Pairwise fun x y => kLt x.1 y.1 = true
def getL (l : List Kv) (k : ByteArray) : Option ByteArray := (l.find? fun x => kEq x.1 k).map Prod.snd
def delL (l : List Kv) (k : ByteArray) : List Kv := l.filter fun x => !kEq x.1 k
def fromL (l : List Kv) (k : ByteArray) : List Kv := l.filter fun x => !kLt x.1 k
def putL13 (l : List Kv) (k : ByteArray) (v : ByteArray) : List Kv := (l.filter fun x => kLt x.1 k) ++ (k, v) :: l.filter fun x => kLt k x.1
theorem rise_nil : Rise [] := List.Pairwise.nil
theorem rise_cons {x : Kv} {l : List Kv} : Rise (x :: l) ↔ (∀ y ∈ l, kLt x.1 y.1 = true) ∧ Rise l := List.pairwise_cons
theorem rise_app {a b : List Kv} : Rise (a ++ b) ↔ Rise a ∧ Rise b ∧ ∀ x ∈ a, ∀ y ∈ b, kLt x.1 y.1 = true := List.pairwise_append
theorem rise_filter {l : List Kv} (h : Rise l) (p : Kv → Bool) : Rise (l.filter p) := List.Pairwise.filter p h
theorem rise_del {l : List Kv} (h : Rise l) (k : ByteArray) : Rise (delL l k) := rise_filter h _
theorem rise_put {l : List Kv} (h : Rise l) (k : ByteArray) (v : ByteArray) : Rise (putL13 l k v) := by
  refine rise_app.2 ⟨rise_filter h _, rise_cons.2 ⟨fun y hy => (List.mem_filter.1 hy).2, rise_filter h _⟩, fun x hx y hy => ?_⟩
  have h1 := (List.mem_filter.1 hx).2
  rcases List.mem_cons.1 hy with rfl | hy
  · exact h1
  · exact kLt_trans h1 (List.mem_filter.1 hy).2
/-- The list where it is parted at a key that is not in it. -/
theorem rise_part {l : List Kv} (h : Rise l) (k : ByteArray) : l = (l.filter fun x => kLt x.1 k) ++ (l.filter fun x => kEq x.1 k) ++ l.filter fun x => kLt k x.1 := by
  induction l with
  | nil => rfl
  | cons x l ih =>
    obtain ⟨h1, h2⟩ := rise_cons.1 h
    have ih := ih h2
    rcases e1 : kLt x.1 k with _ | _
    · have none : ∀ y ∈ l, kLt y.1 k = false := fun y hy => by
        cases q : kLt y.1 k with
        | false => rfl
        | true => rw [kLt_trans (h1 y hy) q] at e1; cases e1
      have n1 : (l.filter fun x => kLt x.1 k) = [] := List.filter_eq_nil_iff.2 fun y hy => by rw [none y hy]; exact Bool.false_ne_true
      rcases e2 : kEq x.1 k with _ | _
      · have e3 : kLt k x.1 = true := kLt_of (Ne.symm (kEq_no.1 e2)) e1
        have n2 : (l.filter fun x => kEq x.1 k) = [] := List.filter_eq_nil_iff.2 fun y hy => by
          rw [Bool.not_eq_true]
          exact kEq_no.2 (Ne.symm (kLt_ne (kLt_trans e3 (h1 y hy))))
        rw [n1, n2] at ih
        simp only [List.filter_cons, e1, e2, e3, if_true, Bool.false_eq_true, if_false, n1, n2, List.nil_append] at ih ⊢
        rw [← ih]
      · have e3 : kLt k x.1 = false := by rw [kEq_iff.1 e2]; exact kLt_irrefl k
        rw [n1] at ih
        simp only [List.filter_cons, e1, e2, e3, if_true, Bool.false_eq_true, if_false, n1, List.nil_append, List.cons_append] at ih ⊢
        rw [← ih]
    · have e2 : kEq x.1 k = false := kEq_no.2 (kLt_ne e1)
      have e3 : kLt k x.1 = false := kLt_asymm e1
      simp only [List.filter_cons, e1, e2, e3, if_true, Bool.false_eq_true, if_false, List.cons_append]
      rw [← ih]
#print axioms rise_part
end Go.Proofs.Ytkpahhioiefcbaa
namespace Go.Proofs.Ytkpahhioiefcbaa
open Go.RowKit
set_option linter.unusedVariables false
set_option maxRecDepth 100000

/-- The pairs of a node with what its children have between them. -/
def flat : List Kv → List (List Kv) → List Kv
  | [], Ls => Ls.headD []
  | p :: ps, Ls => Ls.headD [] ++ p :: flat ps Ls.tail
/-- What stands ahead: each child and the pair behind it. -/
def fr : List Kv → List (List Kv) → List Kv
  | [], _ => []
  | p :: ps, Ls => Ls.headD [] ++ p :: fr ps Ls.tail
/-- What stands behind: each pair and the child behind it. -/
def bk : List Kv → List (List Kv) → List Kv
  | [], _ => []
  | p :: ps, Ls => p :: (Ls.headD [] ++ bk ps Ls.tail)
theorem flat_app : ∀ {a b : List Kv} {A B : List (List Kv)}, A.length = a.length → flat (a ++ b) (A ++ B) = fr a A ++ flat b B
  | [], b, [], B, _ => rfl
  | p :: a, b, l :: A, B, h => by
    have h' : A.length = a.length := by simpa using h
    show l ++ p :: flat (a ++ b) (A ++ B) = (l ++ p :: fr a A) ++ flat b B
    rw [flat_app h', List.append_assoc, List.cons_append]
  | [], b, l :: A, B, h => by simp at h
  | p :: a, b, [], B, h => by simp at h
theorem flat_cons : ∀ (b : List Kv) (l : List Kv) (B : List (List Kv)), flat b (l :: B) = l ++ bk b B
  | [], l, B => by simp [flat, bk]
  | p :: b, l, B => by
    show l ++ p :: flat b B = l ++ p :: (B.headD [] ++ bk b B.tail)
    cases B with
    | nil =>
      congr 2
      have : ∀ b : List Kv, flat b [] = bk b [] := fun b => by
        induction b with
        | nil => rfl
        | cons p b ih => show [] ++ p :: flat b [] = p :: ([] ++ bk b []); rw [ih]; rfl
      rw [this]; rfl
    | cons m B => rw [flat_cons b m B]; rfl
theorem flat_at {a b : List Kv} {A B : List (List Kv)} (l : List Kv) (h : A.length = a.length) : flat (a ++ b) (A ++ l :: B) = fr a A ++ (l ++ bk b B) := by
  rw [flat_app h, flat_cons]
theorem fr_app : ∀ {a b : List Kv} {A B : List (List Kv)}, A.length = a.length → fr (a ++ b) (A ++ B) = fr a A ++ fr b B
  | [], b, [], B, _ => rfl
  | p :: a, b, l :: A, B, h => by
    have h' : A.length = a.length := by simpa using h
    show l ++ p :: fr (a ++ b) (A ++ B) = (l ++ p :: fr a A) ++ fr b B
    rw [fr_app h', List.append_assoc, List.cons_append]
  | [], b, l :: A, B, h => by simp at h
  | p :: a, b, [], B, h => by simp at h
theorem bk_app : ∀ {a b : List Kv} {A B : List (List Kv)}, A.length = a.length → bk (a ++ b) (A ++ B) = bk a A ++ bk b B
  | [], b, [], B, _ => rfl
  | p :: a, b, l :: A, B, h => by
    have h' : A.length = a.length := by simpa using h
    show p :: (l ++ bk (a ++ b) (A ++ B)) = p :: (l ++ bk a A) ++ bk b B
    rw [bk_app h', List.cons_append, List.append_assoc]
  | [], b, l :: A, B, h => by simp at h
  | p :: a, b, [], B, h => by simp at h
/-- Children that have nothing. -/
theorem flat_leaf : ∀ (ps : List Kv) (Ls : List (List Kv)), (∀ l ∈ Ls, l = []) → flat ps Ls = ps
  | [], Ls, h => by
    cases Ls with
    | nil => rfl
    | cons l Ls => exact h l (List.mem_cons_self ..)
  | p :: ps, Ls, h => by
    cases Ls with
    | nil => show [] ++ p :: flat ps [] = _; rw [flat_leaf ps [] (by simp)]; rfl
    | cons l Ls =>
      show l ++ p :: flat ps Ls = _
      rw [h l (List.mem_cons_self ..), flat_leaf ps Ls (fun m hm => h m (List.mem_cons_of_mem _ hm))]
      rfl
theorem flat_len : ∀ (ps : List Kv) (Ls : List (List Kv)), Ls.length = ps.length + 1 → (flat ps Ls).length + 1 = (Ls.map (fun l => l.length + 1)).sum
  | [], [l], _ => by simp [flat]
  | p :: ps, l :: Ls, h => by
    have h' : Ls.length = ps.length + 1 := by simpa using h
    show (l ++ p :: flat ps Ls).length + 1 = l.length + 1 + (Ls.map (fun l => l.length + 1)).sum
    rw [← flat_len ps Ls h', List.length_append, List.length_cons]
    omega
  | [], [], h => by simp at h
  | [], _ :: _ :: _, h => by simp at h
  | _ :: _, [], h => by simp at h
theorem sum_low (c : Nat) : ∀ (Ls : List (List Kv)), (∀ l ∈ Ls, c ≤ l.length + 1) → Ls.length * c ≤ (Ls.map (fun l => l.length + 1)).sum
  | [], _ => by simp
  | l :: Ls, h => by
    have h1 := h l (List.mem_cons_self ..)
    have h2 := sum_low c Ls (fun m hm => h m (List.mem_cons_of_mem _ hm))
    rw [List.length_cons, Nat.succ_mul, List.map_cons, List.sum_cons]
    omega
theorem flat_low {c : Nat} {ps : List Kv} {Ls : List (List Kv)} (h : Ls.length = ps.length + 1) (hc : ∀ l ∈ Ls, c ≤ l.length + 1) : (ps.length + 1) * c ≤ (flat ps Ls).length + 1 := by
  rw [flat_len ps Ls h, ← h]
  exact sum_low c Ls hc
/-- The pairs themselves are among all. -/
theorem mem_flat : ∀ {ps : List Kv} {Ls : List (List Kv)} {x : Kv}, x ∈ ps → x ∈ flat ps Ls
  | p :: ps, Ls, x, h => by
    show x ∈ Ls.headD [] ++ p :: flat ps Ls.tail
    rcases List.mem_cons.1 h with rfl | h
    · exact List.mem_append_right _ (List.mem_cons_self ..)
    · exact List.mem_append_right _ (List.mem_cons_of_mem _ (mem_flat h))
theorem rise_pairs : ∀ {ps : List Kv} {Ls : List (List Kv)}, Rise (flat ps Ls) → Rise ps
  | [], _, _ => rise_nil
  | p :: ps, Ls, h => by
    have h2 := rise_cons.1 (rise_app.1 (show Rise (Ls.headD [] ++ p :: flat ps Ls.tail) from h)).2.1
    exact rise_cons.2 ⟨fun y hy => h2.1 y (mem_flat hy), rise_pairs h2.2⟩
theorem fr_below {k : ByteArray} : ∀ {a : List Kv} {A : List (List Kv)}, Rise (fr a A) → (∀ p ∈ a, kLt p.1 k = true) → ∀ x ∈ fr a A, kLt x.1 k = true
  | [], _, _, _, x, hx => by cases hx
  | p :: a, A, h, hk, x, hx => by
    obtain ⟨h1, h2, h3⟩ := rise_app.1 (show Rise (A.headD [] ++ p :: fr a A.tail) from h)
    have hp := hk p (List.mem_cons_self ..)
    rcases List.mem_append.1 (show x ∈ A.headD [] ++ p :: fr a A.tail from hx) with q | q
    · exact kLt_trans (h3 x q p (List.mem_cons_self ..)) hp
    · rcases List.mem_cons.1 q with rfl | q
      · exact hp
      · exact fr_below (rise_cons.1 h2).2 (fun y hy => hk y (List.mem_cons_of_mem _ hy)) x q
theorem bk_above {k : ByteArray} : ∀ {b : List Kv} {B : List (List Kv)}, Rise (bk b B) → (∀ p ∈ b, kLt k p.1 = true) → ∀ x ∈ bk b B, kLt k x.1 = true
  | [], _, _, _, x, hx => by cases hx
  | p :: b, B, h, hk, x, hx => by
    obtain ⟨h1, h2⟩ := rise_cons.1 (show Rise (p :: (B.headD [] ++ bk b B.tail)) from h)
    have hp := hk p (List.mem_cons_self ..)
    rcases List.mem_cons.1 (show x ∈ p :: (B.headD [] ++ bk b B.tail) from hx) with rfl | q
    · exact hp
    · exact kLt_trans hp (h1 x q)

/-! ### parted lists -/
theorem delL_app (X Y : List Kv) (k : ByteArray) : delL (X ++ Y) k = delL X k ++ delL Y k := List.filter_append ..
theorem delL_off {X : List Kv} {k : ByteArray} (h : ∀ x ∈ X, kLt x.1 k = true ∨ kLt k x.1 = true) : delL X k = X := by
  refine List.filter_eq_self.2 fun x hx => ?_
  rcases h x hx with q | q
  · rw [kEq_no.2 (kLt_ne q)]; rfl
  · rw [kEq_no.2 (Ne.symm (kLt_ne q))]; rfl
theorem delL_mid {X l Y : List Kv} {k : ByteArray} (hX : ∀ x ∈ X, kLt x.1 k = true) (hY : ∀ x ∈ Y, kLt k x.1 = true) : delL (X ++ (l ++ Y)) k = X ++ (delL l k ++ Y) := by
  rw [delL_app, delL_app, delL_off fun x hx => Or.inl (hX x hx), delL_off fun x hx => Or.inr (hY x hx)]
theorem delL_here {X Y : List Kv} {p : Kv} {k : ByteArray} (hX : ∀ x ∈ X, kLt x.1 k = true) (hY : ∀ x ∈ Y, kLt k x.1 = true) (hp : p.1 = k) : delL (X ++ p :: Y) k = X ++ Y := by
  have := delL_mid (l := [p]) hX hY
  rw [show delL [p] k = [] by simp [delL, hp, kEq_self]] at this
  simpa using this
theorem fil_all {X : List Kv} {q : Kv → Bool} (h : ∀ x ∈ X, q x = true) : X.filter q = X := List.filter_eq_self.2 h
theorem fil_none {X : List Kv} {q : Kv → Bool} (h : ∀ x ∈ X, q x = false) : X.filter q = [] := List.filter_eq_nil_iff.2 fun x hx => by rw [h x hx]; exact Bool.false_ne_true
theorem putL_mid {X l Y : List Kv} {k : ByteArray} {v : ByteArray} (hX : ∀ x ∈ X, kLt x.1 k = true) (hY : ∀ x ∈ Y, kLt k x.1 = true) : putL13 (X ++ (l ++ Y)) k v = X ++ (putL13 l k v ++ Y) := by
  unfold putL13
  simp only [List.filter_append]
  rw [fil_all (X := X) hX, fil_none (X := Y) (q := fun x => kLt x.1 k) (fun x hx => kLt_asymm (hY x hx)), fil_none (X := X) (q := fun x => kLt k x.1) (fun x hx => kLt_asymm (hX x hx)), fil_all (X := Y) (q := fun x => kLt k x.1) hY]
  simp
theorem putL_here {X Y : List Kv} {p : Kv} {k : ByteArray} {v : ByteArray} (hX : ∀ x ∈ X, kLt x.1 k = true) (hY : ∀ x ∈ Y, kLt k x.1 = true) (hp : p.1 = k) : putL13 (X ++ p :: Y) k v = X ++ (k, v) :: Y := by
  have := putL_mid (l := [p]) (v := v) hX hY
  rw [show putL13 [p] k v = [(k, v)] by simp [putL13, hp, kLt_irrefl]] at this
  simpa using this
theorem putL_nil (k : ByteArray) (v : ByteArray) : putL13 [] k v = [(k, v)] := rfl
theorem putL_gap {X Y : List Kv} {k : ByteArray} {v : ByteArray} (hX : ∀ x ∈ X, kLt x.1 k = true) (hY : ∀ x ∈ Y, kLt k x.1 = true) : putL13 (X ++ Y) k v = X ++ (k, v) :: Y := by
  have := putL_mid (l := []) (v := v) hX hY
  simpa [putL_nil] using this
theorem getL_app_off {X Y : List Kv} {k : ByteArray} (hX : ∀ x ∈ X, kLt x.1 k = true ∨ kLt k x.1 = true) : getL (X ++ Y) k = getL Y k := by
  unfold getL
  rw [List.find?_append, List.find?_eq_none.2 fun x hx => ?_]
  · rfl
  · rcases hX x hx with q | q
    · rw [kEq_no.2 (kLt_ne q)]; exact Bool.false_ne_true
    · rw [kEq_no.2 (Ne.symm (kLt_ne q))]; exact Bool.false_ne_true
theorem getL_off {Y : List Kv} {k : ByteArray} (hY : ∀ x ∈ Y, kLt x.1 k = true ∨ kLt k x.1 = true) : getL Y k = none := by
  have := getL_app_off (Y := []) hY
  rw [List.append_nil] at this
  exact this
theorem getL_mid {X l Y : List Kv} {k : ByteArray} (hX : ∀ x ∈ X, kLt x.1 k = true) (hY : ∀ x ∈ Y, kLt k x.1 = true) : getL (X ++ (l ++ Y)) k = getL l k := by
  rw [getL_app_off fun x hx => Or.inl (hX x hx)]
  have hn := getL_off (k := k) fun x hx => Or.inr (hY x hx)
  unfold getL at hn ⊢
  rw [List.find?_append]
  cases h : l.find? fun x => kEq x.1 k with
  | some x => rfl
  | none => exact hn
theorem getL_here {X Y : List Kv} {p : Kv} {k : ByteArray} (hX : ∀ x ∈ X, kLt x.1 k = true) (hp : p.1 = k) : getL (X ++ p :: Y) k = some p.2 := by
  rw [getL_app_off fun x hx => Or.inl (hX x hx)]
  unfold getL
  rw [List.find?_cons_of_pos (by show kEq p.1 k = true; rw [hp]; exact kEq_self k)]
  rfl
theorem fromL_mid {X l Y : List Kv} {k : ByteArray} (hX : ∀ x ∈ X, kLt x.1 k = true) (hY : ∀ x ∈ Y, kLt k x.1 = true) : fromL (X ++ (l ++ Y)) k = fromL l k ++ Y := by
  unfold fromL
  rw [List.filter_append, List.filter_append, fil_none (X := X) (fun x hx => by rw [hX x hx]; rfl), fil_all (X := Y) (fun x hx => by rw [kLt_asymm (hY x hx)]; rfl)]
  rfl
theorem fromL_all {Y : List Kv} {k : ByteArray} (hY : ∀ x ∈ Y, kLt x.1 k = false) : fromL Y k = Y := fil_all fun x hx => by rw [hY x hx]; rfl
theorem fromL_none {X : List Kv} {k : ByteArray} (hX : ∀ x ∈ X, kLt x.1 k = true) : fromL X k = [] := fil_none fun x hx => by rw [hX x hx]; rfl
theorem fromL_app (X Y : List Kv) (k : ByteArray) : fromL (X ++ Y) k = fromL X k ++ fromL Y k := List.filter_append ..
/-- One key, at most once: how many more or fewer. -/
def loL (l : List Kv) (k : ByteArray) : List Kv := l.filter fun x => kLt x.1 k
def eqL (l : List Kv) (k : ByteArray) : List Kv := l.filter fun x => kEq x.1 k
def hiL (l : List Kv) (k : ByteArray) : List Kv := l.filter fun x => kLt k x.1
theorem part_len {l : List Kv} (h : Rise l) (k : ByteArray) : l.length = (loL l k).length + (eqL l k).length + (hiL l k).length := by
  have e : l = loL l k ++ eqL l k ++ hiL l k := rise_part h k
  have := congrArg List.length e
  rw [List.length_append, List.length_append] at this
  exact this
theorem put_len0 (l : List Kv) (k : ByteArray) (v : ByteArray) : (putL13 l k v).length = (loL l k).length + 1 + (hiL l k).length := by
  show (loL l k ++ (k, v) :: hiL l k).length = _
  rw [List.length_append, List.length_cons]; omega
theorem eqL_len {l : List Kv} (h : Rise l) (k : ByteArray) : (eqL l k).length = if (getL l k).isSome then 1 else 0 := by
  have hr : Rise (eqL l k) := rise_filter h _
  have mem : ∀ y, y ∈ eqL l k ↔ y ∈ l ∧ kEq y.1 k = true := fun y => List.mem_filter
  generalize eqL l k = E at hr mem
  have hs : (getL l k).isSome = (l.find? fun x => kEq x.1 k).isSome := by unfold getL; rw [Option.isSome_map]
  rw [hs]
  cases f : l.find? fun x => kEq x.1 k with
  | none =>
    rw [List.find?_eq_none] at f
    match E, mem with
    | [], _ => rfl
    | y :: r, mem => exact absurd ((mem y).1 (List.mem_cons_self ..)).2 (f y ((mem y).1 (List.mem_cons_self ..)).1)
  | some y =>
    have hy := List.find?_some f
    have my : y ∈ E := (mem y).2 ⟨List.mem_of_find?_eq_some f, hy⟩
    match E, my, hr, mem with
    | [_], _, _, _ => rfl
    | a :: b :: r, _, hr, mem =>
      have ab := (rise_cons.1 hr).1 b (List.mem_cons_self ..)
      have ea := kEq_iff.1 ((mem a).1 (List.mem_cons_self ..)).2
      have eb := kEq_iff.1 ((mem b).1 (List.mem_cons_of_mem _ (List.mem_cons_self ..))).2
      rw [ea, eb, kLt_irrefl] at ab; cases ab
theorem putL_len {l : List Kv} (h : Rise l) (k : ByteArray) (v : ByteArray) : (putL13 l k v).length = l.length + (if (getL l k).isSome then 0 else 1) := by
  have h1 := part_len h k
  rw [eqL_len h k] at h1
  rw [put_len0]
  split at h1 <;> rename_i q <;> simp only [q] <;> simp <;> omega
theorem delL_len {l : List Kv} (h : Rise l) (k : ByteArray) : (delL l k).length + (if (getL l k).isSome then 1 else 0) = l.length := by
  have e : l = loL l k ++ eqL l k ++ hiL l k := rise_part h k
  have h2 : delL l k = loL l k ++ hiL l k := by
    conv => lhs; rw [e]
    rw [delL_app, delL_app, delL_off (X := loL l k) fun x hx => Or.inl (List.mem_filter.1 hx).2, delL_off (X := hiL l k) fun x hx => Or.inr (List.mem_filter.1 hx).2]
    rw [show delL (eqL l k) k = [] from fil_none fun x hx => by rw [(List.mem_filter.1 hx).2]; rfl, List.append_nil]
  have h1 := part_len h k
  rw [eqL_len h k] at h1
  rw [h2, List.length_append]
  omega
#print axioms delL_len
end Go.Proofs.Ytkpahhioiefcbaa
namespace Go.Proofs.Ytkpahhioiefcbaa
open Go.RowKit
set_option linter.unusedVariables false
set_option maxRecDepth 100000
set_option linter.unusedSimpArgs false

def kdPr : Kf Kv := ⟨ 93, 86, 2, 32, .agg #[.string ByteArray.empty, .string ByteArray.empty], fun x => [.string x.1, .string x.2]⟩
theorem kdPr_ok : kdPr.Ok := ⟨by kernel_rfl, by kernel_rfl, by kernel_rfl, by decide, by decide, by decide, fun _ => rfl, fun x u hu => by
  simp only [kdPr, List.mem_cons, List.not_mem_nil, or_false] at hu
  rcases hu with rfl | rfl <;> rfl⟩
theorem kdPr_z : ∀ u ∈ kdPr.z.cells, u.oneCell' = true := fun u hu => by
  simp [kdPr, Value.cells] at hu
  rcases hu with rfl | rfl <;> rfl
/-- A child: the block that it lies in. -/
def kdNd : Kf Nat := ⟨ 36, 87, 1, 8, .pointer none, fun b => [.pointer (some ⟨b, 0, none⟩)]⟩
theorem kdNd_ok : kdNd.Ok := ⟨by kernel_rfl, by kernel_rfl, by kernel_rfl, by decide, by decide, by decide, fun _ => rfl, fun x u hu => by
  simp only [kdNd, List.mem_cons, List.not_mem_nil, or_false] at hu
  rcases hu with rfl; rfl⟩
theorem kdNd_z : ∀ u ∈ kdNd.z.cells, u.oneCell' = true := fun u hu => by
  simp [kdNd, Value.cells] at hu
  rcases hu with rfl; rfl

section
variable {α : Type} {K : Kf α}
theorem fl_slice0 (hK : K.Ok) (w : World) : (Instr.buildSlice K.S 0 #[]).run Try.prog w = .ok (.slice (some ⟨w.heap.size, 0, none⟩) 0 0) (w.alloc (.cells #[] K.T)) := by
  obtain ⟨i0, hi, hz0, hz1, hz2⟩ := info_parts hK.inf
  have e0 : Array.range 0 = #[] := rfl
  simp [Instr.buildSlice, run_underlying hK.un, sizeOf, typeInfo, hi, newRow, Instr.fill, e0]
theorem fl_empty (w : World) : FlO K w (w.alloc (.cells #[] K.T)) (.slice (some ⟨w.heap.size, 0, none⟩) 0 0) [] :=
  ⟨by simp [flC], Or.inr ⟨w.heap.size, 0, #[], rfl, Nat.le_refl _, heap_alloc_new w _, Nat.le_refl _, Nat.zero_le _, by simp, by simp [flC]⟩⟩
theorem clone_flv (hK : K.Ok) {w : World} {A : Option Addr} {C : Nat} {L : List α} (h : FlV K w A C L) :
    ∃ v' w', (Builtin.append_ #[K.S, K.S] K.S #[.slice (some ⟨w.heap.size, 0, none⟩) 0 0, .slice A L.length C]).run Try.prog (w.alloc (.cells #[] K.T)) = .ok v' w' ∧ FlO K w w' v' L ∧ Ch (fun _ => False) w w' := by
  have k1 : Ch (fun _ => False) w (w.alloc (.cells #[] K.T)) := (Ch.refl _ w).alloc _ _
  obtain ⟨v', w', hr, h2, h3, h4⟩ := (fl_empty (K := K) w).appV hK K.S A C (h.gr k1) (by have := h.le; simp; omega) k1.size
  refine ⟨v', w', hr, h2, k1.new (h3.mono fun i _ e => ?_)⟩
  injection e with e
  exact Nat.le_of_eq e
theorem wpList_slicing0 {P : Program} {ops : Array Oper} {rest : List Oper} {o : Oper} {a : Act} {Q : Exit → Act → World → Prop} (w w' : World) (hgd : o.guard = none) (t : TypeId) (ho : o.op = .buildSlice t 0 #[]) (v : Value) (hr : (Instr.buildSlice t 0 #[]).run P w = .ok v w')
    (h : wpList P ops Q rest (a.put o.dst v) w') : wpList P ops Q (o :: rest) a w := by
  refine wpList_plain hgd fun K hK => ?_
  unfold Oper.wp execOp
  simp only [ho, Sem.run_bind, Sem.run_pure, Result.andThen_ok, hr, List.map_toArray, List.map_nil]
  exact hK _ _ h
theorem flV_nil {w : World} {C : Nat} {L : List α} (h : FlV K w none C L) : L = [] := by
  cases L with
  | nil => rfl
  | cons x L =>
    obtain ⟨_, _, e, _⟩ := h.at' (by simp)
    cases e
end
theorem copy_op {P : Program} {w : World} {ops : Array Oper} {rest : List Oper} {o : Oper} {a : Act} {Q : Exit → Act → World → Prop} (hgd : o.guard = none) (d s : Operand) (t t' : TypeId)
    (ho : o.op = .call { callee := .builtin .copy, args := #[d, s], argTypes := #[t, t'] }) (v u : Value) (hd : a.eval d = v) (hs : a.eval s = u) {v' : Value} {w' : World}
    (hr : (Builtin.copy_ #[t, t'] o.type #[v, u]).run P w = .ok v' w') (h : wpList P ops Q rest (a.put o.dst v') w') : wpList P ops Q (o :: rest) a w :=
  wpList_plain hgd fun _ hK => by
    unfold Oper.wp execOp
    simp only [ho, resolve, invoke, builtin, Sem.run_bind, Sem.run_pure, Result.andThen_ok, List.map_toArray, List.map_cons, List.map_nil, hd, hs, hr]
    exact hK _ _ h
theorem clear_op {P : Program} {w : World} {ops : Array Oper} {rest : List Oper} {o : Oper} {a : Act} {Q : Exit → Act → World → Prop} (hgd : o.guard = none) (s : Operand) (t : TypeId)
    (ho : o.op = .call { callee := .builtin .clear, args := #[s], argTypes := #[t] }) (u : Value) (hs : a.eval s = u) {v' : Value} {w' : World}
    (hr : (Builtin.clear_ #[t] o.type #[u]).run P w = .ok v' w') (h : wpList P ops Q rest (a.put o.dst v') w') : wpList P ops Q (o :: rest) a w :=
  wpList_plain hgd fun _ hK => by
    unfold Oper.wp execOp
    simp only [ho, resolve, invoke, builtin, Sem.run_bind, Sem.run_pure, Result.andThen_ok, List.map_toArray, List.map_cons, List.map_nil, hs, hr]
    exact hK _ _ h
theorem step_copy {P : Program} {ops : Array Oper} {o : Oper} {a : Act} {w : World} {K : Act → World → Prop} {Q : Exit → Act → World → Prop} {E : Prop}
    (hg : o.guard = none) (d x : Operand) (dT sT : TypeId) (hop : o.op = Op.call { callee := Callee.builtin Builtin.copy, args := #[d, x], argTypes := #[dT, sT] })
    (v u : Value) (hd : a.eval d = v) (hx : a.eval x = u) {v' : Value} {w' : World} (hr : (Builtin.copy_ #[dT, sT] o.type #[v, u]).run P w = .ok v' w') (hK : K (a.put o.dst v') w') :
    if Region.wanted o (yielded ops a.tmps) = true then Oper.wp P o a w K Q else E := by
  have hw : Region.wanted o (yielded ops a.tmps) = true := by simp [Region.wanted, hg]
  rw [if_pos hw]
  unfold Oper.wp
  simp [execOp, hop, resolve, invoke, builtin, hd, hx, hr, Result.andThen]
  exact hK
theorem step_app {P : Program} {ops : Array Oper} {o : Oper} {a : Act} {w : World} {K : Act → World → Prop} {Q : Exit → Act → World → Prop} {E : Prop}
    (hg : o.guard = none) (d x : Operand) (dT sT : TypeId) (hop : o.op = Op.call { callee := Callee.builtin Builtin.append, args := #[d, x], argTypes := #[dT, sT] })
    (v u : Value) (hd : a.eval d = v) (hx : a.eval x = u) {v' : Value} {w' : World} (hr : (Builtin.append_ #[dT, sT] o.type #[v, u]).run P w = .ok v' w') (hK : K (a.put o.dst v') w') :
    if Region.wanted o (yielded ops a.tmps) = true then Oper.wp P o a w K Q else E := by
  have hw : Region.wanted o (yielded ops a.tmps) = true := by simp [Region.wanted, hg]
  rw [if_pos hw]
  unfold Oper.wp
  simp [execOp, hop, resolve, invoke, builtin, hd, hx, hr, Result.andThen]
  exact hK
/-- The answer of what makes a row. -/
def RowP {α : Type} (K : Kf α) (w : World) (L : List α) (e : Ending) (w' : World) : Prop := ∃ v, e = .returned v ∧ FlO K w w' v L ∧ Ch (fun _ => False) w w'
set_option maxHeartbeats 400000 in
set_option maxRecDepth 100000 in
theorem clonePr_any (A : Option Addr) (C : Nat) (L : List Kv) (w : World) (h : FlV kdPr w A C L) : Calls Try.prog 65 #[.slice A L.length C] w (RowP kdPr w L) := by
  have q := Lib.run_eql_slice_nil w (P := Try.prog) 86 93 A L.length C 0 0 kdPr_ok.un
  cases A with
  | none =>
    have hL := flV_nil h
    subst hL
    have q := Lib.run_eql_slice_nil w (P := Try.prog) 86 93 none 0 C 0 0 kdPr_ok.un
    clear h
    go_enter Try.func65, Try.ntmps65
    go_wp2
    go_ret
    exact ⟨_, rfl, FlO.start kdPr w w, Ch.refl _ _⟩
  | some ad =>
    obtain ⟨v', w', hr, h2, h3⟩ := clone_flv kdPr_ok h
    have hsl := fl_slice0 kdPr_ok w
    obtain ⟨n, hn⟩ : ∃ n, n = L.length := ⟨_, rfl⟩
    obtain ⟨K, hK⟩ : ∃ K, K = w.heap.size := ⟨_, rfl⟩
    obtain ⟨wk, hwk⟩ : ∃ wk, wk = w.alloc (.cells #[] kdPr.T) := ⟨_, rfl⟩
    rw [← hK, ← hwk] at hr hsl
    rw [← hn] at hr q ⊢
    have HR := Lib.hid hr
    have HSL := Lib.hid hsl
    have HF : Hid (RowP kdPr w L (.returned v') w') := Lib.hid ⟨v', rfl, h2, h3⟩
    clear hr hsl h2 h3 hK hwk hn h
    go_enter Try.func65, Try.ntmps65
    go_wp2_with ((with_reducible refine wpList_same ?_); first
      | refine wpList_slicing0 _ wk rfl 86 rfl (.slice (some ⟨K, 0, none⟩) 0 0) (by exact HSL.out) ?_
      | refine wpList_appF 86 _ rfl (.tmp 5) (.tmp 6) rfl rfl (.slice (some ⟨K, 0, none⟩) 0 0) (.slice (some ad) n C) v' w' rfl rfl (by exact HR.out) ?_)
    go_ret
    exact HF.out
set_option maxHeartbeats 400000 in
set_option maxRecDepth 100000 in
theorem cloneNd_any (A : Option Addr) (C : Nat) (L : List Nat) (w : World) (h : FlV kdNd w A C L) : Calls Try.prog 66 #[.slice A L.length C] w (RowP kdNd w L) := by
  have q := Lib.run_eql_slice_nil w (P := Try.prog) 87 36 A L.length C 0 0 kdNd_ok.un
  cases A with
  | none =>
    have hL := flV_nil h
    subst hL
    have q := Lib.run_eql_slice_nil w (P := Try.prog) 87 36 none 0 C 0 0 kdNd_ok.un
    clear h
    go_enter Try.func66, Try.ntmps66
    go_wp2
    go_ret
    exact ⟨_, rfl, FlO.start kdNd w w, Ch.refl _ _⟩
  | some ad =>
    obtain ⟨v', w', hr, h2, h3⟩ := clone_flv kdNd_ok h
    have hsl := fl_slice0 kdNd_ok w
    obtain ⟨n, hn⟩ : ∃ n, n = L.length := ⟨_, rfl⟩
    obtain ⟨K, hK⟩ : ∃ K, K = w.heap.size := ⟨_, rfl⟩
    obtain ⟨wk, hwk⟩ : ∃ wk, wk = w.alloc (.cells #[] kdNd.T) := ⟨_, rfl⟩
    rw [← hK, ← hwk] at hr hsl
    rw [← hn] at hr q ⊢
    have HR := Lib.hid hr
    have HSL := Lib.hid hsl
    have HF : Hid (RowP kdNd w L (.returned v') w') := Lib.hid ⟨v', rfl, h2, h3⟩
    clear hr hsl h2 h3 hK hwk hn h
    go_enter Try.func66, Try.ntmps66
    go_wp2_with ((with_reducible refine wpList_same ?_); first
      | refine wpList_slicing0 _ wk rfl 87 rfl (.slice (some ⟨K, 0, none⟩) 0 0) (by exact HSL.out) ?_
      | refine wpList_appF 87 _ rfl (.tmp 5) (.tmp 6) rfl rfl (.slice (some ⟨K, 0, none⟩) 0 0) (.slice (some ad) n C) v' w' rfl rfl (by exact HR.out) ?_)
    go_ret
    exact HF.out
#print axioms cloneNd_any
end Go.Proofs.Ytkpahhioiefcbaa
