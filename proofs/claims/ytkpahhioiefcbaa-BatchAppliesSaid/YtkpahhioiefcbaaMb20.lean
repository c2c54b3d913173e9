/-
  What set leaves, plainly. set of a node's child, walked.
-/
import Derived.Test.YtkpahhioiefcbaaMb19
namespace Go.Proofs.Ytkpahhioiefcbaa
open Go.RowKit
set_option linter.unusedVariables false
set_option maxRecDepth 100000
set_option linter.unusedSimpArgs false

/-- What was of F or is new, and not the node's own. -/
def FN (F : Nat → Prop) (w : World) (nb : Nat) (vp vc : Value) (i : Nat) : Prop := (F i ∨ w.heap.size ≤ i) ∧ ¬ OwnS nb vp vc i
/-- A node of one's own whose children have X, with its pairs between them: n pairs before; the child that was set has m in its root. -/
def SetP (F : Nat → Prop) (h : Nat) (w0 w : World) (nb : Nat) (vp vc : Value) (n m : Nat) (X : List Kv) (e : Ending) (w' : World) : Prop :=
  ∃ vp' vc' ps' cs' Ls', e = .returned (.tuple #[]) ∧ OwnN w0 w' nb vp' vc' ps' cs' ∧ (∀ i, OwnS nb vp' vc' i → OwnS nb vp vc i ∨ w.heap.size ≤ i) ∧ Ch (OwnS nb vp vc) w w' ∧ Ls'.length = ps'.length + 1 ∧ All2 (Kid (FN F w nb vp' vc') (h + 1) w') cs' Ls' ∧ flat ps' Ls' = X ∧
    ps'.length ≤ n + 1 ∧ n ≤ ps'.length + 1 ∧ (3 ≤ m → n ≤ ps'.length) ∧ (m ≤ 7 → ps'.length ≤ n)
section
variable {F : Nat → Prop} {h : Nat} {w0 w w1 w' : World} {nb : Nat} {vp vc : Value} {a b : List Kv} {cA cB : List Nat} {LA LB : List (List Kv)}
/-- The trees about, moved on. -/
theorem all_on (hF : ∀ i, F i → ¬ OwnS nb vp vc i) (hFb : ∀ i, F i → i < w.heap.size) (h1 : w.heap.size ≤ w1.heap.size) {vp' vc' : Value} (hg : ∀ i, OwnS nb vp' vc' i → OwnS nb vp vc i ∨ w1.heap.size ≤ i) (k : Ch (OwnS nb vp vc) w1 w') {h : Nat} {cs : List Nat} {Ls : List (List Kv)} (hA : All2 (Kid F h w1) cs Ls) : All2 (Kid (FN F w nb vp' vc') h w') cs Ls :=
  hA.imp fun c l q => q.ch k hF fun i hi => ⟨Or.inl hi, fun hs => by
    rcases hg i hs with e | e
    · exact hF i hi e
    · have := hFb i hi; omega⟩
theorem kids_on (hF : ∀ i, F i → ¬ OwnS nb vp vc i) (hFb : ∀ i, F i → i < w.heap.size) (h1 : w.heap.size ≤ w1.heap.size) {vp' vc' : Value} (hg : ∀ i, OwnS nb vp' vc' i → OwnS nb vp vc i ∨ w1.heap.size ≤ i) (k : Ch (OwnS nb vp vc) w1 w') {h : Nat} {ps : List Kv} {cs : List Nat} {L : List Kv} (hA : KidsP (TrIs F h w1) h ps cs L) : KidsP (TrIs (FN F w nb vp' vc') h w') h ps cs L :=
  hA.imp fun p m l q => (q.ch k hF).mono fun i hi _ => ⟨Or.inl hi, fun hs => by
    rcases hg i hs with e | e
    · exact hF i hi e
    · have := hFb i hi; omega⟩
theorem nd_kid {w' : World} {vp' vc' : Value} (h1 : w.heap.size ≤ w1.heap.size) {c : Nat} {qs : List Kv} {ds : List Nat} {L : List Kv} (hn : NdAt (fun i => w1.heap.size ≤ i ∧ ¬ OwnS nb vp' vc' i) w' c qs ds) (hk : KidsP (TrIs (FN F w nb vp' vc') h w') h qs ds L) (h3 : 3 ≤ qs.length) (h7 : qs.length ≤ 7) : Kid (FN F w nb vp' vc') (h + 1) w' c L :=
  ⟨qs.length, h3, h7, c, qs, ds, rfl, hn.mono fun i hi _ => ⟨Or.inr (by have := hi.1; omega), hi.2⟩, rfl, hk⟩
theorem set_cut (hF : ∀ i, F i → ¬ OwnS nb vp vc i) (hFb : ∀ i, F i → i < w.heap.size) (k1 : Ch (OwnS nb vp vc) w w1) (hla : a.length = LA.length) (hlb : b.length = LB.length) (hA : All2 (Kid F (h + 1) w1) cA LA) (hB : All2 (Kid F (h + 1) w1) cB LB) {q1 q2 : List Kv} {x : Kv} {d1 d2 : List Nat} {L : List Kv} (hk : KidsP (TrIs F h w1) h (q1 ++ x :: q2) (d1 ++ d2) L)
    (hd : (d1 = [] ∧ d2 = []) ∨ (d1.length = q1.length + 1 ∧ d2.length = q2.length + 1)) (s1 : 3 ≤ q1.length) (s2 : q1.length ≤ 7) (s3 : 3 ≤ q2.length) (s4 : q2.length ≤ 7) {m : Nat} (hm : 7 < m) {e : Ending} (hs : SplitP w0 w1 nb vp vc a b cA cB q1 q2 x d1 d2 e w') : SetP F h w0 w nb vp vc (a.length + b.length) m (fr a LA ++ (L ++ bk b LB)) e w' := by
  obtain ⟨vp', vc', lb, rb, rfl, ho, hg, h1, h2, hc⟩ := hs
  obtain ⟨L1, L2, rfl, g1, g2⟩ := kids_split hk hd
  have z := k1.size
  refine ⟨vp', vc', _, _, LA ++ L1 :: L2 :: LB, rfl, ho, fun i hi => (hg i hi).imp id fun q => by omega, k1.trans hc, by simp only [List.length_append, List.length_cons]; omega, (all_on hF hFb z hg hc hA).app (.cons (nd_kid z h1 (kids_on hF hFb z hg hc g1) s1 s2) (.cons (nd_kid z h2 (kids_on hF hFb z hg hc g2) s3 s4) (all_on hF hFb z hg hc hB))), ?_, ?_⟩
  · rw [flat_app hla.symm]
    show fr a LA ++ (L1 ++ x :: flat b (L2 :: LB)) = _
    rw [flat_cons]
    simp only [List.append_assoc, List.cons_append]
  · simp only [List.length_append, List.length_cons]; omega
theorem set_join (hF : ∀ i, F i → ¬ OwnS nb vp vc i) (hFb : ∀ i, F i → i < w.heap.size) (k1 : Ch (OwnS nb vp vc) w w1) (hla : a.length = LA.length) (hlb : b.length = LB.length) (hA : All2 (Kid F (h + 1) w1) cA LA) (hB : All2 (Kid F (h + 1) w1) cB LB) {ql qr : List Kv} {p : Kv} {dl dr : List Nat} {Ll Lr : List Kv} (hkl : KidsP (TrIs F h w1) h ql dl Ll) (hkr : KidsP (TrIs F h w1) h qr dr Lr)
    (s1 : 5 ≤ ql.length + qr.length) (s2 : ql.length + qr.length ≤ 14) {m : Nat} (hm : m < 3) {e : Ending} (hs : JoinP w0 w1 nb vp vc a b p cA cB ql qr dl dr e w') : SetP F h w0 w nb vp vc (a.length + b.length + 1) m (fr a LA ++ (Ll ++ p :: (Lr ++ bk b LB))) e w' := by
  obtain ⟨vp', vc', ps', cs', rfl, ho, hg, hc, hcase⟩ := hs
  have z := k1.size
  have hk := kids_join (p := p) hkl hkr
  refine ⟨vp', vc', ps', cs', ?_⟩
  rcases hcase with ⟨h7, rfl, ob, rfl, hn⟩ | ⟨h7, q1, x, q2, d1, d2, lb, rb, e1, e2, e3, e4, rfl, rfl, h1, h2⟩
  · refine ⟨LA ++ (Ll ++ p :: Lr) :: LB, rfl, ho, fun i hi => (hg i hi).imp id fun q => by omega, k1.trans hc, by simp only [List.length_append, List.length_cons]; omega, (all_on hF hFb z hg hc hA).app (.cons (nd_kid z hn (kids_on hF hFb z hg hc hk) (by simp only [List.length_append, List.length_cons]; omega) (by simp only [List.length_append, List.length_cons]; omega)) (all_on hF hFb z hg hc hB)), ?_, ?_⟩
    · rw [flat_at _ hla.symm]
      simp only [List.append_assoc, List.cons_append]
    · simp only [List.length_append]; omega
  · rw [e1, e2] at hk
    obtain ⟨L1, L2, eL, g1, g2⟩ := kids_split hk e4
    have hq := congrArg List.length e1
    simp only [List.length_append, List.length_cons] at hq
    refine ⟨LA ++ L1 :: L2 :: LB, rfl, ho, fun i hi => (hg i hi).imp id fun q => by omega, k1.trans hc, by simp only [List.length_append, List.length_cons]; omega, (all_on hF hFb z hg hc hA).app (.cons (nd_kid z h1 (kids_on hF hFb z hg hc g1) (by omega) (by omega)) (.cons (nd_kid z h2 (kids_on hF hFb z hg hc g2) (by omega) (by omega)) (all_on hF hFb z hg hc hB))), ?_, ?_⟩
    · rw [flat_app hla.symm]
      show fr a LA ++ (L1 ++ x :: flat b (L2 :: LB)) = _
      rw [flat_cons]
      have : Ll ++ p :: (Lr ++ bk b LB) = (Ll ++ p :: Lr) ++ bk b LB := by simp only [List.append_assoc, List.cons_append]
      rw [this, eL]
      simp only [List.append_assoc, List.cons_append]
    · simp only [List.length_append, List.length_cons]; omega
theorem set_plain (hF : ∀ i, F i → ¬ OwnS nb vp vc i) (hFb : ∀ i, F i → i < w.heap.size) (k1 : Ch (OwnS nb vp vc) w w1) (hla : a.length = LA.length) (hlb : b.length = LB.length) (hA : All2 (Kid F (h + 1) w1) cA LA) (hB : All2 (Kid F (h + 1) w1) cB LB) {cb m : Nat} {L : List Kv} (hc : TrIs F (h + 1) w1 (some cb) m L) (h3 : 3 ≤ m) (h7 : m ≤ 7) (ho : OwnN w0 w1 nb vp vc (a ++ b) (cA ++ cb :: cB)) : SetP F h w0 w nb vp vc (a.length + b.length) m (fr a LA ++ (L ++ bk b LB)) (.returned (.tuple #[])) w1 :=
  ⟨vp, vc, _, _, LA ++ L :: LB, rfl, ho, fun i hi => Or.inl hi, k1, by simp only [List.length_append, List.length_cons]; omega, (hA.imp fun c l q => q.ch (Ch.refl (fun _ => False) _) (fun _ _ f => f) fun i hi => ⟨Or.inl hi, hF i hi⟩).app (.cons (Kid.ch (show Kid F (h + 1) w1 cb L from ⟨m, h3, h7, hc⟩) (Ch.refl (fun _ => False) _) (fun _ _ f => f) fun i hi => ⟨Or.inl hi, hF i hi⟩) (hB.imp fun c l q => q.ch (Ch.refl (fun _ => False) _) (fun _ _ f => f) fun i hi => ⟨Or.inl hi, hF i hi⟩)), flat_at _ hla.symm, by simp only [List.length_append]; omega⟩
end
#print axioms set_plain
end Go.Proofs.Ytkpahhioiefcbaa
namespace Go.Proofs.Ytkpahhioiefcbaa
open Go.RowKit
set_option linter.unusedVariables false
set_option maxRecDepth 100000
set_option linter.unusedSimpArgs false

set_option maxHeartbeats 3200000 in
theorem set_any {F : Nat → Prop} {h : Nat} {w0 w : World} {nb : Nat} {vp vc : Value} {a b : List Kv} {cA cB : List Nat} {LA LB : List (List Kv)} {c0 cb m : Nat} {L : List Kv} (hO : OwnN w0 w nb vp vc (a ++ b) (cA ++ c0 :: cB)) (hl : a.length = cA.length) (hA : All2 (Kid F (h + 1) w) cA LA) (hB : All2 (Kid F (h + 1) w) cB LB) (hlb : b.length = cB.length)
    (hc : TrIs F (h + 1) w (some cb) m L) (hm : 2 ≤ m ∧ m ≤ 8) (hm2 : m < 3 → 0 < a.length + b.length) (hF : ∀ i, F i → ¬ OwnS nb vp vc i) (hFb : ∀ i, F i → i < w.heap.size) (hab : a.length + b.length ≤ 20) (hw0 : w0.heap.size ≤ w.heap.size) :
    Calls Try.prog 57 #[.pointer (some ⟨nb, 0, none⟩), .int .i64 (a.length : Int), .pointer (some ⟨cb, 0, none⟩)] w (SetP F h w0 w nb vp vc (a.length + b.length) m (fr a LA ++ (L ++ bk b LB))) := by
  obtain ⟨g, C, rfl, hown, hch, x1, x2⟩ := own_put hO cb
  have e1 : w.cell? ⟨nb, 1, none⟩ = some (.slice (some ⟨g, 0, none⟩) (cA.length + cB.length + 1) C) := by rw [blk_cell hO.blk]; rfl
  obtain ⟨w1, hw1⟩ : ∃ w1, w1 = w.setCell ⟨g, cA.length, none⟩ (.pointer (some ⟨cb, 0, none⟩)) := ⟨_, rfl⟩
  have hown' := hown
  have hch' := hch
  rw [← hw1] at hown' hch'
  have hA1 : All2 (Kid F (h + 1) w1) cA LA := hA.imp fun c l q => q.ch hch' hF fun i hi => hi
  have hB1 : All2 (Kid F (h + 1) w1) cB LB := hB.imp fun c l q => q.ch hch' hF fun i hi => hi
  have hc1 := hc.ch hch' hF
  obtain ⟨cb', qs, ds, ecb, hnd, rfl, hk⟩ := id hc1
  injection ecb with ecb
  subst ecb
  have hkd := hk
  obtain ⟨_, Aq, Cq, Ad, Cd, hbq, _, _⟩ := id hnd
  have q0 : w1.cell? ⟨cb, 0, none⟩ = some (.slice Aq qs.length Cq) := by rw [blk_cell hbq]; rfl
  obtain ⟨Ap, Cp, rfl⟩ := hO.pr.len
  have n0 : w1.cell? ⟨nb, 0, none⟩ = some (.slice Ap (a ++ b).length Cp) := by rw [blk_cell hown'.blk]; rfl
  obtain ⟨i, hi⟩ : ∃ i, i = a.length := ⟨_, rfl⟩
  obtain ⟨t, ht⟩ : ∃ t, t = cA.length + cB.length + 1 := ⟨_, rfl⟩
  obtain ⟨m, hmm⟩ : ∃ m, m = qs.length := ⟨_, rfl⟩
  obtain ⟨pl, hpl⟩ : ∃ m, m = (a ++ b).length := ⟨_, rfl⟩
  rw [← hmm] at q0
  rw [← hpl] at n0
  have hpl2 : pl = a.length + b.length := by rw [hpl, List.length_append]
  rw [← hl, ← hi] at x1 x2 hw1
  rw [← ht] at e1
  have i0 : (0 : Int) ≤ (i : Int) := Int.natCast_nonneg _
  have i1 : (i : Int) < (t : Int) := by omega
  have i2 : (i : Int) ≤ 20 := by omega
  have p0 : (0 : Int) ≤ (pl : Int) := Int.natCast_nonneg _
  have p1 : (pl : Int) ≤ 20 := by omega
  -- how each way ends
  have hE : Hid ((3 ≤ m → m ≤ 7 → SetP F h w0 w nb (.slice Ap pl Cp) (.slice (some ⟨g, 0, none⟩) t C) (a.length + b.length) m (fr a LA ++ (L ++ bk b LB)) (.returned (.tuple #[])) w1)) := Lib.hid fun h3 h7 => by
    rw [ht, hpl]
    exact set_plain hF hFb hch' (by rw [hl]; exact hA1.len) (by rw [hlb]; exact hB1.len) hA1 hB1 (by rw [hmm]; exact hc1) h3 h7 hown'
  have hS8 : Hid (7 < m → Calls Try.prog 59 #[.pointer (some ⟨nb, 0, none⟩), .int .i64 (i : Int)] w1 (SetP F h w0 w nb (.slice Ap pl Cp) (.slice (some ⟨g, 0, none⟩) t C) (a.length + b.length) m (fr a LA ++ (L ++ bk b LB)))) := Lib.hid fun h7 => by
    obtain ⟨q1, x, q2, d1, d2, m1, m2, m3, m4⟩ := mid_split qs ds (by omega) ((kids_len hkd).imp And.right And.right)
    have m5 := congrArg List.length m1
    simp only [List.length_append, List.length_cons] at m5
    rw [hi, ht, hpl]
    rw [m1, m2] at hnd hkd
    refine (split_any (F := F) hown' hnd hF hl (by omega) (by omega) (by omega) (by omega) (by omega) (Nat.le_trans hw0 hch'.size) m4).mono fun e w' q => ?_
    exact set_cut hF hFb hch' (by rw [hl]; exact hA1.len) (by rw [hlb]; exact hB1.len) hA1 hB1 hkd m4 (by omega) (by omega) (by omega) (by omega) h7 q
  have hJr : Hid (m < 3 → 0 < b.length → Calls Try.prog 67 #[.pointer (some ⟨nb, 0, none⟩), .int .i64 (i : Int)] w1 (SetP F h w0 w nb (.slice Ap pl Cp) (.slice (some ⟨g, 0, none⟩) t C) (a.length + b.length) m (fr a LA ++ (L ++ bk b LB)))) := Lib.hid fun h3 hb0 => by
    rw [hi, ht, hpl]
    match b, cB, LB, hB1, hlb, hb0, hown' with
    | p :: b', r :: cB', _, .cons (b := Lr) (m := LB') hr hB', hlb, _, hown' =>
      obtain ⟨mr, r3, r7, r', qr, dr, er, hndr, rfl, hkr⟩ := hr
      injection er with er
      subst er
      have hlb' : b'.length = cB'.length := by simpa using hlb
      simp only [List.length_cons] at hab
      refine (join_any (F := F) hown' hnd hndr hF hl (by omega) (by omega) (by omega) (by omega) (Nat.le_trans hw0 hch'.size) (kids_both hkd hkr)).mono fun e w' q => ?_
      have := set_join hF hFb hch' (by rw [hl]; exact hA1.len) (by rw [hlb']; exact hB'.len) hA1 hB' hkd hkr (by omega) (by omega) h3 q
      exact this
  have hJl : Hid (m < 3 → b.length = 0 → Calls Try.prog 67 #[.pointer (some ⟨nb, 0, none⟩), .int .i64 ((i : Int) - 1)] w1 (SetP F h w0 w nb (.slice Ap pl Cp) (.slice (some ⟨g, 0, none⟩) t C) (a.length + b.length) m (fr a LA ++ (L ++ bk b LB)))) := Lib.hid fun h3 hb0 => by
    have hbn : b = [] := List.eq_nil_of_length_eq_zero hb0
    subst hbn
    have hcn : cB = [] := List.eq_nil_of_length_eq_zero (by rw [← hlb]; rfl)
    subst hcn
    have hLn : LB = [] := List.eq_nil_of_length_eq_zero (by rw [← hB1.len]; rfl)
    subst hLn
    have ha0 : 0 < a.length := by have := hm2 (by omega); simpa using this
    obtain ⟨a', r, ea, hla⟩ := list_cut a (a.length - 1) (by omega)
    have hr1 : r.length = 1 := by have := congrArg List.length ea; rw [List.length_append] at this; omega
    obtain ⟨p, rfl⟩ : ∃ p, r = [p] := by
      match r, hr1 with
      | [p], _ => exact ⟨p, rfl⟩
    obtain ⟨l1, x, l2, k1, y, k2, ec, eL, g1, g2, hA', hx, hA2⟩ := hA1.split (cA.length - 1) (by omega)
    have hl2 : l2 = [] := List.eq_nil_of_length_eq_zero (by have := congrArg List.length ec; simp only [List.length_append, List.length_cons] at this; omega)
    subst hl2
    have hk2 : k2 = [] := List.eq_nil_of_length_eq_zero (by rw [← hA2.len]; rfl)
    subst hk2
    obtain ⟨ml, r3, r7, lb, qlq, dlq, elb, hndl, rfl, hkl⟩ := hx
    injection elb with elb
    subst elb
    have hii : ((i : Int) - 1) = (a'.length : Int) := by omega
    rw [hii, ht, hpl]
    have hown2 : OwnN w0 w1 nb (.slice Ap (a ++ []).length Cp) (.slice (some ⟨g, 0, none⟩) (cA.length + ([] : List Nat).length + 1) C) (a' ++ p :: []) (l1 ++ x :: cb :: []) := by
      have e1 : a ++ [] = a' ++ p :: [] := by rw [List.append_nil]; exact ea
      have e2 : cA ++ cb :: [] = l1 ++ x :: cb :: [] := by rw [ec, List.append_assoc]; rfl
      rw [← e2, ← e1]
      exact hown'
    have hla' : a'.length = l1.length := by omega
    simp only [List.length_nil, Nat.add_zero] at hab
    refine (join_any (F := F) hown2 hndl hnd hF hla' (by simp; omega) (by simp) (by omega) (by omega) (Nat.le_trans hw0 hch'.size) (kids_both hkl hkd)).mono fun e w' q => ?_
    have := set_join (LA := k1) (LB := []) (b := []) hF hFb hch' (by rw [hla']; exact hA'.len) rfl hA' .nil hkl hkd (by omega) (by omega) h3 q
    have e3 : a'.length + ([] : List Kv).length + 1 = a.length + ([] : List Kv).length := by rw [hla]; simp; omega
    have e4 : fr a' k1 ++ (y ++ p :: (L ++ bk [] [])) = fr a LA ++ (L ++ bk [] []) := by
      rw [ea, eL, fr_app (by rw [hla']; exact hA'.len.symm)]
      simp [fr]
    rw [e3, e4] at this
    exact this
  obtain ⟨nn, hnn⟩ : ∃ nn, nn = a.length + b.length := ⟨_, rfl⟩
  rw [← hnn] at hE hS8 hJr hJl
  rw [← hi, ← hpl, ← ht, ← hmm]
  rw [show i + b.length = nn by omega]
  have HNN := Lib.hid hnn
  have q1 := q0
  have n1 := n0
  rw [hw1] at q1 n1
  have HW := Lib.hid hw1
  have HQ := Lib.hid (And.intro q0 n0)
  have HI := Lib.hid (And.intro hi (And.intro hpl2 (And.intro hmm hm)))
  rw [← hmm] at hm2
  have HM2 := Lib.hid hm2
  have m1 : (m : Int) ≤ 8 := by omega
  have m0 : (0 : Int) ≤ (m : Int) := Int.natCast_nonneg _
  clear hnn hO hown hch hown' hch' hA hB hA1 hB1 hc hc1 hnd hk hkd hbq hF hFb hi hpl ht hmm hl hlb hpl2 hm hm2 hw1 q0 n0 hab hw0
  go_enter Try.func57, Try.ntmps57
  by_cases h8 : 7 < m
  · have t1 : (7 : Int) < (m : Int) := by omega
    go_wp2_with fail
    rw [← HW.out]
    refine (hS8.out h8).mono ?_
    rintro e w2 hq
    have HFIN := Lib.hid hq
    obtain ⟨_, _, _, _, _, rfl, _⟩ := hq
    clear h8
    go_wp2_with fail
    go_end0
    exact HFIN.out
  · have t1 : ¬ (7 : Int) < (m : Int) := by omega
    by_cases h3 : m < 3
    · have t3 : (m : Int) < 3 := by omega
      by_cases hb0 : 0 < b.length
      · have t4 : (i : Int) ≤ (pl : Int) - 1 := by have := HI.out; omega
        have HJ := Lib.hid (hJr.out h3 hb0)
        clear h3 hb0 h8
        go_wp2_with fail
        rw [← HW.out]
        refine HJ.out.mono ?_
        rintro e w2 hq
        have HFIN := Lib.hid hq
        obtain ⟨_, _, _, _, _, rfl, _⟩ := hq
        go_wp2_with fail
        go_end0
        exact HFIN.out
      · have t4 : ¬ (i : Int) ≤ (pl : Int) - 1 := by have := HI.out; omega
        have t5 : (pl : Int) = (i : Int) := by have := HI.out; omega
        have HJ := Lib.hid (hJl.out h3 (by omega))
        have HT5 := Lib.hid t5
        clear h3 hb0 h8 t5
        go_wp2_with fail
        rw [← HW.out, HT5.out]
        refine HJ.out.mono ?_
        rintro e w2 hq
        have HFIN := Lib.hid hq
        obtain ⟨_, _, _, _, _, rfl, _⟩ := hq
        go_wp2_with fail
        go_end0
        exact HFIN.out
    · have t3 : ¬ (m : Int) < 3 := by omega
      have HFIN := Lib.hid (hE.out (by omega) (by omega))
      clear h8 h3
      go_wp2_with fail
      rw [← HW.out]
      go_end0
      exact HFIN.out
#print axioms set_any
end Go.Proofs.Ytkpahhioiefcbaa
