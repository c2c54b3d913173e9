/-
  What set leaves, plainly.
-/
import Derived.Test.YtkpgaejmhddkdaaTreO
namespace Go.Proofs.Ytkpgaejmhddkdaa
open Go.RowKit
set_option linter.unusedVariables false
set_option maxRecDepth 100000
set_option linter.unusedSimpArgs false

/-- What was of F or is new, and not the node's own. -/
def FN (F : Nat → Prop) (w : World) (nb : Nat) (vp vc : Value) (i : Nat) : Prop := (F i ∨ w.heap.size ≤ i) ∧ ¬ OwnS nb vp vc i
/-- A node of one's own whose children have X, with its pairs between them: n pairs before; the child that was set has m in its root. -/
def SetP (F : Nat → Prop) (h : Nat) (w0 w : World) (nb : Nat) (vp vc : Value) (n m : Nat) (X : List Kv) (e : Ending) (w' : World) : Prop :=
  ∃ vp' vc' ps' cs' Ls', e = .returned (.tuple #[]) ∧ OwnN w0 w' nb vp' vc' ps' cs' ∧ (∀ i, OwnS nb vp' vc' i → OwnS nb vp vc i ∨ w.heap.size ≤ i) ∧ Ch (OwnS nb vp vc) w w' ∧ Ls'.length = ps'.length + 1 ∧ All2 (Kid (FN F w nb vp' vc') (h + 1) w') cs' Ls' ∧ flat ps' Ls' = X ∧
    ps'.length ≤ n + 1 ∧ n ≤ ps'.length + 1 ∧ (3 ≤ m → n ≤ ps'.length) ∧ (m ≤ 7 → ps'.length ≤ n)
section
variable {F : Nat → Prop} {h : Nat} {w0 w w1 w' : World} {nb : Nat} {vp vc : Value} {a b : List Kv} {cA cB : List Nat} {LA LB : List (List Kv)}
/-- The trees about, moved on. -/
theorem all_on (hF : ∀ i, F i → ¬ OwnS nb vp vc i) (hFb : ∀ i, F i → i < w.heap.size) (h1 : w.heap.size ≤ w1.heap.size) {vp' vc' : Value} (hg : ∀ i, OwnS nb vp' vc' i → OwnS nb vp vc i ∨ w1.heap.size ≤ i) (k : Ch (OwnS nb vp vc) w1 w') {h : Nat} {cs : List Nat} {Ls : List (List Kv)} (hA : All2 (Kid F h w1) cs Ls) : All2 (Kid (FN F w nb vp' vc') h w') cs Ls :=
  hA.imp fun c l q => q.ch k hF fun i hi => ⟨Or.inl hi, fun hs => by
    rcases hg i hs with e | e
    · exact hF i hi e
    · have := hFb i hi; omega⟩
theorem kids_on (hF : ∀ i, F i → ¬ OwnS nb vp vc i) (hFb : ∀ i, F i → i < w.heap.size) (h1 : w.heap.size ≤ w1.heap.size) {vp' vc' : Value} (hg : ∀ i, OwnS nb vp' vc' i → OwnS nb vp vc i ∨ w1.heap.size ≤ i) (k : Ch (OwnS nb vp vc) w1 w') {h : Nat} {ps : List Kv} {cs : List Nat} {L : List Kv} (hA : KidsP (TrIs F h w1) h ps cs L) : KidsP (TrIs (FN F w nb vp' vc') h w') h ps cs L :=
  hA.imp fun p m l q => (q.ch k hF).mono fun i hi _ => ⟨Or.inl hi, fun hs => by
    rcases hg i hs with e | e
    · exact hF i hi e
    · have := hFb i hi; omega⟩
theorem nd_kid {w' : World} {vp' vc' : Value} (h1 : w.heap.size ≤ w1.heap.size) {c : Nat} {qs : List Kv} {ds : List Nat} {L : List Kv} (hn : NdAt (fun i => w1.heap.size ≤ i ∧ ¬ OwnS nb vp' vc' i) w' c qs ds) (hk : KidsP (TrIs (FN F w nb vp' vc') h w') h qs ds L) (h3 : 3 ≤ qs.length) (h7 : qs.length ≤ 7) : Kid (FN F w nb vp' vc') (h + 1) w' c L :=
  ⟨qs.length, h3, h7, c, qs, ds, rfl, hn.mono fun i hi _ => ⟨Or.inr (by have := hi.1; omega), hi.2⟩, rfl, hk⟩
theorem set_cut (hF : ∀ i, F i → ¬ OwnS nb vp vc i) (hFb : ∀ i, F i → i < w.heap.size) (k1 : Ch (OwnS nb vp vc) w w1) (hla : a.length = LA.length) (hlb : b.length = LB.length) (hA : All2 (Kid F (h + 1) w1) cA LA) (hB : All2 (Kid F (h + 1) w1) cB LB) {q1 q2 : List Kv} {x : Kv} {d1 d2 : List Nat} {L : List Kv} (hk : KidsP (TrIs F h w1) h (q1 ++ x :: q2) (d1 ++ d2) L)
    (hd : (d1 = [] ∧ d2 = []) ∨ (d1.length = q1.length + 1 ∧ d2.length = q2.length + 1)) (s1 : 3 ≤ q1.length) (s2 : q1.length ≤ 7) (s3 : 3 ≤ q2.length) (s4 : q2.length ≤ 7) {m : Nat} (hm : 7 < m) {e : Ending} (hs : SplitP w0 w1 nb vp vc a b cA cB q1 q2 x d1 d2 e w') : SetP F h w0 w nb vp vc (a.length + b.length) m (fr a LA ++ (L ++ bk b LB)) e w' := by
  obtain ⟨vp', vc', lb, rb, rfl, ho, hg, h1, h2, hc⟩ := hs
  obtain ⟨L1, L2, rfl, g1, g2⟩ := kids_split hk hd
  have z := k1.size
  refine ⟨vp', vc', _, _, LA ++ L1 :: L2 :: LB, rfl, ho, fun i hi => (hg i hi).imp id fun q => by omega, k1.trans hc, by simp only [List.length_append, List.length_cons]; omega, (all_on hF hFb z hg hc hA).app (.cons (nd_kid z h1 (kids_on hF hFb z hg hc g1) s1 s2) (.cons (nd_kid z h2 (kids_on hF hFb z hg hc g2) s3 s4) (all_on hF hFb z hg hc hB))), ?_, ?_⟩
  · rw [flat_app hla.symm]
    show fr a LA ++ (L1 ++ x :: flat b (L2 :: LB)) = _
    rw [flat_cons]
    simp only [List.append_assoc, List.cons_append]
  · simp only [List.length_append, List.length_cons]; omega
theorem set_join (hF : ∀ i, F i → ¬ OwnS nb vp vc i) (hFb : ∀ i, F i → i < w.heap.size) (k1 : Ch (OwnS nb vp vc) w w1) (hla : a.length = LA.length) (hlb : b.length = LB.length) (hA : All2 (Kid F (h + 1) w1) cA LA) (hB : All2 (Kid F (h + 1) w1) cB LB) {ql qr : List Kv} {p : Kv} {dl dr : List Nat} {Ll Lr : List Kv} (hkl : KidsP (TrIs F h w1) h ql dl Ll) (hkr : KidsP (TrIs F h w1) h qr dr Lr)
    (s1 : 5 ≤ ql.length + qr.length) (s2 : ql.length + qr.length ≤ 14) {m : Nat} (hm : m < 3) {e : Ending} (hs : JoinP w0 w1 nb vp vc a b p cA cB ql qr dl dr e w') : SetP F h w0 w nb vp vc (a.length + b.length + 1) m (fr a LA ++ (Ll ++ p :: (Lr ++ bk b LB))) e w' := by
  obtain ⟨vp', vc', ps', cs', rfl, ho, hg, hc, hcase⟩ := hs
  have z := k1.size
  have hk := kids_join (p := p) hkl hkr
  refine ⟨vp', vc', ps', cs', ?_⟩
  rcases hcase with ⟨h7, rfl, ob, rfl, hn⟩ | ⟨h7, q1, x, q2, d1, d2, lb, rb, e1, e2, e3, e4, rfl, rfl, h1, h2⟩
  · refine ⟨LA ++ (Ll ++ p :: Lr) :: LB, rfl, ho, fun i hi => (hg i hi).imp id fun q => by omega, k1.trans hc, by simp only [List.length_append, List.length_cons]; omega, (all_on hF hFb z hg hc hA).app (.cons (nd_kid z hn (kids_on hF hFb z hg hc hk) (by simp only [List.length_append, List.length_cons]; omega) (by simp only [List.length_append, List.length_cons]; omega)) (all_on hF hFb z hg hc hB)), ?_, ?_⟩
    · rw [flat_at _ hla.symm]
      simp only [List.append_assoc, List.cons_append]
    · simp only [List.length_append]; omega
  · rw [e1, e2] at hk
    obtain ⟨L1, L2, eL, g1, g2⟩ := kids_split hk e4
    have hq := congrArg List.length e1
    simp only [List.length_append, List.length_cons] at hq
    refine ⟨LA ++ L1 :: L2 :: LB, rfl, ho, fun i hi => (hg i hi).imp id fun q => by omega, k1.trans hc, by simp only [List.length_append, List.length_cons]; omega, (all_on hF hFb z hg hc hA).app (.cons (nd_kid z h1 (kids_on hF hFb z hg hc g1) (by omega) (by omega)) (.cons (nd_kid z h2 (kids_on hF hFb z hg hc g2) (by omega) (by omega)) (all_on hF hFb z hg hc hB))), ?_, ?_⟩
    · rw [flat_app hla.symm]
      show fr a LA ++ (L1 ++ x :: flat b (L2 :: LB)) = _
      rw [flat_cons]
      have : Ll ++ p :: (Lr ++ bk b LB) = (Ll ++ p :: Lr) ++ bk b LB := by simp only [List.append_assoc, List.cons_append]
      rw [this, eL]
      simp only [List.append_assoc, List.cons_append]
    · simp only [List.length_append, List.length_cons]; omega
theorem set_plain (hF : ∀ i, F i → ¬ OwnS nb vp vc i) (hFb : ∀ i, F i → i < w.heap.size) (k1 : Ch (OwnS nb vp vc) w w1) (hla : a.length = LA.length) (hlb : b.length = LB.length) (hA : All2 (Kid F (h + 1) w1) cA LA) (hB : All2 (Kid F (h + 1) w1) cB LB) {cb m : Nat} {L : List Kv} (hc : TrIs F (h + 1) w1 (some cb) m L) (h3 : 3 ≤ m) (h7 : m ≤ 7) (ho : OwnN w0 w1 nb vp vc (a ++ b) (cA ++ cb :: cB)) : SetP F h w0 w nb vp vc (a.length + b.length) m (fr a LA ++ (L ++ bk b LB)) (.returned (.tuple #[])) w1 :=
  ⟨vp, vc, _, _, LA ++ L :: LB, rfl, ho, fun i hi => Or.inl hi, k1, by simp only [List.length_append, List.length_cons]; omega, (hA.imp fun c l q => q.ch (Ch.refl (fun _ => False) _) (fun _ _ f => f) fun i hi => ⟨Or.inl hi, hF i hi⟩).app (.cons (Kid.ch (show Kid F (h + 1) w1 cb L from ⟨m, h3, h7, hc⟩) (Ch.refl (fun _ => False) _) (fun _ _ f => f) fun i hi => ⟨Or.inl hi, hF i hi⟩) (hB.imp fun c l q => q.ch (Ch.refl (fun _ => False) _) (fun _ _ f => f) fun i hi => ⟨Or.inl hi, hF i hi⟩)), flat_at _ hla.symm, by simp only [List.length_append]; omega⟩
end
#print axioms set_plain
end Go.Proofs.Ytkpgaejmhddkdaa
