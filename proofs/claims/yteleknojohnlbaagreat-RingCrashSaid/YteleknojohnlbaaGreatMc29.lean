/-
  A range over a function whose rounds are told more than what comes: 'Gv x W' is what holds of x in the world in which it is handed over (where its bytes lie, say).
-/
import Derived.Test.YteleknojohnlbaaGreatMc16
namespace Go.Proofs.YteleknojohnlbaaGreat
open Go.RowKit
set_option linter.unusedVariables false
set_option maxRecDepth 100000
section
variable {α : Type} {F : Fence} {n : Nat} {P : Program}
def OwnX {β : Type} (B N : Nat) (I : β → World → Prop) : Prop :=
  ∀ s W W' row, I s W → W.grownBy W' row → (∀ r, row = some r → (B ≤ r ∧ ∃ o : Obj, W.heap[r]? = some o ∧ o.isCells = false) ∨ r = N) → I s W'
theorem OwnX.from {β : Type} {B N : Nat} {I : β → World → Prop} (h : OwnX B N I) : OwnFrom B I := fun s W W' row hs hg hr => h s W W' row hs hg fun r e => Or.inl (hr r e)
def AbidesX {β : Type} (N : Nat) (J : β → World → Prop) : Prop :=
  ∀ s W W' row, J s W → W.grownBy W' row → (∀ r, row = some r → (N ≤ r ∧ ∃ o : Obj, W.heap[r]? = some o ∧ o.isWalk = true) ∨ r = N) → J s W'
def SeqGiven (F : Fence) (n : Nat) (P : Program) (g : Nat) (lb : Array Value) (encs : α → Array Value) (Kp : World → World → Prop) (Gv : α → World → Prop) (S Sp : List α → Prop) (N n1 : Nat) (w : World) : Prop :=
  ∀ (l : Nat) (J Jx : List α → World → Prop) (W : World), W.heap.size = n1 → Below w.heap.size w W → AbidesX n1 J → AbidesX n1 Jx →
    (∀ pre x V, J pre V → Gv x V → pre.length < N → YieldAt F (n - 1) P l (encs x) V fun e V' => (e = .returned (.bool true) ∧ J (pre ++ [x]) V' ∧ Kp V V') ∨ (e = .returned (.bool false) ∧ Jx (pre ++ [x]) V')) →
    J [] W →
    CallsIn F n P g (#[.func (.yield l) #[] #[]] ++ lb) W fun e V => (∃ v, e = .returned v) ∧ ((∃ xs, S xs ∧ J xs V) ∨ (∃ pre, Sp pre ∧ Jx pre V))
def Books (D : Nat) (r : Loop) (W : World) : Prop := W.heap[D + 1]? = some (.loop r) ∧ W.heap[D]? = some (.deferred (some []))
theorem Books.lt {D : Nat} {r : Loop} {W : World} (h : Books D r W) : D + 1 < W.heap.size := (Array.getElem?_eq_some_iff.1 h.1).1
theorem Books.put {D : Nat} {r : Loop} {W : World} (h : Books D r W) (r' : Loop) : Books D r' (W.putObj (D + 1) (.loop r')) := ⟨World.putObj_heap_same h.lt, (World.putObj_heap_other (by omega)).trans h.2⟩
theorem Books.keep {D : Nat} {r : Loop} {W W' : World} (h : Books D r W) (k : KeepsFrom D W W') : Books D r W' := ⟨k.same _ _ (by omega) h.1 rfl, k.same _ _ (Nat.le_refl _) h.2 rfl⟩
theorem Books.walk {D N : Nat} {r : Loop} {W W' : World} {row : Option Nat} (h : Books D r W) (hg : W.grownBy W' row) (hN : D + 1 < N) (hr : ∀ i, row = some i → (N ≤ i ∧ ∃ o : Obj, W.heap[i]? = some o ∧ o.isWalk = true) ∨ i = N) : Books D r W' := by
  have hn : ∀ i, row = some i → N ≤ i := fun i e => (hr i e).elim (fun q => q.1) (fun q => Nat.le_of_eq q.symm)
  have k : ∀ j, j ≤ D + 1 → W'.heap[j]? = W.heap[j]? := fun j hj => hg.block j (Nat.lt_of_le_of_lt hj h.lt) fun e => by have := hn j e.symm; omega
  exact ⟨(k _ (Nat.le_refl _)).trans h.1, (k _ (Nat.le_succ _)).trans h.2⟩
theorem ownX_walk {β : Type} {B C : Nat} {I : β → World → Prop} (h : OwnX B C I) (hB : B ≤ C) {s : β} {W W' : World} {row : Option Nat} (hs : I s W) (hg : W.grownBy W' row) (hr : ∀ i, row = some i → (C ≤ i ∧ ∃ o : Obj, W.heap[i]? = some o ∧ o.isWalk = true) ∨ i = C) : I s W' :=
  h s W W' row hs hg fun i e => by
    rcases hr i e with ⟨h1, o, h2, h3⟩ | q
    · exact Or.inl ⟨Nat.le_trans hB h1, o, h2, Obj.not_cells_of_walk h3⟩
    · exact Or.inr q
theorem wpIn_rangeFunc_given {g : Operand} {ps : Array Tmp} {assign body : Code} {Q : Exit → Act → World → Prop} {a : Act} {w w0 : World} (hro : F.round = none) (h1 : 1 ≤ n) {gf : Nat} {lb : Array Value}
    (hg : a.eval g = .func (.func gf) #[] lb) (hF : F.fn gf) (eg : ∀ args w, (callFunc gf args).run P w = .ok (.enter gf args) w)
    {encs : α → Array Value} {Kp : World → World → Prop} {Gv : α → World → Prop} {S Sp : List α → Prop} {N : Nat} (hseq : SeqGiven F (n - 1) P gf lb encs Kp Gv S Sp N (w.heap.size + 2) w0)
    (hKt : ∀ {A B C : World}, Kp A B → Kp B C → Kp A C) (hKb : ∀ (W : World) (l : Nat) (o o' : Obj), w.heap.size ≤ l → W.heap[l]? = some o → o.isCells = false → o.isWalk = false → Kp W (W.putObj l o')) (hb0 : Below w0.heap.size w0 w) (hps : ∀ x, (encs x).size = ps.size)
    (hGv : ∀ x, OwnFrom w.heap.size (fun (_ : Unit) W => Gv x W)) (I : List α → World → Prop) (Ix : Code → List α → World → Prop) (hI : OwnX w.heap.size (w.heap.size + 2) I) (hIx : ∀ c, OwnX w.heap.size (w.heap.size + 2) (Ix c)) (h0 : I [] w) 
    (hround : ∀ (l : Nat) (pre : List α) (x : α) (W : World), I pre W → Gv x W → pre.length < N → assign.wpIn (F.inRound l) (n - 1 - 1) P (Exit.then (fun a1 W1 => KeepsFrom w.heap.size W W1 ∧ Kp W W1 ∧
      ∀ (L : Nat) (o o' : Obj), w.heap.size ≤ L → W1.heap[L]? = some o → o.isCells = false → o.isWalk = false → body.wpIn (F.inRound l) (n - 1 - 1) P (ownPostG w.heap.size Kp I Ix (pre ++ [x]) (W1.putObj L o')) a1 (W1.putObj L o')) (fun _ _ _ => False))
      { tmps := (ps.zip (encs x)).foldl (fun t (p, v) => t.setIfInBounds p v) a.tmps, defers := [] } W)
    (hdone : ∀ (D : Nat) (xs : List α) (W : World), w.heap.size ≤ D → S xs → I xs W → W.heap[D]? = some (.deferred (some [])) → Q .normal { a with defers := { target := .collected D, args := #[] } :: a.defers } W)
    (hstop : ∀ (D : Nat) (c : Code) (pre : List α) (W : World), w.heap.size ≤ D → Sp pre → Ix c pre W → W.heap[D]? = some (.deferred (some [])) → c.wpIn F n P Q { a with defers := { target := .collected D, args := #[] } :: a.defers } W) :
    (Code.rangeFunc g ps assign body).wpIn F n P Q a w := by
  refine wpIn_rangeFunc fun fn hfn => ?_
  rw [hro]
  let mk : LoopState → Option Code → Loop := fun st pe => { state := st, pending := pe, fn, tmps := a.tmps, params := ps, assign, body, defers := w.heap.size }
  obtain ⟨W1, hW1⟩ : ∃ W1, (w.alloc (.deferred (some []))).alloc (.loop (mk .ready none)) = W1 := ⟨_, rfl⟩
  have start : Books w.heap.size (mk .ready none) W1 := by
    subst hW1
    have e := World.alloc_heap_new (w.alloc (.deferred (some []))) (.loop (mk .ready none))
    rw [World.size_alloc] at e
    exact ⟨e, (Below.heap_alloc _ _ _ (by simp)).trans (World.alloc_heap_new w _)⟩
  have wide : w.heap.size ≤ W1.heap.size := by rw [← hW1]; simp; omega
  -- a turn of the record alone
  have turn : ∀ {xs : List α} {W : World} {r r' : Loop}, Books w.heap.size r W → I xs W → I xs (W.putObj (w.heap.size + 1) (.loop r')) := fun hb hi => hI.from.putObj _ hi (by omega) hb.1 rfl
  refine ⟨w.heap.size + 1, [{ target := .collected w.heap.size, args := #[] }], W1, { target := .fn (.func gf) lb, args := #[.func (.yield (w.heap.size + 1)) #[] #[]] }, W1, gf, #[.func (.yield (w.heap.size + 1)) #[] #[]] ++ lb, W1, ?_, ?_, ?_, ?_, fun _ => h1, ?_⟩
  · rw [← hW1]; exact run_enterLoop_outer _ _ _ _ _
  · simp only [resolve, hg]; simp [go_sem]
  · intro f' hf'; simp [Target.leads] at hf'; subst hf'; exact hF
  · simp [invoke, go_sem, eg]
  refine (hseq (w.heap.size + 1) (fun pre W => I pre W ∧ Books w.heap.size (mk .ready none) W) (fun pre W => ∃ c, Ix c pre W ∧ Books w.heap.size (mk .done (some c)) W) W1 (by rw [← hW1]; simp)
    (by rw [← hW1]; exact hb0.trans ((((Below.refl _ w).alloc (Nat.le_refl _) _).alloc (by simp) _).mono hb0.size))
    (fun xs A B row hs hgr hr => ⟨ownX_walk hI (by omega) hs.1 hgr hr, hs.2.walk hgr (by omega) hr⟩)
    (fun xs A B row hs hgr hr => by obtain ⟨c, h2, h3⟩ := hs; exact ⟨c, ownX_walk (hIx c) (by omega) h2 hgr hr, h3.walk hgr (by omega) hr⟩)
    ?_ ⟨by rw [← hW1]; exact hI.from.alloc _ (hI.from.alloc _ h0), start⟩).mono ?_
  · rintro pre x W ⟨hi, hb⟩ hgv hlen
    refine ⟨fn, _, assign, body, run_yield (P := P) (args := encs x) hb.1 (hps x), roundIn_of_wpIn hfn (wpIn_mono (hround _ pre x W hi hgv hlen) ?_)⟩
    rintro e1 a1 W1 he1
    cases e1 with
    | normal => ?_
    | ret => exact he1.elim
    | exit id => exact he1.elim
    | goto t => exact he1.elim
    | panic ch => exact he1.elim
    | outgrown => exact he1.elim
    obtain ⟨hk1, hkp1, hbd⟩ := he1
    have hb1 := hb.keep hk1
    refine ⟨_, run_beginRound hb1.1 rfl, ?_⟩
    have hb2 := hb1.put (mk .busy none)
    have k2 : Kp W (W1.putObj (w.heap.size + 1) (.loop (mk .busy none))) := hKt hkp1 (hKb _ _ _ _ (by omega) hb1.1 rfl rfl)
    refine wpIn_mono (hbd (w.heap.size + 1) _ _ (by omega) hb1.1 rfl rfl) ?_
    -- how a round ends
    have ends : ∀ (j : Option Code) (W3 : World), KeepsFrom w.heap.size (W1.putObj (w.heap.size + 1) (.loop (mk .busy none))) W3 →
        (Instr.endRound (w.heap.size + 1) j).run P W3 = .ok (.bool j.isNone) (W3.putObj (w.heap.size + 1) (.loop (mk (if j.isNone then .ready else .done) j))) ∧ Books w.heap.size (mk .busy none) W3 := fun j W3 hk => by
      have hb3 := hb2.keep hk
      exact ⟨run_endRound (P := P) j hb3.1, hb3⟩
    rintro e a3 W3 hp
    have left : ∀ c : Code, KeepsFrom w.heap.size (W1.putObj (w.heap.size + 1) (.loop (mk .busy none))) W3 → Ix c (pre ++ [x]) W3 →
        (Instr.endRound (w.heap.size + 1) (some c)).run P W3 = .ok (.bool false) (W3.putObj (w.heap.size + 1) (.loop (mk .done (some c)))) ∧ ∃ c', Ix c' (pre ++ [x]) (W3.putObj (w.heap.size + 1) (.loop (mk .done (some c)))) ∧ Books w.heap.size (mk .done (some c')) (W3.putObj (w.heap.size + 1) (.loop (mk .done (some c)))) := fun c hk hx => by
      obtain ⟨hr, hb3⟩ := ends (some c) W3 hk
      exact ⟨hr, c, (hIx c).from.putObj _ hx (by omega) hb3.1 rfl, hb3.put _⟩
    cases e with
    | normal =>
      obtain ⟨hk, hkp, hi3⟩ := hp
      obtain ⟨hr, hb3⟩ := ends none W3 hk
      exact ⟨_, _, hr, .inl ⟨rfl, ⟨turn hb3 hi3, hb3.put _⟩, hKt (hKt k2 hkp) (hKb _ _ _ _ (by omega) hb3.1 rfl rfl)⟩⟩
    | ret => obtain ⟨hr, h⟩ := left .ret hp.1 hp.2; exact ⟨_, _, hr, .inr ⟨rfl, h⟩⟩
    | exit id => obtain ⟨hr, h⟩ := left (.exit id) hp.1 hp.2; exact ⟨_, _, hr, .inr ⟨rfl, h⟩⟩
    | goto t => obtain ⟨hr, h⟩ := left (.goto t) hp.1 hp.2; exact ⟨_, _, hr, .inr ⟨rfl, h⟩⟩
    | panic ch => exact hp.elim
    | outgrown => exact hp.elim
  · rintro e W2 ⟨⟨v, rfl⟩, (⟨xs, hS, hi, hb⟩ | ⟨pre, hSp, c, hi, hb⟩)⟩
    · exact ⟨none, _, run_endLoop (P := P) hb.1 (by simp [mk]), hdone _ xs _ (Nat.le_refl _) hS (turn hb hi) ((World.putObj_heap_other (by omega)).trans hb.2)⟩
    · exact ⟨some c, _, run_endLoop (P := P) hb.1 (by simp [mk]), hstop _ c pre _ (Nat.le_refl _) hSp ((hIx c).from.putObj _ hi (by omega) hb.1 rfl) ((World.putObj_heap_other (by omega)).trans hb.2)⟩
end
end Go.Proofs.YteleknojohnlbaaGreat
