/-
  A block that is handed in, opened.
-/
import Derived.Test.YtennkpjmdhidaaaOpenB
import Derived.Test.YtennkpjmdhidaaaBlkM
import Derived.Deep.Slices
import Derived.Deep.Fields
import Derived.ChangeSame
namespace Go.Proofs.Ytennkpjmdhidaaa
open Go.ChangeShapes Go.WideShapes Go.ChangeAt Go.RowKit Go.Deep
set_option linter.unusedVariables false

/-- The reach of a field that is a row, in a struct by value. -/
theorem reach_part {H : Type} {P : Program} {ts : List TypeId} {ds : List (DataW H)} (h : (DataW.weightsEach P ts ds).all (· ≤ reachBytes) = true) {j k : Nat} {t s q : TypeId} {fs : Array Field} {parts e' sp' : List (DataW H)}
    (ht : ts[j]? = some t) (hd : ds[j]? = some (.agg parts)) (hs : P.underlying t = some (.struct fs)) (hf : (fs.toList.map (·.type))[k]? = some s) (hp : parts[k]? = some (.slice e' sp')) (hu2 : P.underlying s = some (.slice q)) : (e'.length + sp'.length) * P.bytesOf q ≤ reachBytes := by
  refine of_decide_eq_true (List.all_eq_true.1 h _ (DataW.weights_mem_each ht hd _ ?_))
  simp only [DataW.weights, hs]
  exact DataW.weights_mem_each hf hp _ (by simp [DataW.weights, hu2])
theorem cellsK : Try.prog.cellsOf 24 = 6 := by kernel_rfl
theorem open_block {H : Type} {enc : TypeId × Value → H} {W : World} {v : Value} {d : DataW H} {p : List MemPlace} {b0 : Nat} {r : Reach} (hv : Value.okWide Try.prog W r b0 24 v) (h : DataW.Trod enc Try.prog W 0 (fun _ => true) true 24 v d p)
    (s1 : ∀ parts e' sp', d = .agg parts → parts[5]? = some (.slice e' sp') → (e'.length + sp'.length) * 1 ≤ reachBytes) : ∃ b : Bk, BkIs W b ∧ v = .agg (bkC b) := by
  simp only [Value.okWide, Try.underlying24] at hv
  obtain ⟨xs, rfl, h2, _⟩ := hv
  obtain ⟨fuel, hf⟩ := h
  obtain ⟨ys, n', hn', hy, hlen', hyl, hfl⟩ := DataW.trod_struct Try.underlying24 hf
  obtain ⟨l⟩ := xs
  have hlen6 : l.length = 6 := by
    have : l.length = Try.prog.cellsOf 24 := by simpa using h2
    exact this.trans cellsK
  match l, hlen6 with
  | [x0, x1, x2, x3, x4, x5], _ =>
    have g0 : DataW.trod enc Try.prog W 0 (fun _ => true) true n' /-t-/3 [x0] = ys[0]? := hfl 0 _ rfl
    have g1 : DataW.trod enc Try.prog W 0 (fun _ => true) true n' /-t-/3 [x1] = ys[1]? := hfl 1 _ rfl
    have g2 : DataW.trod enc Try.prog W 0 (fun _ => true) true n' /-t-/3 [x2] = ys[2]? := hfl 2 _ rfl
    have g3 : DataW.trod enc Try.prog W 0 (fun _ => true) true n' /-t-/3 [x3] = ys[3]? := hfl 3 _ rfl
    have g4 : DataW.trod enc Try.prog W 0 (fun _ => true) true n' /-t-/3 [x4] = ys[4]? := hfl 4 _ rfl
    have g5 : DataW.trod enc Try.prog W 0 (fun _ => true) true n' /-t-/22 [x5] = ys[5]? := hfl 5 _ rfl
    have hys : ys.length = 6 := hyl
    match ys, hys with
    | [y0, y1, y2, y3, y4, y5], _ =>
      obtain ⟨a0, e0, _, w0⟩ := DataW.trod_int Try.underlying3 g0
      obtain ⟨a1, e1, _, w1⟩ := DataW.trod_int Try.underlying3 g1
      obtain ⟨a2, e2, _, w2⟩ := DataW.trod_int Try.underlying3 g2
      obtain ⟨a3, e3, _, w3⟩ := DataW.trod_int Try.underlying3 g3
      obtain ⟨a4, e4, _, w4⟩ := DataW.trod_int Try.underlying3 g4
      have g5' : DataW.trod enc Try.prog W 0 (fun _ => true) true n' /-t-/22 [x5] = some y5 := g5
      simp only [Prod.mk.injEq] at hy
      obtain ⟨n, z, hr⟩ := row_of g5' (fun elems spare e => s1 _ elems spare hy.1 (by simpa using e))
      simp only [List.cons.injEq, and_true] at e0 e1 e2 e3 e4
      refine ⟨⟨a0, a1, a2, a3, a4, x5, n, z⟩, ⟨b64 w0, b64 w1, b64 w2, b64 w3, b64 w4, hr⟩, ?_⟩
      rw [e0, e1, e2, e3, e4]
      rfl
#print axioms open_block
end Go.Proofs.Ytennkpjmdhidaaa
