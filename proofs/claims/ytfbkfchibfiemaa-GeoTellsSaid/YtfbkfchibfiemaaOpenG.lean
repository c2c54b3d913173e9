/-
  A geometry that is handed in, opened.
-/
import Derived.Test.YtfbkfchibfiemaaOpn
import Derived.Test.YtfbkfchibfiemaaGeoM
import Derived.Deep.Slices
import Derived.Deep.Fields
import Derived.ChangeSame
namespace Go.Proofs.Ytfbkfchibfiemaa
open Go.ChangeShapes Go.WideShapes Go.ChangeAt Go.RowKit Go.Deep
set_option linter.unusedVariables false
set_option maxRecDepth 100000

theorem under_geo_int : Try.prog.underlying /-t-/3 = some (.int .i64) := by kernel_rfl
theorem cellsGeo : Try.prog.cellsOf 23 = 4 := by kernel_rfl
theorem open_geo {H : Type} {enc : TypeId × Value → H} {W : World} {v : Value} {d : DataW H} {p : List MemPlace} {b0 : Nat} {r : Reach} (hv : Value.okWide Try.prog W r b0 23 v) (h : DataW.Trod enc Try.prog W 0 (fun _ => true) true 23 v d p) : ∃ g : Ge, GeIs g ∧ v = .agg (geC g) := by
  simp only [Value.okWide, Try.underlying23] at hv
  obtain ⟨xs, rfl, h2, _⟩ := hv
  obtain ⟨fuel, hf⟩ := h
  obtain ⟨ys, n', hn', hy, hlen', hyl, hfl⟩ := DataW.trod_struct Try.underlying23 hf
  obtain ⟨l⟩ := xs
  have hlen4 : l.length = 4 := by
    have : l.length = Try.prog.cellsOf 23 := by simpa using h2
    exact this.trans cellsGeo
  match l, hlen4 with
  | [x0, x1, x2, x3], _ =>
    have g0 : DataW.trod enc Try.prog W 0 (fun _ => true) true n' /-t-/3 [x0] = ys[0]? := hfl 0 _ rfl
    have g1 : DataW.trod enc Try.prog W 0 (fun _ => true) true n' /-t-/3 [x1] = ys[1]? := hfl 1 _ rfl
    have g2 : DataW.trod enc Try.prog W 0 (fun _ => true) true n' /-t-/3 [x2] = ys[2]? := hfl 2 _ rfl
    have g3 : DataW.trod enc Try.prog W 0 (fun _ => true) true n' /-t-/3 [x3] = ys[3]? := hfl 3 _ rfl
    have hys : ys.length = 4 := hyl
    match ys, hys with
    | [y0, y1, y2, y3], _ =>
      obtain ⟨a0, e0, _, w0⟩ := DataW.trod_int under_geo_int g0
      obtain ⟨a1, e1, _, w1⟩ := DataW.trod_int under_geo_int g1
      obtain ⟨a2, e2, _, w2⟩ := DataW.trod_int under_geo_int g2
      obtain ⟨a3, e3, _, w3⟩ := DataW.trod_int under_geo_int g3
      simp only [List.cons.injEq, and_true] at e0 e1 e2 e3
      refine ⟨⟨a0, a1, a2, a3⟩, ⟨b64 w0, b64 w1, b64 w2, b64 w3⟩, ?_⟩
      rw [e0, e1, e2, e3]
      rfl
#print axioms open_geo
end Go.Proofs.Ytfbkfchibfiemaa
