/-
  A fault, and bools, that are handed in, opened.
-/
import Derived.Test.YtjibfoplihaabaaMg3
import Derived.Test.YtjibfoplihaabaaMg11
import Derived.Deep.Slices
import Derived.Deep.Fields
import Derived.Deep.Grids
import Derived.ChangeSame
import Derived.Test.YtjibfoplihaabaaMg10
namespace Go.Proofs.Ytjibfoplihaabaa
open Go.ChangeShapes Go.WideShapes Go.ChangeAt Go.RowKit Go.Deep
set_option linter.unusedVariables false
set_option maxRecDepth 100000

theorem cellsL : Try.prog.cellsOf 4 = 1 := by kernel_rfl
/-- Bools. -/
theorem bools_of {H : Type} {enc : TypeId × Value → H} {W : World} {v : Value} {x : DataW H × List MemPlace} {fuel : Nat} (h : DataW.trod enc Try.prog W 0 (fun _ => true) true fuel /-t-/63 [v] = some x) : ∃ n q, RowQ W v n q := by
  rcases open_bools Try.underlying63 Try.underlying4 cellsL h with ⟨hcs, _⟩ | ⟨a, len, cap, B, hcs, _, hl, hm, _, hc⟩
  · simp at hcs
    exact ⟨0, fun _ => false, none, 0, hcs, by omega, fun h => absurd h (Nat.lt_irrefl 0)⟩
  · simp at hcs
    refine ⟨len, B, some a, cap, hcs, by unfold maxLen at hm; omega, fun h0 => ?_⟩
    obtain ⟨b, o, rfl⟩ := addr_none (hc 0 (by omega))
    exact ⟨b, o, rfl, fun c hcl => by have := hc c (by omega); rwa [add_pl] at this⟩
theorem open_bools_arg {H : Type} {enc : TypeId × Value → H} {W : World} {v : Value} {d : DataW H} {p : List MemPlace} (hv : ∃ a len cap, v = .slice a len cap) (h : DataW.Trod enc Try.prog W 0 (fun _ => true) true /-t-/63 v d p) : ∃ n q, RowQ W v n q := by
  obtain ⟨a0, len, cap, rfl⟩ := hv
  obtain ⟨fuel, hf⟩ := h
  exact bools_of hf
/-- A fault, by its cells. -/
theorem fault_of {H : Type} {enc : TypeId × Value → H} {W : World} {cs : List Value} {x : DataW H × List MemPlace} {fuel : Nat} (h : DataW.trod enc Try.prog W 0 (fun _ => true) true fuel 45 cs = some x) : ∃ f : Fa, FaOk f ∧ cs = (faC f).toList := by
  obtain ⟨ys, n', hn', hy, hlen', hyl, hfl⟩ := DataW.trod_struct Try.underlying45 h
  have hlen9 : cs.length = 9 := by rw [hlen']; kernel_rfl
  match cs, hlen9 with
  | [x0, x1, x2, x3, x4, x5, x6, x7, x8], _ =>
    have g0 : DataW.trod enc Try.prog W 0 (fun _ => true) true n' 3 [x0] = ys[0]? := hfl 0 _ rfl
    have g1 : DataW.trod enc Try.prog W 0 (fun _ => true) true n' 3 [x1] = ys[1]? := hfl 1 _ rfl
    have g2 : DataW.trod enc Try.prog W 0 (fun _ => true) true n' 3 [x2] = ys[2]? := hfl 2 _ rfl
    have g3 : DataW.trod enc Try.prog W 0 (fun _ => true) true n' 3 [x3] = ys[3]? := hfl 3 _ rfl
    have g4 : DataW.trod enc Try.prog W 0 (fun _ => true) true n' 3 [x4] = ys[4]? := hfl 4 _ rfl
    have g5 : DataW.trod enc Try.prog W 0 (fun _ => true) true n' 43 [x5, x6, x7, x8] = ys[5]? := hfl 5 _ rfl
    have hys : ys.length = 6 := hyl
    match ys, hys with
    | [y0, y1, y2, y3, y4, y5], _ =>
      obtain ⟨a0, e0, _, w0⟩ := DataW.trod_int Try.underlying3 g0
      obtain ⟨a1, e1, _, w1⟩ := DataW.trod_int Try.underlying3 g1
      obtain ⟨a2, e2, _, w2⟩ := DataW.trod_int Try.underlying3 g2
      obtain ⟨a3, e3, _, w3⟩ := DataW.trod_int Try.underlying3 g3
      obtain ⟨a4, e4, _, w4⟩ := DataW.trod_int Try.underlying3 g4
      have g5' : DataW.trod enc Try.prog W 0 (fun _ => true) true n' 43 [x5, x6, x7, x8] = some y5 := g5
      cases n' with
      | zero => simp [DataW.trod] at g5'
      | succ m =>
        rw [DataW.trod_step] at g5'
        unfold DataW.trodStep at g5'
        simp only [Try.underlying43] at g5'
        rw [if_pos (show [x5, x6, x7, x8].length = Try.prog.cellsOf 43 by kernel_rfl)] at g5'
        simp only [Option.map_eq_some_iff] at g5'
        obtain ⟨zs, hz, _⟩ := g5'
        have each := mapM_each Try.underlying5 _ zs hz
        have pick : ∀ i, i < 4 → ∃ b : Nat, b < 256 ∧ [x5, x6, x7, x8][i]? = some (.int .u8 (b : Int)) := fun i hi => by
          obtain ⟨a, ea, wa⟩ := each i (List.mem_range.2 hi)
          rw [cells5, Nat.mul_one] at ea
          have e0 := congrArg (fun l : List Value => l[0]?) ea
          simp at e0
          have hb := b8 wa
          exact ⟨a.toNat, by omega, by rw [e0]; congr 2; omega⟩
        obtain ⟨b5, l5, f5⟩ := pick 0 (by omega)
        obtain ⟨b6, l6, f6⟩ := pick 1 (by omega)
        obtain ⟨b7, l7, f7⟩ := pick 2 (by omega)
        obtain ⟨b8', l8, f8⟩ := pick 3 (by omega)
        simp only [List.cons.injEq, and_true] at e0 e1 e2 e3 e4
        simp at f5 f6 f7 f8
        refine ⟨⟨a0, a1, a2, a3, a4, b5, b6, b7, b8'⟩, ⟨b64 w0, b64 w1, b64 w2, b64 w3, b64 w4, l5, l6, l7, l8⟩, ?_⟩
        rw [e0, e1, e2, e3, e4, f5, f6, f7, f8]
        rfl
theorem RowQ.gr {w w' : World} {v : Value} {m : Nat} {q : Nat → Bool} (h : RowQ w v m q) (k : Ch (fun _ => False) w w') : RowQ w' v m q := by
  obtain ⟨A, C, h1, h2, h3⟩ := h
  refine ⟨A, C, h1, h2, fun hm => ?_⟩
  obtain ⟨b, o, hA, hc⟩ := h3 hm
  exact ⟨b, o, hA, fun c hcm => k.cell (hc c hcm) (fun f => f)⟩
#print axioms fault_of
end Go.Proofs.Ytjibfoplihaabaa
