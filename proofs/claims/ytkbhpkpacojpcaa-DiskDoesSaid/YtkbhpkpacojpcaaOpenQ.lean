/-
  Calls of a device, a fault, and bools, that are handed in, opened.
-/
import Derived.Test.YtkbhpkpacojpcaaOpenB
import Derived.Test.YtkbhpkpacojpcaaDskH
import Derived.Deep.Slices
import Derived.Deep.Fields
import Derived.Deep.Grids
import Derived.ChangeSame
namespace Go.Proofs.Ytkbhpkpacojpcaa
open Go.ChangeShapes Go.WideShapes Go.ChangeAt Go.RowKit Go.Deep
set_option linter.unusedVariables false

theorem cellsOp : Try.prog.cellsOf 37 = 14 := by kernel_rfl
theorem cellsL : Try.prog.cellsOf 4 = 1 := by kernel_rfl
/-- Bools. -/
theorem bools_of {H : Type} {enc : TypeId × Value → H} {W : World} {v : Value} {x : DataW H × List MemPlace} {fuel : Nat} (h : DataW.trod enc Try.prog W 0 (fun _ => true) true fuel /-t-/35 [v] = some x) : ∃ n q, RowQ W v n q := by
  rcases open_bools Try.underlying35 Try.underlying4 cellsL h with ⟨hcs, _⟩ | ⟨a, len, cap, B, hcs, _, hl, hm, _, hc⟩
  · simp at hcs
    exact ⟨0, fun _ => false, none, 0, hcs, by omega, fun h => absurd h (Nat.lt_irrefl 0)⟩
  · simp at hcs
    refine ⟨len, B, some a, cap, hcs, by unfold maxLen at hm; omega, fun h0 => ?_⟩
    obtain ⟨b, o, rfl⟩ := addr_none (hc 0 (by omega))
    exact ⟨b, o, rfl, fun c hcl => by have := hc c (by omega); rwa [add_pl] at this⟩
theorem open_bools_arg {H : Type} {enc : TypeId × Value → H} {W : World} {v : Value} {d : DataW H} {p : List MemPlace} (hv : ∃ a len cap, v = .slice a len cap) (h : DataW.Trod enc Try.prog W 0 (fun _ => true) true /-t-/35 v d p) : ∃ n q, RowQ W v n q := by
  obtain ⟨a0, len, cap, rfl⟩ := hv
  obtain ⟨fuel, hf⟩ := h
  exact bools_of hf
/-- A fault, by its cells. -/
theorem fault_of {H : Type} {enc : TypeId × Value → H} {W : World} {cs : List Value} {x : DataW H × List MemPlace} {fuel : Nat} (h : DataW.trod enc Try.prog W 0 (fun _ => true) true fuel 34 cs = some x) : ∃ f : Fa, FaOk f ∧ cs = (faC f).toList := by
  obtain ⟨ys, n', hn', hy, hlen', hyl, hfl⟩ := DataW.trod_struct Try.underlying34 h
  have hlen9 : cs.length = 9 := by rw [hlen']; kernel_rfl
  match cs, hlen9 with
  | [x0, x1, x2, x3, x4, x5, x6, x7, x8], _ =>
    have g0 : DataW.trod enc Try.prog W 0 (fun _ => true) true n' 3 [x0] = ys[0]? := hfl 0 _ rfl
    have g1 : DataW.trod enc Try.prog W 0 (fun _ => true) true n' 3 [x1] = ys[1]? := hfl 1 _ rfl
    have g2 : DataW.trod enc Try.prog W 0 (fun _ => true) true n' 3 [x2] = ys[2]? := hfl 2 _ rfl
    have g3 : DataW.trod enc Try.prog W 0 (fun _ => true) true n' 3 [x3] = ys[3]? := hfl 3 _ rfl
    have g4 : DataW.trod enc Try.prog W 0 (fun _ => true) true n' 3 [x4] = ys[4]? := hfl 4 _ rfl
    have g5 : DataW.trod enc Try.prog W 0 (fun _ => true) true n' 32 [x5, x6, x7, x8] = ys[5]? := hfl 5 _ rfl
    have hys : ys.length = 6 := hyl
    match ys, hys with
    | [y0, y1, y2, y3, y4, y5], _ =>
      obtain ⟨a0, e0, _, w0⟩ := DataW.trod_int Try.underlying3 g0
      obtain ⟨a1, e1, _, w1⟩ := DataW.trod_int Try.underlying3 g1
      obtain ⟨a2, e2, _, w2⟩ := DataW.trod_int Try.underlying3 g2
      obtain ⟨a3, e3, _, w3⟩ := DataW.trod_int Try.underlying3 g3
      obtain ⟨a4, e4, _, w4⟩ := DataW.trod_int Try.underlying3 g4
      have g5' : DataW.trod enc Try.prog W 0 (fun _ => true) true n' 32 [x5, x6, x7, x8] = some y5 := g5
      cases n' with
      | zero => simp [DataW.trod] at g5'
      | succ m =>
        rw [DataW.trod_step] at g5'
        unfold DataW.trodStep at g5'
        simp only [Try.underlying32] at g5'
        rw [if_pos (show [x5, x6, x7, x8].length = Try.prog.cellsOf 32 by kernel_rfl)] at g5'
        simp only [Option.map_eq_some_iff] at g5'
        obtain ⟨zs, hz, _⟩ := g5'
        have each := mapM_each Try.underlying5 _ zs hz
        have pick : ∀ i, i < 4 → ∃ b : Nat, b < 256 ∧ [x5, x6, x7, x8][i]? = some (.int .u8 (b : Int)) := fun i hi => by
          obtain ⟨a, ea, wa⟩ := each i (List.mem_range.2 hi)
          rw [cells5, Nat.mul_one] at ea
          have e0 := congrArg (fun l : List Value => l[0]?) ea
          simp at e0
          have hb := b8 wa
          exact ⟨a.toNat, by omega, by rw [e0]; congr 2; omega⟩
        obtain ⟨b5, l5, f5⟩ := pick 0 (by omega)
        obtain ⟨b6, l6, f6⟩ := pick 1 (by omega)
        obtain ⟨b7, l7, f7⟩ := pick 2 (by omega)
        obtain ⟨b8', l8, f8⟩ := pick 3 (by omega)
        simp only [List.cons.injEq, and_true] at e0 e1 e2 e3 e4
        simp at f5 f6 f7 f8
        refine ⟨⟨a0, a1, a2, a3, a4, b5, b6, b7, b8'⟩, ⟨b64 w0, b64 w1, b64 w2, b64 w3, b64 w4, l5, l6, l7, l8⟩, ?_⟩
        rw [e0, e1, e2, e3, e4, f5, f6, f7, f8]
        rfl
#print axioms fault_of

/-! ### calls -/
structure OpD where
  kd : Int
  pl : Int
  b : Nat
  sh : Bool
  f : Fa
  V : Value
  m : Nat
  q : Nat → Bool
structure OpAt (w : World) (b o : Nat) (x : OpD) : Prop where
  c0 : w.cell? ⟨b, o, none⟩ = some (.int .i64 x.kd)
  c1 : w.cell? ⟨b, o + 1, none⟩ = some (.int .i64 x.pl)
  c2 : w.cell? ⟨b, o + 2, none⟩ = some (.int .u8 (x.b : Int))
  c3 : w.cell? ⟨b, o + 3, none⟩ = some (.bool x.sh)
  cf : ∀ j v, (faC x.f)[j]? = some v → w.cell? ⟨b, o + 4 + j, none⟩ = some v
  cv : w.cell? ⟨b, o + 13, none⟩ = some x.V
  keep : RowQ w x.V x.m x.q
  kd : I64 x.kd
  pl : I64 x.pl
  by8 : x.b < 256
  fok : FaOk x.f
theorem RowQ.gr {w w' : World} {v : Value} {m : Nat} {q : Nat → Bool} (h : RowQ w v m q) (k : Ch (fun _ => False) w w') : RowQ w' v m q := by
  obtain ⟨A, C, h1, h2, h3⟩ := h
  refine ⟨A, C, h1, h2, fun hm => ?_⟩
  obtain ⟨b, o, hA, hc⟩ := h3 hm
  exact ⟨b, o, hA, fun c hcm => k.cell (hc c hcm) (fun f => f)⟩
theorem OpAt.gr {w w' : World} {b o : Nat} {x : OpD} (h : OpAt w b o x) (k : Ch (fun _ => False) w w') : OpAt w' b o x :=
  ⟨k.cell h.c0 (fun f => f), k.cell h.c1 (fun f => f), k.cell h.c2 (fun f => f), k.cell h.c3 (fun f => f), fun j v hj => k.cell (h.cf j v hj) (fun f => f), k.cell h.cv (fun f => f), h.keep.gr k, h.kd, h.pl, h.by8, h.fok⟩
def RowO (w : World) (v : Value) (m : Nat) (F : Nat → OpD) : Prop :=
  ∃ (A : Option Addr) (C : Nat), v = .slice A m C ∧ m ≤ 9223372036854775807 ∧ (0 < m → ∃ b o, A = some ⟨b, o, none⟩ ∧ ∀ c, c < m → OpAt w b (o + c * 14) (F c))
theorem RowO.at {w : World} {A : Option Addr} {m C : Nat} {F : Nat → OpD} (h : RowO w (.slice A m C) m F) (hm : 0 < m) : ∃ b o, A = some ⟨b, o, none⟩ ∧ ∀ c, c < m → OpAt w b (o + c * 14) (F c) := by
  obtain ⟨_, _, e, _, h3⟩ := h
  injection e with e _ _
  subst e
  exact h3 hm
def op0 : OpD := ⟨0, 0, 0, false, ⟨0, 0, 0, 0, 0, 0, 0, 0, 0⟩, .slice none 0 0, 0, fun _ => false⟩
theorem open_ops {H : Type} {enc : TypeId × Value → H} {W : World} {v : Value} {d : DataW H} {p : List MemPlace} (hv : ∃ a len cap, v = .slice a len cap) (h : DataW.Trod enc Try.prog W 0 (fun _ => true) true 22 v d p) : ∃ m F, RowO W v m F := by
  obtain ⟨a0, len, cap, rfl⟩ := hv
  obtain ⟨fuel, hf⟩ := h
  rcases open_slice Try.underlying22 hf with ⟨hcs0, hx⟩ | ⟨a, len', cap', m, n, D, Pl, hcs0, _, hl, hm, hmm, hx, hi⟩
  · simp [Value.cells] at hcs0
    obtain ⟨rfl, rfl, rfl⟩ := hcs0
    exact ⟨0, fun _ => op0, none, 0, rfl, by omega, fun h => absurd h (Nat.lt_irrefl 0)⟩
  · simp [Value.cells] at hcs0
    obtain ⟨rfl, rfl, rfl⟩ := hcs0
    simp only [if_true] at hmm
    have each : ∀ i, i < len → ∃ q : OpD, ∀ b o, a = ⟨b, o, none⟩ → OpAt W b (o + i * 14) q := fun i hil => by
      obtain ⟨cs', hc, ht⟩ := hi i (by omega)
      rw [cellsOp] at hc
      obtain ⟨_, hcl, hat⟩ := World.cells?_some hc
      obtain ⟨ys, n', hn', hy, hlen', hyl, hfl⟩ := DataW.trod_struct Try.underlying37 ht
      match cs', hcl with
      | [x0, x1, x2, x3, x4, x5, x6, x7, x8, x9, x10, x11, x12, x13], _ =>
        have g0 : DataW.trod enc Try.prog W 0 (fun _ => true) true n' 3 [x0] = ys[0]? := hfl 0 _ rfl
        have g1 : DataW.trod enc Try.prog W 0 (fun _ => true) true n' 3 [x1] = ys[1]? := hfl 1 _ rfl
        have g2 : DataW.trod enc Try.prog W 0 (fun _ => true) true n' 5 [x2] = ys[2]? := hfl 2 _ rfl
        have g3 : DataW.trod enc Try.prog W 0 (fun _ => true) true n' 4 [x3] = ys[3]? := hfl 3 _ rfl
        have g4 : DataW.trod enc Try.prog W 0 (fun _ => true) true n' 34 [x4, x5, x6, x7, x8, x9, x10, x11, x12] = ys[4]? := hfl 4 _ rfl
        have g5 : DataW.trod enc Try.prog W 0 (fun _ => true) true n' 35 [x13] = ys[5]? := hfl 5 _ rfl
        have hys : ys.length = 6 := hyl
        match ys, hys with
        | [y0, y1, y2, y3, y4, y5], _ =>
          obtain ⟨a0, e0, _, w0⟩ := DataW.trod_int Try.underlying3 g0
          obtain ⟨a1, e1, _, w1⟩ := DataW.trod_int Try.underlying3 g1
          obtain ⟨a2, e2, _, w2⟩ := DataW.trod_int Try.underlying5 g2
          obtain ⟨a3, e3, _⟩ := DataW.trod_bool Try.underlying4 g3
          obtain ⟨f, hfk, e4⟩ := fault_of (x := y4) g4
          obtain ⟨m5, q5, h5⟩ := bools_of (x := y5) g5
          have hb2 := b8 w2
          simp only [List.cons.injEq, and_true] at e0 e1 e2 e3
          subst e0
          subst e1
          subst e2
          subst e3
          refine ⟨⟨a0, a1, a2.toNat, a3, f, x13, m5, q5⟩, fun b o hao => ?_⟩
          subst hao
          have at' : ∀ j (hj : j < 14), W.cell? ⟨b, o + i * 14 + j, none⟩ = some ([Value.int .i64 a0, .int .i64 a1, .int .u8 a2, .bool a3, x4, x5, x6, x7, x8, x9, x10, x11, x12, x13][j]) := fun j hj => by
            have := hat j (by simpa using hj)
            rw [add_pl, add_pl, List.getElem?_eq_getElem (by simpa using hj)] at this
            exact this
          refine ⟨at' 0 (by omega), at' 1 (by omega), ?_, at' 3 (by omega), fun j v hj => ?_, at' 13 (by omega), h5, b64 w0, b64 w1, by show a2.toNat < 256; omega, hfk⟩
          · rw [at' 2 (by omega)]
            show some (Value.int .u8 a2) = some (Value.int .u8 ((a2.toNat : Nat) : Int))
            rw [Int.toNat_of_nonneg hb2.1]
          · have hj9 : j < 9 := by
              have := (Array.getElem?_eq_some_iff.1 hj).1
              exact this
            have h1 := at' (4 + j) (by omega)
            rw [show o + i * 14 + (4 + j) = o + i * 14 + 4 + j by omega] at h1
            rw [h1, ← hj, ← Array.getElem?_toList, ← e4]
            rw [show ([Value.int .i64 a0, .int .i64 a1, .int .u8 a2, .bool a3, x4, x5, x6, x7, x8, x9, x10, x11, x12, x13][4 + j]'(by simp; omega)) = [x4, x5, x6, x7, x8, x9, x10, x11, x12][j]'(by simp; omega) by
              match j, hj9 with
              | 0, _ => rfl
              | 1, _ => rfl
              | 2, _ => rfl
              | 3, _ => rfl
              | 4, _ => rfl
              | 5, _ => rfl
              | 6, _ => rfl
              | 7, _ => rfl
              | 8, _ => rfl]
            rw [List.getElem?_eq_getElem]
    have first : 0 < len → ∃ b o, a = ⟨b, o, none⟩ := fun h0 => by
      obtain ⟨cs', hc, _⟩ := hi 0 (by omega)
      rw [cellsOp] at hc
      obtain ⟨_, hcl, hat⟩ := World.cells?_some hc
      have := hat 0 (by omega)
      rw [Nat.zero_mul, List.getElem?_eq_getElem (by omega)] at this
      obtain ⟨b, o, sp⟩ := a
      have hs : sp = none := by simpa [Addr.add] using World.cell?_spot this
      exact ⟨b, o, by rw [hs]⟩
    have ch : ∀ i, ∃ q : OpD, i < len → ∀ b o, a = ⟨b, o, none⟩ → OpAt W b (o + i * 14) q := fun i => by
      by_cases hil : i < len
      · obtain ⟨q, hq⟩ := each i hil; exact ⟨q, fun _ => hq⟩
      · exact ⟨op0, fun h => absurd h hil⟩
    obtain ⟨F, hF⟩ := Classical.axiomOfChoice ch
    refine ⟨len, F, some a, cap, rfl, by unfold maxLen at hm; omega, fun h0 => ?_⟩
    obtain ⟨b, o, rfl⟩ := first h0
    exact ⟨b, o, rfl, fun c hc => hF c hc b o rfl⟩
#print axioms open_ops
end Go.Proofs.Ytkbhpkpacojpcaa
