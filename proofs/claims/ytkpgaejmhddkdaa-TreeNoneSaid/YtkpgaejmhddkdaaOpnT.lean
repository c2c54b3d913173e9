/-
  Rows of the law's calls, and rows of strings, that are handed in, opened.
-/
import Derived.Test.YtkpgaejmhddkdaaTrFm
import Derived.Test.YtkpgaejmhddkdaaOpn
import Derived.Deep.Slices
import Derived.Deep.Fields
import Derived.ChangeSame
import Derived.SliceStrings
import Derived.ChangeMaps5
namespace Go.Proofs.Ytkpgaejmhddkdaa
open Go.ChangeShapes Go.WideShapes Go.ChangeAt Go.RowKit Go.Deep
set_option linter.unusedVariables false
set_option maxRecDepth 100000

theorem add_pl13 (b o j : Nat) : (⟨b, o, none⟩ : Addr).add j = ⟨b, o + j, none⟩ := by simp [Addr.add]
theorem open_structs13 {α : Type} {H : Type} {enc : TypeId × Value → H} {W : World} {v : Value} {d : DataW H} {p : List MemPlace} {T S : TypeId} (k : Nat) (hS : Try.prog.underlying S = some (.slice T)) (hT : Try.prog.cellsOf T = k) (h0 : 0 < k) (at' : Nat → Nat → α → Prop) (a0 : α)
    (each : ∀ (cs : List Value) (y : DataW H × List MemPlace) (fuel : Nat), cs.length = k → DataW.trod enc Try.prog W 0 (fun _ => true) true fuel T cs = some y → ∃ q : α, ∀ b o, (∀ j u, cs[j]? = some u → W.cell? ⟨b, o + j, none⟩ = some u) → at' b o q)
    (hv : ∃ a len cap, v = .slice a len cap) (h : DataW.Trod enc Try.prog W 0 (fun _ => true) true S v d p) :
    ∃ (A : Option Addr) (C m : Nat) (F : Nat → α), v = .slice A m C ∧ m ≤ C ∧ m ≤ 9223372036854775807 ∧ (0 < m → ∃ b o, A = some ⟨b, o, none⟩ ∧ ∀ c, c < m → at' b (o + c * k) (F c)) := by
  obtain ⟨a0', len, cap, rfl⟩ := hv
  obtain ⟨fuel, hf⟩ := h
  rcases open_slice hS hf with ⟨hcs0, hx⟩ | ⟨a, len', cap', m, n, D, Pl, hcs0, _, hl, hm, hmm, hx, hi⟩
  · simp [Value.cells] at hcs0
    obtain ⟨rfl, rfl, rfl⟩ := hcs0
    exact ⟨none, 0, 0, fun _ => a0, rfl, Nat.le_refl _, by omega, fun h => absurd h (Nat.lt_irrefl 0)⟩
  · simp [Value.cells] at hcs0
    obtain ⟨rfl, rfl, rfl⟩ := hcs0
    simp only [if_true] at hmm
    have one : ∀ i, i < len → ∃ q : α, ∀ b o, a = ⟨b, o, none⟩ → at' b (o + i * k) q := fun i hil => by
      obtain ⟨cs', hc, ht⟩ := hi i (by omega)
      rw [hT] at hc
      obtain ⟨_, hcl, hat⟩ := World.cells?_some hc
      obtain ⟨q, hq⟩ := each cs' _ n hcl ht
      refine ⟨q, fun b o hao => hq b _ fun j u hu => ?_⟩
      subst hao
      have hj : j < k := by rw [← hcl]; exact (List.getElem?_eq_some_iff.1 hu).1
      have := hat j hj
      rw [add_pl13, add_pl13, hu] at this
      exact this
    have first : 0 < len → ∃ b o, a = ⟨b, o, none⟩ := fun hlen => by
      obtain ⟨cs', hc, _⟩ := hi 0 (by omega)
      rw [hT] at hc
      obtain ⟨_, hcl, hat⟩ := World.cells?_some hc
      have := hat 0 (by omega)
      rw [Nat.zero_mul, List.getElem?_eq_getElem (by omega)] at this
      obtain ⟨b, o, sp⟩ := a
      have hs : sp = none := by simpa [Addr.add] using World.cell?_spot this
      exact ⟨b, o, by rw [hs]⟩
    have ch : ∀ i, ∃ q : α, i < len → ∀ b o, a = ⟨b, o, none⟩ → at' b (o + i * k) q := fun i => by
      by_cases hil : i < len
      · obtain ⟨q, hq⟩ := one i hil; exact ⟨q, fun _ => hq⟩
      · exact ⟨a0, fun h => absurd h hil⟩
    obtain ⟨F, hF⟩ := Classical.axiomOfChoice ch
    refine ⟨some a, cap, len, F, rfl, hl, by unfold maxLen at hm; omega, fun h0 => ?_⟩
    obtain ⟨b, o, rfl⟩ := first h0
    exact ⟨b, o, rfl, fun c hc => hF c hc b o rfl⟩
theorem rng_len {α : Type} (F : Nat → α) (m : Nat) : ((List.range m).map F).length = m := by simp
theorem rng_get {α : Type} {F : Nat → α} {m i : Nat} {x : α} (h : ((List.range m).map F)[i]? = some x) : i < m ∧ F i = x := by
  have hi : i < m := by
    have := (List.getElem?_eq_some_iff.1 h).1
    rwa [rng_len] at this
  refine ⟨hi, ?_⟩
  rw [List.getElem?_map, List.getElem?_range hi] at h
  exact Option.some.inj h
theorem cellsOp13 : Try.prog.cellsOf 31 = 3 := by kernel_rfl
theorem open_opv {H : Type} {enc : TypeId × Value → H} {W : World} {v : Value} {d : DataW H} {p : List MemPlace} (hv : ∃ a len cap, v = .slice a len cap) (h : DataW.Trod enc Try.prog W 0 (fun _ => true) true 22 v d p) :
    ∃ (A : Option Addr) (C : Nat) (L : List OpV), v = .slice A L.length C ∧ FlW kdOp W A C L := by
  obtain ⟨A, C, m, F, rfl, h0, h1, h2⟩ := open_structs13 (α := OpV) 3 Try.underlying22 cellsOp13 (by decide) (fun b o q => ∀ j u, (kdOp.f q)[j]? = some u → W.cell? ⟨b, o + j, none⟩ = some u) (false, ByteArray.empty, 0) (fun cs y fuel hcl ht => by
    obtain ⟨ys, n', hn', hy, hlen', hyl, hfl⟩ := DataW.trod_struct Try.underlying31 ht
    match cs, hcl with
    | [x0, x1, x2], _ =>
      have g0 : DataW.trod enc Try.prog W 0 (fun _ => true) true n' 4 [x0] = ys[0]? := hfl 0 _ rfl
      have g1 : DataW.trod enc Try.prog W 0 (fun _ => true) true n' 9 [x1] = ys[1]? := hfl 1 _ rfl
      have g2 : DataW.trod enc Try.prog W 0 (fun _ => true) true n' 3 [x2] = ys[2]? := hfl 2 _ rfl
      have hys : ys.length = 3 := hyl
      match ys, hys with
      | [y0, y1, y2], _ =>
        obtain ⟨a0, e0, _⟩ := DataW.trod_bool Try.underlying4 g0
        obtain ⟨s, e1, _⟩ := DataW.trod_string Try.underlying9 g1
        obtain ⟨a2, e2, _⟩ := DataW.trod_int Try.underlying3 g2
        simp only [List.cons.injEq, and_true] at e0 e1 e2
        subst e0 e1 e2
        exact ⟨(a0, s, a2), fun b o hc => hc⟩) hv h
  refine ⟨A, C, (List.range m).map F, by rw [rng_len], by rw [rng_len]; exact h1, by rw [rng_len]; exact h0, fun hl => ?_⟩
  rw [rng_len] at hl
  obtain ⟨b, o, hA, hc⟩ := h2 hl
  refine ⟨b, o, hA, fun i x hx j u hu => ?_⟩
  obtain ⟨hi, rfl⟩ := rng_get hx
  exact hc i hi j u hu
#print axioms open_opv
theorem cellsS13 : Try.prog.cellsOf 9 = 1 := by kernel_rfl
theorem open_strs {H : Type} {enc : TypeId × Value → H} {W : World} {v : Value} {d : DataW H} {p : List MemPlace} (hv : ∃ a len cap, v = .slice a len cap) (h : DataW.Trod enc Try.prog W 0 (fun _ => true) true 52 v d p) :
    ∃ (A : Option Addr) (C : Nat) (L : List ByteArray), v = .slice A L.length C ∧ FlW kdSt W A C L := by
  obtain ⟨A, C, m, F, rfl, h0, h1, h2⟩ := open_structs13 (α := ByteArray) 1 Try.underlying52 cellsS13 (by decide) (fun b o q => ∀ j u, (kdSt.f q)[j]? = some u → W.cell? ⟨b, o + j, none⟩ = some u) ByteArray.empty (fun cs y fuel hcl ht => by
    match cs, hcl with
    | [x0], _ =>
      obtain ⟨s, e1, _⟩ := DataW.trod_string Try.underlying9 ht
      simp only [List.cons.injEq, and_true] at e1
      subst e1
      exact ⟨s, fun b o hc => hc⟩) hv h
  refine ⟨A, C, (List.range m).map F, by rw [rng_len], by rw [rng_len]; exact h1, by rw [rng_len]; exact h0, fun hl => ?_⟩
  rw [rng_len] at hl
  obtain ⟨b, o, hA, hc⟩ := h2 hl
  refine ⟨b, o, hA, fun i x hx j u hu => ?_⟩
  obtain ⟨hi, rfl⟩ := rng_get hx
  exact hc i hi j u hu
#print axioms open_strs
end Go.Proofs.Ytkpgaejmhddkdaa
