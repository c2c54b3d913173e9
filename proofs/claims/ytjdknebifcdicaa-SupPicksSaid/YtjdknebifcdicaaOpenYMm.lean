/-
  Rows of rows of bytes that are handed in, opened.
-/
import Derived.Test.YtjdknebifcdicaaMg18
import Derived.Test.YtjdknebifcdicaaMg29
namespace Go.Proofs.Ytjdknebifcdicaa
open Go.ChangeShapes Go.WideShapes Go.ChangeAt Go.RowKit Go.Deep
set_option linter.unusedVariables false
set_option maxRecDepth 100000

theorem open_structsC {α : Type} {H : Type} {enc : TypeId × Value → H} {W : World} {v : Value} {d : DataW H} {p : List MemPlace} {T S : TypeId} (k : Nat) (hS : Try.prog.underlying S = some (.slice T)) (hT : Try.prog.cellsOf T = k) (h0 : 0 < k) (at' : Nat → Nat → α → Prop) (a0 : α)
    (each : ∀ (cs : List Value) (y : DataW H × List MemPlace) (fuel : Nat), cs.length = k → DataW.trod enc Try.prog W 0 (fun _ => true) true fuel T cs = some y → ∃ q : α, ∀ b o, (∀ j u, cs[j]? = some u → W.cell? ⟨b, o + j, none⟩ = some u) → at' b o q)
    (hv : ∃ a len cap, v = .slice a len cap) (h : DataW.Trod enc Try.prog W 0 (fun _ => true) true S v d p) :
    ∃ (A : Option Addr) (C m : Nat) (F : Nat → α), v = .slice A m C ∧ m ≤ C ∧ m ≤ 9223372036854775807 ∧ (0 < m → ∃ b o, A = some ⟨b, o, none⟩ ∧ ∀ c, c < m → at' b (o + c * k) (F c)) := by
  obtain ⟨a0', len, cap, rfl⟩ := hv
  obtain ⟨fuel, hf⟩ := h
  rcases open_slice hS hf with ⟨hcs0, hx⟩ | ⟨a, len', cap', m, n, D, Pl, hcs0, _, hl, hm, hmm, hx, hi⟩
  · simp [Value.cells] at hcs0
    obtain ⟨rfl, rfl, rfl⟩ := hcs0
    exact ⟨none, 0, 0, fun _ => a0, rfl, Nat.le_refl _, by omega, fun h => absurd h (Nat.lt_irrefl 0)⟩
  · simp [Value.cells] at hcs0
    obtain ⟨rfl, rfl, rfl⟩ := hcs0
    simp only [if_true] at hmm
    have one : ∀ i, i < len → ∃ q : α, ∀ b o, a = ⟨b, o, none⟩ → at' b (o + i * k) q := fun i hil => by
      obtain ⟨cs', hc, ht⟩ := hi i (by omega)
      rw [hT] at hc
      obtain ⟨_, hcl, hat⟩ := World.cells?_some hc
      obtain ⟨q, hq⟩ := each cs' _ n hcl ht
      refine ⟨q, fun b o hao => hq b _ fun j u hu => ?_⟩
      subst hao
      have hj : j < k := by rw [← hcl]; exact (List.getElem?_eq_some_iff.1 hu).1
      have := hat j hj
      rw [add_pl, add_pl, hu] at this
      exact this
    have first : 0 < len → ∃ b o, a = ⟨b, o, none⟩ := fun hlen => by
      obtain ⟨cs', hc, _⟩ := hi 0 (by omega)
      rw [hT] at hc
      obtain ⟨_, hcl, hat⟩ := World.cells?_some hc
      have := hat 0 (by omega)
      rw [Nat.zero_mul, List.getElem?_eq_getElem (by omega)] at this
      obtain ⟨b, o, sp⟩ := a
      have hs : sp = none := by simpa [Addr.add] using World.cell?_spot this
      exact ⟨b, o, by rw [hs]⟩
    have ch : ∀ i, ∃ q : α, i < len → ∀ b o, a = ⟨b, o, none⟩ → at' b (o + i * k) q := fun i => by
      by_cases hil : i < len
      · obtain ⟨q, hq⟩ := one i hil; exact ⟨q, fun _ => hq⟩
      · exact ⟨a0, fun h => absurd h hil⟩
    obtain ⟨F, hF⟩ := Classical.axiomOfChoice ch
    refine ⟨some a, cap, len, F, rfl, hl, by unfold maxLen at hm; omega, fun h0 => ?_⟩
    obtain ⟨b, o, rfl⟩ := first h0
    exact ⟨b, o, rfl, fun c hc => hF c hc b o rfl⟩
/-- A row of bytes. -/
structure Br where
  A : Option Addr
  n : Nat
  C : Nat
  z : Nat → Nat
def BrAt (w : World) (b o : Nat) (q : Br) : Prop := w.cell? ⟨b, o, none⟩ = some (.slice q.A q.n q.C) ∧ q.n ≤ q.C ∧ q.n ≤ 9223372036854775807 ∧ (0 < q.n → ∃ b' o', q.A = some ⟨b', o', none⟩ ∧ ∀ c, c < q.n → w.cell? ⟨b', o' + c, none⟩ = some (.int .u8 (q.z c : Int)) ∧ q.z c < 256)
theorem br_of {H : Type} {enc : TypeId × Value → H} {W : World} {v : Value} {x : DataW H × List MemPlace} {fuel : Nat} (h : DataW.trod enc Try.prog W 0 (fun _ => true) true fuel /-t-/26 [v] = some x) : ∃ (A : Option Addr) (n C : Nat) (z : Nat → Nat), v = .slice A n C ∧ n ≤ C ∧ n ≤ 9223372036854775807 ∧ (0 < n → ∃ b' o', A = some ⟨b', o', none⟩ ∧ ∀ c, c < n → W.cell? ⟨b', o' + c, none⟩ = some (.int .u8 (z c : Int)) ∧ z c < 256) := by
  rcases open_ints Try.underlying26 Try.underlying5 cells5 h with ⟨hcs0, _⟩ | ⟨a, len, cap, zs, hcs0, _, hl, hm, hzl, _, hcell, hwf⟩
  · simp at hcs0
    exact ⟨none, 0, 0, fun _ => 0, hcs0, Nat.le_refl _, by omega, fun h => absurd h (Nat.lt_irrefl 0)⟩
  · simp at hcs0
    simp only [if_true] at hzl
    refine ⟨some a, len, cap, fun c => (zs.getD c 0).toNat, hcs0, hl, by unfold maxLen at hm; omega, fun h0 => ?_⟩
    obtain ⟨b, o, rfl⟩ := addr_none (hcell 0 (by omega))
    refine ⟨b, o, rfl, fun c hc => ?_⟩
    have hcc := hcell c (by omega)
    rw [add_pl] at hcc
    have hb := b8 (hwf (zs.getD c 0) (by
      rw [List.getD, List.getElem?_eq_getElem (show c < zs.length by omega)]
      exact List.getElem_mem _))
    have e : (((zs.getD c 0).toNat : Nat) : Int) = zs.getD c 0 := by omega
    exact ⟨by show _ = some (Value.int .u8 (((zs.getD c 0).toNat : Nat) : Int)); rw [e]; exact hcc, by show (zs.getD c 0).toNat < 256; omega⟩
structure RowBs (w : World) (A : Option Addr) (m C : Nat) (g : Nat → Br) : Prop where
  cap : m ≤ C
  le : m ≤ 9223372036854775807
  at' : 0 < m → ∃ b o, A = some ⟨b, o, none⟩ ∧ ∀ c, c < m → BrAt w b (o + c) (g c)
theorem cells_bs : Try.prog.cellsOf /-t-/26 = 1 := by kernel_rfl
theorem open_rows {H : Type} {enc : TypeId × Value → H} {W : World} {v : Value} {d : DataW H} {p : List MemPlace} (hv : ∃ a len cap, v = .slice a len cap) (h : DataW.Trod enc Try.prog W 0 (fun _ => true) true /-t-/36 v d p) :
    ∃ (A : Option Addr) (C m : Nat) (g : Nat → Br), v = .slice A m C ∧ RowBs W A m C g := by
  obtain ⟨A, C, m, g, rfl, h0, h1, h2⟩ := open_structsC (α := Br) 1 Try.underlying36 cells_bs (by decide) (BrAt W) ⟨none, 0, 0, fun _ => 0⟩ (fun cs y fuel hcl ht => by
    match cs, hcl with
    | [x0], _ =>
      obtain ⟨qA, qn, qC, qz, rfl, e2⟩ := br_of (x := y) ht
      exact ⟨⟨qA, qn, qC, qz⟩, fun b o hc => ⟨hc 0 _ rfl, e2⟩⟩) hv h
  refine ⟨A, C, m, g, rfl, h0, h1, fun hm => ?_⟩
  obtain ⟨b, o, hA, hc⟩ := h2 hm
  exact ⟨b, o, hA, fun c hcm => by have := hc c hcm; rwa [Nat.mul_one] at this⟩
theorem BrAt.gr {w w' : World} {b o : Nat} {q : Br} (h : BrAt w b o q) (k : Ch (fun _ => False) w w') : BrAt w' b o q :=
  ⟨k.cell h.1 (fun f => f), h.2.1, h.2.2.1, fun h0 => by
    obtain ⟨b', o', hA, hc⟩ := h.2.2.2 h0
    exact ⟨b', o', hA, fun c hcm => ⟨k.cell (hc c hcm).1 (fun f => f), (hc c hcm).2⟩⟩⟩
theorem RowBs.gr {w w' : World} {A : Option Addr} {m C : Nat} {g : Nat → Br} (h : RowBs w A m C g) (k : Ch (fun _ => False) w w') : RowBs w' A m C g :=
  ⟨h.cap, h.le, fun h0 => by
    obtain ⟨b, o, hA, hc⟩ := h.at' h0
    exact ⟨b, o, hA, fun c hcm => (hc c hcm).gr k⟩⟩
theorem RowBs.bs {w : World} {A : Option Addr} {m C : Nat} {g : Nat → Br} (h : RowBs w A m C g) (hm : m ≤ 1000) (hg : ∀ c, c < m → (g c).n ≤ 600) : BsV w A m C (fun c => (g c).n) (fun c => (g c).z) :=
  ⟨by omega, h.cap, fun h0 => by
    obtain ⟨b, o, hA, hc⟩ := h.at' h0
    refine ⟨b, o, hA, fun c hcm => ?_⟩
    obtain ⟨h1, h2, _, h3⟩ := hc c hcm
    exact ⟨(g c).A, (g c).C, h1, (g c).A, (g c).C, rfl, ⟨by have := hg c hcm; omega, h2⟩, h3⟩⟩
#print axioms open_rows
#print axioms RowBs.bs
end Go.Proofs.Ytjdknebifcdicaa
