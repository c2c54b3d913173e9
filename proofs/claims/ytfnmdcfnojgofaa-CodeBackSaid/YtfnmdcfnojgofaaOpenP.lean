/-
  Numbers, and calls (a kind, a number, bytes), that are handed in, opened.
-/
import Derived.Test.YtfnmdcfnojgofaaOpenB
import Derived.Test.YtfnmdcfnojgofaaCodL3
import Derived.Deep.Slices
import Derived.Deep.Fields
import Derived.ChangeSame
namespace Go.Proofs.Ytfnmdcfnojgofaa
open Go.ChangeShapes Go.WideShapes Go.ChangeAt Go.RowKit Go.Deep
set_option linter.unusedVariables false

theorem cellsI : Try.prog.cellsOf 3 = 1 := by kernel_rfl
theorem bytesI : Try.prog.bytesOf 3 = 8 := by kernel_rfl
theorem cellsP : Try.prog.cellsOf 32 = 3 := by kernel_rfl
theorem bytesP : Try.prog.bytesOf 32 = 40 := by kernel_rfl
theorem open_irow {H : Type} {enc : TypeId × Value → H} {W : World} {v : Value} {d : DataW H} {p : List MemPlace} (hv : ∃ a len cap, v = .slice a len cap) (h : DataW.Trod enc Try.prog W 0 (fun _ => true) true 38 v d p)
    (s1 : ∀ elems spare, d = .slice elems spare → (elems.length + spare.length) * 8 ≤ reachBytes) : ∃ n q, RowI W v n q := by
  obtain ⟨a0, len, cap, rfl⟩ := hv
  obtain ⟨fuel, hf⟩ := h
  rcases open_ints Try.underlying38 Try.underlying3 cellsI hf with ⟨hcs0, hx⟩ | ⟨a, len', cap', zs, hcs0, _, hl, hm, hzl, hx, hcell, hwf⟩
  · simp [Value.cells] at hcs0
    obtain ⟨rfl, rfl, rfl⟩ := hcs0
    exact ⟨0, fun _ => 0, none, 0, rfl, by omega, fun h => absurd h (Nat.lt_irrefl 0)⟩
  · simp [Value.cells] at hcs0
    obtain ⟨rfl, rfl, rfl⟩ := hcs0
    simp only [Prod.mk.injEq] at hx
    obtain ⟨rfl, rfl⟩ := hx
    simp only [if_true] at hzl
    have hlen := s1 _ _ rfl
    simp only [lits, List.length_map, List.length_take, List.length_drop, hzl, reach_eq] at hlen
    refine ⟨len, fun c => zs.getD c 0, some a, cap, rfl, by omega, fun h0 => ?_⟩
    obtain ⟨b, o, rfl⟩ := addr_none (hcell 0 (by omega))
    exact ⟨b, o, rfl, fun c hc => by have hcc := hcell c (by omega); rwa [add_pl] at hcc⟩
#print axioms open_irow

/-! ### calls -/
structure PutD where
  kd : Int
  nn : Int
  V : Value
  l : Nat
  z : Nat → Nat
structure PutAt (w : World) (b o : Nat) (p : PutD) : Prop where
  c0 : w.cell? ⟨b, o, none⟩ = some (.int .i64 p.kd)
  c1 : w.cell? ⟨b, o + 1, none⟩ = some (.int .i64 p.nn)
  c2 : w.cell? ⟨b, o + 2, none⟩ = some p.V
  row : RowV w p.V p.l p.z
  nn : -9223372036854775808 ≤ p.nn ∧ p.nn ≤ 9223372036854775807
theorem PutAt.gr {w w' : World} {b o : Nat} {p : PutD} (h : PutAt w b o p) (k : Ch (fun _ => False) w w') : PutAt w' b o p := ⟨k.cell h.c0 (fun f => f), k.cell h.c1 (fun f => f), k.cell h.c2 (fun f => f), h.row.gr k, h.nn⟩
def RowP (w : World) (v : Value) (m : Nat) (F : Nat → PutD) : Prop :=
  ∃ (A : Option Addr) (C : Nat), v = .slice A m C ∧ (m ≤ 140737488351232 ∧ m ≤ C) ∧ (0 < m → ∃ b o, A = some ⟨b, o, none⟩ ∧ ∀ c, c < m → PutAt w b (o + c * 3) (F c))
theorem weights_mem_all {H : Type} {P : Program} {e : TypeId} : ∀ {l : List (DataW H)} {d : DataW H}, d ∈ l → ∀ n ∈ d.weights P e, n ∈ DataW.weightsAll P e l
  | d' :: r, d, hd, n, hn => by
    simp only [DataW.weightsAll, List.mem_append]
    rcases List.mem_cons.1 hd with rfl | h
    · exact Or.inl hn
    · exact Or.inr (weights_mem_all h n hn)
/-- The reach of a field that is a row, in a struct in a slice. -/
theorem reach_field {H : Type} {P : Program} {ts : List TypeId} {ds : List (DataW H)} (h : (DataW.weightsEach P ts ds).all (· ≤ reachBytes) = true) {j k : Nat} {t e s q : TypeId} {fs : Array Field} {elems spare parts e' sp' : List (DataW H)}
    (ht : ts[j]? = some t) (hd : ds[j]? = some (.slice elems spare)) (hu : P.underlying t = some (.slice e)) (hs : P.underlying e = some (.struct fs)) (hx : DataW.agg parts ∈ elems) (hf : (fs.toList.map (·.type))[k]? = some s) (hp : parts[k]? = some (.slice e' sp')) (hu2 : P.underlying s = some (.slice q)) : (e'.length + sp'.length) * P.bytesOf q ≤ reachBytes := by
  refine of_decide_eq_true (List.all_eq_true.1 h _ (DataW.weights_mem_each ht hd _ ?_))
  simp only [DataW.weights, hu, List.mem_cons, List.mem_append]
  refine Or.inr (Or.inl (weights_mem_all hx _ ?_))
  simp only [DataW.weights, hs]
  exact DataW.weights_mem_each hf hp _ (by simp [DataW.weights, hu2])
theorem row_of {H : Type} {enc : TypeId × Value → H} {W : World} {v : Value} {x : DataW H × List MemPlace} {fuel : Nat} (h : DataW.trod enc Try.prog W 0 (fun _ => true) true fuel /-t-/26 [v] = some x)
    (s1 : ∀ elems spare, x.1 = .slice elems spare → (elems.length + spare.length) * 1 ≤ reachBytes) : ∃ n z, RowV W v n z := by
  have hv : ∃ a len cap, v = .slice a len cap := by
    rcases open_ints Try.underlying26 Try.underlying5 cells5 h with ⟨hcs0, _⟩ | ⟨a, len', cap', zs, hcs0, _⟩
    · exact ⟨_, _, _, by simpa using hcs0⟩
    · exact ⟨_, _, _, by simpa using hcs0⟩
  obtain ⟨a, len, cap, rfl⟩ := hv
  exact open_row (d := x.1) (p := x.2) ⟨_, _, _, rfl⟩ ⟨fuel, h⟩ s1
theorem open_puts {H : Type} {enc : TypeId × Value → H} {W : World} {v : Value} {d : DataW H} {p : List MemPlace} (hv : ∃ a len cap, v = .slice a len cap) (h : DataW.Trod enc Try.prog W 0 (fun _ => true) true 22 v d p)
    (s1 : ∀ elems spare, d = .slice elems spare → (elems.length + spare.length) * 40 ≤ reachBytes)
    (s2 : ∀ elems spare parts e' sp', d = .slice elems spare → DataW.agg parts ∈ elems → parts[2]? = some (.slice e' sp') → (e'.length + sp'.length) * 1 ≤ reachBytes) : ∃ m F, RowP W v m F := by
  obtain ⟨a0, len, cap, rfl⟩ := hv
  obtain ⟨fuel, hf⟩ := h
  rcases open_slice Try.underlying22 hf with ⟨hcs0, hx⟩ | ⟨a, len', cap', m, n, D, Pl, hcs0, _, hl, hm, hmm, hx, hi⟩
  · simp [Value.cells] at hcs0
    obtain ⟨rfl, rfl, rfl⟩ := hcs0
    exact ⟨0, fun _ => ⟨0, 0, .slice none 0 0, 0, fun _ => 0⟩, none, 0, rfl, by omega, fun h => absurd h (Nat.lt_irrefl 0)⟩
  · simp [Value.cells] at hcs0
    obtain ⟨rfl, rfl, rfl⟩ := hcs0
    simp only [Prod.mk.injEq] at hx
    obtain ⟨rfl, rfl⟩ := hx
    simp only [if_true] at hmm
    have hlen := s1 _ _ rfl
    simp only [List.length_map, List.length_range, reach_eq] at hlen
    have each : ∀ i, i < len → ∃ q : PutD, W.cell? (a.add (i * 3)) = some (.int .i64 q.kd) ∧ W.cell? ((a.add (i * 3)).add 1) = some (.int .i64 q.nn) ∧ W.cell? ((a.add (i * 3)).add 2) = some q.V ∧ RowV W q.V q.l q.z ∧ (-9223372036854775808 ≤ q.nn ∧ q.nn ≤ 9223372036854775807) := fun i hil => by
      obtain ⟨cs', hc, ht⟩ := hi i (by omega)
      rw [cellsP] at hc
      obtain ⟨_, hcl, hat⟩ := World.cells?_some hc
      obtain ⟨ys, n', hn', hy, hlen', hyl, hfl⟩ := DataW.trod_struct Try.underlying32 ht
      match cs', hcl with
      | [x0, x1, x2], _ =>
        have hone : oneCellFields Try.prog _ = true := (by kernel_rfl : oneCellFields Try.prog (match Try.prog.underlying 32 with | some (.struct fs) => fs | _ => #[]) = true)
        have g0 := hfl 0 _ rfl
        have g1 := hfl 1 _ rfl
        have g2 := hfl 2 _ rfl
        have k1 : ∀ c : Value, [c].take 1 = [c] := fun _ => rfl
        have g0' : DataW.trod enc Try.prog W 0 (fun _ => true) true n' 3 [x0] = ys[0]? := g0
        have g1' : DataW.trod enc Try.prog W 0 (fun _ => true) true n' 3 [x1] = ys[1]? := g1
        have g2' : DataW.trod enc Try.prog W 0 (fun _ => true) true n' /-t-/26 [x2] = ys[2]? := g2
        match ys, hyl with
        | [y0, y1, y2], _ =>
          obtain ⟨q0, e0, _, w0⟩ := DataW.trod_int Try.underlying3 g0'
          obtain ⟨q1, e1, _, w1⟩ := DataW.trod_int Try.underlying3 g1'
          simp only [Prod.mk.injEq] at hy
          have hr := row_of g2' (fun elems spare he => s2 _ _ [y0.1, y1.1, y2.1] elems spare rfl (List.mem_map.2 ⟨i, List.mem_range.2 hil, hy.1⟩) (by simpa using he))
          obtain ⟨l, z, hr⟩ := hr
          have h0 := hat 0 (by omega)
          have h1 := hat 1 (by omega)
          have h2 := hat 2 (by omega)
          simp only [List.cons.injEq, and_true] at e0 e1
          subst e0
          subst e1
          refine ⟨⟨q0, q1, x2, l, z⟩, ?_, h1, h2, hr, b64 w1⟩
          have : (a.add (i * 3)).add 0 = a.add (i * 3) := by unfold Addr.add; split <;> simp_all
          rw [this] at h0
          exact h0
    have ch : ∀ i, ∃ q : PutD, i < len → W.cell? (a.add (i * 3)) = some (.int .i64 q.kd) ∧ W.cell? ((a.add (i * 3)).add 1) = some (.int .i64 q.nn) ∧ W.cell? ((a.add (i * 3)).add 2) = some q.V ∧ RowV W q.V q.l q.z ∧ (-9223372036854775808 ≤ q.nn ∧ q.nn ≤ 9223372036854775807) := fun i => by
      by_cases hil : i < len
      · obtain ⟨q, hq⟩ := each i hil; exact ⟨q, fun _ => hq⟩
      · exact ⟨⟨0, 0, .slice none 0 0, 0, fun _ => 0⟩, fun h => absurd h hil⟩
    obtain ⟨F, hF⟩ := Classical.axiomOfChoice ch
    refine ⟨len, F, some a, cap, rfl, by omega, fun h0 => ?_⟩
    have h1 := (hF 0 h0).1
    rw [Nat.zero_mul] at h1
    obtain ⟨b, o, rfl⟩ := addr_none h1
    refine ⟨b, o, rfl, fun c hc => ?_⟩
    obtain ⟨f0, f1, f2, f3, f4⟩ := hF c hc
    rw [add_pl] at f0 f1 f2
    rw [add_pl] at f1 f2
    exact ⟨f0, f1, f2, f3, f4⟩
#print axioms open_puts
end Go.Proofs.Ytfnmdcfnojgofaa
