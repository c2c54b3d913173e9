/-
  Rows of rows of bytes that are handed in, opened. Rows of structs that are handed in, opened: each element by its cells. Rows of ints in memory: rows that are read, rows of one's own, a number behind them; rows that are handed in, opened. Ints, and a fault, that are handed in, opened. A row of rows of rows of bytes that is handed in, opened. block.Open, walked. block.Class, walked. Four bytes in a row, changed one after the other. What was sealed is opened as it was; what was changed by up to four bytes in a row, or is all noughts, is no block: in plain words.
-/
import Derived.Test.YteleknojohnlbaaGreatMc1
import Derived.Test.YteleknojohnlbaaGreatMc6
import Derived.Test.YteleknojohnlbaaGreatMc14
import Derived.Deep.Slices
import Derived.Deep.Fields
import Derived.ChangeSame
import Derived.Test.YteleknojohnlbaaGreatMc12
namespace Go.Proofs.YteleknojohnlbaaGreat
open Go.ChangeShapes Go.WideShapes Go.ChangeAt Go.RowKit Go.Deep
set_option linter.unusedVariables false
set_option maxRecDepth 100000
theorem open_structsC {α : Type} {H : Type} {enc : TypeId × Value → H} {W : World} {v : Value} {d : DataW H} {p : List MemPlace} {T S : TypeId} (k : Nat) (hS : Tryz.prog.underlying S = some (.slice T)) (hT : Tryz.prog.cellsOf T = k) (h0 : 0 < k) (at' : Nat → Nat → α → Prop) (a0 : α)
    (each : ∀ (cs : List Value) (y : DataW H × List MemPlace) (fuel : Nat), cs.length = k → DataW.trod enc Tryz.prog W 0 (fun _ => true) true fuel T cs = some y → ∃ q : α, ∀ b o, (∀ j u, cs[j]? = some u → W.cell? ⟨b, o + j, none⟩ = some u) → at' b o q)
    (hv : ∃ a len cap, v = .slice a len cap) (h : DataW.Trod enc Tryz.prog W 0 (fun _ => true) true S v d p) :
    ∃ (A : Option Addr) (C m : Nat) (F : Nat → α), v = .slice A m C ∧ m ≤ C ∧ m ≤ 9223372036854775807 ∧ (0 < m → ∃ b o, A = some ⟨b, o, none⟩ ∧ ∀ c, c < m → at' b (o + c * k) (F c)) := by
  obtain ⟨a0', len, cap, rfl⟩ := hv
  obtain ⟨fuel, hf⟩ := h
  rcases open_slice hS hf with ⟨hcs0, hx⟩ | ⟨a, len', cap', m, n, D, Pl, hcs0, _, hl, hm, hmm, hx, hi⟩
  · simp [Value.cells] at hcs0
    obtain ⟨rfl, rfl, rfl⟩ := hcs0
    exact ⟨none, 0, 0, fun _ => a0, rfl, Nat.le_refl _, by omega, fun h => absurd h (Nat.lt_irrefl 0)⟩
  · simp [Value.cells] at hcs0
    obtain ⟨rfl, rfl, rfl⟩ := hcs0
    simp only [if_true] at hmm
    have one : ∀ i, i < len → ∃ q : α, ∀ b o, a = ⟨b, o, none⟩ → at' b (o + i * k) q := fun i hil => by
      obtain ⟨cs', hc, ht⟩ := hi i (by omega)
      rw [hT] at hc
      obtain ⟨_, hcl, hat⟩ := World.cells?_some hc
      obtain ⟨q, hq⟩ := each cs' _ n hcl ht
      refine ⟨q, fun b o hao => hq b _ fun j u hu => ?_⟩
      subst hao
      have hj : j < k := by rw [← hcl]; exact (List.getElem?_eq_some_iff.1 hu).1
      have := hat j hj
      rw [add_pl, add_pl, hu] at this
      exact this
    have first : 0 < len → ∃ b o, a = ⟨b, o, none⟩ := fun hlen => by
      obtain ⟨cs', hc, _⟩ := hi 0 (by omega)
      rw [hT] at hc
      obtain ⟨_, hcl, hat⟩ := World.cells?_some hc
      have := hat 0 (by omega)
      rw [Nat.zero_mul, List.getElem?_eq_getElem (by omega)] at this
      obtain ⟨b, o, sp⟩ := a
      have hs : sp = none := by simpa [Addr.add] using World.cell?_spot this
      exact ⟨b, o, by rw [hs]⟩
    have ch : ∀ i, ∃ q : α, i < len → ∀ b o, a = ⟨b, o, none⟩ → at' b (o + i * k) q := fun i => by
      by_cases hil : i < len
      · obtain ⟨q, hq⟩ := one i hil; exact ⟨q, fun _ => hq⟩
      · exact ⟨a0, fun h => absurd h hil⟩
    obtain ⟨F, hF⟩ := Classical.axiomOfChoice ch
    refine ⟨some a, cap, len, F, rfl, hl, by unfold maxLen at hm; omega, fun h0 => ?_⟩
    obtain ⟨b, o, rfl⟩ := first h0
    exact ⟨b, o, rfl, fun c hc => hF c hc b o rfl⟩
structure Br where
  A : Option Addr
  n : Nat
  C : Nat
  z : Nat → Nat
def BrAt (w : World) (b o : Nat) (q : Br) : Prop := w.cell? ⟨b, o, none⟩ = some (.slice q.A q.n q.C) ∧ q.n ≤ q.C ∧ q.n ≤ 9223372036854775807 ∧ (0 < q.n → ∃ b' o', q.A = some ⟨b', o', none⟩ ∧ ∀ c, c < q.n → w.cell? ⟨b', o' + c, none⟩ = some (.int .u8 (q.z c : Int)) ∧ q.z c < 256)
theorem br_of {H : Type} {enc : TypeId × Value → H} {W : World} {v : Value} {x : DataW H × List MemPlace} {fuel : Nat} (h : DataW.trod enc Tryz.prog W 0 (fun _ => true) true fuel /-t-/24 [v] = some x) : ∃ (A : Option Addr) (n C : Nat) (z : Nat → Nat), v = .slice A n C ∧ n ≤ C ∧ n ≤ 9223372036854775807 ∧ (0 < n → ∃ b' o', A = some ⟨b', o', none⟩ ∧ ∀ c, c < n → W.cell? ⟨b', o' + c, none⟩ = some (.int .u8 (z c : Int)) ∧ z c < 256) := by
  rcases open_ints Tryz.underlying24 Tryz.underlying5 cells5 h with ⟨hcs0, _⟩ | ⟨a, len, cap, zs, hcs0, _, hl, hm, hzl, _, hcell, hwf⟩
  · simp at hcs0
    exact ⟨none, 0, 0, fun _ => 0, hcs0, Nat.le_refl _, by omega, fun h => absurd h (Nat.lt_irrefl 0)⟩
  · simp at hcs0
    simp only [if_true] at hzl
    refine ⟨some a, len, cap, fun c => (zs.getD c 0).toNat, hcs0, hl, by unfold maxLen at hm; omega, fun h0 => ?_⟩
    obtain ⟨b, o, rfl⟩ := addr_none (hcell 0 (by omega))
    refine ⟨b, o, rfl, fun c hc => ?_⟩
    have hcc := hcell c (by omega)
    rw [add_pl] at hcc
    have hb := b8 (hwf (zs.getD c 0) (by
      rw [List.getD, List.getElem?_eq_getElem (show c < zs.length by omega)]
      exact List.getElem_mem _))
    have e : (((zs.getD c 0).toNat : Nat) : Int) = zs.getD c 0 := by omega
    exact ⟨by show _ = some (Value.int .u8 (((zs.getD c 0).toNat : Nat) : Int)); rw [e]; exact hcc, by show (zs.getD c 0).toNat < 256; omega⟩
structure RowBs (w : World) (A : Option Addr) (m C : Nat) (g : Nat → Br) : Prop where
  cap : m ≤ C
  le : m ≤ 9223372036854775807
  at' : 0 < m → ∃ b o, A = some ⟨b, o, none⟩ ∧ ∀ c, c < m → BrAt w b (o + c) (g c)
theorem cells_bs : Tryz.prog.cellsOf /-t-/24 = 1 := by kernel_rfl
theorem BrAt.gr {w w' : World} {b o : Nat} {q : Br} (h : BrAt w b o q) (k : Ch (fun _ => False) w w') : BrAt w' b o q :=
  ⟨k.cell h.1 (fun f => f), h.2.1, h.2.2.1, fun h0 => by
    obtain ⟨b', o', hA, hc⟩ := h.2.2.2 h0
    exact ⟨b', o', hA, fun c hcm => ⟨k.cell (hc c hcm).1 (fun f => f), (hc c hcm).2⟩⟩⟩
theorem RowBs.gr {w w' : World} {A : Option Addr} {m C : Nat} {g : Nat → Br} (h : RowBs w A m C g) (k : Ch (fun _ => False) w w') : RowBs w' A m C g :=
  ⟨h.cap, h.le, fun h0 => by
    obtain ⟨b, o, hA, hc⟩ := h.at' h0
    exact ⟨b, o, hA, fun c hcm => (hc c hcm).gr k⟩⟩
structure LsV (w : World) (A : Option Addr) (k C : Nat) (N : Nat → Nat) : Prop where
  le : k ≤ 9223372036854775807
  cap : k ≤ C
  at' : 0 < k → ∃ b o, A = some ⟨b, o, none⟩ ∧ ∀ c, c < k → ∃ A' C', w.cell? ⟨b, o + c, none⟩ = some (.slice A' (N c) C') ∧ N c ≤ 9223372036854775807
theorem RowBs.ls {w : World} {A : Option Addr} {m C : Nat} {g : Nat → Br} (h : RowBs w A m C g) : LsV w A m C (fun c => (g c).n) :=
  ⟨h.le, h.cap, fun h0 => by
    obtain ⟨b, o, hA, hc⟩ := h.at' h0
    exact ⟨b, o, hA, fun c hcm => ⟨_, _, (hc c hcm).1, (hc c hcm).2.2.1⟩⟩⟩
theorem RowBs.bs' {w : World} {A : Option Addr} {m C : Nat} {g : Nat → Br} (h : RowBs w A m C g) (hm : m ≤ 1000) (hg : ∀ c, c < m → (g c).n ≤ 100000) : BsV w A m C (fun c => (g c).n) (fun c => (g c).z) :=
  ⟨by omega, h.cap, fun h0 => by
    obtain ⟨b, o, hA, hc⟩ := h.at' h0
    refine ⟨b, o, hA, fun c hcm => ?_⟩
    obtain ⟨h1, h2, _, h3⟩ := hc c hcm
    exact ⟨(g c).A, (g c).C, h1, (g c).A, (g c).C, rfl, ⟨by have := hg c hcm; omega, h2⟩, h3⟩⟩
end Go.Proofs.YteleknojohnlbaaGreat
namespace Go.Proofs.YteleknojohnlbaaGreat
open Go.ChangeShapes Go.WideShapes Go.ChangeAt Go.RowKit Go.Deep
set_option linter.unusedVariables false
set_option maxRecDepth 100000
end Go.Proofs.YteleknojohnlbaaGreat
namespace Go.Proofs.YteleknojohnlbaaGreat
open Go.ChangeShapes Go.WideShapes Go.ChangeAt Go.RowKit Go.Deep
set_option linter.unusedVariables false
set_option maxRecDepth 100000
theorem underI : Tryz.prog.underlying 45 = some (.slice /-t-/3) := by kernel_rfl
theorem underN : Tryz.prog.underlying /-t-/3 = some (.int .i64) := by kernel_rfl
def IntV (w : World) (v : Value) (n : Nat) (q : Nat → Int) : Prop :=
  ∃ (A : Option Addr) (C : Nat), v = .slice A n C ∧ (n ≤ 140737488351232 ∧ n ≤ C) ∧ (0 < n → ∃ b o, A = some ⟨b, o, none⟩ ∧ ∀ c, c < n → w.cell? ⟨b, o + c, none⟩ = some (.int .i64 (q c)))
theorem IntV.at {w : World} {A : Option Addr} {n C : Nat} {q : Nat → Int} (h : IntV w (.slice A n C) n q) (hn : 0 < n) : ∃ b o, A = some ⟨b, o, none⟩ ∧ ∀ c, c < n → w.cell? ⟨b, o + c, none⟩ = some (.int .i64 (q c)) := by
  obtain ⟨_, _, e, _, h3⟩ := h
  injection e with e _ _
  subst e
  exact h3 hn
theorem IntV.len {w : World} {v : Value} {n : Nat} {q : Nat → Int} (h : IntV w v n q) : ∃ A C, v = .slice A n C ∧ n ≤ 140737488351232 := by
  obtain ⟨A, C, h1, h2, _⟩ := h
  exact ⟨A, C, h1, h2.1⟩
theorem none_intV (w : World) (q : Nat → Int) (C : Nat) : IntV w (.slice none 0 C) 0 q := ⟨none, C, rfl, by omega, fun h => absurd h (Nat.lt_irrefl 0)⟩
theorem cellsN : Tryz.prog.cellsOf /-t-/3 = 1 := by kernel_rfl
theorem bytesN : Tryz.prog.bytesOf /-t-/3 = 8 := by kernel_rfl
end Go.Proofs.YteleknojohnlbaaGreat
namespace Go.Proofs.YteleknojohnlbaaGreat
open Go.ChangeShapes Go.WideShapes Go.ChangeAt Go.RowKit Go.Deep
set_option linter.unusedVariables false
set_option maxRecDepth 100000
theorem open_int64s {H : Type} {enc : TypeId × Value → H} {W : World} {v : Value} {d : DataW H} {p : List MemPlace} (hv : ∃ a len cap, v = .slice a len cap) (h : DataW.Trod enc Tryz.prog W 0 (fun _ => true) true 45 v d p)
    (s1 : ∀ elems spare, d = .slice elems spare → (elems.length + spare.length) * 8 ≤ reachBytes) : ∃ (A : Option Addr) (C n : Nat) (q : Nat → Int), v = .slice A n C ∧ IntV W (.slice A n C) n q ∧ ∀ i, i < n → I64 (q i) := by
  obtain ⟨a0, len, cap, rfl⟩ := hv
  obtain ⟨fuel, hf⟩ := h
  rcases open_ints underI underN cellsN hf with ⟨hcs0, hx⟩ | ⟨a, len', cap', zs, hcs0, _, hl, hm, hzl, hx, hcell, hwf⟩
  · simp [Value.cells] at hcs0
    obtain ⟨rfl, rfl, rfl⟩ := hcs0
    exact ⟨none, 0, 0, fun _ => 0, rfl, none_intV W _ 0, fun i hi => absurd hi (Nat.not_lt_zero i)⟩
  · simp [Value.cells] at hcs0
    obtain ⟨rfl, rfl, rfl⟩ := hcs0
    simp only [Prod.mk.injEq] at hx
    obtain ⟨rfl, rfl⟩ := hx
    simp only [if_true] at hzl
    have hlen := s1 _ _ rfl
    simp only [lits, List.length_map, List.length_take, List.length_drop, hzl, reach_eq] at hlen
    refine ⟨some a, cap, len, fun c => zs.getD c 0, rfl, ⟨some a, cap, rfl, by omega, fun h0 => ?_⟩, fun i hi => ?_⟩
    · obtain ⟨b, o, rfl⟩ := addr_none (hcell 0 (by omega))
      exact ⟨b, o, rfl, fun c hc => by have hcc := hcell c (by omega); rwa [add_pl] at hcc⟩
    · have hi2 : i < zs.length := by omega
      have : zs.getD i 0 ∈ zs := by
        rw [List.getD_eq_getElem?_getD, List.getElem?_eq_getElem hi2]
        exact List.getElem_mem hi2
      exact b64 (hwf _ this)
end Go.Proofs.YteleknojohnlbaaGreat
namespace Go.Proofs.YteleknojohnlbaaGreat
open Go.ChangeShapes Go.WideShapes Go.ChangeAt Go.RowKit Go.Deep
set_option linter.unusedVariables false
set_option maxRecDepth 100000
set_option linter.unusedSimpArgs false
theorem structsC_of {α : Type} {H : Type} {enc : TypeId × Value → H} {W : World} {v : Value} {x : DataW H × List MemPlace} {fuel : Nat} {T S : TypeId} (k : Nat) (hS : Tryz.prog.underlying S = some (.slice T)) (hT : Tryz.prog.cellsOf T = k) (h0 : 0 < k) (at' : Nat → Nat → α → Prop) (a0 : α)
    (each : ∀ (cs : List Value) (y : DataW H × List MemPlace) (fuel : Nat), cs.length = k → DataW.trod enc Tryz.prog W 0 (fun _ => true) true fuel T cs = some y → ∃ q : α, ∀ b o, (∀ j u, cs[j]? = some u → W.cell? ⟨b, o + j, none⟩ = some u) → at' b o q)
    (hf : DataW.trod enc Tryz.prog W 0 (fun _ => true) true fuel S [v] = some x) :
    ∃ (A : Option Addr) (C m : Nat) (F : Nat → α), v = .slice A m C ∧ m ≤ C ∧ m ≤ 9223372036854775807 ∧ (0 < m → ∃ b o, A = some ⟨b, o, none⟩ ∧ ∀ c, c < m → at' b (o + c * k) (F c)) := by
  rcases open_slice hS hf with ⟨hcs0, hx⟩ | ⟨a, len, cap, m, n, D, Pl, hcs0, _, hl, hm, hmm, hx, hi⟩
  · simp at hcs0
    exact ⟨none, 0, 0, fun _ => a0, hcs0, Nat.le_refl _, by omega, fun h => absurd h (Nat.lt_irrefl 0)⟩
  · simp at hcs0
    simp only [if_true] at hmm
    have one : ∀ i, i < len → ∃ q : α, ∀ b o, a = ⟨b, o, none⟩ → at' b (o + i * k) q := fun i hil => by
      obtain ⟨cs', hc, ht⟩ := hi i (by omega)
      rw [hT] at hc
      obtain ⟨_, hcl, hat⟩ := World.cells?_some hc
      obtain ⟨q, hq⟩ := each cs' _ n hcl ht
      refine ⟨q, fun b o hao => hq b _ fun j u hu => ?_⟩
      subst hao
      have hj : j < k := by rw [← hcl]; exact (List.getElem?_eq_some_iff.1 hu).1
      have := hat j hj
      rw [add_pl, add_pl, hu] at this
      exact this
    have first : 0 < len → ∃ b o, a = ⟨b, o, none⟩ := fun hlen => by
      obtain ⟨cs', hc, _⟩ := hi 0 (by omega)
      rw [hT] at hc
      obtain ⟨_, hcl, hat⟩ := World.cells?_some hc
      have := hat 0 (by omega)
      rw [Nat.zero_mul, List.getElem?_eq_getElem (by omega)] at this
      obtain ⟨b, o, sp⟩ := a
      have hs : sp = none := by simpa [Addr.add] using World.cell?_spot this
      exact ⟨b, o, by rw [hs]⟩
    have ch : ∀ i, ∃ q : α, i < len → ∀ b o, a = ⟨b, o, none⟩ → at' b (o + i * k) q := fun i => by
      by_cases hil : i < len
      · obtain ⟨q, hq⟩ := one i hil; exact ⟨q, fun _ => hq⟩
      · exact ⟨a0, fun h => absurd h hil⟩
    obtain ⟨F, hF⟩ := Classical.axiomOfChoice ch
    refine ⟨some a, cap, len, F, hcs0, hl, by unfold maxLen at hm; omega, fun h0 => ?_⟩
    obtain ⟨b, o, rfl⟩ := first h0
    exact ⟨b, o, rfl, fun c hc => hF c hc b o rfl⟩
theorem rows_of {H : Type} {enc : TypeId × Value → H} {W : World} {v : Value} {x : DataW H × List MemPlace} {fuel : Nat} (h : DataW.trod enc Tryz.prog W 0 (fun _ => true) true fuel /-t-/37 [v] = some x) :
    ∃ (A : Option Addr) (C m : Nat) (g : Nat → Br), v = .slice A m C ∧ RowBs W A m C g := by
  obtain ⟨A, C, m, g, rfl, h0, h1, h2⟩ := structsC_of (α := Br) 1 Tryz.underlying37 cells_bs (by decide) (BrAt W) ⟨none, 0, 0, fun _ => 0⟩ (fun cs y fuel hcl ht => by
    match cs, hcl with
    | [x0], _ =>
      obtain ⟨qA, qn, qC, qz, rfl, e2⟩ := br_of (x := y) ht
      exact ⟨⟨qA, qn, qC, qz⟩, fun b o hc => ⟨hc 0 _ rfl, e2⟩⟩) h
  refine ⟨A, C, m, g, rfl, h0, h1, fun hm => ?_⟩
  obtain ⟨b, o, hA, hc⟩ := h2 hm
  exact ⟨b, o, hA, fun c hcm => by have := hc c hcm; rwa [Nat.mul_one] at this⟩
structure Lv where
  A : Option Addr
  m : Nat
  C : Nat
  g : Nat → Br
def LvAt (w : World) (b o : Nat) (q : Lv) : Prop := w.cell? ⟨b, o, none⟩ = some (.slice q.A q.m q.C) ∧ RowBs w q.A q.m q.C q.g
structure LvsV (w : World) (A : Option Addr) (m C : Nat) (g : Nat → Lv) : Prop where
  cap : m ≤ C
  le : m ≤ 9223372036854775807
  at' : 0 < m → ∃ b o, A = some ⟨b, o, none⟩ ∧ ∀ c, c < m → LvAt w b (o + c) (g c)
theorem cells_ls : Tryz.prog.cellsOf /-t-/37 = 1 := by kernel_rfl
theorem open_lives {H : Type} {enc : TypeId × Value → H} {W : World} {v : Value} {d : DataW H} {p : List MemPlace} (hv : ∃ a len cap, v = .slice a len cap) (h : DataW.Trod enc Tryz.prog W 0 (fun _ => true) true 62 v d p) :
    ∃ (A : Option Addr) (C m : Nat) (g : Nat → Lv), v = .slice A m C ∧ LvsV W A m C g := by
  obtain ⟨A, C, m, g, rfl, h0, h1, h2⟩ := open_structsC (α := Lv) 1 (show Tryz.prog.underlying 62 = some (.slice /-t-/37) by kernel_rfl) cells_ls (by decide) (LvAt W) ⟨none, 0, 0, fun _ => ⟨none, 0, 0, fun _ => 0⟩⟩ (fun cs y fuel hcl ht => by
    match cs, hcl with
    | [x0], _ =>
      obtain ⟨qA, qC, qm, qg, rfl, e2⟩ := rows_of (x := y) ht
      exact ⟨⟨qA, qm, qC, qg⟩, fun b o hc => ⟨hc 0 _ rfl, e2⟩⟩) hv h
  refine ⟨A, C, m, g, rfl, h0, h1, fun hm => ?_⟩
  obtain ⟨b, o, hA, hc⟩ := h2 hm
  exact ⟨b, o, hA, fun c hcm => by have := hc c hcm; rwa [Nat.mul_one] at this⟩
end Go.Proofs.YteleknojohnlbaaGreat
namespace Go.Proofs.YteleknojohnlbaaGreat
open Go.RowKit
set_option linter.unusedVariables false
set_option maxRecDepth 100000
def openB (n : Nat) (z : Nat → Nat) (V : Value) : Bk := if opensB n z then readB V z else bk0
def OpenPost (n : Nat) (z : Nat → Nat) (w : World) (e : Ending) (w' : World) : Prop :=
  ∃ V, e = .returned (.tuple #[.agg (bkC (openB n z V)), .int .i64 (openQ n z)]) ∧ BkIs w' (openB n z V) ∧ Ch (fun _ => False) w w'
theorem bk0_is (w : World) : BkIs w bk0 := by
  have h : N64 0 := by unfold N64; omega
  exact ⟨h, h, h, h, h, nil_row _ _⟩
theorem numZ_64 {z : Nat → Nat} {a n : Nat} (hz : Bytes n z) (ha : a + 4 ≤ n) : N64 (numZ z a) := by
  have := Crc.le4_lt (hz a (by omega)) (hz (a + 1) (by omega)) (hz (a + 2) (by omega)) (hz (a + 3) (by omega))
  unfold N64 numZ
  omega
theorem readB_is {w : World} {A : Option Addr} {C : Nat} {z : Nat → Nat} (hz : Bytes 256 z) (h : RowV w (.slice A (rdLen z) C) (rdLen z) (bodyZ z)) : BkIs w (readB (.slice A (rdLen z) C) z) := by
  refine ⟨?_, numZ_64 hz (by omega), numZ_64 hz (by omega), numZ_64 hz (by omega), numZ_64 hz (by omega), h⟩
  have := hz 2 (by omega)
  show N64 (z 2 : Int)
  unfold N64
  omega
theorem openE_long {n : Nat} (z : Nat → Nat) (h : n ≠ 256) : openQ n z = 1 := by unfold openQ; rw [if_neg h]
theorem opensB_long {n : Nat} (z : Nat → Nat) (h : n ≠ 256) : opensB n z = false := by unfold opensB; rw [decide_eq_false h, Bool.false_and]
theorem openE_at (z : Nat → Nat) : openQ 256 z = if opensB 256 z then 0 else 7 := by unfold openQ; rw [if_pos rfl]
theorem opensB_at (z : Nat → Nat) : opensB 256 z = (mayB (readB undef z) && eqB 256 256 (sectZ (readB undef z)) z) := by unfold opensB; rw [decide_eq_true rfl, Bool.true_and]
theorem openB_no {n : Nat} {z : Nat → Nat} (h : opensB n z = false) (V : Value) : openB n z V = bk0 := by unfold openB; rw [h]; rfl
theorem openB_yes {n : Nat} {z : Nat → Nat} (h : opensB n z = true) (V : Value) : openB n z V = readB V z := by unfold openB; rw [if_pos h]
theorem openPost_no {n : Nat} {z : Nat → Nat} {w w' : World} {x : Int} (h : opensB n z = false) (hx : openQ n z = x) (hc : Ch (fun _ => False) w w') : OpenPost n z w (.returned (.tuple #[.agg (bkC bk0), .int .i64 x])) w' :=
  ⟨undef, by rw [openB_no h, hx], by rw [openB_no h]; exact bk0_is _, hc⟩
theorem openPost_yes {n : Nat} {z : Nat → Nat} {w w' : World} {V : Value} (h : opensB n z = true) (hx : openQ n z = 0) (hb : BkIs w' (readB V z)) (hc : Ch (fun _ => False) w w') : OpenPost n z w (.returned (.tuple #[.agg (bkC (readB V z)), .int .i64 0])) w' :=
  ⟨V, by rw [openB_yes h, hx], by rw [openB_yes h]; exact hb, hc⟩
theorem bk0_V : ∃ A n C, bk0.V = .slice A n C := ⟨_, _, _, rfl⟩
set_option maxHeartbeats 1600000 in
set_option maxRecDepth 100000 in
theorem open_long (A : Option Addr) (n C : Nat) (z : Nat → Nat) (w : World) (hn : n ≤ 140737488351232) (h : n ≠ 256) : Calls Tryz.prog 82 #[.slice A n C] w (OpenPost n z w) := by
  obtain ⟨w1, H, hZ⟩ := zeR w
  obtain ⟨w2, h2⟩ := stR (b := bk0) hZ.cx bk0_V
  have HP := Lib.hid (openPost_no (w := w) (w' := w2) (opensB_long z h) (openE_long z h) (hZ.ch.over h2.ch (by rw [hZ.sz]; exact Nat.le_refl _)))
  have HZ := Lib.hid hZ
  have H2 := Lib.hid h2
  have t1 : ((n : Int) != 256) = true := by simp; omega
  clear hZ h2 h
  go_enter Tryz.func82, Tryz.ntmps82
  go_wp2_with (first
    | ((with_reducible refine wpList_isOp (.alloc 80) rfl ?_); refine wpList_making _ w1 rfl 80 rfl (bkC bk0) H (zero_bk _) (by exact HZ.out.sz) (by exact HZ.out.al) ?_)
    | ((with_reducible refine wpList_isOp (.store 80 (.tmp 2) (.tmp 10)) rfl ?_); refine wpList_storing _ w2 rfl 80 (.tmp 2) (.tmp 10) rfl (.agg (bkC bk0)) ⟨H, 0, none⟩ rfl rfl (by exact H2.out.st) ?_))
  exact bodyPost_ret (v := .tuple #[.agg (bkC bk0), .int .i64 1]) (results_bk Tryz.results82 _ _ H bk0 rfl H2.out.cx) rfl HP.out
set_option maxHeartbeats 3200000 in
set_option maxRecDepth 100000 in
theorem open_at (A : Option Addr) (C : Nat) (z : Nat → Nat) (w : World) (h : RowV w (.slice A 256 C) 256 z) : Calls Tryz.prog 82 #[.slice A 256 C] w (OpenPost 256 z w) := by
  obtain ⟨w1, H, hZ⟩ := zeR w
  have HZ := Lib.hid hZ
  have HV1 := Lib.hid (h.gr hZ.ch)
  have HBY := Lib.hid h.bytes
  have t1 : ((256 : Int) != 256) = false := by simp
  clear hZ h
  go_enter Tryz.func82, Tryz.ntmps82
  go_wp2_with ((with_reducible refine wpList_isOp (.alloc 80) rfl ?_); refine wpList_making _ w1 rfl 80 rfl (bkC bk0) H (zero_bk _) (by exact HZ.out.sz) (by exact HZ.out.al) ?_)
  refine (bread_any A C z _ HV1.out).mono ?_
  rintro e w2 ⟨A2, C2, rfl, ho2, hc2⟩
  obtain ⟨r, hr⟩ : ∃ r, r = readB (.slice A2 (rdLen z) C2) z := ⟨_, rfl⟩
  have hrV : r.V = .slice A2 r.len C2 := by rw [hr]; rfl
  have hrow2 := ownsRow_rowV ho2 (by have := readL_le z; omega) (fun c hc => HBY.out _ (by have := readL_le z; omega))
  have hr2 : BkIs w2 r := by rw [hr]; exact readB_is HBY.out hrow2
  obtain ⟨w3, H3, hZ3⟩ := zeR w2
  obtain ⟨w4, h4⟩ := stR (b := r) hZ3.cx ⟨_, _, _, hrV⟩
  have hc4 : Ch (fun _ => False) w2 w4 := hZ3.ch.over h4.ch (by rw [hZ3.sz]; exact Nat.le_refl _)
  have HR4 := Lib.hid (hr2.gr hc4)
  have HL4 := Lib.hid (load_bk h4.cx)
  have HZ3 := Lib.hid hZ3
  have H4 := Lib.hid h4
  have HC14 := Lib.hid (hc2.trans hc4)
  have HV4 := Lib.hid (HV1.out.gr (hc2.trans hc4))
  have HRV := Lib.hid hrV
  have HSE := Lib.hid (show mayB (readB undef z) = mayB r by rw [hr]; rfl)
  have HSZ := Lib.hid (show sectZ (readB undef z) = sectZ r by rw [hr]; rfl)
  have HRD := Lib.hid hr
  have HO4 := Lib.hid (show w4.ownsRow w1.heap.size /-t-/5 1 (.slice A2 r.len C2) r.len (bytesL r.len r.z) by
    rw [hr]
    exact ownsRow_ch ho2 hc4)
  rw [← hr]
  clear ho2 hc2 hrow2 hr2 hZ3 h4 hc4 hrV hr
  go_wp2_with (first
    | ((with_reducible refine wpList_isOp (.alloc 80) rfl ?_); refine wpList_making _ w3 rfl 80 rfl (bkC bk0) H3 (zero_bk _) (by exact HZ3.out.sz) (by exact HZ3.out.al) ?_)
    | ((with_reducible refine wpList_isOp (.store 80 (.tmp 4) (.tmp 12)) rfl ?_); refine wpList_storing _ w4 rfl 80 (.tmp 4) (.tmp 12) rfl (.agg (bkC r)) ⟨H3, 0, none⟩ rfl rfl (by exact H4.out.st) ?_)
    | ((with_reducible refine wpList_isOp (.load 80 (.tmp 4)) rfl ?_); refine wpList_loading _ rfl 80 (.tmp 4) rfl (.agg (bkC r)) ⟨H3, 0, none⟩ rfl (by exact HL4.out) ?_))
  refine (bseal_any r A2 C2 _ HRV.out HR4.out).mono ?_
  rintro e w5 ⟨A5, C5, rfl, ho5, hc5⟩
  have HC15 := Lib.hid (HC14.out.trans hc5)
  have hcx1 : w5.heap[H]? = some (.cells (bkC bk0) 80 (0, 0)) := (HC15.out.block H (blk_lt (o := .cells (bkC bk0) 80 (0, 0)) HZ.out.cx) (fun f => f)).trans HZ.out.cx
  have hcx4 : w5.heap[H3]? = some (.cells (bkC r) 80 (0, 0)) := (hc5.block H3 (blk_lt (o := .cells (bkC r) 80 (0, 0)) H4.out.cx) (fun f => f)).trans H4.out.cx
  have HL5 := Lib.hid (load_bk hcx4)
  have HV5 := Lib.hid (HV4.out.gr hc5)
  have HRb := Lib.hid (HR4.out.gr hc5)
  obtain ⟨wn, hn⟩ := stR (b := bk0) hcx1 bk0_V
  obtain ⟨wy, hy⟩ := stR (b := r) hcx1 ⟨_, _, _, HRV.out⟩
  have hH : w.heap.size ≤ H := by rw [HZ.out.sz]; exact Nat.le_refl _
  have HN := Lib.hid hn
  have HY := Lib.hid hy
  have HPN := Lib.hid (show opensB 256 z = false → OpenPost 256 z w (.returned (.tuple #[.agg (bkC bk0), .int .i64 7])) wn from fun q =>
    openPost_no q (by rw [openE_at, q]; rfl) ((HZ.out.ch.trans HC15.out).over hn.ch hH))
  have HPY := Lib.hid (show opensB 256 z = true → OpenPost 256 z w (.returned (.tuple #[.agg (bkC r), .int .i64 0])) wy from fun q => by
    have hb : BkIs wy r := by
      have hb5 := HRb.out
      have ho5y := ownsRow_ch HO4.out hc5
      have hoy : wy.ownsRow w1.heap.size /-t-/5 1 (.slice A2 r.len C2) r.len (bytesL r.len r.z) := own_of ho5y (fun i hi => hy.ch.block i (World.ownsRow.lt ho5y i hi).2 (fun e => by
        have h5 := (World.ownsRow.lt ho5y i hi).1
        have h6 := blk_lt (o := .cells (bkC bk0) 80 (0, 0)) HZ.out.cx
        omega))
      refine ⟨hb5.kind, hb5.vol, hb5.addr, hb5.epoch, hb5.seq, ?_⟩
      rw [HRV.out]
      exact ownsRow_rowV hoy (by
        obtain ⟨_, _, _, hh, _⟩ := hb5.row
        exact hh.1) hb5.row.bytes
    rw [HRD.out] at hb ⊢
    exact openPost_yes q (by rw [openE_at, q]; rfl) hb ((HZ.out.ch.trans HC15.out).over hy.ch hH))
  have HAT := Lib.hid (show opensB 256 z = (mayB r && eqB 256 256 (sectZ r) z) by rw [opensB_at, HSE.out, HSZ.out])
  have HSB := Lib.hid (show Bytes 256 (sectZ r) from sectZ_b HRb.out.row.bytes 256)
  by_cases hm : mayB r = true
  · have hN : sealN r = 256 := by unfold sealN; rw [hm]; rfl
    have hE : sealE r = 0 := of_decide_eq_true (by rw [← sealE_may]; exact hm)
    rw [hN] at ho5
    have HS5 := Lib.hid (ownsRow_rowV ho5 (by omega) HSB.out)
    have HQ := Lib.hid (show opensB 256 z = eqB 256 256 (sectZ r) z by rw [HAT.out, hm, Bool.true_and])
    rw [hN, hE]
    obtain ⟨q, hq⟩ : ∃ q, q = eqB 256 256 (sectZ r) z := ⟨_, rfl⟩
    have HEQ := Lib.hid hq
    rw [← hq] at HQ
    clear ho5 hc5 hn hy hcx1 hcx4 hN hE hm hq
    go_wp2_with fail
    refine (equal_any _ _ 256 256 _ _ _ _ _ HS5.out HV5.out).mono ?_
    rintro e w6 ⟨rfl, rfl⟩
    rw [← HEQ.out]
    cases q
    · go_wp2_with ((with_reducible refine wpList_isOp (.store 80 (.tmp 2) (.tmp 26)) rfl ?_); refine wpList_storing _ wn rfl 80 (.tmp 2) (.tmp 26) rfl (.agg (bkC bk0)) ⟨H, 0, none⟩ rfl rfl (by exact HN.out.st) ?_)
      exact bodyPost_ret (v := .tuple #[.agg (bkC bk0), .int .i64 7]) (results_bk Tryz.results82 _ _ H bk0 rfl HN.out.cx) rfl (HPN.out HQ.out)
    · go_wp2_with (first
        | ((with_reducible refine wpList_isOp (.load 80 (.tmp 4)) rfl ?_); refine wpList_loading _ rfl 80 (.tmp 4) rfl (.agg (bkC r)) ⟨H3, 0, none⟩ rfl (by exact HL5.out) ?_)
        | ((with_reducible refine wpList_isOp (.store 80 (.tmp 2) (.tmp 27)) rfl ?_); refine wpList_storing _ wy rfl 80 (.tmp 2) (.tmp 27) rfl (.agg (bkC r)) ⟨H, 0, none⟩ rfl rfl (by exact HY.out.st) ?_))
      exact bodyPost_ret (v := .tuple #[.agg (bkC r), .int .i64 0]) (results_bk Tryz.results82 _ _ H r rfl HY.out.cx) rfl (HPY.out HQ.out)
  · have hm : mayB r = false := by simpa using hm
    have HQ := Lib.hid (show opensB 256 z = false by rw [HAT.out, hm, Bool.false_and])
    have hE : sealE r ≠ 0 := fun e => by
      have := sealE_may (b := r)
      rw [hm, e] at this
      cases this
    obtain ⟨E, hEE⟩ : ∃ E, E = sealE r := ⟨_, rfl⟩
    rw [← hEE] at hE ⊢
    have t2 : (E != 0) = true := by simpa using hE
    clear ho5 hc5 hn hy hcx1 hcx4 hm hE hEE
    go_wp2_with ((with_reducible refine wpList_isOp (.store 80 (.tmp 2) (.tmp 26)) rfl ?_); refine wpList_storing _ wn rfl 80 (.tmp 2) (.tmp 26) rfl (.agg (bkC bk0)) ⟨H, 0, none⟩ rfl rfl (by exact HN.out.st) ?_)
    exact bodyPost_ret (v := .tuple #[.agg (bkC bk0), .int .i64 7]) (results_bk Tryz.results82 _ _ H bk0 rfl HN.out.cx) rfl (HPN.out HQ.out)
theorem bopen_any (A : Option Addr) (n C : Nat) (z : Nat → Nat) (w : World) (h : RowV w (.slice A n C) n z) : Calls Tryz.prog 82 #[.slice A n C] w (OpenPost n z w) := by
  by_cases e : n = 256
  · subst e; exact open_at A C z w h
  · obtain ⟨_, _, _, h2, _⟩ := id h
    exact open_long A n C z w h2.1 e
end Go.Proofs.YteleknojohnlbaaGreat
namespace Go.Proofs.YteleknojohnlbaaGreat
open Go.RowKit
set_option linter.unusedVariables false
set_option maxRecDepth 100000
end Go.Proofs.YteleknojohnlbaaGreat
namespace Go.Proofs.YteleknojohnlbaaGreat
open Go.RowKit
set_option linter.unusedVariables false
set_option maxRecDepth 100000
end Go.Proofs.YteleknojohnlbaaGreat
namespace Go.Proofs.YteleknojohnlbaaGreat
open Go.RowKit
set_option linter.unusedVariables false
set_option maxRecDepth 100000
theorem secZ_congr {a b : Bk} (hk : a.kind = b.kind) (hv : a.vol = b.vol) (ha : a.addr = b.addr) (he : a.epoch = b.epoch) (hs : a.seq = b.seq) (hl : a.len = b.len) (hz : ∀ c, c < b.len → a.z c = b.z c) (c : Nat) : secZ a c = secZ b c := by
  have hh : headZ a = headZ b := by
    unfold headZ f1 f2 f3
    rw [hk, hv, ha, he, hs, hl]
  unfold secZ
  rw [hh, hl]
  split
  · rfl
  · split
    · exact hz _ (by omega)
    · rfl
theorem sectZ_congr {a b : Bk} (h : ∀ c, secZ a c = secZ b c) (c : Nat) : sectZ a c = sectZ b c := by
  unfold sectZ Crc.sealZ
  split
  · exact h c
  · rw [Crc.sumZ_congr fun i _ => h i]
theorem sectZ_num {b : Bk} (i : Nat) (hi : i < 4) (hx : f2 b i < 4294967296) : numZ (sectZ b) (4 + i * 4) = f2 b i := by
  have h := fun j (hj : j < 4) => (sectZ_front (b := b) (show 4 + i * 4 + j < 252 by omega)).trans (secZ_num i j hi hj)
  unfold numZ
  rw [show 4 + i * 4 = 4 + i * 4 + 0 from rfl, h 0 (by omega), Nat.add_zero, h 1 (by omega), h 2 (by omega), h 3 (by omega), Crc.byteOf_le4 hx]
structure Same (r b : Bk) : Prop where
  kind : r.kind = b.kind
  vol : r.vol = b.vol
  addr : r.addr = b.addr
  epoch : r.epoch = b.epoch
  seq : r.seq = b.seq
  len : r.len = b.len
  z : ∀ c, c < b.len → r.z c = b.z c
theorem back {b : Bk} (h : mayB b = true) (V : Value) : Same (readB V (sectZ b)) b := by
  obtain ⟨hn, hl⟩ := mayB_iff.1 h
  obtain ⟨k1, k2⟩ := hn.kind
  obtain ⟨v1, v2⟩ := hn.vol
  obtain ⟨a1, a2⟩ := hn.addr
  obtain ⟨e1, e2⟩ := hn.epoch
  obtain ⟨s1, s2⟩ := hn.seq
  have hlong : blkLong (sectZ b) = b.len := by
    unfold blkLong
    have l0 := (sectZ_front (b := b) (show 20 + 0 < 252 by omega)).trans (secZ_len 0 (by omega))
    have l1 := (sectZ_front (b := b) (show 20 + 1 < 252 by omega)).trans (secZ_len 1 (by omega))
    rw [Nat.add_zero] at l0
    rw [l0, l1]
    unfold Crc.byteOf
    simp only [Nat.reducePow]
    omega
  refine ⟨?_, ?_, ?_, ?_, ?_, ?_, fun c hc => ?_⟩
  · show ((sectZ b 2 : Nat) : Int) = b.kind
    rw [sectZ_front (by omega), secZ_first 2 (by omega) (by show b.kind.toNat < 256; omega)]
    show (b.kind.toNat : Int) = b.kind
    omega
  · show ((numZ (sectZ b) 4 : Nat) : Int) = b.vol
    have := sectZ_num (b := b) 0 (by omega) (by show b.vol.toNat < _; omega)
    rw [show 4 = 4 + 0 * 4 from rfl, this]
    show (b.vol.toNat : Int) = b.vol
    omega
  · show ((numZ (sectZ b) 8 : Nat) : Int) = b.addr
    have := sectZ_num (b := b) 1 (by omega) (by show b.addr.toNat < _; omega)
    rw [show 8 = 4 + 1 * 4 from rfl, this]
    show (b.addr.toNat : Int) = b.addr
    omega
  · show ((numZ (sectZ b) 12 : Nat) : Int) = b.epoch
    have := sectZ_num (b := b) 2 (by omega) (by show b.epoch.toNat < _; omega)
    rw [show 12 = 4 + 2 * 4 from rfl, this]
    show (b.epoch.toNat : Int) = b.epoch
    omega
  · show ((numZ (sectZ b) 16 : Nat) : Int) = b.seq
    have := sectZ_num (b := b) 3 (by omega) (by show b.seq.toNat < _; omega)
    rw [show 16 = 4 + 3 * 4 from rfl, this]
    show (b.seq.toNat : Int) = b.seq
    omega
  · show (if blkLong (sectZ b) ≤ 228 then blkLong (sectZ b) else 228) = b.len
    rw [hlong, if_pos hl]
  · show sectZ b (24 + c) = b.z c
    rw [sectZ_front (by omega), secZ_body c hc]
theorem Same.may {r b : Bk} (h : Same r b) : mayB r = mayB b := by
  unfold mayB numB kindB wordsB
  rw [h.kind, h.vol, h.addr, h.epoch, h.seq, h.len]
theorem Same.sect {r b : Bk} (h : Same r b) (c : Nat) : sectZ r c = sectZ b c := sectZ_congr (secZ_congr h.kind h.vol h.addr h.epoch h.seq h.len h.z) c
theorem opensB_own {b : Bk} (h : mayB b = true) : opensB 256 (sectZ b) = true := by
  have s := back h undef
  rw [opensB_at, s.may, h, Bool.true_and]
  exact decide_eq_true ⟨rfl, fun c _ => s.sect c⟩
end Go.Proofs.YteleknojohnlbaaGreat
