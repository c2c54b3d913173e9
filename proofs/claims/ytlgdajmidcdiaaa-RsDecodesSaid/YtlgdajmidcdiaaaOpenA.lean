/-
  A matrix that is handed in, opened; the last step of a law's row where a call has made new memory.
-/
import Derived.Test.YtlgdajmidcdiaaaApp
import Derived.Deep.Grids
import Derived.Deep.Matrix
import Derived.ProofKit
import Derived.OpenShut
import Derived.SizedLaws
import Derived.Carry
namespace Go.Proofs.Ytlgdajmidcdiaaa
open Go.ChangeShapes Go.WideShapes Go.ChangeAt Go.RowKit Go.Deep
set_option linter.unusedVariables false

theorem b8 {a : Int} (h : (Lit.int .u8 a).wf = true) : 0 ≤ a ∧ a < 256 := by have := bounds_u8 h; omega
theorem b64 {a : Int} (h : (Lit.int .i64 a).wf = true) : -9223372036854775808 ≤ a ∧ a ≤ 9223372036854775807 := by have := bounds_i64 h; omega
theorem own : ownKnob Try.prog.godebug = none := by kernel_rfl
theorem laidOut : laidOutB Try.prog = true := by kernel_rfl
theorem cells24 : Try.prog.cellsOf 33 = 1 := by kernel_rfl
theorem cells5 : Try.prog.cellsOf 5 = 1 := by kernel_rfl
theorem bytes24 : Try.prog.bytesOf 33 = 24 := by kernel_rfl
theorem bytes5 : Try.prog.bytesOf 5 = 1 := by kernel_rfl
theorem reach_eq : reachBytes = 140737488351232 := rfl

section
variable {H : Type} {enc : TypeId × Value → H} {P : Program}
theorem weights_in {e : TypeId} : ∀ {l : List (DataW H)} {d : DataW H}, d ∈ l → ∀ n ∈ d.weights P e, n ∈ DataW.weightsAll P e l
  | d' :: r, d, hd, n, hn => by
    simp only [DataW.weightsAll, List.mem_append]
    rcases List.mem_cons.1 hd with rfl | h
    · exact Or.inl hn
    · exact Or.inr (weights_in h n hn)
/-- The reach of a row inside a slice of slices. -/
theorem reach_row {ts : List TypeId} {ds : List (DataW H)} (h : (DataW.weightsEach P ts ds).all (· ≤ reachBytes) = true) {j : Nat} {t e q : TypeId} {elems spare e' sp' : List (DataW H)}
    (ht : ts[j]? = some t) (hd : ds[j]? = some (.slice elems spare)) (hu : P.underlying t = some (.slice e)) (hu2 : P.underlying e = some (.slice q)) (hx : DataW.slice e' sp' ∈ elems) : (e'.length + sp'.length) * P.bytesOf q ≤ reachBytes := by
  refine of_decide_eq_true (List.all_eq_true.1 h _ (DataW.weights_mem_each ht hd _ ?_))
  simp only [DataW.weights, hu, List.mem_cons, List.mem_append]
  exact Or.inr (Or.inl (weights_in hx _ (by simp [DataW.weights, hu2])))
/-- The row's last step where the world is known by 'Below' alone. -/
theorem post_below {f : Func} {s : ChangeSpec} {apart fresh handsOn again : Bool} {W W' : World} {args : Array Value} {v : Value} {ds gs : List (DataW H)} {before pa pv : List MemPlace}
    (hW : DataW.Whole enc P f.params.toList s.vars apart W args.toList ds gs before)
    (hres : ∀ (b : Nat) (sp : Nat → Bool) (hd : Bool), DataW.TrodAll enc P W' b sp hd f.resultTypes.toList (v.resultList f.resultTypes.size) (s.fn H (ds ++ gs)).results [])
    (hargs : ∀ sp : Nat → Bool, (∀ p ∈ before, sp p.block = true) → DataW.TrodAll enc P W' 0 sp true f.params.toList args.toList (s.fn H (ds ++ gs)).args pa)
    (hvars : ∀ sp : Nat → Bool, (∀ p ∈ before, sp p.block = true) → DataW.TrodVars enc P W' sp s.vars (s.fn H (ds ++ gs)).vars pv)
    (hps : before = pa ++ pv) (hb : Below W.heap.size W W')
    (hok : ∀ (j : Nat) (t : TypeId) (r : Value), f.resultTypes[j]? = some t → (v.resultList f.resultTypes.size)[j]? = some r → Value.okWide P W' .any 0 t r) :
    s.post enc P f apart fresh handsOn again W args v W' := by
  have hlt : ∀ p ∈ before, p.block < W.heap.size := fun p hp => hW.lt p hp
  have hold : ∀ p ∈ before, (fun b => decide (b < W.heap.size)) p.block = true := fun p hp => by simpa using hlt p hp
  refine ⟨ds, gs, before, [], pa, pv, hW, hres _ _ _, hargs _ hold, hvars _ hold, World.keptBut_mono (fun p hp => ⟨hp, ?_⟩) (hb.frame (· ∈ before)), fun _ => ?_⟩
  · rw [hps, List.mem_append] at hp
    exact Or.inr hp
  · obtain ⟨_, _, _, _, _, hz, hn⟩ := hW
    refine ⟨hok, _, _, ([] ++ pa) ++ pv, ⟨[] ++ pa, pv, trodAll_append (hargs _ (fun _ _ => rfl)) (hres _ _ _), hvars _ (fun _ _ => rfl), rfl, ?_, ?_⟩, ?_⟩
    · intro b off hp
      have hin : MemPlace.cell b off ∈ before := by rw [hps]; simpa using hp
      rw [hb.frozen (hlt _ hin)]
      exact hz b off hin
    · intro ha
      have := hn ha
      rw [hps] at this
      simpa using this
    · intro p hp _
      rw [hps]
      simpa using hp
/-- An argument reads as it did. -/
theorem arg_stays {t : TypeId} (hl : laidOutB P = true) (hr : P.readableRec t = true) (hrow : t < P.types.size) {W W' : World} {v : Value} {d : DataW H} {ps : List MemPlace} {sp : Nat → Bool}
    (h : DataW.Trod enc P W 0 (fun _ => true) true t v d ps) (hb : Below W.heap.size W W') (hlt : ∀ x ∈ ps, x.block < W.heap.size) (hsp : ∀ x ∈ ps, sp x.block = true) : DataW.Trod enc P W' 0 sp true t v d ps :=
  WideElems.Trod_stays hl hr hrow h (fun x hx => hb.same (hlt x hx)) hsp
end

theorem addr_none {w : World} {a : Addr} {v : Value} (h : w.cell? (a.add 0) = some v) : ∃ b o, a = ⟨b, o, none⟩ := by
  obtain ⟨b, o, sp⟩ := a
  have : sp = none := by simpa [Addr.add] using World.cell?_spot h
  exact ⟨b, o, by rw [this]⟩
/-- A matrix that is handed in. -/
theorem open_mat {H : Type} {enc : TypeId × Value → H} {W : World} {v : Value} {d : DataW H} {p : List MemPlace} (hv : ∃ a len cap, v = .slice a len cap) (h : DataW.Trod enc Try.prog W 0 (fun _ => true) true /-t-/22 v d p)
    (s1 : ∀ elems spare, d = .slice elems spare → (elems.length + spare.length) * 24 ≤ reachBytes)
    (s2 : ∀ elems spare e' sp', d = .slice elems spare → DataW.slice e' sp' ∈ elems → (e'.length + sp'.length) * 1 ≤ reachBytes) : ∃ n L Z, MatV W v n L Z := by
  obtain ⟨a0, len, cap, rfl⟩ := hv
  obtain ⟨fuel, hf⟩ := h
  rcases open_int_rows Try.underlying22 Try.underlying33 Try.underlying5 cells24 cells5 hf with ⟨hcs0, hx⟩ | ⟨a, len', cap', A, L, C, Z, hcs0, _, hl, hm, hx, hrows⟩
  · simp [Value.cells] at hcs0
    obtain ⟨rfl, rfl, rfl⟩ := hcs0
    exact ⟨0, fun _ => 0, fun _ _ => 0, none, 0, rfl, by omega, fun h => absurd h (Nat.lt_irrefl 0)⟩
  · simp [Value.cells] at hcs0
    obtain ⟨rfl, rfl, rfl⟩ := hcs0
    simp only [Prod.mk.injEq] at hx
    obtain ⟨rfl, rfl⟩ := hx
    have hlen := s1 _ _ rfl
    simp only [List.length_map, List.length_range, reach_eq] at hlen
    refine ⟨len, L, fun r c => ((Z r).getD c 0).toNat, some a, cap, rfl, by omega, fun h0 => ?_⟩
    obtain ⟨b, o, rfl⟩ := addr_none (hrows 0 (by omega)).1
    refine ⟨b, o, rfl, fun r hr => ?_⟩
    obtain ⟨hc, h1, h2, h3, h4, h5, h6⟩ := hrows r (by omega)
    rw [add_pl] at hc
    refine ⟨_, hc, _, _, rfl, ?_, fun hL => ?_⟩
    · cases hA : A r with
      | none => have := h5 hA; omega
      | some a' =>
        have := s2 _ _ ((lits .u8 ((Z r).take (L r)))) ((lits .u8 ((Z r).drop (L r)))) rfl (List.mem_map.2 ⟨r, List.mem_range.2 hr, by rw [hA]; rfl⟩)
        simp only [lits, List.length_map, List.length_take, List.length_drop, h3, reach_eq] at this
        omega
    · cases hA : A r with
      | none => have := h5 hA; omega
      | some a' =>
        obtain ⟨_, hcell⟩ := h6 a' hA
        obtain ⟨b', o', rfl⟩ := addr_none (hcell 0 (by omega))
        refine ⟨b', o', rfl, fun c hcl => ?_⟩
        have hcc := hcell c (by omega)
        rw [add_pl] at hcc
        have hb := b8 (h4 ((Z r).getD c 0) (by
          rw [List.getD, List.getElem?_eq_getElem (show c < (Z r).length by omega)]
          exact List.getElem_mem _))
        have e : ((((Z r).getD c 0).toNat : Nat) : Int) = (Z r).getD c 0 := by omega
        exact ⟨by show _ = some (Value.int .u8 ((((Z r).getD c 0).toNat : Nat) : Int)); rw [e]; exact hcc, by show ((Z r).getD c 0).toNat < 256; omega⟩
/-! ### a list of bools, to be read -/
def BitsV (w : World) (v : Value) (n : Nat) (z : Nat → Bool) : Prop :=
  ∃ (A : Option Addr) (C : Nat), v = .slice A n C ∧ n ≤ 140737488351232 ∧ (0 < n → ∃ b o, A = some ⟨b, o, none⟩ ∧ ∀ c, c < n → w.cell? ⟨b, o + c, none⟩ = some (.bool (z c)))
theorem BitsV.gr {w w' : World} {v : Value} {n : Nat} {z : Nat → Bool} (h : BitsV w v n z) (k : Ch (fun _ => False) w w') : BitsV w' v n z := by
  obtain ⟨A, C, h1, h2, h3⟩ := h
  refine ⟨A, C, h1, h2, fun hl => ?_⟩
  obtain ⟨b, o, hA, hc⟩ := h3 hl
  exact ⟨b, o, hA, fun c hcl => k.cell (hc c hcl) (fun f => f)⟩
theorem cellsBool : Try.prog.cellsOf 4 = 1 := by kernel_rfl
theorem bytesBool : Try.prog.bytesOf 4 = 1 := by kernel_rfl
theorem open_bits {H : Type} {enc : TypeId × Value → H} {W : World} {v : Value} {d : DataW H} {p : List MemPlace} (hv : ∃ a len cap, v = .slice a len cap) (h : DataW.Trod enc Try.prog W 0 (fun _ => true) true /-t-/32 v d p) (s1 : ∀ elems spare, d = .slice elems spare → (elems.length + spare.length) * 1 ≤ reachBytes) : ∃ n z, BitsV W v n z := by
  obtain ⟨a0, len, cap, rfl⟩ := hv
  obtain ⟨fuel, hf⟩ := h
  rcases open_bools Try.underlying32 Try.underlying4 cellsBool hf with ⟨hcs0, hx⟩ | ⟨a, len', cap', B, hcs0, _, hl, hm, hx, hcell⟩
  · simp [Value.cells] at hcs0
    obtain ⟨rfl, rfl, rfl⟩ := hcs0
    exact ⟨0, fun _ => false, none, 0, rfl, by omega, fun h => absurd h (Nat.lt_irrefl 0)⟩
  · simp [Value.cells] at hcs0
    obtain ⟨rfl, rfl, rfl⟩ := hcs0
    simp only [Prod.mk.injEq] at hx
    obtain ⟨rfl, rfl⟩ := hx
    have hlen := s1 _ _ rfl
    simp [reach_eq] at hlen
    refine ⟨len, B, some a, cap, rfl, by omega, fun h0 => ?_⟩
    obtain ⟨b, o, rfl⟩ := addr_none (hcell 0 (by omega))
    exact ⟨b, o, rfl, fun c hcl => by have := hcell c (by omega); rwa [add_pl] at this⟩
#print axioms open_mat
#print axioms post_below
end Go.Proofs.Ytlgdajmidcdiaaa
