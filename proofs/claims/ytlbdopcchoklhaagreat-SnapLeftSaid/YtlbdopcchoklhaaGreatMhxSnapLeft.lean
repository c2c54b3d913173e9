/-
  What SnapLeft needs besides.
-/
import Derived.Test.YtlbdopcchoklhaaGreatMh42
import Derived.Test.YtlbdopcchoklhaaGreatMh1
import Derived.Laws.StructEq
import Derived.ChangeKeysEq
import Derived.Test.YtlbdopcchoklhaaGreatMh43
import Derived.Test.YtlbdopcchoklhaaGreatMh3
import Derived.Test.YtlbdopcchoklhaaGreatMh29
import Derived.Test.YtlbdopcchoklhaaGreatMh41
import Derived.ProofKit
import Derived.OpenShut
import Derived.SizedLaws
import Derived.Carry
import Derived.Deep.Slices
import Derived.Deep.Fields
import Derived.Deep.Grids
import Derived.ChangeSame
namespace Go.Proofs.YtlbdopcchoklhaaGreat
open Go.ChangeShapes Go.WideShapes Go.ChangeAt Go.RowKit Go.Deep
set_option linter.unusedVariables false
set_option maxRecDepth 100000

theorem b8 {a : Int} (h : (Lit.int .u8 a).wf = true) : 0 ≤ a ∧ a < 256 := by have := bounds_u8 h; omega
theorem reach_eq : reachBytes = 140737488351232 := rfl

section
variable {H : Type} {enc : TypeId × Value → H} {P : Program}
end

theorem addr_none {w : World} {a : Addr} {v : Value} (h : w.cell? (a.add 0) = some v) : ∃ b o, a = ⟨b, o, none⟩ := by
  obtain ⟨b, o, sp⟩ := a
  have : sp = none := by simpa [Addr.add] using World.cell?_spot h
  exact ⟨b, o, by rw [this]⟩
theorem mapM_each {H : Type} {enc : TypeId × Value → H} {P : Program} {W : World} {e : TypeId} {q : IntKind} (he : P.underlying e = some (.int q)) {m : Nat} {cs : List Value} {c base : Nat} {sp : Nat → Bool} {held : Bool} : ∀ (L : List Nat) (xs : List (DataW H × List MemPlace)),
    L.mapM (fun i => DataW.trod enc P W base sp held m e ((cs.drop (i * c)).take c)) = some xs → ∀ i ∈ L, ∃ a : Int, (cs.drop (i * c)).take c = [.int q a] ∧ (Lit.int q a).wf = true
  | [], _, _, i, hi => by cases hi
  | j :: L, xs, h, i, hi => by
    rw [List.mapM_cons] at h
    simp only [bind, Option.bind_eq_some_iff, pure, Option.some.injEq] at h
    obtain ⟨y, hy, ys, hys, rfl⟩ := h
    rcases List.mem_cons.1 hi with rfl | hi
    · obtain ⟨a, ea, _, wa⟩ := DataW.trod_int he hy
      exact ⟨a, ea, wa⟩
    · exact mapM_each he L ys hys i hi
end Go.Proofs.YtlbdopcchoklhaaGreat

namespace Go.Proofs.YtlbdopcchoklhaaGreat
open Go.ChangeShapes Go.WideShapes Go.ChangeAt Go.RowKit Go.Deep
set_option linter.unusedVariables false
set_option maxRecDepth 100000

theorem cells5 : Tryz.prog.cellsOf 5 = 1 := by kernel_rfl
theorem bytes5 : Tryz.prog.bytesOf 5 = 1 := by kernel_rfl
/-- Bytes that are handed in. -/
theorem open_row {H : Type} {enc : TypeId × Value → H} {W : World} {v : Value} {d : DataW H} {p : List MemPlace} (hv : ∃ a len cap, v = .slice a len cap) (h : DataW.Trod enc Tryz.prog W 0 (fun _ => true) true /-t-/24 v d p)
    (s1 : ∀ elems spare, d = .slice elems spare → (elems.length + spare.length) * 1 ≤ reachBytes) : ∃ n z, RowV W v n z := by
  obtain ⟨a0, len, cap, rfl⟩ := hv
  obtain ⟨fuel, hf⟩ := h
  rcases open_ints Tryz.underlying24 Tryz.underlying5 cells5 hf with ⟨hcs0, hx⟩ | ⟨a, len', cap', zs, hcs0, _, hl, hm, hzl, hx, hcell, hwf⟩
  · simp [Value.cells] at hcs0
    obtain ⟨rfl, rfl, rfl⟩ := hcs0
    exact ⟨0, fun _ => 0, nil_row _ _⟩
  · simp [Value.cells] at hcs0
    obtain ⟨rfl, rfl, rfl⟩ := hcs0
    simp only [Prod.mk.injEq] at hx
    obtain ⟨rfl, rfl⟩ := hx
    simp only [if_true] at hzl
    have hlen := s1 _ _ rfl
    simp only [lits, List.length_map, List.length_take, List.length_drop, hzl, reach_eq] at hlen
    refine ⟨len, fun c => (zs.getD c 0).toNat, some a, cap, rfl, by omega, fun h0 => ?_⟩
    obtain ⟨b, o, rfl⟩ := addr_none (hcell 0 (by omega))
    refine ⟨b, o, rfl, fun c hc => ?_⟩
    have hcc := hcell c (by omega)
    rw [add_pl] at hcc
    have hb := b8 (hwf (zs.getD c 0) (by
      rw [List.getD, List.getElem?_eq_getElem (show c < zs.length by omega)]
      exact List.getElem_mem _))
    have e : (((zs.getD c 0).toNat : Nat) : Int) = zs.getD c 0 := by omega
    exact ⟨by show _ = some (Value.int .u8 (((zs.getD c 0).toNat : Nat) : Int)); rw [e]; exact hcc, by show (zs.getD c 0).toNat < 256; omega⟩
end Go.Proofs.YtlbdopcchoklhaaGreat

namespace Go.Proofs.YtlbdopcchoklhaaGreat
open Go.RowKit
set_option linter.unusedVariables false
set_option maxRecDepth 100000
set_option linter.unusedSimpArgs false

theorem frs_wrap {n : Gn} {a s : Nat} (hn : n.Ok) (ha : a ≤ 1) (hs : s < n.S) : wrap64 (wrap64 (4 + wrap64 (2 * n.ge.wal)) + wrap64 (wrap64 (wrap64 ((a : Int) * n.ge.st) + (s : Int)) * wrap64 (n.ge.k + n.ge.m))) = (frsN n a s : Int) := by
  show wrap64 (wrap64 (4 + wrap64 (2 * (n.W : Int))) + wrap64 (wrap64 (wrap64 ((a : Int) * (n.S : Int)) + (s : Int)) * wrap64 ((n.K : Int) + (n.M : Int)))) = _
  have w2 := hn.w2
  have s2 := hn.s2
  have k2 := hn.k2
  have m2 := hn.m2
  have h1 : a * n.S ≤ 32 := Nat.le_trans (Nat.mul_le_mul ha s2) (by omega)
  have h2 : (a * n.S + s) * n.q ≤ 64 * 24 := Nat.mul_le_mul (by omega) (by unfold Gn.q; omega)
  rw [← Int.natCast_mul a n.S, IntWalk.wrap64_in (2 * (n.W : Int)) ⟨by omega, by omega⟩, IntWalk.wrap64_in (4 + 2 * (n.W : Int)) ⟨by omega, by omega⟩, IntWalk.wrap64_in ((a * n.S : Nat) : Int) ⟨by omega, by omega⟩, IntWalk.wrap64_in (((a * n.S : Nat) : Int) + (s : Int)) ⟨by omega, by omega⟩, IntWalk.wrap64_in ((n.K : Int) + (n.M : Int)) ⟨by omega, by omega⟩]
  have e : (((a * n.S : Nat) : Int) + (s : Int)) * ((n.K : Int) + (n.M : Int)) = (((a * n.S + s) * n.q : Nat) : Int) := by
    unfold Gn.q
    rw [Int.natCast_mul (a * n.S + s), Int.natCast_add (a * n.S), Int.natCast_add n.K]
  rw [e, IntWalk.wrap64_in (((a * n.S + s) * n.q : Nat) : Int) ⟨by omega, by omega⟩, IntWalk.wrap64_in (4 + 2 * (n.W : Int) + (((a * n.S + s) * n.q : Nat) : Int)) ⟨by omega, by omega⟩]
  unfold frsN Gn.fs
  omega
set_option maxHeartbeats 1600000 in
theorem rfirst_yes (n : Gn) (a s : Nat) (w : World) (hn : n.Ok) (ha : a ≤ 1) (hs : s < n.S) : Calls Tryz.prog 12 #[.agg (geC n.ge), .int .i64 (a : Int), .int .i64 (s : Int)] w (Ans (.tuple #[.int .i64 (frsN n a s : Int), .int .i64 0]) w) := by
  obtain ⟨w1, H, hR⟩ := geR w n.ge
  have HR := Lib.hid hR
  have HX := Lib.hid hR.x
  have HM := Lib.hid (rgmay_any n.ge w1)
  rw [ok_may hn] at HM
  have HF := Lib.hid (frsN_lt hn ha hs (i := 0) (by have := hn.q1; omega))
  have HT := Lib.hid hn.tot2
  have h1 : (0 : Int) ≤ (a : Int) := Int.natCast_nonneg _
  have h2 : (a : Int) ≤ 1 := by omega
  have h3 : (0 : Int) ≤ (s : Int) := Int.natCast_nonneg _
  have h4 : (s : Int) < n.ge.st := by show (s : Int) < (n.S : Int); omega
  obtain ⟨x0, x1, x2, x3⟩ := HX.out
  have HN := Lib.hid hn
  have HA := Lib.hid (And.intro ha hs)
  clear hR ha hs hn
  go_enter Tryz.func12, Tryz.ntmps12
  go_wp2_with (first | ((with_reducible refine wpList_isOp (.box 23 (.tmp 0)) rfl ?_); refine wpList_boxing _ w1 rfl 23 (.tmp 0) rfl (geC n.ge) H rfl (by exact HR.out.sz) (by exact HR.out.al) ?_) | fail)
  refine HM.out.mono ?_
  rintro e w2 ⟨rfl, hc2⟩
  have HC := Lib.hid (HR.out.ch.trans hc2)
  clear x0 x1 x2 x3
  obtain ⟨x0, x1, x2, x3⟩ := HX.out.gr hc2
  clear hc2
  go_wp2
  go_ret2
  exact ⟨by show Ending.returned (.tuple #[.int .i64 (wrap64 (wrap64 (4 + wrap64 (2 * n.ge.wal)) + wrap64 (wrap64 (wrap64 ((a : Int) * n.ge.st) + (s : Int)) * wrap64 (n.ge.k + n.ge.m)))), .int .i64 0]) = _; rw [frs_wrap HN.out HA.out.1 HA.out.2], HC.out⟩
end Go.Proofs.YtlbdopcchoklhaaGreat

namespace Go.Proofs.YtlbdopcchoklhaaGreat
open Go.RowKit
set_option linter.unusedVariables false
set_option maxRecDepth 100000

theorem TryS.lims {d e : Dev} {P : PutP} {t k : Nat} (h : TryS d P t k e) : (Lim (kwD e P) (t + 3 * k + 1) ∧ LimM (kwD e P) (t + 3 * k + 1)) ∧ (Lim (kfD e P) (t + 3 * k + 1 + 1) ∧ LimM (kfD e P) (t + 3 * k + 1 + 1)) ∧ (Lim (krD e P) (t + 3 * (k + 1)) ∧ LimM (krD e P) (t + 3 * (k + 1))) := by
  have h1 := (near_write e P.pl P.n P.z).lim h.lim h.limM
  have h2 := (near_flush (kwD e P)).lim h1.1 h1.2
  have h3 := (near_read (kfD e P) P.pl).lim h2.1 h2.2
  exact ⟨h1, h2, h3⟩
section
variable {d e : Dev} {P : PutP} {t k : Nat}
theorem TryS.on (h : TryS d P t k e) (hk : k < 4) (q : writeE e P.pl P.n = 0) (q2 : flushE (kwD e P) = 0) (q3 : readE (kfD e P) P.pl = 0 ∨ readE (kfD e P) P.pl = 20) (q4 : readE (kfD e P) P.pl = 0 → eqB (readL (kfD e P) P.pl) P.n (readZ (kfD e P) P.pl) P.z = false) : TryS d P t (k + 1) (krD e P) := by
  obtain ⟨h1, h2⟩ := h.step hk
  have e3 : asP (kfD e P) P = false := by
    unfold asP
    by_cases w : readE (kfD e P) P.pl = 0
    · rw [q4 w, Bool.and_false]
    · rw [decide_eq_false w, Bool.false_and]
  have e1 : tryE e P = -1 := by unfold tryE; rw [if_pos q, if_pos q2, if_pos q3, e3]; rfl
  have e2 : tryD e P = krD e P := by unfold tryD; rw [if_pos q, if_pos q2]
  rw [e1, e2, if_pos rfl] at h1
  rw [e1, e2, if_pos rfl] at h2
  exact ⟨h1, h2, h.lims.2.2.1, h.lims.2.2.2⟩
end
end Go.Proofs.YtlbdopcchoklhaaGreat

namespace Go.Proofs.YtlbdopcchoklhaaGreat
open Go.RowKit
set_option linter.unusedVariables false
set_option maxRecDepth 100000
set_option linter.unusedSimpArgs false

theorem faAt_ok {f : Fa} (h : FaOk f) {a : Int} (ha : I64 a) : FaOk (faAt f a) := by
  have z : I64 0 := by unfold I64; omega
  exact ⟨h.kind, ha, h.off, z, z, h.k0, h.k1, h.k2, h.k3⟩
section
variable {N : Nat} {d : Dev}
end
end Go.Proofs.YtlbdopcchoklhaaGreat

namespace Go.Proofs.YtlbdopcchoklhaaGreat
open Go.RowKit
set_option linter.unusedVariables false
set_option maxRecDepth 100000
set_option linter.unusedSimpArgs false

section
variable {N : Nat} {d : Dev} {vol ep no : Int} {n : Gn} {a s : Nat} {Z : Nat → Nat} {hu : Nat → Bool} {L : Nat → Nat} {X : Nat → Nat → Nat}
end
theorem cntL_le (b : Nat → Bool) : ∀ n, cntL b n ≤ n
  | 0 => Nat.le_refl _
  | n + 1 => by
    have := cntL_le b n
    unfold cntL
    split <;> omega
end Go.Proofs.YtlbdopcchoklhaaGreat

namespace Go.Proofs.YtlbdopcchoklhaaGreat
open Go.ChangeShapes Go.WideShapes Go.ChangeAt Go.RowKit Go.Deep
set_option linter.unusedVariables false
set_option maxRecDepth 100000

theorem cellsL : Tryz.prog.cellsOf 4 = 1 := by kernel_rfl
/-- Bools. -/
theorem bools_of {H : Type} {enc : TypeId × Value → H} {W : World} {v : Value} {x : DataW H × List MemPlace} {fuel : Nat} (h : DataW.trod enc Tryz.prog W 0 (fun _ => true) true fuel /-t-/42 [v] = some x) : ∃ n q, RowQ W v n q := by
  rcases open_bools Tryz.underlying42 Tryz.underlying4 cellsL h with ⟨hcs, _⟩ | ⟨a, len, cap, B, hcs, _, hl, hm, _, hc⟩
  · simp at hcs
    exact ⟨0, fun _ => false, none, 0, hcs, by omega, fun h => absurd h (Nat.lt_irrefl 0)⟩
  · simp at hcs
    refine ⟨len, B, some a, cap, hcs, by unfold maxLen at hm; omega, fun h0 => ?_⟩
    obtain ⟨b, o, rfl⟩ := addr_none (hc 0 (by omega))
    exact ⟨b, o, rfl, fun c hcl => by have := hc c (by omega); rwa [add_pl] at this⟩
theorem open_bools_arg {H : Type} {enc : TypeId × Value → H} {W : World} {v : Value} {d : DataW H} {p : List MemPlace} (hv : ∃ a len cap, v = .slice a len cap) (h : DataW.Trod enc Tryz.prog W 0 (fun _ => true) true /-t-/42 v d p) : ∃ n q, RowQ W v n q := by
  obtain ⟨a0, len, cap, rfl⟩ := hv
  obtain ⟨fuel, hf⟩ := h
  exact bools_of hf
/-- A fault, by its cells. -/
theorem fault_of {H : Type} {enc : TypeId × Value → H} {W : World} {cs : List Value} {x : DataW H × List MemPlace} {fuel : Nat} (h : DataW.trod enc Tryz.prog W 0 (fun _ => true) true fuel 45 cs = some x) : ∃ f : Fa, FaOk f ∧ cs = (faC f).toList := by
  obtain ⟨ys, n', hn', hy, hlen', hyl, hfl⟩ := DataW.trod_struct Tryz.underlying45 h
  have hlen9 : cs.length = 9 := by rw [hlen']; kernel_rfl
  match cs, hlen9 with
  | [x0, x1, x2, x3, x4, x5, x6, x7, x8], _ =>
    have g0 : DataW.trod enc Tryz.prog W 0 (fun _ => true) true n' 3 [x0] = ys[0]? := hfl 0 _ rfl
    have g1 : DataW.trod enc Tryz.prog W 0 (fun _ => true) true n' 3 [x1] = ys[1]? := hfl 1 _ rfl
    have g2 : DataW.trod enc Tryz.prog W 0 (fun _ => true) true n' 3 [x2] = ys[2]? := hfl 2 _ rfl
    have g3 : DataW.trod enc Tryz.prog W 0 (fun _ => true) true n' 3 [x3] = ys[3]? := hfl 3 _ rfl
    have g4 : DataW.trod enc Tryz.prog W 0 (fun _ => true) true n' 3 [x4] = ys[4]? := hfl 4 _ rfl
    have g5 : DataW.trod enc Tryz.prog W 0 (fun _ => true) true n' 43 [x5, x6, x7, x8] = ys[5]? := hfl 5 _ rfl
    have hys : ys.length = 6 := hyl
    match ys, hys with
    | [y0, y1, y2, y3, y4, y5], _ =>
      obtain ⟨a0, e0, _, w0⟩ := DataW.trod_int Tryz.underlying3 g0
      obtain ⟨a1, e1, _, w1⟩ := DataW.trod_int Tryz.underlying3 g1
      obtain ⟨a2, e2, _, w2⟩ := DataW.trod_int Tryz.underlying3 g2
      obtain ⟨a3, e3, _, w3⟩ := DataW.trod_int Tryz.underlying3 g3
      obtain ⟨a4, e4, _, w4⟩ := DataW.trod_int Tryz.underlying3 g4
      have g5' : DataW.trod enc Tryz.prog W 0 (fun _ => true) true n' 43 [x5, x6, x7, x8] = some y5 := g5
      cases n' with
      | zero => simp [DataW.trod] at g5'
      | succ m =>
        rw [DataW.trod_step] at g5'
        unfold DataW.trodStep at g5'
        simp only [Tryz.underlying43] at g5'
        rw [if_pos (show [x5, x6, x7, x8].length = Tryz.prog.cellsOf 43 by kernel_rfl)] at g5'
        simp only [Option.map_eq_some_iff] at g5'
        obtain ⟨zs, hz, _⟩ := g5'
        have each := mapM_each Tryz.underlying5 _ zs hz
        have pick : ∀ i, i < 4 → ∃ b : Nat, b < 256 ∧ [x5, x6, x7, x8][i]? = some (.int .u8 (b : Int)) := fun i hi => by
          obtain ⟨a, ea, wa⟩ := each i (List.mem_range.2 hi)
          rw [cells5, Nat.mul_one] at ea
          have e0 := congrArg (fun l : List Value => l[0]?) ea
          simp at e0
          have hb := b8 wa
          exact ⟨a.toNat, by omega, by rw [e0]; congr 2; omega⟩
        obtain ⟨b5, l5, f5⟩ := pick 0 (by omega)
        obtain ⟨b6, l6, f6⟩ := pick 1 (by omega)
        obtain ⟨b7, l7, f7⟩ := pick 2 (by omega)
        obtain ⟨b8', l8, f8⟩ := pick 3 (by omega)
        simp only [List.cons.injEq, and_true] at e0 e1 e2 e3 e4
        simp at f5 f6 f7 f8
        refine ⟨⟨a0, a1, a2, a3, a4, b5, b6, b7, b8'⟩, ⟨b64 w0, b64 w1, b64 w2, b64 w3, b64 w4, l5, l6, l7, l8⟩, ?_⟩
        rw [e0, e1, e2, e3, e4, f5, f6, f7, f8]
        rfl
end Go.Proofs.YtlbdopcchoklhaaGreat

namespace Go.Proofs.YtlbdopcchoklhaaGreat
open Go.ChangeShapes Go.WideShapes Go.ChangeAt Go.RowKit Go.Deep
set_option linter.unusedVariables false
set_option maxRecDepth 100000

/-- A fault that is handed in. -/
theorem open_fault {H : Type} {enc : TypeId × Value → H} {W : World} {v : Value} {d : DataW H} {p : List MemPlace} {b0 : Nat} {r : Go.Reach} (hv : Value.okWide Tryz.prog W r b0 45 v) (h : DataW.Trod enc Tryz.prog W 0 (fun _ => true) true 45 v d p) : ∃ f, FaOk f ∧ v = .agg (faC f) := by
  obtain ⟨cs, rfl, _⟩ := Go.WideShapes.okWide_struct Tryz.underlying45 hv
  obtain ⟨fuel, hf⟩ := h
  obtain ⟨f, h1, h2⟩ := fault_of (cs := cs.toList) hf
  exact ⟨f, h1, congrArg Value.agg (Array.ext' h2)⟩
#print axioms open_fault
end Go.Proofs.YtlbdopcchoklhaaGreat
namespace Go.Proofs.YtlbdopcchoklhaaGreat
open Go.RowKit
set_option linter.unusedVariables false
set_option maxRecDepth 100000
set_option linter.unusedSimpArgs false

/-- Is the k-th share hurt, by a row of bools that is handed in? -/
def hqB (m : Nat) (q : Nat → Bool) (k : Nat) : Bool := decide (k < m) && q k
theorem hqB_yes {m : Nat} {q : Nat → Bool} {k : Nat} (h : k < m) : hqB m q k = q k := by unfold hqB; rw [decide_eq_true h, Bool.true_and]
theorem hqB_no {m : Nat} {q : Nat → Bool} {k : Nat} (h : ¬ k < m) : hqB m q k = false := by unfold hqB; rw [decide_eq_false h, Bool.false_and]
/-- Are enough of the first stripes left? -/
def enB (n : Gn) (b : Nat → Bool) : Nat → Bool
  | 0 => true
  | s + 1 => enB n b s && decide (cntL (fun r => b (s * n.q + r)) n.q ≤ n.M)
theorem enB_iff {n : Gn} {b : Nat → Bool} : ∀ {s : Nat}, enB n b s = true ↔ ∀ s', s' < s → cntL (fun r => b (s' * n.q + r)) n.q ≤ n.M
  | 0 => ⟨fun _ s' h => absurd h (Nat.not_lt_zero s'), fun _ => rfl⟩
  | s + 1 => by
    unfold enB
    rw [Bool.and_eq_true, enB_iff, decide_eq_true_iff]
    constructor
    · rintro ⟨h1, h2⟩ s' hs
      by_cases e : s' = s
      · rw [e]; exact h2
      · exact h1 s' (by omega)
    · exact fun h => ⟨fun s' hs => h s' (by omega), h s (Nat.lt_succ_self s)⟩
theorem cntL_congr {b c : Nat → Bool} : ∀ {n : Nat}, (∀ r, r < n → b r = c r) → cntL b n = cntL c n
  | 0, _ => rfl
  | n + 1, h => by
    show cntL b n + (if b n then 1 else 0) = cntL c n + (if c n then 1 else 0)
    rw [cntL_congr fun r hr => h r (by omega), h n (Nat.lt_succ_self n)]
theorem enough_all {n : Gn} {b : Nat → Bool} : Enough n (fun j => decide (j < n.S * n.q) && b j) ↔ enB n b n.S = true := by
  rw [enB_iff]
  have e : ∀ s, s < n.S → cntL (fun r => (fun j => decide (j < n.S * n.q) && b j) (s * n.q + r)) n.q = cntL (fun r => b (s * n.q + r)) n.q := fun s hs => cntL_congr fun r hr => by
    have h1 : s * n.q + r < n.S * n.q := by
      have h2 : (s + 1) * n.q ≤ n.S * n.q := Nat.mul_le_mul_right n.q hs
      rw [Nat.succ_mul] at h2
      omega
    show (decide (s * n.q + r < n.S * n.q) && b (s * n.q + r)) = _
    rw [decide_eq_true h1, Bool.true_and]
  exact ⟨fun h s hs => by rw [← e s hs]; exact h s hs, fun h s hs => by rw [e s hs]; exact h s hs⟩
theorem huS_lim {f : Fa} {b : Nat → Bool} {B0 : Nat} {d : Dev} {t : Nat} (hl : Lim d t) (hm : LimM d t) : ∀ k, Lim (huS f b B0 d k) (t + k) ∧ LimM (huS f b B0 d k) (t + k)
  | 0 => ⟨hl, hm⟩
  | k + 1 => by
    have ih := huS_lim (f := f) (b := b) (B0 := B0) hl hm k
    cases hq : b k with
    | true =>
      have e : huS f b B0 d (k + 1) = faultD (huS f b B0 d k) (faAt f ((B0 + k : Nat) : Int)) := if_pos hq
      rw [e]
      exact (near_fault _ _).lim ih.1 ih.2
    | false =>
      have e : huS f b B0 d (k + 1) = huS f b B0 d k := if_neg (by rw [hq]; exact Bool.false_ne_true)
      rw [e]
      exact ⟨ih.1.mono (by omega), ih.2.mono (by omega)⟩
theorem huS_yes {f : Fa} {b : Nat → Bool} {B0 : Nat} {d : Dev} {k : Nat} (h : b k = true) : huS f b B0 d (k + 1) = faultD (huS f b B0 d k) (faAt f ((B0 + k : Nat) : Int)) := if_pos h
theorem huS_no {f : Fa} {b : Nat → Bool} {B0 : Nat} {d : Dev} {k : Nat} (h : b k = false) : huS f b B0 d (k + 1) = huS f b B0 d k := if_neg (by rw [h]; exact Bool.false_ne_true)
theorem cntL_yes {b : Nat → Bool} {n : Nat} (h : b n = true) : cntL b (n + 1) = cntL b n + 1 := by
  show cntL b n + (if b n then 1 else 0) = _
  rw [if_pos h]
theorem cntL_no {b : Nat → Bool} {n : Nat} (h : b n = false) : cntL b (n + 1) = cntL b n := by
  show cntL b n + (if b n then 1 else 0) = _
  rw [if_neg (by rw [h]; exact Bool.false_ne_true)]
  rfl
theorem enB_s {n : Gn} {b : Nat → Bool} {s : Nat} : enB n b (s + 1) = (enB n b s && decide (cntL (fun r => b (s * n.q + r)) n.q ≤ n.M)) := rfl
/-- The device that a snapshot was written on, before and after the damage. -/
structure LftOn (n : Gn) (a : Nat) (Z : Nat → Nat) (d : Dev) : Prop where
  on : SnpOn (secsG n) d 7 2 5 n a Z (fun _ => false)
  lim : Lim d 200000
  limM : LimM d 200000
theorem lft_on {n : Gn} (hn : n.Ok) {a : Nat} (ha : a ≤ 1) (Z : Nat → Nat) : (allTo (snpP 7 2 5 n a Z) (bkD 7 (secsG n)) (n.S * n.q)).e = 0 ∧ LftOn n a Z (allTo (snpP 7 2 5 n a Z) (bkD 7 (secsG n)) (n.S * n.q)).d := by
  obtain ⟨h1, h2, _⟩ := snp_first hn ha 7 2 5 Z
  have h0 := bkD_lims 7 (secsG n)
  have hl := allTo_lim (f := snpP 7 2 5 n a Z) h0.1 h0.2 (n.S * n.q)
  have ht := hn.t2
  have htot : secsG n ≤ 2564 := by
    have := hn.tot2
    unfold Gn.tot Gn.fs Gn.q at this
    unfold secsG
    rw [Nat.mul_assoc]
    exact this
  exact ⟨h1, h2, hl.1.mono (by unfold Gn.q at *; omega), hl.2.mono (by unfold Gn.q at *; omega)⟩
/-- The bytes that are read are those that were written, where enough are left; else there are none. -/
theorem lft_read {n : Gn} {a l : Nat} {z : Nat → Nat} {d : Dev} {f : Fa} {b : Nat → Bool} (g : LftOn n a (padZ l z) d) (hn : n.Ok) (ha : a ≤ 1) (hz : Bytes l z) (hf : FaOk f) (hb : FaBad f) (hl : l ≤ n.S * n.K * 228) {w' : World} {v : Value} {k : Int}
    (h : (k = 0 ∧ ∃ Ds, (∀ s, s < n.S → n.K ≤ leftN (huS f b (frsN n a 0) d (n.S * n.q)) 7 5 n a s ∧ DatS (huS f b (frsN n a 0) d (n.S * n.q)) 7 5 n a s (Ds s)) ∧ RowV w' v l (rdB n.K Ds)) ∨ (k = 22 ∧ v = .slice none 0 0 ∧ ∃ s, s < n.S ∧ leftN (huS f b (frsN n a 0) d (n.S * n.q)) 7 5 n a s < n.K)) :
    (k = 0 ∧ enB n b n.S = true ∧ RowV w' v l z) ∨ (k = 22 ∧ enB n b n.S = false ∧ v = .slice none 0 0) := by
  have hZ : ∀ i, padZ l z i < 256 := fun i => padZ_b hz i
  have hu := snp_hurt g.on (area_in hn ha) hZ hf hb b (n.S * n.q) (Nat.le_refl _)
  have he := rd_enough hu hn ha (Nat.le_refl _) ⟨by omega, by omega⟩ ⟨by omega, by omega⟩ ⟨by omega, by omega⟩ hZ
  rw [enough_all] at he
  rcases h with ⟨rfl, Ds, h1, h2⟩ | ⟨rfl, rfl, s, h1, h2⟩
  · refine Or.inl ⟨rfl, he.2 fun s hs => (h1 s hs).1, h2.congr fun c hc => ?_⟩
    rw [rd_bytes hu hn ha (Nat.le_refl _) ⟨by omega, by omega⟩ ⟨by omega, by omega⟩ ⟨by omega, by omega⟩ hZ h1 (show c < n.S * n.K * 228 by omega)]
    exact if_pos hc
  · refine Or.inr ⟨rfl, ?_, rfl⟩
    cases e : enB n b n.S with
    | false => rfl
    | true =>
      have := he.1 e s h1
      omega
theorem huS_live {n : Gn} {a l : Nat} {z : Nat → Nat} {d : Dev} {f : Fa} {b : Nat → Bool} (g : LftOn n a (padZ l z) d) (hn : n.Ok) (ha : a ≤ 1) (hz : Bytes l z) (hf : FaOk f) (hb : FaBad f) : (huS f b (frsN n a 0) d (n.S * n.q)).dead = false :=
  (snp_hurt g.on (area_in hn ha) (fun i => padZ_b hz i) hf hb b (n.S * n.q) (Nat.le_refl _)).fine.qt.dead
theorem blkD12 {vol : Int} {g : Ge} {w : World} {e : Ending} {w' : World} (h : BlankPost11 vol g w e w') : ∃ D, e = .returned (.pointer D) ∧ Ch (fun _ => False) w w' ∧ (blkOk vol g = false → D = none) := by
  cases hb : blkOk vol g with
  | false =>
    obtain ⟨h1, h2⟩ := h.1 hb
    exact ⟨_, h1, h2, fun _ => rfl⟩
  | true =>
    have hm : mayG g = true := by unfold blkOk at hb; exact (Bool.and_eq_true_iff.1 hb).1
    obtain ⟨n, hn, rfl⟩ := may_nat hm
    obtain ⟨B, h1, h2⟩ := h.2 n hb rfl
    exact ⟨_, h1, h2.ch, fun f => by cases f⟩
/-- A geometry that is small, and has a blank device. -/
theorem sml12 {g : Ge} (hs : smlB g = true) (hb : blkOk 7 g = true) : ∃ n : Gn, n.Ok ∧ g = n.ge ∧ n.S ≤ 3 ∧ n.K ≤ 4 ∧ n.M ≤ 3 ∧ n.W ≤ 16 := by
  have hm : mayG g = true := by unfold blkOk at hb; exact (Bool.and_eq_true_iff.1 hb).1
  obtain ⟨n, hn, rfl⟩ := may_nat hm
  unfold smlB at hs
  simp only [Bool.and_eq_true, decide_eq_true_eq] at hs
  obtain ⟨h1, h2, h3, h4⟩ := hs
  have h1 : (n.W : Int) ≤ 16 := h1
  have h2 : (n.S : Int) ≤ 3 := h2
  have h3 : (n.K : Int) ≤ 4 := h3
  have h4 : (n.M : Int) ≤ 3 := h4
  exact ⟨n, hn, rfl, by omega, by omega, by omega, by omega⟩
theorem room12 {n : Gn} (hS : n.S ≤ 3) (hK : n.K ≤ 4) : ∃ SK T : Nat, T = n.S * n.K * 228 ∧ T ≤ 2736 ∧ wrap64 ((n.S : Int) * (n.K : Int)) = (SK : Int) ∧ wrap64 ((SK : Int) * 228) = (T : Int) := by
  obtain ⟨SK, hSK⟩ : ∃ SK, SK = n.S * n.K := ⟨_, rfl⟩
  have hSK2 : SK ≤ 12 := by rw [hSK]; exact Nat.mul_le_mul hS hK
  refine ⟨SK, SK * 228, by rw [hSK], by omega, ?_, ?_⟩
  · have : (n.S : Int) * (n.K : Int) = (SK : Int) := by rw [hSK]; exact (Int.natCast_mul _ _).symm
    rw [this]
    exact IntWalk.wrap64_in _ ⟨by omega, by omega⟩
  · rw [IntWalk.wrap64_in _ ⟨by omega, by omega⟩]; omega
/-- What the walk needs tto know of the damage: the device after k shares, how many of a stripe are lost, whether enough are left. -/
structure LfF (n : Gn) (x l : Nat) (z : Nat → Nat) (m : Nat) (q : Nat → Bool) (f : Fa) (d1 : Dev) (Q : Nat) (b : Nat → Bool) (D : Nat → Dev) (en : Nat → Bool) (ct : Nat → Nat → Nat) : Prop where
  eQ : Q = n.q
  q7 : Q ≤ 7
  d0 : ∀ k, k = 0 → D k = d1
  nx : ∀ s i, b (s * Q + i) = true → D (s * Q + (i + 1)) = faultD (D (s * Q + i)) (faAt f ((frsN n x s + i : Nat) : Int)) ∧ ct s (i + 1) = ct s i + 1
  sa : ∀ s i, b (s * Q + i) = false → D (s * Q + (i + 1)) = D (s * Q + i) ∧ ct s (i + 1) = ct s i
  e0 : en 0 = true
  es : ∀ s, en (s + 1) = (en s && decide (ct s Q ≤ n.M))
  c0 : ∀ s, ct s 0 = 0
  cl : ∀ s i, ct s i ≤ i
  lim : ∀ k, k ≤ 30 → Lim (D k) 200030 ∧ LimM (D k) 200030
  at' : ∀ s i, s < n.S → i < Q → frsN n x s + i < 2564
  yes : ∀ k, k < m → b k = q k
  no : ∀ k, ¬ k < m → b k = false
  km : wrap64 ((n.K : Int) + (n.M : Int)) = (Q : Int)
  rd : ∀ {w' : World} {v : Value} {k : Int}, ((k = 0 ∧ ∃ Ds, (∀ s, s < n.S → n.K ≤ leftN (D (n.S * Q)) 7 5 n x s ∧ DatS (D (n.S * Q)) 7 5 n x s (Ds s)) ∧ RowV w' v l (rdB n.K Ds)) ∨ (k = 22 ∧ v = .slice none 0 0 ∧ ∃ s, s < n.S ∧ leftN (D (n.S * Q)) 7 5 n x s < n.K)) → (k = 0 ∧ en n.S = true ∧ RowV w' v l z) ∨ (k = 22 ∧ en n.S = false ∧ v = .slice none 0 0)
  live : (D (n.S * Q)).dead = false
theorem lfF {n : Gn} (hn : n.Ok) {x : Nat} (hx : x ≤ 1) (hS : n.S ≤ 3) (hK : n.K ≤ 4) (hM : n.M ≤ 3) {l : Nat} {z : Nat → Nat} {d1 : Dev} (g : LftOn n x (padZ l z) d1) (hz : Bytes l z) (hl : l ≤ n.S * n.K * 228) (m : Nat) (q : Nat → Bool) {f : Fa} (hf : FaOk f) (hb : FaBad f) :
    ∃ Q b D en ct, LfF n x l z m q f d1 Q b D en ct := by
  refine ⟨n.q, hqB m q, huS f (hqB m q) (frsN n x 0) d1, enB n (hqB m q), fun s i => cntL (fun r => hqB m q (s * n.q + r)) i, ?_⟩
  have hrow : ∀ s i, frsN n x 0 + (s * n.q + i) = frsN n x s + i := fun s i => by
    unfold frsN
    rw [Nat.add_zero, Nat.add_mul]
    omega
  exact {
    eQ := rfl
    q7 := by unfold Gn.q; omega
    d0 := fun k hk => by rw [hk]; rfl
    nx := fun s i h => ⟨by rw [← hrow s i]; exact huS_yes h, cntL_yes h⟩
    sa := fun s i h => ⟨huS_no h, cntL_no h⟩
    e0 := rfl
    es := fun s => rfl
    c0 := fun s => rfl
    cl := fun s i => cntL_le _ i
    lim := fun k hk => by
      have := huS_lim (f := f) (b := hqB m q) (B0 := frsN n x 0) g.lim g.limM k
      exact ⟨this.1.mono (by omega), this.2.mono (by omega)⟩
    at' := fun s i hs hi => by
      have h1 := frsN_lt hn hx hs hi
      have h2 := hn.tot2
      omega
    yes := fun k hk => hqB_yes hk
    no := fun k hk => hqB_no hk
    km := by
      rw [IntWalk.wrap64_in _ ⟨by omega, by omega⟩]
      unfold Gn.q
      omega
    rd := fun h => lft_read g hn hx hz hf hb hl h
    live := huS_live g hn hx hz hf hb }
theorem wrap_add {a b : Nat} (h : a + b ≤ 1000000) : wrap64 ((a : Int) + (b : Int)) = ((a + b : Nat) : Int) := by
  rw [IntWalk.wrap64_in _ ⟨by omega, by omega⟩]
  omega
theorem wrap_mul {a b : Nat} (h : a * b ≤ 1000000) : wrap64 ((a : Int) * (b : Int)) = ((a * b : Nat) : Int) := by
  have : (a : Int) * (b : Int) = ((a * b : Nat) : Int) := (Int.natCast_mul _ _).symm
  rw [this]
  exact IntWalk.wrap64_in _ ⟨by omega, by omega⟩
#print axioms lft_read
#print axioms lft_on
end Go.Proofs.YtlbdopcchoklhaaGreat
namespace Go.Proofs.YtlbdopcchoklhaaGreat
open Go.RowKit
set_option linter.unusedVariables false
set_option maxRecDepth 100000

theorem arr_four : Tryz.prog.underlying 43 = some (.array 4 5) := by kernel_rfl
theorem info_u8 : ∃ i, Tryz.prog.info? 5 = some i := by
  have h : (Tryz.prog.info? 5).isSome = true := by kernel_rfl
  exact Option.isSome_iff_exists.1 h
theorem four_one {a b : Int} {X : Result Bool} {w : World} : (if a = b then Result.ok true w else Result.ok false w) = Result.ok (a == b) w := by
  by_cases e : a = b
  · rw [if_pos e, e]; simp
  · rw [if_neg e]
    have : (a == b) = false := by simpa using e
    rw [this]
theorem four_eq (a b c d : Int) (w : World) : (Op.equalIn 10000 43 (.agg #[.int .u8 a, .int .u8 b, .int .u8 c, .int .u8 d]) (.agg #[.int .u8 0, .int .u8 0, .int .u8 0, .int .u8 0])).run Tryz.prog w = .ok ((a == 0) && ((b == 0) && ((c == 0) && (d == 0)))) w := by
  obtain ⟨i, hi⟩ := info_u8
  have u3 : Tryz.prog.underlying 5 = some (.int .u8) := by kernel_rfl
  rw [show (10000 : Nat) = 9999 + 1 from rfl, run_equalIn_array w _ _ _ arr_four hi]
  rw [show List.range 4 = [0, 1, 2, 3] from rfl]
  have hp : ∀ (x : Int) (xs : Array Value) (o : Nat), xs[o]? = some (.int .u8 x) → (Go.part 5 xs o).run Tryz.prog w = .ok (.int .u8 x) w := fun x xs o h => run_part_plain w (by kernel_rfl) h
  have hc : Tryz.prog.cellsOf 5 = 1 := by kernel_rfl
  have hg : ∀ (n : Nat) (x y : Int), (Op.equalIn (n + 1) 5 (.int .u8 x) (.int .u8 y)).run Tryz.prog w = .ok (x == y) w := fun n x y => by
    simp [Op.equalIn, run_underlying u3]
  have he : ∀ x y : Int, (Op.equalIn 9999 5 (.int .u8 x) (.int .u8 y)).run Tryz.prog w = .ok (x == y) w := hg 9998
  simp only [Op.eqItems, Sem.run_bind, hc]
  rw [hp a _ _ rfl]
  simp only [Result.andThen_ok]
  rw [hp 0 _ _ rfl]
  simp only [Result.andThen_ok, he]
  cases a == 0
  · rfl
  simp only [Bool.not_true, Bool.false_eq_true, if_false, Sem.run_bind]
  rw [hp b _ _ rfl]
  simp only [Result.andThen_ok]
  rw [hp 0 _ _ rfl]
  simp only [Result.andThen_ok, he]
  cases b == 0
  · rfl
  simp only [Bool.not_true, Bool.false_eq_true, if_false, Sem.run_bind]
  rw [hp c _ _ rfl]
  simp only [Result.andThen_ok]
  rw [hp 0 _ _ rfl]
  simp only [Result.andThen_ok, he]
  cases c == 0
  · rfl
  simp only [Bool.not_true, Bool.false_eq_true, if_false, Sem.run_bind]
  rw [hp d _ _ rfl]
  simp only [Result.andThen_ok]
  rw [hp 0 _ _ rfl]
  simp only [Result.andThen_ok, he]
  cases d == 0
  · rfl
  rfl
#print axioms four_eq
end Go.Proofs.YtlbdopcchoklhaaGreat
namespace Go.Proofs.YtlbdopcchoklhaaGreat
open Go.RowKit
set_option linter.unusedVariables false
set_option maxRecDepth 100000
set_option linter.unusedSimpArgs false

theorem exec_bd {P : Program} {o : Oper} {a : Act} {w : World} (t : TypeId) (parts : Array (Nat × Operand)) (ho : o.op = .build t parts) (v : Value) (hr : (Instr.build t (parts.map fun (i, x) => (i, a.eval x))).run P w = .ok v w) : (execOp a.eval o).run P w = .ok (.value v) w := by
  unfold execOp
  simp only [ho, Sem.run_bind, Sem.run_pure, Result.andThen_ok, hr]
/-- A fault's cells. -/
structure FaX (w : World) (F : Nat) (f : Fa) : Prop where
  k0 : w.cell? ⟨F, 0, none⟩ = some (.int .i64 f.kind)
  k2 : w.cell? ⟨F, 2, none⟩ = some (.int .i64 f.off)
  m0 : w.cell? ⟨F, 5, none⟩ = some (.int .u8 (f.k0 : Int))
  m1 : w.cell? ⟨F, 6, none⟩ = some (.int .u8 (f.k1 : Int))
  m2 : w.cell? ⟨F, 7, none⟩ = some (.int .u8 (f.k2 : Int))
  m3 : w.cell? ⟨F, 8, none⟩ = some (.int .u8 (f.k3 : Int))
theorem FaX.gr {w w' : World} {F : Nat} {f : Fa} (h : FaX w F f) (c : Ch (fun _ => False) w w') : FaX w' F f :=
  ⟨c.cell h.k0 (fun f => f), c.cell h.k2 (fun f => f), c.cell h.m0 (fun f => f), c.cell h.m1 (fun f => f), c.cell h.m2 (fun f => f), c.cell h.m3 (fun f => f)⟩
theorem built_fa (f : Fa) (a : Int) (w : World) : (Instr.build 45 #[(0, .int .i64 f.kind), (1, .int .i64 a), (2, .int .i64 f.off), (5, .agg #[.int .u8 (f.k0 : Int), .int .u8 (f.k1 : Int), .int .u8 (f.k2 : Int), .int .u8 (f.k3 : Int)])]).run Tryz.prog w = .ok (.agg (faC (faAt f a))) w := run_build w _ _ _ (by kernel_rfl)
theorem exec_fa {o : Oper} {a : Act} {w : World} (f : Fa) (q : Int) (ho : o.op = .build 45 #[(0, .tmp 134), (1, .tmp 137), (2, .tmp 139), (5, .tmp 141)]) (h0 : a.eval (.tmp 134) = .int .i64 f.kind) (h1 : a.eval (.tmp 137) = .int .i64 q) (h2 : a.eval (.tmp 139) = .int .i64 f.off) (h3 : a.eval (.tmp 141) = .agg #[.int .u8 (f.k0 : Int), .int .u8 (f.k1 : Int), .int .u8 (f.k2 : Int), .int .u8 (f.k3 : Int)]) :
    (execOp a.eval o).run Tryz.prog w = .ok (.value (.agg (faC (faAt f q)))) w := by
  refine exec_bd _ _ ho _ ?_
  rw [show ((#[(0, .tmp 134), (1, .tmp 137), (2, .tmp 139), (5, .tmp 141)] : Array (Nat × Operand)).map fun (i, x) => (i, a.eval x)) = #[(0, .int .i64 f.kind), (1, .int .i64 q), (2, .int .i64 f.off), (5, .agg #[.int .u8 (f.k0 : Int), .int .u8 (f.k1 : Int), .int .u8 (f.k2 : Int), .int .u8 (f.k3 : Int)])] by simp [h0, h1, h2, h3]]
  exact built_fa f q w
set_option maxHeartbeats 25600000 in
theorem snapLeft_of (g : Ge) (a : Int) (v vq : Value) (f : Fa) (w : World) {l : Nat} {z : Nat → Nat} {m : Nat} {q : Nat → Bool} (hb : RowV w v l z) (hq : RowQ w vq m q) (hf : FaOk f) : Calls Tryz.prog 5 #[.agg (geC g), .int .i64 a, v, vq, .agg (faC f)] w (Told w) := by
  obtain ⟨A, C, rfl, hlb⟩ := id hb
  obtain ⟨A2, C2, rfl, hmb⟩ := id hq
  obtain ⟨w1, H, hR⟩ := geR w g
  obtain ⟨w1b, F, hF⟩ := boxR w1 (faC f) 45
  have HR := Lib.hid hR
  have HF := Lib.hid hF
  have HC1 := Lib.hid (hR.ch.trans hF.ch)
  have HX := Lib.hid (hR.x.gr hF.ch)
  have HFX : Hid (FaX w1b F f) := Lib.hid ⟨blk_cell hF.cx, blk_cell hF.cx, blk_cell hF.cx, blk_cell hF.cx, blk_cell hF.cx, blk_cell hF.cx⟩
  obtain ⟨x0, x1, x2, x3⟩ := HX.out
  have HUP := Lib.hid (fun w => snawake_any w)
  have HSM := Lib.hid (fun w => small12_any g w)
  have HBK := Lib.hid (fun w => lawBlank_any 7 g w ⟨by omega, by omega⟩)
  have HB := Lib.hid hb
  have HQ := Lib.hid hq
  have HFO := Lib.hid hf
  obtain ⟨sm, hsm⟩ : ∃ sm, sm = smlB g := ⟨_, rfl⟩
  rw [← hsm] at HSM
  have HSB := Lib.hid hsm
  clear hR hF hsm hb hq hf
  go_enter Tryz.func5, Tryz.ntmps5
  go_wp2_with (first | ((with_reducible refine wpList_isOp (.box 23 (.tmp 0)) rfl ?_); refine wpList_boxing _ w1 rfl 23 (.tmp 0) rfl (geC g) H rfl (by exact HR.out.sz) (by exact HR.out.al) ?_) | ((with_reducible refine wpList_isOp (.box 45 (.tmp 4)) rfl ?_); refine wpList_boxing _ w1b rfl 45 (.tmp 4) rfl (faC f) F rfl (by exact HF.out.sz) (by exact HF.out.al) ?_) | fail)
  refine (HUP.out _).mono ?_
  rintro e w2 ⟨rfl, hc2⟩
  have HC2 := Lib.hid (HC1.out.trans hc2)
  have HX2 := Lib.hid (HX.out.gr hc2)
  have HF2 := Lib.hid (HFX.out.gr hc2)
  clear x0 x1 x2 x3
  obtain ⟨x0, x1, x2, x3⟩ := HX2.out
  clear hc2 HUP
  go_wp2_with fail
  refine (HSM.out _).mono ?_
  rintro e w3 ⟨rfl, hc3⟩
  have HC3 := Lib.hid (HC2.out.trans hc3)
  have HX3 := Lib.hid (HX2.out.gr hc3)
  have HF3 := Lib.hid (HF2.out.gr hc3)
  clear x0 x1 x2 x3
  obtain ⟨x0, x1, x2, x3⟩ := HX3.out
  clear hc3 HSM
  go_wp2_with fail
  refine (HBK.out _).mono ?_
  rintro e w4 hb
  obtain ⟨D, rfl, hc4, hD⟩ := blkD12 hb
  have HBP := Lib.hid hb
  have HCF := Lib.hid (HC3.out.trans hc4)
  have HX4 := Lib.hid (HX3.out.gr hc4)
  have HF4 := Lib.hid (HF3.out.gr hc4)
  obtain ⟨k0, k2, m0, m1, m2, m3⟩ := HF4.out
  clear x0 x1 x2 x3 hc4 hb HBK
  cases sm
  · clear hD
    go_wp2
    go_ret
    exact ⟨rfl, HCF.out⟩
  cases hbk : blkOk 7 g
  · obtain rfl := hD hbk
    clear hbk hD
    go_wp2
    go_ret
    exact ⟨rfl, HCF.out⟩
  obtain ⟨n, hn, rfl, hS3, hK4, hM3, _⟩ := sml12 HSB.out.symm hbk
  obtain ⟨B, he, hO⟩ := HBP.out.2 n hbk rfl
  injection he with he
  injection he with he
  subst he
  have hO : One w3 B (bkD 7 (secsG n)) w4 := hO
  have h4 : OneX w3 (fun _ => False) B (bkD 7 (secsG n)) w4 := ⟨hO.1, by obtain ⟨p, hp, hd⟩ := hO.2; exact ⟨p, hp, hd, fun i f => f.elim⟩, fun i f => f.elim⟩
  have H4 := Lib.hid h4
  have HN := Lib.hid hn
  have HS3 := Lib.hid (And.intro hS3 (And.intro hK4 hM3))
  clear hbk hD HBP hO h4 hn hS3 hK4 hM3 HSB
  by_cases h1 : a < 0
  · go_wp2
    go_ret
    exact ⟨rfl, HCF.out⟩
  by_cases h2 : 1 < a
  · go_wp2
    go_ret
    exact ⟨rfl, HCF.out⟩
  by_cases h3 : f.kind < 1
  · go_wp2
    go_ret
    exact ⟨rfl, HCF.out⟩
  by_cases h4 : 3 < f.kind
  · go_wp2
    go_ret
    exact ⟨rfl, HCF.out⟩
  by_cases h5' : f.off < 0
  · go_wp2
    go_ret
    exact ⟨rfl, HCF.out⟩
  by_cases h6 : 252 < f.off
  · go_wp2
    go_ret
    exact ⟨rfl, HCF.out⟩
  obtain ⟨mz, hmz⟩ : ∃ mz, mz = (((f.k0 : Int) == 0) && (((f.k1 : Int) == 0) && (((f.k2 : Int) == 0) && ((f.k3 : Int) == 0)))) := ⟨_, rfl⟩
  have HE4 : ∀ wx, (Op.equalIn 10000 43 (.agg #[.int .u8 (f.k0 : Int), .int .u8 (f.k1 : Int), .int .u8 (f.k2 : Int), .int .u8 (f.k3 : Int)]) (.agg #[.int .u8 0, .int .u8 0, .int .u8 0, .int .u8 0])).run Tryz.prog wx = .ok mz wx := fun wx => by rw [hmz]; exact four_eq _ _ _ _ wx
  have HMZ := Lib.hid hmz
  clear hmz
  cases mz
  case true =>
    go_wp2
    go_ret
    exact ⟨rfl, HCF.out⟩
  go_upto_region 6 with fail
  obtain ⟨x, rfl⟩ : ∃ x : Nat, a = (x : Int) := ⟨a.toNat, by omega⟩
  have HXX := Lib.hid (show x ≤ 1 by omega)
  have HKD := Lib.hid (show FaBad f from ⟨⟨by omega, by omega⟩, ⟨by omega, by omega⟩, fun q => by
    have e := HMZ.out
    rw [q.1, q.2.1, q.2.2.1, q.2.2.2] at e
    exact absurd e (by decide)⟩)
  clear k0 k2 m0 m1 m2 m3 HE4 h1 h2 h3 h4 h5' h6
  obtain ⟨SK, T, hT, hT2, e1, e2⟩ := room12 HS3.out.1 HS3.out.2.1
  have x0 : w4.cell? ⟨H, 0, none⟩ = some (.int .i64 (n.W : Int)) := HX4.out.x0
  have x1 : w4.cell? ⟨H, 1, none⟩ = some (.int .i64 (n.S : Int)) := HX4.out.x1
  have x2 : w4.cell? ⟨H, 2, none⟩ = some (.int .i64 (n.K : Int)) := HX4.out.x2
  have x3 : w4.cell? ⟨H, 3, none⟩ = some (.int .i64 (n.M : Int)) := HX4.out.x3
  have l0 : (0 : Int) ≤ (l : Int) := Int.natCast_nonneg _
  have HT := Lib.hid hT
  have hlm : (l : Int) ≤ 140737488351232 := by have := hlb.1; omega
  clear hT hT2
  by_cases hlt : (T : Int) < (l : Int)
  · have hlt2 := hlt
    go_wp2
    go_ret
    exact ⟨rfl, HCF.out⟩
  have h0 := bkD_lims 7 (secsG n)
  have htot : secsG n ≤ 2564 := by
    have := HN.out.tot2
    unfold Gn.tot Gn.fs Gn.q at this
    unfold secsG
    rw [Nat.mul_assoc]
    exact this
  have hb4 := HB.out.gr HCF.out
  have hwr := H4.out.snpWrite (vol := 7) (ep := 2) (no := 5) (n := n) (a := x) HN.out HXX.out ⟨by omega, by omega⟩ ⟨by omega, by omega⟩ ⟨by omega, by omega⟩ (by rw [← HT.out]; omega) hb4 h0.1 h0.2 (by omega)
  have hon := lft_on HN.out HXX.out (padZ l z)
  rw [hon.1] at hwr
  obtain ⟨d1, hd1⟩ : ∃ d1, d1 = (allTo (snpP 7 2 5 n x (padZ l z)) (bkD 7 (secsG n)) (n.S * n.q)).d := ⟨_, rfl⟩
  rw [← hd1] at hwr hon
  have HG := Lib.hid hon.2
  have HWR := Lib.hid hwr
  have HLE := Lib.hid (show l ≤ n.S * n.K * 228 by rw [← HT.out]; omega)
  clear h0 htot hwr hd1 hon hb4
  go_wp2_with fail
  refine HWR.out.mono ?_
  rintro e w5 ⟨rfl, h5, k5⟩
  obtain ⟨Q, b, D, en, ct, hff⟩ := lfF HN.out HXX.out HS3.out.1 HS3.out.2.1 HS3.out.2.2 HG.out (RowV.bytes HB.out) HLE.out m q HFO.out HKD.out
  have h5 : OneX w3 (fun _ => False) B (D (0 * Q)) w5 := by rw [hff.d0 _ (Nat.zero_mul Q)]; exact h5
  have H5 := Lib.hid h5
  have hQ7 := hff.q7
  have HFF := Lib.hid hff
  clear hff
  have q0 : (0 : Int) ≤ (Q : Int) := Int.natCast_nonneg _
  have q7 : (Q : Int) ≤ 7 := by omega
  have s0 : (0 : Int) ≤ (n.S : Int) := Int.natCast_nonneg _
  have s3 : (n.S : Int) ≤ 3 := by have := HS3.out.1; omega
  clear x0 x1 x2 x3 h5 k5 hQ7 HWR HG
  have x0 : w5.cell? ⟨H, 0, none⟩ = some (.int .i64 (n.W : Int)) := (HX3.out.gr H5.out.ch).x0
  have x1 : w5.cell? ⟨H, 1, none⟩ = some (.int .i64 (n.S : Int)) := (HX3.out.gr H5.out.ch).x1
  have x2 : w5.cell? ⟨H, 2, none⟩ = some (.int .i64 (n.K : Int)) := (HX3.out.gr H5.out.ch).x2
  have x3 : w5.cell? ⟨H, 3, none⟩ = some (.int .i64 (n.M : Int)) := (HX3.out.gr H5.out.ch).x3
  go_wp2_with fail
  go_loopw [15, 16, 17, 18, 19, 20, 21, 89, 90, 91, 92, 93, 94, 95, 96, 97, 98, 99, 100, 101, 102, 103, 104, 105, 106, 107, 108, 109, 110, 111, 112, 113, 114, 115, 116, 117, 118, 119, 120, 121, 122, 123, 124, 125, 126, 127, 128, 129, 130, 131, 132, 133, 134, 135, 136, 137, 138, 139, 140, 141, 142, 143, 144, 145, 146, 147, 148, 149, 150] (fun t15 t16 _ _ _ _ _ _ _ _ _ _ _ _ _ _ _ _ _ _ _ _ _ _ _ _ _ _ _ _ _ _ _ _ _ _ _ _ _ _ _ _ _ _ _ _ _ _ _ _ _ _ _ _ _ _ _ _ _ _ _ _ _ _ _ _ _ _ _ wr => ∃ s : Nat, s ≤ n.S ∧ t16 = .int .i64 s ∧ t15 = .bool (en s) ∧ Hid (OneX w3 (fun _ => False) B (D (s * Q)) wr)) (fun _ t16 _ _ _ _ _ _ _ _ _ _ _ _ _ _ _ _ _ _ _ _ _ _ _ _ _ _ _ _ _ _ _ _ _ _ _ _ _ _ _ _ _ _ _ _ _ _ _ _ _ _ _ _ _ _ _ _ _ _ _ _ _ _ _ _ _ _ _ _ => n.S - (intOf t16).toNat)
  case atStart => exact ⟨0, Nat.zero_le _, rfl, by rw [HFF.out.e0], H5⟩
  case round =>
    obtain ⟨s, hs, rfl, rfl, HK⟩ := hrel
    have y0 : (0 : Int) ≤ (s : Int) := Int.natCast_nonneg _
    clear x0 x1 x2 x3
    have x0 : wr.cell? ⟨H, 0, none⟩ = some (.int .i64 (n.W : Int)) := (HX3.out.gr HK.out.ch).x0
    have x1 : wr.cell? ⟨H, 1, none⟩ = some (.int .i64 (n.S : Int)) := (HX3.out.gr HK.out.ch).x1
    have x2 : wr.cell? ⟨H, 2, none⟩ = some (.int .i64 (n.K : Int)) := (HX3.out.gr HK.out.ch).x2
    have x3 : wr.cell? ⟨H, 3, none⟩ = some (.int .i64 (n.M : Int)) := (HX3.out.gr HK.out.ch).x3
    by_cases hlt : s < n.S
    · have y1 : (s : Int) < (n.S : Int) := by omega
      have HLT := Lib.hid hlt
      have HFS := Lib.hid (rfirst_yes n x s wr HN.out HXX.out hlt)
      obtain ⟨ad, had⟩ : ∃ ad, ad = frsN n x s := ⟨_, rfl⟩
      rw [← had] at HFS
      have HAD := Lib.hid had
      obtain ⟨es, hes⟩ : ∃ es, es = en s := ⟨_, rfl⟩
      rw [← hes]
      have HES := Lib.hid hes
      obtain ⟨P0, hP0⟩ : ∃ P0, P0 = s * Q := ⟨_, rfl⟩
      have hP1 : P0 ≤ 14 := by
        rw [hP0]
        have h1 : s ≤ 2 := by omega
        have h2 : Q ≤ 7 := HFF.out.q7
        exact Nat.mul_le_mul h1 h2
      have HP0 := Lib.hid hP0
      have HE3 := Lib.hid (show wrap64 ((s : Int) * (Q : Int)) = (P0 : Int) by rw [hP0]; exact wrap_mul (by rw [← hP0]; omega))
      have HP1 := Lib.hid hP1
      clear hlt had hes hP0 hP1 e1 e2
      go_wp2_with fail
      refine HFS.out.mono ?_
      rintro e w6 ⟨rfl, hc6⟩
      have H6 := Lib.hid (HK.out.gr hc6)
      clear hc6 x0 x1 x2 x3
      have x0 : w6.cell? ⟨H, 0, none⟩ = some (.int .i64 (n.W : Int)) := (HX3.out.gr H6.out.ch).x0
      have x1 : w6.cell? ⟨H, 1, none⟩ = some (.int .i64 (n.S : Int)) := (HX3.out.gr H6.out.ch).x1
      have x2 : w6.cell? ⟨H, 2, none⟩ = some (.int .i64 (n.K : Int)) := (HX3.out.gr H6.out.ch).x2
      have x3 : w6.cell? ⟨H, 3, none⟩ = some (.int .i64 (n.M : Int)) := (HX3.out.gr H6.out.ch).x3
      go_wp2_with fail
      go_loopw [19, 20, 21, 102, 103, 104, 105, 106, 107, 108, 109, 110, 111, 112, 113, 114, 115, 116, 117, 118, 119, 120, 121, 122, 123, 124, 125, 126, 127, 128, 129, 130, 131, 132, 133, 134, 135, 136, 137, 138, 139, 140, 141, 142, 143] (fun t19 t20 _ _ _ _ _ _ _ _ _ _ _ _ _ _ _ _ _ _ _ _ _ _ _ _ _ _ _ _ _ _ _ _ _ _ _ _ _ _ _ _ _ _ _ wr => ∃ i : Nat, i ≤ Q ∧ t20 = .int .i64 i ∧ t19 = .int .i64 (ct s i : Int) ∧ Hid (OneX w3 (fun _ => False) B (D (s * Q + i)) wr)) (fun _ t20 _ _ _ _ _ _ _ _ _ _ _ _ _ _ _ _ _ _ _ _ _ _ _ _ _ _ _ _ _ _ _ _ _ _ _ _ _ _ _ _ _ _ _ _ => Q - (intOf t20).toNat)
      case atStart => exact ⟨0, Nat.zero_le _, rfl, by rw [HFF.out.c0]; rfl, H6⟩
      case round =>
        obtain ⟨i, hi, rfl, rfl, HI⟩ := hrel
        have i0 : (0 : Int) ≤ (i : Int) := Int.natCast_nonneg _
        clear x0 x1 x2 x3
        have x0 : wr.cell? ⟨H, 0, none⟩ = some (.int .i64 (n.W : Int)) := (HX3.out.gr HI.out.ch).x0
        have x1 : wr.cell? ⟨H, 1, none⟩ = some (.int .i64 (n.S : Int)) := (HX3.out.gr HI.out.ch).x1
        have x2 : wr.cell? ⟨H, 2, none⟩ = some (.int .i64 (n.K : Int)) := (HX3.out.gr HI.out.ch).x2
        have x3 : wr.cell? ⟨H, 3, none⟩ = some (.int .i64 (n.M : Int)) := (HX3.out.gr HI.out.ch).x3
        obtain ⟨c, hc⟩ : ∃ c, c = ct s i := ⟨_, rfl⟩
        rw [← hc]
        have HCT := Lib.hid hc
        have c0 : (0 : Int) ≤ (c : Int) := Int.natCast_nonneg _
        by_cases hiQ : i < Q
        · have i1 : (i : Int) < (Q : Int) := by omega
          have HIQ := Lib.hid hiQ
          obtain ⟨J, hJ⟩ : ∃ J, J = P0 + i := ⟨_, rfl⟩
          have HE4 := Lib.hid (show wrap64 ((P0 : Int) + (i : Int)) = (J : Int) by rw [hJ]; exact wrap_add (by have := HP1.out; have := HFF.out.q7; omega))
          have HJJ := Lib.hid hJ
          have j0 : (0 : Int) ≤ (J : Int) := Int.natCast_nonneg _
          clear hJ hc hiQ
          have eKM := HFF.out.km
          have e3 := HE3.out
          have e4 := HE4.out
          go_upto_region 19 with fail
          rw [e4]
          clear e3 e4 eKM x0 x1 x2 x3
          obtain ⟨q1, hq1⟩ : ∃ q1 : Int, q1 = ((ad + i : Nat) : Int) := ⟨_, rfl⟩
          have hadi := HFF.out.at' s i HLT.out HIQ.out
          rw [← HAD.out] at hadi
          have HV := Lib.hid (show wrap64 ((ad : Int) + (i : Int)) = q1 by rw [hq1]; exact wrap_add (by omega))
          have hI : I64 q1 := by unfold I64; omega
          have HI1 := Lib.hid hI
          have HQ1 := Lib.hid hq1
          have HQW := Lib.hid ((HQ.out.gr HC3.out).gr HI.out.ch)
          clear hq1 hadi hI
          by_cases hJm : J < m
          · have j1 : (J : Int) < (m : Int) := by omega
            obtain ⟨hbk, ho, rfl, hcs⟩ := HQW.out.at (by omega)
            have c1 := hcs J hJm
            have hby := HFF.out.yes J hJm
            rw [HJJ.out, HP0.out] at hby
            have HBY := Lib.hid hby
            clear hcs hby
            cases hqj : q J
            · rw [hqj] at c1
              have HSA := Lib.hid (HFF.out.sa s i (by rw [HBY.out, ← HP0.out, ← HJJ.out]; exact hqj))
              have HJM := Lib.hid hJm
              clear hqj hJm
              go_wp2
              go_roundw
              case rel => exact ⟨i + 1, HIQ.out, by go_num, by rw [HSA.out.2, HCT.out], by rw [HSA.out.1]; exact HI⟩
              case measure => have := HIQ.out; simp [intOf]; omega
            · rw [hqj] at c1
              have HNX := Lib.hid (HFF.out.nx s i (by rw [HBY.out, ← HP0.out, ← HJJ.out]; exact hqj))
              have HJM := Lib.hid hJm
              clear hqj hJm
              go_upto_region 21 with fail
              obtain ⟨k0, k2, m0, m1, m2, m3⟩ := HF3.out.gr HI.out.ch
              have HBT := Lib.hid (built_fa f q1 wr)
              have hlim := HFF.out.lim (s * Q + i) (by rw [← HP0.out]; have := HP1.out; have := HFF.out.q7; omega)
              have HFC := Lib.hid (HI.out.fault (faAt_ok HFO.out HI1.out) hlim.1 hlim.2 (by omega))
              have e5 := HV.out
              clear hlim
              go_wp2_with (first | ((with_reducible refine wpList_isOp (.build 45 #[(0, .tmp 134), (1, .tmp 137), (2, .tmp 139), (5, .tmp 141)]) rfl ?_); refine wpList_building _ rfl 45 #[(0, .tmp 134), (1, .tmp 137), (2, .tmp 139), (5, .tmp 141)] rfl _ (by exact HBT.out) ?_) | fail)
              refine HFC.out.mono ?_
              rintro e w7 ⟨rfl, h7, _⟩
              obtain ⟨fe, hfe⟩ : ∃ fe, fe = faultE (D (s * Q + i)) (faAt f q1) := ⟨_, rfl⟩
              rw [← hfe]
              have H7 : Hid (OneX w3 (fun _ => False) B (D (s * Q + (i + 1))) w7) := Lib.hid (by rw [HNX.out.1, ← HAD.out, ← HQ1.out]; exact h7)
              have HCW := Lib.hid (show wrap64 ((c : Int) + 1) = ((c + 1 : Nat) : Int) from wrap_add (b := 1) (by have h1 := HFF.out.cl s i; rw [← HCT.out] at h1; have h2 := HFF.out.q7; have h3 := HIQ.out; omega))
              clear hfe h7 k0 k2 m0 m1 m2 m3 e5 c1
              go_wp2
              rw [HCW.out]
              go_roundw
              case rel => exact ⟨i + 1, HIQ.out, by go_num, by rw [HNX.out.2, HCT.out], H7⟩
              case measure => have := HIQ.out; simp [intOf]; omega
          · have j1 : ¬ (J : Int) < (m : Int) := by omega
            have hby := HFF.out.no J hJm
            rw [HJJ.out, HP0.out] at hby
            have HSA := Lib.hid (HFF.out.sa s i hby)
            have HJM := Lib.hid hJm
            clear hby hJm
            go_wp2
            go_roundw
            case rel => exact ⟨i + 1, HIQ.out, by go_num, by rw [HSA.out.2, HCT.out], by rw [HSA.out.1]; exact HI⟩
            case measure => have := HIQ.out; simp [intOf]; omega
        · have hie : i = Q := by omega
          have i1 : ¬ (i : Int) < (Q : Int) := by omega
          have HKN : Hid (OneX w3 (fun _ => False) B (D ((s + 1) * Q)) wr) := Lib.hid (by rw [Nat.succ_mul]; rw [hie] at HI; exact HI.out)
          have HES1 : Hid (en (s + 1) = (es && decide (c ≤ n.M))) := Lib.hid (by rw [HFF.out.es, ← HES.out, HCT.out, hie])
          clear hie hc hiQ
          cases es
          · have eKM := HFF.out.km
            go_wp2_with fail
            go_roundw
            case rel => exact ⟨s + 1, HLT.out, by go_num, by rw [HES1.out]; rfl, HKN⟩
            case measure => have := HLT.out; simp [intOf]; omega
          · by_cases hcM : c ≤ n.M
            · have c2 : (c : Int) ≤ (n.M : Int) := by omega
              have HCM := Lib.hid hcM
              have eKM := HFF.out.km
              clear hcM
              go_wp2_with fail
              go_roundw
              case rel => exact ⟨s + 1, HLT.out, by go_num, by rw [HES1.out, decide_eq_true HCM.out]; rfl, HKN⟩
              case measure => have := HLT.out; simp [intOf]; omega
            · have c2 : ¬ (c : Int) ≤ (n.M : Int) := by omega
              have HCM := Lib.hid hcM
              have eKM := HFF.out.km
              clear hcM
              go_wp2_with fail
              go_roundw
              case rel => exact ⟨s + 1, HLT.out, by go_num, by rw [HES1.out, decide_eq_false HCM.out]; rfl, HKN⟩
              case measure => have := HLT.out; simp [intOf]; omega
    · have hse : s = n.S := by omega
      have y1 : ¬ (s : Int) < (n.S : Int) := by omega
      obtain ⟨es, hes⟩ : ∃ es, es = en s := ⟨_, rfl⟩
      rw [← hes]
      have HES : Hid (es = en n.S) := Lib.hid (by rw [hes, hse])
      obtain ⟨d2, hd2⟩ : ∃ d2, d2 = D (n.S * Q) := ⟨_, rfl⟩
      have h8 : OneX w3 (fun _ => False) B d2 wr := by rw [hd2, ← hse]; exact HK.out
      have hq : n.S * Q ≤ 3 * 7 := Nat.mul_le_mul HS3.out.1 HFF.out.q7
      have hlim := HFF.out.lim (n.S * Q) (by omega)
      have hlive := HFF.out.live
      rw [← hd2] at hlim hlive
      have h8' := h8
      rw [← opD_self d2] at h8'
      have hrd := h8'.snpRead (long := l) (vol := 7) (no := 5) (n := n) (a := x) (by have := hlim.1.ops; omega) (by have := hlim.1.W; omega) hlive HN.out HXX.out ⟨by omega, by omega⟩ ⟨by omega, by omega⟩ HLE.out
      have HRD := Lib.hid hrd
      have HD2 := Lib.hid hd2
      clear hse hes hd2 h8 h8' hq hlim hlive hrd
      go_wp2_with fail
      refine HRD.out.mono ?_
      rintro e w9 ⟨c9, v9, k9, hc9, rfl, h9, kk9, hlo9, hres⟩
      rw [HD2.out] at hres
      have HC9 := Lib.hid (HC3.out.trans h9.ch)
      have hb9 := HB.out.gr HC9.out
      rcases HFF.out.rd hres with ⟨rfl, h1, row⟩ | ⟨rfl, h1, rfl⟩
      · obtain rfl : es = true := by rw [HES.out]; exact h1
        obtain ⟨A9, C9, rfl, _⟩ := id row
        have hsa := same_any A9 A l l C9 C z z w9 row hb9
        rw [show eqB l l z z = true from eqB_self l z] at hsa
        have HSA := Lib.hid hsa
        clear hsa hb9 row hres hlo9 kk9 h9 hc9 x0 x1 x2 x3 h1
        go_wp2_with fail
        refine HSA.out.mono ?_
        rintro e w10 ⟨rfl, nq, rfl⟩
        have HC10 := Lib.hid (HC9.out.trans ((Ch.refl (fun _ => False) w9).drewN nq))
        go_wp2
        go_ret
        exact ⟨rfl, HC10.out⟩
      · obtain rfl : es = false := by rw [HES.out]; exact h1
        clear hb9 hres hlo9 kk9 h9 hc9 x0 x1 x2 x3 h1
        go_wp2
        go_ret
        exact ⟨rfl, HC9.out⟩
#print axioms snapLeft_of
end Go.Proofs.YtlbdopcchoklhaaGreat
