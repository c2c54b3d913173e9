/-
  What SnapOld needs besides.
-/
import Derived.Test.YtlbdopcchoklhaaGreatMh42
import Derived.Test.YtlbdopcchoklhaaGreatMh43
import Derived.Test.YtlbdopcchoklhaaGreatMh1
import Derived.Test.YtlbdopcchoklhaaGreatMh20
import Derived.Test.YtlbdopcchoklhaaGreatMh24
import Derived.Test.YtlbdopcchoklhaaGreatMh28
import Derived.Test.YtlbdopcchoklhaaGreatMh29
import Derived.Test.YtlbdopcchoklhaaGreatMh41
import Derived.ProofKit
import Derived.OpenShut
import Derived.SizedLaws
import Derived.Carry
import Derived.Deep.WholeRow
import Derived.Deep.Slices
import Derived.Deep.Fields
import Derived.Deep.Grids
import Derived.ChangeSame
namespace Go.Proofs.YtlbdopcchoklhaaGreat
open Go.ChangeShapes Go.WideShapes Go.ChangeAt Go.RowKit Go.Deep
set_option linter.unusedVariables false
set_option maxRecDepth 100000

theorem b8 {a : Int} (h : (Lit.int .u8 a).wf = true) : 0 ≤ a ∧ a < 256 := by have := bounds_u8 h; omega
theorem reach_eq : reachBytes = 140737488351232 := rfl

section
variable {H : Type} {enc : TypeId × Value → H} {P : Program}
end

theorem addr_none {w : World} {a : Addr} {v : Value} (h : w.cell? (a.add 0) = some v) : ∃ b o, a = ⟨b, o, none⟩ := by
  obtain ⟨b, o, sp⟩ := a
  have : sp = none := by simpa [Addr.add] using World.cell?_spot h
  exact ⟨b, o, by rw [this]⟩
end Go.Proofs.YtlbdopcchoklhaaGreat

namespace Go.Proofs.YtlbdopcchoklhaaGreat
open Go.ChangeShapes Go.WideShapes Go.ChangeAt Go.RowKit Go.Deep
set_option linter.unusedVariables false
set_option maxRecDepth 100000

theorem cells5 : Tryz.prog.cellsOf 5 = 1 := by kernel_rfl
theorem bytes5 : Tryz.prog.bytesOf 5 = 1 := by kernel_rfl
/-- Bytes that are handed in. -/
theorem open_row {H : Type} {enc : TypeId × Value → H} {W : World} {v : Value} {d : DataW H} {p : List MemPlace} (hv : ∃ a len cap, v = .slice a len cap) (h : DataW.Trod enc Tryz.prog W 0 (fun _ => true) true /-t-/24 v d p)
    (s1 : ∀ elems spare, d = .slice elems spare → (elems.length + spare.length) * 1 ≤ reachBytes) : ∃ n z, RowV W v n z := by
  obtain ⟨a0, len, cap, rfl⟩ := hv
  obtain ⟨fuel, hf⟩ := h
  rcases open_ints Tryz.underlying24 Tryz.underlying5 cells5 hf with ⟨hcs0, hx⟩ | ⟨a, len', cap', zs, hcs0, _, hl, hm, hzl, hx, hcell, hwf⟩
  · simp [Value.cells] at hcs0
    obtain ⟨rfl, rfl, rfl⟩ := hcs0
    exact ⟨0, fun _ => 0, nil_row _ _⟩
  · simp [Value.cells] at hcs0
    obtain ⟨rfl, rfl, rfl⟩ := hcs0
    simp only [Prod.mk.injEq] at hx
    obtain ⟨rfl, rfl⟩ := hx
    simp only [if_true] at hzl
    have hlen := s1 _ _ rfl
    simp only [lits, List.length_map, List.length_take, List.length_drop, hzl, reach_eq] at hlen
    refine ⟨len, fun c => (zs.getD c 0).toNat, some a, cap, rfl, by omega, fun h0 => ?_⟩
    obtain ⟨b, o, rfl⟩ := addr_none (hcell 0 (by omega))
    refine ⟨b, o, rfl, fun c hc => ?_⟩
    have hcc := hcell c (by omega)
    rw [add_pl] at hcc
    have hb := b8 (hwf (zs.getD c 0) (by
      rw [List.getD, List.getElem?_eq_getElem (show c < zs.length by omega)]
      exact List.getElem_mem _))
    have e : (((zs.getD c 0).toNat : Nat) : Int) = zs.getD c 0 := by omega
    exact ⟨by show _ = some (Value.int .u8 (((zs.getD c 0).toNat : Nat) : Int)); rw [e]; exact hcc, by show (zs.getD c 0).toNat < 256; omega⟩
end Go.Proofs.YtlbdopcchoklhaaGreat

namespace Go.Proofs.YtlbdopcchoklhaaGreat
open Go.RowKit
set_option linter.unusedVariables false
set_option maxRecDepth 100000

section
variable {base : Nat} {w : World} {p : Ph} {d : Dev}
theorem DevIs.setArmed (h : DevIs base w p d) (b : Bool) : DevIs base (w.setCell ⟨p.B, 3, none⟩ (.bool b)) p { d with armed := b } := h.turn (d' := { d with armed := b }) (chB h 3 _) (blk_set h.blk _) (secB h 3 _) rfl rfl rfl h.byt h.lf
end
set_option maxHeartbeats 400000 in
theorem arm_any (base : Nat) (p : Ph) (d : Dev) (n : Int) (w : World) (h : DevIs base w p d) (hn : -9223372036854775808 ≤ n ∧ n ≤ 9223372036854775807) : Calls Tryz.prog 23 #[.pointer (some ⟨p.B, 0, none⟩), .int .i64 n] w (DPost base p d (armD d n) (.tuple #[]) w) := by
  have c3 : w.cell? ⟨p.B, 3, none⟩ = some (.bool d.armed) := h.cellB 3
  have c4 : w.cell? ⟨p.B, 4, none⟩ = some (.int .i64 d.left) := h.cellB 4
  have f3 := h.frB 3
  have f4 := h.frB 4
  have HD := Lib.hid ((h.setArmed (decide (0 ≤ n))).setLeft n hn)
  have HC := Lib.hid (chBF (d := d) ((chB h 3 (.bool (decide (0 ≤ n)))).trans (chB (h.setArmed (decide (0 ≤ n))) 4 (.int .i64 n))))
  obtain ⟨B, G, V, m, cG⟩ := p
  clear h
  by_cases hq : 0 ≤ n
  · rw [show decide (0 ≤ n) = true from decide_eq_true hq] at HD HC
    have HS := Lib.hid (show armD d n = { d with armed := true, left := n } by unfold armD; rw [decide_eq_true hq])
    go_enter Tryz.func23, Tryz.ntmps23
    go_wp2
    go_end0
    exact DPost.turned (by rw [HS.out]; exact HD.out) rfl HC.out
  · rw [show decide (0 ≤ n) = false from decide_eq_false hq] at HD HC
    have HS := Lib.hid (show armD d n = { d with armed := false, left := n } by unfold armD; rw [decide_eq_false hq])
    go_enter Tryz.func23, Tryz.ntmps23
    go_wp2
    go_end0
    exact DPost.turned (by rw [HS.out]; exact HD.out) rfl HC.out
end Go.Proofs.YtlbdopcchoklhaaGreat

namespace Go.Proofs.YtlbdopcchoklhaaGreat
open Go.RowKit
set_option linter.unusedVariables false
set_option maxRecDepth 100000

theorem crTo_nW (d : Dev) (m : Nat) (q : Nat → Bool) : ∀ k, (crTo d m q k).n = d.n ∧ (crTo d m q k).W = d.W
  | 0 => ⟨rfl, rfl⟩
  | k + 1 => by
    unfold crTo
    cases h : d.W[k]? with
    | none => exact crTo_nW d m q k
    | some x =>
      dsimp only
      split
      · exact crTo_nW d m q k
      · exact crTo_nW d m q k
theorem crash_done {base : Nat} {w0 w : World} {p : Ph} {d0 d : Dev} {r : Value} (h : DevIs base w p d) (hn : d.n = d0.n) (k : Ch (Foot p d0) w0 w) :
    DPost base p d0 { d with W := [], dead := false, armed := false } r w0 (.returned r) (((w.setCell ⟨p.B, 1, none⟩ (.slice none 0 0)).setCell ⟨p.B, 2, none⟩ (.bool false)).setCell ⟨p.B, 3, none⟩ (.bool false)) := by
  obtain ⟨_, p', hp, h1, h2, h3⟩ := nilW_post (r := r) h hn k
  have k2 : Ch (Foot p d0) (w.setCell ⟨p.B, 1, none⟩ (.slice none 0 0)) (((w.setCell ⟨p.B, 1, none⟩ (.slice none 0 0)).setCell ⟨p.B, 2, none⟩ (.bool false)).setCell ⟨p.B, 3, none⟩ (.bool false)) :=
    ((Ch.refl _ _).setCell (p := ⟨p.B, 2, none⟩) (Or.inl (Or.inl rfl)) _).setCell (p := ⟨p.B, 3, none⟩) (Or.inl (Or.inl rfl)) _
  refine ⟨rfl, p', hp, ?_, h2, h3.trans k2⟩
  have := (h1.setDead false).setArmed false
  rw [hp] at this
  exact this
set_option maxHeartbeats 800000 in
set_option maxRecDepth 100000 in
theorem crash_any (base : Nat) (p : Ph) (d : Dev) (A : Option Addr) (n C : Nat) (q : Nat → Bool) (w : World) (h : DevIs base w p d) (hW : d.W.length ≤ 1048576) (hk : RowQ w (.slice A n C) n q) (hkf : ∀ b o, A = some ⟨b, o, none⟩ → 0 < n → ¬ Foot p d b) :
    Calls Tryz.prog 24 #[.pointer (some ⟨p.B, 0, none⟩), .slice A n C] w (DPost base p d (crashD d n q) (.tuple #[]) w) := by
  obtain ⟨A1, C1, hv⟩ := h.vform
  have c1 : w.cell? ⟨p.B, 1, none⟩ = some p.V := h.cellB 1
  rw [hv] at c1
  obtain ⟨L, hL⟩ : ∃ L, L = d.W.length := ⟨_, rfl⟩
  rw [← hL] at c1 hv hW
  have HV := Lib.hid hv
  have HL := Lib.hid hL
  have H0 := Lib.hid h
  have HKQ := Lib.hid hk
  have HKF := Lib.hid hkf
  have hn63 : n ≤ 9223372036854775807 := by obtain ⟨_, _, e, h1, _⟩ := hk; exact h1
  obtain ⟨B, G, V, m, cG⟩ := p
  clear h hv hL hk hkf
  go_enter Tryz.func24, Tryz.ntmps24
  go_wp2_with fail
  go_loopw [4, 5, 13] (fun _ _ i wr => ∃ k : Nat, k ≤ L ∧ i = .int .i64 k ∧ Hid (DevIs base wr ⟨B, G, V, m, cG⟩ (crTo d n q k) ∧ Ch (Foot ⟨B, G, V, m, cG⟩ d) w wr)) (fun _ _ i _ => L - (intOf i).toNat)
  case atStart => exact ⟨0, Nat.zero_le _, rfl, Lib.hid ⟨H0.out, Ch.refl _ _⟩⟩
  case round =>
    obtain ⟨k, hk, rfl, HK⟩ := hrel
    by_cases hlt : k < L
    · obtain ⟨x, hx⟩ : ∃ x, d.W[k]? = some x := ⟨_, List.getElem?_eq_getElem (by rw [← HL.out]; exact hlt)⟩
      obtain ⟨wz, wx, H, g, cap, hv, hR⟩ := wtR HK.out.1 (k := k) (x := x) (by rw [(crTo_nW d n q k).2]; exact hx)
      rw [(crTo_nW d n q k).2, ← HL.out] at hv
      have hv2 := HV.out.symm.trans hv
      injection hv2 with q1 q2 q3
      subst q1
      subst q3
      have HR := Lib.hid hR
      have HX := Lib.hid hx
      have hxk := H0.out.wok x (List.mem_of_getElem? hx)
      have hdx : DevIs base wx ⟨B, G, V, m, cG⟩ (crTo d n q k) := HK.out.1.gr hR.ch
      have hchx : Ch (Foot ⟨B, G, V, m, cG⟩ d) w wx := HK.out.2.trans (hR.ch.mono fun _ _ f => f.elim)
      have HDX := Lib.hid hdx
      have HCX := Lib.hid hchx
      have HF := Lib.hid (finish_any base _ _ x wx hdx (by rw [(crTo_nW d n q k).1]; exact hxk.1) hxk.2)
      have i1 : (0 : Int) ≤ (k : Int) := Int.natCast_nonneg _
      have i2 : (k : Int) < (L : Int) := by omega
      have hcr : crTo d n q (k + 1) = if keepB n q k then finD (crTo d n q k) x else crTo d n q k := by
        conv => lhs; unfold crTo
        rw [hx]
      have HCR := Lib.hid hcr
      by_cases hn : 0 < n
      · obtain ⟨b, o, hA, hcell⟩ := HKQ.out.at hn
        subst hA
        have hmod : k % n < n := Nat.mod_lt _ hn
        have hc := hcell (k % n) hmod
        have cq : wx.cell? ⟨b, o + k % n, none⟩ = some (.bool (q (k % n))) := (World.cell?_of_block (hchx.block b (World.block_lt_of_cell? _ _ hc) (HKF.out b o rfl hn))).trans hc
        have j1 : (0 : Int) < (n : Int) := by omega
        have j3 : (k : Int) % (n : Int) = ((k % n : Nat) : Int) := by omega
        have j4 : (0 : Int) ≤ ((k % n : Nat) : Int) := Int.natCast_nonneg _
        have j5 : ((k % n : Nat) : Int) < (n : Int) := by omega
        have j6 : Int.tmod (k : Int) (n : Int) = ((k % n : Nat) : Int) := by rw [Int.tmod_eq_emod_of_nonneg i1]; omega
        have hkb : keepB n q k = q (k % n) := by unfold keepB; rw [decide_eq_true hn]; rfl
        rw [hkb] at hcr
        obtain ⟨r, hr⟩ : ∃ r, r = k % n := ⟨_, rfl⟩
        rw [← hr] at cq j3 j4 j5 j6 hcr
        clear hmod hc hkb hr hcell HCR hn
        cases hqr : q r
        · rw [hqr] at cq hcr
          have HCR := Lib.hid hcr
          clear hv q2 hR hx hxk hdx hchx hcr hqr HF
          go_wp2_with ((with_reducible refine wpList_same ?_); first
            | refine wpList_loading _ rfl 95 (.tmp 16) rfl (.agg (wtC x).toArray) ⟨g, k * 257, none⟩ rfl (by exact HR.out.ld) ?_
            | refine wpList_making _ wz rfl 95 rfl (wtC ⟨0, fun _ => 0⟩).toArray H (by exact zero_write _) (by exact HR.out.sz) (by exact HR.out.al) ?_
            | refine wpList_storing _ wx rfl 95 (.tmp 5) (.tmp 17) rfl (.agg (wtC x).toArray) ⟨H, 0, none⟩ rfl rfl (by exact HR.out.st) ?_)
          go_roundw
          case rel => exact ⟨k + 1, by omega, by go_num, Lib.hid ⟨by rw [HCR.out]; exact HDX.out, HCX.out⟩⟩
          case measure => simp [intOf]; omega
        · rw [hqr] at cq hcr
          have HCR := Lib.hid hcr
          clear hv q2 hR hx hxk hdx hchx hcr hqr
          go_wp2_with (first
            | ((with_reducible refine wpList_same ?_); first
              | refine wpList_loading _ rfl 95 (.tmp 16) rfl (.agg (wtC x).toArray) ⟨g, k * 257, none⟩ rfl (by exact HR.out.ld) ?_
              | refine wpList_making _ wz rfl 95 rfl (wtC ⟨0, fun _ => 0⟩).toArray H (by exact zero_write _) (by exact HR.out.sz) (by exact HR.out.al) ?_
              | refine wpList_storing _ wx rfl 95 (.tmp 5) (.tmp 17) rfl (.agg (wtC x).toArray) ⟨H, 0, none⟩ rfl rfl (by exact HR.out.st) ?_
              | refine wpList_loading _ rfl 95 (.tmp 5) rfl (.agg (wtC x).toArray) ⟨H, 0, none⟩ rfl (by exact HR.out.l2) ?_)
            | (go_at_call 55; refine HF.out.mono ?_; rintro e w2 ⟨rfl, h2, hc2⟩))
          have HK2 := Lib.hid h2
          have HC2 := Lib.hid (show Ch (Foot ⟨B, G, V, m, cG⟩ d) w w2 from HCX.out.trans (hc2.mono fun i _ hi => (foot_n (crTo_nW d n q k).1).1 hi))
          clear h2 hc2
          go_wp2
          go_roundw
          case rel => exact ⟨k + 1, by omega, by go_num, Lib.hid ⟨by rw [HCR.out]; exact HK2.out, HC2.out⟩⟩
          case measure => simp [intOf]; omega
      · obtain rfl : n = 0 := by omega
        have HCR2 := Lib.hid (show crTo d 0 q (k + 1) = crTo d 0 q k by rw [hcr]; rfl)
        clear hv q2 hR hx hxk hdx hchx hcr HF hn
        go_wp2_with ((with_reducible refine wpList_same ?_); first
          | refine wpList_loading _ rfl 95 (.tmp 16) rfl (.agg (wtC x).toArray) ⟨g, k * 257, none⟩ rfl (by exact HR.out.ld) ?_
          | refine wpList_making _ wz rfl 95 rfl (wtC ⟨0, fun _ => 0⟩).toArray H (by exact zero_write _) (by exact HR.out.sz) (by exact HR.out.al) ?_
          | refine wpList_storing _ wx rfl 95 (.tmp 5) (.tmp 17) rfl (.agg (wtC x).toArray) ⟨H, 0, none⟩ rfl rfl (by exact HR.out.st) ?_)
        go_roundw
        case rel => exact ⟨k + 1, by omega, by go_num, Lib.hid ⟨by rw [HCR2.out]; exact HDX.out, HCX.out⟩⟩
        case measure => simp [intOf]; omega
    · obtain rfl : k = L := by omega
      have f1 := HK.out.1.frB 1
      have f2 := HK.out.1.frB 2
      have f3 := HK.out.1.frB 3
      have c2 : wr.cell? ⟨B, 1, none⟩ = some V := HK.out.1.cellB 1
      have c3 : wr.cell? ⟨B, 2, none⟩ = some (.bool (crTo d n q k).dead) := HK.out.1.cellB 2
      have c4 : wr.cell? ⟨B, 3, none⟩ = some (.bool (crTo d n q k).armed) := HK.out.1.cellB 3
      have hp := crash_done (r := .tuple #[]) HK.out.1 (crTo_nW d n q k).1 HK.out.2
      rw [show ({ crTo d n q k with W := [], dead := false, armed := false } : Dev) = crashD d n q by unfold crashD; rw [← HL.out]] at hp
      have HP := Lib.hid hp
      clear hp
      go_wp2
      go_end0
      exact HP.out
end Go.Proofs.YtlbdopcchoklhaaGreat

namespace Go.Proofs.YtlbdopcchoklhaaGreat
open Go.RowKit
set_option linter.unusedVariables false
set_option maxRecDepth 100000

theorem crTo_same (d : Dev) (m : Nat) (q : Nat → Bool) : ∀ k, (crTo d m q k).ops = d.ops ∧ (crTo d m q k).drops = d.drops ∧ (crTo d m q k).miss = d.miss
  | 0 => ⟨rfl, rfl, rfl⟩
  | k + 1 => by
    unfold crTo
    cases h : d.W[k]? with
    | none => exact crTo_same d m q k
    | some x =>
      dsimp only
      split
      · exact crTo_same d m q k
      · exact crTo_same d m q k
theorem near_crash (d : Dev) (m : Nat) (q : Nat → Bool) : Near d (crashD d m q) := by
  obtain ⟨s1, s2, s3⟩ := crTo_same d m q d.W.length
  exact ⟨(crTo_nW d m q _).1, by show (crTo d m q d.W.length).ops ≤ _; rw [s1]; omega, by show 0 ≤ _; omega, fun a => by show (crTo d m q d.W.length).drops a ≤ _; rw [s2]; omega, fun a => by show ((crTo d m q d.W.length).miss a).length ≤ _; rw [s3]; omega⟩

end Go.Proofs.YtlbdopcchoklhaaGreat

namespace Go.Proofs.YtlbdopcchoklhaaGreat
open Go.RowKit
set_option linter.unusedVariables false
set_option maxRecDepth 100000

theorem TryS.lims {d e : Dev} {P : PutP} {t k : Nat} (h : TryS d P t k e) : (Lim (kwD e P) (t + 3 * k + 1) ∧ LimM (kwD e P) (t + 3 * k + 1)) ∧ (Lim (kfD e P) (t + 3 * k + 1 + 1) ∧ LimM (kfD e P) (t + 3 * k + 1 + 1)) ∧ (Lim (krD e P) (t + 3 * (k + 1)) ∧ LimM (krD e P) (t + 3 * (k + 1))) := by
  have h1 := (near_write e P.pl P.n P.z).lim h.lim h.limM
  have h2 := (near_flush (kwD e P)).lim h1.1 h1.2
  have h3 := (near_read (kfD e P) P.pl).lim h2.1 h2.2
  exact ⟨h1, h2, h3⟩
section
variable {d e : Dev} {P : PutP} {t k : Nat}
theorem TryS.on (h : TryS d P t k e) (hk : k < 4) (q : writeE e P.pl P.n = 0) (q2 : flushE (kwD e P) = 0) (q3 : readE (kfD e P) P.pl = 0 ∨ readE (kfD e P) P.pl = 20) (q4 : readE (kfD e P) P.pl = 0 → eqB (readL (kfD e P) P.pl) P.n (readZ (kfD e P) P.pl) P.z = false) : TryS d P t (k + 1) (krD e P) := by
  obtain ⟨h1, h2⟩ := h.step hk
  have e3 : asP (kfD e P) P = false := by
    unfold asP
    by_cases w : readE (kfD e P) P.pl = 0
    · rw [q4 w, Bool.and_false]
    · rw [decide_eq_false w, Bool.false_and]
  have e1 : tryE e P = -1 := by unfold tryE; rw [if_pos q, if_pos q2, if_pos q3, e3]; rfl
  have e2 : tryD e P = krD e P := by unfold tryD; rw [if_pos q, if_pos q2]
  rw [e1, e2, if_pos rfl] at h1
  rw [e1, e2, if_pos rfl] at h2
  exact ⟨h1, h2, h.lims.2.2.1, h.lims.2.2.2⟩
end
end Go.Proofs.YtlbdopcchoklhaaGreat

namespace Go.Proofs.YtlbdopcchoklhaaGreat
open Go.RowKit
set_option linter.unusedVariables false
set_option maxRecDepth 100000
set_option linter.unusedSimpArgs false

theorem arm_live {N : Nat} {d : Dev} (h : Fine N d) (n : Int) : Live N (armD d n) := ⟨h.qt.n, h.qt.dead, h.qt.W, h.drops, h.miss⟩
theorem dies_all (d : Dev) : (diesD d).n = d.n ∧ (diesD d).W = d.W ∧ (diesD d).drops = d.drops ∧ (diesD d).miss = d.miss ∧ (diesD d).has = d.has ∧ (diesD d).lost = d.lost := by
  unfold diesD
  split
  · split <;> exact ⟨rfl, rfl, rfl, rfl, rfl, rfl⟩
  · exact ⟨rfl, rfl, rfl, rfl, rfl, rfl⟩
theorem dies_live {d : Dev} (h : diesB d = false) : (diesD d).dead = d.dead := by
  unfold diesB at h
  unfold diesD
  cases ha : d.armed
  · rfl
  · rw [ha, Bool.true_and] at h
    have := of_decide_eq_false h
    rw [if_pos rfl, if_pos (by omega)]
theorem try_live {N k : Nat} {d : Dev} (h : Live N d) (hk : k < N) (z : Nat → Nat) :
    (tryE d ⟨(k : Int), 256, z⟩ = 21 ∧ Dying N d k z (tryD d ⟨(k : Int), 256, z⟩)) ∨ (tryE d ⟨(k : Int), 256, z⟩ = 0 ∧ Wrote N d k z (tryD d ⟨(k : Int), 256, z⟩)) := by
  have hb : hasB d (k : Int) = true := decide_eq_true (by rw [h.n]; omega)
  have ho : openE d (k : Int) = 0 := by unfold openE; rw [h.dead, hb]; rfl
  obtain ⟨p1, p2, p3, p4, p5, p6⟩ := dies_all d
  cases hd : diesB d
  case true =>
    have e1 : writeE d (k : Int) 256 = 21 := by unfold writeE; rw [ho, hd]; rfl
    have eW : writeD d (k : Int) 256 z = diesD d := by unfold writeD; rw [if_pos ⟨ho, rfl⟩, hd]; rfl
    left
    constructor
    · show (if writeE d (k : Int) 256 = 0 then _ else writeE d (k : Int) 256) = 21
      rw [e1]; rfl
    · show Dying N d k z (if writeE d (k : Int) 256 = 0 then _ else writeD d (k : Int) 256 z)
      rw [e1, if_neg (by decide), eW]
      exact ⟨p1.trans h.n, p5, p6, fun a => by rw [p3]; exact h.drops a, fun a => by rw [p4]; exact h.miss a, Or.inl (p2.trans h.W)⟩
  case false =>
    have hl := dies_live hd
    have e1 : writeE d (k : Int) 256 = 0 := by unfold writeE; rw [ho, hd]; rfl
    obtain ⟨d', hd'⟩ : ∃ d', d' = writeD d (k : Int) 256 z := ⟨_, rfl⟩
    have eW : d' = { diesD d with ops := d.ops + 1, W := [⟨k, z⟩] } := by
      rw [hd']
      unfold writeD
      rw [if_pos ⟨ho, rfl⟩, hd, Int.toNat_natCast]
      have a1 : (wr1 d).drops k = 0 := by show (diesD d).drops k = 0; rw [p3]; exact h.drops k
      have a2 : (wr1 d).miss k = [] := by show (diesD d).miss k = []; rw [p4]; exact h.miss k
      have a3 : aimC (wr1 d) k = true := decide_eq_true (by omega)
      have a4 : aimD (wr1 d) k = wr1 d := by unfold aimD; rw [if_neg (by omega), a2]
      have a5 : aimT (wr1 d) k = k := by unfold aimT; rw [if_neg (by omega), a2]
      rw [a3, a4, a5, h.W]
      rfl
    have b1 : d'.n = N := by rw [eW]; exact p1.trans h.n
    have b2 : d'.dead = false := by rw [eW]; exact hl.trans h.dead
    have b3 : d'.has = d.has := by rw [eW]; exact p5
    have b4 : d'.lost = d.lost := by rw [eW]; exact p6
    have b5 : d'.W = [⟨k, z⟩] := by rw [eW]
    have b6 : d'.drops = d.drops := by rw [eW]; exact p3
    have b7 : d'.miss = d.miss := by rw [eW]; exact p4
    obtain ⟨r1, r2, r3, r4, r5, r6⟩ := dies_all d'
    have tE : tryE d ⟨(k : Int), 256, z⟩ = (if flushE d' = 0 then (if readE (flushD d') (k : Int) = 0 ∨ readE (flushD d') (k : Int) = 20 then (if asP (flushD d') ⟨(k : Int), 256, z⟩ then 0 else -1) else readE (flushD d') (k : Int)) else flushE d') := by
      subst hd'
      exact if_pos e1
    have tD : tryD d ⟨(k : Int), 256, z⟩ = (if flushE d' = 0 then readD (flushD d') (k : Int) else flushD d') := by
      subst hd'
      exact if_pos e1
    rw [tE, tD]
    cases hf : diesB d'
    case true =>
      have f1 : flushE d' = 21 := by unfold flushE; rw [b2, hf]; rfl
      have f2 : flushD d' = diesD d' := by unfold flushD; rw [b2, hf]; rfl
      left
      rw [f1, if_neg (by decide), if_neg (by decide), f2]
      exact ⟨rfl, r1.trans b1, r5.trans b3, r6.trans b4, fun a => by rw [r3, b6]; exact h.drops a, fun a => by rw [r4, b7]; exact h.miss a, Or.inr (r2.trans b5)⟩
    case false =>
      have f1 : flushE d' = 0 := by unfold flushE; rw [b2, hf]; rfl
      obtain ⟨d2, hd2⟩ : ∃ d2, d2 = flushD d' := ⟨_, rfl⟩
      have f2 : d2 = { diesD d' with has := up d.has k z, lost := up d.lost k false, W := [] } := by
        rw [hd2]
        unfold flushD
        rw [b2, hf, b5]
        show ({ finD (diesD d') ⟨k, z⟩ with W := [] } : Dev) = _
        unfold finD
        rw [r5, r6, b3, b4]
      have c1 : Qt N { d2 with armed := false } := ⟨by rw [f2]; exact r1.trans b1, by rw [f2]; exact (dies_live hf).trans b2, rfl, by rw [f2]⟩
      obtain ⟨k1, k2, k3⟩ := c1.read hk
      have g1 : readE d2 (k : Int) = 0 := by
        have : readE d2 (k : Int) = readE { d2 with armed := false } (k : Int) := rfl
        rw [this, k1]
        have : ({ d2 with armed := false } : Dev).lost k = false := by rw [f2]; show up d.lost k false k = false; exact up_same _ _ _
        rw [this]; rfl
      have g3 : readZ d2 (k : Int) = z := by
        have : readZ d2 (k : Int) = readZ { d2 with armed := false } (k : Int) := rfl
        rw [this, k3, f2]
        show up d.has k z k = _
        exact up_same _ _ _
      have g2 : readD d2 (k : Int) = { d2 with ops := d2.ops + 1 } := by
        have e : openE d2 (k : Int) = 0 := by
          have : readE d2 (k : Int) = 0 := g1
          by_cases q : openE d2 (k : Int) = 0
          · exact q
          · rw [(openE_ne q).1] at this; exact this
        unfold readD; rw [if_pos e]
      have g4 : asP d2 ⟨(k : Int), 256, z⟩ = true := by
        show (decide (readE d2 (k : Int) = 0) && eqB (readL d2 (k : Int)) 256 (readZ d2 (k : Int)) z) = true
        rw [g1, g3, show readL d2 (k : Int) = 256 from if_pos g1]
        simp [eqB]
      right
      rw [f1, if_pos rfl, if_pos rfl, ← hd2, g1, if_pos (Or.inl rfl), g4, if_pos rfl, g2]
      refine ⟨rfl, ⟨?_, ?_, ?_, ?_, ?_⟩, ⟨?_, fun c _ => ?_⟩, fun a ha => ⟨?_, ?_⟩⟩
      · rw [f2]; exact r1.trans b1
      · rw [f2]; exact (dies_live hf).trans b2
      · rw [f2]
      · intro a; rw [f2]; show (diesD d').drops a = 0; rw [r3, b6]; exact h.drops a
      · intro a; rw [f2]; show (diesD d').miss a = []; rw [r4, b7]; exact h.miss a
      · rw [f2]; exact up_same _ _ _
      · rw [f2]; show up d.has k z k c = _; rw [up_same]
      · rw [f2]; exact up_other _ _ ha
      · rw [f2]; exact up_other _ _ ha
theorem kep_live {N k : Nat} {d : Dev} (h : Live N d) (hk : k < N) (z : Nat → Nat) :
    (kepE 4 d ⟨(k : Int), 256, z⟩ = 21 ∧ Dying N d k z (kepD 4 d ⟨(k : Int), 256, z⟩)) ∨ (kepE 4 d ⟨(k : Int), 256, z⟩ = 0 ∧ Wrote N d k z (kepD 4 d ⟨(k : Int), 256, z⟩)) := by
  have e1 : kepE 4 d ⟨(k : Int), 256, z⟩ = if tryE d ⟨(k : Int), 256, z⟩ = -1 then kepE 3 (tryD d ⟨(k : Int), 256, z⟩) ⟨(k : Int), 256, z⟩ else tryE d ⟨(k : Int), 256, z⟩ := rfl
  have e2 : kepD 4 d ⟨(k : Int), 256, z⟩ = if tryE d ⟨(k : Int), 256, z⟩ = -1 then kepD 3 (tryD d ⟨(k : Int), 256, z⟩) ⟨(k : Int), 256, z⟩ else tryD d ⟨(k : Int), 256, z⟩ := rfl
  rw [e1, e2]
  rcases try_live h hk z with ⟨a, b⟩ | ⟨a, b⟩
  · rw [a, if_neg (by decide), if_neg (by decide)]; exact Or.inl ⟨rfl, b⟩
  · rw [a, if_neg (by decide), if_neg (by decide)]; exact Or.inr ⟨rfl, b⟩
/-- What a crash leaves: as it was, or it is written. -/
theorem dying_crash {N k : Nat} {d d' : Dev} {z : Nat → Nat} (h : Dying N d k z d') (m : Nat) (q : Nat → Bool) : Fine N (crashD d' m q) ∧ ((∀ a, (crashD d' m q).has a = d.has a ∧ (crashD d' m q).lost a = d.lost a) ∨ (HasZ (crashD d' m q) k z ∧ ∀ a, a ≠ k → (crashD d' m q).has a = d.has a ∧ (crashD d' m q).lost a = d.lost a)) := by
  rcases h.W with e | e
  · have c : crashD d' m q = { d' with W := [], dead := false, armed := false } := by unfold crashD; rw [e]; rfl
    rw [c]
    exact ⟨⟨⟨h.n, rfl, rfl, rfl⟩, h.drops, h.miss⟩, Or.inl fun a => ⟨congrFun h.has a, congrFun h.lost a⟩⟩
  · have c : crashD d' m q = { (if keepB m q 0 then finD d' ⟨k, z⟩ else d') with W := [], dead := false, armed := false } := by
      unfold crashD
      rw [e]
      show ({ crTo d' m q 1 with W := [], dead := false, armed := false } : Dev) = _
      unfold crTo
      rw [e]
      rfl
    rw [c]
    by_cases hk : keepB m q 0 = true
    · rw [if_pos hk]
      refine ⟨⟨⟨h.n, rfl, rfl, rfl⟩, h.drops, h.miss⟩, Or.inr ⟨⟨?_, fun c _ => ?_⟩, fun a ha => ⟨?_, ?_⟩⟩⟩
      · exact up_same _ _ _
      · show up d'.has k z k c = _; rw [up_same]
      · show up d'.has k z a = _; rw [up_other _ _ ha, h.has]
      · show up d'.lost k false a = _; rw [up_other _ _ ha, h.lost]
    · rw [if_neg hk]
      exact ⟨⟨⟨h.n, rfl, rfl, rfl⟩, h.drops, h.miss⟩, Or.inl fun a => ⟨congrFun h.has a, congrFun h.lost a⟩⟩
theorem live_crash {N : Nat} {d : Dev} (h : Live N d) (m : Nat) (q : Nat → Bool) : Fine N (crashD d m q) ∧ ∀ a, (crashD d m q).has a = d.has a ∧ (crashD d m q).lost a = d.lost a := by
  have c : crashD d m q = { d with W := [], dead := false, armed := false } := by unfold crashD; rw [h.W]; rfl
  rw [c]
  exact ⟨⟨⟨h.n, rfl, rfl, rfl⟩, h.drops, h.miss⟩, fun a => ⟨rfl, rfl⟩⟩
end Go.Proofs.YtlbdopcchoklhaaGreat

namespace Go.Proofs.YtlbdopcchoklhaaGreat
open Go.RowKit
set_option linter.unusedVariables false
set_option maxRecDepth 100000
set_option linter.unusedSimpArgs false

section
variable {N : Nat} {d : Dev}
/-- Writes in a row of a device that may die: all of them, or those of the front, and then perhaps one more. -/
theorem all_live {F : Nat → PutP} {B0 m : Nat} {Y : Nat → Nat → Nat} (hF : ∀ j, j < m → F j = ⟨((B0 + j : Nat) : Int), 256, Y j⟩) (hN : B0 + m ≤ N) (h : Live N d) : ∀ i, i ≤ m →
    ((allTo F d i).e = 0 ∧ Live N (allTo F d i).d ∧ (∀ a, a < i → HasZ (allTo F d i).d (B0 + a) (Y a)) ∧ ∀ a, (a < B0 ∨ B0 + i ≤ a) → (allTo F d i).d.has a = d.has a ∧ (allTo F d i).d.lost a = d.lost a) ∨
    ((allTo F d i).e = 21 ∧ ∃ k d1, k < i ∧ Dying N d1 (B0 + k) (Y k) (allTo F d i).d ∧ (∀ a, a < k → HasZ d1 (B0 + a) (Y a)) ∧ ∀ a, (a < B0 ∨ B0 + k ≤ a) → d1.has a = d.has a ∧ d1.lost a = d.lost a)
  | 0, _ => Or.inl ⟨rfl, h, fun a ha => absurd ha (Nat.not_lt_zero a), fun a _ => ⟨rfl, rfl⟩⟩
  | i + 1, hi => by
    rcases all_live hF hN h i (by omega) with ⟨e1, e2, e3, e4⟩ | ⟨e1, k, d1, hk, e2, e3, e4⟩
    · have e : allTo F d (i + 1) = ⟨kepD 4 (allTo F d i).d (F i), kepE 4 (allTo F d i).d (F i)⟩ := by
        show (if (allTo F d i).e = 0 then _ else _) = _
        rw [if_pos e1]
      rw [e, hF i (by omega)]
      rcases kep_live e2 (k := B0 + i) (by omega) (Y i) with ⟨f1, f2⟩ | ⟨f1, f2⟩
      · exact Or.inr ⟨f1, i, (allTo F d i).d, Nat.lt_succ_self _, f2, e3, e4⟩
      · refine Or.inl ⟨f1, f2.live, fun a ha => ?_, fun a ha => ?_⟩
        · by_cases q : a = i
          · subst q; exact f2.has
          · obtain ⟨g1, g2⟩ := f2.other (B0 + a) (by omega)
            obtain ⟨g3, g4⟩ := e3 a (by omega)
            exact ⟨g2.trans g3, fun c hc => (congrFun g1 c).trans (g4 c hc)⟩
        · obtain ⟨g1, g2⟩ := f2.other a (by omega)
          obtain ⟨g3, g4⟩ := e4 a (by omega)
          exact ⟨g1.trans g3, g2.trans g4⟩
    · have e : allTo F d (i + 1) = allTo F d i := by
        show (if (allTo F d i).e = 0 then _ else _) = _
        rw [if_neg (by rw [e1]; decide)]
      rw [e]
      exact Or.inr ⟨e1, k, d1, by omega, e2, e3, e4⟩
variable {vol ep no : Int} {n : Gn} {a : Nat} {Z : Nat → Nat}
/-- Behind a crash: each sector of the area is written, or as it was; all others are as they were. -/
theorem snp_crash (h : Live N d) (hN : frsN n a 0 + n.S * n.q ≤ N) (hz : ∀ j, j < n.S * n.q → shrB vol no ((frsN n a 0 + j : Nat) : Int) 256 (d.has (frsN n a 0 + j)) = false) (m : Nat) (qf : Nat → Bool) :
    ∃ hu : Nat → Bool, SnpOn N (crashD (allTo (snpP vol ep no n a Z) d (n.S * n.q)).d m qf) vol ep no n a Z hu ∧ (((allTo (snpP vol ep no n a Z) d (n.S * n.q)).e = 0 ∧ ∀ j, hu j = false) ∨ (allTo (snpP vol ep no n a Z) d (n.S * n.q)).e = 21) ∧
      ∀ b, (b < frsN n a 0 ∨ frsN n a 0 + n.S * n.q ≤ b) → (crashD (allTo (snpP vol ep no n a Z) d (n.S * n.q)).d m qf).has b = d.has b ∧ (crashD (allTo (snpP vol ep no n a Z) d (n.S * n.q)).d m qf).lost b = d.lost b := by
  have hF : ∀ j, j < n.S * n.q → snpP vol ep no n a Z j = ⟨((frsN n a 0 + j : Nat) : Int), 256, sectZ (shrK vol ep no n a Z undef (j / n.q) (j % n.q))⟩ := fun j _ => by
    unfold snpP
    rw [← frsN_row n a j]
    simp
  rcases all_live hF hN h (n.S * n.q) (Nat.le_refl _) with ⟨e1, e2, e3, e4⟩ | ⟨e1, k, d1, hk, e2, e3, e4⟩
  · obtain ⟨f1, f2⟩ := live_crash e2 m qf
    refine ⟨fun _ => false, ⟨f1, fun j hj _ => ?_, fun j _ q => by cases q⟩, Or.inl ⟨e1, fun _ => rfl⟩, fun b hb => ?_⟩
    · obtain ⟨g1, g2⟩ := f2 (frsN n a 0 + j)
      obtain ⟨g3, g4⟩ := e3 j hj
      exact ⟨g2.trans g3, fun c hc => (congrFun g1 c).trans (g4 c hc)⟩
    · obtain ⟨g1, g2⟩ := f2 b
      obtain ⟨g3, g4⟩ := e4 b hb
      exact ⟨g1.trans g3, g2.trans g4⟩
  · obtain ⟨f1, f2⟩ := dying_crash e2 m qf
    rcases f2 with f2 | ⟨f2, f3⟩
    · refine ⟨fun j => decide (k ≤ j), ⟨f1, fun j hj q => ?_, fun j hj q => ?_⟩, Or.inr e1, fun b hb => ?_⟩
      · obtain ⟨g1, g2⟩ := f2 (frsN n a 0 + j)
        obtain ⟨g3, g4⟩ := e3 j (by have := of_decide_eq_false q; omega)
        exact ⟨g2.trans g3, fun c hc => (congrFun g1 c).trans (g4 c hc)⟩
      · obtain ⟨g1, g2⟩ := f2 (frsN n a 0 + j)
        obtain ⟨g3, g4⟩ := e4 (frsN n a 0 + j) (Or.inr (by have := of_decide_eq_true q; omega))
        exact Or.inr (by rw [g1, g3]; exact hz j hj)
      · obtain ⟨g1, g2⟩ := f2 b
        obtain ⟨g3, g4⟩ := e4 b (by omega)
        exact ⟨g1.trans g3, g2.trans g4⟩
    · refine ⟨fun j => decide (k < j), ⟨f1, fun j hj q => ?_, fun j hj q => ?_⟩, Or.inr e1, fun b hb => ?_⟩
      · have q := of_decide_eq_false q
        by_cases x : j = k
        · subst x; exact f2
        · obtain ⟨g1, g2⟩ := f3 (frsN n a 0 + j) (by omega)
          obtain ⟨g3, g4⟩ := e3 j (by omega)
          exact ⟨g2.trans g3, fun c hc => (congrFun g1 c).trans (g4 c hc)⟩
      · have q := of_decide_eq_true q
        obtain ⟨g1, g2⟩ := f3 (frsN n a 0 + j) (by omega)
        obtain ⟨g3, g4⟩ := e4 (frsN n a 0 + j) (Or.inr (by omega))
        exact Or.inr (by rw [g1, g3]; exact hz j hj)
      · obtain ⟨g1, g2⟩ := f3 b (by omega)
        obtain ⟨g3, g4⟩ := e4 b (by omega)
        exact ⟨g1.trans g3, g2.trans g4⟩
end
end Go.Proofs.YtlbdopcchoklhaaGreat

namespace Go.Proofs.YtlbdopcchoklhaaGreat
open Go.RowKit
set_option linter.unusedVariables false
set_option maxRecDepth 100000
set_option linter.unusedSimpArgs false

section
variable {N : Nat} {d : Dev} {vol ep no : Int} {n : Gn} {a s : Nat} {Z : Nat → Nat} {hu : Nat → Bool} {L : Nat → Nat} {X : Nat → Nat → Nat}
end
theorem cntL_le (b : Nat → Bool) : ∀ n, cntL b n ≤ n
  | 0 => Nat.le_refl _
  | n + 1 => by
    have := cntL_le b n
    unfold cntL
    split <;> omega
end Go.Proofs.YtlbdopcchoklhaaGreat

namespace Go.Proofs.YtlbdopcchoklhaaGreat
open Go.RowKit
set_option linter.unusedVariables false
set_option maxRecDepth 100000
set_option linter.unusedSimpArgs false

theorem areas_off {n : Gn} {j k : Nat} (hj : j < n.S * n.q) : frsN n 0 0 + j < frsN n 1 0 + k := by
  unfold frsN
  simp only [Nat.zero_mul, Nat.zero_add, Nat.one_mul, Nat.add_zero]
  omega
section
variable {n : Gn}
/-- One in area 0, then another one in area 1 that a crash cuts off: the first stays, of the second there is each sector, or nothing. -/
theorem snp_old (hn : n.Ok) (v0 e0 n0 v1 e1 n1 : Int) (Z0 Z1 : Nat → Nat) (a : Int) (m : Nat) (qf : Nat → Bool) {d0 d1 : Dev}
    (h0 : d0 = (allTo (snpP v0 e0 n0 n 0 Z0) (bkD 7 (secsG n)) (n.S * n.q)).d) (h1 : d1 = (allTo (snpP v1 e1 n1 n 1 Z1) (armD d0 a) (n.S * n.q)).d) :
    SnpOn (secsG n) (crashD d1 m qf) v0 e0 n0 n 0 Z0 (fun _ => false) ∧ ∃ hu : Nat → Bool, SnpOn (secsG n) (crashD d1 m qf) v1 e1 n1 n 1 Z1 hu ∧ (((allTo (snpP v1 e1 n1 n 1 Z1) (armD d0 a) (n.S * n.q)).e = 0 ∧ ∀ j, hu j = false) ∨ (allTo (snpP v1 e1 n1 n 1 Z1) (armD d0 a) (n.S * n.q)).e = 21) := by
  obtain ⟨g1, g2, g3⟩ := snp_first hn (a := 0) (by omega) v0 e0 n0 Z0
  rw [← h0] at g2 g3
  have hin := area_in hn (a := 1) (Nat.le_refl 1)
  have htot : secsG n ≤ 4294967295 := by
    have := hn.tot2
    unfold Gn.tot Gn.fs at this
    unfold secsG
    have e : 2 * n.S * (n.K + n.M) = 2 * (n.S * n.q) := by unfold Gn.q; rw [Nat.mul_assoc]
    rw [e]
    omega
  obtain ⟨hu, k1, k2, k3⟩ := snp_crash (vol := v1) (ep := e1) (no := n1) (n := n) (a := 1) (Z := Z1) (arm_live g2.fine a) hin (fun j hj => by
    have hb := (bk_fine 7 (secsG n)).2.1 (frsN n 1 0 + j) (by omega)
    obtain ⟨f1, f2⟩ := g3 (frsN n 1 0 + j) (Or.inr (by
      unfold frsN
      simp only [Nat.zero_mul, Nat.zero_add, Nat.one_mul, Nat.add_zero]
      omega))
    exact shr_blank (v := 7) (k := frsN n 1 0 + j) ⟨by omega, by omega⟩ (by omega) (fun c hc => (congrFun f1 c).trans (hb.2 c hc))) m qf
  rw [← h1] at k1 k3
  refine ⟨⟨k1.fine, fun j hj _ => ?_, fun j _ e => by cases e⟩, hu, k1, k2⟩
  obtain ⟨f1, f2⟩ := k3 (frsN n 0 0 + j) (Or.inl (areas_off (k := 0) hj))
  have hg := g2.good j hj rfl
  exact ⟨f2.trans hg.1, fun c hc => (congrFun f1 c).trans (hg.2 c hc)⟩
end
end Go.Proofs.YtlbdopcchoklhaaGreat

namespace Go.Proofs.YtlbdopcchoklhaaGreat
open Go.ChangeShapes Go.WideShapes Go.ChangeAt Go.RowKit Go.Deep
set_option linter.unusedVariables false
set_option maxRecDepth 100000

theorem cellsL : Tryz.prog.cellsOf 4 = 1 := by kernel_rfl
/-- Bools. -/
theorem bools_of {H : Type} {enc : TypeId × Value → H} {W : World} {v : Value} {x : DataW H × List MemPlace} {fuel : Nat} (h : DataW.trod enc Tryz.prog W 0 (fun _ => true) true fuel /-t-/42 [v] = some x) : ∃ n q, RowQ W v n q := by
  rcases open_bools Tryz.underlying42 Tryz.underlying4 cellsL h with ⟨hcs, _⟩ | ⟨a, len, cap, B, hcs, _, hl, hm, _, hc⟩
  · simp at hcs
    exact ⟨0, fun _ => false, none, 0, hcs, by omega, fun h => absurd h (Nat.lt_irrefl 0)⟩
  · simp at hcs
    refine ⟨len, B, some a, cap, hcs, by unfold maxLen at hm; omega, fun h0 => ?_⟩
    obtain ⟨b, o, rfl⟩ := addr_none (hc 0 (by omega))
    exact ⟨b, o, rfl, fun c hcl => by have := hc c (by omega); rwa [add_pl] at this⟩
theorem open_bools_arg {H : Type} {enc : TypeId × Value → H} {W : World} {v : Value} {d : DataW H} {p : List MemPlace} (hv : ∃ a len cap, v = .slice a len cap) (h : DataW.Trod enc Tryz.prog W 0 (fun _ => true) true /-t-/42 v d p) : ∃ n q, RowQ W v n q := by
  obtain ⟨a0, len, cap, rfl⟩ := hv
  obtain ⟨fuel, hf⟩ := h
  exact bools_of hf
end Go.Proofs.YtlbdopcchoklhaaGreat

namespace Go.Proofs.YtlbdopcchoklhaaGreat
open Go.RowKit
set_option linter.unusedVariables false
set_option maxRecDepth 100000
set_option linter.unusedSimpArgs false

section
variable {N : Nat} {d : Dev} {vol ep no : Int} {n : Gn} {a : Nat} {Z : Nat → Nat} {hu : Nat → Bool}
end
section
variable {w0 w w1 : World} {X : Nat → Prop} {B : Nat} {d : Dev}
theorem OneX.arm {n : Int} (h : OneX w0 X B d w) (hn : -9223372036854775808 ≤ n ∧ n ≤ 9223372036854775807) : Calls Tryz.prog 23 #[.pointer (some ⟨B, 0, none⟩), .int .i64 n] w (OnePX w0 X B (armD d n) (.tuple #[]) w) :=
  h.run (Ch.refl _ w) fun p hp h3 _ => by
    subst hp
    exact arm_any _ p d n w h3 hn
theorem OneX.crash {A : Option Addr} {m C t : Nat} {q : Nat → Bool} (h : OneX w0 X B d w) (hk : RowQ w0 (.slice A m C) m q) (hl : Lim d t) (ht : t ≤ 1000000) : Calls Tryz.prog 24 #[.pointer (some ⟨B, 0, none⟩), .slice A m C] w (OnePX w0 X B (crashD d m q) (.tuple #[]) w) :=
  h.run (Ch.refl _ w) fun p hp h3 _ => by
    subst hp
    refine crash_any _ p d A m C q w h3 (by have := hl.W; omega) (hk.gr h.ch) fun b o e hm hf => ?_
    obtain ⟨b', o', e', hc⟩ := hk.at hm
    rw [e] at e'
    injection e' with e'
    injection e' with e1 e2
    subst e1
    have h1 := World.block_lt_of_cell? _ _ (hc 0 hm)
    have h2 := (h3.foot hf).1
    simp at h1
    omega
end
end Go.Proofs.YtlbdopcchoklhaaGreat

namespace Go.Proofs.YtlbdopcchoklhaaGreat
open Go.RowKit
set_option linter.unusedVariables false
set_option maxRecDepth 100000
set_option linter.unusedSimpArgs false

/-- Is the k-th share hurt, by a row of bools that is handed in? -/
def hqB (m : Nat) (q : Nat → Bool) (k : Nat) : Bool := decide (k < m) && q k
theorem hqB_yes {m : Nat} {q : Nat → Bool} {k : Nat} (h : k < m) : hqB m q k = q k := by unfold hqB; rw [decide_eq_true h, Bool.true_and]
theorem hqB_no {m : Nat} {q : Nat → Bool} {k : Nat} (h : ¬ k < m) : hqB m q k = false := by unfold hqB; rw [decide_eq_false h, Bool.false_and]
/-- Are enough of the first stripes left? -/
def enB (n : Gn) (b : Nat → Bool) : Nat → Bool
  | 0 => true
  | s + 1 => enB n b s && decide (cntL (fun r => b (s * n.q + r)) n.q ≤ n.M)
theorem enB_iff {n : Gn} {b : Nat → Bool} : ∀ {s : Nat}, enB n b s = true ↔ ∀ s', s' < s → cntL (fun r => b (s' * n.q + r)) n.q ≤ n.M
  | 0 => ⟨fun _ s' h => absurd h (Nat.not_lt_zero s'), fun _ => rfl⟩
  | s + 1 => by
    unfold enB
    rw [Bool.and_eq_true, enB_iff, decide_eq_true_iff]
    constructor
    · rintro ⟨h1, h2⟩ s' hs
      by_cases e : s' = s
      · rw [e]; exact h2
      · exact h1 s' (by omega)
    · exact fun h => ⟨fun s' hs => h s' (by omega), h s (Nat.lt_succ_self s)⟩
theorem cntL_congr {b c : Nat → Bool} : ∀ {n : Nat}, (∀ r, r < n → b r = c r) → cntL b n = cntL c n
  | 0, _ => rfl
  | n + 1, h => by
    show cntL b n + (if b n then 1 else 0) = cntL c n + (if c n then 1 else 0)
    rw [cntL_congr fun r hr => h r (by omega), h n (Nat.lt_succ_self n)]
theorem enough_all {n : Gn} {b : Nat → Bool} : Enough n (fun j => decide (j < n.S * n.q) && b j) ↔ enB n b n.S = true := by
  rw [enB_iff]
  have e : ∀ s, s < n.S → cntL (fun r => (fun j => decide (j < n.S * n.q) && b j) (s * n.q + r)) n.q = cntL (fun r => b (s * n.q + r)) n.q := fun s hs => cntL_congr fun r hr => by
    have h1 : s * n.q + r < n.S * n.q := by
      have h2 : (s + 1) * n.q ≤ n.S * n.q := Nat.mul_le_mul_right n.q hs
      rw [Nat.succ_mul] at h2
      omega
    show (decide (s * n.q + r < n.S * n.q) && b (s * n.q + r)) = _
    rw [decide_eq_true h1, Bool.true_and]
  exact ⟨fun h s hs => by rw [← e s hs]; exact h s hs, fun h s hs => by rw [e s hs]; exact h s hs⟩
theorem huS_lim {f : Fa} {b : Nat → Bool} {B0 : Nat} {d : Dev} {t : Nat} (hl : Lim d t) (hm : LimM d t) : ∀ k, Lim (huS f b B0 d k) (t + k) ∧ LimM (huS f b B0 d k) (t + k)
  | 0 => ⟨hl, hm⟩
  | k + 1 => by
    have ih := huS_lim (f := f) (b := b) (B0 := B0) hl hm k
    cases hq : b k with
    | true =>
      have e : huS f b B0 d (k + 1) = faultD (huS f b B0 d k) (faAt f ((B0 + k : Nat) : Int)) := if_pos hq
      rw [e]
      exact (near_fault _ _).lim ih.1 ih.2
    | false =>
      have e : huS f b B0 d (k + 1) = huS f b B0 d k := if_neg (by rw [hq]; exact Bool.false_ne_true)
      rw [e]
      exact ⟨ih.1.mono (by omega), ih.2.mono (by omega)⟩
theorem huS_yes {f : Fa} {b : Nat → Bool} {B0 : Nat} {d : Dev} {k : Nat} (h : b k = true) : huS f b B0 d (k + 1) = faultD (huS f b B0 d k) (faAt f ((B0 + k : Nat) : Int)) := if_pos h
theorem huS_no {f : Fa} {b : Nat → Bool} {B0 : Nat} {d : Dev} {k : Nat} (h : b k = false) : huS f b B0 d (k + 1) = huS f b B0 d k := if_neg (by rw [h]; exact Bool.false_ne_true)
theorem cntL_yes {b : Nat → Bool} {n : Nat} (h : b n = true) : cntL b (n + 1) = cntL b n + 1 := by
  show cntL b n + (if b n then 1 else 0) = _
  rw [if_pos h]
theorem cntL_no {b : Nat → Bool} {n : Nat} (h : b n = false) : cntL b (n + 1) = cntL b n := by
  show cntL b n + (if b n then 1 else 0) = _
  rw [if_neg (by rw [h]; exact Bool.false_ne_true)]
  rfl
theorem enB_s {n : Gn} {b : Nat → Bool} {s : Nat} : enB n b (s + 1) = (enB n b s && decide (cntL (fun r => b (s * n.q + r)) n.q ≤ n.M)) := rfl
/-- The device that a snapshot was written on, before and after the damage. -/
structure LftOn (n : Gn) (a : Nat) (Z : Nat → Nat) (d : Dev) : Prop where
  on : SnpOn (secsG n) d 7 2 5 n a Z (fun _ => false)
  lim : Lim d 200000
  limM : LimM d 200000
theorem lft_on {n : Gn} (hn : n.Ok) {a : Nat} (ha : a ≤ 1) (Z : Nat → Nat) : (allTo (snpP 7 2 5 n a Z) (bkD 7 (secsG n)) (n.S * n.q)).e = 0 ∧ LftOn n a Z (allTo (snpP 7 2 5 n a Z) (bkD 7 (secsG n)) (n.S * n.q)).d := by
  obtain ⟨h1, h2, _⟩ := snp_first hn ha 7 2 5 Z
  have h0 := bkD_lims 7 (secsG n)
  have hl := allTo_lim (f := snpP 7 2 5 n a Z) h0.1 h0.2 (n.S * n.q)
  have ht := hn.t2
  have htot : secsG n ≤ 2564 := by
    have := hn.tot2
    unfold Gn.tot Gn.fs Gn.q at this
    unfold secsG
    rw [Nat.mul_assoc]
    exact this
  exact ⟨h1, h2, hl.1.mono (by unfold Gn.q at *; omega), hl.2.mono (by unfold Gn.q at *; omega)⟩
/-- The bytes that are read are those that were written, where enough are left; else there are none. -/
theorem lft_read {n : Gn} {a l : Nat} {z : Nat → Nat} {d : Dev} {f : Fa} {b : Nat → Bool} (g : LftOn n a (padZ l z) d) (hn : n.Ok) (ha : a ≤ 1) (hz : Bytes l z) (hf : FaOk f) (hb : FaBad f) (hl : l ≤ n.S * n.K * 228) {w' : World} {v : Value} {k : Int}
    (h : (k = 0 ∧ ∃ Ds, (∀ s, s < n.S → n.K ≤ leftN (huS f b (frsN n a 0) d (n.S * n.q)) 7 5 n a s ∧ DatS (huS f b (frsN n a 0) d (n.S * n.q)) 7 5 n a s (Ds s)) ∧ RowV w' v l (rdB n.K Ds)) ∨ (k = 22 ∧ v = .slice none 0 0 ∧ ∃ s, s < n.S ∧ leftN (huS f b (frsN n a 0) d (n.S * n.q)) 7 5 n a s < n.K)) :
    (k = 0 ∧ enB n b n.S = true ∧ RowV w' v l z) ∨ (k = 22 ∧ enB n b n.S = false ∧ v = .slice none 0 0) := by
  have hZ : ∀ i, padZ l z i < 256 := fun i => padZ_b hz i
  have hu := snp_hurt g.on (area_in hn ha) hZ hf hb b (n.S * n.q) (Nat.le_refl _)
  have he := rd_enough hu hn ha (Nat.le_refl _) ⟨by omega, by omega⟩ ⟨by omega, by omega⟩ ⟨by omega, by omega⟩ hZ
  rw [enough_all] at he
  rcases h with ⟨rfl, Ds, h1, h2⟩ | ⟨rfl, rfl, s, h1, h2⟩
  · refine Or.inl ⟨rfl, he.2 fun s hs => (h1 s hs).1, h2.congr fun c hc => ?_⟩
    rw [rd_bytes hu hn ha (Nat.le_refl _) ⟨by omega, by omega⟩ ⟨by omega, by omega⟩ ⟨by omega, by omega⟩ hZ h1 (show c < n.S * n.K * 228 by omega)]
    exact if_pos hc
  · refine Or.inr ⟨rfl, ?_, rfl⟩
    cases e : enB n b n.S with
    | false => rfl
    | true =>
      have := he.1 e s h1
      omega
theorem huS_live {n : Gn} {a l : Nat} {z : Nat → Nat} {d : Dev} {f : Fa} {b : Nat → Bool} (g : LftOn n a (padZ l z) d) (hn : n.Ok) (ha : a ≤ 1) (hz : Bytes l z) (hf : FaOk f) (hb : FaBad f) : (huS f b (frsN n a 0) d (n.S * n.q)).dead = false :=
  (snp_hurt g.on (area_in hn ha) (fun i => padZ_b hz i) hf hb b (n.S * n.q) (Nat.le_refl _)).fine.qt.dead
theorem blkD12 {vol : Int} {g : Ge} {w : World} {e : Ending} {w' : World} (h : BlankPost11 vol g w e w') : ∃ D, e = .returned (.pointer D) ∧ Ch (fun _ => False) w w' ∧ (blkOk vol g = false → D = none) := by
  cases hb : blkOk vol g with
  | false =>
    obtain ⟨h1, h2⟩ := h.1 hb
    exact ⟨_, h1, h2, fun _ => rfl⟩
  | true =>
    have hm : mayG g = true := by unfold blkOk at hb; exact (Bool.and_eq_true_iff.1 hb).1
    obtain ⟨n, hn, rfl⟩ := may_nat hm
    obtain ⟨B, h1, h2⟩ := h.2 n hb rfl
    exact ⟨_, h1, h2.ch, fun f => by cases f⟩
/-- A geometry that is small, and has a blank device. -/
theorem sml12 {g : Ge} (hs : smlB g = true) (hb : blkOk 7 g = true) : ∃ n : Gn, n.Ok ∧ g = n.ge ∧ n.S ≤ 3 ∧ n.K ≤ 4 ∧ n.M ≤ 3 ∧ n.W ≤ 16 := by
  have hm : mayG g = true := by unfold blkOk at hb; exact (Bool.and_eq_true_iff.1 hb).1
  obtain ⟨n, hn, rfl⟩ := may_nat hm
  unfold smlB at hs
  simp only [Bool.and_eq_true, decide_eq_true_eq] at hs
  obtain ⟨h1, h2, h3, h4⟩ := hs
  have h1 : (n.W : Int) ≤ 16 := h1
  have h2 : (n.S : Int) ≤ 3 := h2
  have h3 : (n.K : Int) ≤ 4 := h3
  have h4 : (n.M : Int) ≤ 3 := h4
  exact ⟨n, hn, rfl, by omega, by omega, by omega, by omega⟩
theorem room12 {n : Gn} (hS : n.S ≤ 3) (hK : n.K ≤ 4) : ∃ SK T : Nat, T = n.S * n.K * 228 ∧ T ≤ 2736 ∧ wrap64 ((n.S : Int) * (n.K : Int)) = (SK : Int) ∧ wrap64 ((SK : Int) * 228) = (T : Int) := by
  obtain ⟨SK, hSK⟩ : ∃ SK, SK = n.S * n.K := ⟨_, rfl⟩
  have hSK2 : SK ≤ 12 := by rw [hSK]; exact Nat.mul_le_mul hS hK
  refine ⟨SK, SK * 228, by rw [hSK], by omega, ?_, ?_⟩
  · have : (n.S : Int) * (n.K : Int) = (SK : Int) := by rw [hSK]; exact (Int.natCast_mul _ _).symm
    rw [this]
    exact IntWalk.wrap64_in _ ⟨by omega, by omega⟩
  · rw [IntWalk.wrap64_in _ ⟨by omega, by omega⟩]; omega
/-- What the walk needs tto know of the damage: the device after k shares, how many of a stripe are lost, whether enough are left. -/
structure LfF (n : Gn) (x l : Nat) (z : Nat → Nat) (m : Nat) (q : Nat → Bool) (f : Fa) (d1 : Dev) (Q : Nat) (b : Nat → Bool) (D : Nat → Dev) (en : Nat → Bool) (ct : Nat → Nat → Nat) : Prop where
  eQ : Q = n.q
  q7 : Q ≤ 7
  d0 : ∀ k, k = 0 → D k = d1
  nx : ∀ s i, b (s * Q + i) = true → D (s * Q + (i + 1)) = faultD (D (s * Q + i)) (faAt f ((frsN n x s + i : Nat) : Int)) ∧ ct s (i + 1) = ct s i + 1
  sa : ∀ s i, b (s * Q + i) = false → D (s * Q + (i + 1)) = D (s * Q + i) ∧ ct s (i + 1) = ct s i
  e0 : en 0 = true
  es : ∀ s, en (s + 1) = (en s && decide (ct s Q ≤ n.M))
  c0 : ∀ s, ct s 0 = 0
  cl : ∀ s i, ct s i ≤ i
  lim : ∀ k, k ≤ 30 → Lim (D k) 200030 ∧ LimM (D k) 200030
  at' : ∀ s i, s < n.S → i < Q → frsN n x s + i < 2564
  yes : ∀ k, k < m → b k = q k
  no : ∀ k, ¬ k < m → b k = false
  km : wrap64 ((n.K : Int) + (n.M : Int)) = (Q : Int)
  rd : ∀ {w' : World} {v : Value} {k : Int}, ((k = 0 ∧ ∃ Ds, (∀ s, s < n.S → n.K ≤ leftN (D (n.S * Q)) 7 5 n x s ∧ DatS (D (n.S * Q)) 7 5 n x s (Ds s)) ∧ RowV w' v l (rdB n.K Ds)) ∨ (k = 22 ∧ v = .slice none 0 0 ∧ ∃ s, s < n.S ∧ leftN (D (n.S * Q)) 7 5 n x s < n.K)) → (k = 0 ∧ en n.S = true ∧ RowV w' v l z) ∨ (k = 22 ∧ en n.S = false ∧ v = .slice none 0 0)
  live : (D (n.S * Q)).dead = false
theorem lfF {n : Gn} (hn : n.Ok) {x : Nat} (hx : x ≤ 1) (hS : n.S ≤ 3) (hK : n.K ≤ 4) (hM : n.M ≤ 3) {l : Nat} {z : Nat → Nat} {d1 : Dev} (g : LftOn n x (padZ l z) d1) (hz : Bytes l z) (hl : l ≤ n.S * n.K * 228) (m : Nat) (q : Nat → Bool) {f : Fa} (hf : FaOk f) (hb : FaBad f) :
    ∃ Q b D en ct, LfF n x l z m q f d1 Q b D en ct := by
  refine ⟨n.q, hqB m q, huS f (hqB m q) (frsN n x 0) d1, enB n (hqB m q), fun s i => cntL (fun r => hqB m q (s * n.q + r)) i, ?_⟩
  have hrow : ∀ s i, frsN n x 0 + (s * n.q + i) = frsN n x s + i := fun s i => by
    unfold frsN
    rw [Nat.add_zero, Nat.add_mul]
    omega
  exact {
    eQ := rfl
    q7 := by unfold Gn.q; omega
    d0 := fun k hk => by rw [hk]; rfl
    nx := fun s i h => ⟨by rw [← hrow s i]; exact huS_yes h, cntL_yes h⟩
    sa := fun s i h => ⟨huS_no h, cntL_no h⟩
    e0 := rfl
    es := fun s => rfl
    c0 := fun s => rfl
    cl := fun s i => cntL_le _ i
    lim := fun k hk => by
      have := huS_lim (f := f) (b := hqB m q) (B0 := frsN n x 0) g.lim g.limM k
      exact ⟨this.1.mono (by omega), this.2.mono (by omega)⟩
    at' := fun s i hs hi => by
      have h1 := frsN_lt hn hx hs hi
      have h2 := hn.tot2
      omega
    yes := fun k hk => hqB_yes hk
    no := fun k hk => hqB_no hk
    km := by
      rw [IntWalk.wrap64_in _ ⟨by omega, by omega⟩]
      unfold Gn.q
      omega
    rd := fun h => lft_read g hn hx hz hf hb hl h
    live := huS_live g hn hx hz hf hb }
theorem wrap_add {a b : Nat} (h : a + b ≤ 1000000) : wrap64 ((a : Int) + (b : Int)) = ((a + b : Nat) : Int) := by
  rw [IntWalk.wrap64_in _ ⟨by omega, by omega⟩]
  omega
theorem wrap_mul {a b : Nat} (h : a * b ≤ 1000000) : wrap64 ((a : Int) * (b : Int)) = ((a * b : Nat) : Int) := by
  have : (a : Int) * (b : Int) = ((a * b : Nat) : Int) := (Int.natCast_mul _ _).symm
  rw [this]
  exact IntWalk.wrap64_in _ ⟨by omega, by omega⟩
#print axioms lft_read
#print axioms lft_on
end Go.Proofs.YtlbdopcchoklhaaGreat
namespace Go.Proofs.YtlbdopcchoklhaaGreat
open Go.RowKit
set_option linter.unusedVariables false
set_option maxRecDepth 100000
set_option linter.unusedSimpArgs false

def oldA (n : Gn) (l : Nat) (z : Nat → Nat) : Dev := (allTo (snpP 7 1 5 n 0 (padZ l z)) (bkD 7 (secsG n)) (n.S * n.q)).d
structure OldF (n : Gn) (l l2 : Nat) (z z2 : Nat → Nat) (die : Int) (m : Nat) (q : Nat → Bool) (d0 dx d1 d2 : Dev) (e1 : Int) : Prop where
  eq0 : allTo (snpP 7 1 5 n 0 (padZ l z)) (bkD 7 (secsG n)) (n.S * n.q) = ⟨d0, 0⟩
  eqx : armD d0 die = dx
  eq1 : allTo (snpP 7 1 6 n 1 (padZ l2 z2)) dx (n.S * n.q) = ⟨d1, e1⟩
  eq2 : crashD d1 m q = d2
  lim0 : Lim dx 200000
  limM0 : LimM dx 200000
  lim1 : Lim d1 400000
  ops : d2.ops ≤ 400001
  W : d2.W.length ≤ 400001
  live : d2.dead = false
  rd0 : ∀ {w' : World} {v : Value} {k : Int}, ((k = 0 ∧ ∃ Ds, (∀ s, s < n.S → n.K ≤ leftN d2 7 5 n 0 s ∧ DatS d2 7 5 n 0 s (Ds s)) ∧ RowV w' v l (rdB n.K Ds)) ∨ (k = 22 ∧ v = .slice none 0 0 ∧ ∃ s, s < n.S ∧ leftN d2 7 5 n 0 s < n.K)) → k = 0 ∧ RowV w' v l z
  rd1 : ∀ {w' : World} {v : Value} {k : Int}, ((k = 0 ∧ ∃ Ds, (∀ s, s < n.S → n.K ≤ leftN d2 7 6 n 1 s ∧ DatS d2 7 6 n 1 s (Ds s)) ∧ RowV w' v l2 (rdB n.K Ds)) ∨ (k = 22 ∧ v = .slice none 0 0 ∧ ∃ s, s < n.S ∧ leftN d2 7 6 n 1 s < n.K)) → (k = 0 ∧ RowV w' v l2 z2) ∨ (k = 22 ∧ v = .slice none 0 0 ∧ e1 = 21)
theorem cnt_zero {b : Nat → Bool} {n : Gn} (h : ∀ j, b j = false) : Enough n b := fun s _ => by
  have e : ∀ k, cntL (fun r => b (s * n.q + r)) k = 0 := fun k => by
    induction k with
    | zero => rfl
    | succ k ih => rw [cntL_no (b := fun r => b (s * n.q + r)) (n := k) (h _)]; exact ih
  rw [e]
  exact Nat.zero_le _
theorem oldF {n : Gn} (hn : n.Ok) {l l2 : Nat} {z z2 : Nat → Nat} (hz : Bytes l z) (hz2 : Bytes l2 z2) (hl : l ≤ n.S * n.K * 228) (hl2 : l2 ≤ n.S * n.K * 228) (die : Int) (m : Nat) (q : Nat → Bool) :
    ∃ d0 dx d1 d2 e1, OldF n l l2 z z2 die m q d0 dx d1 d2 e1 := by
  obtain ⟨g1, g2, _⟩ := snp_first hn (a := 0) (Nat.zero_le 1) 7 1 5 (padZ l z)
  obtain ⟨d0, hd0⟩ : ∃ d0, d0 = (allTo (snpP 7 1 5 n 0 (padZ l z)) (bkD 7 (secsG n)) (n.S * n.q)).d := ⟨_, rfl⟩
  obtain ⟨d1, hd1⟩ : ∃ d1, d1 = (allTo (snpP 7 1 6 n 1 (padZ l2 z2)) (armD d0 die) (n.S * n.q)).d := ⟨_, rfl⟩
  obtain ⟨k1, hu, k2, k3⟩ := snp_old hn 7 1 5 7 1 6 (padZ l z) (padZ l2 z2) die m q hd0 hd1
  have h0 := bkD_lims 7 (secsG n)
  have ht := hn.t2
  have htot : secsG n ≤ 2564 := by
    have := hn.tot2
    unfold Gn.tot Gn.fs Gn.q at this
    unfold secsG
    rw [Nat.mul_assoc]
    exact this
  have L0 := allTo_lim (f := snpP 7 1 5 n 0 (padZ l z)) h0.1 h0.2 (n.S * n.q)
  rw [← hd0] at L0
  have hb : secsG n + 13 * (n.S * n.q) ≤ 200000 := by unfold Gn.q at *; omega
  have Lx : Lim (armD d0 die) 200000 := ⟨Nat.le_trans L0.1.ops hb, Nat.le_trans L0.1.W hb, fun a => Nat.le_trans (L0.1.drops a) (Nat.mul_le_mul_left _ hb)⟩
  have LMx : LimM (armD d0 die) 200000 := fun a => Nat.le_trans (L0.2 a) hb
  have L1 := allTo_lim (f := snpP 7 1 6 n 1 (padZ l2 z2)) Lx LMx (n.S * n.q)
  rw [← hd1] at L1
  have hb1 : 200000 + 13 * (n.S * n.q) ≤ 400000 := by unfold Gn.q at *; omega
  have L2 := ((near_crash d1 m q).lim L1.1 L1.2).1
  refine ⟨d0, armD d0 die, d1, crashD d1 m q, (allTo (snpP 7 1 6 n 1 (padZ l2 z2)) (armD d0 die) (n.S * n.q)).e, ?_⟩
  have hZ : ∀ i, padZ l z i < 256 := fun i => padZ_b hz i
  have hZ2 : ∀ i, padZ l2 z2 i < 256 := fun i => padZ_b hz2 i
  exact {
    eq0 := by rw [hd0, ← g1]
    eqx := rfl
    eq1 := by rw [hd1]
    eq2 := rfl
    lim0 := Lx
    limM0 := LMx
    lim1 := L1.1.mono hb1
    ops := Nat.le_trans L2.ops (by omega)
    W := Nat.le_trans L2.W (by omega)
    live := k1.fine.qt.dead
    rd0 := fun h => by
      rcases h with ⟨rfl, Ds, h1, h2⟩ | ⟨_, _, s, h1, h2⟩
      · refine ⟨rfl, h2.congr fun c hc => ?_⟩
        rw [rd_bytes k1 hn (Nat.zero_le 1) (Nat.le_refl _) ⟨by omega, by omega⟩ ⟨by omega, by omega⟩ ⟨by omega, by omega⟩ hZ h1 (show c < n.S * n.K * 228 by omega)]
        exact if_pos hc
      · have := (rd_enough k1 hn (Nat.zero_le 1) (Nat.le_refl _) ⟨by omega, by omega⟩ ⟨by omega, by omega⟩ ⟨by omega, by omega⟩ hZ).1 (cnt_zero fun _ => rfl) s h1
        omega
    rd1 := fun h => by
      rcases h with ⟨rfl, Ds, h1, h2⟩ | ⟨rfl, rfl, s, h1, h2⟩
      · refine Or.inl ⟨rfl, h2.congr fun c hc => ?_⟩
        rw [rd_bytes k2 hn (Nat.le_refl 1) (Nat.le_refl _) ⟨by omega, by omega⟩ ⟨by omega, by omega⟩ ⟨by omega, by omega⟩ hZ2 h1 (show c < n.S * n.K * 228 by omega)]
        exact if_pos hc
      · refine Or.inr ⟨rfl, rfl, ?_⟩
        rcases k3 with ⟨_, h3⟩ | h3
        · have := (rd_enough k2 hn (Nat.le_refl 1) (Nat.le_refl _) ⟨by omega, by omega⟩ ⟨by omega, by omega⟩ ⟨by omega, by omega⟩ hZ2).1 (cnt_zero h3) s h1
          omega
        · exact h3 }
#print axioms oldF
end Go.Proofs.YtlbdopcchoklhaaGreat
namespace Go.Proofs.YtlbdopcchoklhaaGreat
open Go.RowKit
set_option linter.unusedVariables false
set_option maxRecDepth 100000
set_option linter.unusedSimpArgs false

theorem row_keep {w w' : World} {S : Nat → Prop} {v : Value} {l : Nat} {z : Nat → Nat} (h : RowV w v l z) (k : Ch S w w') (hb : ∀ b, v.ownBlock = some b → ¬ S b) : RowV w' v l z := by
  obtain ⟨A, C, rfl, h2, h3⟩ := h
  refine ⟨A, C, rfl, h2, fun h0 => ?_⟩
  obtain ⟨b, o, rfl, hc⟩ := h3 h0
  exact ⟨b, o, rfl, fun c hcl => ⟨k.cell (hc c hcl).1 (hb b rfl), (hc c hcl).2⟩⟩
set_option maxHeartbeats 12800000 in
theorem snapOld_off (g : Ge) (A B2 A3 : Option Addr) (l C l2 C2 m C3 : Nat) (die : Int) (q : Nat → Bool) (w : World) (hm : m ≤ 9223372036854775807)
    (h : smlB g = false ∨ (smlB g = true ∧ blkOk 7 g = false) ∨ (smlB g = true ∧ blkOk 7 g = true ∧ die < 0) ∨ (smlB g = true ∧ blkOk 7 g = true ∧ 0 ≤ die ∧ (20 : Int) < (m : Int))) :
    Calls Tryz.prog 6 #[.agg (geC g), .slice A l C, .slice B2 l2 C2, .int .i64 die, .slice A3 m C3] w (Told w) := by
  obtain ⟨w1, H, hR⟩ := geR w g
  obtain ⟨x0, x1, x2, x3⟩ := hR.x
  have HR := Lib.hid hR
  have HX := Lib.hid hR.x
  have HUP := Lib.hid (fun w => snawake_any w)
  have HSM := Lib.hid (fun w => small12_any g w)
  have HBK := Lib.hid (fun w => lawBlank_any 7 g w ⟨by omega, by omega⟩)
  obtain ⟨sm, hsm⟩ : ∃ sm, sm = smlB g := ⟨_, rfl⟩
  rw [← hsm] at HSM h
  have HH := Lib.hid h
  clear hR hsm h
  go_enter Tryz.func6, Tryz.ntmps6
  go_wp2_with (first | ((with_reducible refine wpList_isOp (.box 23 (.tmp 0)) rfl ?_); refine wpList_boxing _ w1 rfl 23 (.tmp 0) rfl (geC g) H rfl (by exact HR.out.sz) (by exact HR.out.al) ?_) | fail)
  refine (HUP.out _).mono ?_
  rintro e w2 ⟨rfl, hc2⟩
  have HC2 := Lib.hid (HR.out.ch.trans hc2)
  clear x0 x1 x2 x3
  obtain ⟨x0, x1, x2, x3⟩ := HX.out.gr hc2
  have HX2 := Lib.hid (HX.out.gr hc2)
  clear hc2
  go_wp2_with fail
  refine (HSM.out _).mono ?_
  rintro e w3 ⟨rfl, hc3⟩
  have HC3 := Lib.hid (HC2.out.trans hc3)
  clear x0 x1 x2 x3
  obtain ⟨x0, x1, x2, x3⟩ := HX2.out.gr hc3
  clear hc3
  go_wp2_with fail
  refine (HBK.out _).mono ?_
  rintro e w4 hb
  obtain ⟨D, rfl, hc4, hD⟩ := blkD12 hb
  have HC4 := Lib.hid (HC3.out.trans hc4)
  have HBP := Lib.hid hb
  have HD := Lib.hid hD
  clear hb hc4 hD x0 x1 x2 x3
  rcases HH.out with rfl | ⟨rfl, hf⟩ | ⟨rfl, hf, h1⟩ | ⟨rfl, hf, h1, h2⟩
  · go_wp2
    go_ret
    exact ⟨rfl, HC4.out⟩
  · obtain rfl := HD.out hf
    clear hf
    go_wp2
    go_ret
    exact ⟨rfl, HC4.out⟩
  all_goals (
    obtain ⟨n, hn, rfl⟩ := may_nat (show mayG g = true by unfold blkOk at hf; exact (Bool.and_eq_true_iff.1 hf).1)
    obtain ⟨B, he, _⟩ := HBP.out.2 n hf rfl
    injection he with he
    injection he with he
    subst he
    clear hf hn)
  · go_wp2
    go_ret
    exact ⟨rfl, HC4.out⟩
  · have h3 : ¬ die < 0 := by omega
    go_wp2
    go_ret
    exact ⟨rfl, HC4.out⟩
set_option maxHeartbeats 25600000 in
theorem snapOld_yes (n : Gn) (A B2 A3 : Option Addr) (l C l2 C2 m C3 : Nat) (z z2 : Nat → Nat) (die : Int) (q : Nat → Bool) (w : World) (hn : n.Ok) (hs : smlB n.ge = true) (hb : blkOk 7 n.ge = true) (hS : n.S ≤ 3) (hK : n.K ≤ 4)
    (h1 : RowV w (.slice A l C) l z) (h2 : RowV w (.slice B2 l2 C2) l2 z2) (hd0 : 0 ≤ die) (hd1 : die ≤ 9223372036854775807) (hq : RowQ w (.slice A3 m C3) m q) (hm : m ≤ 20) :
    Calls Tryz.prog 6 #[.agg (geC n.ge), .slice A l C, .slice B2 l2 C2, .int .i64 die, .slice A3 m C3] w (Told w) := by
  obtain ⟨w1, H, hR⟩ := geR w n.ge
  obtain ⟨x0, x1, x2, x3⟩ := hR.x
  have HR := Lib.hid hR
  have HX := Lib.hid hR.x
  have HN := Lib.hid hn
  have HUP := Lib.hid (fun w => snawake_any w)
  have HSM := Lib.hid (fun w => small12_any n.ge w)
  rw [hs] at HSM
  have HBK := Lib.hid (fun w => lawBlank_any 7 n.ge w ⟨by omega, by omega⟩)
  have HBO := Lib.hid hb
  have H1 := Lib.hid h1
  have H2 := Lib.hid h2
  have HQ := Lib.hid hq
  obtain ⟨_, _, _, hl1, _⟩ := id h1
  obtain ⟨_, _, _, hl2, _⟩ := id h2
  have hl1 := hl1.1
  have hl2 := hl2.1
  have l0 : (0 : Int) ≤ (l : Int) := Int.natCast_nonneg _
  have l1 : (l : Int) ≤ 140737488351232 := by omega
  have l20 : (0 : Int) ≤ (l2 : Int) := Int.natCast_nonneg _
  have l21 : (l2 : Int) ≤ 140737488351232 := by omega
  have m0 : (0 : Int) ≤ (m : Int) := Int.natCast_nonneg _
  have m1 : ¬ (20 : Int) < (m : Int) := by omega
  have m2 : (m : Int) ≤ 20 := by omega
  have d0 : ¬ die < 0 := by omega
  have HDI := Lib.hid (show -9223372036854775808 ≤ die ∧ die ≤ 9223372036854775807 from ⟨by omega, hd1⟩)
  obtain ⟨SK, T, hT, hT2, e1, e2⟩ := room12 hS hK
  have HT := Lib.hid hT
  clear hR hs hb hn h1 h2 hq hl1 hl2 hT hS hK hT2 hm hd0 hd1
  go_enter Tryz.func6, Tryz.ntmps6
  go_wp2_with (first | ((with_reducible refine wpList_isOp (.box 23 (.tmp 0)) rfl ?_); refine wpList_boxing _ w1 rfl 23 (.tmp 0) rfl (geC n.ge) H rfl (by exact HR.out.sz) (by exact HR.out.al) ?_) | fail)
  refine (HUP.out _).mono ?_
  rintro e w2 ⟨rfl, hc2⟩
  have HC2 := Lib.hid (HR.out.ch.trans hc2)
  clear x0 x1 x2 x3
  obtain ⟨x0, x1, x2, x3⟩ := HX.out.gr hc2
  have HX2 := Lib.hid (HX.out.gr hc2)
  clear hc2
  go_wp2_with fail
  refine (HSM.out _).mono ?_
  rintro e w3 ⟨rfl, hc3⟩
  have HC3 := Lib.hid (HC2.out.trans hc3)
  clear x0 x1 x2 x3
  obtain ⟨x0, x1, x2, x3⟩ := HX2.out.gr hc3
  have HX3 := Lib.hid (HX2.out.gr hc3)
  clear hc3
  go_wp2_with fail
  refine (HBK.out _).mono ?_
  rintro e w4 hb
  obtain ⟨B, rfl, hO⟩ := hb.2 n HBO.out rfl
  have hO : One w3 B (bkD 7 (secsG n)) w4 := hO
  have h4 : OneX w3 (fun _ => False) B (bkD 7 (secsG n)) w4 := ⟨hO.1, by obtain ⟨p, hp, hd⟩ := hO.2; exact ⟨p, hp, hd, fun i f => f.elim⟩, fun i f => f.elim⟩
  have H4 := Lib.hid h4
  have HC4 := Lib.hid (HC3.out.trans h4.ch)
  clear x0 x1 x2 x3 hb hO
  have x0 : w4.cell? ⟨H, 0, none⟩ = some (.int .i64 (n.W : Int)) := (HX3.out.gr h4.ch).x0
  have x1 : w4.cell? ⟨H, 1, none⟩ = some (.int .i64 (n.S : Int)) := (HX3.out.gr h4.ch).x1
  have x2 : w4.cell? ⟨H, 2, none⟩ = some (.int .i64 (n.K : Int)) := (HX3.out.gr h4.ch).x2
  have x3 : w4.cell? ⟨H, 3, none⟩ = some (.int .i64 (n.M : Int)) := (HX3.out.gr h4.ch).x3
  clear h4
  go_upto_region 6 with fail
  by_cases ht1 : (T : Int) < (l : Int)
  · go_wp2
    go_ret
    exact ⟨rfl, HC4.out⟩
  by_cases ht2 : (T : Int) < (l2 : Int)
  · go_wp2
    go_ret
    exact ⟨rfl, HC4.out⟩
  have HLE := Lib.hid (show l ≤ n.S * n.K * 228 ∧ l2 ≤ n.S * n.K * 228 by rw [← HT.out]; omega)
  obtain ⟨dv0, dvx, dv1, dv2, er1, hof⟩ := oldF HN.out (RowV.bytes H1.out) (RowV.bytes H2.out) HLE.out.1 HLE.out.2 die m q
  have h0 := bkD_lims 7 (secsG n)
  have htot : secsG n ≤ 2564 := by
    have := HN.out.tot2
    unfold Gn.tot Gn.fs Gn.q at this
    unfold secsG
    rw [Nat.mul_assoc]
    exact this
  have hwr := H4.out.snpWrite (vol := 7) (ep := 1) (no := 5) (n := n) (a := 0) HN.out (Nat.zero_le 1) ⟨by omega, by omega⟩ ⟨by omega, by omega⟩ ⟨by omega, by omega⟩ HLE.out.1 (H1.out.gr HC4.out) h0.1 h0.2 (by omega)
  rw [hof.eq0] at hwr
  have HWR := Lib.hid hwr
  have HOF := Lib.hid hof
  clear h0 htot hwr hof
  go_wp2_with fail
  refine HWR.out.mono ?_
  rintro e w5 ⟨rfl, h5, _⟩
  have hat := h5.arm (n := die) HDI.out
  rw [HOF.out.eqx] at hat
  have HAT := Lib.hid hat
  clear hat h5 x0 x1 x2 x3 e1 e2
  go_wp2_with fail
  refine HAT.out.mono ?_
  rintro e w6 ⟨rfl, h6, _⟩
  have x0 : w6.cell? ⟨H, 0, none⟩ = some (.int .i64 (n.W : Int)) := (HX3.out.gr h6.ch).x0
  have x1 : w6.cell? ⟨H, 1, none⟩ = some (.int .i64 (n.S : Int)) := (HX3.out.gr h6.ch).x1
  have x2 : w6.cell? ⟨H, 2, none⟩ = some (.int .i64 (n.K : Int)) := (HX3.out.gr h6.ch).x2
  have x3 : w6.cell? ⟨H, 3, none⟩ = some (.int .i64 (n.M : Int)) := (HX3.out.gr h6.ch).x3
  have hwr := h6.snpWrite (vol := 7) (ep := 1) (no := 6) (n := n) (a := 1) HN.out (Nat.le_refl 1) ⟨by omega, by omega⟩ ⟨by omega, by omega⟩ ⟨by omega, by omega⟩ HLE.out.2 ((H2.out.gr HC3.out).gr h6.ch) HOF.out.lim0 HOF.out.limM0 (by omega)
  rw [HOF.out.eq1] at hwr
  have HW2 := Lib.hid hwr
  clear h6 hwr
  go_wp2_with fail
  refine HW2.out.mono ?_
  rintro e w7 ⟨rfl, h7, _⟩
  have hcr := h7.crash (m := m) (q := q) (HQ.out.gr HC3.out) HOF.out.lim1 (by omega)
  rw [HOF.out.eq2] at hcr
  have HCR := Lib.hid hcr
  clear h7 hcr x0 x1 x2 x3
  go_wp2_with fail
  refine HCR.out.mono ?_
  rintro e w8 ⟨rfl, h8, _⟩
  have h8' := h8
  rw [← opD_self dv2] at h8'
  have hrd := h8'.snpRead (long := l) (vol := 7) (no := 5) (n := n) (a := 0) (by have := HOF.out.ops; omega) (by have := HOF.out.W; omega) HOF.out.live HN.out (Nat.zero_le 1) ⟨by omega, by omega⟩ ⟨by omega, by omega⟩ HLE.out.1
  rw [show ((0 : Nat) : Int) = 0 from rfl] at hrd
  have HRD := Lib.hid hrd
  have x0 : w8.cell? ⟨H, 0, none⟩ = some (.int .i64 (n.W : Int)) := (HX3.out.gr h8.ch).x0
  have x1 : w8.cell? ⟨H, 1, none⟩ = some (.int .i64 (n.S : Int)) := (HX3.out.gr h8.ch).x1
  have x2 : w8.cell? ⟨H, 2, none⟩ = some (.int .i64 (n.K : Int)) := (HX3.out.gr h8.ch).x2
  have x3 : w8.cell? ⟨H, 3, none⟩ = some (.int .i64 (n.M : Int)) := (HX3.out.gr h8.ch).x3
  clear h8 h8' hrd
  go_wp2_with fail
  refine HRD.out.mono ?_
  rintro e w9 ⟨c9, v9, k9, hc9, rfl, h9, kk9, hlo9, hres⟩
  obtain ⟨rfl, row9⟩ := HOF.out.rd0 hres
  obtain ⟨A9, C9, rfl, _⟩ := id row9
  have hrd := h9.snpRead (long := l2) (vol := 7) (no := 6) (n := n) (a := 1) (by have h1 := HOF.out.ops; have h2 := HN.out.t2; have h3 : n.S * n.q ≤ 768 := h2; omega) (by have := HOF.out.W; omega) HOF.out.live HN.out (Nat.le_refl 1) ⟨by omega, by omega⟩ ⟨by omega, by omega⟩ HLE.out.2
  rw [show ((1 : Nat) : Int) = 1 from rfl] at hrd
  have HRD2 := Lib.hid hrd
  have HR9 := Lib.hid row9
  have HO9 := Lib.hid h9
  clear x0 x1 x2 x3
  have x0 : w9.cell? ⟨H, 0, none⟩ = some (.int .i64 (n.W : Int)) := (HX3.out.gr h9.ch).x0
  have x1 : w9.cell? ⟨H, 1, none⟩ = some (.int .i64 (n.S : Int)) := (HX3.out.gr h9.ch).x1
  have x2 : w9.cell? ⟨H, 2, none⟩ = some (.int .i64 (n.K : Int)) := (HX3.out.gr h9.ch).x2
  have x3 : w9.cell? ⟨H, 3, none⟩ = some (.int .i64 (n.M : Int)) := (HX3.out.gr h9.ch).x3
  clear hrd h9 kk9 hlo9 hres hc9 row9
  go_wp2_with fail
  refine HRD2.out.mono ?_
  rintro e w10 ⟨c10, v10, k10, hc10, rfl, h10, kk10, hlo10, hres⟩
  have HC10 := Lib.hid (HC3.out.trans h10.ch)
  have r9 := row_keep HR9.out kk10 fun b e q => q.2 (Or.inr e)
  have hsa := same_any A9 A l l C9 C z z w10 r9 (H1.out.gr HC10.out)
  rw [show eqB l l z z = true from eqB_self l z] at hsa
  have HSA := Lib.hid hsa
  have HRS := Lib.hid (HOF.out.rd1 hres)
  have hln : ∃ A10 n10 C10 z10, v10 = .slice A10 n10 C10 ∧ RowV w10 (.slice A10 n10 C10) n10 z10 ∧ (k10 = 0 → eqB n10 l2 z10 z2 = true) := by
    rcases HRS.out with ⟨h1, h2⟩ | ⟨h1, h2, _⟩
    · obtain ⟨A10, C10, h3, h4⟩ := id h2
      exact ⟨A10, l2, C10, z2, h3, by rw [← h3]; exact h2, fun _ => eqB_self l2 z2⟩
    · exact ⟨none, 0, 0, fun _ => 0, h2, nil_row w10 _, fun h => by rw [h1] at h; cases h⟩
  obtain ⟨A10, n10, C10, z10, rfl, r10, heq⟩ := hln
  have HR10 := Lib.hid r10
  have HEQ := Lib.hid heq
  have HK10 : Hid (k10 = 0 ∨ (k10 = 22 ∧ er1 = 21)) := Lib.hid (by
    rcases HRS.out with ⟨h1, _⟩ | ⟨h1, _, h2⟩
    · exact Or.inl h1
    · exact Or.inr ⟨h1, h2⟩)
  clear r9 hsa h10 kk10 hlo10 hres hc10 r10 heq x0 x1 x2 x3
  go_wp2_with fail
  refine HSA.out.mono ?_
  rintro e w11 ⟨rfl, nq, hw11⟩
  have hc11 : Ch (fun _ => False) w10 w11 := by rw [hw11]; exact (Ch.refl _ w10).drewN nq
  have HC11 := Lib.hid (HC10.out.trans hc11)
  have HSB := Lib.hid (same_any A10 B2 n10 l2 C10 C2 z10 z2 w11 (HR10.out.gr hc11) (H2.out.gr HC11.out))
  obtain ⟨bb, hbb⟩ : ∃ bb, bb = eqB n10 l2 z10 z2 := ⟨_, rfl⟩
  rw [← hbb] at HSB HEQ
  clear hw11 hc11 hbb
  go_wp2_with fail
  refine HSB.out.mono ?_
  rintro e w12 ⟨rfl, nq2, hw12⟩
  have HC12 := Lib.hid (show Ch (fun _ => False) w w12 by rw [hw12]; exact HC11.out.trans ((Ch.refl (fun _ => False) w11).drewN nq2))
  clear hw12
  rcases HK10.out with rfl | ⟨rfl, rfl⟩
  · obtain rfl := HEQ.out rfl
    go_wp2
    go_ret
    exact ⟨rfl, HC12.out⟩
  · go_wp2
    go_ret
    exact ⟨rfl, HC12.out⟩
theorem snapOld_of (g : Ge) (v1 v2 : Value) (die : Int) (vq : Value) (w : World) {l1 : Nat} {z1 : Nat → Nat} {l2 : Nat} {z2 : Nat → Nat} {m : Nat} {q : Nat → Bool} (h1 : RowV w v1 l1 z1) (h2 : RowV w v2 l2 z2) (hd : -9223372036854775808 ≤ die ∧ die ≤ 9223372036854775807) (hq : RowQ w vq m q) : Calls Tryz.prog 6 #[.agg (geC g), v1, v2, .int .i64 die, vq] w (Told w) := by
  obtain ⟨A, C, rfl, _⟩ := id h1
  obtain ⟨B2, C2, rfl, _⟩ := id h2
  obtain ⟨A3, C3, rfl, hm⟩ := id hq
  have hm := hm.1
  cases hs : smlB g with
  | false => exact snapOld_off g A B2 A3 l1 C l2 C2 m C3 die q w (by omega) (Or.inl hs)
  | true =>
    cases hb : blkOk 7 g with
    | false => exact snapOld_off g A B2 A3 l1 C l2 C2 m C3 die q w (by omega) (Or.inr (Or.inl ⟨hs, hb⟩))
    | true =>
      by_cases h3 : die < 0
      · exact snapOld_off g A B2 A3 l1 C l2 C2 m C3 die q w (by omega) (Or.inr (Or.inr (Or.inl ⟨hs, hb, h3⟩)))
      by_cases h4 : (20 : Int) < (m : Int)
      · exact snapOld_off g A B2 A3 l1 C l2 C2 m C3 die q w (by omega) (Or.inr (Or.inr (Or.inr ⟨hs, hb, by omega, h4⟩)))
      obtain ⟨n, hn, rfl, hS, hK, _, _⟩ := sml12 hs hb
      exact snapOld_yes n A B2 A3 l1 C l2 C2 m C3 z1 z2 die q w hn hs hb hS hK h1 h2 (by omega) hd.2 hq (by omega)
#print axioms snapOld_of
end Go.Proofs.YtlbdopcchoklhaaGreat
