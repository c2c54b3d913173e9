/-
  The document's Follow (quartermasterref11), where something may not be: no tail, and ErrArg. law11's few and small: how long a row of rows, and each of them, may be. What stands in a log's slots, and what is told of it: in plain words. What a ring appends, and that it is told again: in plain words.
-/
import Derived.Test.YteleknojohnlbaaGreatMk44
import Derived.Test.YteleknojohnlbaaGreatMk33
import Derived.Test.YteleknojohnlbaaGreatMk15
import Derived.Test.YteleknojohnlbaaGreatMk32
import Derived.Test.YteleknojohnlbaaGreatMk43
namespace Go.Proofs.YteleknojohnlbaaGreat
open Go.RowKit
set_option linter.unusedVariables false
set_option maxRecDepth 100000
set_option linter.unusedSimpArgs false
theorem words_fol (vol start chain : Int) : wordsTo (wordsF vol start chain) 3 = (wordS vol && (wordS start && wordS chain)) := by
  show (((true && wordS vol) && wordS start) && wordS chain) = _
  rw [Bool.true_and, Bool.and_assoc]
set_option maxHeartbeats 12800000 in
theorem r11follow_no (A0 A1 : Option Addr) (n0 n1 C0 C1 : Nat) (vol start chain : Int) (g : Ge) (w : World) (h : okF vol g start chain n0 n1 = false) :
    Calls Tryz.prog 22 #[.slice A0 n0 C0, .slice A1 n1 C1, .int .i64 vol, .agg (geC g), .int .i64 start, .int .i64 chain] w (FolNo w) := by
  obtain ⟨w1, G, hG⟩ := geR w g
  obtain ⟨w2, T, hT⟩ := boxR w1 (tlC tl0 0 (.slice none 0 0)) 40
  have hok : okF vol g start chain n0 n1 = (mayG g && ((wordS vol && (wordS start && wordS chain)) && (decide ((n0 : Int) = g.wal) && decide ((n1 : Int) = g.wal)))) := by unfold okF; rw [words_fol]
  rw [hok] at h
  have HNO := Lib.hid h
  have HG := Lib.hid hG
  have HT := Lib.hid hT
  obtain ⟨x0, x1, x2, x3⟩ := hG.x.gr hT.ch
  have HFN : Hid (∀ w4, Ch (fun _ => False) w2 w4 → ∃ w9, StTl w4 w9 T tl0 0 (.slice none 0 0) ∧ FolNo w (.returned (.tuple #[.agg (tlC tl0 0 (.slice none 0 0)), .int .i64 1])) w9) := Lib.hid fun w4 k => by
    obtain ⟨w9, h9⟩ := stTl tl0 0 ((k.block T (blk_lt hT.cx) (fun f => f)).trans hT.cx) slV_nil
    exact ⟨w9, h9, rfl, ((hG.ch.trans hT.ch).trans k).new (h9.ch.mono fun i _ hi => by rw [hi, ← hT.sz]; exact hG.ch.size)⟩
  have HMY := Lib.hid (rgmay_any g w2)
  clear hG hT h hok
  cases t0 : mayG g
  · rw [t0] at HMY
    clear t0 HNO
    go_enter Tryz.func22, Tryz.ntmps22
    go_wp2_with (first
        | ((with_reducible refine wpList_isOp (.box 23 (.tmp 3)) rfl ?_); refine wpList_boxing _ w1 rfl 23 (.tmp 3) rfl (geC g) G rfl (by exact HG.out.sz) (by exact HG.out.al) ?_)
        | ((with_reducible refine wpList_isOp (.alloc 40) rfl ?_); refine wpList_making _ w2 rfl 40 rfl (tlC tl0 0 (.slice none 0 0)) T (zero_tl _) (by exact HT.out.sz) (by exact HT.out.al) ?_)
        | (go_at_call 38; refine HMY.out.mono ?_; rintro e w4 ⟨rfl, hc4⟩; have y0 := hc4.cell x0 (fun f => f); obtain ⟨w9, h9, hp9⟩ := HFN.out w4 hc4; have H9 := Lib.hid h9; have HP9 := Lib.hid hp9; have HBT := Lib.hid (built_tl0 w4); clear h9 hp9)
        | (go_at_call 44; refine (w11_any _ _).mono ?_; rintro e w' ⟨rfl, rfl⟩)
        | ((with_reducible refine wpList_isOp (.build 40 #[]) rfl ?_); refine wpList_building _ rfl 40 #[] rfl _ (by exact HBT.out) ?_)
        | ((with_reducible refine wpList_isOp (.store 40 (.tmp 12) (.tmp 63)) rfl ?_); refine wpList_storing _ w9 rfl 40 (.tmp 12) (.tmp 63) rfl (.agg (tlC tl0 0 (.slice none 0 0))) ⟨T, 0, none⟩ rfl rfl (by exact H9.out.st) ?_)
        | fail)
    exact bodyPost_ret (v := .tuple #[.agg (tlC tl0 0 (.slice none 0 0)), .int .i64 1]) (results_tl Tryz.results22 _ _ T tl0 0 (.slice none 0 0) (.int .i64 1) (by kernel_rfl) (by kernel_rfl) H9.out.cx) rfl HP9.out
  rw [t0] at HMY
  cases t1 : wordS vol
  · clear HNO t0
    go_enter Tryz.func22, Tryz.ntmps22
    go_wp2_with (first
        | ((with_reducible refine wpList_isOp (.box 23 (.tmp 3)) rfl ?_); refine wpList_boxing _ w1 rfl 23 (.tmp 3) rfl (geC g) G rfl (by exact HG.out.sz) (by exact HG.out.al) ?_)
        | ((with_reducible refine wpList_isOp (.alloc 40) rfl ?_); refine wpList_making _ w2 rfl 40 rfl (tlC tl0 0 (.slice none 0 0)) T (zero_tl _) (by exact HT.out.sz) (by exact HT.out.al) ?_)
        | (go_at_call 38; refine HMY.out.mono ?_; rintro e w4 ⟨rfl, hc4⟩; have y0 := hc4.cell x0 (fun f => f); obtain ⟨w9, h9, hp9⟩ := HFN.out w4 hc4; have H9 := Lib.hid h9; have HP9 := Lib.hid hp9; have HBT := Lib.hid (built_tl0 w4); clear h9 hp9)
        | (go_at_call 44; refine (w11_any _ _).mono ?_; rintro e w' ⟨rfl, rfl⟩)
        | ((with_reducible refine wpList_isOp (.build 40 #[]) rfl ?_); refine wpList_building _ rfl 40 #[] rfl _ (by exact HBT.out) ?_)
        | ((with_reducible refine wpList_isOp (.store 40 (.tmp 12) (.tmp 63)) rfl ?_); refine wpList_storing _ w9 rfl 40 (.tmp 12) (.tmp 63) rfl (.agg (tlC tl0 0 (.slice none 0 0))) ⟨T, 0, none⟩ rfl rfl (by exact H9.out.st) ?_)
        | fail)
    exact bodyPost_ret (v := .tuple #[.agg (tlC tl0 0 (.slice none 0 0)), .int .i64 1]) (results_tl Tryz.results22 _ _ T tl0 0 (.slice none 0 0) (.int .i64 1) (by kernel_rfl) (by kernel_rfl) H9.out.cx) rfl HP9.out
  cases t2 : wordS start
  · clear HNO t0
    go_enter Tryz.func22, Tryz.ntmps22
    go_wp2_with (first
        | ((with_reducible refine wpList_isOp (.box 23 (.tmp 3)) rfl ?_); refine wpList_boxing _ w1 rfl 23 (.tmp 3) rfl (geC g) G rfl (by exact HG.out.sz) (by exact HG.out.al) ?_)
        | ((with_reducible refine wpList_isOp (.alloc 40) rfl ?_); refine wpList_making _ w2 rfl 40 rfl (tlC tl0 0 (.slice none 0 0)) T (zero_tl _) (by exact HT.out.sz) (by exact HT.out.al) ?_)
        | (go_at_call 38; refine HMY.out.mono ?_; rintro e w4 ⟨rfl, hc4⟩; have y0 := hc4.cell x0 (fun f => f); obtain ⟨w9, h9, hp9⟩ := HFN.out w4 hc4; have H9 := Lib.hid h9; have HP9 := Lib.hid hp9; have HBT := Lib.hid (built_tl0 w4); clear h9 hp9)
        | (go_at_call 44; refine (w11_any _ _).mono ?_; rintro e w' ⟨rfl, rfl⟩)
        | ((with_reducible refine wpList_isOp (.build 40 #[]) rfl ?_); refine wpList_building _ rfl 40 #[] rfl _ (by exact HBT.out) ?_)
        | ((with_reducible refine wpList_isOp (.store 40 (.tmp 12) (.tmp 63)) rfl ?_); refine wpList_storing _ w9 rfl 40 (.tmp 12) (.tmp 63) rfl (.agg (tlC tl0 0 (.slice none 0 0))) ⟨T, 0, none⟩ rfl rfl (by exact H9.out.st) ?_)
        | fail)
    exact bodyPost_ret (v := .tuple #[.agg (tlC tl0 0 (.slice none 0 0)), .int .i64 1]) (results_tl Tryz.results22 _ _ T tl0 0 (.slice none 0 0) (.int .i64 1) (by kernel_rfl) (by kernel_rfl) H9.out.cx) rfl HP9.out
  cases t3 : wordS chain
  · clear HNO t0
    go_enter Tryz.func22, Tryz.ntmps22
    go_wp2_with (first
        | ((with_reducible refine wpList_isOp (.box 23 (.tmp 3)) rfl ?_); refine wpList_boxing _ w1 rfl 23 (.tmp 3) rfl (geC g) G rfl (by exact HG.out.sz) (by exact HG.out.al) ?_)
        | ((with_reducible refine wpList_isOp (.alloc 40) rfl ?_); refine wpList_making _ w2 rfl 40 rfl (tlC tl0 0 (.slice none 0 0)) T (zero_tl _) (by exact HT.out.sz) (by exact HT.out.al) ?_)
        | (go_at_call 38; refine HMY.out.mono ?_; rintro e w4 ⟨rfl, hc4⟩; have y0 := hc4.cell x0 (fun f => f); obtain ⟨w9, h9, hp9⟩ := HFN.out w4 hc4; have H9 := Lib.hid h9; have HP9 := Lib.hid hp9; have HBT := Lib.hid (built_tl0 w4); clear h9 hp9)
        | (go_at_call 44; refine (w11_any _ _).mono ?_; rintro e w' ⟨rfl, rfl⟩)
        | ((with_reducible refine wpList_isOp (.build 40 #[]) rfl ?_); refine wpList_building _ rfl 40 #[] rfl _ (by exact HBT.out) ?_)
        | ((with_reducible refine wpList_isOp (.store 40 (.tmp 12) (.tmp 63)) rfl ?_); refine wpList_storing _ w9 rfl 40 (.tmp 12) (.tmp 63) rfl (.agg (tlC tl0 0 (.slice none 0 0))) ⟨T, 0, none⟩ rfl rfl (by exact H9.out.st) ?_)
        | fail)
    exact bodyPost_ret (v := .tuple #[.agg (tlC tl0 0 (.slice none 0 0)), .int .i64 1]) (results_tl Tryz.results22 _ _ T tl0 0 (.slice none 0 0) (.int .i64 1) (by kernel_rfl) (by kernel_rfl) H9.out.cx) rfl HP9.out
  by_cases q0 : (n0 : Int) = g.wal
  · have q1 : ¬ (n1 : Int) = g.wal := fun e => by
      have := HNO.out
      rw [t0, t1, t2, t3, decide_eq_true q0, decide_eq_true e] at this
      cases this
    have t4 : ((n0 : Int) != g.wal) = false := by simpa using q0
    have t5 : ((n1 : Int) != g.wal) = true := by simpa using q1
    clear q0 q1 HNO t0
    go_enter Tryz.func22, Tryz.ntmps22
    go_wp2_with (first
        | ((with_reducible refine wpList_isOp (.box 23 (.tmp 3)) rfl ?_); refine wpList_boxing _ w1 rfl 23 (.tmp 3) rfl (geC g) G rfl (by exact HG.out.sz) (by exact HG.out.al) ?_)
        | ((with_reducible refine wpList_isOp (.alloc 40) rfl ?_); refine wpList_making _ w2 rfl 40 rfl (tlC tl0 0 (.slice none 0 0)) T (zero_tl _) (by exact HT.out.sz) (by exact HT.out.al) ?_)
        | (go_at_call 38; refine HMY.out.mono ?_; rintro e w4 ⟨rfl, hc4⟩; have y0 := hc4.cell x0 (fun f => f); obtain ⟨w9, h9, hp9⟩ := HFN.out w4 hc4; have H9 := Lib.hid h9; have HP9 := Lib.hid hp9; have HBT := Lib.hid (built_tl0 w4); clear h9 hp9)
        | (go_at_call 44; refine (w11_any _ _).mono ?_; rintro e w' ⟨rfl, rfl⟩)
        | ((with_reducible refine wpList_isOp (.build 40 #[]) rfl ?_); refine wpList_building _ rfl 40 #[] rfl _ (by exact HBT.out) ?_)
        | ((with_reducible refine wpList_isOp (.store 40 (.tmp 12) (.tmp 63)) rfl ?_); refine wpList_storing _ w9 rfl 40 (.tmp 12) (.tmp 63) rfl (.agg (tlC tl0 0 (.slice none 0 0))) ⟨T, 0, none⟩ rfl rfl (by exact H9.out.st) ?_)
        | fail)
    exact bodyPost_ret (v := .tuple #[.agg (tlC tl0 0 (.slice none 0 0)), .int .i64 1]) (results_tl Tryz.results22 _ _ T tl0 0 (.slice none 0 0) (.int .i64 1) (by kernel_rfl) (by kernel_rfl) H9.out.cx) rfl HP9.out
  · have t4 : ((n0 : Int) != g.wal) = true := by simpa using q0
    clear q0 HNO t0
    go_enter Tryz.func22, Tryz.ntmps22
    go_wp2_with (first
        | ((with_reducible refine wpList_isOp (.box 23 (.tmp 3)) rfl ?_); refine wpList_boxing _ w1 rfl 23 (.tmp 3) rfl (geC g) G rfl (by exact HG.out.sz) (by exact HG.out.al) ?_)
        | ((with_reducible refine wpList_isOp (.alloc 40) rfl ?_); refine wpList_making _ w2 rfl 40 rfl (tlC tl0 0 (.slice none 0 0)) T (zero_tl _) (by exact HT.out.sz) (by exact HT.out.al) ?_)
        | (go_at_call 38; refine HMY.out.mono ?_; rintro e w4 ⟨rfl, hc4⟩; have y0 := hc4.cell x0 (fun f => f); obtain ⟨w9, h9, hp9⟩ := HFN.out w4 hc4; have H9 := Lib.hid h9; have HP9 := Lib.hid hp9; have HBT := Lib.hid (built_tl0 w4); clear h9 hp9)
        | (go_at_call 44; refine (w11_any _ _).mono ?_; rintro e w' ⟨rfl, rfl⟩)
        | ((with_reducible refine wpList_isOp (.build 40 #[]) rfl ?_); refine wpList_building _ rfl 40 #[] rfl _ (by exact HBT.out) ?_)
        | ((with_reducible refine wpList_isOp (.store 40 (.tmp 12) (.tmp 63)) rfl ?_); refine wpList_storing _ w9 rfl 40 (.tmp 12) (.tmp 63) rfl (.agg (tlC tl0 0 (.slice none 0 0))) ⟨T, 0, none⟩ rfl rfl (by exact H9.out.st) ?_)
        | fail)
    exact bodyPost_ret (v := .tuple #[.agg (tlC tl0 0 (.slice none 0 0)), .int .i64 1]) (results_tl Tryz.results22 _ _ T tl0 0 (.slice none 0 0) (.int .i64 1) (by kernel_rfl) (by kernel_rfl) H9.out.cx) rfl HP9.out
end Go.Proofs.YteleknojohnlbaaGreat
namespace Go.Proofs.YteleknojohnlbaaGreat
open Go.RowKit
set_option linter.unusedVariables false
set_option maxRecDepth 100000
set_option linter.unusedSimpArgs false
def fewTo (N : Nat → Nat) (t : Nat) : Nat → Bool
  | 0 => true
  | k + 1 => fewTo N t k && decide (N k ≤ t)
theorem fewTo_false {N : Nat → Nat} {t k n : Nat} (hk : k < n) (h : ¬ N k ≤ t) : fewTo N t n = false := by
  induction n with
  | zero => omega
  | succ n ih =>
    show (fewTo N t n && decide (N n ≤ t)) = false
    by_cases e : k = n
    · subst e; rw [decide_eq_false h, Bool.and_false]
    · rw [ih (by omega), Bool.false_and]
set_option maxHeartbeats 3200000 in
theorem few_any (A : Option Addr) (n C : Nat) (N : Nat → Nat) (w : World) (h : LsV w A n C N) : Calls Tryz.prog 20 #[.slice A n C] w fun e w' => e = .returned (.bool (if n ≤ 40 then fewTo N 300 n else false)) ∧ w = w' := by
  have hle := h.le
  by_cases q : n ≤ 40
  · have HE := Lib.hid (show (if n ≤ 40 then fewTo N 300 n else false) = fewTo N 300 n from if_pos q)
    have t0 : ¬ (40 : Int) < (n : Int) := by omega
    have HV := Lib.hid h
    have HQ := Lib.hid q
    clear h q
    go_enter Tryz.func20, Tryz.ntmps20
    go_wp2
    go_loopw [2, 3] (fun r i wr => ∃ k : Nat, k ≤ n ∧ i = .int .i64 k ∧ wr = w ∧ Hid (fewTo N 300 k = true)) (fun r i _ => n - (intOf i).toNat)
    case atStart => exact ⟨0, Nat.zero_le _, rfl, rfl, Lib.hid rfl⟩
    case round =>
      obtain ⟨k, hk, rfl, rfl, HT⟩ := hrel
      by_cases hlt : k < n
      · obtain ⟨b, o, rfl, hc⟩ := HV.out.at' (by omega)
        obtain ⟨A', C', h1, h2⟩ := hc k hlt
        have hNle := h2
        obtain ⟨Nk, hN⟩ : ∃ Nk, Nk = N k := ⟨_, rfl⟩
        rw [← hN] at h1 hNle
        have HNk := Lib.hid hN
        have i1 : (0 : Int) ≤ (k : Int) := Int.natCast_nonneg _
        have i2 : (k : Int) < (n : Int) := by omega
        have n3 : wrap64 ((k : Int) + 1) = ((k + 1 : Nat) : Int) := by rw [IntWalk.wrap64_in _ ⟨by omega, by omega⟩]; omega
        have HLT := Lib.hid hlt
        clear hc h2 hN
        by_cases r : Nk ≤ 300
        · have t1 : ¬ (300 : Int) < (Nk : Int) := by omega
          have HT2 := Lib.hid (show fewTo N 300 (k + 1) = true by show (fewTo N 300 k && decide (N k ≤ 300)) = true; rw [HT.out, ← HNk.out, decide_eq_true r]; rfl)
          clear r
          go_wp2
          go_roundw
          case rel => exact ⟨k + 1, HLT.out, by simp, by trivial, HT2⟩
          case measure => show n - ((k : Int) + 1).toNat < n - (k : Int).toNat; have := HLT.out; omega
        · have t1 : (300 : Int) < (Nk : Int) := by omega
          have HN := Lib.hid (show fewTo N 300 n = false from fewTo_false HLT.out (by rw [← HNk.out]; exact r))
          clear r
          go_wp2
          go_ret
          exact ⟨ret_bool HN.out.symm, rfl⟩
      · have hkn : k = n := by omega
        subst hkn
        go_wp2
        go_ret
        exact ⟨ret_bool HT.out.symm, rfl⟩
  · have HE := Lib.hid (show (if n ≤ 40 then fewTo N 300 n else false) = false from if_neg q)
    have t0 : (40 : Int) < (n : Int) := by omega
    clear h q
    go_enter Tryz.func20, Tryz.ntmps20
    go_wp2
    go_ret
    exact ⟨ret_bool rfl, rfl⟩
end Go.Proofs.YteleknojohnlbaaGreat
namespace Go.Proofs.YteleknojohnlbaaGreat
open Go.RowKit
set_option linter.unusedVariables false
set_option maxRecDepth 100000
theorem tells_one {n : Nat} {z : Nat → Nat} {vol vol' : Int} {g g' : Ge} {mir mir' slot slot' : Int} {p q : Pn} (h1 : TellsR n z vol g mir slot p) (h2 : TellsR n z vol' g' mir' slot' q) : p = q := by
  obtain ⟨Y, hYe⟩ : ∃ Y : Pn → Prop, Y = fun y => ∃ vol g mir slot, TellsR n z vol g mir slot y := ⟨_, rfl⟩
  have hY : ∀ y, Y y → ∃ vol g mir slot, TellsR n z vol g mir slot y := fun y hy => by rw [hYe] at hy; exact hy
  have hM : ∀ y, Y y → mayP y = true := fun y hy => by obtain ⟨_, _, _, _, h⟩ := hY y hy; exact h.may
  have yp : Y p := by rw [hYe]; exact ⟨_, _, _, _, h1⟩
  have yq : Y q := by rw [hYe]; exact ⟨_, _, _, _, h2⟩
  have b0 := BackR.first hY undef
  obtain ⟨k0, e0, r0⟩ := Cod.rd_some (openB n z undef).len (openB n z undef).z
  obtain ⟨b1, f0⟩ := b0.next (by omega) hM r0
  obtain ⟨k1, e1, r1⟩ := Cod.rd_some _ _
  obtain ⟨b2, f1⟩ := b1.next (by omega) hM r1
  obtain ⟨k2, e2, r2⟩ := Cod.rd_some _ _
  obtain ⟨b3, f2⟩ := b2.next (by omega) hM r2
  obtain ⟨k3, e3, r3⟩ := Cod.rd_some _ _
  obtain ⟨b4, f3⟩ := b3.next (by omega) hM r3
  obtain ⟨k4, e4, r4⟩ := Cod.rd_some _ _
  have f4 := b4.last hM r4
  have s1 := h1.back undef
  have s2 := h2.back undef
  obtain ⟨ps, pe, pf, pcn, pi, po, pB⟩ := p
  obtain ⟨qs, qe, qf, qcn, qi, qo, qB⟩ := q
  have a1 : ps = qs := s1.seq.symm.trans s2.seq
  have a2 : pe = qe := s1.epoch.symm.trans s2.epoch
  have a3 : pf = qf := (f0 _ yp).2.symm.trans (f0 _ yq).2
  have a4 : pcn = qcn := (f1 _ yp).2.symm.trans (f1 _ yq).2
  have a5 : pi = qi := (f2 _ yp).2.symm.trans (f2 _ yq).2
  have a6 : po = qo := (f3 _ yp).2.symm.trans (f3 _ yq).2
  have a7 : pB = qB := (f4 _ yp).2.symm.trans (f4 _ yq).2
  rw [a1, a2, a3, a4, a5, a6, a7]
inductive Ct where
  | free
  | pc (q : Pn)
  | bad
def fbk (vol a : Int) : Bk := ⟨1, vol, a, 0, 0, undef, 0, fun _ => 0⟩
theorem fbk_may {vol a : Int} (hv : 0 ≤ vol ∧ vol ≤ 4294967295) (ha : 0 ≤ a ∧ a ≤ 4294967295) : mayB (fbk vol a) = true := by
  refine mayB_iff.2 ⟨⟨by show 1 ≤ (1 : Int) ∧ (1 : Int) ≤ 4; omega, hv, ha, by show 0 ≤ (0 : Int) ∧ (0 : Int) ≤ _; omega, by show 0 ≤ (0 : Int) ∧ (0 : Int) ≤ _; omega⟩, ?_⟩
  exact Nat.zero_le _
def ShowsC (vol : Int) (g : Ge) (mir slot : Int) (n : Nat) (z : Nat → Nat) : Ct → Prop
  | .free => n = 256 ∧ ∀ c, c < 256 → z c = sectZ (fbk vol (addrR g mir slot)) c
  | .pc q => TellsR n z vol g mir slot q
  | .bad => opensB n z = false
def tel : Ct → Option Pn
  | .pc q => some q
  | _ => none
def clC : Ct → Bool
  | .bad => false
  | _ => true
theorem shows_tell {vol : Int} {g : Ge} {mir slot : Int} {n : Nat} {z : Nat → Nat} {ct : Ct} (hv : 0 ≤ vol ∧ vol ≤ 4294967295) (ha : 0 ≤ addrR g mir slot ∧ addrR g mir slot ≤ 4294967295) (h : ShowsC vol g mir slot n z ct) : TellR n z vol g mir slot (tel ct) := by
  intro y
  cases ct with
  | free =>
    refine ⟨fun e => (by cases e), fun hy => ?_⟩
    obtain ⟨rfl, hz⟩ := h
    have h1 := (hy.back undef).kind
    have h2 := ((readB_at hz undef undef).trans (Go.Proofs.YteleknojohnlbaaGreat.back (fbk_may hv ha) undef)).kind
    rw [h2] at h1
    exact absurd h1 (by show ¬ (1 : Int) = 3; decide)
  | pc q =>
    refine ⟨fun e => by cases e; exact h, fun hy => ?_⟩
    have h' : TellsR n z vol g mir slot q := h
    have s1 := h'.back undef
    have s2 := hy.back undef
    -- the same sector tells the same piece
    exact congrArg some (tells_one h' hy)
  | bad =>
    refine ⟨fun e => (by cases e), fun hy => ?_⟩
    have h' : opensB n z = false := h
    rw [hy.opens] at h'
    cases h'
theorem shows_clean {vol : Int} {g : Ge} {mir slot : Int} {n : Nat} {z : Nat → Nat} {ct : Ct} (hv : 0 ≤ vol ∧ vol ≤ 4294967295) (ha : 0 ≤ addrR g mir slot ∧ addrR g mir slot ≤ 4294967295) (h : ShowsC vol g mir slot n z ct) : cleanB n z vol (addrR g mir slot) = clC ct := by
  cases ct with
  | free =>
    obtain ⟨rfl, hz⟩ := h
    have s := (readB_at hz undef undef).trans (Go.Proofs.YteleknojohnlbaaGreat.back (fbk_may hv ha) undef)
    refine clean_yes ?_ s.vol s.addr
    rw [opensB_eq hz]
    exact opensB_own (fbk_may hv ha)
  | pc q => exact clean_tells h
  | bad => exact clean_no h
structure LogM (m : Mi) (C : Nat → Nat → Ct) : Prop where
  ok : m.g.Ok
  vol : 0 ≤ m.vol ∧ m.vol ≤ 4294967295
  shows : ∀ c s : Nat, c < 2 → s < m.g.W → ShowsC m.vol m.g.ge (c : Int) (s : Int) (m.N c s) (m.Z c s) (C c s)
theorem adr_ok {g : Gn} (h : g.Ok) {c s : Nat} (hc : c < 2) (hs : s < g.W) : 0 ≤ addrR g.ge (c : Int) (s : Int) ∧ addrR g.ge (c : Int) (s : Int) ≤ 4294967295 := by
  have h1 := addr_in (ok_may h) (mir := (c : Int)) (s := (s : Int)) ⟨by omega, by omega⟩ ⟨by omega, by show (s : Int) < (g.W : Int); omega⟩
  omega
section
variable {m : Mi} {C : Nat → Nat → Ct}
theorem LogM.slot (h : LogM m C) (s : Nat) : s % m.g.W < m.g.W := Nat.mod_lt _ (by have := h.ok.w1; omega)
theorem LogM.oF (h : LogM m C) (s : Nat) {c : Nat} (hc : c < 2) : Go.Proofs.YteleknojohnlbaaGreat.oF m s c = tel (C c (s % m.g.W)) :=
  (oF_eq (shows_tell h.vol (adr_ok h.ok hc (h.slot s)) (h.shows c _ hc (h.slot s)))).symm
def cdC (W : Nat) (C : Nat → Nat → Ct) (s : Nat) : List Pn := candR (atS (tel (C 0 (s % W))) (s : Int)) (atS (tel (C 1 (s % W))) (s : Int))
def clS (C : Nat → Nat → Ct) (q : Nat) : Bool := clC (C 0 q) || clC (C 1 q)
theorem LogM.cd (h : LogM m C) (s : Nat) : cdM m s = cdC m.g.W C s := by
  unfold cdM cdC
  rw [h.oF s (by omega), h.oF s (by omega)]
theorem LogM.cl (h : LogM m C) {q : Nat} (hq : q < m.g.W) : clM m q = clS C q := by
  have e0 := shows_clean h.vol (adr_ok h.ok (c := 0) (by omega) hq) (h.shows 0 q (by omega) hq)
  have e1 := shows_clean h.vol (adr_ok h.ok (c := 1) (by omega) hq) (h.shows 1 q (by omega) hq)
  unfold clM clS cleanM
  rw [e0, e1]
-- h.vol (adr_ok h.ok (c := 0) (by omega) hq) (h.shows 0 q (by omega) hq), shows_clean h.vol (adr_ok h.ok (c := 1) (by omega) hq) (h.shows 1 q (by omega) hq)]
end
def endA : Pn → List Pn → Pn
  | a, [] => a
  | _, p :: P => endA p P
def endS (sm : Pn → Int) : Int → List Pn → Int
  | s, [] => s
  | _, p :: P => endS sm (sm p) P
theorem endA_app (a : Pn) : ∀ (P Q : List Pn), endA a (P ++ Q) = endA (endA a P) Q
  | [], Q => rfl
  | p :: P, Q => by show endA p (P ++ Q) = endA (endA p P) Q; exact endA_app p P Q
theorem endS_app (sm : Pn → Int) (s : Int) : ∀ (P Q : List Pn), endS sm s (P ++ Q) = endS sm (endS sm s P) Q
  | [], Q => rfl
  | p :: P, Q => by show endS sm (sm p) (P ++ Q) = endS sm (endS sm (sm p) P) Q; exact endS_app sm (sm p) P Q
def Takes (W : Nat) (C : Nat → Nat → Ct) (sm : Pn → Int) : Pn → Int → Nat → List Pn → Prop
  | _, _, _, [] => True
  | a, s, k, p :: P => (cdC W C k).find? (fitsP a s) = some p ∧ Takes W C sm p (sm p) (k + 1) P
def StopsC (W : Nat) (C : Nat → Nat → Ct) (a : Pn) (s : Int) (k : Nat) : Prop := (cdC W C k).find? (fitsP a s) = none ∧ clS C (k % W) = true
theorem run_takes {m : Mi} {C : Nat → Nat → Ct} (h : LogM m C) : ∀ {P : List Pn} {f : Nat} {a : Pn} {s : Int} {k : Nat}, Takes m.g.W C (sumM m) a s k P → P.length ≤ f →
    runR m f a s k = (P ++ (runR m (f - P.length) (endA a P) (endS (sumM m) s P) (k + P.length)).1, (runR m (f - P.length) (endA a P) (endS (sumM m) s P) (k + P.length)).2)
  | [], f, a, s, k, _, _ => rfl
  | p :: P, f + 1, a, s, k, ht, hf => by
    rw [run_some (by rw [h.cd]; exact ht.1), run_takes h ht.2 (by rw [List.length_cons] at hf; omega), List.length_cons, show f + 1 - (P.length + 1) = f - P.length by omega, show k + 1 + P.length = k + (P.length + 1) by omega]
    rfl
theorem run_ends {m : Mi} {C : Nat → Nat → Ct} (h : LogM m C) {P : List Pn} {f : Nat} {a : Pn} {s : Int} {k : Nat} (ht : Takes m.g.W C (sumM m) a s k P) (hf : P.length ≤ f) (he : P.length = f ∨ StopsC m.g.W C (endA a P) (endS (sumM m) s P) (k + P.length)) : runR m f a s k = (P, false) := by
  rw [run_takes h ht hf]
  by_cases q : P.length = f
  · rw [q, Nat.sub_self, run_zero, List.append_nil]
  · obtain ⟨e1, e2⟩ := he.resolve_left q
    obtain ⟨f', hf'⟩ : ∃ f', f - P.length = f' + 1 := ⟨f - P.length - 1, by omega⟩
    rw [hf', run_none (by rw [h.cd]; exact e1), h.cl (h.slot _), e2, List.append_nil]
    rfl
def GoodTx (t : List Pn) : Prop := 0 < t.length ∧ ∀ (i : Nat) (q : Pn), t[i]? = some q → q.ix = (i : Int) ∧ q.ofn = (t.length : Int)
theorem good_whole {t L : List Pn} (h : GoodTx t) : wholeR (t ++ L) = t.length := by
  obtain ⟨h0, h1⟩ := h
  obtain ⟨p, hp⟩ : ∃ p, t[0]? = some p := ⟨t[0], List.getElem?_eq_getElem h0⟩
  have hp' : (t ++ L)[0]? = some p := by rw [List.getElem?_append_left h0]; exact hp
  obtain ⟨_, ho⟩ := h1 0 p hp
  have e : p.ofn.toNat = t.length := by rw [ho]; exact Int.toNat_natCast _
  rw [whole_some hp', e, if_pos]
  refine ⟨by rw [List.length_append]; omega, fun i hi => ?_⟩
  have hq : (t ++ L)[i]? = some t[i] := by rw [List.getElem?_append_left hi]; exact List.getElem?_eq_getElem hi
  obtain ⟨q1, q2⟩ := h1 i t[i] (List.getElem?_eq_getElem hi)
  rw [okAt_some hq, decide_eq_true q1, decide_eq_true (q2.trans ho.symm)]
  rfl
theorem lastS_end {sm : Pn → Int} : ∀ {t L : List Pn} {c : Int}, 0 < t.length → lastS sm (t ++ L) t.length c = endS sm c t
  | [p], L, c, _ => rfl
  | p :: q :: t, L, c, _ => by
    have ih := lastS_end (sm := sm) (t := q :: t) (L := L) (c := c) (by simp)
    show lastS sm (p :: (q :: t ++ L)) (t.length + 2) c = endS sm (sm q) t
    have e : lastS sm (p :: (q :: t ++ L)) (t.length + 2) c = lastS sm (q :: t ++ L) (t.length + 1) c := by
      unfold lastS
      show (match (p :: (q :: t ++ L))[t.length + 1]? with | some p => sm p | none => c) = (match (q :: t ++ L)[t.length]? with | some p => sm p | none => c)
      rw [List.getElem?_cons_succ]
    rw [e]
    exact ih
theorem end_txs {sm : Pn → Int} : ∀ (T : List (List Pn)) (L : List Pn) (acc : Tl), (∀ t ∈ T, GoodTx t) → wholeR L = 0 → endR sm (T.flatten ++ L).length (T.flatten ++ L) acc = ⟨acc.txs ++ T.map joinP, acc.next + (T.flatten.length : Int), endS sm acc.chain T.flatten⟩
  | [], L, acc, _, hL => by
    rw [List.flatten_nil, List.nil_append, endR_at, if_pos hL]
    simp [endS]
  | t :: T, L, acc, hT, hL => by
    have ht := hT t List.mem_cons_self
    have hw : wholeR ((t :: T).flatten ++ L) = t.length := by rw [List.flatten_cons, List.append_assoc]; exact good_whole ht
    rw [endR_at, hw, if_neg (by have := ht.1; omega)]
    have e1 : ((t :: T).flatten ++ L).drop t.length = T.flatten ++ L := by rw [List.flatten_cons, List.append_assoc, List.drop_left]
    have e2 : stepT sm ((t :: T).flatten ++ L) acc = ⟨acc.txs ++ [joinP t], acc.next + (t.length : Int), endS sm acc.chain t⟩ := by
      unfold stepT
      rw [hw]
      rw [List.flatten_cons, List.append_assoc, List.take_left, lastS_end ht.1]
    rw [e1, e2, end_txs T L _ (fun u hu => hT u (List.mem_cons_of_mem _ hu)) hL]
    rw [List.flatten_cons, List.length_append, endS_app]
    simp only [List.map_cons, List.append_assoc, List.singleton_append, Tl.mk.injEq, true_and, and_true]
    omega
theorem tail_txs {sm : Pn → Int} {T : List (List Pn)} {L : List Pn} {start chain : Int} (hT : ∀ t ∈ T, GoodTx t) (hL : wholeR L = 0) : tailR sm (T.flatten ++ L) start chain = ⟨T.map joinP, start + (T.flatten.length : Int), endS sm chain T.flatten⟩ := by
  unfold tailR
  rw [end_txs T L _ hT hL]
  rfl
end Go.Proofs.YteleknojohnlbaaGreat
namespace Go.Proofs.YteleknojohnlbaaGreat
open Go.RowKit
set_option linter.unusedVariables false
set_option maxRecDepth 100000
def ringTo (o : Int) (B : List Nat) (x : Rg) : Nat → Rg
  | 0 => x
  | i + 1 => nxR (ringTo o B x i) (apQ o B (ringTo o B x i) i) 0
def txP (o : Int) (B : List Nat) (x : Rg) (k : Nat) : List Pn := (List.range k).map fun i => apQ o B (ringTo o B x i) i
theorem nx0 (x : Rg) (q : Pn) : nxR x q 0 = { x with next := x.next + 1, chain := sumR x.vol x.g q } := if_pos rfl
structure RingTo (o : Int) (B : List Nat) (x : Rg) (i : Nat) : Prop where
  d : (ringTo o B x i).d = x.d
  vol : (ringTo o B x i).vol = x.vol
  g : (ringTo o B x i).g = x.g
  ep : (ringTo o B x i).ep = x.ep
  fr : (ringTo o B x i).fr = x.fr
  start : (ringTo o B x i).start = x.start
  next : (ringTo o B x i).next = x.next + (i : Int)
theorem ring_to (o : Int) (B : List Nat) (x : Rg) : ∀ i, RingTo o B x i
  | 0 => ⟨rfl, rfl, rfl, rfl, rfl, rfl, by show x.next = x.next + ((0 : Nat) : Int); omega⟩
  | i + 1 => by
    obtain ⟨a1, a2, a3, a4, a5, a6, a7⟩ := ring_to o B x i
    have e : ringTo o B x (i + 1) = _ := nx0 _ _
    refine ⟨by rw [e]; exact a1, by rw [e]; exact a2, by rw [e]; exact a3, by rw [e]; exact a4, by rw [e]; exact a5, by rw [e]; exact a6, ?_⟩
    rw [e]
    show (ringTo o B x i).next + 1 = _
    rw [a7]; omega
theorem txP_len (o : Int) (B : List Nat) (x : Rg) (k : Nat) : (txP o B x k).length = k := by unfold txP; simp
theorem txP_snoc (o : Int) (B : List Nat) (x : Rg) (k : Nat) : txP o B x (k + 1) = txP o B x k ++ [apQ o B (ringTo o B x k) k] := by unfold txP; rw [List.range_succ, List.map_append]; rfl
theorem txP_at {o : Int} {B : List Nat} {x : Rg} {k i : Nat} {q : Pn} (h : (txP o B x k)[i]? = some q) : i < k ∧ q = apQ o B (ringTo o B x i) i := by
  have hi : i < k := by have := (List.getElem?_eq_some_iff.1 h).1; rwa [txP_len] at this
  refine ⟨hi, ?_⟩
  unfold txP at h
  rw [List.getElem?_map, List.getElem?_range hi] at h
  injection h with h
  exact h.symm
theorem txP_good {B : List Nat} {x : Rg} {k : Nat} (hk : 0 < k) : GoodTx (txP (k : Int) B x k) := by
  refine ⟨by rw [txP_len]; exact hk, fun i q h => ?_⟩
  obtain ⟨_, rfl⟩ := txP_at h
  rw [txP_len]
  exact ⟨rfl, rfl⟩
theorem joinP_two (L M : List Pn) : joinP (L ++ M) = joinP L ++ joinP M := by unfold joinP; rw [List.flatMap_append]
theorem txP_join (o : Int) (B : List Nat) (x : Rg) : ∀ k, joinP (txP o B x k) = B.take (k * 200)
  | 0 => by simp [txP, joinP]
  | k + 1 => by
    rw [txP_snoc, joinP_two, txP_join o B x k, Nat.add_mul, List.take_add]
    congr 1
    unfold joinP
    rw [List.flatMap_cons, List.flatMap_nil, List.append_nil]
    rfl
theorem txP_all (o : Int) (B : List Nat) (x : Rg) : joinP (txP o B x (cntN B.length)) = B := by
  rw [txP_join]
  exact List.take_of_length_le (by have := cntN_all (n := B.length); omega)
theorem txP_endA {o : Int} {B : List Nat} {x : Rg} {k : Nat} {a : Pn} : endA a (txP o B x (k + 1)) = apQ o B (ringTo o B x k) k := by
  rw [txP_snoc, endA_app]
  rfl
def RgAft (a : Pn) (s : Int) (x : Rg) : Prop := x.chain = s ∧ (a.ofn = 0 ∨ (x.ep = a.ep ∧ x.fr = a.fr) ∨ (a.ep < x.ep ∧ x.fr = x.next))
theorem aft_fits {a : Pn} {s : Int} {x : Rg} (h : RgAft a s x) (o : Int) (B : List Nat) (i : Nat) : fitsP a s (apQ o B x i) = true := by
  obtain ⟨h1, h2⟩ := h
  unfold fitsP
  rw [if_pos (show (apQ o B x i).ch = s from h1)]
  unfold goesOn
  by_cases q : a.ofn = 0
  · rw [if_pos q]
  · rw [if_neg q]
    show (if x.ep = a.ep then decide (x.fr = a.fr) else (decide (a.ep < x.ep) && decide (x.fr = x.next))) = true
    rcases h2 with e | ⟨e, e2⟩ | ⟨e, e2⟩
    · exact absurd e q
    · rw [if_pos e]; exact decide_eq_true e2
    · rw [if_neg (by omega), decide_eq_true e, decide_eq_true e2]; rfl
theorem aft_next (o : Int) (B : List Nat) (x : Rg) (i : Nat) : RgAft (apQ o B x i) (sumR x.vol x.g (apQ o B x i)) (nxR x (apQ o B x i) 0) := by
  rw [nx0]
  exact ⟨rfl, Or.inr (Or.inl ⟨rfl, rfl⟩)⟩
def FitsL (sm : Pn → Int) : Pn → Int → List Pn → Prop
  | _, _, [] => True
  | a, s, p :: P => fitsP a s p = true ∧ FitsL sm p (sm p) P
theorem fits_app {sm : Pn → Int} : ∀ {P Q : List Pn} {a : Pn} {s : Int}, FitsL sm a s P → FitsL sm (endA a P) (endS sm s P) Q → FitsL sm a s (P ++ Q)
  | [], Q, a, s, _, h => h
  | p :: P, Q, a, s, h, h2 => ⟨h.1, fits_app h.2 h2⟩
def Holds (C : Nat → Nat → Ct) (sl : Nat) (q : Pn) : Prop := (C 0 sl = .pc q ∧ (C 1 sl = .pc q ∨ C 1 sl = .bad)) ∨ (C 0 sl = .bad ∧ C 1 sl = .pc q)
theorem atS_own {q : Pn} {k : Nat} (h : q.seq = (k : Int)) : atS (some q) (k : Int) = some q := if_pos h
theorem holds_find {W : Nat} {C : Nat → Nat → Ct} {k : Nat} {q a : Pn} {s : Int} (h : Holds C (k % W) q) (hs : q.seq = (k : Int)) (hf : fitsP a s q = true) : (cdC W C k).find? (fitsP a s) = some q := by
  have hn : atS (none : Option Pn) (k : Int) = none := rfl
  unfold cdC
  rcases h with ⟨h0, h1 | h1⟩ | ⟨h0, h1⟩
  · rw [h0, h1]
    show (candR (atS (some q) _) (atS (some q) _)).find? _ = _
    rw [atS_own hs]
    show (if q.ep < q.ep then [q, q] else [q, q]).find? _ = _
    rw [if_neg (by omega), List.find?_cons, hf]
  · rw [h0, h1]
    show (candR (atS (some q) _) (atS none _)).find? _ = _
    rw [atS_own hs, hn]
    show [q].find? _ = _
    rw [List.find?_cons, hf]
  · rw [h0, h1]
    show (candR (atS none _) (atS (some q) _)).find? _ = _
    rw [atS_own hs, hn]
    show [q].find? _ = _
    rw [List.find?_cons, hf]
theorem takes_of {W : Nat} {C : Nat → Nat → Ct} {sm : Pn → Int} : ∀ {P : List Pn} {a : Pn} {s : Int} {k : Nat}, FitsL sm a s P → (∀ (i : Nat) (q : Pn), P[i]? = some q → q.seq = ((k + i : Nat) : Int) ∧ Holds C ((k + i) % W) q) → Takes W C sm a s k P
  | [], _, _, _, _, _ => trivial
  | p :: P, a, s, k, hf, h => by
    obtain ⟨h1, h2⟩ := h 0 p rfl
    rw [Nat.add_zero] at h1 h2
    refine ⟨holds_find h2 h1 hf.1, takes_of hf.2 fun i q hq => ?_⟩
    have := h (i + 1) q (by rw [List.getElem?_cons_succ]; exact hq)
    rw [show k + 1 + i = k + (i + 1) by omega]
    exact this
theorem stops_of {W : Nat} {C : Nat → Nat → Ct} {a : Pn} {s : Int} {k : Nat} (h0 : ∀ c, c < 2 → C c (k % W) = .free ∨ C c (k % W) = .bad) (h1 : C 0 (k % W) = .free ∨ C 1 (k % W) = .free) : StopsC W C a s k := by
  have t : ∀ c, c < 2 → tel (C c (k % W)) = none := fun c hc => by
    rcases h0 c hc with e | e <;> rw [e] <;> rfl
  constructor
  · unfold cdC
    rw [t 0 (by omega), t 1 (by omega)]
    rfl
  · unfold clS
    rcases h1 with e | e
    · rw [e]; rfl
    · rw [e]
      show (clC (C 0 (k % W)) || true) = true
      exact Bool.or_true _
end Go.Proofs.YteleknojohnlbaaGreat
