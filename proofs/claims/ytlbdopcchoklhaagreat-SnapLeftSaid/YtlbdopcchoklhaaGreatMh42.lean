/-
  A stripe of a snapshot that is read, plainly: what is left of it, and what comes again. A blank device, in plain words, and law11's Blank, walked. (blnk.py cuts it out of LogA, LogE, BlkQ, RinBk: not beside those.). Snapshots on a blank device, plainly. A fault, and bools, that are handed in, opened. What Read answers of a snapshot on a device; the calls of a law on a device beside other blocks.
-/
import Derived.Test.YtlbdopcchoklhaaGreatMh41
import Derived.Test.YtlbdopcchoklhaaGreatMh29
import Derived.Test.YtlbdopcchoklhaaGreatMh28
import Derived.Test.YtlbdopcchoklhaaGreatMh3
import Derived.Test.YtlbdopcchoklhaaGreatMh8
import Derived.Test.YtlbdopcchoklhaaGreatMh32
import Derived.Test.YtlbdopcchoklhaaGreatMh1
import Derived.Test.YtlbdopcchoklhaaGreatMh24
import Derived.Deep.Slices
import Derived.Deep.Fields
import Derived.Deep.Grids
import Derived.ChangeSame
import Derived.Test.YtlbdopcchoklhaaGreatMh40
namespace Go.Proofs.YtlbdopcchoklhaaGreat
open Go.RowKit
set_option linter.unusedVariables false
set_option maxRecDepth 100000
set_option linter.unusedSimpArgs false

/-- What was read of a stripe's sectors: nothing, where it can't be. -/
def ReadS (d : Dev) (n : Gn) (a s : Nat) (L : Nat → Nat) (X : Nat → Nat → Nat) : Prop :=
  ∀ r, r < n.q → (d.lost (frsN n a s + r) = true → L r = 0) ∧ (d.lost (frsN n a s + r) = false → L r = 256 ∧ ∀ c, c < 256 → X r c = d.has (frsN n a s + r) c)
section
variable {N : Nat} {d : Dev} {vol ep no : Int} {n : Gn} {a s : Nat} {Z : Nat → Nat} {hu : Nat → Bool} {L : Nat → Nat} {X : Nat → Nat → Nat}
theorem snp_left (hw : SnpOn N d vol ep no n a Z hu) (hn : n.Ok) (ha : a ≤ 1) (hv : 0 ≤ vol ∧ vol ≤ 4294967295) (he : 0 ≤ ep ∧ ep ≤ 4294967295) (ho : 0 ≤ no ∧ no ≤ 4294967295) (hZ : ∀ i, Z i < 256) (hs : s < n.S) (hr : ReadS d n a s L X) :
    (idx (lftL vol no (frsN n a s) L X) n.q).length = cntL (fun r => !hu (s * n.q + r)) n.q ∧ ∀ r c, r < n.q → 0 < lftL vol no (frsN n a s) L X r → c < 228 → lftX X r c = sharesZ n.K (datZ n.K Z s) r c := by
  have get : ∀ r, r < n.q → _ := fun r hrq => snp_told (l := L r) (z := X r) hw hn ha hv he ho hZ hs hrq (hr r hrq).1 (hr r hrq).2
  have hp : ∀ r, r < n.q → (0 < lftL vol no (frsN n a s) L X r ↔ (!hu (s * n.q + r)) = true) := fun r hrq => by
    unfold lftL
    rw [(get r hrq).1]
    cases hu (s * n.q + r) <;> simp
  refine ⟨idx_cnt hp, fun r c hrq h0 hc => ?_⟩
  have hb : hu (s * n.q + r) = false := by
    have := (hp r hrq).1 h0
    cases e : hu (s * n.q + r) with
    | false => rfl
    | true => rw [e] at this; cases this
  have h1 := (get r hrq).2 hb c hc
  show X r (24 + c) % 256 = _
  rw [h1]
  exact Nat.mod_eq_of_lt (shares_b n.K (datZ n.K Z s) r c)
/-- Where enough are left the data is what was written. -/
theorem snp_data (hw : SnpOn N d vol ep no n a Z hu) (hn : n.Ok) (ha : a ≤ 1) (hv : 0 ≤ vol ∧ vol ≤ 4294967295) (he : 0 ≤ ep ∧ ep ≤ 4294967295) (ho : 0 ≤ no ∧ no ≤ 4294967295) (hZ : ∀ i, Z i < 256) (hs : s < n.S) (hr : ReadS d n a s L X)
    (hk : n.K ≤ cntL (fun r => !hu (s * n.q + r)) n.q) {D : Nat → Nat → Nat} (hD : DataOf (lftL vol no (frsN n a s) L X) n.q n.K 228 (lftX X) D) (r c : Nat) (hrk : r < n.K) (hc : c < 228) : sharesZ n.K D r c = Z ((s * n.K + r) * 228 + c) := by
  obtain ⟨h1, h2⟩ := snp_left hw hn ha hv he ho hZ hs hr
  have hq2 := hn.q2
  rw [snp_back (datZ_b hZ s) h2 (by rw [h1]; exact hk) (by unfold Gn.q; omega) (by omega) hD r c hc]
  exact shares_data (datZ_b hZ s) hrk c
end
/-- As many are left as are not lost. -/
theorem cntL_not (b : Nat → Bool) : ∀ n, cntL (fun r => !b r) n + cntL b n = n
  | 0 => rfl
  | n + 1 => by
    have := cntL_not b n
    unfold cntL
    cases b n <;> simp <;> omega
theorem enough_left {b : Nat → Bool} {n : Gn} : n.K ≤ cntL (fun r => !b r) n.q ↔ cntL b n.q ≤ n.M := by
  have := cntL_not b n.q
  unfold Gn.q at this ⊢
  omega
end Go.Proofs.YtlbdopcchoklhaaGreat
namespace Go.Proofs.YtlbdopcchoklhaaGreat
open Go.RowKit
set_option linter.unusedVariables false
set_option maxRecDepth 100000
set_option linter.unusedSimpArgs false

def wordS (n : Int) : Bool := inB n 0 4294967295
def fbk (vol a : Int) : Bk := ⟨1, vol, a, 0, 0, undef, 0, fun _ => 0⟩
theorem fbk_may {vol a : Int} (hv : 0 ≤ vol ∧ vol ≤ 4294967295) (ha : 0 ≤ a ∧ a ≤ 4294967295) : mayB (fbk vol a) = true := by
  refine mayB_iff.2 ⟨⟨by show 1 ≤ (1 : Int) ∧ (1 : Int) ≤ 4; omega, hv, ha, by show 0 ≤ (0 : Int) ∧ (0 : Int) ≤ _; omega, by show 0 ≤ (0 : Int) ∧ (0 : Int) ≤ _; omega⟩, ?_⟩
  exact Nat.zero_le _
def bkTo (vol : Int) (n : Nat) : Nat → Dev
  | 0 => dev0 n
  | k + 1 => writeD (bkTo vol n k) (k : Int) 256 (sectZ (fbk vol (k : Int)))
def bkD (vol : Int) (n : Nat) : Dev := flushD (bkTo vol n n)
def bkW (vol : Int) (k : Nat) : List Wt := (List.range k).map fun a => ⟨a, sectZ (fbk vol (a : Int))⟩
theorem bk_to (vol : Int) (n : Nat) : ∀ k, k ≤ n → bkTo vol n k = { dev0 n with ops := k, W := bkW vol k }
  | 0, _ => rfl
  | k + 1, hk => by
    have ih := bk_to vol n k (by omega)
    have hb : hasB { dev0 n with ops := k, W := bkW vol k } (k : Int) = true := decide_eq_true (by show (0 : Int) ≤ (k : Int) ∧ (k : Int) < (n : Int); omega)
    have ho : openE { dev0 n with ops := k, W := bkW vol k } (k : Int) = 0 := by unfold openE; rw [hb]; rfl
    show writeD (bkTo vol n k) (k : Int) 256 _ = _
    rw [ih]
    unfold writeD
    rw [if_pos ⟨ho, rfl⟩, Int.toNat_natCast]
    unfold bkW
    rw [List.range_succ, List.map_append]
    rfl
theorem bk_last (vol : Int) (a : Nat) : ∀ k, lastW (bkW vol k) a = if a < k then some ⟨a, sectZ (fbk vol (a : Int))⟩ else none
  | 0 => rfl
  | k + 1 => by
    unfold bkW
    rw [List.range_succ, List.map_append, List.map_cons, List.map_nil, lastW_snoc]
    show (if k = a then _ else lastW (bkW vol k) a) = _
    rw [bk_last vol a k]
    by_cases q : k = a
    · subst q; rw [if_pos rfl, if_pos (by omega)]
    · rw [if_neg q]
      by_cases r : a < k
      · rw [if_pos r, if_pos (by omega)]
      · rw [if_neg r, if_neg (by omega)]
theorem bk_flush (vol : Int) (n : Nat) : bkD vol n = { finAll { dev0 n with ops := n, W := bkW vol n } (bkW vol n) with W := [] } := by
  unfold bkD
  rw [bk_to vol n n (Nat.le_refl _)]
  rfl
theorem bk_fine (vol : Int) (n : Nat) : Fine n (bkD vol n) ∧ (∀ a, a < n → HasZ (bkD vol n) a (sectZ (fbk vol (a : Int)))) ∧ (bkD vol n).ops = n := by
  rw [bk_flush]
  obtain ⟨h1, h2, h3, h4, h5, h6⟩ := finAll_same (bkW vol n) { dev0 n with ops := n, W := bkW vol n }
  have hn : (finAll { dev0 n with ops := n, W := bkW vol n } (bkW vol n)).n = n := finAll_n _ _
  refine ⟨⟨⟨hn, h4, h5, rfl⟩, fun a => (congrFun h2 a).trans rfl, fun a => (congrFun h3 a).trans rfl⟩, fun a ha => ?_, h1⟩
  obtain ⟨g1, g2⟩ := finAll_has { dev0 n with ops := n, W := bkW vol n } a (bkW vol n)
  rw [bk_last, if_pos ha] at g1 g2
  exact ⟨g2, fun c hc => congrFun g1 c⟩
theorem bk_lims (vol : Int) (n k : Nat) (hk : k ≤ n) : Lim (bkTo vol n k) n ∧ LimM (bkTo vol n k) n := by
  rw [bk_to vol n k hk]
  exact ⟨⟨hk, by show (bkW vol k).length ≤ n; unfold bkW; simp; exact hk, fun _ => Nat.zero_le _⟩, fun _ => Nat.zero_le _⟩
theorem bkD_lims (vol : Int) (n : Nat) : Lim (bkD vol n) n ∧ LimM (bkD vol n) n := by
  obtain ⟨f, _, o⟩ := bk_fine vol n
  exact ⟨⟨by rw [o]; exact Nat.le_refl _, by rw [f.qt.W]; exact Nat.zero_le _, fun a => by rw [f.drops a]; exact Nat.zero_le _⟩, fun a => by rw [f.miss a]; exact Nat.zero_le _⟩

theorem One.cal2 {w0 w w1 : World} {B : Nat} {d d' : Dev} {r : Value} {F : FuncId} {args : Array Value} (h : One w0 B d w) (hc : Ch (fun _ => False) w w1) (g : ∀ p : Ph, p.B = B → DevIs w0.heap.size w1 p d → (∀ i, w.heap.size ≤ i → ¬ Foot p d i) → Calls Tryz.prog F args w1 (DPost w0.heap.size p d d' r w1)) : Calls Tryz.prog F args w1 (OneP w0 B d' r) := by
  obtain ⟨h1, p, h2, h3⟩ := h
  refine (g p h2 (h3.gr hc) (fun i hi hf => by have := (h3.foot hf).2; omega)).mono ?_
  intro e w' hp
  rw [← h2]
  exact hp.one (h3.gr hc) (h1.trans hc)
def fbV (vol a : Int) : Bk := ⟨1, vol, a, 0, 0, .slice none 0 0, 0, fun _ => 0⟩
theorem built_fb (vol a : Int) (w : World) : (Instr.build 71 #[(0, .int .i64 1), (1, .int .i64 vol), (2, .int .i64 a)]).run Tryz.prog w = .ok (.agg (bkC (fbV vol a))) w := run_build w _ _ _ (by kernel_rfl)
def blkOk (vol : Int) (g : Ge) : Bool := mayG g && (decide (g.wal ≤ 16) && wordS vol)
def secsG (g : Gn) : Nat := 4 + 2 * g.W + 2 * g.S * (g.K + g.M)
def BlankPost11 (vol : Int) (g : Ge) (w : World) (e : Ending) (w' : World) : Prop :=
  (blkOk vol g = false → e = .returned (.pointer none) ∧ Ch (fun _ => False) w w') ∧
  (∀ n : Gn, blkOk vol g = true → g = n.ge → ∃ B, e = .returned (.pointer (some ⟨B, 0, none⟩)) ∧ One w B (bkD vol (secsG n)) w')
set_option maxHeartbeats 6400000 in
theorem lawBlank_any (vol : Int) (g : Ge) (w : World) (hv : N64 vol) : Calls Tryz.prog 19 #[.int .i64 vol, .agg (geC g)] w (BlankPost11 vol g w) := by
  obtain ⟨w1, H, hR⟩ := geR w g
  obtain ⟨x0, x1, x2, x3⟩ := hR.x
  have HM := Lib.hid (rgmay_any g w1)
  have HR := Lib.hid hR
  clear hR
  cases hm : mayG g
  · have HB := Lib.hid (show blkOk vol g = false by unfold blkOk; rw [hm]; rfl)
    rw [hm] at HM
    clear hm
    go_enter Tryz.func19, Tryz.ntmps19
    go_wp2_with (first | ((with_reducible refine wpList_isOp (.box 23 (.tmp 1)) rfl ?_); refine wpList_boxing _ w1 rfl 23 (.tmp 1) rfl (geC g) H rfl (by exact HR.out.sz) (by exact HR.out.al) ?_) | fail)
    refine HM.out.mono ?_
    rintro e w2 ⟨rfl, hc⟩
    have HC := Lib.hid (HR.out.ch.trans hc)
    clear hc
    go_wp2
    go_ret
    exact ⟨fun _ => ⟨rfl, HC.out⟩, (fun n h => by rw [HB.out] at h; cases h)⟩
  rw [hm] at HM
  by_cases hw : 16 < g.wal
  · have HB := Lib.hid (show blkOk vol g = false by unfold blkOk; rw [hm, decide_eq_false (by omega)]; rfl)
    clear hm
    go_enter Tryz.func19, Tryz.ntmps19
    go_wp2_with (first | ((with_reducible refine wpList_isOp (.box 23 (.tmp 1)) rfl ?_); refine wpList_boxing _ w1 rfl 23 (.tmp 1) rfl (geC g) H rfl (by exact HR.out.sz) (by exact HR.out.al) ?_) | fail)
    refine HM.out.mono ?_
    rintro e w2 ⟨rfl, hc⟩
    have HC := Lib.hid (HR.out.ch.trans hc)
    obtain ⟨y0, y1, y2, y3⟩ := HR.out.x.gr hc
    clear hc x0 x1 x2 x3
    go_wp2
    go_ret
    exact ⟨fun _ => ⟨rfl, HC.out⟩, (fun n h => by rw [HB.out] at h; cases h)⟩
  by_cases hl : vol < 0
  · have HB := Lib.hid (show blkOk vol g = false by unfold blkOk wordS; rw [hm, decide_eq_true (show g.wal ≤ 16 by omega)]; show (true && (true && inB vol 0 4294967295)) = false; unfold inB; rw [decide_eq_false (by omega)]; rfl)
    clear hm
    go_enter Tryz.func19, Tryz.ntmps19
    go_wp2_with (first | ((with_reducible refine wpList_isOp (.box 23 (.tmp 1)) rfl ?_); refine wpList_boxing _ w1 rfl 23 (.tmp 1) rfl (geC g) H rfl (by exact HR.out.sz) (by exact HR.out.al) ?_) | fail)
    refine HM.out.mono ?_
    rintro e w2 ⟨rfl, hc⟩
    have HC := Lib.hid (HR.out.ch.trans hc)
    obtain ⟨y0, y1, y2, y3⟩ := HR.out.x.gr hc
    clear hc x0 x1 x2 x3
    go_wp2
    go_ret
    exact ⟨fun _ => ⟨rfl, HC.out⟩, (fun n h => by rw [HB.out] at h; cases h)⟩
  by_cases hl2 : 4294967295 < vol
  · have HB := Lib.hid (show blkOk vol g = false by unfold blkOk wordS; rw [hm, decide_eq_true (show g.wal ≤ 16 by omega)]; show (true && (true && inB vol 0 4294967295)) = false; unfold inB; rw [decide_eq_false (by omega)]; rfl)
    clear hm
    go_enter Tryz.func19, Tryz.ntmps19
    go_wp2_with (first | ((with_reducible refine wpList_isOp (.box 23 (.tmp 1)) rfl ?_); refine wpList_boxing _ w1 rfl 23 (.tmp 1) rfl (geC g) H rfl (by exact HR.out.sz) (by exact HR.out.al) ?_) | fail)
    refine HM.out.mono ?_
    rintro e w2 ⟨rfl, hc⟩
    have HC := Lib.hid (HR.out.ch.trans hc)
    obtain ⟨y0, y1, y2, y3⟩ := HR.out.x.gr hc
    clear hc x0 x1 x2 x3
    go_wp2
    go_ret
    exact ⟨fun _ => ⟨rfl, HC.out⟩, (fun n h => by rw [HB.out] at h; cases h)⟩
  · have HB := Lib.hid (show blkOk vol g = true by unfold blkOk wordS; rw [hm, decide_eq_true (show g.wal ≤ 16 by omega)]; exact inB_true.2 ⟨by omega, by omega⟩)
    obtain ⟨n, hn, rfl⟩ := may_nat hm
    have HVW := Lib.hid (show 0 ≤ vol ∧ vol ≤ 4294967295 from ⟨by omega, by omega⟩)
    have h1 := hn.w1
    have h2 := hn.w2
    have h3 := hn.s2
    have h4 := hn.k2
    have h5 := hn.m2
    have hmul : n.S * (n.K + n.M) ≤ 32 * 24 := Nat.mul_le_mul h3 (by omega)
    have hw' : (n.W : Int) ≤ 16 := by
      have : ¬ 16 < (n.W : Int) := hw
      omega
    obtain ⟨Q, hQ⟩ : ∃ Q, Q = n.K + n.M := ⟨_, rfl⟩
    obtain ⟨P, hP⟩ : ∃ P, P = 2 * n.S := ⟨_, rfl⟩
    have hPQ : P * Q ≤ 1536 := by
      rw [hP, hQ, Nat.mul_assoc]
      omega
    have ePQ : wrap64 ((P : Int) * (Q : Int)) = ((P * Q : Nat) : Int) := by
      rw [← Int.natCast_mul]
      exact IntWalk.wrap64_in _ ⟨by omega, by omega⟩
    obtain ⟨Z, hZ⟩ : ∃ Z, Z = P * Q := ⟨_, rfl⟩
    rw [← hZ] at ePQ hPQ
    have e1 : wrap64 (2 * (n.S : Int)) = (P : Int) := by rw [IntWalk.wrap64_in _ ⟨by omega, by omega⟩, hP]; omega
    have e2 : wrap64 ((n.K : Int) + (n.M : Int)) = (Q : Int) := by rw [IntWalk.wrap64_in _ ⟨by omega, by omega⟩, hQ]; omega
    obtain ⟨N, hN⟩ : ∃ N, N = secsG n := ⟨_, rfl⟩
    have hNe : N = 4 + 2 * n.W + Z := by rw [hN, hZ, hP, hQ]; rfl
    have hw2 : ¬ 16 < (n.W : Int) := hw
    clear hm hw hmul
    have x0 : w1.cell? ⟨H, 0, none⟩ = some (.int .i64 (n.W : Int)) := x0
    have x1 : w1.cell? ⟨H, 1, none⟩ = some (.int .i64 (n.S : Int)) := x1
    have x2 : w1.cell? ⟨H, 2, none⟩ = some (.int .i64 (n.K : Int)) := x2
    have x3 : w1.cell? ⟨H, 3, none⟩ = some (.int .i64 (n.M : Int)) := x3
    have HNE := Lib.hid hNe
    have HNN := Lib.hid hN
    clear hQ hP hZ hN hNe h3 h4 h5
    go_enter Tryz.func19, Tryz.ntmps19
    go_wp2_with (first | ((with_reducible refine wpList_isOp (.box 23 (.tmp 1)) rfl ?_); refine wpList_boxing _ w1 rfl 23 (.tmp 1) rfl (geC n.ge) H rfl (by exact HR.out.sz) (by exact HR.out.al) ?_) | fail)
    refine HM.out.mono ?_
    rintro e w2 ⟨rfl, hc⟩
    have HC := Lib.hid (HR.out.ch.trans hc)
    obtain ⟨y0, y1, y2, y3⟩ := HR.out.x.gr hc
    have x0 : w2.cell? ⟨H, 0, none⟩ = some (.int .i64 (n.W : Int)) := y0
    have x1 : w2.cell? ⟨H, 1, none⟩ = some (.int .i64 (n.S : Int)) := y1
    have x2 : w2.cell? ⟨H, 2, none⟩ = some (.int .i64 (n.K : Int)) := y2
    have x3 : w2.cell? ⟨H, 3, none⟩ = some (.int .i64 (n.M : Int)) := y3
    clear hc y0 y1 y2 y3
    go_wp2_with fail
    rw [show (4 + 2 * (n.W : Int) + (Z : Int)) = (N : Int) by have := HNE.out; omega]
    have hN1 : 1 ≤ N := by have := HNE.out; omega
    have hN2 : N ≤ 4096 := by have := HNE.out; omega
    refine (One.new N w2 hN1 hN2 w HC.out).mono ?_
    rintro e w3 ⟨B, rfl, hO⟩
    have HO := Lib.hid hO
    have HN2 := Lib.hid hN2
    clear hO x0 x1 x2 x3 e1 e2 ePQ hPQ hw2 hw' h1 h2 hv HM
    go_wp2
    go_loopw [9, 10, 11, 48, 49, 50, 51, 52, 53, 54, 55, 56, 57, 58, 59, 60, 61, 62, 63] (fun i _ _ _ _ _ _ _ _ _ _ _ _ _ _ _ _ _ _ wr => ∃ k : Nat, k ≤ N ∧ i = .int .i64 k ∧ Hid (One w B (bkTo vol N k) wr)) (fun i _ _ _ _ _ _ _ _ _ _ _ _ _ _ _ _ _ _ _ => N - (intOf i).toNat)
    case atStart => exact ⟨0, Nat.zero_le _, rfl, HO⟩
    case round =>
      obtain ⟨k, hk, rfl, HK⟩ := hrel
      clear HO
      by_cases hlt : k < N
      · have i1 : (0 : Int) ≤ (k : Int) := Int.natCast_nonneg _
        have i2 : (k : Int) < (N : Int) := by omega
        have HLT := Lib.hid hlt
        have hmy : mayB (fbV vol (k : Int)) = true := fbk_may HVW.out ⟨by omega, by have := HN2.out; omega⟩
        have HSN : Hid (sealN (fbV vol (k : Int)) = 256) := Lib.hid (by unfold sealN; rw [hmy]; rfl)
        have HSE := Lib.hid (rsealB_any (fbV vol (k : Int)) none 0 wr rfl ⟨⟨by show _ ≤ (1 : Int); omega, by show (1 : Int) ≤ _; omega⟩, ⟨by show _ ≤ vol; have := HVW.out; omega, by show vol ≤ _; have := HVW.out; omega⟩, ⟨by show _ ≤ (k : Int); omega, by show (k : Int) ≤ _; have := HN2.out; omega⟩, ⟨by show _ ≤ (0 : Int); omega, by show (0 : Int) ≤ _; omega⟩, ⟨by show _ ≤ (0 : Int); omega, by show (0 : Int) ≤ _; omega⟩, ⟨none, 0, rfl, ⟨by show (0 : Nat) ≤ _; omega, Nat.le_refl _⟩, fun q => absurd q (Nat.lt_irrefl 0)⟩⟩)
        have HBT := Lib.hid (built_fb vol (k : Int) wr)
        clear hlt hmy
        go_wp2_with (first
          | ((with_reducible refine wpList_isOp (.build 71 #[(0, .const (.int .i64 1)), (1, .tmp 54), (2, .tmp 55)]) rfl ?_); refine wpList_building _ rfl 71 #[(0, .const (.int .i64 1)), (1, .tmp 54), (2, .tmp 55)] rfl _ (by exact HBT.out) ?_)
          | fail)
        refine HSE.out.mono ?_
        rintro e w4 ⟨A4, C4, rfl, ho4, hc4⟩
        rw [HSN.out] at ho4
        rw [HSN.out]
        obtain ⟨sb, rfl, hob⟩ := own_new (w := wr) ho4 (by omega) (by omega) (sectZ_b (fun c hc => absurd hc (Nat.not_lt_zero c)) 256) (Nat.le_refl _)
        obtain ⟨sE, hsE⟩ : ∃ sE, sE = sealE (fbV vol (k : Int)) := ⟨_, rfl⟩
        rw [← hsE]
        have hlm := bk_lims vol N k hk
        have HWR := Lib.hid (HK.out.cal2 hc4 (d' := writeD (bkTo vol N k) (k : Int) 256 (sectZ (fbV vol (k : Int)))) (r := .int .i64 (writeE (bkTo vol N k) (k : Int) 256)) (F := 47) (args := #[.pointer (some ⟨B, 0, none⟩), .int .i64 (k : Int), .slice (some ⟨sb, 0, none⟩) 256 C4]) fun p hp h3 hf => by
          subst hp
          exact write_any _ p (bkTo vol N k) (k : Int) sb 0 256 C4 _ w4 h3 hob.row (hf sb hob.lo) (by have := hlm.1.ops; have := HN2.out; omega) (by have := hlm.1.W; have := HN2.out; omega) (fun a => by have := hlm.1.drops a; have := HN2.out; omega))
        clear ho4 hc4 hob hlm hsE
        go_wp2_with fail
        refine HWR.out.mono ?_
        rintro e w5 ⟨rfl, hO5⟩
        have HO5 : Hid (One w B (bkTo vol N (k + 1)) w5) := Lib.hid hO5
        clear hO5 HWR
        have hlt2 := HLT.out
        go_wp2
        go_roundw
        case rel => exact ⟨k + 1, HLT.out, by go_num, HO5⟩
        case measure => have := HLT.out; simp [intOf]; omega
      · obtain rfl : k = N := by omega
        have hlm := bk_lims vol k k (Nat.le_refl _)
        have HFL := Lib.hid (HK.out.flush hlm.1 (by have := HN2.out; omega))
        clear hlm hlt hk
        go_wp2_with fail
        refine HFL.out.mono ?_
        rintro e w5 ⟨rfl, hO5⟩
        have HFIN : Hid (BlankPost11 vol n.ge w (.returned (.pointer (some ⟨B, 0, none⟩))) w5) := Lib.hid ⟨(fun h => by rw [HB.out] at h; cases h), fun n' _ he => by
          have e : secsG n' = k := by
            rw [HNN.out]
            obtain ⟨a, b, c, d⟩ := n
            obtain ⟨a', b', c', d'⟩ := n'
            unfold Gn.ge at he
            simp only [Ge.mk.injEq, Int.natCast_inj] at he
            obtain ⟨rfl, rfl, rfl, rfl⟩ := he
            rfl
          exact ⟨B, rfl, by rw [e]; exact hO5⟩⟩
        clear hO5
        go_wp2
        go_ret
        exact HFIN.out
end Go.Proofs.YtlbdopcchoklhaaGreat
namespace Go.Proofs.YtlbdopcchoklhaaGreat
open Go.RowKit
set_option linter.unusedVariables false
set_option maxRecDepth 100000
set_option linter.unusedSimpArgs false

theorem area_in {n : Gn} (hn : n.Ok) {a : Nat} (ha : a ≤ 1) : frsN n a 0 + n.S * n.q ≤ secsG n := by
  unfold frsN secsG Gn.fs
  have e : 2 * n.S * (n.K + n.M) = 2 * (n.S * n.q) := by unfold Gn.q; rw [Nat.mul_assoc]
  rw [e]
  rcases Nat.le_one_iff_eq_zero_or_eq_one.1 ha with rfl | rfl
  · rw [Nat.zero_mul, Nat.zero_add, Nat.zero_mul]; omega
  · rw [Nat.one_mul, Nat.add_zero]; omega
/-- A blank sector tells no share. -/
theorem shr_blank {vol no ad v : Int} {k : Nat} {z : Nat → Nat} (hv : 0 ≤ v ∧ v ≤ 4294967295) (hk : k ≤ 4294967295) (hz : ∀ c, c < 256 → z c = sectZ (fbk v (k : Int)) c) : shrB vol no ad 256 z = false := by
  have s := (readB_at hz undef undef).trans (back (fbk_may hv ⟨by omega, by omega⟩) undef)
  unfold shrB
  rw [s.kind, decide_eq_false (show ¬ (fbk v (k : Int)).kind = 4 from by show ¬ (1 : Int) = 4; decide), Bool.false_and, Bool.and_false]
section
variable {n : Gn}
/-- What is written on a blank device is there. -/
theorem snp_first (hn : n.Ok) {a : Nat} (ha : a ≤ 1) (vol ep no : Int) (Z : Nat → Nat) :
    (allTo (snpP vol ep no n a Z) (bkD 7 (secsG n)) (n.S * n.q)).e = 0 ∧ SnpOn (secsG n) (allTo (snpP vol ep no n a Z) (bkD 7 (secsG n)) (n.S * n.q)).d vol ep no n a Z (fun _ => false) ∧ ∀ b, (b < frsN n a 0 ∨ frsN n a 0 + n.S * n.q ≤ b) → (allTo (snpP vol ep no n a Z) (bkD 7 (secsG n)) (n.S * n.q)).d.has b = (bkD 7 (secsG n)).has b ∧ (allTo (snpP vol ep no n a Z) (bkD 7 (secsG n)) (n.S * n.q)).d.lost b = (bkD 7 (secsG n)).lost b :=
  snp_written (bk_fine 7 (secsG n)).1 (area_in hn ha)
end
end Go.Proofs.YtlbdopcchoklhaaGreat
namespace Go.Proofs.YtlbdopcchoklhaaGreat
open Go.ChangeShapes Go.WideShapes Go.ChangeAt Go.RowKit Go.Deep
set_option linter.unusedVariables false
set_option maxRecDepth 100000

theorem RowQ.gr {w w' : World} {v : Value} {m : Nat} {q : Nat → Bool} (h : RowQ w v m q) (k : Ch (fun _ => False) w w') : RowQ w' v m q := by
  obtain ⟨A, C, h1, h2, h3⟩ := h
  refine ⟨A, C, h1, h2, fun hm => ?_⟩
  obtain ⟨b, o, hA, hc⟩ := h3 hm
  exact ⟨b, o, hA, fun c hcm => k.cell (hc c hcm) (fun f => f)⟩
end Go.Proofs.YtlbdopcchoklhaaGreat
namespace Go.Proofs.YtlbdopcchoklhaaGreat
open Go.RowKit
set_option linter.unusedVariables false
set_option maxRecDepth 100000
set_option linter.unusedSimpArgs false

theorem rd_readS {N : Nat} {d : Dev} (h : Fine N d) {n : Gn} {a s : Nat} (hN : frsN n a s + n.q ≤ N) : ReadS d n a s (rdL d (frsN n a s)) (rdZ d (frsN n a s)) := fun r hr => by
  have ho : openE d ((frsN n a s + r : Nat) : Int) = 0 := h.qt.open' (by omega)
  have e : ((frsN n a s : Int) + (r : Int)) = ((frsN n a s + r : Nat) : Int) := by omega
  have hl : lastW d.W (frsN n a s + r) = none := by rw [h.qt.W]; rfl
  unfold rdL rdZ readL readE readZ
  rw [e, if_pos ho, Int.toNat_natCast, hl]
  constructor
  · intro h1
    rw [h1]
    rfl
  · intro h1
    rw [h1]
    exact ⟨rfl, fun c _ => rfl⟩
section
variable {N : Nat} {d : Dev} {vol ep no : Int} {n : Gn} {a : Nat} {Z : Nat → Nat} {hu : Nat → Bool}
theorem rd_left (hw : SnpOn N d vol ep no n a Z hu) (hn : n.Ok) (ha : a ≤ 1) (hN : secsG n ≤ N) (hv : 0 ≤ vol ∧ vol ≤ 4294967295) (he : 0 ≤ ep ∧ ep ≤ 4294967295) (ho : 0 ≤ no ∧ no ≤ 4294967295) (hZ : ∀ i, Z i < 256) {s : Nat} (hs : s < n.S) :
    ReadS d n a s (rdL d (frsN n a s)) (rdZ d (frsN n a s)) ∧ leftN d vol no n a s = cntL (fun r => !hu (s * n.q + r)) n.q := by
  have h1 := frsN_lt hn ha hs (i := n.q - 1) (by have := hn.q1; omega)
  have h2 : n.tot = secsG n := by unfold Gn.tot Gn.fs secsG Gn.q; rw [Nat.mul_assoc]
  have hr := rd_readS hw.fine (n := n) (a := a) (s := s) (by have := hn.q1; omega)
  exact ⟨hr, (snp_left hw hn ha hv he ho hZ hs hr).1⟩
/-- Where enough are left the bytes are those that were written. -/
theorem rd_bytes (hw : SnpOn N d vol ep no n a Z hu) (hn : n.Ok) (ha : a ≤ 1) (hN : secsG n ≤ N) (hv : 0 ≤ vol ∧ vol ≤ 4294967295) (he : 0 ≤ ep ∧ ep ≤ 4294967295) (ho : 0 ≤ no ∧ no ≤ 4294967295) (hZ : ∀ i, Z i < 256) {Ds : Nat → Nat → Nat → Nat}
    (h : ∀ s, s < n.S → n.K ≤ leftN d vol no n a s ∧ DatS d vol no n a s (Ds s)) {i : Nat} (hi : i < n.S * n.K * 228) : rdB n.K Ds i = Z i := by
  have hk := hn.k1
  have hi2 : i < n.S * (n.K * 228) := by rw [← Nat.mul_assoc]; exact hi
  have hpos : 0 < n.K * 228 := by omega
  have hs : i / (n.K * 228) < n.S := (Nat.div_lt_iff_lt_mul hpos).2 hi2
  have hm : i % (n.K * 228) < n.K * 228 := Nat.mod_lt _ hpos
  have hr : (i % (n.K * 228)) / 228 < n.K := (Nat.div_lt_iff_lt_mul (by omega)).2 hm
  have hc : (i % (n.K * 228)) % 228 < 228 := Nat.mod_lt _ (by omega)
  obtain ⟨h1, h2⟩ := h _ hs
  obtain ⟨hrs, hl⟩ := rd_left hw hn ha hN hv he ho hZ hs
  rw [hl] at h1
  have := snp_data hw hn ha hv he ho hZ hs hrs h1 h2 _ _ hr hc
  unfold rdB
  rw [this]
  congr 1
  have e1 := Nat.div_add_mod i (n.K * 228)
  have e2 := Nat.div_add_mod (i % (n.K * 228)) 228
  have e3 : (i / (n.K * 228) * n.K + i % (n.K * 228) / 228) * 228 = n.K * 228 * (i / (n.K * 228)) + 228 * (i % (n.K * 228) / 228) := by
    rw [Nat.add_mul, Nat.mul_comm (n.K * 228), ← Nat.mul_assoc, Nat.mul_comm 228]
  omega
/-- Are there enough of each stripe? -/
def Enough (n : Gn) (hu : Nat → Bool) : Prop := ∀ s, s < n.S → cntL (fun r => hu (s * n.q + r)) n.q ≤ n.M
theorem rd_enough (hw : SnpOn N d vol ep no n a Z hu) (hn : n.Ok) (ha : a ≤ 1) (hN : secsG n ≤ N) (hv : 0 ≤ vol ∧ vol ≤ 4294967295) (he : 0 ≤ ep ∧ ep ≤ 4294967295) (ho : 0 ≤ no ∧ no ≤ 4294967295) (hZ : ∀ i, Z i < 256) : Enough n hu ↔ ∀ s, s < n.S → n.K ≤ leftN d vol no n a s :=
  ⟨fun h s hs => by rw [(rd_left hw hn ha hN hv he ho hZ hs).2]; exact enough_left.2 (h s hs), fun h s hs => by have := h s hs; rw [(rd_left hw hn ha hN hv he ho hZ hs).2] at this; exact enough_left.1 this⟩
end
/-! ### calls -/
section
variable {w0 w w1 : World} {X : Nat → Prop} {B : Nat} {d : Dev}
theorem OneX.snpWrite {A : Option Addr} {l C t : Nat} {z : Nat → Nat} {vol ep no : Int} {n : Gn} {a : Nat} (h : OneX w0 X B d w) (hn : n.Ok) (ha : a ≤ 1) (hv : 0 ≤ vol ∧ vol ≤ 4294967295) (he : 0 ≤ ep ∧ ep ≤ 4294967295) (ho : 0 ≤ no ∧ no ≤ 4294967295) (hl : l ≤ n.S * n.K * 228) (hb : RowV w (.slice A l C) l z) (hlm : Lim d t) (hmm : LimM d t) (ht : t ≤ 970000) :
    Calls Tryz.prog 20 #[.pointer (some ⟨B, 0, none⟩), .int .i64 vol, .agg (geC n.ge), .int .i64 (a : Int), .int .i64 ep, .int .i64 no, .slice A l C] w (OnePX w0 X B (allTo (snpP vol ep no n a (padZ l z)) d (n.S * n.q)).d (.int .i64 (allTo (snpP vol ep no n a (padZ l z)) d (n.S * n.q)).e) w) :=
  h.run (Ch.refl _ w) fun p hp h3 _ => by
    subst hp
    exact swrite_yes _ p d A l C t z vol ep no n a w h3 hn ha hv he ho hl hb hlm hmm ht
theorem OneX.fault {t : Nat} {f : Fa} (h : OneX w0 X B d w) (hf : FaOk f) (hl : Lim d t) (hm : LimM d t) (ht : t ≤ 1000000) : Calls Tryz.prog 21 #[.pointer (some ⟨B, 0, none⟩), .agg (faC f)] w (OnePX w0 X B (faultD d f) (.int .i64 (faultE d f)) w) :=
  h.run (Ch.refl _ w) fun p hp h3 _ => by
    subst hp
    exact fault_any _ p d f t w h3 hf hl hm ht
theorem OneX.ops (h : OneX w0 X B d w) : Calls Tryz.prog 25 #[.pointer (some ⟨B, 0, none⟩)] w fun e w' => e = .returned (.int .i64 (d.ops : Int)) ∧ w = w' := by
  obtain ⟨p, rfl, h3, _⟩ := h.dev
  exact ops_any _ p d w h3
/-- What Read answers, and what is left. -/
def RdOne (w0 : World) (X : Nat → Prop) (B : Nat) (d : Dev) (c0 : Nat) (vol no : Int) (n : Gn) (a long : Nat) (w : World) (e : Ending) (w' : World) : Prop :=
  ∃ c v k, c ≤ c0 + n.S * n.q ∧ e = .returned (.tuple #[v, .int .i64 k]) ∧ OneX w0 (fun i => X i ∨ v.ownBlock = some i) B (opD d c) w' ∧ Ch (fun i => w0.heap.size ≤ i ∧ ¬ X i) w w' ∧ (∀ b, v.ownBlock = some b → w.heap.size ≤ b) ∧
    ((k = 0 ∧ ∃ Ds, (∀ s, s < n.S → n.K ≤ leftN d vol no n a s ∧ DatS d vol no n a s (Ds s)) ∧ RowV w' v long (rdB n.K Ds)) ∨ (k = 22 ∧ v = .slice none 0 0 ∧ ∃ s, s < n.S ∧ leftN d vol no n a s < n.K))
theorem OneX.snpRead {c0 long : Nat} {vol no : Int} {n : Gn} {a : Nat} (h : OneX w0 X B (opD d c0) w) (hc0 : c0 ≤ 900000) (hW : d.W.length ≤ 1000000) (hdd : d.dead = false) (hn : n.Ok) (ha : a ≤ 1) (hv : 0 ≤ vol ∧ vol ≤ 4294967295) (ho : 0 ≤ no ∧ no ≤ 4294967295) (hl : long ≤ n.S * n.K * 228) :
    Calls Tryz.prog 22 #[.pointer (some ⟨B, 0, none⟩), .int .i64 vol, .agg (geC n.ge), .int .i64 (a : Int), .int .i64 no, .int .i64 (long : Int)] w (RdOne w0 X B d c0 vol no n a long w) := by
  obtain ⟨p, rfl, h3, h4⟩ := h.dev
  refine (sread_yes _ p d c0 vol no n a long w h3 hc0 hW hdd hn ha hv ho hl).mono ?_
  rintro e w' ⟨c, hc, hd, hk, hr⟩
  have hk' : Ch (fun i => w0.heap.size ≤ i ∧ ¬ X i) w w' := hk.mono fun i _ hi => ⟨(h3.foot (foot_op.2 hi)).1, fun x => h4 i x (foot_op.2 hi)⟩
  have hone : ∀ v : Value, (∀ b, v.ownBlock = some b → w.heap.size ≤ b ∧ b < w'.heap.size) → OneX w0 (fun i => X i ∨ v.ownBlock = some i) p.B (opD d c) w' := fun v hv => ⟨h.ch.new (hk'.mono fun i _ hi => hi.1), ⟨p, rfl, hd, fun i x q => by
    have hq := foot_op.1 q
    rcases x with x | x
    · exact h4 i x (foot_op.2 hq)
    · have := (h3.foot (foot_op.2 hq)).2
      have := (hv i x).1
      omega⟩, fun i x => by
    rcases x with x | x
    · exact Nat.lt_of_lt_of_le (h.lt i x) hk.size
    · exact (hv i x).2⟩
  rcases hr with ⟨v, Ds, h5, rfl, h6, h7⟩ | ⟨h5, rfl⟩
  · exact ⟨c, v, 0, hc, rfl, hone v h7, hk', fun b e => (h7 b e).1, Or.inl ⟨rfl, Ds, h5, h6⟩⟩
  · exact ⟨c, .slice none 0 0, 22, hc, rfl, hone _ (fun b e => by cases e), hk', (fun b e => by cases e), Or.inr ⟨rfl, rfl, h5⟩⟩
end
end Go.Proofs.YtlbdopcchoklhaaGreat
