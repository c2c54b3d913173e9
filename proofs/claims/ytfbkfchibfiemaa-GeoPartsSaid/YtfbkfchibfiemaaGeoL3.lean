/-
  GeoParts, walked.
-/
import Derived.Test.YtfbkfchibfiemaaGeoW
namespace Go.Proofs.Ytfbkfchibfiemaa
open Go.RowKit
set_option linter.unusedVariables false
set_option maxRecDepth 100000

/-! ### how often each sector was seen -/
def seenN' (n : Gn) (i k a : Nat) : Int := ((Gn.seenN n i k a : Nat) : Int)
structure SeenSt (w6 wr : World) (G : Nat) (n : Gn) (i k : Nat) : Prop where
  row : wr.rowIs G /-t-/3 n.tot (fun a => .int .i64 (seenN' n i k a))
  ch : Ch (fun j => j = G) w6 wr
theorem SeenSt.gr {w6 wr w' : World} {G i k : Nat} {n : Gn} (h : SeenSt w6 wr G n i k) (c : Ch (fun _ => False) wr w') : SeenSt w6 w' G n i k := ⟨c.rowIs h.row (fun q => q), h.ch.trans (c.mono fun _ _ q => q.elim)⟩
theorem SeenSt.set {w6 wr : World} {G i k : Nat} {n : Gn} (hn : n.Ok) (hi : i < n.grp) (hk : k < n.cnt i) (h : SeenSt w6 wr G n i k) : SeenSt w6 (wr.setCell ⟨G, n.sec i k, none⟩ (.int .i64 1)) G n i (k + 1) := by
  refine ⟨(h.row.set _ _).congr fun a ha => ?_, h.ch.setCell (Or.inl rfl) _⟩
  have e := Gn.seen_step hn hi hk ha
  unfold seenN'
  rw [e]
  split
  · rfl
  · rfl
theorem SeenSt.next {w6 wr : World} {G i : Nat} {n : Gn} (hn : n.Ok) (h : SeenSt w6 wr G n i (n.cnt i)) : SeenSt w6 wr G n (i + 1) 0 := by
  refine ⟨h.row.congr fun a ha => ?_, h.ch⟩
  unfold seenN'
  rw [Gn.seen_next hn ha]
theorem where_sec {n : Gn} (hn : n.Ok) {i k : Nat} (hi : i < n.grp) (hk : k < n.cnt i) : whV n.ge ((n.sec i k : Nat) : Int) = .tuple #[.int .i64 (i : Int), .int .i64 (k : Int), .int .i64 0] := by
  obtain ⟨e1, e2⟩ := Gn.of_sec hn hi hk
  rw [whE_at hn (Gn.sec_lt hn hi hk), e1, e2]
set_option maxHeartbeats 6400000 in
set_option maxRecDepth 100000 in
theorem geoParts_may (n : Gn) (hn : n.Ok) (w : World) : Calls Try.prog 4 #[.agg (geC n.ge)] w (Told w) := by
  obtain ⟨w1, H, hR⟩ := geR w n.ge
  have HR := Lib.hid hR
  have HX1 := Lib.hid hR.x
  have HM := Lib.hid (ok_may hn)
  have HN := Lib.hid hn
  have HTT := Lib.hid (totG_ok hn)
  have HGG := Lib.hid (grpG_ok hn)
  clear hR hn
  go_enter Try.func4, Try.ntmps4
  go_wp2_with ((with_reducible refine wpList_isOp (.box 23 (.tmp 0)) rfl ?_); refine wpList_boxing _ w1 rfl 23 (.tmp 0) rfl (geC n.ge) H rfl (by exact HR.out.sz) (by exact HR.out.al) ?_)
  refine (gawake_any _).mono ?_
  rintro e w2 ⟨rfl, hc2⟩
  have HX2 := Lib.hid (HX1.out.gr hc2)
  have HC2 := Lib.hid (HR.out.ch.trans hc2)
  have hx := HX2.out
  obtain ⟨x0, x1, x2, x3⟩ := hx
  clear hc2
  go_wp2_with fail
  refine (gmay_any n.ge _).mono ?_
  rintro e w3 ⟨rfl, hc3⟩
  rw [HM.out]
  have HX3 := Lib.hid (HX2.out.gr hc3)
  have HC3 := Lib.hid (HC2.out.trans hc3)
  have hx := HX3.out
  obtain ⟨y0, y1, y2, y3⟩ := hx
  clear hc3 x0 x1 x2 x3
  go_wp2_with fail
  refine (sectors_any n.ge _).mono ?_
  rintro e w4 ⟨rfl, hc4⟩
  rw [HTT.out]
  have hT2 := HN.out.tot2
  have hG2 := HN.out.grp2
  have HX4 := Lib.hid (HX3.out.gr hc4)
  have HC4 := Lib.hid (HC3.out.trans hc4)
  have hmk := made_int n.tot w4 (by omega)
  have HMR := Lib.hid (made_row n.tot w4)
  obtain ⟨G, hG⟩ : ∃ G, G = w4.heap.size := ⟨_, rfl⟩
  obtain ⟨w6, hw6⟩ : ∃ w6, w6 = w4.alloc (.cells (madeCells #[.int .i64 0] n.tot) /-t-/3) := ⟨_, rfl⟩
  have h46 : Ch (fun _ => False) w4 w6 := by rw [hw6]; exact (Ch.refl _ w4).alloc _ _
  have HX6 := Lib.hid (HX4.out.gr h46)
  have HC6 := Lib.hid (HC4.out.trans h46)
  have HHG := Lib.hid (show H ≠ G by have := World.block_lt_of_cell? _ _ HX4.out.x0; rw [hG]; simp only at this; omega)
  have HGL := Lib.hid (show G < w6.heap.size by rw [hG, hw6]; simp)
  have HGB := Lib.hid (show w.heap.size ≤ G by rw [hG]; exact HC4.out.size)
  rw [← hG, ← hw6] at hmk HMR
  have HS0 := Lib.hid (show SeenSt w6 w6 G n 0 0 from ⟨HMR.out.congr fun a _ => by unfold seenN'; rw [Gn.seen_start]; rfl, Ch.refl _ _⟩)
  clear hc4 hG hw6 h46 y0 y1 y2 y3
  obtain ⟨T, hT⟩ : ∃ T, T = n.tot := ⟨_, rfl⟩
  have HT := Lib.hid hT
  obtain ⟨P, hP⟩ : ∃ P, P = n.grp := ⟨_, rfl⟩
  have HP := Lib.hid hP
  rw [← hT] at hT2 hmk ⊢
  rw [← hP] at hG2
  clear hT hP
  go_wp2
  clear hmk
  go_loopw [5, 6, 7, 8, 9, 10] (fun x _ _ _ _ _ wr => ∃ i : Nat, i ≤ P ∧ x = .int .i64 (i : Int) ∧ Hid (SeenSt w6 wr G n i 0)) (fun x _ _ _ _ _ _ => P - (intOf x).toNat)
  case atStart => exact ⟨0, Nat.zero_le _, rfl, HS0⟩
  case round =>
    obtain ⟨i, hi, rfl, HK⟩ := hrel
    have HXR := Lib.hid (HX6.out.off HK.out.ch HHG.out)
    have hx := HXR.out
    obtain ⟨x0, x1, x2, x3⟩ := hx
    go_wp2_with fail
    refine (groups_any n.ge _).mono ?_
    rintro e w7 ⟨rfl, hc7⟩
    rw [HGG.out, ← HP.out]
    have HX7 := Lib.hid (HXR.out.gr hc7)
    have HK7 := Lib.hid (HK.out.gr hc7)
    have hx := HX7.out
    obtain ⟨y0, y1, y2, y3⟩ := hx
    clear hc7 x0 x1 x2 x3
    by_cases hlt : i < P
    · have t1 : decide (i < P) = true := decide_eq_true hlt
      have HIP := Lib.hid (show i < n.grp by rw [← HP.out]; exact hlt)
      go_wp2_with fail
      refine (members_any n.ge (i : Int) _).mono ?_
      rintro e w8 ⟨L, rfl, ho8, hc8⟩
      rw [cntG_ok HN.out HIP.out] at ho8 ⊢
      have HCL := Lib.hid (Gn.cnt_le HN.out i)
      obtain ⟨c, hcc⟩ : ∃ c, c = n.cnt i := ⟨_, rfl⟩
      have HCC := Lib.hid hcc
      rw [← hcc] at ho8 HCL ⊢
      have HI8 := Lib.hid (own_intV ho8 (by have := HCL.out; omega))
      have HK8 := Lib.hid (HK7.out.gr hc8)
      have HX8 := Lib.hid (HX7.out.gr hc8)
      have HLG := Lib.hid (show 0 < c → L ≠ G from fun _ e => by
        have h1 := (own_at ho8 (i := L) rfl).1
        have h2 := HK7.out.row.lt
        omega)
      clear hc8 ho8 hcc y0 y1 y2 y3
      go_wp2
      go_loopw [7, 8, 9, 10] (fun x _ _ _ wr => ∃ k : Nat, k ≤ c ∧ x = .int .i64 (k : Int) ∧ Hid (SeenSt w6 wr G n i k ∧ Ch (fun j => j = G) w8 wr)) (fun x _ _ _ _ => c - (intOf x).toNat)
      case atStart => exact ⟨0, Nat.zero_le _, rfl, Lib.hid ⟨HK8.out, Ch.refl _ _⟩⟩
      case round =>
        obtain ⟨k, hk, rfl, HQ⟩ := hrel
        by_cases hlk : k < c
        · have HKC := Lib.hid (show k < n.cnt i by rw [← HCC.out]; exact hlk)
          have hcb := HCL.out
          obtain ⟨L', o, eL, hcell⟩ := HI8.out.at (by omega)
          injection eL with eL
          injection eL with eL1 eL2
          subst eL1
          subst eL2
          have cl := hcell k hlk
          rw [Nat.zero_add, show secG n.ge (i : Int) k = ((n.sec i k : Nat) : Int) from secG_ok n i k] at cl
          have HCLL := Lib.hid (HQ.out.2.cell cl (HLG.out (by omega)))
          obtain ⟨S, hS⟩ : ∃ S, S = n.sec i k := ⟨_, rfl⟩
          have HSS := Lib.hid hS
          have hS2 : S < T := by rw [hS, HT.out]; exact Gn.sec_lt HN.out HIP.out HKC.out
          have HWS := Lib.hid (show whV n.ge (S : Int) = .tuple #[.int .i64 (i : Int), .int .i64 (k : Int), .int .i64 0] by rw [hS]; exact where_sec HN.out HIP.out HKC.out)
          have HXW := Lib.hid (HX6.out.off HQ.out.1.ch HHG.out)
          rw [← hS] at HCLL
          have q0 := HCLL.out
          have t2 : decide (k < c) = true := decide_eq_true hlk
          have t3 : decide (T ≤ S) = false := decide_eq_false (by omega)
          have i1 : (0 : Int) ≤ (k : Int) := Int.natCast_nonneg _
          have i2 : (k : Int) < (c : Int) := by omega
          have j1 : (0 : Int) ≤ (S : Int) := Int.natCast_nonneg _
          have j2 : (S : Int) < (T : Int) := by omega
          clear hS cl hcell
          have hx := HXW.out
          obtain ⟨x0, x1, x2, x3⟩ := hx
          go_wp2
          go_region_held3 (fun W => (W.cell? ⟨H, 0, none⟩ = some (.int .i64 n.ge.wal) ∧ W.cell? ⟨H, 1, none⟩ = some (.int .i64 n.ge.st) ∧ W.cell? ⟨H, 2, none⟩ = some (.int .i64 n.ge.k) ∧ W.cell? ⟨H, 3, none⟩ = some (.int .i64 n.ge.m)) ∧ W.cell? ⟨L, k, none⟩ = some (.int .i64 (S : Int))) (first | go_keep | exact k9)
            (first
              | (go_at_call 8; refine (where_any n.ge (S : Int) _).mono ?_; rintro e w9 ⟨rfl, hc9⟩; rw [HWS.out]; have hd9 := (Ch.refl (fun _ => False) wr).drew.trans hc9; have k9 := And.intro (HXW.out.gr hd9).all (hd9.cell HCLL.out (fun q => q))))
          have HK9 := Lib.hid (HQ.out.1.gr hd9)
          have HC9 := Lib.hid (HQ.out.2.trans (hd9.mono fun _ _ q => q.elim))
          have r0 := hd9.cell HCLL.out (fun q => q)
          have r1 : w9.cell? ⟨G, S, none⟩ = some (.int .i64 0) := by
            have h := HK9.out.row.cell (i := S) (by rw [← HT.out]; exact hS2)
            have e : seenN' n i k S = 0 := by unfold seenN'; rw [HSS.out, Gn.seen_at HN.out HIP.out HKC.out]; rfl
            rw [e] at h
            exact h
          have r2 := HK9.out.row.frozen S
          have HKE := Lib.hid (show SeenSt w6 (w9.setCell ⟨G, S, none⟩ (.int .i64 1)) G n i (k + 1) from by rw [HSS.out]; exact HK9.out.set HN.out HIP.out HKC.out)
          have HCE := Lib.hid (HC9.out.setCell (p := ⟨G, S, none⟩) (Or.inl rfl) (.int .i64 1))
          clear k9 hc9 hd9 x0 x1 x2 x3 q0
          go_wp2
          go_roundw
          case rel => exact ⟨k + 1, by omega, by go_num, Lib.hid ⟨HKE.out, HCE.out⟩⟩
          case measure => simp [intOf]; omega
        · obtain rfl : k = c := by omega
          have HKE := Lib.hid (show SeenSt w6 wr G n (i + 1) 0 from by
            have h := HQ.out.1
            rw [HCC.out] at h
            exact h.next HN.out)
          clear HQ
          go_wp2
          go_roundw
          case rel => exact ⟨i + 1, by omega, by go_num, HKE⟩
          case measure => simp [intOf]; omega
    · obtain rfl : i = P := by omega
      have HKL := Lib.hid HK7.out
      clear y0 y1 y2 y3 HK HK7
      go_wp2
      go_loopw [11] (fun x wr => ∃ a : Nat, a ≤ T ∧ x = .int .i64 (a : Int) ∧ Hid (wr = w7)) (fun x _ => T - (intOf x).toNat)
      case atStart => exact ⟨0, Nat.zero_le _, rfl, rfl⟩
      case round =>
        obtain ⟨a, ha, rfl, HE⟩ := hrel
        have he := HE.out
        subst he
        by_cases hla : a < T
        · have c1 : wr.cell? ⟨G, a, none⟩ = some (.int .i64 1) := by
            have hat : a < n.tot := by rw [← HT.out]; exact hla
            have h := HKL.out.row.cell (i := a) hat
            have e : seenN' n i 0 a = 1 := by unfold seenN'; rw [HP.out, Gn.seen_all HN.out hat]; rfl
            rw [e] at h
            exact h
          have t1 : decide (a < T) = true := decide_eq_true hla
          have i1 : (0 : Int) ≤ (a : Int) := Int.natCast_nonneg _
          have i2 : (a : Int) < (T : Int) := by omega
          go_wp2
          go_roundw
          case rel => exact ⟨a + 1, by omega, by go_num, Lib.hid trivial⟩
          case measure => simp [intOf]; omega
        · obtain rfl : a = T := by omega
          have HCE := Lib.hid (HC6.out.new (HKL.out.ch.mono fun j _ q => by rw [q]; exact HGB.out))
          go_wp2
          go_ret
          exact ⟨rfl, HCE.out⟩
#print axioms geoParts_may
set_option maxHeartbeats 1600000 in
set_option maxRecDepth 100000 in
theorem geoParts_of (g : Ge) (w : World) : Calls Try.prog 4 #[.agg (geC g)] w (Told w) := by
  cases t1 : mayG g
  · obtain ⟨w1, H, hR⟩ := geR w g
    have HR := Lib.hid hR
    have HX1 := Lib.hid hR.x
    have HT := Lib.hid (totG_no t1)
    have HG := Lib.hid (grpG_no t1)
    clear hR
    go_enter Try.func4, Try.ntmps4
    go_wp2_with ((with_reducible refine wpList_isOp (.box 23 (.tmp 0)) rfl ?_); refine wpList_boxing _ w1 rfl 23 (.tmp 0) rfl (geC g) H rfl (by exact HR.out.sz) (by exact HR.out.al) ?_)
    refine (gawake_any _).mono ?_
    rintro e w2 ⟨rfl, hc2⟩
    have HC2 := Lib.hid (HR.out.ch.trans hc2)
    have HX2 := Lib.hid (HX1.out.gr hc2)
    have hx := HX2.out
    obtain ⟨x0, x1, x2, x3⟩ := hx
    clear hc2
    go_wp2_with fail
    refine (gmay_any g _).mono ?_
    rintro e w3 ⟨rfl, hc3⟩
    have HC3 := Lib.hid (HC2.out.trans hc3)
    have HX3 := Lib.hid (HX2.out.gr hc3)
    have hx := HX3.out
    obtain ⟨y0, y1, y2, y3⟩ := hx
    clear hc3 x0 x1 x2 x3
    go_wp2_with fail
    refine (sectors_any g _).mono ?_
    rintro e w4 ⟨rfl, hc4⟩
    rw [HT.out]
    have HC4 := Lib.hid (HC3.out.trans hc4)
    have HX4 := Lib.hid (HX3.out.gr hc4)
    have hx := HX4.out
    obtain ⟨x0, x1, x2, x3⟩ := hx
    clear hc4 y0 y1 y2 y3
    go_wp2_with fail
    refine (groups_any g _).mono ?_
    rintro e w5 ⟨rfl, hc5⟩
    rw [HG.out]
    go_wp2
    go_ret
    exact ⟨rfl, HC4.out.trans hc5⟩
  · obtain ⟨n, hn, rfl⟩ := may_nat t1
    exact geoParts_may n hn w
#print axioms geoParts_of
end Go.Proofs.Ytfbkfchibfiemaa
