/-
  KeepPuts, walked: where no more than 3 writes of a sector, one behind the other, go wrong, it has what was to be written, durably.
-/
import Derived.Test.YtjibfoplihaabaaMg45
import Derived.Test.YtjibfoplihaabaaMg36
namespace Go.Proofs.Ytjibfoplihaabaa
open Go.RowKit
set_option linter.unusedVariables false
set_option maxRecDepth 100000

/-- A device of 8 sectors that nothing waits on, of which at most x writes of k are dropped, and y misled. -/
structure Wro (d : Dev) (k x y : Nat) : Prop where
  qt : Qt 8 d
  lost : ∀ a, d.lost a = false
  drops : d.drops k ≤ x
  miss : (d.miss k).length ≤ y
theorem Wro.start (k : Nat) : Wro (dev0 8) k 0 0 := ⟨qt0 8, fun _ => rfl, Nat.le_refl _, Nat.le_refl _⟩
theorem Wro.drop {k m : Nat} (hk : k < 8) (h1 : 1 ≤ m) (h2 : m ≤ 1000) : Wro (faultD (dev0 8) (fdr k m)) k m 0 := by
  obtain ⟨e, _⟩ := drop_qt (qt0 8) hk h1 h2
  rw [e]
  refine ⟨(qt0 8).drops _, fun _ => rfl, ?_, Nat.le_refl _⟩
  show up _ k _ k ≤ m
  rw [up_same]
  show 0 + m ≤ m
  omega
def fms (a t : Int) : Fa := ⟨5, a, 0, 0, t, 0, 0, 0, 0⟩
theorem i64_5 : I64 5 := i64_lit (by decide)
theorem fms_ok {a t : Int} (ha : I64 a) (ht : I64 t) : FaOk (fms a t) := ⟨i64_5, ha, i64_0, i64_0, ht, b8_0, b8_0, b8_0, b8_0⟩
theorem Wro.misled {d : Dev} {k x y : Nat} (h : Wro d k x y) (t : Int) : Wro (faultD d (fms k t)) k x (y + 1) := by
  unfold faultD
  cases hb : hasB d (fms k t).pl
  · exact ⟨h.qt, h.lost, h.drops, Nat.le_succ_of_le h.miss⟩
  · rw [if_pos rfl, show (fms k t).kind = 5 from rfl, if_neg (by decide), if_neg (by decide), if_neg (by decide), if_neg (by decide), if_pos rfl]
    unfold missD
    split
    · refine ⟨⟨h.qt.n, h.qt.dead, h.qt.armed, h.qt.W⟩, h.lost, h.drops, ?_⟩
      show (up d.miss (k : Int).toNat _ k).length ≤ y + 1
      rw [Int.toNat_natCast, up_same, List.length_append, List.length_singleton]
      exact Nat.succ_le_succ h.miss
    · exact ⟨h.qt, h.lost, h.drops, Nat.le_succ_of_le h.miss⟩
/-- Behind the faults. -/
structure MsSt (w0 w : World) (B k x y : Nat) : Prop where
  dev : ∃ d, OneX w0 (fun _ => False) B d w ∧ Wro d k x y ∧ Lim d (y + 1) ∧ LimM d (y + 1)
theorem MsSt.ch {w0 w : World} {B k x y : Nat} (h : MsSt w0 w B k x y) : Ch (fun _ => False) w0 w := by
  obtain ⟨d, h1, _⟩ := h.dev
  exact h1.ch
theorem MsSt.misled {w0 w : World} {B k x y : Nat} {t : Int} (h : MsSt w0 w B k x y) (hk : k < 8) (ht : I64 t) (hy : y ≤ 10) :
    Calls Try.prog 16 #[.pointer (some ⟨B, 0, none⟩), .agg (faC (fms k t))] w fun e w' => ∃ v, e = .returned v ∧ MsSt w0 w' B k x (y + 1) := by
  obtain ⟨d, h1, h2, h3, h4⟩ := h.dev
  refine (h1.fault (fms_ok (i64_lit (by omega)) ht) h3 h4 (by omega)).mono ?_
  rintro e w' ⟨rfl, g1, _⟩
  exact ⟨_, rfl, _, g1, h2.misled t, (near_fault d _).lim h3 h4⟩
set_option maxHeartbeats 3200000 in
theorem keepPuts_any (K : KeepC) (a : Int) (b : Nat) (x : Int) (A : Option Addr) (n C : Nat) (q : Nat → Int) (w : World) (ha : I64 a) (hb : b < 256) (hx : I64 x) (h : IntV w (.slice A n C) n q) (hq : ∀ i, i < n → I64 (q i)) :
    Calls Try.prog 4 #[.int .i64 a, .int .u8 (b : Int), .int .i64 x, .slice A n C] w (Told w) := by
  have hn := h.len
  obtain ⟨_, _, _, hn63⟩ := hn
  have HK := Lib.hid K
  unfold I64 at ha hx
  clear K
  by_cases b1 : a < 0
  · clear h hq
    go_enter Try.func4, Try.ntmps4
    go_wp2_with fail
    refine (awake_any HK.out _).mono ?_
    rintro e w1 ⟨rfl, hc1⟩
    have HC1 := Lib.hid hc1
    clear hc1
    go_wp2
    go_ret
    exact ⟨rfl, HC1.out⟩
  by_cases b2 : 7 < a
  · clear h hq
    go_enter Try.func4, Try.ntmps4
    go_wp2_with fail
    refine (awake_any HK.out _).mono ?_
    rintro e w1 ⟨rfl, hc1⟩
    have HC1 := Lib.hid hc1
    clear hc1
    go_wp2
    go_ret
    exact ⟨rfl, HC1.out⟩
  by_cases b3 : x < 0
  · clear h hq
    go_enter Try.func4, Try.ntmps4
    go_wp2_with fail
    refine (awake_any HK.out _).mono ?_
    rintro e w1 ⟨rfl, hc1⟩
    have HC1 := Lib.hid hc1
    clear hc1
    go_wp2
    go_ret
    exact ⟨rfl, HC1.out⟩
  by_cases b4 : 3 < n
  · have i3 : (3 : Int) < (n : Int) := by omega
    clear h hq
    go_enter Try.func4, Try.ntmps4
    go_wp2_with fail
    refine (awake_any HK.out _).mono ?_
    rintro e w1 ⟨rfl, hc1⟩
    have HC1 := Lib.hid hc1
    clear hc1
    go_wp2
    go_ret
    exact ⟨rfl, HC1.out⟩
  by_cases b5 : 3 - (n : Int) < x
  · clear h hq
    go_enter Try.func4, Try.ntmps4
    go_wp2_with fail
    refine (awake_any HK.out _).mono ?_
    rintro e w1 ⟨rfl, hc1⟩
    have HC1 := Lib.hid hc1
    clear hc1
    go_wp2
    go_ret
    exact ⟨rfl, HC1.out⟩
  obtain ⟨k, rfl⟩ : ∃ k : Nat, a = (k : Int) := ⟨a.toNat, by omega⟩
  obtain ⟨m, rfl⟩ : ∃ m : Nat, x = (m : Int) := ⟨x.toNat, by omega⟩
  have hk8 : k < 8 := by omega
  have hm3 : m + n ≤ 3 := by omega
  have hn3 : ¬ (3 : Int) < (n : Int) := by omega
  have HKL := Lib.hid hk8
  have HM3 := Lib.hid hm3
  have HB8 := Lib.hid hb
  have HQ := Lib.hid h
  have HI := Lib.hid hq
  clear h hq hb hk8
  by_cases hz : m = 0
  · have i0 : ¬ (0 : Int) < (m : Int) := by omega
    go_enter Try.func4, Try.ntmps4
    go_wp2_with fail
    refine (awake_any HK.out _).mono ?_
    rintro e w1 ⟨rfl, hc1⟩
    have HC1 := Lib.hid hc1
    clear hc1
    go_wp2_with fail
    refine (show Calls Try.prog _ #[.int .i64 8] _ _ from OneX.new (X := fun _ => False) 8 w1 (by decide) (by decide) w HC1.out (fun _ f => f.elim)).mono ?_
    rintro e w2 ⟨B, rfl, h2⟩
    have HS : Hid (MsSt w w2 B k m 0) := ⟨_, h2, by rw [hz]; exact Wro.start k, (lim0 8 1).1, (lim0 8 1).2⟩
    clear h2 HC1
    go_wp2_with fail
    go_loopw [12] (fun i wr => ∃ j : Nat, j ≤ n ∧ i = .int .i64 j ∧ Hid (MsSt w wr B k m j)) (fun i _ => n - (intOf i).toNat)
    case atStart => exact ⟨0, Nat.zero_le _, rfl, HS⟩
    case round =>
      obtain ⟨j, hj, rfl, HJ⟩ := hrel
      clear HS
      by_cases hlt : j < n
      · obtain ⟨g, o, rfl, hc⟩ := HQ.out.at (by omega)
        have c0 := HJ.out.ch.cell (hc j hlt) (fun f => f)
        have HM := Lib.hid (HJ.out.misled (t := q j) HKL.out (HI.out j hlt) (by omega))
        have i1 : (0 : Int) ≤ (j : Int) := Int.natCast_nonneg _
        have i2 : (j : Int) < (n : Int) := by omega
        clear hc
        go_wp2_with fail
        refine (show Calls Try.prog _ #[_, .agg (faC (fms k (q j)))] _ _ from HM.out).mono ?_
        rintro e w5 ⟨v, rfl, h5⟩
        have H5 := Lib.hid h5
        clear h5 HM c0
        go_wp2
        go_roundw
        case rel => exact ⟨j + 1, by omega, by go_num, H5⟩
        case measure => simp [intOf]; omega
      · obtain rfl : j = n := by omega
        obtain ⟨d, h1, h2, h3, h4⟩ := HJ.out.dev
        obtain ⟨e1, e2, e3⟩ := kep_puts (N := 8) HKL.out (fun _ => b) 4 d h2.qt h2.lost (by have := h2.drops; have := h2.miss; have := HM3.out; omega)
        obtain ⟨P, hP⟩ : ∃ P : PutP, P = ⟨(k : Int), 256, fun _ => b⟩ := ⟨_, rfl⟩
        rw [← hP] at e1 e2 e3
        obtain ⟨l1, l2⟩ := kep_lim (P := P) 4 h3 h4
        have HP1 := Lib.hid hP
        have H1 := Lib.hid h1
        have HL1 := Lib.hid (And.intro h3 h4)
        obtain ⟨d2, hd2⟩ : ∃ d2, d2 = kepD 4 d P := ⟨_, rfl⟩
        rw [← hd2] at e2 e3 l1 l2
        have HD2 := Lib.hid hd2
        have HE1 := Lib.hid e1
        have HE2 := Lib.hid (And.intro e2 e3)
        have HL2 := Lib.hid (show Lim d2 100 ∧ LimM d2 100 from ⟨l1.mono (by omega), l2.mono (by omega)⟩)
        have hr := e2.read (k := k) HKL.out
        have HRD := Lib.hid hr
        clear hlt h1 h2 h3 h4 e1 e2 e3 l1 l2 hP hd2 hr HJ
        go_wp2_with fail
        refine (sector_any b HB8.out _).mono ?_
        rintro e w5 ⟨b5, rfl, h5, hb5, hc5⟩
        have HX := Lib.hid (HK.out.oneX (P := P) (sC := 256) (so := 0) (sb := b5) H1.out hc5 (by rw [HP1.out]; exact rowIs_rowV h5 (show 256 ≤ 65536 by omega) (fun _ _ => HB8.out)) (by rw [HP1.out]; exact i64_lit (by have := HKL.out; omega)) h5.lt (Or.inr hb5) HL1.out.1 HL1.out.2 (by omega))
        rw [← HD2.out, HE1.out, HP1.out] at HX
        clear h5 hb5 hc5
        go_wp2_with fail
        refine (show Calls Try.prog _ #[_, .agg #[.int .i64 (k : Int), .slice (some ⟨b5, 0, none⟩) 256 256]] _ _ from HX.out).mono ?_
        rintro e w6 ⟨rfl, h6, _⟩
        have H6 := Lib.hid h6
        clear h6 HX H1
        go_wp2_with fail
        refine (H6.out.crash0 HL2.out.1 (by omega)).mono ?_
        rintro e w7 ⟨rfl, h7, _⟩
        rw [crash_qt HE2.out.1] at h7
        have HX := Lib.hid (h7.read (a := (k : Int)) HL2.out.1 (by omega))
        have hre : readE d2 (k : Int) = 0 := by rw [HRD.out.1, HE2.out.2.1]; rfl
        have hrl : readL d2 (k : Int) = 256 := by unfold readL; rw [hre]; rfl
        have HZ := Lib.hid (show ∀ c, c < 256 → readZ d2 (k : Int) c = b from fun c hc => by rw [HRD.out.2.2]; exact HE2.out.2.2 c hc)
        rw [hre, hrl] at HX
        have HRL := Lib.hid hrl
        clear h7 H6 hre hrl
        go_wp2_with fail
        refine HX.out.mono ?_
        rintro e w8 ⟨A8, C8, rfl, h8⟩
        have hr8 := h8.row
        rw [HRL.out] at hr8
        have HR8 := Lib.hid hr8
        have HC8 := Lib.hid h8.dev.ch
        clear h8 hr8 HX
        go_wp2_with fail
        refine (sector_any b HB8.out _).mono ?_
        rintro e w9 ⟨b9, rfl, h9, hb9, hc9⟩
        have HX := Lib.hid (same_any _ _ _ _ _ _ _ _ w9 (HR8.out.gr hc9) (rowIs_rowV h9 (by omega) (fun _ _ => HB8.out)))
        rw [eqB_yes rfl (fun c hc => HZ.out c hc)] at HX
        have HC9 := Lib.hid (HC8.out.trans hc9)
        clear h9 hb9 hc9
        go_wp2_with fail
        refine HX.out.mono ?_
        rintro e w10 ⟨rfl, n10, rfl⟩
        have HP : Hid (Told w (.returned (.bool true)) (w9.drewN n10)) := ⟨rfl, HC9.out.trans ((Ch.refl _ w9).drewN n10)⟩
        clear HX HC9
        go_wp2
        go_ret
        exact HP.out
  · have i0 : (0 : Int) < (m : Int) := by omega
    go_enter Try.func4, Try.ntmps4
    go_wp2_with fail
    refine (awake_any HK.out _).mono ?_
    rintro e w1 ⟨rfl, hc1⟩
    have HC1 := Lib.hid hc1
    clear hc1
    go_wp2_with fail
    refine (show Calls Try.prog _ #[.int .i64 8] _ _ from OneX.new (X := fun _ => False) 8 w1 (by decide) (by decide) w HC1.out (fun _ f => f.elim)).mono ?_
    rintro e w2 ⟨B, rfl, h2⟩
    have HX := Lib.hid (h2.fault (fdr_ok (a := (k : Int)) (n := (m : Int)) (i64_lit (by have := HKL.out; omega)) (i64_lit (by omega))) (lim0 8 0).1 (lim0 8 0).2 (by omega))
    clear h2 HC1
    go_wp2_with fail
    refine (show Calls Try.prog _ #[_, .agg (faC (fdr k m))] _ _ from HX.out).mono ?_
    rintro e w3 ⟨rfl, h3, _⟩
    have HS : Hid (MsSt w w3 B k m 0) := ⟨_, h3, Wro.drop HKL.out (by omega) (by omega), (near_fault (dev0 8) _).lim (lim0 8 0).1 (lim0 8 0).2⟩
    clear h3 HX
    go_wp2_with fail
    go_loopw [12] (fun i wr => ∃ j : Nat, j ≤ n ∧ i = .int .i64 j ∧ Hid (MsSt w wr B k m j)) (fun i _ => n - (intOf i).toNat)
    case atStart => exact ⟨0, Nat.zero_le _, rfl, HS⟩
    case round =>
      obtain ⟨j, hj, rfl, HJ⟩ := hrel
      clear HS
      by_cases hlt : j < n
      · obtain ⟨g, o, rfl, hc⟩ := HQ.out.at (by omega)
        have c0 := HJ.out.ch.cell (hc j hlt) (fun f => f)
        have HM := Lib.hid (HJ.out.misled (t := q j) HKL.out (HI.out j hlt) (by omega))
        have i1 : (0 : Int) ≤ (j : Int) := Int.natCast_nonneg _
        have i2 : (j : Int) < (n : Int) := by omega
        clear hc
        go_wp2_with fail
        refine (show Calls Try.prog _ #[_, .agg (faC (fms k (q j)))] _ _ from HM.out).mono ?_
        rintro e w5 ⟨v, rfl, h5⟩
        have H5 := Lib.hid h5
        clear h5 HM c0
        go_wp2
        go_roundw
        case rel => exact ⟨j + 1, by omega, by go_num, H5⟩
        case measure => simp [intOf]; omega
      · obtain rfl : j = n := by omega
        obtain ⟨d, h1, h2, h3, h4⟩ := HJ.out.dev
        obtain ⟨e1, e2, e3⟩ := kep_puts (N := 8) HKL.out (fun _ => b) 4 d h2.qt h2.lost (by have := h2.drops; have := h2.miss; have := HM3.out; omega)
        obtain ⟨P, hP⟩ : ∃ P : PutP, P = ⟨(k : Int), 256, fun _ => b⟩ := ⟨_, rfl⟩
        rw [← hP] at e1 e2 e3
        obtain ⟨l1, l2⟩ := kep_lim (P := P) 4 h3 h4
        have HP1 := Lib.hid hP
        have H1 := Lib.hid h1
        have HL1 := Lib.hid (And.intro h3 h4)
        obtain ⟨d2, hd2⟩ : ∃ d2, d2 = kepD 4 d P := ⟨_, rfl⟩
        rw [← hd2] at e2 e3 l1 l2
        have HD2 := Lib.hid hd2
        have HE1 := Lib.hid e1
        have HE2 := Lib.hid (And.intro e2 e3)
        have HL2 := Lib.hid (show Lim d2 100 ∧ LimM d2 100 from ⟨l1.mono (by omega), l2.mono (by omega)⟩)
        have hr := e2.read (k := k) HKL.out
        have HRD := Lib.hid hr
        clear hlt h1 h2 h3 h4 e1 e2 e3 l1 l2 hP hd2 hr HJ
        go_wp2_with fail
        refine (sector_any b HB8.out _).mono ?_
        rintro e w5 ⟨b5, rfl, h5, hb5, hc5⟩
        have HX := Lib.hid (HK.out.oneX (P := P) (sC := 256) (so := 0) (sb := b5) H1.out hc5 (by rw [HP1.out]; exact rowIs_rowV h5 (show 256 ≤ 65536 by omega) (fun _ _ => HB8.out)) (by rw [HP1.out]; exact i64_lit (by have := HKL.out; omega)) h5.lt (Or.inr hb5) HL1.out.1 HL1.out.2 (by omega))
        rw [← HD2.out, HE1.out, HP1.out] at HX
        clear h5 hb5 hc5
        go_wp2_with fail
        refine (show Calls Try.prog _ #[_, .agg #[.int .i64 (k : Int), .slice (some ⟨b5, 0, none⟩) 256 256]] _ _ from HX.out).mono ?_
        rintro e w6 ⟨rfl, h6, _⟩
        have H6 := Lib.hid h6
        clear h6 HX H1
        go_wp2_with fail
        refine (H6.out.crash0 HL2.out.1 (by omega)).mono ?_
        rintro e w7 ⟨rfl, h7, _⟩
        rw [crash_qt HE2.out.1] at h7
        have HX := Lib.hid (h7.read (a := (k : Int)) HL2.out.1 (by omega))
        have hre : readE d2 (k : Int) = 0 := by rw [HRD.out.1, HE2.out.2.1]; rfl
        have hrl : readL d2 (k : Int) = 256 := by unfold readL; rw [hre]; rfl
        have HZ := Lib.hid (show ∀ c, c < 256 → readZ d2 (k : Int) c = b from fun c hc => by rw [HRD.out.2.2]; exact HE2.out.2.2 c hc)
        rw [hre, hrl] at HX
        have HRL := Lib.hid hrl
        clear h7 H6 hre hrl
        go_wp2_with fail
        refine HX.out.mono ?_
        rintro e w8 ⟨A8, C8, rfl, h8⟩
        have hr8 := h8.row
        rw [HRL.out] at hr8
        have HR8 := Lib.hid hr8
        have HC8 := Lib.hid h8.dev.ch
        clear h8 hr8 HX
        go_wp2_with fail
        refine (sector_any b HB8.out _).mono ?_
        rintro e w9 ⟨b9, rfl, h9, hb9, hc9⟩
        have HX := Lib.hid (same_any _ _ _ _ _ _ _ _ w9 (HR8.out.gr hc9) (rowIs_rowV h9 (by omega) (fun _ _ => HB8.out)))
        rw [eqB_yes rfl (fun c hc => HZ.out c hc)] at HX
        have HC9 := Lib.hid (HC8.out.trans hc9)
        clear h9 hb9 hc9
        go_wp2_with fail
        refine HX.out.mono ?_
        rintro e w10 ⟨rfl, n10, rfl⟩
        have HP : Hid (Told w (.returned (.bool true)) (w9.drewN n10)) := ⟨rfl, HC9.out.trans ((Ch.refl _ w9).drewN n10)⟩
        clear HX HC9
        go_wp2
        go_ret
        exact HP.out
#print axioms keepPuts_any
end Go.Proofs.Ytjibfoplihaabaa
