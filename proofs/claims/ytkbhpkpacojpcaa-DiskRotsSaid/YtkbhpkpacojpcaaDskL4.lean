/-
  DiskCrashes, walked.
-/
import Derived.Test.YtkbhpkpacojpcaaDskQ
namespace Go.Proofs.Ytkbhpkpacojpcaa
open Go.RowKit
set_option linter.unusedVariables false

/-! ### in plain words -/
/-- It is not armed, and not dead. -/
structure Un (d : Dev) : Prop where
  n : d.n = 20
  dead : d.dead = false
  armed : d.armed = false
theorem Un.dies {d : Dev} (h : Un d) : diesB d = false ∧ diesD d = d := by
  unfold diesB diesD
  rw [h.armed]
  exact ⟨rfl, rfl⟩
theorem Un.of {d d' : Dev} (h : Un d) (e : d'.n = d.n ∧ d'.dead = d.dead ∧ d'.armed = d.armed) : Un d' := ⟨e.1.trans h.n, e.2.1.trans h.dead, e.2.2.trans h.armed⟩
theorem finAll_un (L : List Wt) (d : Dev) : (finAll d L).n = d.n ∧ (finAll d L).dead = d.dead ∧ (finAll d L).armed = d.armed := by
  obtain ⟨_, _, _, s4, s5, _⟩ := finAll_same L d
  exact ⟨finAll_n _ _, s4, s5⟩
theorem un_write {d : Dev} {a : Int} {n : Nat} {z : Nat → Nat} (h : Un d) : Un (writeD d a n z) := by
  unfold writeD
  rw [h.dies.1, h.dies.2]
  split
  · rw [if_neg (by simp)]
    have hw : Un (wr1 d) := by unfold wr1; rw [h.dies.2]; exact h.of ⟨rfl, rfl, rfl⟩
    have ha : Un (aimD (wr1 d) a.toNat) := by
      unfold aimD
      split
      · exact hw.of ⟨rfl, rfl, rfl⟩
      · split
        · exact hw
        · exact hw.of ⟨rfl, rfl, rfl⟩
    split
    · exact ha.of ⟨rfl, rfl, rfl⟩
    · exact ha
  · exact h
theorem flush_un {d : Dev} (h : Un d) : flushD d = { finAll d d.W with W := [] } := by unfold flushD; rw [h.dead, h.dies.1, h.dies.2]; rfl
theorem un_flush {d : Dev} (h : Un d) : Un (flushD d) := by
  rw [flush_un h]
  exact h.of (finAll_un d.W d)
theorem un_settle {d : Dev} {k : Nat} (h : Un d) : Un (settleD d k) := h.of (finAll_un (ofS d.W k) d)
theorem un_fault {d : Dev} {f : Fa} (h : Un d) : Un (faultD d f) := by
  unfold faultD
  have hs := un_settle (k := f.pl.toNat) h
  split
  · split
    · unfold rotD
      split
      · exact h
      · exact hs.of ⟨rfl, rfl, rfl⟩
    · split
      · exact hs.of ⟨rfl, rfl, rfl⟩
      · split
        · exact hs.of ⟨rfl, rfl, rfl⟩
        · split
          · unfold dropD
            split
            · exact h
            · exact h.of ⟨rfl, rfl, rfl⟩
          · split
            · unfold missD
              split
              · exact h.of ⟨rfl, rfl, rfl⟩
              · exact h
            · exact h
  · exact h
theorem un_does {d : Dev} {x : OpD} (h : Un d) (hx : x.kd < 3) : Un (doesD d x) := by
  unfold doesD
  split
  · exact un_write h
  · split
    · exact un_flush h
    · split
      · exact un_fault h
      · rw [if_neg (by omega), if_neg (by omega)]
        exact h
theorem crTo_all (d : Dev) (q : Nat → Bool) (hq : ∀ i, q i = true) : ∀ k, crTo d 1 q k = finAll d (d.W.take k)
  | 0 => rfl
  | k + 1 => by
    unfold crTo
    cases hx : d.W[k]? with
    | none =>
      dsimp only
      rw [crTo_all d q hq k]
      have hl : d.W.length ≤ k := List.getElem?_eq_none_iff.1 hx
      rw [List.take_of_length_le hl, List.take_of_length_le (by omega)]
    | some x =>
      dsimp only
      rw [take_snoc hx, finAll_snoc, crTo_all d q hq k, if_pos (show keepB 1 q k = true by unfold keepB; simp [hq])]
/-- A crash that keeps all is a flush. -/
theorem crash_all {d : Dev} {q : Nat → Bool} (hq : ∀ i, q i = true) (h : Un d) : crashD d 1 q = flushD d := by
  obtain ⟨e1, e2, e3⟩ := finAll_un d.W d
  rw [flush_un h]
  unfold crashD
  rw [crTo_all d q hq, List.take_length]
  generalize hg : finAll d d.W = g at e1 e2 e3 ⊢
  cases g
  simp only at e2 e3
  rw [e2, e3, h.dead, h.armed]
/-- A second crash changes nothing. -/
theorem crash_more (d : Dev) (n : Nat) (q r : Nat → Bool) (m : Nat) : crashD (crashD d n q) m r = crashD d n q := rfl

/-! ### between two rounds -/
structure UnSt (w0 w : World) (B t : Nat) : Prop where
  dev : ∃ d, Devs w0 (fun _ => False) 1 (fun _ => B) (fun _ => d) w ∧ Un d ∧ Lim d t ∧ LimM d t
theorem UnSt.more {w0 w : World} {B t t' : Nat} (h : UnSt w0 w B t) (ht : t ≤ t') : UnSt w0 w B t' := by
  obtain ⟨d, h1, h2, h3, h4⟩ := h.dev
  exact ⟨d, h1, h2, h3.up ht, fun k => Nat.le_trans (h4 k) ht⟩
theorem UnSt.ch {w0 w : World} {B t : Nat} (h : UnSt w0 w B t) : Ch (fun _ => False) w0 w := by
  obtain ⟨d, h1, _⟩ := h.dev
  exact h1.ch
theorem UnSt.does {w0 w : World} {B t : Nat} {x : OpD} (h : UnSt w0 w B t) (hx : OpOk x) (ht : t ≤ 1000000) (hQ : RowQ w0 x.V x.m x.q) (h3 : x.kd < 3) :
    Calls Try.prog 12 #[.pointer (some ⟨B, 0, none⟩), .agg (opC x)] w fun e w' => ∃ v, e = .returned v ∧ UnSt w0 w' B (t + 1) := by
  obtain ⟨d, h1, hk, hl, hm⟩ := h.dev
  refine (h1.doesN (i := 0) (by omega) rfl rfl hx hl hm ht hQ).mono ?_
  rintro e w' ⟨rfl, h4, _⟩
  obtain ⟨l1, l2⟩ := (near_does d x).lim hl hm
  exact ⟨_, rfl, _, h4.congr (fun i hi => ⟨rfl, by
    obtain rfl : i = 0 := by omega
    exact up_same _ _ _⟩), un_does hk h3, l1, l2⟩
/-- Five devices, two of which are alike, and two more. -/
structure FiveSt (w0 w : World) (B : Nat → Nat) (t : Nat) : Prop where
  dev : ∃ D E F, Devs w0 (fun _ => False) 5 B D w ∧ D 1 = E ∧ D 2 = E ∧ D 3 = F ∧ D 4 = F ∧ Lim E t ∧ Lim F t
theorem lim_read {d : Dev} {a : Int} {t : Nat} (h : Lim d t) : Lim (readD d a) (t + 1) := by
  unfold readD
  split
  · exact ⟨by show d.ops + 1 ≤ _; have := h.ops; omega, Nat.le_trans h.W (by omega), fun a => Nat.le_trans (h.drops a) (by omega)⟩
  · exact h.up (by omega)
theorem one_true (w : World) : RowQ (w.alloc (.cells #[.bool true] /-t-/4)) (.slice (some ⟨w.heap.size, 0, none⟩) 1 1) 1 (fun _ => true) := by
  refine ⟨_, _, rfl, by omega, fun _ => ⟨w.heap.size, 0, rfl, fun c hc => ?_⟩⟩
  obtain rfl : c = 0 := by omega
  rw [alloc_cell]
  rfl
set_option maxHeartbeats 3200000 in
set_option maxRecDepth 100000 in
theorem diskCrashes_any (A : Option Addr) (n C : Nat) (F : Nat → OpD) (A2 : Option Addr) (n2 C2 : Nat) (q2 : Nat → Bool) (w : World) (h : RowO w (.slice A n C) n F) (h2 : RowQ w (.slice A2 n2 C2) n2 q2) : Calls Try.prog 8 #[.slice A n C, .slice A2 n2 C2] w (Told w) := by
  have hn63 : n ≤ 9223372036854775807 := by obtain ⟨_, _, _, h1, _⟩ := h; exact h1
  have hm63 : n2 ≤ 9223372036854775807 := by obtain ⟨_, _, _, h1, _⟩ := h2; exact h1
  by_cases hbig : 40 < n
  · clear h h2
    go_enter Try.func8, Try.ntmps8
    go_wp2_with fail
    refine (awake_any _).mono ?_
    rintro e w1 ⟨rfl, hc1⟩
    have HC1 := Lib.hid hc1
    clear hc1
    go_wp2
    go_ret
    exact ⟨rfl, HC1.out⟩
  by_cases hbig2 : 20 < n2
  · clear h h2
    go_enter Try.func8, Try.ntmps8
    go_wp2_with fail
    refine (awake_any _).mono ?_
    rintro e w1 ⟨rfl, hc1⟩
    have HC1 := Lib.hid hc1
    clear hc1
    go_wp2
    go_ret
    exact ⟨rfl, HC1.out⟩
  have HO := Lib.hid h
  have HQ2 := Lib.hid h2
  have hn40 : n ≤ 40 := by omega
  have hn20 : n2 ≤ 20 := by omega
  clear h h2 hbig hbig2 hn63 hm63
  go_enter Try.func8, Try.ntmps8
  go_wp2_with fail
  refine (awake_any _).mono ?_
  rintro e w1 ⟨rfl, hc1⟩
  have HC1 := Lib.hid hc1
  clear hc1
  go_wp2_with fail
  refine (show Calls Try.prog _ #[.int .i64 20] _ _ from Devs.new 20 w1 (by omega) (by omega) w HC1.out).mono ?_
  rintro e w2 ⟨B, rfl, h2⟩
  have HST := Lib.hid (show UnSt w w2 B 0 from ⟨_, h2, ⟨rfl, rfl, rfl⟩, ⟨Nat.le_refl _, Nat.le_refl _, fun _ => Nat.le_refl _⟩, fun _ => Nat.le_refl _⟩)
  clear h2
  go_wp2_with fail
  go_loopw [8] (fun i wr => ∃ k : Nat, k ≤ n ∧ i = .int .i64 k ∧ Hid (UnSt w wr B k)) (fun i _ => n - (intOf i).toNat)
  case atStart => exact ⟨0, Nat.zero_le _, rfl, HST⟩
  case round =>
    obtain ⟨k, hk, rfl, HK⟩ := hrel
    by_cases hlt : k < n
    · obtain ⟨b0, o, rfl, hops⟩ := HO.out.at (by omega)
      obtain ⟨x, hx⟩ : ∃ x, x = F k := ⟨_, rfl⟩
      have hop0 : OpAt w b0 (o + k * 14) x := by rw [hx]; exact hops k hlt
      have hop : OpAt wr b0 (o + k * 14) x := hop0.gr HK.out.ch
      have HLD := Lib.hid hop.load
      have HOK := Lib.hid hop.ok
      have HQ := Lib.hid hop0.keep
      have c0 := hop.c0
      have i1 : (0 : Int) ≤ (k : Int) := Int.natCast_nonneg _
      have i2 : (k : Int) < (n : Int) := by omega
      clear hop hop0 hops hx
      by_cases k3 : x.kd < 3
      · have HDO := Lib.hid (HK.out.does HOK.out (by omega) HQ.out k3)
        go_wp2_with ((with_reducible refine wpList_isOp (.load 37 (.tmp 57)) rfl ?_); refine wpList_loading _ rfl 37 (.tmp 57) rfl (.agg (opC x)) ⟨b0, o + k * 14, none⟩ (by simp [Act.eval]) (by exact HLD.out) ?_)
        refine HDO.out.mono ?_
        rintro e w6 ⟨v, rfl, h6⟩
        have HN := Lib.hid h6
        clear h6
        go_wp2
        go_roundw
        case rel => exact ⟨k + 1, by omega, by go_num, HN⟩
        case measure => simp [intOf]; omega
      · have HN := Lib.hid (HK.out.more (t' := k + 1) (by omega))
        go_wp2
        go_roundw
        case rel => exact ⟨k + 1, by omega, by go_num, HN⟩
        case measure => simp [intOf]; omega
    · obtain rfl : k = n := by omega
      obtain ⟨d, hd, hu, hl, hm⟩ := HK.out.dev
      have HU := Lib.hid hu
      have HL := Lib.hid (hl.up (t' := 40) (by omega))
      have HM := Lib.hid (show LimM d 40 from fun a => Nat.le_trans (hm a) hn40)
      have HD := Lib.hid hd
      clear hd hu hl hm HK hk
      have HCA := Lib.hid (HD.out.copyN (i := 0) (by omega) rfl rfl HL.out HM.out (by omega))
      go_wp2_with fail
      refine HCA.out.mono ?_
      rintro e w3 ⟨b1, rfl, h3, _⟩
      have H3 := Lib.hid h3
      have HCB := Lib.hid (h3.copyN (i := 0) (b := B) (E := d) (by omega) (by simp [up]) (by simp [up]) HL.out HM.out (by omega))
      clear h3 HCA
      go_wp2_with fail
      refine HCB.out.mono ?_
      rintro e w4 ⟨b2, rfl, h4, _⟩
      have HCC := Lib.hid (h4.copyN (i := 0) (b := B) (E := d) (by omega) (by simp [up]) (by simp [up]) HL.out HM.out (by omega))
      clear h4 HCB H3
      go_wp2_with fail
      refine HCC.out.mono ?_
      rintro e w5 ⟨b3, rfl, h5, _⟩
      obtain ⟨Bf, hBf⟩ : ∃ Bf, Bf = up (up (up (fun _ => B) 1 b1) 2 b2) 3 b3 := ⟨_, rfl⟩
      have g1 : Bf 1 = b1 := by rw [hBf]; simp [up]
      have g2 : Bf 2 = b2 := by rw [hBf]; simp [up]
      have g3 : Bf 3 = b3 := by rw [hBf]; simp [up]
      have h5' : Devs w (fun _ => False) 4 Bf (fun _ => d) w5 := h5.congr (fun i hi => ⟨by rw [hBf], by unfold up; split <;> (try split) <;> (try split) <;> rfl⟩)
      have HCR := Lib.hid (h5'.crashN (w1 := w5.alloc (.cells #[.bool true] /-t-/4)) (i := 1) (n := 1) (C := 1) (A := some ⟨w5.heap.size, 0, none⟩) (q := fun _ => true) (by omega) g1 rfl ((Ch.refl _ w5).alloc _ _) HL.out (by omega)
        (one_true w5) (fun b o e _ => by injection e with e; injection e with e _; exact Or.inr (Nat.le_of_eq e)))
      rw [crash_all (fun _ => rfl) HU.out] at HCR
      have G1 := Lib.hid g1
      have G2 := Lib.hid g2
      have G3 := Lib.hid g3
      clear h5 h5' HCC hBf g1 g2 g3
      go_wp2_with fail
      refine HCR.out.mono ?_
      rintro e w6 ⟨rfl, h6, _⟩
      have HFL := Lib.hid (h6.flushN (i := 2) (E := d) (by omega) G2.out (up_other _ _ (by omega)) HL.out (by omega))
      clear h6 HCR
      go_wp2_with fail
      refine HFL.out.mono ?_
      rintro e w7 ⟨rfl, h7, _⟩
      have HCK := Lib.hid (h7.crashN (i := 3) (E := d) (by omega) G3.out (by rw [up_other _ _ (by omega), up_other _ _ (by omega)]) (Ch.refl _ _) HL.out (by omega) (HQ2.out.gr h7.ch) (fun b o e h0 => Or.inl (by
        subst e
        obtain ⟨b', o', e1, h3⟩ := HQ2.out.at h0
        injection e1 with e1
        injection e1 with e1 _
        have := World.block_lt_of_cell? _ _ (h3 0 h0)
        simp only at this
        omega)))
      clear h7 HFL
      go_wp2_with fail
      refine HCK.out.mono ?_
      rintro e w8 ⟨rfl, h8, _⟩
      have hLC : Lim (crashD d n2 q2) 41 ∧ LimM (crashD d n2 q2) 41 := (near_crash d n2 q2).lim HL.out HM.out
      have HLC := Lib.hid hLC.1
      have HE := Lib.hid (h8.copyN (i := 3) (E := crashD d n2 q2) (by omega) G3.out (up_same _ _ _) hLC.1 hLC.2 (by omega))
      clear h8 HCK hLC
      go_wp2_with fail
      refine HE.out.mono ?_
      rintro e w9 ⟨b4, rfl, h9, _⟩
      have HCE := Lib.hid (h9.crashN (w1 := w9.alloc (.cells #[.bool true] /-t-/4)) (i := 4) (E := crashD d n2 q2) (n := 1) (C := 1) (A := some ⟨w9.heap.size, 0, none⟩) (q := fun _ => true) (by omega) (up_same _ _ _) (up_same _ _ _) ((Ch.refl _ w9).alloc _ _) HLC.out (by omega)
        (one_true w9) (fun b o e _ => by injection e with e; injection e with e _; exact Or.inr (Nat.le_of_eq e)))
      rw [crash_more] at HCE
      clear h9 HE
      go_wp2_with fail
      refine HCE.out.mono ?_
      rintro e w10 ⟨rfl, h10, _⟩
      obtain ⟨Bg, hBg⟩ : ∃ Bg, Bg = up Bf 4 b4 := ⟨_, rfl⟩
      have G1' := Lib.hid (show Bg 1 = b1 by rw [hBg, up_other _ _ (by omega)]; exact G1.out)
      have G2' := Lib.hid (show Bg 2 = b2 by rw [hBg, up_other _ _ (by omega)]; exact G2.out)
      have G3' := Lib.hid (show Bg 3 = b3 by rw [hBg, up_other _ _ (by omega)]; exact G3.out)
      have G4' := Lib.hid (show Bg 4 = b4 by rw [hBg, up_same])
      rw [← hBg] at h10
      have HST5 := Lib.hid (show FiveSt w w10 Bg 41 from ⟨_, flushD d, crashD d n2 q2, h10, by simp [up], by simp [up], by simp [up], by simp [up], ((near_flush d).lim HL.out HM.out).1, HLC.out⟩)
      clear h10 HCE hBg G1 G2 G3
      go_wp2_with fail
      go_loopw [13, 14, 15, 16, 17, 18, 19, 20, 21, 22, 23] (fun i _ _ _ _ _ _ _ _ _ _ wr => ∃ s : Nat, s ≤ 20 ∧ i = .int .i64 s ∧ Hid (FiveSt w wr Bg (41 + s))) (fun i _ _ _ _ _ _ _ _ _ _ _ => 20 - (intOf i).toNat)
      case atStart => exact ⟨0, Nat.zero_le _, rfl, HST5⟩
      case round =>
        rename_i wr2
        obtain ⟨s, hs, rfl, HF⟩ := hrel
        by_cases hlt2 : s < 20
        · obtain ⟨D, E, F2, hD, d1, d2, d3, d4, lE, lF⟩ := HF.out.dev
          have LE := Lib.hid lE
          have LF := Lib.hid lF
          have D2 := Lib.hid d2
          have D3 := Lib.hid d3
          have D4 := Lib.hid d4
          have HR1 := Lib.hid (hD.readN (a := (s : Int)) (i := 1) (by omega) G1'.out d1 lE (by omega))
          have i1 : (0 : Int) ≤ (s : Int) := Int.natCast_nonneg _
          have i2 : (s : Int) < 20 := by omega
          clear hD d1 d2 d3 d4 lE lF
          go_wp2_with fail
          refine HR1.out.mono ?_
          rintro e wa ⟨Aa, Ca, rfl, ra⟩
          have RA := Lib.hid ra.row
          have HR2 := Lib.hid (ra.devX.readN (a := (s : Int)) (i := 2) (E := E) (by omega) G2'.out ((up_other _ _ (by omega)).trans D2.out) LE.out (by omega))
          clear ra HR1
          go_wp2_with fail
          refine HR2.out.mono ?_
          rintro e wb ⟨Ab, Cb, rfl, rb⟩
          have RA2 := Lib.hid (RA.out.keep rb.ch (fun b hb hq => hq.2 (Or.inr hb)))
          have RB := Lib.hid rb.row
          have HR3 := Lib.hid (rb.devX.readN (a := (s : Int)) (i := 3) (E := F2) (by omega) G3'.out ((up_other _ _ (by omega)).trans ((up_other _ _ (by omega)).trans D3.out)) LF.out (by omega))
          clear rb HR2 RA
          go_wp2_with fail
          refine HR3.out.mono ?_
          rintro e wc ⟨Ac, Cc, rfl, rc⟩
          have RA3 := Lib.hid (RA2.out.keep rc.ch (fun b hb hq => hq.2 (Or.inl (Or.inr hb))))
          have RB3 := Lib.hid (RB.out.keep rc.ch (fun b hb hq => hq.2 (Or.inr hb)))
          have RC := Lib.hid rc.row
          have HR4 := Lib.hid (rc.devX.readN (a := (s : Int)) (i := 4) (E := F2) (by omega) G4'.out ((up_other _ _ (by omega)).trans ((up_other _ _ (by omega)).trans ((up_other _ _ (by omega)).trans D4.out))) LF.out (by omega))
          clear rc HR3 RA2 RB
          go_wp2_with fail
          refine HR4.out.mono ?_
          rintro e wd ⟨Ad, Cd, rfl, rd⟩
          have RA4 := Lib.hid (RA3.out.keep rd.ch (fun b hb hq => hq.2 (Or.inl (Or.inl (Or.inr hb)))))
          have RB4 := Lib.hid (RB3.out.keep rd.ch (fun b hb hq => hq.2 (Or.inl (Or.inr hb))))
          have RC4 := Lib.hid (RC.out.keep rd.ch (fun b hb hq => hq.2 (Or.inr hb)))
          have RD := Lib.hid rd.row
          have HSM1 := Lib.hid (same_any _ _ _ _ _ _ _ _ _ RA4.out RB4.out)
          rw [eqB_yes rfl (fun _ _ => rfl)] at HSM1
          have HNX : Hid (∀ wx, Ch (fun _ => False) wd wx → FiveSt w wx Bg (41 + (s + 1))) := fun wx kx => by
            refine ⟨_, readD E (s : Int), readD F2 (s : Int), rd.dev.fresh kx (fun j hj => hj.elim), by simp [up], by simp [up], by simp [up], by simp [up], lim_read LE.out, lim_read LF.out⟩
          clear rd HR4 RA3 RB3 RC
          go_wp2_with fail
          refine HSM1.out.mono ?_
          rintro e we ⟨rfl, n5, rfl⟩
          have HSM2 := Lib.hid (same_any _ _ _ _ _ _ _ _ _ (RC4.out.drewN n5) (RD.out.drewN n5))
          rw [eqB_yes rfl (fun _ _ => rfl)] at HSM2
          clear HSM1
          go_wp2_with fail
          refine HSM2.out.mono ?_
          rintro e wf ⟨rfl, n6, rfl⟩
          have HN := Lib.hid (HNX.out (wd.drewN (n5 + n6)) ((Ch.refl _ wd).drewN (n5 + n6)))
          clear HSM2 HNX
          have t1 : (readE E (s : Int) != readE E (s : Int)) = false := by simp
          have t2 : (readE F2 (s : Int) != readE F2 (s : Int)) = false := by simp
          go_wp2
          go_roundw
          case rel => exact ⟨s + 1, by omega, by go_num, HN⟩
          case measure => simp [intOf]; omega
        · obtain rfl : s = 20 := by omega
          obtain ⟨D, E, F2, hD, _⟩ := HF.out.dev
          have HE := Lib.hid hD.ch
          clear hD
          go_wp2
          go_ret
          exact ⟨rfl, HE.out⟩
theorem diskCrashes_of (v v2 : Value) (w : World) {n n2 : Nat} {F : Nat → OpD} {q : Nat → Bool} (h : RowO w v n F) (h2 : RowQ w v2 n2 q) : Calls Try.prog 8 #[v, v2] w (Told w) := by
  obtain ⟨A, C, rfl, _⟩ := id h
  obtain ⟨A2, C2, rfl, _⟩ := id h2
  exact diskCrashes_any A n C F A2 n2 C2 q w h h2
#print axioms diskCrashes_of
end Go.Proofs.Ytkbhpkpacojpcaa
