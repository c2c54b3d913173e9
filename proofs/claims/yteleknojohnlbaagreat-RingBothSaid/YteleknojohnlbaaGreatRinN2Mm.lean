/-
  Where both sectors of a slot that is needed are damaged it is told so; nothing else is told (RingBoth, P11.2, P11.5).
-/
import Derived.Test.YteleknojohnlbaaGreatMg51
import Derived.Test.YteleknojohnlbaaGreatRinApMm
import Derived.Test.YteleknojohnlbaaGreatRinFwMm
namespace Go.Proofs.YteleknojohnlbaaGreat
open Go.RowKit
set_option linter.unusedVariables false
set_option maxRecDepth 100000
set_option linter.unusedSimpArgs false

/-! ### blanked -/
def flB (a : Int) : Fa := ⟨2, a, 0, 0, 0, 0, 0, 0, 0⟩
theorem flB_ok {a : Int} (h : I64 a) : FaOk (flB a) := by
  have z : I64 0 := by unfold I64; omega
  have b : (0 : Nat) < 256 := by decide
  exact ⟨by unfold I64 flB; simp only; omega, h, z, z, z, b, b, b, b⟩
theorem blank_fin {N : Nat} {d : Dev} (h : Fine N d) {k : Nat} (hk : k < N) : faultD d (flB (k : Int)) = { d with has := up d.has k (fun _ => 0), lost := up d.lost k false } := by
  have hb : hasB d (k : Int) = true := decide_eq_true (by rw [h.qt.n]; omega)
  have e : faultD d (flB (k : Int)) = blankD d ((k : Int)).toNat := by
    unfold faultD
    rw [show hasB d (flB (k : Int)).pl = true from hb]
    rfl
  rw [e, Int.toNat_natCast]
  unfold blankD settleD finD
  rw [h.qt.W]
  obtain ⟨n, has, lost, drops, miss, W, dead, armed, left, ops⟩ := d
  have hW : W = [] := h.qt.W
  subst hW
  rfl
theorem blank_log {vol : Int} {g : Gn} {N : Nat} {d : Dev} {C : Nat → Nat → Ct} (hN : 4 + 2 * g.W ≤ N) (h : Fine N d) (hL : DevL vol g d C) {c0 s0 : Nat} (hc0 : c0 < 2) (hs0 : s0 < g.W) : Fine N (faultD d (flB (adN g c0 s0 : Int))) ∧ DevL vol g (faultD d (flB (adN g c0 s0 : Int))) (setBad C c0 s0) := by
  rw [blank_fin h (adN_lt hc0 hs0 hN)]
  refine ⟨⟨⟨h.qt.n, h.qt.dead, h.qt.armed, h.qt.W⟩, h.drops, h.miss⟩, fun c s hc hs => ?_⟩
  unfold setBad
  by_cases q : c = c0 ∧ s = s0
  · rw [if_pos q]
    obtain ⟨rfl, rfl⟩ := q
    refine Or.inr ?_
    show opensB 256 (up d.has (adN g c s) (fun _ => 0) (adN g c s)) = false
    rw [up_same]
    exact opens_zero
  · rw [if_neg q]
    have ne : adN g c s ≠ adN g c0 s0 := fun e => q (adN_inj hc hc0 hs hs0 e)
    exact (hL c s hc hs).same (up_other _ _ ne) (up_other _ _ ne)
theorem built_flB (a : Int) (w : World) : (Instr.build 48 #[(0, .int .i64 2), (1, .int .i64 a)]).run Tryz.prog w = .ok (.agg (faC (flB a))) w := run_build w _ _ _ (by kernel_rfl)
/-! ### in plain words -/
def boX (B : Nat) (g : Gn) (vol ep st ch : Int) : Rg := rgOf B vol g.ge ep st st ch
theorem boX_ok {B : Nat} {g : Gn} {vol ep st ch : Int} (hg : g.Ok) (hv : 0 ≤ vol ∧ vol ≤ 4294967295) (he : 0 ≤ ep ∧ ep ≤ 4294967295) (hs : 0 ≤ st ∧ st ≤ 4294967295) (hc : 0 ≤ ch ∧ ch ≤ 4294967295) : RgOk (boX B g vol ep st ch) :=
  ⟨ok_may hg, hv, he, ⟨hs.1, Int.le_refl _⟩, hc, hs.2, ⟨hs.1, Int.le_refl _⟩⟩
theorem secs_le (g : Gn) : 4 + 2 * g.W ≤ secsG g := by unfold secsG; exact Nat.le_add_right _ _
def n_mul (g : Gn) : Nat := 2 * g.S * (g.K + g.M)
theorem n_mul_le {g : Gn} (hg : g.Ok) : n_mul g ≤ 1536 := by
  have h3 := hg.s2
  have h4 := hg.k2
  have h5 := hg.m2
  exact Nat.mul_le_mul (show 2 * g.S ≤ 64 by omega) (show g.K + g.M ≤ 24 by omega)
theorem secs_max {g : Gn} (hg : g.Ok) : secsG g ≤ 2564 := by
  have h1 := hg.w2
  have h3 := hg.s2
  have h4 := hg.k2
  have h5 := hg.m2
  have hmul : n_mul g ≤ 1536 := n_mul_le hg
  unfold n_mul at hmul
  unfold secsG
  omega
def ad0 (B : Nat) (g : Gn) (vol ep st ch : Int) (L : List (List Nat)) : AdS := adTo ⟨bkD vol (secsG g), boX B g vol ep st ch, [], true⟩ L
structure BoS (B : Nat) (g : Gn) (vol ep : Int) (st : Nat) (ch : Int) (L : List (List Nat)) (C : Nat → Nat → Ct) (T : List (List Pn)) : Prop where
  ok : (ad0 B g vol ep st ch L).ok = true
  fine : Fine (secsG g) (ad0 B g vol ep st ch L).d
  log : LogS (· = Ct.free) vol g st ch (ad0 B g vol ep st ch L).d (ad0 B g vol ep st ch L).x C T.flatten
  good : ∀ t ∈ T, GoodTx t
  out : T.map joinP = (ad0 B g vol ep st ch L).out
theorem bo_all {B : Nat} {g : Gn} {vol ep : Int} {st : Nat} {ch : Int} (hg : g.Ok) (hv : 0 ≤ vol ∧ vol ≤ 4294967295) (he : 0 ≤ ep ∧ ep ≤ 4294967295) (hs : st ≤ 4294967295) (hc : 0 ≤ ch ∧ ch ≤ 4294967295) {L : List (List Nat)} (hL : ∀ B ∈ L, ∀ y ∈ B, y < 256) : ∃ C T, BoS B g vol ep st ch L C T := by
  have hx := boX_ok (B := B) hg hv he (st := (st : Int)) ⟨by omega, by omega⟩ hc
  have l0 := bk_start hg (secs_le g) hx (vol := vol) rfl rfl (st := st) rfl rfl
  obtain ⟨C, T, a1, a2, a3, a4, a5⟩ := LogS.all (T := []) l0 (fun t ht => by simp at ht) hg (secs_le g) (bk_fine vol (secsG g)).1 L hL
  exact ⟨C, T, a1, a2, a3, a4, a5⟩
/-! ### the walk -/
def smallB (N : Nat → Nat) (m : Nat) : Bool := if m ≤ 12 then fewTo N 1500 m else false
theorem fewTo_all {N : Nat → Nat} {b : Nat} : ∀ {n : Nat}, fewTo N b n = true → ∀ c, c < n → N c ≤ b
  | n + 1, h, c, hc => by
    have h' : (fewTo N b n && decide (N n ≤ b)) = true := h
    obtain ⟨h1, h2⟩ := Bool.and_eq_true_iff.1 h'
    by_cases q : c = n
    · subst q; exact of_decide_eq_true h2
    · exact fewTo_all h1 c (by omega)
theorem small_bs {w : World} {A : Option Addr} {m C : Nat} {q : Nat → Br} (h : RowBs w A m C q) (hs : smallB (fun c => (q c).n) m = true) : BsV w A m C (fun c => (q c).n) (fun c => (q c).z) := by
  unfold smallB at hs
  split at hs
  · exact h.bs' (by omega) fun c hc => by have := fewTo_all hs c hc; omega
  · cases hs
theorem small_le {N : Nat → Nat} {m : Nat} (h : smallB N m = true) : m ≤ 12 := by
  unfold smallB at h
  split at h
  · assumption
  · cases h
set_option maxHeartbeats 12800000 in
theorem ringBoth_of {A : Option Addr} {m C : Nat} {q : Nat → Br} (g : Ge) (wh : Int) (w : World) (hR0 : RowBs w A m C q) : Calls Tryz.prog 6 #[.agg (geC g), .slice A m C, .int .i64 wh] w (Told w) := by
  obtain ⟨w1, H, hR⟩ := geR w g
  have HR := Lib.hid hR
  have HAW := Lib.hid (rawake_any w1)
  obtain ⟨N, hN⟩ : ∃ N : Nat → Nat, N = fun c => (q c).n := ⟨_, rfl⟩
  obtain ⟨Z, hZ⟩ : ∃ Z : Nat → Nat → Nat, Z = fun c => (q c).z := ⟨_, rfl⟩
  have HLL : Hid (LsV w1 A m C N) := Lib.hid (by rw [hN]; exact (hR0.gr HR.out.ch).ls)
  have HLM : Hid (∀ w2, Ch (fun _ => False) w1 w2 → LsV w2 A m C N) := Lib.hid fun w2 k => by rw [hN]; exact ((hR0.gr HR.out.ch).gr k).ls
  have HLB : Hid (smallB N m = true → BsV w A m C N Z) := Lib.hid (by rw [hN, hZ]; exact small_bs hR0)
  clear hR hR0 hN hZ
  go_enter Tryz.func6, Tryz.ntmps6
  go_wp2_with (first | ((with_reducible refine wpList_isOp (.box 23 (.tmp 0)) rfl ?_); refine wpList_boxing _ w1 rfl 23 (.tmp 0) rfl (geC g) H rfl (by exact HR.out.sz) (by exact HR.out.al) ?_) | fail)
  refine HAW.out.mono ?_
  rintro e w2 ⟨rfl, hc2⟩
  have HC2 := Lib.hid hc2
  have HSM := Lib.hid (small_any A m C N w2 (HLM.out w2 hc2))
  clear hc2 HAW
  go_wp2_with fail
  refine HSM.out.mono ?_
  rintro e w3 ⟨rfl, rfl⟩
  obtain ⟨sm, hsm⟩ : ∃ sm, sm = smallB N m := ⟨_, rfl⟩
  rw [show (if m ≤ 12 then fewTo N 1500 m else false) = sm from hsm.symm]
  have HSB := Lib.hid hsm
  obtain ⟨x0, x1, x2, x3⟩ := HR.out.x.gr HC2.out
  have HBK := Lib.hid (lawBlank_any 7 g w2 ⟨by omega, by omega⟩)
  clear hsm HSM
  go_wp2_with fail
  refine HBK.out.mono ?_
  rintro e w4 hb
  cases hbk : blkOk 7 g
  · obtain ⟨rfl, hc4⟩ := hb.1 hbk
    have HCF := Lib.hid ((HR.out.ch.trans HC2.out).trans hc4)
    clear hb hbk hc4 x0 x1 x2 x3 HBK
    cases sm
    · go_wp2
      go_ret
      exact ⟨rfl, HCF.out⟩
    · go_wp2
      go_ret
      exact ⟨rfl, HCF.out⟩
  have hmg : mayG g = true := by unfold blkOk at hbk; exact (Bool.and_eq_true_iff.1 hbk).1
  obtain ⟨n, hn, rfl⟩ := may_nat hmg
  obtain ⟨B, rfl, hO⟩ := hb.2 n hbk rfl
  have HO := Lib.hid hO
  have HNK := Lib.hid hn
  have HCF := Lib.hid ((HR.out.ch.trans HC2.out).trans hO.ch)
  clear hb hbk hmg hO hn HBK x0 x1 x2 x3
  cases sm
  · go_wp2
    go_ret
    exact ⟨rfl, HCF.out⟩
  by_cases hwh : wh < 0
  · go_wp2
    go_ret
    exact ⟨rfl, HCF.out⟩
  obtain ⟨k, rfl⟩ : ∃ k : Nat, wh = (k : Int) := ⟨wh.toNat, by omega⟩
  have hm12 := small_le HSB.out.symm
  have HM12 := Lib.hid hm12
  have HL := Lib.hid (HLB.out HSB.out.symm)
  obtain ⟨x0, x1, x2, x3⟩ := HR.out.x.gr (HC2.out.trans HO.out.ch)
  have hokN : okN 7 n.ge 3 0 0 0 = true := by
    unfold okN
    rw [ok_may HNK.out, show wordsTo (wordsN 7 3 0 0 0) 5 = true from rfl]
    show (true && (true && inB ((0 : Int) - 0) 0 (n.W : Int))) = true
    rw [Bool.true_and, Bool.true_and]
    exact inB_true.2 ⟨by omega, by omega⟩
  have HNW := Lib.hid (rgNew_any B 7 n.ge 3 0 0 0 w4)
  clear hwh hm12
  go_wp2_with fail
  refine HNW.out.mono ?_
  rintro e w5 hnw
  obtain ⟨R, rfl, hR1, hR2, hc5⟩ : ∃ R, e = .returned (.tuple #[.pointer (some ⟨R, 0, none⟩), .int .i64 0]) ∧ w4.heap.size ≤ R ∧ RgIs w5 R (boX B n 7 3 0 0) ∧ Ch (fun _ => False) w4 w5 := by unfold NewPost at hnw; rw [hokN] at hnw; exact hnw
  have h5 := RgW.start HO.out hc5 hR2 hR1 rfl
  obtain ⟨Cc, T, hBO⟩ := bo_all (B := B) (vol := 7) (ep := 3) (st := 0) (ch := 0) (L := rowsL N Z m) HNK.out ⟨by omega, by omega⟩ ⟨by omega, by omega⟩ (by omega) ⟨by omega, by omega⟩ (rowsL_b HL.out)
  have hsz := secs_max HNK.out
  have hlm0 := bkD_lims 7 (secsG n)
  have HAP := Lib.hid (appended_any w2 B R (bkD 7 (secsG n)) (boX B n 7 3 0 0) A m C 2564 N Z w5 h5 (boX_ok HNK.out ⟨by omega, by omega⟩ ⟨by omega, by omega⟩ ⟨by omega, by omega⟩ ⟨by omega, by omega⟩) ((HL.out.gr HR.out.ch).gr HC2.out) HM12.out (hlm0.1.mono hsz) (hlm0.2.mono hsz) (by omega))
  have hlm1 := ad_lim (s := ⟨bkD 7 (secsG n), boX B n 7 3 0 0, [], true⟩) (t := 2564) (hlm0.1.mono hsz) (hlm0.2.mono hsz) (rowsL N Z m)
  rw [rowsL_len] at hlm1
  have HLM1 := Lib.hid (show Lim (ad0 B n 7 3 0 0 (rowsL N Z m)).d 22532 ∧ LimM (ad0 B n 7 3 0 0 (rowsL N Z m)).d 22532 from ⟨hlm1.1.mono (by have := HM12.out; omega), hlm1.2.mono (by have := HM12.out; omega)⟩)
  have HBO := Lib.hid hBO
  clear hnw hR1 hR2 hc5 h5 hBO hsz hlm0 hlm1 hokN HNW x0 x1 x2 x3
  go_wp2_with fail
  refine HAP.out.mono ?_
  rintro e w6 ⟨v6, rfl, hAD⟩
  obtain ⟨s, hs⟩ : ∃ s, s = ad0 B n 7 3 0 0 (rowsL N Z m) := ⟨_, rfl⟩
  have hA6 : AdW w2 B R s v6 w6 := by rw [hs]; exact hAD
  have hok : (adTo ⟨bkD 7 (secsG n), boX B n 7 3 0 0, [], true⟩ (rowsL N Z m)).ok = true := HBO.out.ok
  rw [hok]
  have HS := Lib.hid hs
  have HA6 := Lib.hid hA6
  have hnx : s.x.next = (T.flatten.length : Int) := by rw [hs]; exact HBO.out.log.next.trans (by simp)
  obtain ⟨nx, hnxe⟩ : ∃ nx, nx = T.flatten.length := ⟨_, rfl⟩
  have HNX := Lib.hid (rnext_any R s.x w6 hA6.rg.rg)
  rw [hnx, ← hnxe] at HNX
  have HNE := Lib.hid hnxe
  clear hAD hs hA6 hok hnx hnxe HAP
  go_wp2_with fail
  refine HNX.out.mono ?_
  rintro e w7 ⟨rfl, hc7⟩
  have HR7 := Lib.hid (HA6.out.rg.gr hc7)
  clear hc7 HNX
  by_cases hge : nx ≤ k
  · have hge' : (nx : Int) ≤ (k : Int) := by omega
    have HCF7 := Lib.hid ((HR.out.ch.trans HC2.out).trans HR7.out.ch)
    go_wp2
    go_ret
    exact ⟨rfl, HCF7.out⟩
  have hlt : (k : Int) < (nx : Int) := by omega
  have hle := HBO.out.log.le
  have hW2 := HNK.out.w2
  have hkW : k < n.W := by have := HNE.out; omega
  have HKW := Lib.hid hkW
  have a0 : (4 : Int) + (k : Int) = (adN n 0 k : Int) := by unfold adN; omega
  have a1 : (4 : Int) + (n.W : Int) + (k : Int) = (adN n 1 k : Int) := by unfold adN; omega
  obtain ⟨q0, hq0⟩ : ∃ q0 : Int, q0 = (adN n 0 k : Int) := ⟨_, rfl⟩
  obtain ⟨q1, hq1⟩ : ∃ q1 : Int, q1 = (adN n 1 k : Int) := ⟨_, rfl⟩
  rw [← hq0] at a0
  rw [← hq1] at a1
  have e0 : wrap64 (4 + (k : Int)) = q0 := by rw [a0.symm]; exact IntWalk.wrap64_in _ ⟨by omega, by omega⟩
  obtain ⟨d6, hd6⟩ : ∃ d6, d6 = s.d := ⟨_, rfl⟩
  have hf6 : Fine (secsG n) d6 := by rw [hd6, HS.out]; exact HBO.out.fine
  have hl6 : Lim d6 22532 ∧ LimM d6 22532 := by rw [hd6, HS.out]; exact HLM1.out
  have hdl6 : DevL 7 n d6 Cc := by rw [hd6, HS.out]; exact HBO.out.log.dev
  have ls1 := lose_log (c0 := 0) (s0 := k) (secs_le n) hf6 hdl6 (by omega) hkW
  rw [← hq0] at ls1
  obtain ⟨d7, hd7⟩ : ∃ d7, d7 = faultD d6 (flR q0) := ⟨_, rfl⟩
  rw [← hd7] at ls1
  have hl7 : Lim d7 22533 ∧ LimM d7 22533 := by rw [hd7]; exact (near_fault d6 (flR q0)).lim hl6.1 hl6.2
  have ls2 := blank_log (c0 := 1) (s0 := k) (secs_le n) ls1.1 ls1.2 (by omega) hkW
  rw [← hq1] at ls2
  obtain ⟨d8, hd8⟩ : ∃ d8, d8 = faultD d7 (flB q1) := ⟨_, rfl⟩
  rw [← hd8] at ls2
  have hl8 : Lim d8 22534 := by rw [hd8]; exact ((near_fault d7 (flB q1)).lim hl7.1 hl7.2).1
  have hok0 : FaOk (flR q0) := flR_ok (by unfold I64; omega)
  have hok1 : FaOk (flB q1) := flB_ok (by unfold I64; omega)
  have HF0 := Lib.hid ((hd6 ▸ HR7.out : RgW w2 _ B R d6 s.x w7).call (d' := faultD d6 (flR q0)) (r := .int .i64 (faultE d6 (flR q0))) (F := 28) (args := #[.pointer (some ⟨B, 0, none⟩), .agg (faC (flR q0))]) fun p hp h => by
    subst hp
    exact fault_any _ p d6 (flR q0) 22532 w7 h hok0 hl6.1 hl6.2 (by omega))
  rw [← a0] at HF0
  have HBT := Lib.hid (built_flR (4 + (k : Int)) w7)
  have HLS := Lib.hid ls2
  have HL7 := Lib.hid hl7
  have HL8 := Lib.hid hl8
  have HD7 := Lib.hid hd7
  have HD8 := Lib.hid hd8
  have HK1 := Lib.hid hok1
  have HQ0 := Lib.hid a0
  have HQ1 := Lib.hid a1
  have HHC := Lib.hid (HNE.out)
  have hkb : (k : Int) ≤ 512 := by omega
  clear hle hW2 hkW a0 a1 hq0 hq1 e0 hd6 hf6 hl6 hdl6 ls1 hd7 hl7 ls2 hd8 hl8 hok0 hok1 hge
  go_wp2_with (first
    | ((with_reducible refine wpList_isOp (.build 48 #[(0, .const (.int .i64 3)), (1, .tmp 51)]) rfl ?_); refine wpList_building _ rfl 48 #[(0, .const (.int .i64 3)), (1, .tmp 51)] rfl _ (by exact HBT.out) ?_)
    | fail)
  refine HF0.out.mono ?_
  rintro e w8 ⟨rfl, h8, _⟩
  rw [HQ0.out, ← HD7.out] at h8
  have HF1 := Lib.hid (h8.call (d' := faultD d7 (flB q1)) (r := .int .i64 (faultE d7 (flB q1))) (F := 28) (args := #[.pointer (some ⟨B, 0, none⟩), .agg (faC (flB q1))]) fun p hp h => by
    subst hp
    exact fault_any _ p d7 (flB q1) 22533 w8 h HK1.out HL7.out.1 HL7.out.2 (by omega))
  rw [← HQ1.out] at HF1
  have HBT1 := Lib.hid (built_flB (4 + (n.W : Int) + (k : Int)) w8)
  have y0 : w8.cell? ⟨H, 0, none⟩ = some (.int .i64 (n.W : Int)) := (HR.out.x.gr (HC2.out.trans h8.ch)).x0
  obtain ⟨fe, hfe⟩ : ∃ fe, fe = faultE d6 (flR (4 + (k : Int))) := ⟨_, rfl⟩
  rw [← hfe]
  have hW3 := HNK.out.w2
  clear h8 hfe HF0 HBT
  go_wp2_with (first
    | ((with_reducible refine wpList_isOp (.build 48 #[(0, .const (.int .i64 2)), (1, .tmp 60)]) rfl ?_); refine wpList_building _ rfl 48 #[(0, .const (.int .i64 2)), (1, .tmp 60)] rfl _ (by exact HBT1.out) ?_)
    | ((with_reducible refine wpList_isOp (.build 48 #[(0, .const (.int .i64 2)), (1, .tmp 59)]) rfl ?_); refine wpList_building _ rfl 48 #[(0, .const (.int .i64 2)), (1, .tmp 59)] rfl _ (by exact HBT1.out) ?_)
    | fail)
  refine HF1.out.mono ?_
  rintro e w9 ⟨rfl, h9, _⟩
  rw [HQ1.out, ← HD8.out] at h9
  obtain ⟨fe1, hfe1⟩ : ∃ fe1, fe1 = faultE d7 (flB (4 + (n.W : Int) + (k : Int))) := ⟨_, rfl⟩
  rw [← hfe1]
  have HL9 := Lib.hid (h9.load HNK.out (t := 22534) HL8.out (by omega))
  obtain ⟨x0, x1, x2, x3⟩ := HR.out.x.gr (HC2.out.trans h9.ch)
  clear h9 hfe1 HF1 HBT1 y0 hkb hW3
  go_wp2_with fail
  refine HL9.out.mono ?_
  rintro e w10 ⟨B0, B1, rfl, ha0, ha1, h10, _⟩
  have hmi : MiIs w10 (miOf 7 n d8 (some ⟨B0, 0, none⟩) (some ⟨B1, 0, none⟩) n.W n.W) := mi_is HNK.out ⟨by omega, by omega⟩ ha0 ha1
  have hlm := logM_of HLS.out.1.qt HNK.out (secs_le n) (show 0 ≤ (7 : Int) ∧ (7 : Int) ≤ 4294967295 by omega) HLS.out.2 (some ⟨B0, 0, none⟩) (some ⟨B1, 0, none⟩) n.W n.W
  obtain ⟨mm, hmm⟩ : ∃ mm, mm = miOf 7 n d8 (some ⟨B0, 0, none⟩) (some ⟨B1, 0, none⟩) n.W n.W := ⟨_, rfl⟩
  rw [← hmm] at hmi hlm
  have hmA0 : mm.A 0 = some ⟨B0, 0, none⟩ := by rw [hmm]; rfl
  have hmA1 : mm.A 1 = some ⟨B1, 0, none⟩ := by rw [hmm]; rfl
  have hmC0 : mm.C 0 = n.W := by rw [hmm]; rfl
  have hmC1 : mm.C 1 = n.W := by rw [hmm]; rfl
  have hmv : mm.vol = 7 := by rw [hmm]; rfl
  have hmg : mm.g = n := by rw [hmm]; rfl
  have hF9 := rfollow_yes mm 0 0 w10 hmi (by omega) ⟨by omega, by omega⟩
  have hbad : (allI mm 0 0).2 = true := by
    refine told_both (st := 0) (wh := k) HBO.out.log HNK.out (by have := HNE.out; omega) (fun c s' hc hs' hne => ?_) (fun c hc => ?_) hlm hmv hmg
    · have hmod : (0 + k) % n.W = k := by rw [Nat.zero_add]; exact Nat.mod_eq_of_lt HKW.out
      rw [hmod] at hne
      unfold setBad
      rw [if_neg (fun q => hne q.2), if_neg (fun q => hne q.2)]
    · have hmod : (0 + k) % n.W = k := by rw [Nat.zero_add]; exact Nat.mod_eq_of_lt HKW.out
      rw [hmod]
      unfold setBad
      obtain rfl | rfl : c = 0 ∨ c = 1 := by omega
      · rw [if_neg (by omega), if_pos ⟨rfl, rfl⟩]
      · rw [if_pos ⟨rfl, rfl⟩]
  rw [hmA0, hmA1, hmC0, hmC1, hmv, hmg] at hF9
  have HF9 := Lib.hid hF9
  have HBD := Lib.hid hbad
  have H10 := Lib.hid h10
  obtain ⟨y0, y1, y2, y3⟩ := HR.out.x.gr (HC2.out.trans h10.ch)
  clear hmm hmA0 hmA1 hmC0 hmC1 hmv hmg hF9 hbad hmi hlm ha0 ha1 h10 x0 x1 x2 x3 HL9
  go_wp2_with fail
  refine HF9.out.mono ?_
  rintro e w11 hfol
  obtain ⟨V, rfl, ⟨A2, C2, M, rfl, hM, _⟩, hc11⟩ := fol_bad hfol HBD.out
  obtain rfl : M = [] := List.map_eq_nil_iff.1 hM
  obtain ⟨wz, wx, G, hVT⟩ := varTl tl0 0 (v := .slice A2 0 C2) ⟨_, _, _, rfl⟩ w11
  have t0 : wx.cell? ⟨G, 0, none⟩ = some (.slice A2 0 C2) := blk_cell hVT.cx
  have t1 : wx.cell? ⟨G, 1, none⟩ = some (.int .i64 0) := blk_cell hVT.cx
  have HCE := Lib.hid ((((HR.out.ch.trans HC2.out).trans H10.out.ch).trans hc11).trans hVT.ch)
  have HVT := Lib.hid hVT
  rw [show (Value.slice A2 ([] : List Bv).length C2) = Value.slice A2 0 C2 from rfl]
  clear hfol hM hVT hc11 y0 y1 y2 y3 HF9
  go_wp2_with (first
    | ((with_reducible refine wpList_isOp (.alloc 40) rfl ?_); refine wpList_making _ wz rfl 40 rfl (tlC tl0 0 (.slice none 0 0)) G (zero_tl _) (by exact HVT.out.sz) (by exact HVT.out.al) ?_)
    | ((with_reducible refine wpList_isOp (.store 40 (.tmp 14) (.tmp 73)) rfl ?_); refine wpList_storing _ wx rfl 40 (.tmp 14) (.tmp 73) rfl (.agg (tlC tl0 0 (.slice A2 0 C2))) ⟨G, 0, none⟩ rfl rfl (by exact HVT.out.st) ?_)
    | fail)
  go_ret
  exact ⟨rfl, HCE.out⟩
#print axioms ringBoth_of
end Go.Proofs.YteleknojohnlbaaGreat
