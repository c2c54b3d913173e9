/-
  law09.awake, walked: the chapter's examples. KeepDoes, walked: whatever is wrong with a device, what is answered, and what it has then, is what the document says.
-/
import Derived.Test.YtjibfoplihaabaaMg44
namespace Go.Proofs.Ytjibfoplihaabaa
open Go.RowKit
set_option linter.unusedVariables false
set_option maxRecDepth 100000

/-! ### in plain words -/
theorem kep_drops {N k : Nat} (hk : k < N) (z : Nat → Nat) : ∀ (j : Nat) (d : Dev), Qt N d → ¬ HasZ d k z → j ≤ d.drops k → kepE j d ⟨(k : Int), 256, z⟩ = 22
  | 0, _, _, _, _ => rfl
  | j + 1, d, h, hn, hj => by
    obtain ⟨d', g, eD, eE⟩ := try_qt h hk z
    have hq := g.qt h
    rcases g.how with ⟨e0, e1, e2, e3, e4⟩ | ⟨t, r, e0, _⟩ | ⟨e0, _⟩
    · have hn' : ¬ HasZ d' k z := fun x => hn ⟨by rw [← e4]; exact x.1, fun c hc => by rw [← e3]; exact x.2 c hc⟩
      have hA : ¬ asP d' ⟨(k : Int), 256, z⟩ = true := fun x => hn' ((asP_qt hq hk z).1 x)
      rw [if_neg hA] at eE
      show (if tryE d _ = -1 then kepE j (tryD d _) _ else tryE d _) = 22
      rw [if_pos eE, eD]
      refine kep_drops hk z j { d' with ops := d'.ops + 1 } (hq.ops _) hn' ?_
      show j ≤ d'.drops k
      rw [e1, up_same]; omega
    · omega
    · omega
theorem qt0 (n : Nat) : Qt n (dev0 n) := ⟨rfl, rfl, rfl, rfl⟩
def fdr (a n : Int) : Fa := ⟨4, a, 0, n, 0, 0, 0, 0, 0⟩
theorem i64_0 : I64 0 := i64_lit (by decide)
theorem i64_4 : I64 4 := i64_lit (by decide)
theorem b8_0 : 0 < 256 := by decide
theorem fdr_ok {a n : Int} (ha : I64 a) (hn : I64 n) : FaOk (fdr a n) := ⟨i64_4, ha, i64_0, hn, i64_0, b8_0, b8_0, b8_0, b8_0⟩
/-- What a fault that drops leaves. -/
theorem drop_qt {N k m : Nat} {d : Dev} (h : Qt N d) (hk : k < N) (h1 : 1 ≤ m) (h2 : m ≤ 1000) : faultD d (fdr k m) = { d with drops := up d.drops k (d.drops k + m) } ∧ faultE d (fdr k m) = 0 := by
  have hb : hasB d (k : Int) = true := decide_eq_true (by rw [h.n]; omega)
  have e0 : ¬ ((fdr k m).n < 1 ∨ 1000 < (fdr k m).n) := by show ¬ ((m : Int) < 1 ∨ 1000 < (m : Int)); omega
  have e1 : (fdr k m).kind = 4 := rfl
  constructor
  · unfold faultD
    rw [show hasB d (fdr k m).pl = true from hb, e1, if_pos rfl, if_neg (by decide), if_neg (by decide), if_neg (by decide), if_pos rfl]
    unfold dropD
    rw [if_neg e0]
    rfl
  · unfold faultE
    rw [show hasB d (fdr k m).pl = true from hb, e1, if_pos rfl, if_neg (by decide), if_neg (by decide), if_neg (by decide), if_pos rfl]
    exact if_neg e0
theorem Qt.drops {N : Nat} {d : Dev} (h : Qt N d) (x : Nat → Nat) : Qt N { d with drops := x } := ⟨h.n, h.dead, h.armed, h.W⟩
def aw1 : Dev := faultD (dev0 2) (fdr 0 3)
def awP (b : Nat) : PutP := ⟨0, 256, fun _ => b⟩
def aw2 : Dev := kepD 4 aw1 (awP 1)
def aw3 : Dev := readD aw2 0
def aw4 : Dev := faultD aw3 (fdr 0 4)
theorem aw1_eq : aw1 = { dev0 2 with drops := up (fun _ => 0) 0 (0 + 3) } := (drop_qt (k := 0) (m := 3) (qt0 2) (by decide) (by decide) (by decide)).1
theorem aw2_has : kepE 4 aw1 (awP 1) = 0 ∧ Qt 2 aw2 ∧ HasZ aw2 0 (fun _ => 1) := by
  have h1 : Qt 2 aw1 := by rw [aw1_eq]; exact (qt0 2).drops _
  refine kep_puts (N := 2) (k := 0) (by decide) (fun _ => 1) 4 aw1 h1 (fun a => by rw [aw1_eq]; rfl) ?_
  rw [aw1_eq]
  show up (fun _ => 0) 0 (0 + 3) 0 + 0 < 4
  rw [up_same]
  decide
theorem aw2_read : readE aw2 0 = 0 ∧ readL aw2 0 = 256 ∧ ∀ c, c < 256 → readZ aw2 0 c = 1 := by
  obtain ⟨_, hq, hz⟩ := aw2_has
  obtain ⟨e1, _, e3⟩ := hq.read (k := 0) (by decide)
  rw [hz.1] at e1
  have e1' : readE aw2 0 = 0 := e1
  refine ⟨e1', by unfold readL; rw [e1']; rfl, fun c hc => ?_⟩
  have e3' : readZ aw2 0 = aw2.has 0 := e3
  rw [e3']
  exact hz.2 c hc
theorem aw4_no : kepE 4 aw4 (awP 2) = 22 := by
  obtain ⟨_, hq, hz⟩ := aw2_has
  have e2 : aw3 = { aw2 with ops := aw2.ops + 1 } := (hq.read (k := 0) (by decide)).2.1
  have h3 : Qt 2 aw3 := by rw [e2]; exact hq.ops _
  have e4 : aw4 = { aw3 with drops := up aw3.drops 0 (aw3.drops 0 + 4) } := (drop_qt (k := 0) (m := 4) h3 (by decide) (by decide) (by decide)).1
  refine kep_drops (N := 2) (k := 0) (by decide) (fun _ => 2) 4 aw4 (by rw [e4]; exact h3.drops _) (fun x => ?_) ?_
  · have h2 : aw4.has 0 0 = 2 := x.2 0 (by decide)
    have h1 : aw4.has 0 0 = 1 := by
      rw [e4]
      show aw3.has 0 0 = 1
      rw [e2]
      exact hz.2 0 (by decide)
    omega
  · rw [e4]
    show 4 ≤ up aw3.drops 0 (aw3.drops 0 + 4) 0
    rw [up_same]
    omega
theorem aw_lims : (Lim (dev0 2) 0 ∧ LimM (dev0 2) 0) ∧ (Lim aw1 1 ∧ LimM aw1 1) ∧ (Lim aw2 13 ∧ LimM aw2 13) ∧ (Lim aw3 14 ∧ LimM aw3 14) ∧ Lim aw4 15 ∧ LimM aw4 15 := by
  have l0 := lim0 2 0
  have l1 := (near_fault (dev0 2) (fdr 0 3)).lim l0.1 l0.2
  have l2 := kep_lim (P := awP 1) 4 l1.1 l1.2
  have l3 := (near_read aw2 0).lim l2.1 l2.2
  have l4 := (near_fault aw3 (fdr 0 4)).lim l3.1 l3.2
  exact ⟨l0, l1, l2, l3, l4⟩
set_option maxHeartbeats 3200000 in
theorem awake_any (K : KeepC) (w : World) : Calls Try.prog 7 #[] w (Told w) := by
  have HK := Lib.hid K
  obtain ⟨L0, L1, L2, L3, L4⟩ := aw_lims
  have HL0 := Lib.hid L0
  have HL1 := Lib.hid L1
  have HL2 := Lib.hid L2
  have HL3 := Lib.hid L3
  have HL4 := Lib.hid L4
  clear L0 L1 L2 L3 L4 K
  go_enter Try.func7, Try.ntmps7
  go_wp2_with fail
  refine (show Calls Try.prog _ #[.int .i64 2] _ _ from OneX.new (X := fun _ => False) 2 w (by decide) (by decide) w (Ch.refl _ _) (fun _ f => f.elim)).mono ?_
  rintro e w1 ⟨B, rfl, h1⟩
  have H1 := Lib.hid h1
  clear h1
  go_wp2_with fail
  refine (show Calls Try.prog _ #[_, .agg (faC (fdr 0 3))] _ _ from H1.out.fault (fdr_ok (i64_lit (by decide)) (i64_lit (by decide))) HL0.out.1 HL0.out.2 (by omega)).mono ?_
  rintro e w2 ⟨rfl, h2, _⟩
  have H2 := Lib.hid (show OneX w (fun _ => False) B aw1 w2 from h2)
  clear h2 H1
  go_wp2_with fail
  refine (show Calls Try.prog _ #[.int .u8 1] _ _ from sector_any 1 (by omega) _).mono ?_
  rintro e w3 ⟨b3, rfl, h3, hb3, hc3⟩
  have HX := Lib.hid (HK.out.oneX (P := awP 1) H2.out hc3 (rowIs_rowV h3 (show 256 ≤ 65536 by omega) (fun _ _ => (show 1 < 256 by omega))) (i64_lit (by decide)) h3.lt (Or.inr hb3) HL1.out.1 HL1.out.2 (by omega))
  clear h3 hb3 hc3
  go_wp2_with fail
  refine (show Calls Try.prog _ #[_, .agg #[.int .i64 0, .slice (some ⟨b3, 0, none⟩) 256 256]] _ _ from HX.out).mono ?_
  rintro e w4 ⟨rfl, h4, _⟩
  rw [aw2_has.1]
  have H4 := Lib.hid (show OneX w (fun _ => False) B aw2 w4 from h4)
  clear h4 HX H2
  go_wp2_with fail
  refine (show Calls Try.prog _ #[_, .int .i64 0] _ _ from H4.out.read (a := 0) HL2.out.1 (by omega)).mono ?_
  rintro e w5 ⟨A, C, rfl, h5⟩
  rw [aw2_read.1, aw2_read.2.1]
  have hr5 := h5.row
  have hx5 := h5.devX
  rw [aw2_read.2.1] at hr5 hx5
  obtain ⟨z, hz⟩ : ∃ z, z = readZ aw2 0 := ⟨_, rfl⟩
  rw [← hz] at hr5
  have HZ := Lib.hid hz
  have H5 := Lib.hid (show OneX w (fun j => False ∨ (Value.slice A 256 C).ownBlock = some j) B aw3 w5 from hx5)
  have HR5 := Lib.hid hr5
  clear h5 H4 hr5 hx5 hz
  go_wp2_with fail
  refine (show Calls Try.prog _ #[_, .agg (faC (fdr 0 4))] _ _ from H5.out.fault (fdr_ok (i64_lit (by decide)) (i64_lit (by decide))) HL3.out.1 HL3.out.2 (by omega)).mono ?_
  rintro e w6 ⟨rfl, h6, k6⟩
  have H6 := Lib.hid (show OneX w (fun j => False ∨ (Value.slice A 256 C).ownBlock = some j) B aw4 w6 from h6)
  have HR6 := Lib.hid (HR5.out.keep k6 (fun b hb q => q.2 (Or.inr hb)))
  clear h6 k6 H5 HR5
  go_wp2_with fail
  refine (show Calls Try.prog _ #[.int .u8 2] _ _ from sector_any 2 (by omega) _).mono ?_
  rintro e w7 ⟨b7, rfl, h7, hb7, hc7⟩
  have HX := Lib.hid (HK.out.oneX (P := awP 2) H6.out hc7 (rowIs_rowV h7 (show 256 ≤ 65536 by omega) (fun _ _ => (show 2 < 256 by omega))) (i64_lit (by decide)) h7.lt (Or.inr hb7) HL4.out.1 HL4.out.2 (by omega))
  have HR7 := Lib.hid (HR6.out.gr hc7)
  clear h7 hb7 hc7 HR6
  go_wp2_with fail
  refine (show Calls Try.prog _ #[_, .agg #[.int .i64 0, .slice (some ⟨b7, 0, none⟩) 256 256]] _ _ from HX.out).mono ?_
  rintro e w8 ⟨rfl, h8, k8⟩
  rw [aw4_no]
  have HC8 := Lib.hid h8.ch
  have HR8 := Lib.hid (HR7.out.keep k8 (fun b hb q => q.2 (Or.inr hb)))
  clear h8 k8 HX HR7 H6
  go_wp2_with fail
  refine (show Calls Try.prog _ #[.int .u8 1] _ _ from sector_any 1 (by omega) _).mono ?_
  rintro e w9 ⟨b9, rfl, h9, hb9, hc9⟩
  have HS := Lib.hid (same_any _ _ _ _ _ _ _ _ w9 (HR8.out.gr hc9) (rowIs_rowV h9 (by omega) (fun _ _ => (by omega : 1 < 256))))
  rw [eqB_yes rfl (fun c hc => by rw [HZ.out]; exact aw2_read.2.2 c hc)] at HS
  have HC9 := Lib.hid (HC8.out.trans hc9)
  clear h9 hb9 hc9 HR8 HC8
  go_wp2_with fail
  refine HS.out.mono ?_
  rintro e w10 ⟨rfl, n10, rfl⟩
  have HP : Hid (Told w (.returned (.bool true)) (w9.drewN n10)) := ⟨rfl, HC9.out.trans ((Ch.refl _ w9).drewN n10)⟩
  clear HS HC9
  go_wp2
  go_ret
  exact HP.out
#print axioms awake_any
end Go.Proofs.Ytjibfoplihaabaa
namespace Go.Proofs.Ytjibfoplihaabaa
open Go.RowKit
set_option linter.unusedVariables false
set_option maxRecDepth 100000

set_option maxHeartbeats 3200000 in
theorem keepDoes_any (K : KeepC) (A A2 A3 : Option Addr) (m C n C2 k C3 : Nat) (g : Nat → Fa) (die : Int) (l r : Nat → WantD) (w : World) (hf : RowF w A m g) (hd : I64 die) (hl : RowW w A2 n l) (hr : RowW w A3 k r) :
    Calls Try.prog 3 #[.slice A m C, .int .i64 die, .slice A2 n C2, .slice A3 k C3] w (Told w) := by
  have hm63 := hf.1
  have hn63 := hl.1
  have hk63 := hr.1
  have HK := Lib.hid K
  have HF := Lib.hid hf
  have HD := Lib.hid hd
  have HL := Lib.hid hl
  have HR := Lib.hid hr
  clear K hf hd hl hr
  by_cases hm30 : 30 < m
  · go_enter Try.func3, Try.ntmps3
    go_wp2_with fail
    refine (awake_any HK.out _).mono ?_
    rintro e w1 ⟨rfl, hc1⟩
    have HC1 := Lib.hid hc1
    clear hc1
    go_wp2
    go_ret
    exact ⟨rfl, HC1.out⟩
  by_cases hn10 : 10 < n
  · go_enter Try.func3, Try.ntmps3
    go_wp2_with fail
    refine (awake_any HK.out _).mono ?_
    rintro e w1 ⟨rfl, hc1⟩
    have HC1 := Lib.hid hc1
    clear hc1
    go_wp2
    go_ret
    exact ⟨rfl, HC1.out⟩
  by_cases hk10 : 10 < k
  · go_enter Try.func3, Try.ntmps3
    go_wp2_with fail
    refine (awake_any HK.out _).mono ?_
    rintro e w1 ⟨rfl, hc1⟩
    have HC1 := Lib.hid hc1
    clear hc1
    go_wp2
    go_ret
    exact ⟨rfl, HC1.out⟩
  go_enter Try.func3, Try.ntmps3
  go_wp2_with fail
  refine (awake_any HK.out _).mono ?_
  rintro e w1 ⟨rfl, hc1⟩
  have HSP := Lib.hid (spoilt_any A m C g die w w1 hc1 HF.out (by omega) HD.out)
  clear hc1
  go_wp2_with fail
  refine HSP.out.mono ?_
  rintro e w2 ⟨B, D, rfl, h2⟩
  obtain ⟨d, hd⟩ : ∃ d, d = spD g m die := ⟨_, rfl⟩
  obtain ⟨l1, l2⟩ := spD_lim g m die
  rw [← hd] at h2 l1 l2
  have H2 := Lib.hid h2
  have HL0 := Lib.hid (show Lim d 30 ∧ LimM d 30 from ⟨l1.mono (by omega), l2.mono (by omega)⟩)
  obtain ⟨f, hfF⟩ : ∃ f, f = fun c => wantP (l c) := ⟨_, rfl⟩
  obtain ⟨y, hyY⟩ : ∃ y, y = fun c => wantP (r c) := ⟨_, rfl⟩
  have HI := Lib.hid (show ∀ i, i < n → I64 (f i).pl by rw [hfF]; exact HL.out.i64)
  have HJ := Lib.hid (show ∀ i, i < k → I64 (y i).pl by rw [hyY]; exact HR.out.i64)
  have HPU := Lib.hid (show ∀ (w2 : World), Ch (fun _ => False) w w2 → Calls Try.prog 10 #[.slice A2 n C2] w2 (PutsP w2 n f) by rw [hfF]; exact fun w2 hc => puts_any A2 n C2 l w2 (HL.out.gr hc) (by omega))
  have HPV := Lib.hid (show ∀ (w2 : World), Ch (fun _ => False) w w2 → Calls Try.prog 10 #[.slice A3 k C3] w2 (PutsP w2 k y) by rw [hyY]; exact fun w2 hc => puts_any A3 k C3 r w2 (HR.out.gr hc) (by omega))
  obtain ⟨S, hS⟩ : ∃ S, S = allTo f d n := ⟨_, rfl⟩
  have HL1 := Lib.hid (show Lim S.d 200 ∧ LimM S.d 200 by
    have := allTo_lim (f := f) HL0.out.1 HL0.out.2 n
    rw [← hS] at this
    exact ⟨this.1.mono (by omega), this.2.mono (by omega)⟩)
  have HS := Lib.hid hS
  clear h2 l1 l2 hd hfF hyY hS HSP
  go_wp2_with fail
  refine (HPU.out _ H2.out.ch).mono ?_
  rintro e w3 ⟨A4, C4, rfl, hc3, hv3⟩
  have HX := Lib.hid (HK.out.allB (E := C4) H2.out hc3 hv3 HI.out HL0.out.1 HL0.out.2 (by omega))
  rw [← HS.out] at HX
  clear hc3 hv3
  go_wp2_with fail
  refine HX.out.mono ?_
  rintro e w4 ⟨rfl, h4⟩
  have H4 := Lib.hid h4
  clear h4 HX H2
  go_wp2_with fail
  refine (HPU.out _ H4.out.ch).mono ?_
  rintro e w5 ⟨A5, C5, rfl, hc5, hv5⟩
  have HX := Lib.hid (H4.out.rall (E := C5) hc5 hv5 HL0.out.1 HL0.out.2 (by omega))
  rw [← HS.out] at HX
  clear hc5 hv5
  go_wp2_with fail
  refine HX.out.mono ?_
  rintro e w6 ⟨rfl, h6⟩
  have HX := Lib.hid (alike_any w w6 B D S.d 200 h6 HL1.out.1 HL1.out.2 (by omega))
  clear h6 H4
  go_wp2_with fail
  refine HX.out.mono ?_
  rintro e w7 ⟨rfl, h7⟩
  obtain ⟨d7, hd7⟩ : ∃ d7, d7 = rdE S.d 8 := ⟨_, rfl⟩
  rw [← hd7] at h7
  have H7 := Lib.hid h7
  have HL7 := Lib.hid (show Lim d7 208 ∧ LimM d7 208 by rw [hd7]; exact rdE_lim HL1.out.1 HL1.out.2 8)
  obtain ⟨M, hM⟩ : ∃ M, M = mendTo y d7 k := ⟨_, rfl⟩
  have HM := Lib.hid hM
  have HLM := Lib.hid (show Lim M.d 400 ∧ LimM M.d 400 by
    have := mendTo_lim (f := y) HL7.out.1 HL7.out.2 k
    rw [← hM] at this
    exact ⟨this.1.mono (by omega), this.2.mono (by omega)⟩)
  clear h7 hd7 hM HX
  go_wp2_with fail
  refine (HPV.out _ H7.out.ch).mono ?_
  rintro e w8 ⟨A8, C8, rfl, hc8, hv8⟩
  have HX := Lib.hid (HK.out.mendB (E := C8) H7.out hc8 hv8 HJ.out HL7.out.1 HL7.out.2 (by omega))
  rw [← HM.out] at HX
  clear hc8 hv8
  go_wp2_with fail
  refine HX.out.mono ?_
  rintro e w9 ⟨rfl, h9⟩
  have H9 := Lib.hid h9
  clear h9 HX H7
  go_wp2_with fail
  refine (HPV.out _ H9.out.ch).mono ?_
  rintro e w10 ⟨A10, C10, rfl, hc10, hv10⟩
  have HX := Lib.hid (H9.out.rmend (E := C10) hc10 hv10 HL7.out.1 HL7.out.2 (by omega))
  rw [← HM.out] at HX
  clear hc10 hv10
  go_wp2_with fail
  refine HX.out.mono ?_
  rintro e w11 ⟨rfl, h11⟩
  have HX := Lib.hid (alike_any w w11 B D M.d 400 h11 HLM.out.1 HLM.out.2 (by omega))
  clear h11 H9
  go_wp2_with fail
  refine HX.out.mono ?_
  rintro e w12 ⟨rfl, h12⟩
  have HC := Lib.hid h12.ch
  have t1 : (S.e == S.e) = true := by simp
  have t2 : ((M.c : Int) == (M.c : Int)) = true := by simp
  have t3 : (M.e == M.e) = true := by simp
  clear h12 HX
  go_wp2
  go_ret
  exact ⟨rfl, HC.out⟩
#print axioms keepDoes_any
end Go.Proofs.Ytjibfoplihaabaa
