/-
  batch: BatchDumps and BatchDecodes, walked, of any program whose calls keep BatK. batch: BatchBack, walked, of any program whose calls keep BatK. batch: the landed calls keep what the laws ask of them.
-/
import Derived.Test.YtkpahhioiefcbaaMb29
import Derived.Deep.CutRange
import Derived.Test.YtkpahhioiefcbaaMb31
import Derived.Test.YtkpahhioiefcbaaMb32
namespace Go.Proofs.Ytkpahhioiefcbaa
open Go.RowKit
set_option linter.unusedVariables false
set_option maxRecDepth 100000
set_option linter.unusedSimpArgs false

theorem encB_len {L : List ChV} (h : (encL L).length ≤ 900000) (h2 : L.length ≤ 10000) : (encB L).length ≤ 1048576 := by
  unfold encB
  rw [List.length_append]
  have h1 := Cod.digs_len10 (n := L.length) (by omega)
  omega
theorem eqB_self (n : Nat) (z : Nat → Nat) : eqB n n z z = true := decide_eq_true ⟨rfl, fun _ _ => rfl⟩
set_option maxHeartbeats 6400000 in
theorem batchDumps_of (K : BatK) (A : Option Addr) (C : Nat) (l : List ChV) (w : World) (h1 : FlW kdCh w A C l) : Calls Try.prog 6 #[.slice A l.length C] w (Told w) := by
  have HK := Lib.hid K
  have HW1 := Lib.hid h1
  have HUP := Lib.hid (awake_any K w)
  obtain ⟨n1, hn1⟩ : ∃ n, n = l.length := ⟨_, rfl⟩
  obtain ⟨f1, hf1⟩ : ∃ f, f = lightB l 60 300 := ⟨_, rfl⟩
  rw [← hn1]
  have HN1 := Lib.hid hn1
  have HF1 := Lib.hid hf1
  clear h1 K hn1 hf1
  go_enter Try.func6, Try.ntmps6
  go_wp2_with fail
  refine HUP.out.mono ?_
  rintro e w1 ⟨rfl, hc1⟩
  have hfw := light_any A C l 60 300 (by omega) (by omega) w1 (HW1.out.gr hc1)
  rw [← HN1.out, ← HF1.out] at hfw
  have HFW := Lib.hid hfw
  have HC1 := Lib.hid hc1
  clear hc1 hfw HUP
  go_wp2_with fail
  refine HFW.out.mono ?_
  rintro e w3 ⟨rfl, hc3⟩
  have HC3 := Lib.hid (HC1.out.trans hc3)
  clear hc3 HFW HC1
  cases f1
  case false =>
    go_wp2_with fail
    go_ret
    exact ⟨rfl, HC3.out⟩
  case true =>
    obtain ⟨l1, l2⟩ := light_is HF1.out.symm
    have hv1 := HW1.out.fl (by omega)
    obtain ⟨w4, hw4⟩ : ∃ w4, w4 = w3.alloc (.cells #[.pointer none, .int .i64 0] 38) := ⟨_, rfl⟩
    obtain ⟨t, ht⟩ : ∃ t, t = w3.heap.size := ⟨_, rfl⟩
    have hc4 : Ch (fun _ => False) w3 w4 := by rw [hw4]; exact (Ch.refl _ w3).alloc _ _
    have hb : w4.heap[t]? = some (.cells #[.pointer none, .int .i64 0] 38 (0, 0)) := by rw [hw4, ht]; exact heap_alloc_new _ _
    have hwt : w.heap.size ≤ t := by rw [ht]; exact HC3.out.size
    have hc04 := HC3.out.trans hc4
    have hap := HK.out.app A C l t 0 [] w4 (TreeIs.new w4 t hb) (hv1.gr hc04) (hv1.apart hwt) (by omega) (by simp)
    rw [← HN1.out] at hap
    have HAP := Lib.hid hap
    have HC4 := Lib.hid hc04
    have HT := Lib.hid hwt
    have hl5 := app_le (L := []) rise_nil l
    simp only [List.length_nil] at hl5
    have hsz := app_size l2
    have hri := rise_appP rise_nil l
    have HP : Hid ((appP [] l).length ≤ 60 ∧ (∀ p ∈ appP [] l, p.1.size ≤ 300 ∧ p.2.size ≤ 300) ∧ Rise (appP [] l) ∧ okB ((appP [] l).map chK) ∧ (encL ((appP [] l).map chK)).length ≤ 900000) := Lib.hid (by
      have hok := okB_ch (T := appP [] l) (by omega) (fun x hx => by have := hsz x hx; omega)
      have hle := encL_len hok.2
      rw [List.length_map] at hle
      exact ⟨by omega, hsz, hri, hok, by omega⟩)
    clear l1 l2 hv1 hc4 hb hwt hc04 hap hl5 hsz hri
    go_upto_region 6 with fail
    rw [← ht, ← hw4]
    clear ht hw4
    go_wp2_with fail
    refine HAP.out.mono ?_
    rintro e w5 ⟨h5, rfl, T5, c5⟩
    have HDU := Lib.hid (HK.out.dump t h5 _ w5 T5 (by have := HP.out.1; omega) (fun x hx => by have := HP.out.2.1 x hx; omega) HP.out.2.2.2.2)
    have HC5 := Lib.hid (HC4.out.new (c5.mono fun i _ e => by rw [e]; exact HT.out))
    have HT5 := Lib.hid T5
    clear T5 c5 HAP
    go_wp2_with fail
    refine HDU.out.mono ?_
    rintro e w6 ⟨v6, E6, rfl, _, hc6, hy6, _⟩
    obtain ⟨rfl, hrow6⟩ := hy6 HP.out.2.2.2.1
    obtain ⟨A6, C6, rfl, _⟩ := id hrow6
    have hd := dec_enc HP.out.2.2.2.1
    have hln := encB_len HP.out.2.2.2.2 (by rw [List.length_map]; have := HP.out.1; omega)
    have HFI := Lib.hid (HK.out.fill A6 _ C6 _ w6 hrow6 hln)
    have HD := Lib.hid hd
    have HR6 := Lib.hid hrow6
    have HC6 := Lib.hid hc6
    obtain ⟨N, hN⟩ : ∃ N, N = (encB ((appP [] l).map chK)).length := ⟨_, rfl⟩
    obtain ⟨Z, hZ⟩ : ∃ Z, Z = Cod.litZ (encB ((appP [] l).map chK)) := ⟨_, rfl⟩
    rw [← hN, ← hZ] at HFI HD HR6
    rw [← hN]
    have HNZ := Lib.hid (And.intro hN hZ)
    clear hc6 hy6 hrow6 hd hln HDU hN hZ
    go_wp2_with fail
    refine HFI.out.mono ?_
    rintro e w7 ⟨o, E7, rfl, hc7, _, _, hy7⟩
    obtain ⟨rfl, u, h7, rfl, hu, T7⟩ := hy7 HD.out.1 (by rw [HD.out.2, nor_ch]; exact fill_of HP.out.2.2.1)
    rw [HD.out.2, nor_ch, pr_ch] at T7
    have HDU := Lib.hid (HK.out.dump u h7 _ w7 T7 (by have := HP.out.1; omega) (fun x hx => by have := HP.out.2.1 x hx; omega) HP.out.2.2.2.2)
    have HT7 := Lib.hid T7
    have HC7 := Lib.hid hc7
    have hp : ptrV (some u) = .pointer (some ⟨u, 0, none⟩) := rfl
    rw [hp]
    clear hc7 hy7 T7 hp HFI hu
    go_wp2_with fail
    refine HDU.out.mono ?_
    rintro e w8 ⟨v8, E8, rfl, _, hc8, hy8, _⟩
    obtain ⟨rfl, hrow8⟩ := hy8 HP.out.2.2.2.1
    obtain ⟨A8, C8, rfl, _⟩ := id hrow8
    rw [← HNZ.out.1, ← HNZ.out.2] at hrow8
    rw [← HNZ.out.1]
    have HALL := Lib.hid (all_any' (some t) h5 (appP [] l) w8 (TreeIs.gr HT5.out ((HC6.out.trans HC7.out).trans hc8)))
    have HR8 := Lib.hid hrow8
    have HC8 := Lib.hid hc8
    clear hc8 hy8 hrow8 HDU
    go_wp2_with fail
    refine HALL.out.mono ?_
    rintro e w9 ⟨v9, rfl, ho9, hc9⟩
    have HALL2 := Lib.hid (all_any' (some u) h7 (appP [] l) w9 (TreeIs.gr HT7.out (HC8.out.trans hc9)))
    obtain ⟨A9, C9, rfl⟩ := ho9.len
    have HO9 := Lib.hid ho9
    have HC9 := Lib.hid hc9
    clear ho9 hc9 HALL
    go_wp2_with fail
    refine HALL2.out.mono ?_
    rintro e w10 ⟨v10, rfl, ho10, hc10⟩
    obtain ⟨A10, C10, rfl⟩ := ho10.len
    have hs := rsame_any A9 A10 C9 C10 ((appP [] l).map chK) w10 ((HO9.out.gr hc10).read kdCk_ok (by have := HP.out.1; omega)).ck (ho10.read kdCk_ok (by have := HP.out.1; omega)).ck (by rw [List.length_map]; have := HP.out.1; omega)
    rw [List.length_map] at hs
    have HSM := Lib.hid hs
    have HC10 := Lib.hid hc10
    obtain ⟨M, hM⟩ : ∃ M, M = (appP [] l).length := ⟨_, rfl⟩
    rw [← hM] at HSM ⊢
    clear ho10 hc10 hs hM HALL2
    go_wp2_with fail
    refine HSM.out.mono ?_
    rintro e w11 ⟨rfl, hc11⟩
    have k8 : Ch (fun _ => False) w8 w11 := (HC9.out.trans HC10.out).trans hc11
    have hsm := same_any _ _ _ _ _ _ _ _ w11 (HR6.out.gr ((HC7.out.trans HC8.out).trans k8)) (HR8.out.gr k8)
    rw [eqB_self] at hsm
    have HSM2 := Lib.hid hsm
    have HC11 := Lib.hid ((HC5.out.trans HC6.out).trans ((HC7.out.trans HC8.out).trans k8))
    clear hc11 k8 hsm HSM
    go_wp2_with fail
    refine HSM2.out.mono ?_
    rintro e w12 ⟨rfl, d, rfl⟩
    have HFIN := Lib.hid (HC11.out.trans ((Ch.refl (fun _ => False) w11).drewN d))
    go_wp2_with fail
    go_ret
    exact ⟨rfl, HFIN.out⟩
#print axioms batchDumps_of
set_option maxHeartbeats 6400000 in
theorem batchDecodes_of (K : BatK) {v : Value} {n : Nat} {z : Nat → Nat} (w : World) (h : RowV w v n z) : Calls Try.prog 3 #[v] w (Told w) := by
  obtain ⟨A, C, rfl, hle, _⟩ := id h
  have HK := Lib.hid K
  have HR := Lib.hid h
  have HUP := Lib.hid (awake_any K w)
  have n0 : (0 : Int) ≤ (n : Int) := Int.natCast_nonneg _
  have n1 : (n : Int) ≤ 140737488351232 := by have := hle.1; omega
  clear h K hle
  go_enter Try.func3, Try.ntmps3
  go_wp2_with fail
  refine HUP.out.mono ?_
  rintro e w1 ⟨rfl, hc1⟩
  have HC1 := Lib.hid hc1
  clear hc1 HUP
  by_cases hbig : n ≤ 6000
  case neg =>
    have b1 : (6000 : Int) < (n : Int) := by omega
    clear hbig
    go_wp2_with fail
    go_ret
    exact ⟨rfl, HC1.out⟩
  case pos =>
    have b1 : ¬ (6000 : Int) < (n : Int) := by omega
    have HDEC := Lib.hid (HK.out.dec A n C z w1 (HR.out.gr HC1.out) (by omega))
    have HLN := Lib.hid hbig
    have HX : Hid ((decX n z).length ≤ 4096) := Lib.hid (by
      unfold decX
      split
      · rename_i h
        rw [dX_len]
        exact (dec_ok h).2.1
      · exact Nat.zero_le _)
    clear hbig
    go_wp2_with fail
    refine HDEC.out.mono ?_
    rintro e w2 ⟨v2, rfl, ho2, hc2⟩
    have HDEC2 := Lib.hid (rdec_any A n C z w2 (HR.out.gr (HC1.out.trans hc2)) (by have := HLN.out; omega))
    obtain ⟨A2, C2, rfl⟩ := ho2.len
    have HO2 := Lib.hid ho2
    have HC2 := Lib.hid hc2
    obtain ⟨E, hE⟩ : ∃ E, E = decE n z := ⟨_, rfl⟩
    rw [← hE]
    unfold RDecP at HDEC2
    rw [← hE] at HDEC2
    have HE := Lib.hid hE
    clear ho2 hc2 HDEC hE
    go_wp2_with fail
    refine HDEC2.out.mono ?_
    rintro e w3 ⟨v3, rfl, ho3, hc3⟩
    obtain ⟨A3, C3, rfl⟩ := ho3.len
    have hs := rsame_any A2 A3 C2 C3 (decX n z) w3 ((HO2.out.gr hc3).read kdCh_ok (by have := HX.out; omega)) (ho3.read kdCh_ok (by have := HX.out; omega)) (by have := HX.out; omega)
    have HSM := Lib.hid hs
    have HC3 := Lib.hid hc3
    obtain ⟨M, hM⟩ : ∃ M, M = (decX n z).length := ⟨_, rfl⟩
    rw [← hM] at HSM ⊢
    have HM := Lib.hid hM
    clear ho3 hc3 hs hM HDEC2
    go_wp2_with fail
    refine HSM.out.mono ?_
    rintro e w4 ⟨rfl, hc4⟩
    have hc34 := HC3.out.trans hc4
    have HFI := Lib.hid (HK.out.fill A n C z w4 (HR.out.gr ((HC1.out.trans HC2.out).trans hc34)) (by have := HLN.out; omega))
    have HC4 := Lib.hid hc34
    clear hc4 hc34 HSM HC3
    go_wp2_with fail
    refine HFI.out.mono ?_
    rintro e w5 ⟨o, G, rfl, hc5, hy1, hy2, hy3⟩
    have HC5 := Lib.hid hc5
    rw [← HE.out] at hy1 hy2 hy3
    by_cases hE0 : E = 0
    · subst hE0
      by_cases hf : fillP (decX n z)
      · obtain ⟨rfl, u, h5, rfl, _, T5⟩ := hy3 rfl hf
        have hfl := rfills_any A2 C2 (decX n z) w5 ((HO2.out.gr (HC4.out.trans hc5)).read kdCh_ok (by have := HX.out; omega)) (by have := HX.out; omega)
        rw [fill_yes hf, ← HM.out] at hfl
        have HFL := Lib.hid hfl
        have HT5 := Lib.hid T5
        have HF := Lib.hid (fill_ch hf)
        have hp : ptrV (some u) = .pointer (some ⟨u, 0, none⟩) := rfl
        rw [hp]
        clear hy1 hy2 hy3 hfl T5 hf hp hc5 HFI
        go_wp2_with fail
        refine HFL.out.mono ?_
        rintro e w6 ⟨rfl, hc6⟩
        have HALL := Lib.hid (all_any' (some u) h5 _ w6 (TreeIs.gr HT5.out hc6))
        have HC6 := Lib.hid hc6
        clear hc6 HFL
        go_wp2_with fail
        refine HALL.out.mono ?_
        rintro e w7 ⟨v7, rfl, ho7, hc7⟩
        have ho := ho7.ck
        rw [HF.out] at ho
        obtain ⟨A7, C7, rfl⟩ := ho.len
        have hs := rsame_any A7 A2 C7 C2 (decX n z) w7 (ho.read kdCh_ok (by have := HX.out; omega)) ((HO2.out.gr ((HC4.out.trans HC5.out).trans (HC6.out.trans hc7))).read kdCh_ok (by have := HX.out; omega)) (by have := HX.out; omega)
        rw [← HM.out] at hs
        have HSM := Lib.hid hs
        have HC7 := Lib.hid hc7
        rw [← HM.out]
        clear ho7 ho hc7 hs HALL
        go_wp2_with fail
        refine HSM.out.mono ?_
        rintro e w8 ⟨rfl, hc8⟩
        have HFIN := Lib.hid (((HC1.out.trans HC2.out).trans (HC4.out.trans HC5.out)).trans ((HC6.out.trans HC7.out).trans hc8))
        clear hc8
        go_wp2_with fail
        go_ret
        exact ⟨rfl, HFIN.out⟩
      · obtain ⟨rfl, rfl⟩ := hy2 rfl hf
        have hfl := rfills_any A2 C2 (decX n z) w5 ((HO2.out.gr (HC4.out.trans hc5)).read kdCh_ok (by have := HX.out; omega)) (by have := HX.out; omega)
        rw [fill_no hf, ← HM.out] at hfl
        have HFL := Lib.hid hfl
        have hp : ptrV none = .pointer none := rfl
        rw [hp]
        clear hy1 hy2 hy3 hfl hf hp hc5 HFI
        go_wp2_with fail
        refine HFL.out.mono ?_
        rintro e w6 ⟨rfl, hc6⟩
        have HFIN := Lib.hid (((HC1.out.trans HC2.out).trans (HC4.out.trans HC5.out)).trans hc6)
        clear hc6
        go_wp2_with fail
        go_ret
        exact ⟨rfl, HFIN.out⟩
    · obtain ⟨rfl, rfl⟩ := hy1 hE0
      have e0 : ¬ (E : Int) = 0 := by omega
      have HFIN := Lib.hid ((HC1.out.trans HC2.out).trans (HC4.out.trans HC5.out))
      have hp : ptrV none = .pointer none := rfl
      rw [hp]
      clear hy1 hy2 hy3 hp hc5 HFI
      go_wp2_with fail
      go_ret
      exact ⟨rfl, HFIN.out⟩
#print axioms batchDecodes_of
end Go.Proofs.Ytkpahhioiefcbaa
namespace Go.Proofs.Ytkpahhioiefcbaa
open Go.RowKit
set_option linter.unusedVariables false
set_option maxRecDepth 100000
set_option linter.unusedSimpArgs false

theorem oX_gone {n : Nat} {z : Nat → Nat} (h : (oX n z).2.2 = true) : (oX n z).2.1.size = 0 := by
  unfold oX at h ⊢
  have h0 : oV n z = 0 := by simpa using h
  rw [h0]
  rfl
theorem dX_gone : ∀ (m n : Nat) (z : Nat → Nat), ∀ x ∈ dX m n z, x.2.2 = true → x.2.1.size = 0
  | 0, _, _, x, hx, _ => absurd hx (by simp [dX])
  | m + 1, n, z, x, hx, hg => by
    rcases List.mem_cons.1 hx with rfl | hx
    · exact oX_gone hg
    · exact dX_gone m _ _ x hx hg
theorem decX_size {n : Nat} {z : Nat → Nat} (h : decE n z = 0) (hb : Bytes n z) : ∀ x ∈ decX n z, x.1.size ≤ 10000 ∧ x.2.1.size ≤ 10000 := fun x hx => by
  have h1 := (enc_dec h hb).2.2 x hx
  refine ⟨by have := h1.1; omega, ?_⟩
  cases hg : x.2.2
  · have := h1.2 hg; omega
  · rw [(dec_ok h).2.2.2.2] at hx
    have := dX_gone _ _ _ x hx hg
    omega
theorem byS_len2 {s : ByteArray} {B : Nat} (h : s.size ≤ B) (hB : B ≤ 100000) : (byS s).length ≤ B + 10 := by
  unfold byS byL
  rw [List.length_append, rowL_len]
  have := Cod.digs_len10 (n := s.size) (by omega)
  omega
theorem encL_len2 {L : List ChV} {B : Nat} (hB : B ≤ 100000) (h : ∀ x ∈ L, x.1.size ≤ B ∧ x.2.1.size ≤ B) : (encL L).length ≤ (B + B + 21) * L.length := by
  induction L with
  | nil => exact Nat.zero_le _
  | cons x L ih =>
    rw [encL_cons, List.length_append, List.length_cons, Nat.mul_succ]
    have h0 := h x (List.mem_cons_self ..)
    have h2 := ih fun y hy => h y (List.mem_cons_of_mem _ hy)
    have h3 := byS_len2 h0.1 hB
    have h4 := byS_len2 h0.2 hB
    have h5 : (encC x).length ≤ B + B + 21 := by
      unfold encC
      rw [List.length_append]
      split
      · simp only [List.length_singleton]; omega
      · simp only [List.length_cons]; omega
    omega
theorem lit_rowL {n : Nat} (z : Nat → Nat) : eqB (rowL n z).length n (Cod.litZ (rowL n z)) z = true := decide_eq_true ⟨rowL_len n z, fun c hc => by
  rw [rowL_len] at hc
  unfold Cod.litZ rowL
  rw [List.getD, List.getElem?_map, List.getElem?_range hc]
  rfl⟩
theorem encL_row {n : Nat} {z : Nat → Nat} (h : decE n z = 0) (hb : Bytes n z) : (encL (decX n z)).length ≤ n := by
  have h1 := congrArg List.length (enc_dec h hb).1
  unfold encB at h1
  rw [List.length_append, rowL_len] at h1
  omega
/-- A row with one cell more of a variable of three, written over. -/
theorem set_val {w : World} {H : Nat} {k v : ByteArray} {g : Bool} (h : w.heap[H]? = some (.cells (chC (k, v, g)) 44 (0, 0))) (u : ByteArray) : (w.setCell ⟨H, 1, none⟩ (.string u)).heap[H]? = some (.cells (chC (k, u, g)) 44 (0, 0)) := by
  rw [blk_set h]
  rfl
/-- How far the law's own list has come. -/
def WnSt (w wr : World) (l : List ChV) (j : Nat) (u : Value) : Prop := FlO kdCh w wr u ((l.take j).map norC) ∧ Ch (fun _ => False) w wr
set_option maxHeartbeats 6400000 in
theorem batchBack_of (K : BatK) (A : Option Addr) (C : Nat) (l : List ChV) {v : Value} {n : Nat} {z : Nat → Nat} (w : World) (h1 : FlW kdCh w A C l) (h : RowV w v n z) : Calls Try.prog 5 #[.slice A l.length C, v] w (Told w) := by
  obtain ⟨A2, C2, rfl, hle, _⟩ := id h
  have HK := Lib.hid K
  have HR := Lib.hid h
  have HW1 := Lib.hid h1
  have HUP := Lib.hid (awake_any K w)
  have n0 : (0 : Int) ≤ (n : Int) := Int.natCast_nonneg _
  have n1 : (n : Int) ≤ 140737488351232 := by have := hle.1; omega
  obtain ⟨m, hm⟩ : ∃ m, m = l.length := ⟨_, rfl⟩
  obtain ⟨f1, hf1⟩ : ∃ f, f = lightB l 60 5000 := ⟨_, rfl⟩
  rw [← hm]
  have HM := Lib.hid hm
  have HF1 := Lib.hid hf1
  have m0 : (0 : Int) ≤ (m : Int) := Int.natCast_nonneg _
  clear h h1 K hle hm hf1
  go_enter Try.func5, Try.ntmps5
  go_wp2_with fail
  refine HUP.out.mono ?_
  rintro e w1 ⟨rfl, hc1⟩
  have hfw := light_any A C l 60 5000 (by omega) (by omega) w1 (HW1.out.gr hc1)
  rw [← HM.out, ← HF1.out] at hfw
  have HFW := Lib.hid hfw
  have HC1 := Lib.hid hc1
  clear hc1 hfw HUP
  go_wp2_with fail
  refine HFW.out.mono ?_
  rintro e w2 ⟨rfl, hc2⟩
  have HC2 := Lib.hid (HC1.out.trans hc2)
  clear hc2 HFW HC1
  by_cases hok : f1 = true ∧ n ≤ 6000
  case neg =>
    have hno : f1 = false ∨ (f1 = true ∧ ¬ n ≤ 6000) := by
      cases f1
      · exact Or.inl rfl
      · exact Or.inr ⟨rfl, fun q => hok ⟨rfl, q⟩⟩
    clear hok
    rcases hno with rfl | ⟨rfl, q⟩
    · go_wp2_with fail
      go_ret
      exact ⟨rfl, HC2.out⟩
    · have b1 : (6000 : Int) < (n : Int) := by omega
      clear q
      go_wp2_with fail
      go_ret
      exact ⟨rfl, HC2.out⟩
  case pos =>
    obtain ⟨rfl, hn⟩ := hok
    have b1 : ¬ (6000 : Int) < (n : Int) := by omega
    obtain ⟨l1, l2⟩ := light_is HF1.out.symm
    have hv1 := HW1.out.fl (by omega)
    have hel := encL_len2 (B := 5000) (by omega) l2
    have hle : (encL l).length ≤ 900000 := by omega
    have henc := HK.out.enc A C l w2 (hv1.gr HC2.out) (by omega) (fun x hx => by have := l2 x hx; omega) hle
    rw [← HM.out] at henc
    have HENC := Lib.hid henc
    have HV1 := Lib.hid hv1
    have HN := Lib.hid hn
    have HL := Lib.hid (And.intro l1 hle)
    have m1 : (m : Int) ≤ 60 := by rw [HM.out]; omega
    clear l1 l2 hv1 hel hle henc hn
    go_wp2_with fail
    refine HENC.out.mono ?_
    rintro e w3 ⟨vb, E, rfl, hany, hc3, hy, hno⟩
    have huni : ∃ nb zb, RowV w3 vb nb zb ∧ nb ≤ 1048576 ∧ (okB l → E = 0 ∧ decE nb zb = 0 ∧ decX nb zb = l.map norC) ∧ (¬ okB l → ¬ E = 0) := by
      by_cases hk : okB l
      · obtain ⟨h1, h2⟩ := hy hk
        obtain ⟨h3, h4⟩ := dec_enc hk
        exact ⟨_, _, h2, encB_len HL.out.2 (by have := HL.out.1; omega), fun _ => ⟨h1, h3, h4⟩, fun q => absurd hk q⟩
      · obtain ⟨nb, zb, h1, h2⟩ := hany
        exact ⟨nb, zb, h1, h2, fun q => absurd q hk, fun _ => hno hk⟩
    obtain ⟨nb, zb, hrow, hnb, hyn⟩ := huni
    obtain ⟨Ab, Cb, rfl, _⟩ := id hrow
    have HYN := Lib.hid hyn
    have HC3 := Lib.hid (HC2.out.trans hc3)
    have HDEC := Lib.hid (HK.out.dec Ab nb Cb zb w3 hrow hnb)
    clear hc3 hy hno hrow hnb HENC hany hyn
    go_wp2_with fail
    refine HDEC.out.mono ?_
    rintro e w4 ⟨v4, rfl, ho4, hc4⟩
    have HC4 := Lib.hid (HC3.out.trans hc4)
    have HO4 := Lib.hid ho4
    obtain ⟨A4, C4, rfl⟩ := ho4.len
    obtain ⟨F, hF⟩ : ∃ F, F = decE nb zb := ⟨_, rfl⟩
    obtain ⟨XX, hXX⟩ : ∃ XX, XX = decX nb zb := ⟨_, rfl⟩
    rw [← hF, ← hXX] at HYN
    rw [← hXX] at HO4
    rw [← hF, ← hXX]
    obtain ⟨P, hP⟩ : ∃ P, P = XX.length := ⟨_, rfl⟩
    rw [← hP]
    have HP := Lib.hid hP
    clear ho4 hc4 HDEC hF hXX hP
    go_upto_if 46 with fail
    go_cut [] from 47 to 72 (fun wx => Hid (Ch (fun _ => False) w wx))
    case rest =>
      have HCC := Lib.hid hcut.out
      have hrb := HR.out.gr HCC.out
      have HDB := Lib.hid (HK.out.dec A2 n C2 z wc hrb (by have := HN.out; omega))
      clear hcut hrb HYN HO4 HC4
      go_wp2_with fail
      refine HDB.out.mono ?_
      rintro e w5 ⟨v5, rfl, ho5, hc5⟩
      obtain ⟨A5, C5, rfl⟩ := ho5.len
      have HC5 := Lib.hid (HCC.out.trans hc5)
      by_cases hd : decE n z = 0
      · obtain ⟨he, hok⟩ := enc_dec hd HR.out.bytes
        have hro := encL_row hd HR.out.bytes
        have hfl := ho5.read kdCh_ok (by have := hok.1; omega)
        have henc := HK.out.enc A5 C5 (decX n z) w5 hfl (by have := hok.1; omega) (decX_size hd HR.out.bytes) (by have := HN.out; omega)
        have HOK := Lib.hid (And.intro he hok)
        obtain ⟨M, hM⟩ : ∃ M, M = (decX n z).length := ⟨_, rfl⟩
        rw [← hM] at henc ⊢
        rw [hd]
        have HENC := Lib.hid henc
        clear he hok hro hfl henc hd ho5 hc5 hM HDB
        go_wp2_with fail
        refine HENC.out.mono ?_
        rintro e w6 ⟨v6, E6, rfl, _, hc6, hy6, _⟩
        obtain ⟨rfl, hrow6⟩ := hy6 HOK.out.2
        rw [HOK.out.1] at hrow6
        obtain ⟨A6, C6, rfl, _⟩ := id hrow6
        have hsm := same_any _ _ _ _ _ _ _ _ w6 hrow6 (HR.out.gr (HC5.out.trans hc6))
        rw [lit_rowL] at hsm
        have HSM := Lib.hid hsm
        have HC6 := Lib.hid (HC5.out.trans hc6)
        obtain ⟨R, hR⟩ : ∃ R, R = (rowL n z).length := ⟨_, rfl⟩
        rw [← hR] at HSM ⊢
        clear hc6 hy6 hrow6 hsm HENC hR
        go_wp2_with fail
        refine HSM.out.mono ?_
        rintro e w7 ⟨rfl, d, rfl⟩
        have HFIN := Lib.hid (HC6.out.trans ((Ch.refl (fun _ => False) w6).drewN d))
        go_wp2_with fail
        go_ret
        exact ⟨rfl, HFIN.out⟩
      · have hx : decX n z = [] := by unfold decX; rw [if_neg hd]
        rw [hx]
        obtain ⟨q, hq⟩ : ∃ q, q = decE n z := ⟨_, rfl⟩
        rw [← hq]
        have e0 : ¬ (q : Int) = 0 := by omega
        clear hd hx hq ho5 hc5 HDB
        go_wp2_with fail
        go_ret
        exact ⟨rfl, HC5.out⟩
    case first =>
      by_cases hk : okB l
      case neg =>
        have e0 : ¬ E = 0 := HYN.out.2 hk
        have e1 : (E == 0) = false := by simp [e0]
        clear hk HYN
        go_wp2_with fail
        go_meet
        exact HC4
      case pos =>
        obtain ⟨rfl, rfl, rfl⟩ := HYN.out.1 hk
        clear hk HYN
        go_wp2_with fail
        go_loopw [11, 12] (fun u i wr => ∃ j : Nat, j ≤ m ∧ i = .int .i64 (j : Int) ∧ Hid (WnSt w4 wr l j u)) (fun u i _ => m - (intOf i).toNat)
        case atStart => exact ⟨0, Nat.zero_le _, rfl, Lib.hid ⟨FlO.start _ _ _, Ch.refl _ _⟩⟩
        case round =>
          obtain ⟨j, hj, rfl, HS⟩ := hrel
          have j0 : (0 : Int) ≤ (j : Int) := Int.natCast_nonneg _
          by_cases hlt : j < m
          · have j1 : (j : Int) < (m : Int) := by omega
            obtain ⟨x, hxe⟩ : ∃ x, l[j]? = some x := ⟨_, List.getElem?_eq_getElem (by rw [← HM.out]; exact hlt)⟩
            have hv := HV1.out.gr (HC4.out.trans HS.out.2)
            obtain ⟨b, o, rfl⟩ := hv.some' (by rw [← HM.out]; omega)
            have hld := hv.load kdCh_ok hxe (Try.underlying44) rfl
            have htk : l.take (j + 1) = l.take j ++ [x] := by rw [List.take_add_one, hxe]; rfl
            have HTK := Lib.hid htk
            have hjl : j ≤ l.length := by rw [← HM.out]; omega
            obtain ⟨w5, Hx, hz⟩ := zeC wr
            obtain ⟨w6, hs⟩ := stC (x := x) hz.cx
            have hc6 : Ch (fun _ => False) wr w6 := hz.ch.new (hs.ch.mono fun i _ e => by rw [e, ← hz.sz]; exact Nat.le_refl _)
            have c2 : w6.cell? ⟨Hx, 2, none⟩ = some (.bool x.2.2) := blk_cell hs.cx
            have HLD := Lib.hid hld
            obtain ⟨k, v, g0⟩ := x
            cases g0
            · have hc7 := hc6
              have hn : norC (k, v, false) = (k, v, false) := rfl
              have HLD2 := Lib.hid (load_ch hs.cx)
              obtain ⟨g, cap, W8, hr, ho, hk8, _⟩ := FlO.app kdCh_ok (x := norC (k, v, false)) (HS.out.1.gr hc7) (by rw [List.length_map, List.length_take]; have := HL.out.1; omega) (HS.out.2.trans hc7).size
              have hsl := fl_slice kdCh_ok w6 (norC (k, v, false))
              have hown := HS.out.1.gr hc7
              have hlen : ((l.take j).map norC).length = j := by rw [List.length_map, List.length_take]; omega
              rw [hlen] at hr ho
              obtain ⟨M, hM⟩ : ∃ M, M = j + 1 := ⟨_, rfl⟩
              rw [← hM] at hr ho
              have HS2 : Hid (WnSt w4 W8 l (j + 1) (.slice (some ⟨g, 0, none⟩) M cap)) := Lib.hid ⟨by rw [HTK.out, List.map_append]; exact ho, (HS.out.2.trans hc7).new (hk8.mono fun i _ e => (hown.lo e).1)⟩
              have HR8 := Lib.hid hr
              have HSL := Lib.hid hsl
              have HZ := Lib.hid hz
              have HST := Lib.hid hs
              clear hv hld hxe htk hz hs hc6 hc7 hr ho hk8 hsl hown hlen hM hn hjl
              go_wp2_with (first
                | ((with_reducible refine wpList_isOp (.load 44 (.tmp 55)) rfl ?_); refine wpList_loading _ rfl 44 (.tmp 55) rfl (.agg (chC (k, v, false))) ⟨b, o + j * 3, none⟩ rfl (by exact HLD.out) ?_)
                | ((with_reducible refine wpList_isOp (.alloc 44) rfl ?_); refine wpList_making _ w5 rfl 44 rfl (chC ch0) Hx (zero_ch _) (by exact HZ.out.sz) (by exact HZ.out.al) ?_)
                | ((with_reducible refine wpList_isOp (.store 44 (.tmp 13) (.tmp 56)) rfl ?_); refine wpList_storing _ w6 rfl 44 (.tmp 13) (.tmp 56) rfl (.agg (chC (k, v, false))) ⟨Hx, 0, none⟩ rfl rfl (by exact HST.out.st) ?_)
                | ((with_reducible refine wpList_isOp (.load 44 (.tmp 13)) rfl ?_); refine wpList_loading _ rfl 44 (.tmp 13) rfl (.agg (chC (k, v, false))) ⟨Hx, 0, none⟩ rfl (by exact HLD2.out) ?_)
                | ((with_reducible refine wpList_isOp (.buildSlice 24 1 #[(0, .tmp 61)]) rfl ?_); refine wpList_sliceF _ _ rfl 24 0 1 (.tmp 61) rfl (.agg (chC (k, v, false))) _ rfl (by exact HSL.out) ?_)
                | (at_builtin; refine wpList_appF 24 _ rfl (.tmp 60) (.tmp 62) rfl rfl _ _ (.slice (some ⟨g, 0, none⟩) M cap) W8 rfl rfl (by exact HR8.out) ?_)
                | fail)
              go_roundw
              case rel => exact ⟨j + 1, by omega, by go_num, HS2⟩
              case measure => simp [intOf]; omega
            · have c1 : w6.cell? ⟨Hx, 1, none⟩ = some (.string v) := blk_cell hs.cx
              have f1 : w6.frozen? ⟨Hx, 1, none⟩ = false := blk_frozen hs.cx
              obtain ⟨w7, hw7⟩ : ∃ w7, w7 = w6.setCell ⟨Hx, 1, none⟩ (.string ⟨#[]⟩) := ⟨_, rfl⟩
              have hb7 : w7.heap[Hx]? = some (.cells (chC (k, ⟨#[]⟩, true)) 44 (0, 0)) := by rw [hw7]; exact set_val hs.cx _
              have hk7 : Ch (fun i => i = Hx) w6 w7 := by rw [hw7]; exact (Ch.refl (fun i => i = Hx) w6).setCell (p := ⟨Hx, 1, none⟩) (Or.inl rfl) _
              have hc7 : Ch (fun _ => False) wr w7 := hc6.new (hk7.mono fun i _ e => by rw [e, ← hz.sz]; exact Nat.le_refl _)
              have hn : norC (k, v, true) = (k, ⟨#[]⟩, true) := rfl
              have HLD2 := Lib.hid (load_ch hb7)
              obtain ⟨g, cap, W8, hr, ho, hk8, _⟩ := FlO.app kdCh_ok (x := norC (k, v, true)) (HS.out.1.gr hc7) (by rw [List.length_map, List.length_take]; have := HL.out.1; omega) (HS.out.2.trans hc7).size
              have hsl := fl_slice kdCh_ok w7 (norC (k, v, true))
              have hown := HS.out.1.gr hc7
              have hlen : ((l.take j).map norC).length = j := by rw [List.length_map, List.length_take]; omega
              rw [hlen] at hr ho
              obtain ⟨M, hM⟩ : ∃ M, M = j + 1 := ⟨_, rfl⟩
              rw [← hM] at hr ho
              have HS2 : Hid (WnSt w4 W8 l (j + 1) (.slice (some ⟨g, 0, none⟩) M cap)) := Lib.hid ⟨by rw [HTK.out, List.map_append]; exact ho, (HS.out.2.trans hc7).new (hk8.mono fun i _ e => (hown.lo e).1)⟩
              have HR8 := Lib.hid hr
              have HSL := Lib.hid hsl
              have HZ := Lib.hid hz
              have HST := Lib.hid hs
              have HW7 := Lib.hid hw7
              clear hv hld hxe htk hz hs hc6 hc7 hr ho hk8 hsl hown hlen hM hn hjl hw7 hb7 hk7
              go_upto_region 15 with (first
                | ((with_reducible refine wpList_isOp (.load 44 (.tmp 55)) rfl ?_); refine wpList_loading _ rfl 44 (.tmp 55) rfl (.agg (chC (k, v, true))) ⟨b, o + j * 3, none⟩ rfl (by exact HLD.out) ?_)
                | ((with_reducible refine wpList_isOp (.alloc 44) rfl ?_); refine wpList_making _ w5 rfl 44 rfl (chC ch0) Hx (zero_ch _) (by exact HZ.out.sz) (by exact HZ.out.al) ?_)
                | ((with_reducible refine wpList_isOp (.store 44 (.tmp 13) (.tmp 56)) rfl ?_); refine wpList_storing _ w6 rfl 44 (.tmp 13) (.tmp 56) rfl (.agg (chC (k, v, true))) ⟨Hx, 0, none⟩ rfl rfl (by exact HST.out.st) ?_)
                | fail)
              rw [← HW7.out]
              go_wp2_with (first
                | ((with_reducible refine wpList_isOp (.load 44 (.tmp 13)) rfl ?_); refine wpList_loading _ rfl 44 (.tmp 13) rfl (.agg (chC (k, ⟨#[]⟩, true))) ⟨Hx, 0, none⟩ rfl (by exact HLD2.out) ?_)
                | ((with_reducible refine wpList_isOp (.buildSlice 24 1 #[(0, .tmp 61)]) rfl ?_); refine wpList_sliceF _ _ rfl 24 0 1 (.tmp 61) rfl (.agg (chC (k, ⟨#[]⟩, true))) _ rfl (by exact HSL.out) ?_)
                | (at_builtin; refine wpList_appF 24 _ rfl (.tmp 60) (.tmp 62) rfl rfl _ _ (.slice (some ⟨g, 0, none⟩) M cap) W8 rfl rfl (by exact HR8.out) ?_)
                | fail)
              go_roundw
              case rel => exact ⟨j + 1, by omega, by go_num, HS2⟩
              case measure => simp [intOf]; omega
          · have hje : j = m := by omega
            have j1 : ¬ (j : Int) < (m : Int) := by omega
            have ho := HS.out.1
            rw [show l.take j = l by rw [hje, HM.out, List.take_length]] at ho
            obtain ⟨A6, C6, rfl⟩ := ho.len
            have hsm := rsame_any A4 A6 C4 C6 (l.map norC) wr ((HO4.out.gr HS.out.2).read kdCh_ok (by rw [List.length_map]; have := HL.out.1; omega)) (ho.read kdCh_ok (by rw [List.length_map]; have := HL.out.1; omega)) (by rw [List.length_map]; have := HL.out.1; omega)
            have hq : (l.map norC).length = P := HP.out.symm
            rw [hq] at hsm ⊢
            have HSM := Lib.hid hsm
            have HCR := Lib.hid (HC4.out.trans HS.out.2)
            clear hje ho hsm HS hq
            go_wp2_with fail
            refine HSM.out.mono ?_
            rintro e w9 ⟨rfl, hc9⟩
            have HC9 := Lib.hid (HCR.out.trans hc9)
            clear hc9
            go_wp2_with fail
            go_meet
            exact HC9
#print axioms batchBack_of
end Go.Proofs.Ytkpahhioiefcbaa
namespace Go.Proofs.Ytkpahhioiefcbaa
open Go.RowKit
set_option linter.unusedVariables false
set_option maxRecDepth 100000
set_option linter.unusedSimpArgs false

theorem batK : BatK := ⟨fun A C L w h h1 h2 h3 => benc_any A C L w h h1 h2 h3, fun A n C z w h hn => bdec_any A n C z w h hn, fun A C l t h T w ht hv hne hl hT => bapply_any A C l t h T w ht hv hne hl hT, fun A C l w hv hl => bapply_nil A C l w hv hl, fun t h T w ht hT hx hL => bdump_any t h T w ht hT hx hL, fun A n C z w h hn => bfill_any A n C z w h hn⟩
#print axioms batK
end Go.Proofs.Ytkpahhioiefcbaa
