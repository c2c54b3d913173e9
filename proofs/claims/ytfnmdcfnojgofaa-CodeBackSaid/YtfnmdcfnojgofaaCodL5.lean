/-
  CodeBack, walked.
-/
import Derived.Test.YtfnmdcfnojgofaaCodX
namespace Go.Proofs.Ytfnmdcfnojgofaa
open Go.RowKit Go.Shelf Cod
set_option linter.unusedVariables false

theorem RowP.gr {w w' : World} {v : Value} {m : Nat} {F : Nat → PutD} (h : RowP w v m F) (k : Ch (fun _ => False) w w') : RowP w' v m F := by
  obtain ⟨A, C, e, h2, h3⟩ := h
  refine ⟨A, C, e, h2, fun hm => ?_⟩
  obtain ⟨b, o, e2, hc⟩ := h3 hm
  exact ⟨b, o, e2, fun c hcm => (hc c hcm).gr k⟩
theorem putL_none {p : PutD} (h : ¬ putE p = 0) : putL p = [] := by
  unfold putE at h
  unfold putL
  split
  · rename_i h0
    rw [if_pos h0] at h
    split
    · rfl
    · rename_i h1; rw [if_neg h1] at h; exact absurd rfl h
  · rename_i h0
    rw [if_neg h0] at h
    split
    · rename_i h1; rw [if_pos h1] at h; exact absurd rfl h
    · rename_i h1
      rw [if_neg h1] at h
      split
      · rfl
      · rename_i h2; rw [if_neg h2] at h; exact absurd rfl h
theorem InSt.next {w W W' : World} {B : Nat} {x x' : Value} {R R' : List Nat} (h : InSt w W B x R) (hi : InIs W' B x' R'.length (litZ R')) (k : Ch (fun i => i = B) W W') : InSt w W' B x' R' := ⟨hi, h.ch.newer k h.low, h.low⟩
theorem InSt.drewN {w W : World} {B : Nat} {x : Value} {R : List Nat} (h : InSt w W B x R) (d : Nat) : InSt w (W.drewN d) B x R := ⟨h.inn.gr ((Ch.refl _ _).drewN d), h.ch.drewN d, h.low⟩
set_option maxHeartbeats 4000000 in
set_option maxRecDepth 100000 in
theorem codeBack_of (vl : Value) (w : World) {m : Nat} {F : Nat → PutD} (hq : RowP w vl m F) : Calls Try.prog 5 #[vl] w (Told w) := by
  obtain ⟨A, C, rfl, hm, _⟩ := id hq
  have hm1 := hm.1
  have HQ := Lib.hid hq
  clear hq hm
  by_cases hf : fewB m F = true
  case neg =>
    have hf2 : fewB m F = false := by simpa using hf
    go_enter Try.func5, Try.ntmps5
    go_wp2_with fail
    refine (awake_any _).mono ?_
    rintro e w1 ⟨rfl, hch1⟩
    have HC1 := Lib.hid hch1
    have HF := Lib.hid (few_any A m C F w1 (HQ.out.gr hch1))
    rw [hf2] at HF
    clear hch1
    go_wp2_with fail
    refine HF.out.mono ?_
    rintro e w2 ⟨rfl, d, rfl⟩
    go_wp2
    go_ret
    exact ⟨rfl, HC1.out.drewN d⟩
  have hm40 : m ≤ 40 := (of_decide_eq_true hf).1
  go_enter Try.func5, Try.ntmps5
  go_wp2_with fail
  refine (awake_any _).mono ?_
  rintro e w1 ⟨rfl, hch1⟩
  have HC1 := Lib.hid hch1
  have HF := Lib.hid (few_any A m C F w1 (HQ.out.gr hch1))
  rw [hf] at HF
  clear hch1 hf
  go_wp2_with fail
  refine HF.out.mono ?_
  rintro e w2 ⟨rfl, d, rfl⟩
  obtain ⟨w2, hw2⟩ : ∃ w2, w2 = w1.drewN d := ⟨_, rfl⟩
  have HC2 := Lib.hid (show Ch (fun _ => False) w w2 by rw [hw2]; exact HC1.out.drewN d)
  rw [← hw2]
  clear hw2 HC1 HF
  have HS0 := Lib.hid (show BackSt w (w2.alloc (.cells #[.slice none 0 0] 28)) w2.heap.size (.slice none 0 0) (.slice none 0 0) (flatL []) [] ∧ ([] : List PutD).length ≤ 0 from
    ⟨⟨nil_out _ _ HC2.out.size, World.ownsRow_nil _ _ _ _, fun i e => (by cases e), HC2.out.alloc _ _, fun x hx => by cases hx⟩, Nat.zero_le _⟩)
  obtain ⟨Bo, hBo⟩ : ∃ Bo, Bo = w2.heap.size := ⟨_, rfl⟩
  rw [← hBo] at HS0
  go_wp2_with fail
  rw [← hBo]
  clear hBo
  go_loopw [6, 7] (fun y i wr => ∃ k : Nat, k ≤ m ∧ i = .int .i64 k ∧ ∃ v D, Hid (BackSt w wr Bo v y (flatL D) D ∧ D.length ≤ k)) (fun _ i _ => m - (intOf i).toNat)
  case atStart => exact ⟨0, Nat.zero_le _, rfl, _, _, HS0⟩
  case round =>
    obtain ⟨k, hk, rfl, v, D, HS⟩ := hrel
    clear HS0
    have hL6 : (flatL D).length ≤ 1000000 := by have := flatL_len HS.out.1.good; have := HS.out.2; omega
    have hD40 : D.length ≤ 40 := by have := HS.out.2; omega
    by_cases hlt : k < m
    case pos =>
      obtain ⟨b, o, rfl, hp⟩ := HQ.out.at (Ch.refl _ w) hlt
      obtain ⟨p, hpF⟩ : ∃ p, p = F k := ⟨_, rfl⟩
      rw [← hpF] at hp
      clear hpF
      obtain ⟨kd, nn, V, l, z⟩ := p
      have hrow := hp.row
      have hnn := hp.nn
      dsimp only at hrow hnn
      obtain ⟨A2, C2, hV, hl2, _⟩ := id hrow
      subst hV
      have hl21 := hl2.1
      have HPA := Lib.hid (fun W (hk : Ch (fun _ => False) w W) => hp.gr hk)
      have i1 : (0 : Int) ≤ (k : Int) := Int.natCast_nonneg _
      have i2 : (k : Int) < (m : Int) := by omega
      have hput := lput_any w.heap.size Bo v (flatL D) ⟨kd, nn, .slice A2 l C2, l, z⟩ wr HS.out.1.out (HPA.out _ HS.out.1.ch).row hnn (hrow.low.mono (fun i hi => HS.out.1.out.foot hi)) HS.out.1.ch.size hL6
      unfold PutAny at hput
      have hgood : putE ⟨kd, nn, .slice A2 l C2, l, z⟩ = 0 → Good w ⟨kd, nn, .slice A2 l C2, l, z⟩ := fun e => ⟨hrow, hnn, e⟩
      have hsnoc := flatL_snoc D ⟨kd, nn, .slice A2 l C2, l, z⟩
      have hnone : ¬ putE ⟨kd, nn, .slice A2 l C2, l, z⟩ = 0 → putL ⟨kd, nn, .slice A2 l C2, l, z⟩ = [] := putL_none
      obtain ⟨E, hE⟩ : ∃ E, E = putE ⟨kd, nn, .slice A2 l C2, l, z⟩ := ⟨_, rfl⟩
      obtain ⟨P, hP⟩ : ∃ P, P = putL ⟨kd, nn, .slice A2 l C2, l, z⟩ := ⟨_, rfl⟩
      rw [← hE] at hput hgood hnone
      rw [← hP] at hput hsnoc hnone
      dsimp only at hput
      have HP := Lib.hid hput
      have HG := Lib.hid hgood
      have HSN := Lib.hid hsnoc
      have pa := HPA.out _ HS.out.1.ch
      have c0 := pa.c0
      have c1 := pa.c1
      have c2 := pa.c2
      dsimp only at c0 c1 c2
      clear pa hput hgood hsnoc hl2 hp hrow hE hP
      by_cases hE0 : E = 0
      case neg =>
        have t5 : (E == 0) = false := by simpa using hE0
        obtain rfl := hnone hE0
        clear hE0 hnone
        go_wp2_with fail
        refine HP.out.mono ?_
        rintro e w3 hp3
        obtain ⟨rfl, v3, h3⟩ := HS.out.1.put hp3
        rw [List.append_nil] at h3
        have H3 := Lib.hid h3
        clear hp3 h3 HP HG HSN
        go_wp2
        go_roundw
        case rel => exact ⟨k + 1, by omega, by go_num, v3, D, ⟨H3.out, by have := HS.out.2; omega⟩⟩
        case measure => simp [intOf]; omega
      clear hnone
      subst hE0
      go_wp2_with fail
      refine HP.out.mono ?_
      rintro e w3 hp3
      obtain ⟨rfl, v3, h3⟩ := HS.out.1.put hp3
      have pa := HPA.out _ h3.ch
      have c0 := pa.c0
      have c1 := pa.c1
      have c2 := pa.c2
      dsimp only at c0 c1 c2
      obtain ⟨y5, w5, hr5, h5⟩ := h3.app (HG.out (by first | trivial | rfl)) (by omega)
      rw [← HSN.out] at h5
      dsimp only at hr5
      have HR5 := Lib.hid hr5
      have H5 := Lib.hid h5
      clear hp3 h3 pa HP hr5 h5 HG HSN
      go_wp2_with (at_builtin; refine wpList_appP_of _ rfl (.tmp 42) (.tmp 47) rfl rfl _ _ y5 w5 rfl rfl HR5.out ?_)
      go_roundw
      case rel => exact ⟨k + 1, by omega, by go_num, v3, _, ⟨H5.out, by have := HS.out.2; simp; omega⟩⟩
      case measure => simp [intOf]; omega
    obtain rfl : k = m := by omega
    have HC := Lib.hid HS.out.1.ch
    go_wp2_with fail
    refine (all_any w.heap.size Bo v (flatL D) _ HS.out.1.out (by omega)).mono ?_
    rintro e w3 ⟨x, rfl, h3, hch3⟩
    have hx := ownsRow_rowV h3 (by omega) (fun c _ => litZ_b HS.out.1.out.byt c)
    have hd3 := HS.out.1.gr hch3
    have hrow := hd3.row (by omega)
    obtain ⟨A3, C3, rfl, _⟩ := id hx
    obtain ⟨AY, CY, eY, hlY, _⟩ := id hrow
    subst eY
    have HX := Lib.hid hx
    have HD3 := Lib.hid hd3
    have HROW := Lib.hid hrow
    have hN : D.length ≤ 40 := hD40
    have HNIL := Lib.hid (show flatL (D.drop D.length) = [] by rw [List.drop_length]; rfl)
    have HGET := Lib.hid (show ∀ j, j < D.length → D[j]? = some (D.getD j dP) from fun j hj => by simp [List.getD, hj])
    obtain ⟨N, hNN⟩ : ∃ N, N = D.length := ⟨_, rfl⟩
    rw [← hNN] at HROW HNIL HGET hN ⊢
    clear h3 hx hd3 hrow hlY hch3 HS hNN
    go_wp2_with fail
    refine (newIn_any A3 _ C3 _ w3 HX.out (by omega)).mono ?_
    rintro e w4 ⟨B, xi, rfl, hin, hB, hch4⟩
    have HI0 := Lib.hid (show InSt w3 w4 B xi (flatL (D.drop 0)) from ⟨hin, hch4, hB⟩)
    clear hin hB hch4 HX
    go_wp2_with fail
    go_loopw [9] (fun i wr => ∃ j : Nat, j ≤ N ∧ i = .int .i64 j ∧ ∃ x, Hid (InSt w3 wr B x (flatL (D.drop j)))) (fun i _ => N - (intOf i).toNat)
    case atStart => exact ⟨0, Nat.zero_le _, rfl, xi, HI0⟩
    case round =>
      obtain ⟨j, hj, rfl, x, HI⟩ := hrel
      clear HI0
      by_cases hlt2 : j < N
      case neg =>
        obtain rfl : j = N := by omega
        have hi0 := HI.out.inn
        rw [HNIL.out] at hi0
        have HI1 := Lib.hid hi0
        have HCH := Lib.hid (HD3.out.ch.trans HI.out.ch)
        clear hi0
        go_wp2_with fail
        refine (left_any B 0 x _ _ HI1.out).mono ?_
        rintro e w5 ⟨rfl, rfl⟩
        go_wp2
        go_ret
        exact ⟨rfl, HCH.out⟩
      have hd := HGET.out j hlt2
      obtain ⟨b, o, rfl, hp⟩ := HROW.out.at (Ch.refl _ w3) hlt2
      have hg := HD3.out.good _ (List.mem_of_getElem? hd)
      have hsp := flatL_split hd
      obtain ⟨p, hpD⟩ : ∃ p, p = D.getD j dP := ⟨_, rfl⟩
      rw [← hpD] at hp hg hsp
      clear hpD hd
      obtain ⟨kd, nn, V, l, z⟩ := p
      have hrow := hp.row
      have hnn := hp.nn
      have hok := hg.ok
      dsimp only at hrow hnn
      obtain ⟨A2, C2, hV, hl2, _⟩ := id hrow
      subst hV
      have hl21 := hl2.1
      have HPA := Lib.hid (fun W (hk : Ch (fun _ => False) w3 W) => hp.gr hk)
      have i1 : (0 : Int) ≤ (j : Int) := Int.natCast_nonneg _
      have i2 : (j : Int) < (N : Int) := by omega
      obtain ⟨R, hR⟩ : ∃ R, R = flatL (D.drop (j + 1)) := ⟨_, rfl⟩
      have HI2 : Hid (InSt w3 wr B x (putL ⟨kd, nn, .slice A2 l C2, l, z⟩ ++ R)) := by rw [hR, ← hsp]; exact HI
      have hlen : (putL ⟨kd, nn, .slice A2 l C2, l, z⟩ ++ R).length ≤ 1048576 := by
        rw [hR, ← hsp]
        have := flatL_len (w := w) (D := D.drop j) (fun q hq => HD3.out.good q (List.mem_of_mem_drop hq))
        rw [List.length_drop] at this
        omega
      have pa := HPA.out _ HI2.out.ch
      have c0 := pa.c0
      have c1 := pa.c1
      have c2 := pa.c2
      dsimp only at c0 c1 c2
      clear pa hl2 hp hg hsp HI
      unfold putE at hok
      unfold putL at HI2 hlen
      dsimp only at hok HI2 hlen
      by_cases h0 : kd = 0
      · subst h0
        rw [if_pos rfl] at hok HI2 hlen
        by_cases hneg : nn < 0
        · rw [if_pos hneg] at hok; exact absurd hok (by decide)
        rw [if_neg hneg] at HI2 hlen
        obtain ⟨n, rfl⟩ : ∃ n : Nat, nn = (n : Int) := ⟨nn.toNat, by omega⟩
        rw [Int.toNat_natCast] at HI2 hlen
        have t5 : ((n : Int) != (n : Int)) = false := by simp
        clear hok hneg hlen
        go_wp2_with fail
        refine (inum_back B n x R _ (by omega) HI2.out.inn).mono ?_
        rintro e w5 ⟨rfl, x5, h5, hch5⟩
        have H5 := Lib.hid (HI2.out.next h5 hch5)
        have pa := HPA.out _ H5.out.ch
        have c0 := pa.c0
        have c1 := pa.c1
        have c2 := pa.c2
        dsimp only at c0 c1 c2
        clear h5 hch5 pa HI2
        go_wp2
        go_roundw
        case rel => exact ⟨j + 1, by omega, by go_num, x5, by rw [← hR]; exact H5⟩
        case measure => simp [intOf]; omega
      rw [if_neg h0] at hok HI2 hlen
      have t6 : (kd == 0) = false := by simpa using h0
      by_cases h1 : kd = 1
      · subst h1
        rw [if_pos rfl] at HI2 hlen
        have t5 : (nn != nn) = false := by simp
        clear hok hlen h0
        go_wp2_with fail
        refine (iint_back B nn x R _ hnn HI2.out.inn).mono ?_
        rintro e w5 ⟨rfl, x5, h5, hch5⟩
        have H5 := Lib.hid (HI2.out.next h5 hch5)
        have pa := HPA.out _ H5.out.ch
        have c0 := pa.c0
        have c1 := pa.c1
        have c2 := pa.c2
        dsimp only at c0 c1 c2
        clear h5 hch5 pa HI2
        go_wp2
        go_roundw
        case rel => exact ⟨j + 1, by omega, by go_num, x5, by rw [← hR]; exact H5⟩
        case measure => simp [intOf]; omega
      rw [if_neg h1] at hok HI2 hlen
      have t7 : (kd == 1) = false := by simpa using h1
      by_cases h4 : 4096 < l
      · rw [if_pos h4] at hok; exact absurd hok (by decide)
      rw [if_neg h4] at HI2 hlen
      clear hok h0 h1
      go_wp2_with fail
      refine (ibytes_back B l z x R _ (by omega) hlen HI2.out.inn).mono ?_
      rintro e w5 ⟨yv, rfl, hyr, x5, h5, hch5⟩
      have H5 := Lib.hid (HI2.out.next h5 hch5)
      have pa := HPA.out _ H5.out.ch
      have c0 := pa.c0
      have c1 := pa.c1
      have c2 := pa.c2
      dsimp only at c0 c1 c2
      obtain ⟨A5, C5, rfl, _⟩ := id hyr
      have HY := Lib.hid hyr
      clear h5 hch5 pa HI2 hyr
      go_wp2_with fail
      refine (same_any _ _ _ _ _ _ _ _ _ HY.out (HPA.out _ H5.out.ch).row).mono ?_
      rintro e w6 ⟨rfl, d6, rfl⟩
      rw [show eqB l l z z = true from decide_eq_true ⟨rfl, fun _ _ => rfl⟩]
      have H6 := Lib.hid (H5.out.drewN d6)
      clear H5 HY
      go_wp2
      go_roundw
      case rel => exact ⟨j + 1, by omega, by go_num, x5, by rw [← hR]; exact H6⟩
      case measure => simp [intOf]; omega
#print axioms codeBack_of
end Go.Proofs.Ytfnmdcfnojgofaa
