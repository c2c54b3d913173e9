/-
  The document's keep (quartermasterref09), walked: All and Mend.
-/
import Derived.Test.YtjibfoplihaabaaMg40
import Derived.Test.YtjibfoplihaabaaMg22
namespace Go.Proofs.Ytjibfoplihaabaa
open Go.RowKit
set_option linter.unusedVariables false
set_option maxRecDepth 100000

theorem RfS.one {base : Nat} {F X : Nat → Prop} {w wr : World} {B b o sb so sC t : Nat} {d : Dev} {P : PutP} (h : RfS base F w wr B d) (hF : LowF base F w) (hp : PutIs w X b o sb so sC P) (hX : ∀ i, X i → ¬ F i) (hl : Lim d t) (hm : LimM d t) (ht : t ≤ 999000) :
    Calls Try.prog 28 #[.pointer (some ⟨B, 0, none⟩), .agg #[.int .i64 P.pl, .slice (some ⟨sb, so, none⟩) P.n sC]] wr fun e w' => e = .returned (.int .i64 (kepE 4 d P)) ∧ RfS base F w w' B (kepD 4 d P) :=
  h.run hF fun q hq h2 => by
    rw [← hq]
    exact rone_any base _ q d P sb so sC t wr h2 (h.row hp.row (hX sb hp.X)) (Nat.lt_of_lt_of_le hp.lt h.ch.size) (fun f => f.elim (hX sb hp.X) fun e => by have := hp.lt; omega) hl hm ht
theorem RfS.put {base : Nat} {F X : Nat → Prop} {w wr : World} {B b o sb so sC : Nat} {d : Dev} {P : PutP} (h : RfS base F w wr B d) (hp : PutIs w X b o sb so sC P) (hX : ∀ i, X i → ¬ F i) (hb : X b) :
    wr.cell? ⟨b, o, none⟩ = some (.int .i64 P.pl) ∧ wr.cell? ⟨b, o + 1, none⟩ = some (.slice (some ⟨sb, so, none⟩) P.n sC) :=
  ⟨h.ch.cell hp.c0 (hX b hb), h.ch.cell hp.c1 (hX b hb)⟩
set_option maxHeartbeats 800000 in
theorem rall_any (base : Nat) (F X : Nat → Prop) (q : Rh) (d : Dev) (n : Nat) (f : Nat → PutP) (A : Option Addr) (C t : Nat) (w : World) (h : RefIs base F w q d) (hV : PutsV w X A n f) (hX : ∀ i, X i → ¬ F i) (hl : Lim d t) (hm : LimM d t) (ht : t + 13 * n ≤ 990000) :
    Calls Try.prog 11 #[.pointer (some ⟨q.B, 0, none⟩), .slice A n C] w (RPost base F q.B (allTo f d n).d (.int .i64 (allTo f d n).e) w) := by
  have hn := hV.1
  have HLF := Lib.hid h.lowF
  have HFIN := Lib.hid (show ∀ (wr : World) (k : Nat) (e : Int), k ≤ n → ((allTo f d k).e ≠ 0 ∨ k = n) → RfS base F w wr q.B (allTo f d k).d → (allTo f d k).e = e → RPost base F q.B (allTo f d n).d (.int .i64 (allTo f d n).e) w (.returned (.int .i64 e)) wr from fun wr k e hk hs h1 h2 => by
    have e1 : allTo f d n = allTo f d k := by
      rcases hs with hs | hs
      · exact allTo_stop hs n hk
      · rw [hs]
    rw [e1, h2]
    exact ⟨rfl, h1⟩)
  have HS : Hid (RfS base F w w q.B (allTo f d 0).d) := h.rfs
  have HL := Lib.hid (fun k => allTo_lim (f := f) hl hm k)
  obtain ⟨B, hB⟩ : ∃ B, B = q.B := ⟨_, rfl⟩
  rw [← hB] at HFIN HS ⊢
  have HV := Lib.hid hV
  have HX := Lib.hid hX
  clear h hV hX hl hm hB
  go_enter Try.func11, Try.ntmps11
  go_wp2
  go_loopw [5, 6] (fun i _ wr => ∃ k : Nat, k ≤ n ∧ i = .int .i64 k ∧ Hid ((allTo f d k).e = 0) ∧ Hid (RfS base F w wr B (allTo f d k).d)) (fun i _ _ => n - (intOf i).toNat)
  case atStart => exact ⟨0, Nat.zero_le _, rfl, rfl, HS⟩
  case round =>
    obtain ⟨k, hk, rfl, HE, HD⟩ := hrel
    clear HS
    by_cases hlt : k < n
    · obtain ⟨b, o, rfl, hb, hc⟩ := HV.out.2 (by omega)
      obtain ⟨sb, so, sC, hp⟩ := hc k hlt
      have i1 : (0 : Int) ≤ (k : Int) := Int.natCast_nonneg _
      have i2 : (k : Int) < (n : Int) := by omega
      obtain ⟨d0, d1⟩ := HD.out.put hp HX.out hb
      have HO := Lib.hid (HD.out.one HLF.out hp HX.out (HL.out k).1 (HL.out k).2 (by omega))
      have hnx : (allTo f d (k + 1)) = ⟨kepD 4 (allTo f d k).d (f k), kepE 4 (allTo f d k).d (f k)⟩ := if_pos HE.out
      have HNX := Lib.hid hnx
      have HLT := Lib.hid hlt
      obtain ⟨E, hE⟩ : ∃ E, E = kepE 4 (allTo f d k).d (f k) := ⟨_, rfl⟩
      rw [← hE] at HO HNX
      clear hc hp hb hnx hE HE hlt
      have ld := load_put d0 d1
      go_wp2_with (first
        | ((with_reducible refine wpList_isOp (.load 50 (.tmp 16)) rfl ?_); refine wpList_loading _ rfl 50 (.tmp 16) rfl _ ⟨b, o + k * 2, none⟩ rfl ld ?_)
        | fail)
      refine HO.out.mono ?_
      rintro e1 w2 ⟨rfl, hs2⟩
      have HS2 := Lib.hid (show RfS base F w w2 B (allTo f d (k + 1)).d by rw [HNX.out]; exact hs2)
      have HE2 := Lib.hid (show (allTo f d (k + 1)).e = E by rw [HNX.out])
      clear hs2 HO d0 d1 ld
      by_cases hE : E = 0
      · subst hE
        have HLT2 := HLT.out
        go_wp2
        go_roundw
        case rel => exact ⟨k + 1, by omega, by go_num, HE2, HS2⟩
        case measure => simp [intOf]; omega
      · have HP := Lib.hid (HFIN.out w2 (k + 1) E HLT.out (Or.inl (by rw [HE2.out]; exact hE)) HS2.out HE2.out)
        have t1 : (E != 0) = true := by simpa using hE
        clear hE
        go_wp2
        go_ret
        exact HP.out
    · obtain rfl : k = n := by omega
      have HP := Lib.hid (HFIN.out wr k 0 (Nat.le_refl _) (Or.inr rfl) HD.out HE.out)
      clear hlt
      go_wp2
      go_ret
      exact HP.out
#print axioms rall_any

/-! ### Mend -/
set_option maxHeartbeats 1600000 in
theorem rmend_any (base : Nat) (F X : Nat → Prop) (q : Rh) (d : Dev) (n : Nat) (f : Nat → PutP) (A : Option Addr) (C t : Nat) (w : World) (h : RefIs base F w q d) (hV : PutsV w X A n f) (hX : ∀ i, X i → ¬ F i) (hl : Lim d t) (hm : LimM d t) (ht : t + 13 * n ≤ 990000) :
    Calls Try.prog 14 #[.pointer (some ⟨q.B, 0, none⟩), .slice A n C] w (RPost base F q.B (mendTo f d n).d (.tuple #[.int .i64 ((mendTo f d n).c : Int), .int .i64 (mendTo f d n).e]) w) := by
  have hn := hV.1
  have HLF := Lib.hid h.lowF
  have HFIN := Lib.hid (show ∀ (wr : World) (k c : Nat) (e : Int), k ≤ n → ((mendTo f d k).e ≠ 0 ∨ k = n) → RfS base F w wr q.B (mendTo f d k).d → (mendTo f d k).e = e → (mendTo f d k).c = c → RPost base F q.B (mendTo f d n).d (.tuple #[.int .i64 ((mendTo f d n).c : Int), .int .i64 (mendTo f d n).e]) w (.returned (.tuple #[.int .i64 (c : Int), .int .i64 e])) wr from fun wr k c e hk hs h1 h2 h3 => by
    have e1 : mendTo f d n = mendTo f d k := by
      rcases hs with hs | hs
      · exact mendTo_stop hs n hk
      · rw [hs]
    rw [e1, h2, h3]
    exact ⟨rfl, h1⟩)
  have HS : Hid (RfS base F w w q.B (mendTo f d 0).d) := h.rfs
  have HL := Lib.hid (fun k => mendTo_lim (f := f) hl hm k)
  have HC := Lib.hid (fun k => mendTo_c f d k)
  obtain ⟨B, hB⟩ : ∃ B, B = q.B := ⟨_, rfl⟩
  rw [← hB] at HFIN HS ⊢
  have HV := Lib.hid hV
  have HX := Lib.hid hX
  clear h hV hX hl hm hB
  go_enter Try.func14, Try.ntmps14
  go_wp2
  go_loopw [6, 7, 8, 9, 10, 11] (fun c i _ _ _ _ wr => ∃ k : Nat, k ≤ n ∧ i = .int .i64 k ∧ c = .int .i64 ((mendTo f d k).c : Int) ∧ Hid ((mendTo f d k).e = 0) ∧ Hid (RfS base F w wr B (mendTo f d k).d)) (fun _ i _ _ _ _ _ => n - (intOf i).toNat)
  case atStart => exact ⟨0, Nat.zero_le _, rfl, rfl, rfl, HS⟩
  case round =>
    obtain ⟨k, hk, rfl, rfl, HE, HD⟩ := hrel
    clear HS
    have hck := HC.out k
    obtain ⟨c, hcc⟩ : ∃ c, c = (mendTo f d k).c := ⟨_, rfl⟩
    rw [← hcc] at hck ⊢
    have HCC := Lib.hid hcc
    clear hcc
    by_cases hlt : k < n
    · obtain ⟨b, o, rfl, hb, hc⟩ := HV.out.2 (by omega)
      obtain ⟨sb, so, sC, hp⟩ := hc k hlt
      have i1 : (0 : Int) ≤ (k : Int) := Int.natCast_nonneg _
      have i2 : (k : Int) < (n : Int) := by omega
      obtain ⟨d0, d1⟩ := HD.out.put hp HX.out hb
      have HB := Lib.hid hb
      have HP := Lib.hid hp
      have HLK := Lib.hid (HL.out k)
      have HLR := Lib.hid ((near_read (mendTo f d k).d (f k).pl).lim HLK.out.1 HLK.out.2)
      have HR := Lib.hid (HD.out.read (a := (f k).pl) HLF.out HLK.out.1 (by omega))
      have HNX := Lib.hid ((mendTo_succ f d k).trans (if_pos HE.out))
      have HLT := Lib.hid hlt
      clear hc hp hb hlt
      obtain ⟨L, hL⟩ : ∃ L, L = readL (mendTo f d k).d (f k).pl := ⟨_, rfl⟩
      obtain ⟨z, hz⟩ : ∃ z, z = readZ (mendTo f d k).d (f k).pl := ⟨_, rfl⟩
      obtain ⟨S, hS⟩ : ∃ S, S = eqB L (f k).n z (f k).z := ⟨_, rfl⟩
      have HSE := Lib.hid (show asP (mendTo f d k).d (f k) = (decide (readE (mendTo f d k).d (f k).pl = 0) && S) by rw [hS, hL, hz]; rfl)
      rw [← hL, ← hz] at HR
      obtain ⟨E, hE⟩ : ∃ E, E = readE (mendTo f d k).d (f k).pl := ⟨_, rfl⟩
      rw [← hE] at HR HNX HSE
      have HSS := Lib.hid hS
      clear hL hz hS hE
      go_wp2_with fail
      refine HR.out.mono ?_
      rintro e1 w2 ⟨A2, c2, rfl, hr2, hs2⟩
      obtain ⟨g0, g1⟩ := RfS.put hs2 HP.out HX.out HB.out
      have HSM := Lib.hid (same_any _ _ _ _ _ _ _ _ w2 hr2 (hs2.row HP.out.row (HX.out sb HP.out.X)))
      rw [← HSS.out] at HSM
      have HS2 := Lib.hid hs2
      clear hs2 hr2 HR d0 d1 HD
      by_cases hE : E = 0 ∨ E = 20
      · rw [if_pos hE] at HNX
        by_cases hA : E = 0 ∧ S = true
        · obtain ⟨rfl, rfl⟩ := hA
          have hn1 : mendTo f d (k + 1) = ⟨readD (mendTo f d k).d (f k).pl, 0, (mendTo f d k).c⟩ := HNX.out.trans (if_pos (by rw [HSE.out]; rfl))
          have HN1 := Lib.hid hn1
          clear hE hn1
          go_wp2_with fail
          refine HSM.out.mono ?_
          rintro e1 w3 ⟨rfl, n3, rfl⟩
          have HS3 := Lib.hid (show RfS base F w (w2.drewN n3) B (mendTo f d (k + 1)).d by rw [HN1.out]; exact HS2.out.gr HLF.out ((Ch.refl _ w2).drewN n3))
          have HE3 := Lib.hid (show (mendTo f d (k + 1)).e = 0 by rw [HN1.out])
          have HC3 := Lib.hid (show c = (mendTo f d (k + 1)).c by rw [HN1.out]; exact HCC.out)
          clear HSM g0 g1
          have HLT2 := HLT.out
          go_wp2
          go_roundw
          case rel => exact ⟨k + 1, by omega, by go_num, by rw [← HC3.out], HE3, HS3⟩
          case measure => simp [intOf]; omega
        · have hn1 : mendTo f d (k + 1) = ⟨kepD 4 (readD (mendTo f d k).d (f k).pl) (f k), kepE 4 (readD (mendTo f d k).d (f k).pl) (f k), if kepE 4 (readD (mendTo f d k).d (f k).pl) (f k) = 0 then (mendTo f d k).c + 1 else (mendTo f d k).c⟩ := HNX.out.trans (if_neg (by
            rw [HSE.out]
            intro q
            rw [Bool.and_eq_true, decide_eq_true_eq] at q
            exact hA q))
          obtain ⟨G, hG⟩ : ∃ G, G = kepE 4 (readD (mendTo f d k).d (f k).pl) (f k) := ⟨_, rfl⟩
          rw [← hG] at hn1
          have HN1 := Lib.hid hn1
          have HO := Lib.hid (fun m => (HS2.out.gr HLF.out ((Ch.refl _ w2).drewN m)).one HLF.out HP.out HX.out HLR.out.1 HLR.out.2 (by omega))
          rw [← hG] at HO
          clear hn1 hG
          rcases hE with rfl | rfl
          · obtain rfl : S = false := by
              cases S
              · rfl
              · exact (hA ⟨rfl, rfl⟩).elim
            clear hA
            go_wp2_with fail
            refine HSM.out.mono ?_
            rintro e1 w3 ⟨rfl, n3, rfl⟩
            have ld := load_put (show (w2.drewN n3).cell? ⟨b, o + k * 2, none⟩ = some (.int .i64 (f k).pl) from g0) (show (w2.drewN n3).cell? ⟨b, o + k * 2 + 1, none⟩ = some (.slice (some ⟨sb, so, none⟩) (f k).n sC) from g1)
            have HO3 := Lib.hid (HO.out n3)
            clear HSM g0 g1 HO
            go_wp2_with (first
              | ((with_reducible refine wpList_isOp (.load 50 (.tmp 51)) rfl ?_); refine wpList_loading _ rfl 50 (.tmp 51) rfl _ ⟨b, o + k * 2, none⟩ rfl ld ?_)
              | fail)
            refine HO3.out.mono ?_
            rintro e1 w4 ⟨rfl, hs4⟩
            have HS4 := Lib.hid (show RfS base F w w4 B (mendTo f d (k + 1)).d by rw [HN1.out]; exact hs4)
            have HE4 := Lib.hid (show (mendTo f d (k + 1)).e = G by rw [HN1.out])
            clear hs4 HO3 ld
            by_cases hG : G = 0
            · subst hG
              have HC4 := Lib.hid (show c + 1 = (mendTo f d (k + 1)).c by rw [HN1.out, HCC.out]; rfl)
              have HLT2 := HLT.out
              go_wp2
              go_roundw
              case rel => exact ⟨k + 1, by omega, by go_num, by rw [← HC4.out]; go_num, HE4, HS4⟩
              case measure => simp [intOf]; omega
            · have HC4 := Lib.hid (show (mendTo f d (k + 1)).c = c by rw [HN1.out, HCC.out]; exact if_neg hG)
              have HP := Lib.hid (HFIN.out w4 (k + 1) c G HLT.out (Or.inl (by rw [HE4.out]; exact hG)) HS4.out HE4.out HC4.out)
              have t1 : (G != 0) = true := by simpa using hG
              clear hG
              go_wp2
              go_ret2
              exact HP.out
          · clear hA
            go_wp2_with fail
            refine HSM.out.mono ?_
            rintro e1 w3 ⟨rfl, n3, rfl⟩
            have ld := load_put (show (w2.drewN n3).cell? ⟨b, o + k * 2, none⟩ = some (.int .i64 (f k).pl) from g0) (show (w2.drewN n3).cell? ⟨b, o + k * 2 + 1, none⟩ = some (.slice (some ⟨sb, so, none⟩) (f k).n sC) from g1)
            have HO3 := Lib.hid (HO.out n3)
            clear HSM g0 g1 HO
            go_wp2_with (first
              | ((with_reducible refine wpList_isOp (.load 50 (.tmp 51)) rfl ?_); refine wpList_loading _ rfl 50 (.tmp 51) rfl _ ⟨b, o + k * 2, none⟩ rfl ld ?_)
              | fail)
            refine HO3.out.mono ?_
            rintro e1 w4 ⟨rfl, hs4⟩
            have HS4 := Lib.hid (show RfS base F w w4 B (mendTo f d (k + 1)).d by rw [HN1.out]; exact hs4)
            have HE4 := Lib.hid (show (mendTo f d (k + 1)).e = G by rw [HN1.out])
            clear hs4 HO3 ld
            by_cases hG : G = 0
            · subst hG
              have HC4 := Lib.hid (show c + 1 = (mendTo f d (k + 1)).c by rw [HN1.out, HCC.out]; rfl)
              have HLT2 := HLT.out
              go_wp2
              go_roundw
              case rel => exact ⟨k + 1, by omega, by go_num, by rw [← HC4.out]; go_num, HE4, HS4⟩
              case measure => simp [intOf]; omega
            · have HC4 := Lib.hid (show (mendTo f d (k + 1)).c = c by rw [HN1.out, HCC.out]; exact if_neg hG)
              have HP := Lib.hid (HFIN.out w4 (k + 1) c G HLT.out (Or.inl (by rw [HE4.out]; exact hG)) HS4.out HE4.out HC4.out)
              have t1 : (G != 0) = true := by simpa using hG
              clear hG
              go_wp2
              go_ret2
              exact HP.out
      · rw [if_neg hE] at HNX
        have HP := Lib.hid (HFIN.out w2 (k + 1) c E HLT.out (Or.inl (by rw [HNX.out]; exact fun q => hE (Or.inl q))) (by rw [HNX.out]; exact HS2.out) (by rw [HNX.out]) (by rw [HNX.out, HCC.out]))
        have t1 : (E != 0) = true := by simp; exact fun q => hE (Or.inl q)
        have t2 : (E != 20) = true := by simp; exact fun q => hE (Or.inr q)
        clear hE g0 g1
        go_wp2
        go_ret2
        exact HP.out
    · obtain rfl : k = n := by omega
      have HP := Lib.hid (HFIN.out wr k c 0 (Nat.le_refl _) (Or.inr rfl) HD.out HE.out HCC.out.symm)
      clear hlt
      go_wp2
      go_ret2
      exact HP.out
#print axioms rmend_any
end Go.Proofs.Ytjibfoplihaabaa
