/-
  The document's keep (quartermasterref09), walked: One.
-/
import Derived.Test.YtjibfoplihaabaaMg21
import Derived.Test.YtjibfoplihaabaaMg34
namespace Go.Proofs.Ytjibfoplihaabaa
open Go.RowKit
set_option linter.unusedVariables false
set_option maxRecDepth 100000

/-! ### calls in a row of the document's device -/
/-- Behind w the document's device at B has turned to d: its blocks are those of F, and new ones. -/
def RfS (base : Nat) (F : Nat → Prop) (w wr : World) (B : Nat) (d : Dev) : Prop := ∃ q, q.B = B ∧ RefIs base (FX F w wr) wr q d ∧ Ch F w wr
/-- Where its blocks may lie. -/
def LowF (base : Nat) (F : Nat → Prop) (w : World) : Prop := base ≤ w.heap.size ∧ ∀ i, F i → base ≤ i ∧ i < w.heap.size
section
variable {base : Nat} {F : Nat → Prop} {w wr w' : World} {B : Nat} {d d' : Dev}
theorem RefIs.rfs {q : Rh} (h : RefIs base F w q d) : RfS base F w w q.B d := ⟨q, rfl, h.grow h.le (Nat.le_refl _), Ch.refl F w⟩
theorem RefIs.lowF {q : Rh} (h : RefIs base F w q d) : LowF base F w := ⟨h.le, fun i hi => h.low' hi⟩
theorem LowF.gr (h : LowF base F w) (k : w.heap.size ≤ w'.heap.size) : LowF base F w' := ⟨Nat.le_trans h.1 k, fun i hi => ⟨(h.2 i hi).1, Nat.lt_of_lt_of_le (h.2 i hi).2 k⟩⟩
theorem RfS.ch (h : RfS base F w wr B d) : Ch F w wr := by
  obtain ⟨_, _, _, k⟩ := h
  exact k
theorem RfS.gr (h : RfS base F w wr B d) (hF : LowF base F w) (k : Ch (fun _ => False) wr w') : RfS base F w w' B d := by
  obtain ⟨q, h1, h2, h3⟩ := h
  exact ⟨q, h1, ((h2.gr k).grow (Nat.le_trans hF.1 h3.size) k.size).then h3.size k.size hF.1 hF.2, h3.trans (k.mono fun _ _ f => f.elim)⟩
theorem RfS.run {r : Value} {f : FuncId} {args : Array Value} (h : RfS base F w wr B d) (hF : LowF base F w) (c : ∀ q, q.B = B → RefIs base (FX F w wr) wr q d → Calls Try.prog f args wr (RPost base (FX F w wr) q.B d' r wr)) :
    Calls Try.prog f args wr fun e w' => e = .returned r ∧ RfS base F w w' B d' := by
  obtain ⟨q, h1, h2, h3⟩ := h
  subst h1
  exact (c q rfl h2).mono fun e w' hp => hp.from h3 hF.1 hF.2
/-- A row of before stands. -/
theorem RfS.row {b o C n : Nat} {z : Nat → Nat} (h : RfS base F w wr B d) (hR : RowV w (.slice (some ⟨b, o, none⟩) n C) n z) (hb : ¬ F b) : RowV wr (.slice (some ⟨b, o, none⟩) n C) n z := by
  obtain ⟨A1, c1, e1, g1, g2⟩ := hR
  injection e1 with e1 _ e2
  subst e1
  subst e2
  refine ⟨_, _, rfl, g1, fun h0 => ?_⟩
  obtain ⟨b', o', e, g3⟩ := g2 h0
  have e' := e
  injection e' with e'
  injection e' with e1 e2
  subst e1
  subst e2
  exact ⟨_, _, rfl, fun j hj => ⟨h.ch.cell (g3 j hj).1 hb, (g3 j hj).2⟩⟩
theorem RfS.write {b o C n t : Nat} {a : Int} {z : Nat → Nat} (h : RfS base F w wr B d) (hF : LowF base F w) (hR : RowV w (.slice (some ⟨b, o, none⟩) n C) n z) (hb : ¬ F b) (hb2 : b < w.heap.size) (hl : Lim d t) (ht : t ≤ 1000000) :
    Calls Try.prog 44 #[.pointer (some ⟨B, 0, none⟩), .int .i64 a, .slice (some ⟨b, o, none⟩) n C] wr fun e w' => e = .returned (.int .i64 (writeE d a n)) ∧ RfS base F w w' B (writeD d a n z) :=
  h.run hF fun q hq h2 => by
    rw [← hq]
    exact rwrite_any base _ q d a b o n C z wr h2 (h.row hR hb) (fun f => f.elim hb fun e => by omega) (by have := hl.ops; omega) (by have := hl.W; omega) (fun a => by have := hl.drops a; omega)
theorem RfS.flush {t : Nat} (h : RfS base F w wr B d) (hF : LowF base F w) (hl : Lim d t) (ht : t ≤ 1000000) :
    Calls Try.prog 45 #[.pointer (some ⟨B, 0, none⟩)] wr fun e w' => e = .returned (.int .i64 (flushE d)) ∧ RfS base F w w' B (flushD d) :=
  h.run hF fun q hq h2 => by
    rw [← hq]
    exact rflush_any base _ q d wr h2 (by have := hl.W; omega)
theorem RfS.read {t : Nat} {a : Int} (h : RfS base F w wr B d) (hF : LowF base F w) (hl : Lim d t) (ht : t ≤ 1000000) :
    Calls Try.prog 31 #[.pointer (some ⟨B, 0, none⟩), .int .i64 a] wr fun e w' => ∃ A c, e = .returned (.tuple #[.slice A (readL d a) c, .int .i64 (readE d a)]) ∧ RowV w' (.slice A (readL d a) c) (readL d a) (readZ d a) ∧ RfS base F w w' B (readD d a) := by
  obtain ⟨q, h1, h2, h3⟩ := h
  subst h1
  refine (rread_any base _ q d a wr h2 (by have := hl.ops; omega) (by have := hl.W; omega)).mono ?_
  rintro e w' ⟨v, rfl, e1, e2, e3⟩
  obtain ⟨A, c, rfl, _⟩ := id e2
  exact ⟨A, c, rfl, e2, q, rfl, (e1.grow (Nat.le_trans hF.1 h3.size) e3.size).then h3.size e3.size hF.1 hF.2, h3.FX e3⟩
end

/-! ### One -/
set_option maxHeartbeats 1600000 in
theorem rone_any (base : Nat) (F : Nat → Prop) (q : Rh) (d : Dev) (P : PutP) (b o C t : Nat) (w : World) (h : RefIs base F w q d) (hR : RowV w (.slice (some ⟨b, o, none⟩) P.n C) P.n P.z) (hb : b < w.heap.size) (hF : ¬ F b) (hl : Lim d t) (hm : LimM d t) (ht : t ≤ 999000) :
    Calls Try.prog 28 #[.pointer (some ⟨q.B, 0, none⟩), .agg #[.int .i64 P.pl, .slice (some ⟨b, o, none⟩) P.n C]] w (RPost base F q.B (kepD 4 d P) (.int .i64 (kepE 4 d P)) w) := by
  obtain ⟨w1, hw1⟩ : ∃ w1, w1 = w.alloc (.cells #[.int .i64 P.pl, .slice (some ⟨b, o, none⟩) P.n C] 50) := ⟨_, rfl⟩
  have k1 : Ch (fun _ => False) w w1 := by rw [hw1]; exact (Ch.refl _ w).alloc _ _
  obtain ⟨H, hH⟩ : ∃ H, H = w.heap.size := ⟨_, rfl⟩
  have c0 : w1.cell? ⟨H, 0, none⟩ = some (.int .i64 P.pl) := by rw [hw1, hH]; exact blk_cell (heap_alloc_new w _)
  have c1 : w1.cell? ⟨H, 1, none⟩ = some (.slice (some ⟨b, o, none⟩) P.n C) := by rw [hw1, hH]; exact blk_cell (heap_alloc_new w _)
  have HLF := Lib.hid (h.lowF.gr k1.size)
  have HHF := Lib.hid (show ¬ F H from fun f => by have := (h.low' f).2; omega)
  have HRF := Lib.hid (show RowV w1 (.slice (some ⟨b, o, none⟩) P.n C) P.n P.z ∧ ¬ F b ∧ b < w1.heap.size from ⟨hR.gr k1, hF, Nat.lt_of_lt_of_le hb k1.size⟩)
  have HFIN := Lib.hid (show ∀ (wr : World) (d' : Dev) (e : Int), RfS base F w1 wr q.B d' → kepD 4 d P = d' → kepE 4 d P = e → RPost base F q.B (kepD 4 d P) (.int .i64 (kepE 4 d P)) w (.returned (.int .i64 e)) wr from fun wr d' e h1 h2 h3 => by
    rw [h2, h3]
    exact RPost.since (w1 := w1) ⟨rfl, h1⟩ k1 h.le (fun i hi => h.low' hi))
  have HS : Hid (RfS base F w1 w1 q.B d) := (h.gr k1).rfs
  have HT : Hid (TryS d P t 0 d) := ⟨rfl, rfl, hl, hm⟩
  obtain ⟨B, hB⟩ : ∃ B, B = q.B := ⟨_, rfl⟩
  rw [← hB] at HFIN HS ⊢
  clear h hR hb hF hl hm k1
  go_enter Try.func28, Try.ntmps28
  go_wp2
  rw [← hw1, ← hH]
  clear hw1 hH hB
  go_loopw [5, 6, 7, 8, 9, 10] (fun i _ _ _ _ _ wr => ∃ (k : Nat) (e : Dev), k ≤ 4 ∧ i = .int .i64 k ∧ Hid (TryS d P t k e) ∧ Hid (RfS base F w1 wr B e)) (fun i _ _ _ _ _ _ => 4 - (intOf i).toNat)
  case atStart => exact ⟨0, d, Nat.zero_le _, rfl, HT, HS⟩
  case round =>
    obtain ⟨k, e, hk, rfl, HK, HD⟩ := hrel
    clear HT HS
    by_cases hlt : k < 4
    · have d0 := HD.out.ch.cell c0 HHF.out
      have d1 := HD.out.ch.cell c1 HHF.out
      obtain ⟨L1, L2, L3⟩ := HK.out.lims
      have HW := Lib.hid (HD.out.write (a := P.pl) HLF.out HRF.out.1 HRF.out.2.1 HRF.out.2.2 HK.out.lim (by omega))
      have HL1 := Lib.hid L1
      have HL2 := Lib.hid L2
      have HLT := Lib.hid hlt
      clear L1 L2 L3
      by_cases q1 : writeE e P.pl P.n = 0
      · rw [q1] at HW
        have HQ1 := Lib.hid q1
        clear q1
        go_wp2_with fail
        refine HW.out.mono ?_
        rintro e1 w2 ⟨rfl, hs2⟩
        have HF2 := Lib.hid (RfS.flush hs2 HLF.out HL1.out.1 (by omega))
        have d2 := hs2.ch.cell c0 HHF.out
        have d3 := hs2.ch.cell c1 HHF.out
        have HS2 := Lib.hid hs2
        clear hs2 HW d0 d1
        by_cases q2 : flushE (kwD e P) = 0
        · rw [show flushE (writeD e P.pl P.n P.z) = 0 from q2] at HF2
          have HQ2 := Lib.hid q2
          clear q2
          go_wp2_with fail
          refine HF2.out.mono ?_
          rintro e1 w3 ⟨rfl, hs3⟩
          have d4 := hs3.ch.cell c0 HHF.out
          have HR3 := Lib.hid (RfS.read (a := P.pl) hs3 HLF.out HL2.out.1 (by omega))
          clear hs3 HF2 d2 d3 HS2
          go_wp2_with fail
          refine HR3.out.mono ?_
          rintro e1 w4 ⟨A, c, rfl, hr4, hs4⟩
          have d5 := hs4.ch.cell c1 HHF.out
          have HS4 := Lib.hid hs4
          have HSAME := Lib.hid (same_any _ _ _ _ _ _ _ _ w4 hr4 (hs4.row HRF.out.1 HRF.out.2.1))
          have HS4 : Hid (RfS base F w1 w4 B (krD e P)) := HS4
          have hl4 : ∃ L, L = readL (kfD e P) P.pl := ⟨_, rfl⟩
          obtain ⟨S, hS⟩ : ∃ S, S = eqB (readL (kfD e P) P.pl) P.n (readZ (kfD e P) P.pl) P.z := ⟨_, rfl⟩
          obtain ⟨L, hL⟩ := hl4
          replace HSAME : Hid (Calls Try.prog 21 #[.slice A L c, .slice (some ⟨b, o, none⟩) P.n C] w4 (Qu (.bool S) w4)) := by rw [hS, hL]; exact HSAME
          have HSE := Lib.hid hS
          rw [show readL (flushD (writeD e P.pl P.n P.z)) P.pl = L from hL.symm]
          clear hS hL
          by_cases q3 : readE (kfD e P) P.pl = 0
          · rw [show readE (flushD (writeD e P.pl P.n P.z)) P.pl = 0 from q3]
            have HQ3 := Lib.hid q3
            clear q3
            go_wp2_with fail
            refine HSAME.out.mono ?_
            rintro e1 w5 ⟨rfl, n5, rfl⟩
            have HS5 := Lib.hid (HS4.out.gr HLF.out ((Ch.refl _ w4).drewN n5))
            clear HS4 HSAME d5
            cases S
            · have HK2 := Lib.hid (HK.out.on HLT.out HQ1.out HQ2.out (Or.inl HQ3.out) (fun _ => HSE.out.symm))
              go_wp2
              go_roundw
              case rel => exact ⟨k + 1, krD e P, by omega, by go_num, HK2, HS5⟩
              case measure => simp [intOf]; omega
            · have HG := HK.out.good HLT.out HQ1.out HQ2.out HQ3.out HSE.out.symm
              have HP := Lib.hid (HFIN.out _ _ _ HS5.out HG.2 HG.1)
              clear HG
              go_wp2
              go_ret
              exact HP.out
          · by_cases q4 : readE (kfD e P) P.pl = 20
            · rw [show readE (flushD (writeD e P.pl P.n P.z)) P.pl = 20 from q4]
              have HK2 := Lib.hid (HK.out.on HLT.out HQ1.out HQ2.out (Or.inr q4) (fun x => absurd x q3))
              clear q3 q4
              go_wp2_with fail
              refine HSAME.out.mono ?_
              rintro e1 w5 ⟨rfl, n5, rfl⟩
              have HS5 := Lib.hid (HS4.out.gr HLF.out ((Ch.refl _ w4).drewN n5))
              clear HS4 HSAME d5
              go_wp2
              go_roundw
              case rel => exact ⟨k + 1, krD e P, by omega, by go_num, HK2, HS5⟩
              case measure => simp [intOf]; omega
            · have HG := HK.out.bad3 HLT.out HQ1.out HQ2.out (fun x => x.elim q3 q4)
              have HP := Lib.hid (HFIN.out _ _ _ HS4.out HG.2 HG.1)
              obtain ⟨E, hE⟩ : ∃ E, E = readE (kfD e P) P.pl := ⟨_, rfl⟩
              rw [show readE (flushD (writeD e P.pl P.n P.z)) P.pl = E from hE.symm]
              rw [← hE] at HP
              have t1 : (E != 0) = true := by rw [hE]; simpa using q3
              have t2 : (E != 20) = true := by rw [hE]; simpa using q4
              clear HG q3 q4 hE
              go_wp2
              go_ret
              exact HP.out
        · have HG := HK.out.bad2 HLT.out HQ1.out q2
          obtain ⟨E, hE⟩ : ∃ E, E = flushE (kwD e P) := ⟨_, rfl⟩
          rw [show flushE (writeD e P.pl P.n P.z) = E from hE.symm] at HF2
          rw [← hE] at HG
          have t1 : (E != 0) = true := by rw [hE]; simpa using q2
          have HG' := Lib.hid HG
          clear HG hE q2
          go_wp2_with fail
          refine HF2.out.mono ?_
          rintro e1 w3 ⟨rfl, hs3⟩
          have HP := Lib.hid (HFIN.out _ _ _ hs3 HG'.out.2 HG'.out.1)
          clear hs3
          go_wp2
          go_ret
          exact HP.out
      · have HG := HK.out.bad1 hlt q1
        obtain ⟨E, hE⟩ : ∃ E, E = writeE e P.pl P.n := ⟨_, rfl⟩
        rw [← hE] at HW HG
        have t1 : (E != 0) = true := by rw [hE]; simpa using q1
        have HG' := Lib.hid HG
        clear HG hE q1
        go_wp2_with fail
        refine HW.out.mono ?_
        rintro e1 w3 ⟨rfl, hs3⟩
        have HP := Lib.hid (HFIN.out _ _ _ hs3 HG'.out.2 HG'.out.1)
        clear hs3
        go_wp2
        go_ret
        exact HP.out
    · obtain rfl : k = 4 := by omega
      have HP := Lib.hid (HFIN.out _ _ _ HD.out HK.out.D HK.out.E)
      clear hlt
      go_wp2
      go_ret
      exact HP.out
#print axioms rone_any
end Go.Proofs.Ytjibfoplihaabaa
