/-
  keep, walked: each, One, All, Mend.
-/
import Derived.Test.YtjibfoplihaabaaMg38
namespace Go.Proofs.Ytjibfoplihaabaa
open Go.RowKit
set_option linter.unusedVariables false
set_option maxRecDepth 100000

/-! ### one by one -/
theorem PutIs.put {w : World} {X F : Nat → Prop} {K b o sb so sC : Nat} {P : PutP} (h : PutIs w X b o sb so sC P) (hX : ∀ i, X i → ¬ F i ∧ i ≠ K) : PutA w F K sb so sC P := ⟨h.row, (hX sb h.X).1, (hX sb h.X).2, h.lt⟩
set_option maxHeartbeats 3200000 in
theorem each_any (g : FuncId) (hg : g = 27 ∨ g = 32) (base : Nat) (F X : Nat → Prop) (B K n : Nat) (f : Nat → PutP) (A : Option Addr) (C : Nat) (D : Nat → Dev) (E : Nat → Int) (G : Nat → Nat) (w : World)
    (h : KpS base F w w B K (D 0) (G 0)) (h0 : E 0 = 0) (hF : KpF base F w K) (hV : PutsV w X A n f) (hX : ∀ i, X i → ¬ F i ∧ i ≠ K)
    (hstep : ∀ k, k < n → E k = 0 → ∀ (wr : World) (sb so sC : Nat), KpS base F w wr B K (D k) (G k) → PutA w F K sb so sC (f k) →
      Calls Try.prog g #[.pointer (some ⟨K, 0, none⟩), .agg #[.int .i64 (f k).pl, .slice (some ⟨sb, so, none⟩) (f k).n sC]] wr fun e w' => e = .returned (.int .i64 (E (k + 1))) ∧ KpS base F w w' B K (D (k + 1)) (G (k + 1)))
    (hstop : ∀ k, k ≤ n → E k ≠ 0 → E n = E k ∧ D n = D k ∧ G n = G k) :
    Calls Try.prog 26 #[.slice A n C, .func (.func g) #[.pointer (some ⟨K, 0, none⟩)] #[]] w fun e w' => e = .returned (.int .i64 (E n)) ∧ KpS base F w w' B K (D n) (G n) := by
  have hn := hV.1
  have HF := Lib.hid hF
  have HV := Lib.hid hV
  have HX := Lib.hid hX
  have HG := Lib.hid hg
  have HST := Lib.hid hstep
  have HE0 := Lib.hid h0
  have HS := Lib.hid h
  have HFIN := Lib.hid (show ∀ (wr : World) (k : Nat) (e : Int), k ≤ n → (E k ≠ 0 ∨ k = n) → KpS base F w wr B K (D k) (G k) → E k = e → Ending.returned (.int .i64 e) = .returned (.int .i64 (E n)) ∧ KpS base F w wr B K (D n) (G n) from fun wr k e hk hs q h2 => by
    rcases hs with hs | rfl
    · obtain ⟨e1, e2, e3⟩ := hstop k hk hs
      rw [e1, e2, e3, h2]
      exact ⟨rfl, q⟩
    · rw [h2]
      exact ⟨rfl, q⟩)
  clear h h0 hF hV hX hg hstep hstop
  go_enter Try.func26, Try.ntmps26
  go_wp2
  go_loopw [6, 7, 10, 11, 12, 13, 14, 15, 16, 17, 18, 19, 20] (fun _ _ i _ _ _ _ _ _ _ _ _ _ wr => ∃ k : Nat, k ≤ n ∧ i = .int .i64 k ∧ Hid (E k = 0) ∧ Hid (KpS base F w wr B K (D k) (G k))) (fun _ _ i _ _ _ _ _ _ _ _ _ _ _ => n - (intOf i).toNat)
  case atStart => exact ⟨0, Nat.zero_le _, rfl, HE0, HS⟩
  case round =>
    obtain ⟨k, hk, rfl, HE, HD⟩ := hrel
    clear HS
    by_cases hlt : k < n
    · obtain ⟨b, o, rfl, hb, hc⟩ := HV.out.2 (by omega)
      obtain ⟨sb, so, sC, hp⟩ := hc k hlt
      have i1 : (0 : Int) ≤ (k : Int) := Int.natCast_nonneg _
      have i2 : (k : Int) < (n : Int) := by omega
      obtain ⟨d0, d1⟩ := HD.out.put hp HX.out hb
      have ld := load_put d0 d1
      obtain ⟨wz, wx, H, hR⟩ := varR (t := 50) (u := .int .i64 0) (v := .slice none 0 0) (x := .int .i64 (f k).pl) (y := .slice (some ⟨sb, so, none⟩) (f k).n sC) size_put rfl rfl wr
      have l2 := load_put (w := wx) (b := H) (o := 0) (blk_cell hR.cx) (blk_cell hR.cx)
      have HO := Lib.hid (HST.out k hlt HE.out wx sb so sC (HD.out.gr hR.ch) (hp.put HX.out))
      have HR := Lib.hid hR
      have HLT := Lib.hid hlt
      obtain ⟨Y, hY⟩ : ∃ Y, Y = E (k + 1) := ⟨_, rfl⟩
      rw [← hY] at HO
      have HY := Lib.hid hY
      clear hc hp hb hlt hR d0 d1 hY HD
      rcases HG.out with rfl | rfl
      all_goals (
        go_wp2_with (first
          | ((with_reducible refine wpList_isOp (.load 50 (.tmp 12)) rfl ?_); refine wpList_loading _ rfl 50 (.tmp 12) rfl _ ⟨b, o + k * 2, none⟩ rfl ld ?_)
          | ((with_reducible refine wpList_isOp (.alloc 50) rfl ?_); refine wpList_making _ wz rfl 50 rfl #[.int .i64 0, .slice none 0 0] H (zero_put _) (by exact HR.out.sz) (by exact HR.out.al) ?_)
          | ((with_reducible refine wpList_isOp (.store 50 (.tmp 6) (.tmp 13)) rfl ?_); refine wpList_storing _ wx rfl 50 (.tmp 6) (.tmp 13) rfl (.agg #[.int .i64 (f k).pl, .slice (some ⟨sb, so, none⟩) (f k).n sC]) ⟨H, 0, none⟩ rfl rfl (by exact HR.out.st) ?_)
          | ((with_reducible refine wpList_isOp (.load 50 (.tmp 6)) rfl ?_); refine wpList_loading _ rfl 50 (.tmp 6) rfl _ ⟨H, 0, none⟩ rfl l2 ?_)
          | fail)
        refine HO.out.mono ?_
        rintro e1 w2 ⟨rfl, hs2⟩
        have HS2 := Lib.hid hs2
        clear hs2 HO ld l2
        by_cases hE : Y = 0
        · subst hE
          have HLT2 := HLT.out
          go_wp2
          go_roundw
          case rel => exact ⟨k + 1, by omega, by go_num, Lib.hid HY.out.symm, HS2⟩
          case measure => simp [intOf]; omega
        · have HP := Lib.hid (HFIN.out w2 (k + 1) Y HLT.out (Or.inl (by rw [← HY.out]; exact hE)) HS2.out HY.out.symm)
          have t1 : (Y != 0) = true := by simpa using hE
          clear hE
          go_wp2
          go_ret
          exact HP.out)
    · obtain rfl : k = n := by omega
      have HP := Lib.hid (HFIN.out wr k 0 (Nat.le_refl _) (Or.inr rfl) HD.out HE.out)
      clear hlt
      go_wp2
      go_ret
      exact HP.out
#print axioms each_any

theorem PutsV.old {w : World} {X : Nat → Prop} {A : Option Addr} {n : Nat} {f : Nat → PutP} (h : PutsV w X A n f) : PutsV w (fun i => X i ∧ i < w.heap.size) A n f := by
  refine ⟨h.1, fun h0 => ?_⟩
  obtain ⟨b, o, hA, hb, hc⟩ := h.2 h0
  obtain ⟨sb, so, sC, hp⟩ := hc 0 h0
  refine ⟨b, o, hA, ⟨hb, World.block_lt_of_cell? _ _ hp.c0⟩, fun c hcn => ?_⟩
  obtain ⟨sb, so, sC, hp⟩ := hc c hcn
  exact ⟨sb, so, sC, hp.c0, hp.c1, hp.row, ⟨hp.X, hp.lt⟩, hp.lt⟩
/-! ### a keeper, made -/
section
variable {base : Nat} {w w1 wz wx : World} {p : Ph} {d : Dev} {K : Nat}
theorem VarR.kp (v : VarR w1 wz wx K #[.pointer none, .int .i64 0] #[.pointer (some ⟨p.B, 0, none⟩), .int .i64 0] 69) (k : Ch (fun _ => False) w w1) (h : DevIs base w p d) : KpS base (Foot p d) wx wx p.B K d 0 ∧ KpF base (Foot p d) wx K ∧ Ch (fun _ => False) w wx ∧ w.heap.size ≤ K := by
  have k2 := k.trans v.ch
  have hk : w.heap.size ≤ K := by have := v.sz; have := k.size; omega
  exact ⟨⟨⟨p, rfl, h.gr k2, fun i hi => Or.inl hi⟩, v.cx, Ch.refl _ wx⟩, ⟨by have := (h.foot (i := p.B) (Or.inl rfl)); have := k2.size; omega, fun i hi => ⟨(h.foot hi).1, Nat.lt_of_lt_of_le (h.foot hi).2 k2.size⟩, fun hi => by have := (h.foot hi).2; omega, blk_lt v.cx⟩, k2, hk⟩
end
set_option maxHeartbeats 1600000 in
theorem one_any (base : Nat) (p : Ph) (d : Dev) (P : PutP) (sb so sC t : Nat) (w : World) (h : DevIs base w p d) (hR : RowV w (.slice (some ⟨sb, so, none⟩) P.n sC) P.n P.z) (hb : sb < w.heap.size) (hf : ¬ Foot p d sb) (hl : Lim d t) (hm : LimM d t) (ht : t ≤ 999000) :
    Calls Try.prog 17 #[.pointer (some ⟨p.B, 0, none⟩), .agg #[.int .i64 P.pl, .slice (some ⟨sb, so, none⟩) P.n sC]] w (DPost base p d (kepD 4 d P) (.int .i64 (kepE 4 d P)) w) := by
  obtain ⟨w1, H, hB⟩ := boxR w #[.int .i64 P.pl, .slice (some ⟨sb, so, none⟩) P.n sC] 50
  obtain ⟨wz, wx, K, hV⟩ := varR (t := 69) (u := .pointer none) (v := .int .i64 0) (x := .pointer (some ⟨p.B, 0, none⟩)) (y := .int .i64 0) size_kp rfl rfl w1
  obtain ⟨q1, q2, q3, q4⟩ := hV.kp hB.ch h
  have ld := load_put (w := wx) (b := H) (o := 0) (hV.ch.cell (p := ⟨H, 0, none⟩) (blk_cell hB.cx) (fun f => f)) (hV.ch.cell (p := ⟨H, 1, none⟩) (blk_cell hB.cx) (fun f => f))
  have HO := Lib.hid (kwrite_any base _ p.B K 0 sb so sC t d P wx q1 q2 ⟨hR.gr q3, hf, by omega, Nat.lt_of_lt_of_le hb q3.size⟩ hl hm (by omega) (by omega))
  have HFIN := Lib.hid (show ∀ wr, KpS base (Foot p d) wx wr p.B K (kepD 4 d P) (kepC d P 0) → DPost base p d (kepD 4 d P) (.int .i64 (kepE 4 d P)) w (.returned (.int .i64 (kepE 4 d P))) wr from fun wr q => q.post q3 q4)
  have HB := Lib.hid hB
  have HV := Lib.hid hV
  clear h hR hb hf hl hm ht hB hV q1 q2 q3 q4
  go_enter Try.func17, Try.ntmps17
  go_wp2_with (first
    | ((with_reducible refine wpList_isOp (.box 50 (.tmp 1)) rfl ?_); refine wpList_boxing _ w1 rfl 50 (.tmp 1) rfl #[.int .i64 P.pl, .slice (some ⟨sb, so, none⟩) P.n sC] H rfl (by exact HB.out.sz) (by exact HB.out.al) ?_)
    | ((with_reducible refine wpList_isOp (.alloc 69) rfl ?_); refine wpList_making _ wz rfl 69 rfl #[.pointer none, .int .i64 0] K (zero_kp _) (by exact HV.out.sz) (by exact HV.out.al) ?_)
    | ((with_reducible refine wpList_isOp (.store 69 (.tmp 5) (.tmp 7)) rfl ?_); refine wpList_storing _ wx rfl 69 (.tmp 5) (.tmp 7) rfl (.agg #[.pointer (some ⟨p.B, 0, none⟩), .int .i64 0]) ⟨K, 0, none⟩ rfl rfl (by exact HV.out.st) ?_)
    | ((with_reducible refine wpList_isOp (.load 50 (.tmp 3)) rfl ?_); refine wpList_loading _ rfl 50 (.tmp 3) rfl _ ⟨H, 0, none⟩ rfl ld ?_)
    | fail)
  refine HO.out.mono ?_
  rintro e w2 ⟨rfl, hs⟩
  have HP := Lib.hid (HFIN.out w2 hs)
  clear hs HO ld
  go_wp2
  go_ret
  exact HP.out
#print axioms one_any

/-! ### All -/
def cntA (f : Nat → PutP) (d : Dev) : Nat → Nat
  | 0 => 0
  | k + 1 => if (allTo f d k).e = 0 then kepC (allTo f d k).d (f k) (cntA f d k) else cntA f d k
theorem kepC_le (d : Dev) (P : PutP) (c : Nat) : kepC d P c ≤ c + 1 := by unfold kepC; split <;> omega
theorem cntA_le (f : Nat → PutP) (d : Dev) : ∀ k, cntA f d k ≤ k
  | 0 => Nat.le_refl _
  | k + 1 => by
    have ih := cntA_le f d k
    show (if (allTo f d k).e = 0 then kepC (allTo f d k).d (f k) (cntA f d k) else cntA f d k) ≤ k + 1
    split
    · exact Nat.le_trans (kepC_le _ _ _) (by omega)
    · omega
theorem cntA_stop {f : Nat → PutP} {d : Dev} {i : Nat} (h : (allTo f d i).e ≠ 0) : ∀ n, i ≤ n → cntA f d n = cntA f d i
  | 0, hn => by obtain rfl : i = 0 := by omega
                rfl
  | n + 1, hn => by
    by_cases q : i = n + 1
    · rw [q]
    · have ih := cntA_stop h n (by omega)
      show (if (allTo f d n).e = 0 then kepC (allTo f d n).d (f n) (cntA f d n) else cntA f d n) = _
      rw [allTo_stop h n (by omega), if_neg h, ih]
set_option maxHeartbeats 1600000 in
theorem all_any (base : Nat) (X : Nat → Prop) (p : Ph) (d : Dev) (n : Nat) (f : Nat → PutP) (A : Option Addr) (C t : Nat) (w : World) (h : DevIs base w p d) (hV : PutsV w X A n f) (hX : ∀ i, X i → ¬ Foot p d i) (hXl : ∀ i, X i → i < w.heap.size) (hl : Lim d t) (hm : LimM d t) (ht : t + 13 * n ≤ 990000) :
    Calls Try.prog 9 #[.pointer (some ⟨p.B, 0, none⟩), .slice A n C] w (DPost base p d (allTo f d n).d (.int .i64 (allTo f d n).e) w) := by
  obtain ⟨wz, wx, K, hK⟩ := varR (t := 69) (u := .pointer none) (v := .int .i64 0) (x := .pointer (some ⟨p.B, 0, none⟩)) (y := .int .i64 0) size_kp rfl rfl w
  obtain ⟨q1, q2, q3, q4⟩ := hK.kp (Ch.refl _ w) h
  have HO := Lib.hid (each_any _ (Or.inl rfl) base (Foot p d) X p.B K n f A C (fun k => (allTo f d k).d) (fun k => (allTo f d k).e) (cntA f d) wx q1 rfl q2 (hV.gr q3) (fun i hi => ⟨hX i hi, by have := hXl i hi; omega⟩)
    (fun k hk he wr sb so sC q hp => by
      have e1 : allTo f d (k + 1) = ⟨kepD 4 (allTo f d k).d (f k), kepE 4 (allTo f d k).d (f k)⟩ := if_pos he
      have e2 : cntA f d (k + 1) = kepC (allTo f d k).d (f k) (cntA f d k) := if_pos he
      have hlk := allTo_lim (f := f) hl hm k
      have hck := cntA_le f d k
      rw [e1, e2]
      exact q.lift (kwrite_any base _ p.B K _ sb so sC _ _ (f k) wr q.now (q2.fn q.ch.size) (hp.now q) hlk.1 hlk.2 (by omega) (by omega)))
    (fun k hk he => by
      rw [allTo_stop he n hk, cntA_stop he n hk]
      exact ⟨rfl, rfl, rfl⟩))
  have HFIN := Lib.hid (show ∀ wr, KpS base (Foot p d) wx wr p.B K (allTo f d n).d (cntA f d n) → DPost base p d (allTo f d n).d (.int .i64 (allTo f d n).e) w (.returned (.int .i64 (allTo f d n).e)) wr from fun wr q => q.post q3 q4)
  have HK := Lib.hid hK
  clear h hV hX hXl hl hm ht hK q1 q2 q3 q4
  go_enter Try.func9, Try.ntmps9
  go_wp2_with (first
    | ((with_reducible refine wpList_isOp (.alloc 69) rfl ?_); refine wpList_making _ wz rfl 69 rfl #[.pointer none, .int .i64 0] K (zero_kp _) (by exact HK.out.sz) (by exact HK.out.al) ?_)
    | ((with_reducible refine wpList_isOp (.store 69 (.tmp 5) (.tmp 7)) rfl ?_); refine wpList_storing _ wx rfl 69 (.tmp 5) (.tmp 7) rfl (.agg #[.pointer (some ⟨p.B, 0, none⟩), .int .i64 0]) ⟨K, 0, none⟩ rfl rfl (by exact HK.out.st) ?_)
    | fail)
  refine HO.out.mono ?_
  rintro e w2 ⟨rfl, hs⟩
  have HP := Lib.hid (HFIN.out w2 hs)
  clear hs HO
  go_wp2
  go_ret
  exact HP.out
#print axioms all_any

/-! ### Mend -/
theorem mendOne_c (d : Dev) (P : PutP) (c : Nat) : (mendOne d P c).c ≤ c + 1 := by
  unfold mendOne
  split
  · split
    · exact Nat.le_succ _
    · exact kepC_le _ _ _
  · exact Nat.le_succ _
set_option maxHeartbeats 1600000 in
theorem mend_any (base : Nat) (X : Nat → Prop) (p : Ph) (d : Dev) (n : Nat) (f : Nat → PutP) (A : Option Addr) (C t : Nat) (w : World) (h : DevIs base w p d) (hV : PutsV w X A n f) (hX : ∀ i, X i → ¬ Foot p d i) (hXl : ∀ i, X i → i < w.heap.size) (hl : Lim d t) (hm : LimM d t) (ht : t + 13 * n ≤ 990000) :
    Calls Try.prog 13 #[.pointer (some ⟨p.B, 0, none⟩), .slice A n C] w (DPost base p d (mendTo f d n).d (.tuple #[.int .i64 ((mendTo f d n).c : Int), .int .i64 (mendTo f d n).e]) w) := by
  obtain ⟨wz, wx, K, hK⟩ := varR (t := 69) (u := .pointer none) (v := .int .i64 0) (x := .pointer (some ⟨p.B, 0, none⟩)) (y := .int .i64 0) size_kp rfl rfl w
  obtain ⟨q1, q2, q3, q4⟩ := hK.kp (Ch.refl _ w) h
  have HO := Lib.hid (each_any _ (Or.inr rfl) base (Foot p d) X p.B K n f A C (fun k => (mendTo f d k).d) (fun k => (mendTo f d k).e) (fun k => (mendTo f d k).c) wx q1 rfl q2 (hV.gr q3) (fun i hi => ⟨hX i hi, by have := hXl i hi; omega⟩)
    (fun k hk he wr sb so sC q hp => by
      have e1 := mendTo_one f d k he
      have hlk := mendTo_lim (f := f) hl hm k
      have hck := mendTo_c f d k
      rw [e1]
      exact q.lift (kmend_any base _ p.B K _ sb so sC _ _ (f k) wr q.now (q2.fn q.ch.size) (hp.now q) hlk.1 hlk.2 (by omega) (by omega)))
    (fun k hk he => by
      rw [mendTo_stop he n hk]
      exact ⟨rfl, rfl, rfl⟩))
  have HFIN := Lib.hid (show ∀ wr, KpS base (Foot p d) wx wr p.B K (mendTo f d n).d (mendTo f d n).c → DPost base p d (mendTo f d n).d (.tuple #[.int .i64 ((mendTo f d n).c : Int), .int .i64 (mendTo f d n).e]) w (.returned (.tuple #[.int .i64 ((mendTo f d n).c : Int), .int .i64 (mendTo f d n).e])) wr from fun wr q => q.post q3 q4)
  have HK := Lib.hid hK
  clear h hV hX hXl hl hm ht hK q1 q2 q3 q4
  go_enter Try.func13, Try.ntmps13
  go_wp2_with (first
    | ((with_reducible refine wpList_isOp (.alloc 69) rfl ?_); refine wpList_making _ wz rfl 69 rfl #[.pointer none, .int .i64 0] K (zero_kp _) (by exact HK.out.sz) (by exact HK.out.al) ?_)
    | ((with_reducible refine wpList_isOp (.store 69 (.tmp 6) (.tmp 9)) rfl ?_); refine wpList_storing _ wx rfl 69 (.tmp 6) (.tmp 9) rfl (.agg #[.pointer (some ⟨p.B, 0, none⟩), .int .i64 0]) ⟨K, 0, none⟩ rfl rfl (by exact HK.out.st) ?_)
    | fail)
  refine HO.out.mono ?_
  rintro e w2 ⟨rfl, hs⟩
  have y1 := hs.c1
  have HP := Lib.hid (HFIN.out w2 hs)
  clear hs HO
  go_wp2
  go_ret2
  exact HP.out
#print axioms mend_any
end Go.Proofs.Ytjibfoplihaabaa
