/-
  keep, walked: each, One, All, Mend. sup.Install and Read, walked.
-/
import Derived.Test.YtjdknebifcdicaaMg37
import Derived.Test.YtjdknebifcdicaaMg36
import Derived.Test.YtjdknebifcdicaaMg28
namespace Go.Proofs.Ytjdknebifcdicaa
open Go.RowKit
set_option linter.unusedVariables false
set_option maxRecDepth 100000

/-! ### one by one -/
theorem PutIs.put {w : World} {X F : Nat → Prop} {K b o sb so sC : Nat} {P : PutP} (h : PutIs w X b o sb so sC P) (hX : ∀ i, X i → ¬ F i ∧ i ≠ K) : PutA w F K sb so sC P := ⟨h.row, (hX sb h.X).1, (hX sb h.X).2, h.lt⟩
set_option maxHeartbeats 3200000 in
theorem each_any (g : FuncId) (hg : g = 65 ∨ False) (base : Nat) (F X : Nat → Prop) (B K n : Nat) (f : Nat → PutP) (A : Option Addr) (C : Nat) (D : Nat → Dev) (E : Nat → Int) (G : Nat → Nat) (w : World)
    (h : KpS base F w w B K (D 0) (G 0)) (h0 : E 0 = 0) (hF : KpF base F w K) (hV : PutsV w X A n f) (hX : ∀ i, X i → ¬ F i ∧ i ≠ K)
    (hstep : ∀ k, k < n → E k = 0 → ∀ (wr : World) (sb so sC : Nat), KpS base F w wr B K (D k) (G k) → PutA w F K sb so sC (f k) →
      Calls Try.prog g #[.pointer (some ⟨K, 0, none⟩), .agg #[.int .i64 (f k).pl, .slice (some ⟨sb, so, none⟩) (f k).n sC]] wr fun e w' => e = .returned (.int .i64 (E (k + 1))) ∧ KpS base F w w' B K (D (k + 1)) (G (k + 1)))
    (hstop : ∀ k, k ≤ n → E k ≠ 0 → E n = E k ∧ D n = D k ∧ G n = G k) :
    Calls Try.prog 64 #[.slice A n C, .func (.func g) #[.pointer (some ⟨K, 0, none⟩)] #[]] w fun e w' => e = .returned (.int .i64 (E n)) ∧ KpS base F w w' B K (D n) (G n) := by
  have hn := hV.1
  have HF := Lib.hid hF
  have HV := Lib.hid hV
  have HX := Lib.hid hX
  have HG := Lib.hid hg
  have HST := Lib.hid hstep
  have HE0 := Lib.hid h0
  have HS := Lib.hid h
  have HFIN := Lib.hid (show ∀ (wr : World) (k : Nat) (e : Int), k ≤ n → (E k ≠ 0 ∨ k = n) → KpS base F w wr B K (D k) (G k) → E k = e → Ending.returned (.int .i64 e) = .returned (.int .i64 (E n)) ∧ KpS base F w wr B K (D n) (G n) from fun wr k e hk hs q h2 => by
    rcases hs with hs | rfl
    · obtain ⟨e1, e2, e3⟩ := hstop k hk hs
      rw [e1, e2, e3, h2]
      exact ⟨rfl, q⟩
    · rw [h2]
      exact ⟨rfl, q⟩)
  clear h h0 hF hV hX hg hstep hstop
  go_enter Try.func64, Try.ntmps64
  go_wp2
  go_loopw [6, 7, 10, 11, 12, 13, 14, 15, 16, 17, 18, 19, 20] (fun _ _ i _ _ _ _ _ _ _ _ _ _ wr => ∃ k : Nat, k ≤ n ∧ i = .int .i64 k ∧ Hid (E k = 0) ∧ Hid (KpS base F w wr B K (D k) (G k))) (fun _ _ i _ _ _ _ _ _ _ _ _ _ _ => n - (intOf i).toNat)
  case atStart => exact ⟨0, Nat.zero_le _, rfl, HE0, HS⟩
  case round =>
    obtain ⟨k, hk, rfl, HE, HD⟩ := hrel
    clear HS
    by_cases hlt : k < n
    · obtain ⟨b, o, rfl, hb, hc⟩ := HV.out.2 (by omega)
      obtain ⟨sb, so, sC, hp⟩ := hc k hlt
      have i1 : (0 : Int) ≤ (k : Int) := Int.natCast_nonneg _
      have i2 : (k : Int) < (n : Int) := by omega
      obtain ⟨d0, d1⟩ := HD.out.put hp HX.out hb
      have ld := load_put d0 d1
      obtain ⟨wz, wx, H, hR⟩ := varR (t := 78) (u := .int .i64 0) (v := .slice none 0 0) (x := .int .i64 (f k).pl) (y := .slice (some ⟨sb, so, none⟩) (f k).n sC) size_put rfl rfl wr
      have l2 := load_put (w := wx) (b := H) (o := 0) (blk_cell hR.cx) (blk_cell hR.cx)
      have HO := Lib.hid (HST.out k hlt HE.out wx sb so sC (HD.out.gr hR.ch) (hp.put HX.out))
      have HR := Lib.hid hR
      have HLT := Lib.hid hlt
      obtain ⟨Y, hY⟩ : ∃ Y, Y = E (k + 1) := ⟨_, rfl⟩
      rw [← hY] at HO
      have HY := Lib.hid hY
      clear hc hp hb hlt hR d0 d1 hY HD
      rcases HG.out with hz | hz <;> first | exact hz.elim | subst hz
      all_goals (
        go_wp2_with (first
          | ((with_reducible refine wpList_isOp (.load 78 (.tmp 12)) rfl ?_); refine wpList_loading _ rfl 78 (.tmp 12) rfl _ ⟨b, o + k * 2, none⟩ rfl ld ?_)
          | ((with_reducible refine wpList_isOp (.alloc 78) rfl ?_); refine wpList_making _ wz rfl 78 rfl #[.int .i64 0, .slice none 0 0] H (zero_put _) (by exact HR.out.sz) (by exact HR.out.al) ?_)
          | ((with_reducible refine wpList_isOp (.store 78 (.tmp 6) (.tmp 13)) rfl ?_); refine wpList_storing _ wx rfl 78 (.tmp 6) (.tmp 13) rfl (.agg #[.int .i64 (f k).pl, .slice (some ⟨sb, so, none⟩) (f k).n sC]) ⟨H, 0, none⟩ rfl rfl (by exact HR.out.st) ?_)
          | ((with_reducible refine wpList_isOp (.load 78 (.tmp 6)) rfl ?_); refine wpList_loading _ rfl 78 (.tmp 6) rfl _ ⟨H, 0, none⟩ rfl l2 ?_)
          | fail)
        refine HO.out.mono ?_
        rintro e1 w2 ⟨rfl, hs2⟩
        have HS2 := Lib.hid hs2
        clear hs2 HO ld l2
        by_cases hE : Y = 0
        · subst hE
          have HLT2 := HLT.out
          go_wp2
          go_roundw
          case rel => exact ⟨k + 1, by omega, by go_num, Lib.hid HY.out.symm, HS2⟩
          case measure => simp [intOf]; omega
        · have HP := Lib.hid (HFIN.out w2 (k + 1) Y HLT.out (Or.inl (by rw [← HY.out]; exact hE)) HS2.out HY.out.symm)
          have t1 : (Y != 0) = true := by simpa using hE
          clear hE
          go_wp2
          go_ret
          exact HP.out)
    · obtain rfl : k = n := by omega
      have HP := Lib.hid (HFIN.out wr k 0 (Nat.le_refl _) (Or.inr rfl) HD.out HE.out)
      clear hlt
      go_wp2
      go_ret
      exact HP.out
#print axioms each_any

theorem PutsV.old {w : World} {X : Nat → Prop} {A : Option Addr} {n : Nat} {f : Nat → PutP} (h : PutsV w X A n f) : PutsV w (fun i => X i ∧ i < w.heap.size) A n f := by
  refine ⟨h.1, fun h0 => ?_⟩
  obtain ⟨b, o, hA, hb, hc⟩ := h.2 h0
  obtain ⟨sb, so, sC, hp⟩ := hc 0 h0
  refine ⟨b, o, hA, ⟨hb, World.block_lt_of_cell? _ _ hp.c0⟩, fun c hcn => ?_⟩
  obtain ⟨sb, so, sC, hp⟩ := hc c hcn
  exact ⟨sb, so, sC, hp.c0, hp.c1, hp.row, ⟨hp.X, hp.lt⟩, hp.lt⟩
/-! ### a keeper, made -/
section
variable {base : Nat} {w w1 wz wx : World} {p : Ph} {d : Dev} {K : Nat}
theorem VarR.kp (v : VarR w1 wz wx K #[.pointer none, .int .i64 0] #[.pointer (some ⟨p.B, 0, none⟩), .int .i64 0] 110) (k : Ch (fun _ => False) w w1) (h : DevIs base w p d) : KpS base (Foot p d) wx wx p.B K d 0 ∧ KpF base (Foot p d) wx K ∧ Ch (fun _ => False) w wx ∧ w.heap.size ≤ K := by
  have k2 := k.trans v.ch
  have hk : w.heap.size ≤ K := by have := v.sz; have := k.size; omega
  exact ⟨⟨⟨p, rfl, h.gr k2, fun i hi => Or.inl hi⟩, v.cx, Ch.refl _ wx⟩, ⟨by have := (h.foot (i := p.B) (Or.inl rfl)); have := k2.size; omega, fun i hi => ⟨(h.foot hi).1, Nat.lt_of_lt_of_le (h.foot hi).2 k2.size⟩, fun hi => by have := (h.foot hi).2; omega, blk_lt v.cx⟩, k2, hk⟩
end
/-! ### All -/
def cntA (f : Nat → PutP) (d : Dev) : Nat → Nat
  | 0 => 0
  | k + 1 => if (allTo f d k).e = 0 then kepC (allTo f d k).d (f k) (cntA f d k) else cntA f d k
theorem kepC_le (d : Dev) (P : PutP) (c : Nat) : kepC d P c ≤ c + 1 := by unfold kepC; split <;> omega
theorem cntA_le (f : Nat → PutP) (d : Dev) : ∀ k, cntA f d k ≤ k
  | 0 => Nat.le_refl _
  | k + 1 => by
    have ih := cntA_le f d k
    show (if (allTo f d k).e = 0 then kepC (allTo f d k).d (f k) (cntA f d k) else cntA f d k) ≤ k + 1
    split
    · exact Nat.le_trans (kepC_le _ _ _) (by omega)
    · omega
theorem cntA_stop {f : Nat → PutP} {d : Dev} {i : Nat} (h : (allTo f d i).e ≠ 0) : ∀ n, i ≤ n → cntA f d n = cntA f d i
  | 0, hn => by obtain rfl : i = 0 := by omega
                rfl
  | n + 1, hn => by
    by_cases q : i = n + 1
    · rw [q]
    · have ih := cntA_stop h n (by omega)
      show (if (allTo f d n).e = 0 then kepC (allTo f d n).d (f n) (cntA f d n) else cntA f d n) = _
      rw [allTo_stop h n (by omega), if_neg h, ih]
set_option maxHeartbeats 1600000 in
theorem kall_any (base : Nat) (X : Nat → Prop) (p : Ph) (d : Dev) (n : Nat) (f : Nat → PutP) (A : Option Addr) (C t : Nat) (w : World) (h : DevIs base w p d) (hV : PutsV w X A n f) (hX : ∀ i, X i → ¬ Foot p d i) (hXl : ∀ i, X i → i < w.heap.size) (hl : Lim d t) (hm : LimM d t) (ht : t + 13 * n ≤ 990000) :
    Calls Try.prog 38 #[.pointer (some ⟨p.B, 0, none⟩), .slice A n C] w (DPost base p d (allTo f d n).d (.int .i64 (allTo f d n).e) w) := by
  obtain ⟨wz, wx, K, hK⟩ := varR (t := 110) (u := .pointer none) (v := .int .i64 0) (x := .pointer (some ⟨p.B, 0, none⟩)) (y := .int .i64 0) size_kp rfl rfl w
  obtain ⟨q1, q2, q3, q4⟩ := hK.kp (Ch.refl _ w) h
  have HO := Lib.hid (each_any _ (Or.inl rfl) base (Foot p d) X p.B K n f A C (fun k => (allTo f d k).d) (fun k => (allTo f d k).e) (cntA f d) wx q1 rfl q2 (hV.gr q3) (fun i hi => ⟨hX i hi, by have := hXl i hi; omega⟩)
    (fun k hk he wr sb so sC q hp => by
      have e1 : allTo f d (k + 1) = ⟨kepD 4 (allTo f d k).d (f k), kepE 4 (allTo f d k).d (f k)⟩ := if_pos he
      have e2 : cntA f d (k + 1) = kepC (allTo f d k).d (f k) (cntA f d k) := if_pos he
      have hlk := allTo_lim (f := f) hl hm k
      have hck := cntA_le f d k
      rw [e1, e2]
      exact q.lift (kwrite_any base _ p.B K _ sb so sC _ _ (f k) wr q.now (q2.fn q.ch.size) (hp.now q) hlk.1 hlk.2 (by omega) (by omega)))
    (fun k hk he => by
      rw [allTo_stop he n hk, cntA_stop he n hk]
      exact ⟨rfl, rfl, rfl⟩))
  have HFIN := Lib.hid (show ∀ wr, KpS base (Foot p d) wx wr p.B K (allTo f d n).d (cntA f d n) → DPost base p d (allTo f d n).d (.int .i64 (allTo f d n).e) w (.returned (.int .i64 (allTo f d n).e)) wr from fun wr q => q.post q3 q4)
  have HK := Lib.hid hK
  clear h hV hX hXl hl hm ht hK q1 q2 q3 q4
  go_enter Try.func38, Try.ntmps38
  go_wp2_with (first
    | ((with_reducible refine wpList_isOp (.alloc 110) rfl ?_); refine wpList_making _ wz rfl 110 rfl #[.pointer none, .int .i64 0] K (zero_kp _) (by exact HK.out.sz) (by exact HK.out.al) ?_)
    | ((with_reducible refine wpList_isOp (.store 110 (.tmp 5) (.tmp 7)) rfl ?_); refine wpList_storing _ wx rfl 110 (.tmp 5) (.tmp 7) rfl (.agg #[.pointer (some ⟨p.B, 0, none⟩), .int .i64 0]) ⟨K, 0, none⟩ rfl rfl (by exact HK.out.st) ?_)
    | fail)
  refine HO.out.mono ?_
  rintro e w2 ⟨rfl, hs⟩
  have HP := Lib.hid (HFIN.out w2 hs)
  clear hs HO
  go_wp2
  go_ret
  exact HP.out
#print axioms kall_any

/-! ### Mend -/
theorem mendOne_c (d : Dev) (P : PutP) (c : Nat) : (mendOne d P c).c ≤ c + 1 := by
  unfold mendOne
  split
  · split
    · exact Nat.le_succ _
    · exact kepC_le _ _ _
  · exact Nat.le_succ _
end Go.Proofs.Ytjdknebifcdicaa
namespace Go.Proofs.Ytjdknebifcdicaa
open Go.RowKit
set_option linter.unusedVariables false
set_option maxRecDepth 100000

/-! ### Install -/
def putS (x : Sp) (j : Nat) : PutP := ⟨(j : Int), 256, sectS x (j : Int)⟩
def instD (x : Sp) (d : Dev) : Dev := if mayS x then (allTo (putS x) d 4).d else d
def instE (x : Sp) (d : Dev) : Int := if mayS x then (allTo (putS x) d 4).e else 1
theorem sok_at {x : Sp} {k : Nat} (hk : k < 4) : sokB x (k : Int) = mayS x := by
  unfold sokB placeB
  have : inB (k : Int) 0 3 = true := inB_true.2 ⟨by omega, by omega⟩
  rw [this, Bool.and_true]
theorem own_new {w wr w2 : World} {n C : Nat} {A : Option Addr} {z : Nat → Nat} (h : w2.ownsRow wr.heap.size /-t-/5 1 (.slice A n C) n (bytesL n z)) (hn : 0 < n) (hn2 : n ≤ 1000000) (hz : Bytes n z) (hc : w.heap.size ≤ wr.heap.size) : ∃ g, A = some ⟨g, 0, none⟩ ∧ OwnB w w2 (.slice A n C) n z g 0 C := by
  have hr := ownsRow_rowV h (by omega) hz
  obtain ⟨g, C', e, _⟩ := owns_some h hn
  injection e with e1 _ e2
  subst e1
  obtain ⟨hg, hb⟩ := own_at h (i := g) rfl
  exact ⟨g, rfl, ⟨rfl, hr, hb, Nat.le_trans hc hg⟩⟩
set_option maxHeartbeats 3200000 in
theorem install_any (base : Nat) (p : Ph) (d : Dev) (x : Sp) (t : Nat) (w : World) (h : DevIs base w p d) (hl : Lim d t) (hm : LimM d t) (ht : t ≤ 900000) :
    Calls Try.prog 19 #[.pointer (some ⟨p.B, 0, none⟩), .agg (supC x)] w (DPost base p d (instD x d) (.int .i64 (instE x d)) w) := by
  obtain ⟨w1, H, hR⟩ := boxR w (supC x) 25
  have HD1 := Lib.hid (h.gr hR.ch)
  have HFT := Lib.hid (fun i (hi : Foot p d i) => (h.foot hi).2)
  have HPL := Lib.hid (And.intro hl (And.intro hm ht))
  have HR := Lib.hid hR
  have HS0 : Hid (∃ s, PutsO w1 w1 (.slice none 0 0) 0 (putS x) s) := ⟨fun _ => .slice none 0 0, PutsO.start w1 _ _⟩
  clear h hR hl hm ht
  go_enter Try.func19, Try.ntmps19
  go_wp2_with ((with_reducible refine wpList_isOp (.box 25 (.tmp 1)) rfl ?_); refine wpList_boxing _ w1 rfl 25 (.tmp 1) rfl (supC x) H rfl (by exact HR.out.sz) (by exact HR.out.al) ?_)
  go_loopw [5, 6, 7, 8, 9, 10, 11, 12, 13, 14, 15, 16, 17, 18, 19, 20, 21, 22, 23, 24, 25, 26, 27] (fun v _ _ _ i _ _ _ _ _ _ _ _ _ _ _ _ _ _ _ _ _ _ wr => ∃ k : Nat, k ≤ 4 ∧ i = .int .i64 k ∧ Hid (∃ s, PutsO w1 wr v k (putS x) s) ∧ Hid (0 < k → mayS x = true)) (fun _ _ _ _ i _ _ _ _ _ _ _ _ _ _ _ _ _ _ _ _ _ _ _ => 4 - (intOf i).toNat)
  case atStart => exact ⟨0, Nat.zero_le _, rfl, HS0, Lib.hid fun q => absurd q (Nat.lt_irrefl 0)⟩
  case round =>
    obtain ⟨k, hk, rfl, HK, HM⟩ := hrel
    clear HS0
    obtain ⟨s, hs⟩ := HK.out
    obtain ⟨A0, C0, rfl⟩ := hs.len
    have HK := Lib.hid hs
    clear hs
    by_cases hlt : k < 4
    · have i1 : (0 : Int) ≤ (k : Int) := Int.natCast_nonneg _
      have i2 : (k : Int) < 4 := by omega
      have HLT := Lib.hid hlt
      have HL := Lib.hid (load_su ((HK.out.ch.block H (blk_lt HR.out.cx) (fun f => f)).trans HR.out.cx))
      have HS := Lib.hid (ssector_any x (k : Int) wr)
      clear hlt
      go_wp2_with (first | ((with_reducible refine wpList_isOp (.load 25 (.tmp 3)) rfl ?_); refine wpList_loading _ rfl 25 (.tmp 3) rfl (.agg (supC x)) ⟨H, 0, none⟩ rfl (by exact HL.out) ?_) | fail)
      refine HS.out.mono ?_
      rintro e1 w2 ⟨A4, C4, rfl, ho2, hc2⟩
      have HK2 := Lib.hid (HK.out.gr hc2)
      cases hs : sokB x (k : Int)
      · have HE : secE x (k : Int) = 1 := by unfold secE; rw [hs]; rfl
        have hms : mayS x = false := by rw [← sok_at HLT.out]; exact hs
        have HFIN := Lib.hid (show DPost base p d (instD x d) (.int .i64 (instE x d)) w (.returned (.int .i64 1)) w2 by
          have e1 : instD x d = d := by unfold instD; rw [hms]; rfl
          have e2 : instE x d = 1 := by unfold instE; rw [hms]; rfl
          rw [e1, e2]
          exact DPost.turned (HD1.out.gr HK2.out.ch) rfl ((HR.out.ch.trans HK2.out.ch).mono fun _ _ f => f.elim))
        rw [HE]
        clear hs HE hms ho2 hc2
        go_wp2
        go_ret
        exact HFIN.out
      · have HE : secE x (k : Int) = 0 := by unfold secE; rw [hs]; rfl
        have HQ : secN x (k : Int) = 256 := by unfold secN; rw [hs]; rfl
        have HMS := Lib.hid (show mayS x = true by rw [← sok_at HLT.out]; exact hs)
        rw [HQ] at ho2
        rw [HE, HQ]
        obtain ⟨sb, rfl, hob⟩ := own_new (w := w1) ho2 (by omega) (by omega) (sectS_b _) HK.out.ch.size
        obtain ⟨g2, cap, w3, hr3, hs3⟩ := HK2.out.app (u := .slice (some ⟨sb, 0, none⟩) 256 C4) hob (by have := HLT.out; omega)
        have HSL := Lib.hid (slice_put w2 (.int .i64 (k : Int)) (.slice (some ⟨sb, 0, none⟩) 256 C4))
        obtain ⟨ws, hws⟩ : ∃ ws, ws = w2.alloc (.cells #[.int .i64 (k : Int), .slice (some ⟨sb, 0, none⟩) 256 C4] 78) := ⟨_, rfl⟩
        obtain ⟨K, hK⟩ : ∃ K, K = w2.heap.size := ⟨_, rfl⟩
        obtain ⟨N, hN⟩ : ∃ N, N = k + 1 := ⟨_, rfl⟩
        have hpl : (putS x k).pl = (k : Int) := rfl
        rw [hpl, ← hws, ← hK, ← hN] at hr3
        rw [← hws, ← hK] at HSL
        rw [← hN] at hs3
        have HRUN := Lib.hid hr3
        have HS3 := Lib.hid (show ∃ s, PutsO w1 w3 _ N (putS x) s from ⟨_, hs3⟩)
        have HLT2 := HLT.out
        have HN := Lib.hid hN
        clear hr3 hs3 hpl hws hK hN ho2 hc2 hob hs HE HQ
        go_wp2_with (first
          | ((with_reducible refine wpList_isOp (.buildSlice 76 1 #[(0, .tmp 24)]) rfl ?_); refine wpList_slicing1 _ ws rfl 76 0 1 (.tmp 24) rfl (.agg #[.int .i64 (k : Int), .slice (some ⟨sb, 0, none⟩) 256 C4]) (.slice (some ⟨K, 0, none⟩) 1 1) rfl (by exact HSL.out) ?_)
          | ((with_reducible refine wpList_isOp (.call { callee := .builtin .append, args := #[.tmp 21, .tmp 25], argTypes := #[ 76, 76] }) rfl ?_); refine wpList_appP _ rfl (.tmp 21) (.tmp 25) rfl rfl (.slice A0 k C0) (.slice (some ⟨K, 0, none⟩) 1 1) (.slice (some ⟨g2, 0, none⟩) N cap) w3 rfl rfl (by exact HRUN.out) ?_)
          | fail)
        go_roundw
        case rel => exact ⟨N, by rw [HN.out]; omega, by rw [HN.out]; go_num, HS3, Lib.hid fun _ => HMS.out⟩
        case measure => simp [intOf]; omega
    · obtain rfl : k = 4 := by omega
      have hms := HM.out (by omega)
      have HV := HK.out.read (by omega)
      have HO := Lib.hid (kall_any base (fun i => w1.heap.size ≤ i ∧ i < wr.heap.size) p d 4 (putS x) A0 C0 t wr (HD1.out.gr HK.out.ch) HV (fun i hi hf => by have := HFT.out i hf; have := HR.out.ch.size; omega) (fun i hi => hi.2) HPL.out.1 HPL.out.2.1 (by have := HPL.out.2.2; omega))
      have HC := Lib.hid (HR.out.ch.trans HK.out.ch)
      have HI := Lib.hid (show instD x d = (allTo (putS x) d 4).d ∧ instE x d = (allTo (putS x) d 4).e by unfold instD instE; rw [hms]; exact ⟨rfl, rfl⟩)
      clear hlt hk hms HV
      rw [show ((4 : Nat) : Int) = 4 from rfl]
      go_wp2_with fail
      refine HO.out.mono ?_
      rintro e w2 hp
      obtain ⟨rfl, hq⟩ := id hp
      have HP := Lib.hid (hp.since HC.out)
      clear hp hq HO
      go_wp2
      go_ret
      rw [HI.out.1, HI.out.2]
      exact HP.out
#print axioms install_any
end Go.Proofs.Ytjdknebifcdicaa
