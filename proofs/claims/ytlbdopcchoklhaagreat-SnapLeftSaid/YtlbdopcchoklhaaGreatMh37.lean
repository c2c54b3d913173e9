/-
  keep, walked: each, One, All, Mend. The program's snap: Write and load, walked.
-/
import Derived.Test.YtlbdopcchoklhaaGreatMh36
import Derived.Test.YtlbdopcchoklhaaGreatMh35
import Derived.Test.YtlbdopcchoklhaaGreatMh28
namespace Go.Proofs.YtlbdopcchoklhaaGreat
open Go.RowKit
set_option linter.unusedVariables false
set_option maxRecDepth 100000

/-! ### one by one -/
theorem PutIs.put {w : World} {X F : Nat → Prop} {K b o sb so sC : Nat} {P : PutP} (h : PutIs w X b o sb so sC P) (hX : ∀ i, X i → ¬ F i ∧ i ≠ K) : PutA w F K sb so sC P := ⟨h.row, (hX sb h.X).1, (hX sb h.X).2, h.lt⟩
set_option maxHeartbeats 3200000 in
theorem each_any (g : FuncId) (hg : g = 87 ∨ False) (base : Nat) (F X : Nat → Prop) (B K n : Nat) (f : Nat → PutP) (A : Option Addr) (C : Nat) (D : Nat → Dev) (E : Nat → Int) (G : Nat → Nat) (w : World)
    (h : KpS base F w w B K (D 0) (G 0)) (h0 : E 0 = 0) (hF : KpF base F w K) (hV : PutsV w X A n f) (hX : ∀ i, X i → ¬ F i ∧ i ≠ K)
    (hstep : ∀ k, k < n → E k = 0 → ∀ (wr : World) (sb so sC : Nat), KpS base F w wr B K (D k) (G k) → PutA w F K sb so sC (f k) →
      Calls Tryz.prog g #[.pointer (some ⟨K, 0, none⟩), .agg #[.int .i64 (f k).pl, .slice (some ⟨sb, so, none⟩) (f k).n sC]] wr fun e w' => e = .returned (.int .i64 (E (k + 1))) ∧ KpS base F w w' B K (D (k + 1)) (G (k + 1)))
    (hstop : ∀ k, k ≤ n → E k ≠ 0 → E n = E k ∧ D n = D k ∧ G n = G k) :
    Calls Tryz.prog 86 #[.slice A n C, .func (.func g) #[.pointer (some ⟨K, 0, none⟩)] #[]] w fun e w' => e = .returned (.int .i64 (E n)) ∧ KpS base F w w' B K (D n) (G n) := by
  have hn := hV.1
  have HF := Lib.hid hF
  have HV := Lib.hid hV
  have HX := Lib.hid hX
  have HG := Lib.hid hg
  have HST := Lib.hid hstep
  have HE0 := Lib.hid h0
  have HS := Lib.hid h
  have HFIN := Lib.hid (show ∀ (wr : World) (k : Nat) (e : Int), k ≤ n → (E k ≠ 0 ∨ k = n) → KpS base F w wr B K (D k) (G k) → E k = e → Ending.returned (.int .i64 e) = .returned (.int .i64 (E n)) ∧ KpS base F w wr B K (D n) (G n) from fun wr k e hk hs q h2 => by
    rcases hs with hs | rfl
    · obtain ⟨e1, e2, e3⟩ := hstop k hk hs
      rw [e1, e2, e3, h2]
      exact ⟨rfl, q⟩
    · rw [h2]
      exact ⟨rfl, q⟩)
  clear h h0 hF hV hX hg hstep hstop
  go_enter Tryz.func86, Tryz.ntmps86
  go_wp2
  go_loopw [6, 7, 10, 11, 12, 13, 14, 15, 16, 17, 18, 19, 20] (fun _ _ i _ _ _ _ _ _ _ _ _ _ wr => ∃ k : Nat, k ≤ n ∧ i = .int .i64 k ∧ Hid (E k = 0) ∧ Hid (KpS base F w wr B K (D k) (G k))) (fun _ _ i _ _ _ _ _ _ _ _ _ _ _ => n - (intOf i).toNat)
  case atStart => exact ⟨0, Nat.zero_le _, rfl, HE0, HS⟩
  case round =>
    obtain ⟨k, hk, rfl, HE, HD⟩ := hrel
    clear HS
    by_cases hlt : k < n
    · obtain ⟨b, o, rfl, hb, hc⟩ := HV.out.2 (by omega)
      obtain ⟨sb, so, sC, hp⟩ := hc k hlt
      have i1 : (0 : Int) ≤ (k : Int) := Int.natCast_nonneg _
      have i2 : (k : Int) < (n : Int) := by omega
      obtain ⟨d0, d1⟩ := HD.out.put hp HX.out hb
      have ld := load_put d0 d1
      obtain ⟨wz, wx, H, hR⟩ := varR (t := 35) (u := .int .i64 0) (v := .slice none 0 0) (x := .int .i64 (f k).pl) (y := .slice (some ⟨sb, so, none⟩) (f k).n sC) size_put rfl rfl wr
      have l2 := load_put (w := wx) (b := H) (o := 0) (blk_cell hR.cx) (blk_cell hR.cx)
      have HO := Lib.hid (HST.out k hlt HE.out wx sb so sC (HD.out.gr hR.ch) (hp.put HX.out))
      have HR := Lib.hid hR
      have HLT := Lib.hid hlt
      obtain ⟨Y, hY⟩ : ∃ Y, Y = E (k + 1) := ⟨_, rfl⟩
      rw [← hY] at HO
      have HY := Lib.hid hY
      clear hc hp hb hlt hR d0 d1 hY HD
      rcases HG.out with hz | hz <;> first | exact hz.elim | subst hz
      all_goals (
        go_wp2_with (first
          | ((with_reducible refine wpList_isOp (.load 35 (.tmp 12)) rfl ?_); refine wpList_loading _ rfl 35 (.tmp 12) rfl _ ⟨b, o + k * 2, none⟩ rfl ld ?_)
          | ((with_reducible refine wpList_isOp (.alloc 35) rfl ?_); refine wpList_making _ wz rfl 35 rfl #[.int .i64 0, .slice none 0 0] H (zero_put _) (by exact HR.out.sz) (by exact HR.out.al) ?_)
          | ((with_reducible refine wpList_isOp (.store 35 (.tmp 6) (.tmp 13)) rfl ?_); refine wpList_storing _ wx rfl 35 (.tmp 6) (.tmp 13) rfl (.agg #[.int .i64 (f k).pl, .slice (some ⟨sb, so, none⟩) (f k).n sC]) ⟨H, 0, none⟩ rfl rfl (by exact HR.out.st) ?_)
          | ((with_reducible refine wpList_isOp (.load 35 (.tmp 6)) rfl ?_); refine wpList_loading _ rfl 35 (.tmp 6) rfl _ ⟨H, 0, none⟩ rfl l2 ?_)
          | fail)
        refine HO.out.mono ?_
        rintro e1 w2 ⟨rfl, hs2⟩
        have HS2 := Lib.hid hs2
        clear hs2 HO ld l2
        by_cases hE : Y = 0
        · subst hE
          have HLT2 := HLT.out
          go_wp2
          go_roundw
          case rel => exact ⟨k + 1, by omega, by go_num, Lib.hid HY.out.symm, HS2⟩
          case measure => simp [intOf]; omega
        · have HP := Lib.hid (HFIN.out w2 (k + 1) Y HLT.out (Or.inl (by rw [← HY.out]; exact hE)) HS2.out HY.out.symm)
          have t1 : (Y != 0) = true := by simpa using hE
          clear hE
          go_wp2
          go_ret
          exact HP.out)
    · obtain rfl : k = n := by omega
      have HP := Lib.hid (HFIN.out wr k 0 (Nat.le_refl _) (Or.inr rfl) HD.out HE.out)
      clear hlt
      go_wp2
      go_ret
      exact HP.out
theorem PutsV.old {w : World} {X : Nat → Prop} {A : Option Addr} {n : Nat} {f : Nat → PutP} (h : PutsV w X A n f) : PutsV w (fun i => X i ∧ i < w.heap.size) A n f := by
  refine ⟨h.1, fun h0 => ?_⟩
  obtain ⟨b, o, hA, hb, hc⟩ := h.2 h0
  obtain ⟨sb, so, sC, hp⟩ := hc 0 h0
  refine ⟨b, o, hA, ⟨hb, World.block_lt_of_cell? _ _ hp.c0⟩, fun c hcn => ?_⟩
  obtain ⟨sb, so, sC, hp⟩ := hc c hcn
  exact ⟨sb, so, sC, hp.c0, hp.c1, hp.row, ⟨hp.X, hp.lt⟩, hp.lt⟩
/-! ### a keeper, made -/
section
variable {base : Nat} {w w1 wz wx : World} {p : Ph} {d : Dev} {K : Nat}
theorem VarR.kp (v : VarR w1 wz wx K #[.pointer none, .int .i64 0] #[.pointer (some ⟨p.B, 0, none⟩), .int .i64 0] 122) (k : Ch (fun _ => False) w w1) (h : DevIs base w p d) : KpS base (Foot p d) wx wx p.B K d 0 ∧ KpF base (Foot p d) wx K ∧ Ch (fun _ => False) w wx ∧ w.heap.size ≤ K := by
  have k2 := k.trans v.ch
  have hk : w.heap.size ≤ K := by have := v.sz; have := k.size; omega
  exact ⟨⟨⟨p, rfl, h.gr k2, fun i hi => Or.inl hi⟩, v.cx, Ch.refl _ wx⟩, ⟨by have := (h.foot (i := p.B) (Or.inl rfl)); have := k2.size; omega, fun i hi => ⟨(h.foot hi).1, Nat.lt_of_lt_of_le (h.foot hi).2 k2.size⟩, fun hi => by have := (h.foot hi).2; omega, blk_lt v.cx⟩, k2, hk⟩
end
/-! ### All -/
def cntA (f : Nat → PutP) (d : Dev) : Nat → Nat
  | 0 => 0
  | k + 1 => if (allTo f d k).e = 0 then kepC (allTo f d k).d (f k) (cntA f d k) else cntA f d k
theorem kepC_le (d : Dev) (P : PutP) (c : Nat) : kepC d P c ≤ c + 1 := by unfold kepC; split <;> omega
theorem cntA_le (f : Nat → PutP) (d : Dev) : ∀ k, cntA f d k ≤ k
  | 0 => Nat.le_refl _
  | k + 1 => by
    have ih := cntA_le f d k
    show (if (allTo f d k).e = 0 then kepC (allTo f d k).d (f k) (cntA f d k) else cntA f d k) ≤ k + 1
    split
    · exact Nat.le_trans (kepC_le _ _ _) (by omega)
    · omega
theorem cntA_stop {f : Nat → PutP} {d : Dev} {i : Nat} (h : (allTo f d i).e ≠ 0) : ∀ n, i ≤ n → cntA f d n = cntA f d i
  | 0, hn => by obtain rfl : i = 0 := by omega
                rfl
  | n + 1, hn => by
    by_cases q : i = n + 1
    · rw [q]
    · have ih := cntA_stop h n (by omega)
      show (if (allTo f d n).e = 0 then kepC (allTo f d n).d (f n) (cntA f d n) else cntA f d n) = _
      rw [allTo_stop h n (by omega), if_neg h, ih]
set_option maxHeartbeats 1600000 in
theorem kall_any (base : Nat) (X : Nat → Prop) (p : Ph) (d : Dev) (n : Nat) (f : Nat → PutP) (A : Option Addr) (C t : Nat) (w : World) (h : DevIs base w p d) (hV : PutsV w X A n f) (hX : ∀ i, X i → ¬ Foot p d i) (hXl : ∀ i, X i → i < w.heap.size) (hl : Lim d t) (hm : LimM d t) (ht : t + 13 * n ≤ 990000) :
    Calls Tryz.prog 49 #[.pointer (some ⟨p.B, 0, none⟩), .slice A n C] w (DPost base p d (allTo f d n).d (.int .i64 (allTo f d n).e) w) := by
  obtain ⟨wz, wx, K, hK⟩ := varR (t := 122) (u := .pointer none) (v := .int .i64 0) (x := .pointer (some ⟨p.B, 0, none⟩)) (y := .int .i64 0) size_kp rfl rfl w
  obtain ⟨q1, q2, q3, q4⟩ := hK.kp (Ch.refl _ w) h
  have HO := Lib.hid (each_any _ (Or.inl rfl) base (Foot p d) X p.B K n f A C (fun k => (allTo f d k).d) (fun k => (allTo f d k).e) (cntA f d) wx q1 rfl q2 (hV.gr q3) (fun i hi => ⟨hX i hi, by have := hXl i hi; omega⟩)
    (fun k hk he wr sb so sC q hp => by
      have e1 : allTo f d (k + 1) = ⟨kepD 4 (allTo f d k).d (f k), kepE 4 (allTo f d k).d (f k)⟩ := if_pos he
      have e2 : cntA f d (k + 1) = kepC (allTo f d k).d (f k) (cntA f d k) := if_pos he
      have hlk := allTo_lim (f := f) hl hm k
      have hck := cntA_le f d k
      rw [e1, e2]
      exact q.lift (kwrite_any base _ p.B K _ sb so sC _ _ (f k) wr q.now (q2.fn q.ch.size) (hp.now q) hlk.1 hlk.2 (by omega) (by omega)))
    (fun k hk he => by
      rw [allTo_stop he n hk, cntA_stop he n hk]
      exact ⟨rfl, rfl, rfl⟩))
  have HFIN := Lib.hid (show ∀ wr, KpS base (Foot p d) wx wr p.B K (allTo f d n).d (cntA f d n) → DPost base p d (allTo f d n).d (.int .i64 (allTo f d n).e) w (.returned (.int .i64 (allTo f d n).e)) wr from fun wr q => q.post q3 q4)
  have HK := Lib.hid hK
  clear h hV hX hXl hl hm ht hK q1 q2 q3 q4
  go_enter Tryz.func49, Tryz.ntmps49
  go_wp2_with (first
    | ((with_reducible refine wpList_isOp (.alloc 122) rfl ?_); refine wpList_making _ wz rfl 122 rfl #[.pointer none, .int .i64 0] K (zero_kp _) (by exact HK.out.sz) (by exact HK.out.al) ?_)
    | ((with_reducible refine wpList_isOp (.store 122 (.tmp 5) (.tmp 7)) rfl ?_); refine wpList_storing _ wx rfl 122 (.tmp 5) (.tmp 7) rfl (.agg #[.pointer (some ⟨p.B, 0, none⟩), .int .i64 0]) ⟨K, 0, none⟩ rfl rfl (by exact HK.out.st) ?_)
    | fail)
  refine HO.out.mono ?_
  rintro e w2 ⟨rfl, hs⟩
  have HP := Lib.hid (HFIN.out w2 hs)
  clear hs HO
  go_wp2
  go_ret
  exact HP.out
/-! ### Mend -/
end Go.Proofs.YtlbdopcchoklhaaGreat
namespace Go.Proofs.YtlbdopcchoklhaaGreat
open Go.RowKit
set_option linter.unusedVariables false
set_option maxRecDepth 100000
set_option linter.unusedSimpArgs false

/-! ### Write -/
set_option maxHeartbeats 3200000 in
theorem swrite_yes (base : Nat) (p : Ph) (d : Dev) (A : Option Addr) (l C t : Nat) (z : Nat → Nat) (vol ep no : Int) (n : Gn) (a : Nat) (w : World) (hd : DevIs base w p d) (hn : n.Ok) (ha : a ≤ 1) (hv : 0 ≤ vol ∧ vol ≤ 4294967295) (he : 0 ≤ ep ∧ ep ≤ 4294967295) (ho : 0 ≤ no ∧ no ≤ 4294967295) (hl : l ≤ n.S * n.K * 228) (hb : RowV w (.slice A l C) l z) (hlm : Lim d t) (hmm : LimM d t) (ht : t ≤ 970000) :
    Calls Tryz.prog 20 #[.pointer (some ⟨p.B, 0, none⟩), .int .i64 vol, .agg (geC n.ge), .int .i64 (a : Int), .int .i64 ep, .int .i64 no, .slice A l C] w (DPost base p d (allTo (snpP vol ep no n a (padZ l z)) d (n.S * n.q)).d (.int .i64 (allTo (snpP vol ep no n a (padZ l z)) d (n.S * n.q)).e) w) := by
  obtain ⟨w1, H, hR⟩ := geR w n.ge
  have HR := Lib.hid hR
  obtain ⟨x0, x1, x2, x3⟩ := hR.x
  have HPU := Lib.hid (sputs_yes A l C z vol ep no n a w1 hn ha hv he ho hl (hb.gr hR.ch))
  have hN : n.S * n.q ≤ 768 := hn.t2
  obtain ⟨N, hNe⟩ : ∃ N, N = n.S * n.q := ⟨_, rfl⟩
  obtain ⟨f, hf⟩ : ∃ f, f = snpP vol ep no n a (padZ l z) := ⟨_, rfl⟩
  rw [← hNe] at hN HPU ⊢
  rw [← hf] at HPU ⊢
  have HD := Lib.hid (hd.gr hR.ch)
  have HFT := Lib.hid (fun i (hi : Foot p d i) => (hd.foot hi).2)
  have HPL := Lib.hid (And.intro hlm (And.intro hmm (And.intro ht hN)))
  clear hR hd hn ha hv he ho hl hb hlm hmm ht hN hNe hf
  go_enter Tryz.func20, Tryz.ntmps20
  go_wp2_with (first | ((with_reducible refine wpList_isOp (.box 23 (.tmp 2)) rfl ?_); refine wpList_boxing _ w1 rfl 23 (.tmp 2) rfl (geC n.ge) H rfl (by exact HR.out.sz) (by exact HR.out.al) ?_) | fail)
  refine HPU.out.mono ?_
  rintro e w2 ⟨v, St, rfl, hp⟩
  obtain ⟨Av, Cv, rfl⟩ := hp.len
  have HO := Lib.hid (kall_any base (fun i => w1.heap.size ≤ i ∧ i < w2.heap.size) p d N f Av Cv t w2 (HD.out.gr hp.ch) (hp.read (by have := HPL.out.2.2.2; omega)) (fun i hi hf => by have := HFT.out i hf; have := HR.out.ch.size; omega) (fun i hi => hi.2) HPL.out.1 HPL.out.2.1 (by have := HPL.out.2.2; omega))
  have HC := Lib.hid (HR.out.ch.trans hp.ch)
  clear hp x0 x1 x2 x3
  go_wp2_with fail
  refine HO.out.mono ?_
  rintro e w3 hp
  obtain ⟨rfl, _⟩ := id hp
  have HP := Lib.hid (hp.since HC.out)
  obtain ⟨E, hE⟩ : ∃ E, E = (allTo f d N).e := ⟨_, rfl⟩
  rw [← hE] at HP ⊢
  have HE := Lib.hid hE
  clear hp HO hE
  go_wp2
  go_ret
  show DPost base p d (allTo f d N).d (.int .i64 (allTo f d N).e) w (.returned (.int .i64 E)) w3
  rw [← HE.out]
  exact HP.out
/-! ### load -/
/-- A device that has done so many calls. -/
def opD (d : Dev) (c : Nat) : Dev := { d with ops := c }
theorem opD_self (d : Dev) : opD d d.ops = d := rfl
theorem opD_read (d : Dev) (c : Nat) (a : Int) : ∃ c', c' ≤ c + 1 ∧ readD (opD d c) a = opD d c' := by
  unfold readD
  split
  · exact ⟨c + 1, Nat.le_refl _, rfl⟩
  · exact ⟨c, Nat.le_succ _, rfl⟩
def rdL (d : Dev) (at0 : Nat) (r : Nat) : Nat := readL d ((at0 : Int) + (r : Int))
def rdZ (d : Dev) (at0 : Nat) (r : Nat) : Nat → Nat := readZ d ((at0 : Int) + (r : Int))
theorem LdRow.mat {w wr : World} {B W : Nat} {N : Nat → Nat} {Z : Nat → Nat → Nat} (h : LdRow w wr B W N Z) (hW : W ≤ 1000000) : MatV wr (.slice (some ⟨B, 0, none⟩) W W) W N Z := by
  have hb := h.read hW
  refine ⟨_, _, rfl, ⟨hb.le, hb.cap⟩, fun h0 => ?_⟩
  obtain ⟨b, o, e, hc⟩ := hb.at' h0
  exact ⟨b, o, e, fun r hr => by obtain ⟨A', C', c1, c2⟩ := hc r hr; exact ⟨_, c1, c2⟩⟩
/-- Between two reads. -/
structure LkS (base : Nat) (p : Ph) (d : Dev) (c0 at0 q : Nat) (w wr : World) (B k : Nat) : Prop where
  dev : ∃ c, c ≤ c0 + k ∧ DevIs base wr p (opD d c)
  row : LdRow w wr B q (toN (rdL d at0) k) (toZ (rdZ d at0) k)
  ch : Ch (Foot p d) w wr
def LkPost (base : Nat) (p : Ph) (d : Dev) (c0 at0 q : Nat) (w : World) (e : Ending) (w' : World) : Prop :=
  ∃ B c, e = .returned (.slice (some ⟨B, 0, none⟩) q q) ∧ MatV w' (.slice (some ⟨B, 0, none⟩) q q) q (rdL d at0) (rdZ d at0) ∧ c ≤ c0 + q ∧ DevIs base w' p (opD d c) ∧ Ch (Foot p d) w w'
theorem LkS.next {base : Nat} {p : Ph} {d : Dev} {c0 c at0 q : Nat} {w wr w2 : World} {B k : Nat} {u : Value} (h : LkS base p d c0 at0 q w wr B k) (hf : ∀ i, Foot p d i → i < w.heap.size) (hk : k < q) (hcb : c ≤ c0 + k) (hdev : DevIs base wr p (opD d c)) (h2 : DevIs base w2 p (readD (opD d c) ((at0 : Int) + (k : Int))))
    (hr : w2.ownsRow wr.heap.size /-t-/5 1 u (rdL d at0 k) (bytesL (rdL d at0 k) (rdZ d at0 k))) (hc : Ch (Foot p (opD d c)) wr w2) : LkS base p d c0 at0 q w (w2.setCell ⟨B, k, none⟩ u) B (k + 1) := by
  have hz : Bytes (rdL d at0 k) (rdZ d at0 k) := read_bytes hdev ((at0 : Int) + (k : Int))
  have hn : rdL d at0 k ≤ 256 := by unfold rdL readL; split <;> omega
  have hfk : ∀ i, Foot p (opD d c) i → Foot p d i := fun i hi => (foot_n (d := d) (d' := opD d c) rfl).1 hi
  have hc' : Ch (Foot p d) wr w2 := hc.mono fun i _ hi => hfk i hi
  have hrow := (h.row.ch hc' hf).set (k := k) (RowN.own hr (by omega) hz h.ch.size) hk
  obtain ⟨c', hc1, e⟩ := opD_read d c ((at0 : Int) + (k : Int))
  rw [e] at h2
  refine ⟨⟨c', by omega, h2.ch ((Ch.refl (fun i => i = B) w2).setCell (p := ⟨B, k, none⟩) (Or.inl rfl) _) fun i hi e => ?_⟩, hrow.congr fun c _ => ⟨toN_next _ _ _, toZ_next _ _ _⟩, (h.ch.trans hc').setCell (p := ⟨B, k, none⟩) (Or.inr h.row.lo) _⟩
  have := hf i ((foot_n (d := d) (d' := opD d c') rfl).1 hi)
  have := h.row.lo
  omega
set_option maxHeartbeats 3200000 in
theorem snload_any (base : Nat) (p : Ph) (d : Dev) (c0 at0 q : Nat) (w : World) (h : DevIs base w p (opD d c0)) (hc0 : c0 ≤ 1000000) (hW : d.W.length ≤ 1000000) (hat : at0 ≤ 2564) (hq : q ≤ 24) :
    Calls Tryz.prog 53 #[.pointer (some ⟨p.B, 0, none⟩), .int .i64 (at0 : Int), .int .i64 (q : Int)] w (LkPost base p d c0 at0 q w) := by
  obtain ⟨w2, hw2⟩ : ∃ w2, w2 = w.alloc (.cells (madeCells #[.slice none 0 0] q) /-t-/24) := ⟨_, rfl⟩
  obtain ⟨B, hB⟩ : ∃ B, B = w.heap.size := ⟨_, rfl⟩
  have hmk := made_bs q w (by omega)
  rw [← hw2, ← hB] at hmk
  have hc2 : Ch (fun _ => False) w w2 := by rw [hw2]; exact (Ch.refl _ w).alloc _ _
  have HFT := Lib.hid (fun i (hi : Foot p d i) => (h.foot ((foot_n (d := opD d c0) (d' := d) rfl).1 hi)).2)
  have HS0 : Hid (LkS base p d c0 at0 q w w2 B 0) := Lib.hid ⟨⟨c0, Nat.le_refl _, h.gr hc2⟩, ⟨⟨fun _ => .slice none 0 0, by rw [hw2, hB]; exact World.rowIs_made w (.slice none 0 0) q /-t-/24, fun c _ => ⟨none, 0, rfl, Nat.le_refl _, Or.inl rfl⟩⟩, by omega⟩, hc2.mono fun _ _ f => f.elim⟩
  have q0 : (0 : Int) ≤ (q : Int) := Int.natCast_nonneg _
  have q1 : (q : Int) ≤ 24 := by omega
  have a0 : (0 : Int) ≤ (at0 : Int) := Int.natCast_nonneg _
  have a1 : (at0 : Int) ≤ 2564 := by omega
  have HOP := Lib.hid (And.intro hc0 (And.intro hW hq))
  have HMK := Lib.hid hmk
  clear h hc2 hc0 hW hq hat hw2 hB
  go_enter Tryz.func53, Tryz.ntmps53
  go_wp2_with fail
  clear hmk
  go_loopw [8, 13, 14, 15, 16, 17, 18, 19, 20, 21, 22, 23, 24, 25, 26, 27] (fun _ i _ _ _ _ _ _ _ _ _ _ _ _ _ _ wr => ∃ k : Nat, k ≤ q ∧ i = .int .i64 k ∧ Hid (LkS base p d c0 at0 q w wr B k)) (fun _ i _ _ _ _ _ _ _ _ _ _ _ _ _ _ _ => q - (intOf i).toNat)
  case atStart => exact ⟨0, Nat.zero_le _, rfl, HS0⟩
  case round =>
    obtain ⟨k, hk, rfl, HK⟩ := hrel
    clear HS0
    by_cases hlt : k < q
    · have i1 : (0 : Int) ≤ (k : Int) := Int.natCast_nonneg _
      have i2 : (k : Int) < (q : Int) := by omega
      obtain ⟨c, hc1, hc2⟩ := HK.out.dev
      have HO := Lib.hid (read_any base p (opD d c) ((at0 : Int) + (k : Int)) wr hc2 (by show c ≤ _; have := HOP.out.1; omega) (by show d.W.length ≤ _; have := HOP.out.2.1; omega))
      have HLT := Lib.hid hlt
      have HCB := Lib.hid (And.intro hc1 hc2)
      clear hlt hc1 hc2
      go_wp2_with fail
      refine HO.out.mono ?_
      rintro e w5 ⟨u, rfl, r1, r2, r3⟩
      obtain ⟨A5, C5, rfl⟩ := own_slice r2
      have HNX := Lib.hid (HK.out.next HFT.out HLT.out HCB.out.1 HCB.out.2 r1 r2 r3)
      have hf : ∀ i, Foot p (opD d c) i → i < w.heap.size := fun i hi => HFT.out i ((foot_n (d := d) (d' := opD d c) rfl).1 hi)
      obtain ⟨s, hs1, hs2⟩ := (HK.out.row.ch r3 hf).row
      have c1 := hs1.cell (i := k) HLT.out
      have f1 := hs1.frozen k
      have hlt := HLT.out
      obtain ⟨E, hE⟩ : ∃ E, E = readE (opD d c) ((at0 : Int) + (k : Int)) := ⟨_, rfl⟩
      have eM : rdL d at0 k = readL (opD d c) ((at0 : Int) + (k : Int)) := rfl
      obtain ⟨M, hM⟩ : ∃ M, M = readL (opD d c) ((at0 : Int) + (k : Int)) := ⟨_, rfl⟩
      rw [← hE, ← hM]
      rw [← hM] at HNX
      clear r1 r2 r3 hs1 hs2 hE HO hf hM eM
      go_wp2
      go_roundw
      case rel => exact ⟨k + 1, HLT.out, by go_num, HNX⟩
      case measure => have := HLT.out; simp [intOf]; omega
    · obtain rfl : k = q := by omega
      obtain ⟨c, hc1, hc2⟩ := HK.out.dev
      have HFIN : Hid (LkPost base p d c0 at0 k w (.returned (.slice (some ⟨B, 0, none⟩) k k)) wr) := Lib.hid ⟨B, c, rfl, (HK.out.row.congr fun c hc => ⟨(if_pos hc : toN (rdL d at0) k c = rdL d at0 c), (if_pos hc : toZ (rdZ d at0) k c = rdZ d at0 c)⟩).mat (by have := HOP.out.2.2; omega), hc1, hc2, HK.out.ch⟩
      clear hc1 hc2
      go_wp2
      go_ret
      exact HFIN.out
end Go.Proofs.YtlbdopcchoklhaaGreat
