/-
  law11.appended, walked, where other blocks of one's own are to stay. The chapter's example of layer 11 (awake), walked. law11.awake, walked. The document's word, fits (quartermasterref11), walked.
-/
import Derived.Test.YteleknojohnlbaaGreatMc40
import Derived.BigQuiet
import Derived.Lib.SlBytesConst
import Derived.Test.YteleknojohnlbaaGreatMc31
namespace Go.Proofs.YteleknojohnlbaaGreat
open Go.RowKit
set_option linter.unusedVariables false
set_option maxRecDepth 100000
set_option linter.unusedSimpArgs false
structure AdX (w0 wb : World) (X0 : Nat → Prop) (B R : Nat) (s : AdS) (v : Value) (wr : World) : Prop where
  rg : RgW w0 (fun i => X0 i ∨ v.ownBlock = some i) B R s.d s.x wr
  out : OutW w0 wr v s.out
  keep : ∀ i, X0 i → wr.heap[i]? = wb.heap[i]?
  new : ∀ i, v.ownBlock = some i → wb.heap.size ≤ i
  sz : wb.heap.size ≤ wr.heap.size
def AdPostX (w0 wb : World) (X0 : Nat → Prop) (B R : Nat) (s : AdS) (e : Ending) (w' : World) : Prop := ∃ v, e = .returned (.tuple #[v, .bool s.ok]) ∧ AdX w0 wb X0 B R s v w'
set_option maxHeartbeats 6400000 in
theorem appendedX_any (w0 : World) (X0 : Nat → Prop) (B R : Nat) (d : Dev) (x : Rg) (A : Option Addr) (m C t : Nat) (N : Nat → Nat) (Z : Nat → Nat → Nat) (w : World) (h : RgW w0 X0 B R d x w) (hx : RgOk x) (hL : BsV w0 A m C N Z) (hm : m ≤ 12) (hl : Lim d t) (hlm : LimM d t) (ht : t + 1664 * 12 ≤ 890000) :
    Calls Tryz.prog 27 #[.pointer (some ⟨R, 0, none⟩), .slice A m C] w (AdPostX w0 w X0 B R (adTo ⟨d, x, [], true⟩ (rowsL N Z m))) := by
  obtain ⟨L, hLe⟩ : ∃ L, L = rowsL N Z m := ⟨_, rfl⟩
  have hLl : L.length = m := by rw [hLe]; exact rowsL_len N Z m
  have HLB : Hid (∀ B ∈ L, ∀ c ∈ B, c < 256) := Lib.hid (by rw [hLe]; exact rowsL_b hL)
  have HTK : Hid (∀ k, k < m → L.take (k + 1) = L.take k ++ [rowL (N k) (Z k)]) := Lib.hid fun k hk => by rw [hLe]; exact rowsL_take hk
  have HLM := Lib.hid (fun k => ad_lim (s := ⟨d, x, [], true⟩) hl hlm (L.take k))
  have HOK := Lib.hid (fun k => ad_ok (s := ⟨d, x, [], true⟩) hx (L.take k) (fun B hB => HLB.out B (List.mem_of_mem_take hB)))
  have HLL := Lib.hid hLl
  have HL := Lib.hid hL
  have HS0 : Hid (AdX w0 w X0 B R (adTo ⟨d, x, [], true⟩ (L.take 0)) (.slice none 0 0) w) := Lib.hid ⟨h.own (Ch.refl (fun _ => False) _) (fun _ f => f.elim) (fun i e => e.elim Or.inl (fun e => by cases e)), OutW.start w0 w, fun i _ => rfl, (fun i e => by cases e), Nat.le_refl _⟩
  have HX0 := Lib.hid h.lt
  have HM := Lib.hid hm
  have HT := Lib.hid ht
  rw [← hLe]
  clear hLe hLl h hx hL hm hl hlm ht
  go_enter Tryz.func27, Tryz.ntmps27
  go_wp2
  go_loopw [6, 7, 8, 9, 10, 11, 12, 13, 14, 15, 16, 17, 18, 19, 20, 21, 22, 23, 24, 25, 26, 27, 28, 29, 30, 31, 32, 33, 34, 35, 36] (fun v i _ _ _ _ _ _ _ _ _ _ _ _ _ _ _ _ _ _ _ _ _ _ _ _ _ _ _ _ _ wr => ∃ k : Nat, k ≤ m ∧ i = .int .i64 k ∧ Hid (AdX w0 w X0 B R (adTo ⟨d, x, [], true⟩ (L.take k)) v wr) ∧ Hid ((adTo ⟨d, x, [], true⟩ (L.take k)).ok = true ∧ (adTo ⟨d, x, [], true⟩ (L.take k)).out.length ≤ k)) (fun _ i _ _ _ _ _ _ _ _ _ _ _ _ _ _ _ _ _ _ _ _ _ _ _ _ _ _ _ _ _ _ => m - (intOf i).toNat)
  case atStart => exact ⟨0, Nat.zero_le _, rfl, HS0, Lib.hid ⟨rfl, Nat.le_refl _⟩⟩
  case round =>
    obtain ⟨k, hk, rfl, HK, HOO⟩ := hrel
    clear HS0
    obtain ⟨Av, Cv, rfl⟩ := HK.out.out.len
    by_cases hlt : k < m
    · have i1 : (0 : Int) ≤ (k : Int) := Int.natCast_nonneg _
      have i2 : (k : Int) < (m : Int) := by omega
      obtain ⟨b, o, rfl, hcs⟩ := HL.out.at' (by omega)
      obtain ⟨A', C', hc0, hr0⟩ := hcs k hlt
      have c1 := HK.out.rg.ch.cell hc0 (fun f => f)
      have HLT := Lib.hid hlt
      have hadd := adTo_snoc ⟨d, x, [], true⟩ (L.take k) (rowL (N k) (Z k))
      rw [← HTK.out k hlt] at hadd
      have hlim := HLM.out k
      have hlen : (L.take k).length = k := by rw [List.length_take, HLL.out]; omega
      rw [hlen] at hlim
      have hokx := HOK.out k
      have hcut := ad_cut (s := ⟨d, x, [], true⟩) (L := L) (k := k + 1)
      have HNO := Lib.hid (HOO.out)
      obtain ⟨s, hs⟩ : ∃ s, s = adTo ⟨d, x, [], true⟩ (L.take k) := ⟨_, rfl⟩
      rw [← hs] at hadd hlim hokx HK HNO ⊢
      obtain ⟨bt, hbt⟩ : ∃ bt, bt = rowL (N k) (Z k) := ⟨_, rfl⟩
      have hbl : N k = bt.length := by rw [hbt, rowL_len']
      have hlit := row_lit hr0
      have hbb := rowL_b hr0.bytes
      rw [← hbt] at hadd hlit hbb
      have hlow := hr0.low
      rw [hbl] at hr0 hlow c1 hc0
      have HC0 := Lib.hid hc0
      have HA := Lib.hid (HK.out.rg.append (Bt := bt) (t := t + 1664 * k) rfl hokx (by rw [hbl] at hlit; exact hlit.gr HK.out.rg.ch) hbb (hlow.mono fun i q => q.1) hlim.1 hlim.2 (by have := HT.out; have := HM.out; omega))
      rw [hbl] at hlit
      have HADD := Lib.hid hadd
      have HCUT := Lib.hid hcut
      have HLIT := Lib.hid hlit
      have HBB := Lib.hid hbb
      clear hcs hc0 hr0 hadd hlim hlen hokx hcut hs hbt hbl hlit hbb hlow hlt HOO
      go_wp2_with fail
      refine HA.out.mono ?_
      rintro e w2 ⟨rfl, h2, hc2⟩
      have HO2 : Hid (OutW w0 w2 (.slice Av s.out.length Cv) s.out) := Lib.hid (HK.out.out.ch hc2 fun i hi q => q.2 (Or.inr hi))
      have HKP2 : Hid ((∀ i, X0 i → w2.heap[i]? = w.heap[i]?) ∧ w.heap.size ≤ w2.heap.size) := Lib.hid ⟨fun i hi => (hc2.block i (HK.out.rg.lt i (Or.inl hi)) (fun q => q.2 (Or.inl hi))).trans (HK.out.keep i hi), Nat.le_trans HK.out.sz hc2.size⟩
      have HNW2 := Lib.hid HK.out.new
      have HR2 := Lib.hid h2
      obtain ⟨Ew, hEw⟩ : ∃ Ew, Ew = (appS s.x bt s.d).e := ⟨_, rfl⟩
      rw [← hEw]
      have HEW := Lib.hid hEw
      clear hc2 h2 HA hEw
      by_cases h4 : Ew = 4
      · subst h4
        have HN2 : Hid (AdX w0 w X0 B R (adTo ⟨d, x, [], true⟩ (L.take (k + 1))) (.slice Av s.out.length Cv) w2 ∧ ((adTo ⟨d, x, [], true⟩ (L.take (k + 1))).ok = true ∧ (adTo ⟨d, x, [], true⟩ (L.take (k + 1))).out.length ≤ k + 1)) := Lib.hid (by
          rw [HADD.out]
          unfold adStep
          rw [if_pos HNO.out.1, if_pos (by rw [← HEW.out]; exact Or.inl rfl)]
          exact ⟨⟨HR2.out, HO2.out, HKP2.out.1, HNW2.out, HKP2.out.2⟩, rfl, Nat.le_succ_of_le HNO.out.2⟩)
        have hlt2 := HLT.out
        have hm12 := HM.out
        go_wp2
        go_roundw
        case rel => exact ⟨k + 1, HLT.out, by go_num, Lib.hid HN2.out.1, Lib.hid HN2.out.2⟩
        case measure => have := HLT.out; simp [intOf]; omega
      by_cases h2 : Ew = 2
      · subst h2
        have HN2 : Hid (AdX w0 w X0 B R (adTo ⟨d, x, [], true⟩ (L.take (k + 1))) (.slice Av s.out.length Cv) w2 ∧ ((adTo ⟨d, x, [], true⟩ (L.take (k + 1))).ok = true ∧ (adTo ⟨d, x, [], true⟩ (L.take (k + 1))).out.length ≤ k + 1)) := Lib.hid (by
          rw [HADD.out]
          unfold adStep
          rw [if_pos HNO.out.1, if_pos (by rw [← HEW.out]; exact Or.inr rfl)]
          exact ⟨⟨HR2.out, HO2.out, HKP2.out.1, HNW2.out, HKP2.out.2⟩, rfl, Nat.le_succ_of_le HNO.out.2⟩)
        have hlt2 := HLT.out
        have hm12 := HM.out
        go_wp2
        go_roundw
        case rel => exact ⟨k + 1, HLT.out, by go_num, Lib.hid HN2.out.1, Lib.hid HN2.out.2⟩
        case measure => have := HLT.out; simp [intOf]; omega
      have hne : ¬ ((appS s.x bt s.d).e = 4 ∨ (appS s.x bt s.d).e = 2) := by rw [← HEW.out]; exact fun q => q.elim h4 h2
      by_cases h0 : Ew = 0
      · subst h0
        obtain ⟨g, cap, w3, hr3, ho3, hc3, hg3⟩ := HO2.out.app (u := .slice A' bt.length C') ⟨_, _, _, rfl⟩ HLIT.out HBB.out (by have := HNO.out.2; have := HM.out; have := HLT.out; omega) HR2.out.ch.size
        have hrg3 : RgW w0 (fun i => X0 i ∨ (Value.slice (some ⟨g, 0, none⟩) (s.out.length + 1) cap).ownBlock = some i) B R (appS s.x bt s.d).d (appS s.x bt s.d).x w3 := HR2.out.own hc3 (fun i hi => ⟨Or.inr hi, (HO2.out.at hi).1⟩) (fun i e => by
          rcases e with e | e
          · exact Or.inl (Or.inl e)
          · have e : some g = some i := e
            injection e with e
            subst e
            exact hg3.imp Or.inr id)
        have hkp3 : ∀ i, X0 i → w3.heap[i]? = w.heap[i]? := fun i hi => (hc3.block i (HR2.out.lt i (Or.inl hi)) (fun e => by have := HNW2.out i e; have := HX0.out i hi; omega)).trans (HKP2.out.1 i hi)
        have hnw3 : ∀ i, (Value.slice (some ⟨g, 0, none⟩) (s.out.length + 1) cap).ownBlock = some i → w.heap.size ≤ i := fun i e => by
          have e : some g = some i := e
          injection e with e
          subst e
          rcases hg3 with q | q
          · exact HNW2.out _ q
          · exact Nat.le_trans HKP2.out.2 q.1
        have hsz3 := Nat.le_trans HKP2.out.2 hc3.size
        obtain ⟨q, hq⟩ : ∃ q, q = s.out.length + 1 := ⟨_, rfl⟩
        have HN2 : Hid (AdX w0 w X0 B R (adTo ⟨d, x, [], true⟩ (L.take (k + 1))) (.slice (some ⟨g, 0, none⟩) q cap) w3 ∧ ((adTo ⟨d, x, [], true⟩ (L.take (k + 1))).ok = true ∧ (adTo ⟨d, x, [], true⟩ (L.take (k + 1))).out.length ≤ k + 1)) := Lib.hid (by
          rw [HADD.out, hq]
          unfold adStep
          rw [if_pos HNO.out.1, if_neg hne, if_pos HEW.out.symm]
          refine ⟨⟨hrg3, ho3, hkp3, hnw3, hsz3⟩, rfl, ?_⟩
          show (s.out ++ [bt]).length ≤ k + 1
          rw [List.length_append]
          have := HNO.out.2
          simp only [List.length_cons, List.length_nil]
          omega)
        obtain ⟨ws, hws⟩ : ∃ ws, ws = w2.alloc (.cells #[.slice A' bt.length C'] /-t-/24) := ⟨_, rfl⟩
        obtain ⟨Xs, hXs⟩ : ∃ Xs, Xs = w2.heap.size := ⟨_, rfl⟩
        obtain ⟨p0, hp0⟩ : ∃ p0, p0 = s.out.length := ⟨_, rfl⟩
        rw [← hq, ← hws, ← hXs, ← hp0] at hr3
        rw [← hp0]
        have HAP := Lib.hid hr3
        have HWS := Lib.hid hws
        have HXS := Lib.hid hXs
        have c2 := HR2.out.ch.cell HC0.out (fun f => f)
        have hlt2 := HLT.out
        have hm12 := HM.out
        obtain ⟨nb, hnb⟩ : ∃ nb, nb = bt.length := ⟨_, rfl⟩
        rw [← hnb] at c2 HWS ⊢
        clear hkp3 hnw3 hsz3 hr3 ho3 hc3 hg3 hrg3 hws hXs hp0 hq hne h4 h2 hnb
        go_wp2_with (first
          | (at_builtin; rw [← HWS.out, ← HXS.out]; refine wpList_appB _ rfl (.tmp 30) (.tmp 35) rfl rfl _ _ (.slice (some ⟨g, 0, none⟩) q cap) w3 rfl rfl (by exact HAP.out) ?_)
          | fail)
        go_roundw
        case rel => exact ⟨k + 1, HLT.out, by go_num, Lib.hid HN2.out.1, Lib.hid HN2.out.2⟩
        case measure => have := HLT.out; simp [intOf]; omega
      · have HFIN : Hid (AdPostX w0 w X0 B R (adTo ⟨d, x, [], true⟩ L) (.returned (.tuple #[.slice Av s.out.length Cv, .bool false])) w2) := Lib.hid (by
          have hst : adTo ⟨d, x, [], true⟩ (L.take (k + 1)) = ⟨(appS s.x bt s.d).d, (appS s.x bt s.d).x, s.out, false⟩ := by
            rw [HADD.out]
            unfold adStep
            rw [if_pos HNO.out.1, if_neg hne, if_neg (by rw [← HEW.out]; exact h0)]
          have := HCUT.out (by rw [hst])
          rw [this, hst]
          exact ⟨_, rfl, HR2.out, HO2.out, HKP2.out.1, HNW2.out, HKP2.out.2⟩)
        clear hne
        have hb4 : (Ew == 4) = false := beq_eq_false_iff_ne.2 h4
        have hb2 : (Ew == 2) = false := beq_eq_false_iff_ne.2 h2
        go_wp2
        all_goals first | (exfalso; rename_i hq; rcases hq with hq | hq <;> first | exact h4 (eq_of_beq hq) | exact h2 (eq_of_beq hq)) | skip
        go_ret2
        exact HFIN.out
    · obtain rfl : k = m := by omega
      have hall : L.take k = L := List.take_of_length_le (by rw [HLL.out]; exact Nat.le_refl _)
      have hok := HOO.out.1
      have hkk := HK.out
      rw [hall] at hok hkk ⊢
      have HFIN : Hid (AdPostX w0 w X0 B R (adTo ⟨d, x, [], true⟩ L) (.returned (.tuple #[.slice Av (adTo ⟨d, x, [], true⟩ L).out.length Cv, .bool true])) wr) := Lib.hid ⟨.slice Av (adTo ⟨d, x, [], true⟩ L).out.length Cv, by rw [hok], hkk⟩
      clear hlt hk hall hok hkk
      go_wp2
      go_ret2
      exact HFIN.out
end Go.Proofs.YteleknojohnlbaaGreat
namespace Go.Proofs.YteleknojohnlbaaGreat
open Go.RowKit
set_option linter.unusedVariables false
set_option maxRecDepth 100000
set_option linter.unusedSimpArgs false
def flR (a : Int) : Fa := ⟨3, a, 0, 0, 0, 0, 0, 0, 0⟩
theorem flR_ok {a : Int} (h : I64 a) : FaOk (flR a) := by
  have z : I64 0 := by unfold I64; omega
  have b : (0 : Nat) < 256 := by decide
  exact ⟨by unfold I64 flR; simp only; omega, h, z, z, z, b, b, b, b⟩
theorem lose_fin {N : Nat} {d : Dev} (h : Fine N d) {k : Nat} (hk : k < N) : faultD d (flR (k : Int)) = { d with lost := up d.lost k true } := by
  have hb : hasB d (k : Int) = true := decide_eq_true (by rw [h.qt.n]; omega)
  have e : faultD d (flR (k : Int)) = loseD d ((k : Int)).toNat := by
    unfold faultD
    rw [show hasB d (flR (k : Int)).pl = true from hb]
    rfl
  rw [e, Int.toNat_natCast]
  unfold loseD settleD
  rw [h.qt.W]
  obtain ⟨n, has, lost, drops, miss, W, dead, armed, left, ops⟩ := d
  have hW : W = [] := h.qt.W
  subst hW
  rfl
def setBad (C : Nat → Nat → Ct) (c0 s0 : Nat) (c s : Nat) : Ct := if c = c0 ∧ s = s0 then .bad else C c s
theorem lose_log {vol : Int} {g : Gn} {N : Nat} {d : Dev} {C : Nat → Nat → Ct} (hN : 4 + 2 * g.W ≤ N) (h : Fine N d) (hL : DevL vol g d C) {c0 s0 : Nat} (hc0 : c0 < 2) (hs0 : s0 < g.W) : Fine N (faultD d (flR (adN g c0 s0 : Int))) ∧ DevL vol g (faultD d (flR (adN g c0 s0 : Int))) (setBad C c0 s0) := by
  rw [lose_fin h (adN_lt hc0 hs0 hN)]
  refine ⟨⟨⟨h.qt.n, h.qt.dead, h.qt.armed, h.qt.W⟩, h.drops, h.miss⟩, fun c s hc hs => ?_⟩
  unfold setBad
  by_cases q : c = c0 ∧ s = s0
  · rw [if_pos q]
    obtain ⟨rfl, rfl⟩ := q
    exact Or.inl (up_same _ _ _)
  · rw [if_neg q]
    exact (hL c s hc hs).same rfl (up_other _ _ fun e => q (adN_inj hc hc0 hs hs0 e))
def awG : Gn := ⟨8, 1, 2, 1⟩
theorem awG_ok : awG.Ok := ⟨by decide, by decide, by decide, by decide, by decide, by decide, by decide, by decide⟩
def awX (B : Nat) : Rg := rgOf B 7 awG.ge 1 0 0 0
theorem awX_ok (B : Nat) : RgOk (awX B) := ⟨by rfl, by show (0 : Int) ≤ 7 ∧ (7 : Int) ≤ _; omega, by show (0 : Int) ≤ 1 ∧ (1 : Int) ≤ _; omega, by show (0 : Int) ≤ 0 ∧ (0 : Int) ≤ 0; omega, by show (0 : Int) ≤ 0 ∧ (0 : Int) ≤ _; omega, by show (0 : Int) ≤ _; omega, by show (0 : Int) ≤ 0 ∧ (0 : Int) ≤ 0; omega⟩
def abcL : List Nat := [97, 98, 99]
def zerL : List Nat := List.replicate 450 0
theorem zer_len : zerL.length = 450 := List.length_replicate
theorem zer_b : ∀ c ∈ zerL, c < 256 := fun c hc => by rw [(List.mem_replicate.1 hc).2]; omega
theorem abc_b : ∀ c ∈ abcL, c < 256 := by decide
def aw1 (B : Nat) : ApS := appS (awX B) abcL (bkD 7 26)
def aw2 (B : Nat) : ApS := appS (aw1 B).x zerL (aw1 B).d
def aw3 (B : Nat) : Dev := faultD (aw2 B).d (flR 6)
structure AwS (B : Nat) (D : Nat → Nat → Ct) (T : List (List Pn)) : Prop where
  e1 : (aw1 B).e = 0
  e2 : (aw2 B).e = 0
  ok1 : RgOk (aw1 B).x
  next : (aw2 B).x.next = 4
  fine : Fine 26 (aw3 B)
  log : DevL 7 awG (aw3 B) D
  told : ∀ m : Mi, LogM m D → m.vol = 7 → m.g = awG → allI m 0 0 = (T.flatten, false) ∧ tailR (sumM m) T.flatten 0 0 = ⟨[abcL, zerL], 4, (aw2 B).x.chain⟩
  ep : epR T.flatten = 1
theorem epR_end {P : List Pn} {a : Pn} (h : P ≠ []) : epR P = (endA a P).ep := by
  have key : ∀ (P : List Pn) (a : Pn), P ≠ [] → P[P.length - 1]? = some (endA a P) := by
    intro P
    induction P with
    | nil => intro a h; exact absurd rfl h
    | cons p P ih =>
      intro a _
      cases P with
      | nil => rfl
      | cons q P =>
        have := ih p (by simp)
        show (p :: q :: P)[(q :: P).length]? = some (endA p (q :: P))
        rw [show (q :: P).length = ((q :: P).length - 1) + 1 by simp, List.getElem?_cons_succ]
        exact this
  unfold epR
  rw [key P a h]
theorem aw_all (B : Nat) : ∃ D T, AwS B D T := by
  have hN : 4 + 2 * awG.W ≤ 26 := by decide
  obtain ⟨f0, _, _⟩ := bk_fine 7 26
  have l0 := bk_start (vol := 7) awG_ok hN (awX_ok B) rfl rfl (st := 0) rfl rfl
  obtain ⟨C1, d1, a1, f1, l1⟩ := l0.app awG_ok hN f0 abc_b (by rfl)
  have c1 : cntR abcL.length = 1 := rfl
  have n1 : cntN abcL.length = 1 := rfl
  rw [c1, n1] at a1 l1
  have e1 : aw1 B = ⟨d1, ringTo 1 abcL (awX B) 1, 0⟩ := a1
  have r1 := ring_to 1 abcL (awX B) 1
  have c2 : cntR zerL.length = 3 := by rw [zer_len]; rfl
  have n2 : cntN zerL.length = 3 := by rw [zer_len]; rfl
  have h2 : apE0 (ringTo 1 abcL (awX B) 1) zerL.length = 0 := by
    unfold apE0
    rw [c2, r1.g, r1.next, r1.start]
    rfl
  obtain ⟨C2, d2, a2, f2, l2⟩ := l1.app awG_ok hN f1 zer_b h2
  rw [c2, n2] at a2 l2
  have e2 : aw2 B = ⟨d2, ringTo 3 zerL (ringTo 1 abcL (awX B) 1) 3, 0⟩ := by unfold aw2; rw [e1]; exact a2
  have r2 := ring_to 3 zerL (ringTo 1 abcL (awX B) 1) 3
  have hx2 : (aw2 B).x = ringTo 3 zerL (ringTo 1 abcL (awX B) 1) 3 := by rw [e2]
  have hd2 : (aw2 B).d = d2 := by rw [e2]
  have hfl : (([] : List (List Pn)).flatten ++ txP 1 abcL (awX B) 1) ++ txP 3 zerL (ringTo 1 abcL (awX B) 1) 3 = [txP 1 abcL (awX B) 1, txP 3 zerL (ringTo 1 abcL (awX B) 1) 3].flatten := by simp
  rw [hfl] at l2
  have hn4 : (aw2 B).x.next = 4 := by
    rw [hx2, r2.next, r1.next]
    rfl
  have hls := lose_log (c0 := 0) (s0 := 2) hN f2 l2.dev (by omega) (by decide)
  have h6 : (adN awG 0 2 : Int) = 6 := rfl
  rw [h6, ← hd2] at hls
  refine ⟨setBad C2 0 2, [txP 1 abcL (awX B) 1, txP 3 zerL (ringTo 1 abcL (awX B) 1) 3], by rw [e1], by rw [e2], by rw [e1]; exact l1.ok, hn4, hls.1, hls.2, ?_, ?_⟩
  · intro m hm hv hg
    have hT : ∀ t ∈ [txP 1 abcL (awX B) 1, txP 3 zerL (ringTo 1 abcL (awX B) 1) 3], GoodTx t := fun t ht => by
      rcases List.mem_cons.1 ht with rfl | ht
      · exact txP_good (k := 1) (by omega)
      · rw [List.mem_singleton.1 ht]
        exact txP_good (k := 3) (by omega)
    obtain ⟨t1, t2⟩ := told_left (st := 0) l2 awG_ok hT (D := setBad C2 0 2) ⟨fun c s _ _ => by
      unfold setBad
      by_cases q : c = 0 ∧ s = 2
      · rw [if_pos q]; exact Or.inr rfl
      · rw [if_neg q]; exact Or.inl rfl⟩ (fun s _ => Or.inr (by unfold setBad; rw [if_neg (by omega)])) hm hv hg
    refine ⟨t1, t2.trans ?_⟩
    rw [← hx2, hn4]
    have j1 : joinP (txP 1 abcL (awX B) 1) = abcL := txP_all 1 abcL (awX B)
    have j2 : joinP (txP 3 zerL (ringTo 1 abcL (awX B) 1) 3) = zerL := by
      have := txP_all 3 zerL (ringTo 1 abcL (awX B) 1)
      rw [n2] at this
      exact this
    rw [List.map_cons, List.map_cons, List.map_nil, j1, j2]
  · rw [epR_end (a := pn0)]
    · rw [List.flatten_cons, List.flatten_cons, List.flatten_nil, List.append_nil, endA_app]
      have : ∀ a, endA a (txP 3 zerL (ringTo 1 abcL (awX B) 1) 3) = apQ 3 zerL (ringTo 3 zerL (ringTo 1 abcL (awX B) 1) 2) 2 := fun a => txP_endA (k := 2)
      rw [this]
      show (ringTo 3 zerL (ringTo 1 abcL (awX B) 1) 2).ep = 1
      rw [(ring_to 3 zerL _ 2).ep, r1.ep]
      rfl
    · intro e
      have := congrArg List.length e
      rw [← hfl, List.length_append, txP_len] at this
      simp at this
end Go.Proofs.YteleknojohnlbaaGreat
namespace Go.Proofs.YteleknojohnlbaaGreat
open Go.RowKit
set_option linter.unusedVariables false
set_option maxRecDepth 100000
set_option linter.unusedSimpArgs false
theorem rnext_same (R : Nat) (x : Rg) (w : World) (h : RgIs w R x) : Calls Tryz.prog 30 #[.pointer (some ⟨R, 0, none⟩)] w fun e w' => e = .returned (.int .i64 x.next) ∧ w = w' := by
  have x9 : w.cell? ⟨R, 9, none⟩ = some (.int .i64 x.next) := blk_cell h
  clear h
  go_enter Tryz.func30, Tryz.ntmps30
  go_wp2
  go_ret
  exact ⟨ret_int rfl, rfl⟩
theorem rchain_same (R : Nat) (x : Rg) (w : World) (h : RgIs w R x) : Calls Tryz.prog 31 #[.pointer (some ⟨R, 0, none⟩)] w fun e w' => e = .returned (.int .i64 x.chain) ∧ w = w' := by
  have x10 : w.cell? ⟨R, 10, none⟩ = some (.int .i64 x.chain) := blk_cell h
  clear h
  go_enter Tryz.func31, Tryz.ntmps31
  go_wp2
  go_ret
  exact ⟨ret_int rfl, rfl⟩
theorem quR {P : Program} {f : FuncId} {args : Array Value} {w : World} {k : Nat} {v : Value} (h : Calls P f args (w.drewN k) fun e w' => e = .returned v ∧ w.drewN k = w') : Calls P f args (w.drewN k) fun e w' => e = .returned v ∧ ∃ m, w' = w.drewN m :=
  h.mono fun _ _ ⟨he, hm⟩ => ⟨he, k, hm.symm⟩
theorem built_flR (a : Int) (w : World) : (Instr.build 48 #[(0, .int .i64 3), (1, .int .i64 a)]).run Tryz.prog w = .ok (.agg (faC (flR a))) w := run_build w _ _ _ (by kernel_rfl)
theorem aw_lims (B : Nat) : (Lim (bkD 7 26) 26 ∧ LimM (bkD 7 26) 26) ∧ (Lim (aw1 B).d 1690 ∧ LimM (aw1 B).d 1690) ∧ (Lim (aw2 B).d 3354 ∧ LimM (aw2 B).d 3354) ∧ Lim (aw3 B) 3355 := by
  have h0 := bkD_lims 7 26
  have h1 := appS_lim (x := awX B) (B := abcL) h0.1 h0.2
  have h2 := appS_lim (x := (aw1 B).x) (B := zerL) h1.1 h1.2
  exact ⟨h0, h1, h2, ((near_fault (aw2 B).d (flR 6)).lim h2.1 h2.2).1⟩
theorem abc_row (w : World) : RowV (w.alloc (.cells #[.int .u8 97, .int .u8 98, .int .u8 99] /-t-/5 (3, 4))) (.slice (some ⟨w.heap.size, 0, none⟩) 3 3) 3 (Cod.litZ abcL) := lit_row w [97, 98, 99] 3 (3, 4) rfl (by decide) (by omega)
theorem zer_row (w : World) : RowV (w.alloc (.cells (madeCells #[.int .u8 0] 450) /-t-/5)) (.slice (some ⟨w.heap.size, 0, none⟩) 450 450) 450 (Cod.litZ zerL) := by
  refine rowIs_rowV ((World.rowIs_made w (.int .u8 0) 450 /-t-/5).congr fun i hi => ?_) (by omega) (fun c hc => ?_)
  · have : Cod.litZ zerL i = 0 := by unfold Cod.litZ zerL; rw [List.getD_eq_getElem?_getD, List.getElem?_replicate]; split <;> rfl
    rw [this]; rfl
  · have : Cod.litZ zerL c = 0 := by unfold Cod.litZ zerL; rw [List.getD_eq_getElem?_getD, List.getElem?_replicate]; split <;> rfl
    rw [this]; omega
theorem two_rows {M : List Bv} {a b : List Nat} (h : M.map Bv.B = [a, b]) : ∃ m0 m1, M = [m0, m1] ∧ m0.B = a ∧ m1.B = b := by
  cases M with
  | nil => cases h
  | cons m0 M =>
    cases M with
    | nil => cases h
    | cons m1 M =>
      cases M with
      | nil => injection h with h1 h2; injection h2 with h2 _; exact ⟨m0, m1, rfl, h1, h2⟩
      | cons m2 M => cases h
theorem fol_ok {m : Mi} {start : Nat} {chain : Int} {w w' : World} {e : Ending} {P : List Pn} {tl : Tl} {ep : Int} (h : FolPost m start chain w e w') (h1 : allI m start chain = (P, false)) (h2 : tailR (sumM m) P (start : Int) chain = tl) (h3 : epR P = ep) : ∃ V, e = .returned (.tuple #[V, .int .i64 0]) ∧ TailV w w' tl ep V ∧ Ch (fun _ => False) w w' := by
  obtain ⟨V, rfl, hV, hc⟩ := h
  rw [h1] at hV ⊢
  refine ⟨V, rfl, ?_, hc⟩
  have hV' : TailV w w' (tailR (sumM m) P (start : Int) chain) (epR P) V := hV
  rw [h2, h3] at hV'
  exact hV'
theorem aw1_def (B : Nat) : appS (awX B) abcL (bkD 7 26) = aw1 B := rfl
theorem aw2_def (B : Nat) : appS (aw1 B).x zerL (aw1 B).d = aw2 B := rfl
set_option maxHeartbeats 12800000 in
set_option maxRecDepth 100000 in
theorem rawake_any (w : World) : Calls Tryz.prog 11 #[] w (Ans (.bool true) w) := by
  have hG8 : (#[.int .i64 8, .int .i64 1, .int .i64 2, .int .i64 1] : Array Value) = geC awG.ge := rfl
  obtain ⟨w1, H, hR⟩ := geR w awG.ge
  have hal := hR.al
  have hsz := hR.sz
  have HR := Lib.hid hR
  have HBK := Lib.hid ((lawBlank_any 7 awG.ge w1 ⟨by omega, by omega⟩))
  have HG8 := Lib.hid hG8
  clear hR hG8
  go_enter Tryz.func11, Tryz.ntmps11
  go_wp2_with fail
  rw [HG8.out, hal]
  refine HBK.out.mono ?_
  rintro e w2 hb
  obtain ⟨B, rfl, hO⟩ := hb.2 awG rfl rfl
  have hO : One w1 B (bkD 7 26) w2 := hO
  have HO := Lib.hid hO
  have HX : Hid (∀ wx, Ch (fun _ => False) w1 wx → GeX wx H awG.ge) := Lib.hid fun wx k => HR.out.x.gr k
  have x0 : w2.cell? ⟨H, 0, none⟩ = some (.int .i64 8) := (HX.out w2 hO.ch).x0
  have x1 : w2.cell? ⟨H, 1, none⟩ = some (.int .i64 1) := (HX.out w2 hO.ch).x1
  have x2 : w2.cell? ⟨H, 2, none⟩ = some (.int .i64 2) := (HX.out w2 hO.ch).x2
  have x3 : w2.cell? ⟨H, 3, none⟩ = some (.int .i64 1) := (HX.out w2 hO.ch).x3
  clear hal hsz hO hb HBK
  go_wp2_with fail
  rw [HG8.out]
  refine (rgNew_any B 7 awG.ge 1 0 0 0 w2).mono ?_
  rintro e w3 hn
  obtain ⟨R, rfl, hR1, hR2, hR3⟩ : ∃ R, e = .returned (.tuple #[.pointer (some ⟨R, 0, none⟩), .int .i64 0]) ∧ w2.heap.size ≤ R ∧ RgIs w3 R (awX B) ∧ Ch (fun _ => False) w2 w3 := hn
  have h3 := RgW.start HO.out hR3 hR2 hR1 rfl
  obtain ⟨w4, hw4⟩ : ∃ w4, w4 = w3.alloc (.cells #[.int .u8 97, .int .u8 98, .int .u8 99] /-t-/5 (3, 4)) := ⟨_, rfl⟩
  obtain ⟨b4, hb4⟩ : ∃ b4, b4 = w3.heap.size := ⟨_, rfl⟩
  have hc4 : Ch (fun _ => False) w3 w4 := by rw [hw4]; exact (Ch.refl _ w3).allocO _
  have hz4 : w4.heap.size = w3.heap.size + 1 := by rw [hw4]; exact Array.size_push _
  have h4 : RgW w1 (fun i => i = b4) B R (bkD 7 26) (awX B) w4 := h3.own hc4 (fun _ f => f.elim) (fun i e => Or.inr (by rw [e, hb4]; omega))
  have r4 : RowV w4 (.slice (some ⟨b4, 0, none⟩) 3 3) 3 (Cod.litZ abcL) := by rw [hw4, hb4]; exact abc_row w3
  have HA4 := Lib.hid (h4.append (Bt := abcL) (t := 26) rfl (awX_ok B) r4 abc_b (fun b o n C e q => q.2 (by injection e with e; injection e with e; injection e with e; exact e.symm)) (aw_lims B).1.1 (aw_lims B).1.2 (by omega))
  have HW4 := Lib.hid hw4
  have HB4 := Lib.hid hb4
  have kc := fun (w : World) (C : Array Value) (n c : Nat) => Lib.run_convert_bytes_const (P := Tryz.prog) w /-t-/24 /-t-/5 C n c Tryz.underlying24 Tryz.underlying5
  clear hR1 hR2 hR3 h3 hw4 hb4 hc4 hz4 h4 r4 x0 x1 x2 x3
  go_wp2_with fail
  rw [← HW4.out, ← HB4.out]
  refine HA4.out.mono ?_
  rintro e w5 ⟨rfl, h5, _⟩
  obtain ⟨D, T, hAW⟩ := aw_all B
  rw [aw1_def] at h5 ⊢
  rw [hAW.e1]
  have HAW := Lib.hid hAW
  have hmk : (Instr.makeSlice /-t-/24 (.int .i64 450) (.int .i64 450)).run Tryz.prog w5 = .ok (.slice (some ⟨w5.heap.size, 0, none⟩) 450 450) (w5.alloc (.cells (madeCells #[.int .u8 0] 450) /-t-/5)) := by
    obtain ⟨i0, hi, hz0, hz1, hz2⟩ := info_parts Tryz.info5
    have := run_make (P := Tryz.prog) w5 /-t-/24 /-t-/5 i0 (.int .u8 0) Tryz.underlying24 hi hz0 .i64 .i64 450 450 (by omega) (by omega) (by rw [hz2]; omega) (by omega)
    rw [hz1] at this
    exact this
  obtain ⟨w6, hw6⟩ : ∃ w6, w6 = w5.alloc (.cells (madeCells #[.int .u8 0] 450) /-t-/5) := ⟨_, rfl⟩
  obtain ⟨b6, hb6⟩ : ∃ b6, b6 = w5.heap.size := ⟨_, rfl⟩
  have hc6 : Ch (fun _ => False) w5 w6 := by rw [hw6]; exact (Ch.refl _ w5).alloc _ _
  have hz6 : w6.heap.size = w5.heap.size + 1 := by rw [hw6]; exact Array.size_push _
  have h6 : RgW w1 (fun i => i = b6) B R (aw1 B).d (aw1 B).x w6 := h5.own hc6 (fun _ f => f.elim) (fun i e => Or.inr (by rw [e, hb6]; omega))
  have r6 : RowV w6 (.slice (some ⟨b6, 0, none⟩) 450 450) 450 (Cod.litZ zerL) := by rw [hw6, hb6]; exact zer_row w5
  have HA6 := Lib.hid (h6.append (Bt := zerL) (t := 1690) zer_len.symm hAW.ok1 r6 zer_b (fun b o n C e q => q.2 (by injection e with e; injection e with e; injection e with e; exact e.symm)) (aw_lims B).2.1.1 (aw_lims B).2.1.2 (by omega))
  rw [← hw6, ← hb6] at hmk
  clear hAW h5 hw6 hb6 hc6 hz6 h6 r6 HA4 HW4 HB4
  go_wp2_with fail
  refine HA6.out.mono ?_
  rintro e w7 ⟨rfl, h7, _⟩
  rw [aw2_def] at h7 ⊢
  rw [HAW.out.e2]
  have hl7 := (aw_lims B).2.2.1
  obtain ⟨d7, hd7⟩ : ∃ d7, d7 = (aw2 B).d := ⟨_, rfl⟩
  have h3d : aw3 B = faultD d7 (flR 6) := by rw [hd7]; rfl
  rw [← hd7] at h7 hl7
  have hf6 : FaOk (flR 6) := flR_ok (by unfold I64; omega)
  have HF7 := Lib.hid (h7.call (d' := faultD d7 (flR 6)) (r := .int .i64 (faultE d7 (flR 6))) (F := 28) (args := #[.pointer (some ⟨B, 0, none⟩), .agg (faC (flR 6))]) fun p hp h => by
    subst hp
    exact fault_any _ p d7 (flR 6) 3354 w7 h hf6 hl7.1 hl7.2 (by omega))
  have HBT := Lib.hid (built_flR 6 w7)
  clear h7 hmk HA6 hl7 hf6
  go_wp2_with (first
    | ((with_reducible refine wpList_isOp (.build 48 #[(0, .const (.int .i64 3)), (1, .const (.int .i64 6))]) rfl ?_); refine wpList_building _ rfl 48 #[(0, .const (.int .i64 3)), (1, .const (.int .i64 6))] rfl _ (by exact HBT.out) ?_)
    | fail)
  refine HF7.out.mono ?_
  rintro e w8 ⟨rfl, h8, _⟩
  obtain ⟨fe, hfe⟩ : ∃ fe, fe = faultE d7 (flR 6) := ⟨_, rfl⟩
  rw [← hfe]
  rw [← h3d] at h8
  have HL8 := Lib.hid (h8.load awG_ok (t := 3355) (aw_lims B).2.2.2 (by omega))
  have x0 : w8.cell? ⟨H, 0, none⟩ = some (.int .i64 8) := (HX.out w8 h8.ch).x0
  have x1 : w8.cell? ⟨H, 1, none⟩ = some (.int .i64 1) := (HX.out w8 h8.ch).x1
  have x2 : w8.cell? ⟨H, 2, none⟩ = some (.int .i64 2) := (HX.out w8 h8.ch).x2
  have x3 : w8.cell? ⟨H, 3, none⟩ = some (.int .i64 1) := (HX.out w8 h8.ch).x3
  clear h8 hfe HF7 HBT hd7 h3d
  go_wp2_with fail
  rw [HG8.out]
  refine HL8.out.mono ?_
  rintro e w9 ⟨B0, B1, rfl, ha0, ha1, h9, _⟩
  have hmi : MiIs w9 (miOf 7 awG (aw3 B) (some ⟨B0, 0, none⟩) (some ⟨B1, 0, none⟩) awG.W awG.W) := mi_is awG_ok ⟨by omega, by omega⟩ ha0 ha1
  have hlm := logM_of HAW.out.fine.qt awG_ok (by decide) (show 0 ≤ (7 : Int) ∧ (7 : Int) ≤ 4294967295 by omega) HAW.out.log (some ⟨B0, 0, none⟩) (some ⟨B1, 0, none⟩) awG.W awG.W
  obtain ⟨m, hm⟩ : ∃ m, m = miOf 7 awG (aw3 B) (some ⟨B0, 0, none⟩) (some ⟨B1, 0, none⟩) awG.W awG.W := ⟨_, rfl⟩
  rw [← hm] at hmi hlm
  have hmA0 : m.A 0 = some ⟨B0, 0, none⟩ := by rw [hm]; rfl
  have hmA1 : m.A 1 = some ⟨B1, 0, none⟩ := by rw [hm]; rfl
  have hmC0 : m.C 0 = awG.W := by rw [hm]; rfl
  have hmC1 : m.C 1 = awG.W := by rw [hm]; rfl
  have hmv : m.vol = 7 := by rw [hm]; rfl
  have hmg : m.g = awG := by rw [hm]; rfl
  have hF9 := rfollow_yes m 0 0 w9 hmi (by omega) ⟨by omega, by omega⟩
  rw [hmA0, hmA1, hmC0, hmC1, hmv, hmg] at hF9
  have HF9 := Lib.hid hF9
  have HT9 := Lib.hid (HAW.out.told m hlm hmv hmg)
  clear hm hmA0 hmA1 hmC0 hmC1 hmv hmg hF9
  have H9 := Lib.hid h9
  have y0 : w9.cell? ⟨H, 0, none⟩ = some (.int .i64 8) := (HX.out w9 h9.ch).x0
  have y1 : w9.cell? ⟨H, 1, none⟩ = some (.int .i64 1) := (HX.out w9 h9.ch).x1
  have y2 : w9.cell? ⟨H, 2, none⟩ = some (.int .i64 2) := (HX.out w9 h9.ch).x2
  have y3 : w9.cell? ⟨H, 3, none⟩ = some (.int .i64 1) := (HX.out w9 h9.ch).x3
  clear ha0 ha1 h9 hmi hlm x0 x1 x2 x3 HL8
  go_wp2_with fail
  rw [HG8.out]
  refine HF9.out.mono ?_
  rintro e w10 hfol
  obtain ⟨V, rfl, hV, hc10⟩ := fol_ok hfol HT9.out.1 HT9.out.2 HAW.out.ep
  obtain ⟨A2, C2, M, rfl, hM, hRO⟩ := hV
  obtain ⟨m0, m1, rfl, hm0, hm1⟩ := two_rows hM
  have hrd := hRO.read (by show 2 ≤ _; omega)
  obtain ⟨b, o, rfl, hcs⟩ := hrd.at' (by show 0 < 2; omega)
  obtain ⟨hv0, _⟩ := hrd.rows m0 List.mem_cons_self
  obtain ⟨hv1, _⟩ := hrd.rows m1 (List.mem_cons_of_mem _ List.mem_cons_self)
  have q0 := hcs 0 m0 rfl 0 m0.V rfl
  have q1 := hcs 1 m1 rfl 0 m1.V rfl
  rw [show elB.B m0 = abcL from hm0] at hv0
  rw [show elB.B m1 = zerL from hm1] at hv1
  obtain ⟨A3, C3, e3, _⟩ := id hv0
  obtain ⟨A4, C4, e4, _⟩ := id hv1
  rw [show elB.V m0 = m0.V from rfl] at e3 hv0
  rw [show elB.V m1 = m1.V from rfl] at e4
  rw [e3] at q0 hv0
  rw [e4, zer_len] at q1
  have q0 : w10.cell? ⟨b, o, none⟩ = some (.slice A3 3 C3) := q0
  have q1 : w10.cell? ⟨b, o + 1, none⟩ = some (.slice A4 450 C4) := q1
  obtain ⟨cc, hcc⟩ : ∃ cc, cc = (aw2 B).x.chain := ⟨_, rfl⟩
  obtain ⟨v, hv⟩ : ∃ v, v = Value.slice (some ⟨b, o, none⟩) 2 C2 := ⟨_, rfl⟩
  obtain ⟨wz, wx, G, hVT⟩ := varTl ⟨[abcL, zerL], 4, cc⟩ 1 (v := v) ⟨_, _, _, hv⟩ w10
  have t0 : wx.cell? ⟨G, 0, none⟩ = some v := blk_cell hVT.cx
  have t1 : wx.cell? ⟨G, 1, none⟩ = some (.int .i64 4) := blk_cell hVT.cx
  have t2 : wx.cell? ⟨G, 2, none⟩ = some (.int .i64 cc) := blk_cell hVT.cx
  have t3 : wx.cell? ⟨G, 3, none⟩ = some (.int .i64 1) := blk_cell hVT.cx
  have q0 := hVT.ch.cell q0 (fun f => f)
  have q1 := hVT.ch.cell q1 (fun f => f)
  have hrw := hv0.gr hVT.ch
  have hcv : ∀ q, (convert /-t-/24 /-t-/9 (.slice A3 3 C3)).run Tryz.prog (wx.drewN q) = .ok (.string { data := #[97, 98, 99] }) (wx.drewN q) := fun q => row_text (hrw.drewN q)
  have hrg := (H9.out.gr hc10).gr hVT.ch
  have HNX := Lib.hid (fun n => rnext_same R (aw2 B).x (wx.drewN n) (hrg.rg.gr ((Ch.refl _ wx).drewN n)))
  have HCH := Lib.hid (fun n => rchain_same R (aw2 B).x (wx.drewN n) (hrg.rg.gr ((Ch.refl _ wx).drewN n)))
  rw [HAW.out.next] at HNX
  rw [← hcc] at HCH ⊢
  have HCF := Lib.hid (HR.out.ch.trans hrg.ch)
  have HVT := Lib.hid hVT
  rw [show (Value.slice (some ⟨b, o, none⟩) [m0, m1].length C2) = v from hv.symm]
  rw [hv] at t0 ⊢
  rw [hv] at HVT
  clear hfol hM hRO hm0 hm1 hrd hcs hv0 hv1 e3 e4 hcc hVT hrw hrg y0 y1 y2 y3 HF9 HT9 H9 HAW hc10 hv
  go_wp2_with (first
    | ((with_reducible refine wpList_isOp (.alloc 40) rfl ?_); refine wpList_making _ wz rfl 40 rfl (tlC tl0 0 (.slice none 0 0)) G (zero_tl _) (by exact HVT.out.sz) (by exact HVT.out.al) ?_)
    | ((with_reducible refine wpList_isOp (.store 40 (.tmp 9) (.tmp 41)) rfl ?_); refine wpList_storing _ wx rfl 40 (.tmp 9) (.tmp 41) rfl (.agg (tlC ⟨[abcL, zerL], 4, cc⟩ 1 (.slice (some ⟨b, o, none⟩) 2 C2))) ⟨G, 0, none⟩ rfl rfl (by exact HVT.out.st) ?_)
    | fail)
  go_quiet (first
    | (go_at_call 30; exact quR (HNX.out _))
    | (go_at_call 31; exact quR (HCH.out _)))
  go_wp2
  go_ret
  exact ⟨rfl, HCF.out.drewN _⟩
end Go.Proofs.YteleknojohnlbaaGreat
namespace Go.Proofs.YteleknojohnlbaaGreat
open Go.RowKit
set_option linter.unusedVariables false
set_option maxRecDepth 100000
set_option linter.unusedSimpArgs false
theorem fits_last (L : List Pn) (a : Pn) (s : Int) (p : Pn) (h : 1 ≤ a.ofn) : fitsP a s p = if p.ch = s then (if p.ep = a.ep then decide (p.fr = a.fr) else (decide (a.ep < p.ep) && decide (p.fr = p.seq))) else false := by
  unfold fitsP goesOn
  rw [if_neg (by omega : ¬ a.ofn = 0)]
end Go.Proofs.YteleknojohnlbaaGreat
