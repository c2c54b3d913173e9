/-
  A device, and its copy, behind calls of keep. KeepEach, walked: to write some is to write each, one behind the other, till one can't be.
-/
import Derived.Test.YtjibfoplihaabaaMg44
import Derived.Test.YtjibfoplihaabaaMg45
namespace Go.Proofs.Ytjibfoplihaabaa
open Go.RowKit
set_option linter.unusedVariables false
set_option maxRecDepth 100000

/-- A device at b, and another one at c, apart, beside the blocks of X. -/
structure Pair (w0 : World) (X : Nat → Prop) (b c : Nat) (d e : Dev) (w : World) : Prop where
  dev : ∃ B D, Devs w0 X 2 B D w ∧ B 0 = b ∧ B 1 = c ∧ D 0 = d ∧ D 1 = e
section
variable {w0 w w1 : World} {X : Nat → Prop} {b c t : Nat} {d e d' : Dev}
theorem Pair.gr (h : Pair w0 X b c d e w) (k : Ch (fun _ => False) w w1) : Pair w0 X b c d e w1 := by
  obtain ⟨B, D, h1, h2⟩ := h.dev
  exact ⟨B, D, h1.gr k, h2⟩
theorem Pair.ch (h : Pair w0 X b c d e w) : Ch (fun _ => False) w0 w := by
  obtain ⟨B, D, h1, h2⟩ := h.dev
  exact h1.ch
theorem Pair.fresh {X' : Nat → Prop} (h : Pair w0 X b c d e w) (k : Ch (fun _ => False) w w1) (hX : ∀ i, X' i → X i ∨ (w.heap.size ≤ i ∧ i < w1.heap.size)) : Pair w0 X' b c d e w1 := by
  obtain ⟨B, D, h1, h2⟩ := h.dev
  exact ⟨B, D, h1.fresh k hX, h2⟩
/-- One of them turns. -/
theorem Devs.runX {B : Nat → Nat} {D : Nat → Dev} {k i : Nat} {r : Value} {F : FuncId} {args : Array Value} (h : Devs w0 X k B D w) (hi : i < k) (hc : Ch (fun _ => False) w w1)
    (c : ∀ p : Ph, p.B = B i → DevIs w0.heap.size w1 p (D i) → (∀ x, X x ∨ w.heap.size ≤ x → ¬ Foot p (D i) x) → Calls Try.prog F args w1 (DPost w0.heap.size p (D i) d' r w1)) : Calls Try.prog F args w1 (DevsP w0 X k B (up D i d') r w1) := by
  obtain ⟨p, e1, e2, e3, e4, e5⟩ := h.step hi hc
  refine (c p e1 e2 (fun x hx => hx.elim (e3 x) (e4 x))).mono ?_
  rintro e w' ⟨rfl, p', q1, q2, q3, q4⟩
  obtain ⟨a1, a2⟩ := e5 p' d' w' q1 q2 q3 q4
  exact ⟨rfl, a1 X (fun x hx => Or.inl hx), a2⟩
theorem Pair.run0 {r : Value} {F : FuncId} {args : Array Value} (h : Pair w0 X b c d e w) (hc : Ch (fun _ => False) w w1)
    (call : ∀ p : Ph, p.B = b → DevIs w0.heap.size w1 p d → (∀ i, X i ∨ w.heap.size ≤ i → ¬ Foot p d i) → Calls Try.prog F args w1 (DPost w0.heap.size p d d' r w1)) :
    Calls Try.prog F args w1 fun en w' => en = .returned r ∧ Pair w0 X b c d' e w' ∧ Ch (fun x => w0.heap.size ≤ x ∧ ¬ X x) w1 w' := by
  obtain ⟨B, D, h1, b0, b1, d0, d1⟩ := h.dev
  subst b0 d0
  refine (h1.runX (i := 0) (by omega) hc call).mono ?_
  rintro en w' ⟨rfl, h2, h3⟩
  exact ⟨rfl, ⟨B, _, h2, rfl, b1, up_same _ _ _, (up_other _ _ (by omega)).trans d1⟩, h3⟩
theorem Pair.run1 {r : Value} {F : FuncId} {args : Array Value} (h : Pair w0 X b c d e w) (hc : Ch (fun _ => False) w w1)
    (call : ∀ p : Ph, p.B = c → DevIs w0.heap.size w1 p e → (∀ i, X i ∨ w.heap.size ≤ i → ¬ Foot p e i) → Calls Try.prog F args w1 (DPost w0.heap.size p e d' r w1)) :
    Calls Try.prog F args w1 fun en w' => en = .returned r ∧ Pair w0 X b c d d' w' ∧ Ch (fun x => w0.heap.size ≤ x ∧ ¬ X x) w1 w' := by
  obtain ⟨B, D, h1, b0, b1, d0, d1⟩ := h.dev
  subst b1 d1
  refine (h1.runX (i := 1) (by omega) hc call).mono ?_
  rintro en w' ⟨rfl, h2, h3⟩
  exact ⟨rfl, ⟨B, _, h2, b0, rfl, (up_other _ _ (by omega)).trans d0, up_same _ _ _⟩, h3⟩
theorem Pair.read0 {a : Int} (h : Pair w0 X b c d e w) (hl : Lim d t) (ht : t ≤ 1000000) : Calls Try.prog 20 #[.pointer (some ⟨b, 0, none⟩), .int .i64 a] w fun en w' => ∃ A C, en = .returned (.tuple #[.slice A (readL d a) C, .int .i64 (readE d a)]) ∧ RowV w' (.slice A (readL d a) C) (readL d a) (readZ d a) ∧
      Pair w0 (fun j => X j ∨ (Value.slice A (readL d a) C).ownBlock = some j) b c (readD d a) e w' ∧ Ch (fun x => w0.heap.size ≤ x ∧ ¬ X x) w w' := by
  obtain ⟨B, D, h1, b0, b1, d0, d1⟩ := h.dev
  refine (h1.readN (i := 0) (by omega) b0 d0 hl ht).mono ?_
  rintro en w' ⟨A, C, rfl, r⟩
  exact ⟨A, C, rfl, r.row, ⟨B, _, r.devX, b0, b1, up_same _ _ _, (up_other _ _ (by omega)).trans d1⟩, r.ch⟩
theorem Pair.read1 {a : Int} (h : Pair w0 X b c d e w) (hl : Lim e t) (ht : t ≤ 1000000) : Calls Try.prog 20 #[.pointer (some ⟨c, 0, none⟩), .int .i64 a] w fun en w' => ∃ A C, en = .returned (.tuple #[.slice A (readL e a) C, .int .i64 (readE e a)]) ∧ RowV w' (.slice A (readL e a) C) (readL e a) (readZ e a) ∧
      Pair w0 X b c d (readD e a) w' ∧ Ch (fun x => w0.heap.size ≤ x ∧ ¬ X x) w w' := by
  obtain ⟨B, D, h1, b0, b1, d0, d1⟩ := h.dev
  refine (h1.readN (i := 1) (by omega) b1 d1 hl ht).mono ?_
  rintro en w' ⟨A, C, rfl, r⟩
  exact ⟨A, C, rfl, r.row, ⟨B, _, r.dev, b0, b1, (up_other _ _ (by omega)).trans d0, up_same _ _ _⟩, r.ch⟩
/-- Fewer blocks beside them. -/
theorem Pair.less {X' : Nat → Prop} (h : Pair w0 X b c d e w) (hX : ∀ i, X' i → X i) : Pair w0 X' b c d e w := h.fresh (Ch.refl _ w) (fun i hi => Or.inl (hX i hi))
/-- Out of the device beside the document's: it, and its copy. -/
theorem Bo.copy {C : Nat} {r : Dev} (h : Bo w0 w b C d r) (hl : Lim d t) (hm : LimM d t) (ht : t ≤ 1000000) : Calls Try.prog 22 #[.pointer (some ⟨b, 0, none⟩)] w fun en w' => ∃ c, en = .returned (.pointer (some ⟨c, 0, none⟩)) ∧ Pair w0 (fun _ => False) b c d d w' := by
  obtain ⟨F, p, q, h1, h2, h3, h4, h5⟩ := h.dev
  have hd : Devs w0 (fun _ => False) 1 (fun _ => b) (fun _ => d) w := ⟨h.ch, ⟨fun _ => p, fun _ _ => ⟨h1, h3, fun _ f => f.elim⟩, fun i j hi hj hne => by omega⟩, fun _ f => f.elim⟩
  refine (hd.copy (i := 0) (by omega) hl hm ht).mono ?_
  rintro en w' ⟨c, rfl, g1, _⟩
  exact ⟨c, rfl, _, _, g1, up_other _ _ (by omega), up_same _ _ _, up_other _ _ (by omega), up_same _ _ _⟩
theorem KeepC.all0 (K : KeepC) {X' : Nat → Prop} {n C : Nat} {f : Nat → PutP} {A : Option Addr} (h : Pair w0 X b c d e w) (hV : PutsV w X' A n f) (hp : ∀ i, i < n → I64 (f i).pl) (hx : ∀ i, X' i → X i) (hl : Lim d t) (hm : LimM d t) (ht : t + 13 * n ≤ 990000) :
    Calls Try.prog 9 #[.pointer (some ⟨b, 0, none⟩), .slice A n C] w fun en w' => en = .returned (.int .i64 (allTo f d n).e) ∧ Pair w0 X b c (allTo f d n).d e w' ∧ Ch (fun x => w0.heap.size ≤ x ∧ ¬ X x) w w' :=
  h.run0 (Ch.refl _ w) fun p hp' h3 h4 => by
    subst hp'
    exact K.all _ X' p d n f A C t w h3 hV hp (fun i hi => h4 i (Or.inl (hx i hi))) hl hm ht
theorem KeepC.one1 (K : KeepC) {X' : Nat → Prop} {g o sb so sC : Nat} {P : PutP} (h : Pair w0 X b c d e w) (hp : PutIs w X' g o sb so sC P) (hi : I64 P.pl) (hx : ∀ i, X' i → X i) (hl : Lim e t) (hm : LimM e t) (ht : t ≤ 999000) :
    Calls Try.prog 17 #[.pointer (some ⟨c, 0, none⟩), .agg #[.int .i64 P.pl, .slice (some ⟨sb, so, none⟩) P.n sC]] w fun en w' => en = .returned (.int .i64 (kepE 4 e P)) ∧ Pair w0 X b c d (kepD 4 e P) w' ∧ Ch (fun x => w0.heap.size ≤ x ∧ ¬ X x) w w' :=
  h.run1 (Ch.refl _ w) fun p hp' h3 h4 => by
    subst hp'
    exact K.one _ p e P sb so sC t w h3 hp.row hi hp.lt (h4 sb (Or.inl (hx sb hp.X))) hl hm ht
end
#print axioms KeepC.one1
end Go.Proofs.Ytjibfoplihaabaa
namespace Go.Proofs.Ytjibfoplihaabaa
open Go.RowKit
set_option linter.unusedVariables false
set_option maxRecDepth 100000

set_option maxHeartbeats 3200000 in
theorem keepEach_any (K : KeepC) (A A2 : Option Addr) (m C n C2 : Nat) (g : Nat → Fa) (die : Int) (l : Nat → WantD) (w : World) (hf : RowF w A m g) (hd : I64 die) (hl : RowW w A2 n l) :
    Calls Try.prog 6 #[.slice A m C, .int .i64 die, .slice A2 n C2] w (Told w) := by
  have hm63 := hf.1
  have hn63 := hl.1
  have HK := Lib.hid K
  have HF := Lib.hid hf
  have HD := Lib.hid hd
  have HL := Lib.hid hl
  clear K hf hd hl
  by_cases hm30 : 30 < m
  · go_enter Try.func6, Try.ntmps6
    go_wp2_with fail
    refine (awake_any HK.out _).mono ?_
    rintro e w1 ⟨rfl, hc1⟩
    have HC1 := Lib.hid hc1
    clear hc1
    go_wp2
    go_ret
    exact ⟨rfl, HC1.out⟩
  by_cases hn10 : 10 < n
  · go_enter Try.func6, Try.ntmps6
    go_wp2_with fail
    refine (awake_any HK.out _).mono ?_
    rintro e w1 ⟨rfl, hc1⟩
    have HC1 := Lib.hid hc1
    clear hc1
    go_wp2
    go_ret
    exact ⟨rfl, HC1.out⟩
  go_enter Try.func6, Try.ntmps6
  go_wp2_with fail
  refine (awake_any HK.out _).mono ?_
  rintro e w1 ⟨rfl, hc1⟩
  have HSP := Lib.hid (spoilt_any A m C g die w w1 hc1 HF.out (by omega) HD.out)
  clear hc1
  go_wp2_with fail
  refine HSP.out.mono ?_
  rintro e w2 ⟨B, D, rfl, h2⟩
  obtain ⟨d, hd⟩ : ∃ d, d = spD g m die := ⟨_, rfl⟩
  obtain ⟨l1, l2⟩ := spD_lim g m die
  rw [← hd] at h2 l1 l2
  have HL0 := Lib.hid (show Lim d 30 ∧ LimM d 30 from ⟨l1.mono (by omega), l2.mono (by omega)⟩)
  have HX := Lib.hid (h2.copy HL0.out.1 HL0.out.2 (by omega))
  obtain ⟨f, hfF⟩ : ∃ f, f = fun c => wantP (l c) := ⟨_, rfl⟩
  have HI := Lib.hid (show ∀ i, i < n → I64 (f i).pl by rw [hfF]; exact HL.out.i64)
  have HPU := Lib.hid (show ∀ (w2 : World), Ch (fun _ => False) w w2 → Calls Try.prog 10 #[.slice A2 n C2] w2 (PutsP w2 n f) by rw [hfF]; exact fun w2 hc => puts_any A2 n C2 l w2 (HL.out.gr hc) (by omega))
  have HLA := Lib.hid (fun k => allTo_lim (f := f) HL0.out.1 HL0.out.2 k)
  clear h2 l1 l2 hd hfF HSP
  go_wp2_with fail
  refine HX.out.mono ?_
  rintro e w3 ⟨c, rfl, h3⟩
  have H3 := Lib.hid h3
  clear h3 HX
  go_wp2_with fail
  refine (HPU.out _ H3.out.ch).mono ?_
  rintro e w4 ⟨A4, C4, rfl, hc4, hv4⟩
  obtain ⟨X, hX⟩ : ∃ X : Nat → Prop, X = fun i => w3.heap.size ≤ i ∧ i < w4.heap.size := ⟨_, rfl⟩
  have h4 : Pair w X B c d d w4 := H3.out.fresh hc4 (fun i hi => Or.inr (by rw [hX] at hi; exact hi))
  rw [← hX] at hv4
  have HX := Lib.hid (HK.out.all0 (C := C4) h4 hv4 HI.out (fun _ h => h) HL0.out.1 HL0.out.2 (by omega))
  have HV4 := Lib.hid hv4
  obtain ⟨S, hS⟩ : ∃ S, S = allTo f d n := ⟨_, rfl⟩
  rw [← hS] at HX
  have HS := Lib.hid hS
  clear hc4 hv4 h4 hX hS H3
  go_wp2_with fail
  refine HX.out.mono ?_
  rintro e w5 ⟨rfl, h5, k5⟩
  have HV5 := Lib.hid (HV4.out.ch k5 (fun i hi q => q.2 hi))
  have H5 : Hid (Pair w X B c S.d (allTo f d 0).d w5 ∧ PutsV w5 X A4 n f) := ⟨h5, HV5.out⟩
  clear h5 k5 HX HV4 HV5
  go_wp2_with fail
  go_loopw [13, 14] (fun b i wr => ∃ j : Nat, j ≤ n ∧ i = .int .i64 j ∧ b = .int .i64 (allTo f d j).e ∧ Hid (Pair w X B c S.d (allTo f d j).d wr ∧ PutsV wr X A4 n f)) (fun _ i _ => n - (intOf i).toNat)
  case atStart => exact ⟨0, Nat.zero_le _, rfl, rfl, H5⟩
  case round =>
    obtain ⟨j, hj, rfl, rfl, HJ⟩ := hrel
    clear H5
    obtain ⟨E, hE⟩ : ∃ E, E = (allTo f d j).e := ⟨_, rfl⟩
    rw [← hE]
    by_cases hgo : j < n ∧ E = 0
    · obtain ⟨hlt, rfl⟩ := hgo
      obtain ⟨b0, o, rfl, hb, hc⟩ := HJ.out.2.2 (by omega)
      obtain ⟨sb, so, sC, hp⟩ := hc j hlt
      have i1 : (0 : Int) ≤ (j : Int) := Int.natCast_nonneg _
      have i2 : (j : Int) < (n : Int) := by omega
      have hnx : allTo f d (j + 1) = ⟨kepD 4 (allTo f d j).d (f j), kepE 4 (allTo f d j).d (f j)⟩ := if_pos hE.symm
      have HO := Lib.hid (HK.out.one1 HJ.out.1 hp (HI.out j hlt) (fun _ h => h) (HLA.out j).1 (HLA.out j).2 (by omega))
      have HNX := Lib.hid hnx
      have ld := load_put hp.c0 hp.c1
      have HLT := Lib.hid hlt
      obtain ⟨G, hG⟩ : ∃ G, G = kepE 4 (allTo f d j).d (f j) := ⟨_, rfl⟩
      rw [← hG] at HO HNX
      have HV := Lib.hid HJ.out.2
      clear hb hc hp hnx hE hG HJ
      go_wp2_with (first
        | ((with_reducible refine wpList_isOp (.load 50 (.tmp 61)) rfl ?_); refine wpList_loading _ rfl 50 (.tmp 61) rfl _ ⟨b0, o + j * 2, none⟩ rfl ld ?_)
        | fail)
      refine HO.out.mono ?_
      rintro e w6 ⟨rfl, h6, k6⟩
      have H6 := Lib.hid (show Pair w X B c S.d (allTo f d (j + 1)).d w6 ∧ PutsV w6 X (some ⟨b0, o, none⟩) n f from ⟨by rw [HNX.out]; exact h6, HV.out.ch k6 (fun i hi q => q.2 hi)⟩)
      have HG := Lib.hid (show G = (allTo f d (j + 1)).e by rw [HNX.out])
      have HLT2 := HLT.out
      clear h6 k6 HO ld HV
      go_wp2
      go_roundw
      case rel => exact ⟨j + 1, by omega, by go_num, by rw [← HG.out], H6⟩
      case measure => simp [intOf]; omega
    · have hend : allTo f d n = allTo f d j := by
        by_cases q : j = n
        · rw [q]
        · exact allTo_stop (by rw [← hE]; exact fun z => hgo ⟨by omega, z⟩) n hj
      have HEE := Lib.hid (show E = S.e by rw [HS.out, hend]; exact hE)
      have H7 : Hid (Pair w X B c (rdE S.d 0) (rdE S.d 0) wr) := by
        have := HJ.out.1
        rw [← hend, ← HS.out] at this
        exact this
      have HLS := Lib.hid (show Lim S.d 500 ∧ LimM S.d 500 by rw [HS.out]; exact ⟨(HLA.out n).1.mono (by omega), (HLA.out n).2.mono (by omega)⟩)
      have HLR := Lib.hid (fun s => rdE_lim HLS.out.1 HLS.out.2 s)
      clear hE hend HJ
      by_cases hlt : j < n
      · have hne : ¬ E = 0 := fun z => hgo ⟨hlt, z⟩
        clear hgo
        have t1 : (E == 0) = false := by simpa using hne
        go_wp2_with fail
        go_loopw [15, 16, 17, 18, 19, 20] (fun i _ _ _ _ _ wr => ∃ s : Nat, s ≤ 8 ∧ i = .int .i64 (s : Int) ∧ Hid (Pair w X B c (rdE S.d s) (rdE S.d s) wr)) (fun i _ _ _ _ _ _ => 8 - (intOf i).toNat)
        case atStart => exact ⟨0, Nat.zero_le _, rfl, H7⟩
        case round =>
          obtain ⟨s, hs, rfl, HJ⟩ := hrel
          clear H7
          by_cases hs8 : s < 8
          · have HR1 := Lib.hid (HJ.out.read0 (a := (s : Int)) (HLR.out s).1 (by omega))
            obtain ⟨G, hG⟩ : ∃ G, G = readE (rdE S.d s) (s : Int) := ⟨_, rfl⟩
            obtain ⟨r, hr⟩ : ∃ r, r = readL (rdE S.d s) (s : Int) := ⟨_, rfl⟩
            obtain ⟨z, hz⟩ : ∃ z, z = readZ (rdE S.d s) (s : Int) := ⟨_, rfl⟩
            rw [← hG, ← hr, ← hz] at HR1
            have t3 : (G != G) = false := by simp
            have HE := Lib.hid (show G = readE (rdE S.d s) (s : Int) ∧ r = readL (rdE S.d s) (s : Int) ∧ z = readZ (rdE S.d s) (s : Int) from ⟨hG, hr, hz⟩)
            clear hG hr hz
            go_wp2_with fail
            refine HR1.out.mono ?_
            rintro e w2' ⟨A1, C1, rfl, hr1, hp1, _⟩
            have HR2 := Lib.hid (hp1.read1 (a := (s : Int)) (HLR.out s).1 (by omega))
            rw [← HE.out.1, ← HE.out.2.1, ← HE.out.2.2] at HR2
            have HRW := Lib.hid hr1
            clear hr1 hp1 HR1
            go_wp2_with fail
            refine HR2.out.mono ?_
            rintro e w3' ⟨A2', C2', rfl, hr2, hp2, k2⟩
            have HSM := Lib.hid (same_any _ _ _ _ _ _ _ _ w3' (HRW.out.keep k2 (fun b hb q => q.2 (Or.inr hb))) hr2)
            rw [eqB_yes rfl (fun c _ => rfl)] at HSM
            have H3' := Lib.hid (show Pair w X B c (rdE S.d (s + 1)) (rdE S.d (s + 1)) w3' from hp2.less (fun i hi => Or.inl hi))
            clear hr2 hp2 k2 HR2 HRW
            go_wp2_with fail
            refine HSM.out.mono ?_
            rintro e w4' ⟨rfl, n4, rfl⟩
            have H4' := Lib.hid (H3'.out.gr ((Ch.refl _ w3').drewN n4))
            clear HSM H3'
            go_wp2
            go_roundw
            case rel => exact ⟨s + 1, by omega, by go_num, H4'⟩
            case measure => simp [intOf]; omega
          · obtain rfl : s = 8 := by omega
            have HC := Lib.hid HJ.out.ch
            have t9 : (S.e == E) = true := by rw [HEE.out]; simp
            clear hs8
            go_wp2
            go_ret
            exact ⟨rfl, HC.out⟩
      · obtain rfl : j = n := by omega
        clear hgo hlt
        go_wp2_with fail
        go_loopw [15, 16, 17, 18, 19, 20] (fun i _ _ _ _ _ wr => ∃ s : Nat, s ≤ 8 ∧ i = .int .i64 (s : Int) ∧ Hid (Pair w X B c (rdE S.d s) (rdE S.d s) wr)) (fun i _ _ _ _ _ _ => 8 - (intOf i).toNat)
        case atStart => exact ⟨0, Nat.zero_le _, rfl, H7⟩
        case round =>
          obtain ⟨s, hs, rfl, HJ⟩ := hrel
          clear H7
          by_cases hs8 : s < 8
          · have HR1 := Lib.hid (HJ.out.read0 (a := (s : Int)) (HLR.out s).1 (by omega))
            obtain ⟨G, hG⟩ : ∃ G, G = readE (rdE S.d s) (s : Int) := ⟨_, rfl⟩
            obtain ⟨r, hr⟩ : ∃ r, r = readL (rdE S.d s) (s : Int) := ⟨_, rfl⟩
            obtain ⟨z, hz⟩ : ∃ z, z = readZ (rdE S.d s) (s : Int) := ⟨_, rfl⟩
            rw [← hG, ← hr, ← hz] at HR1
            have t3 : (G != G) = false := by simp
            have HE := Lib.hid (show G = readE (rdE S.d s) (s : Int) ∧ r = readL (rdE S.d s) (s : Int) ∧ z = readZ (rdE S.d s) (s : Int) from ⟨hG, hr, hz⟩)
            clear hG hr hz
            go_wp2_with fail
            refine HR1.out.mono ?_
            rintro e w2' ⟨A1, C1, rfl, hr1, hp1, _⟩
            have HR2 := Lib.hid (hp1.read1 (a := (s : Int)) (HLR.out s).1 (by omega))
            rw [← HE.out.1, ← HE.out.2.1, ← HE.out.2.2] at HR2
            have HRW := Lib.hid hr1
            clear hr1 hp1 HR1
            go_wp2_with fail
            refine HR2.out.mono ?_
            rintro e w3' ⟨A2', C2', rfl, hr2, hp2, k2⟩
            have HSM := Lib.hid (same_any _ _ _ _ _ _ _ _ w3' (HRW.out.keep k2 (fun b hb q => q.2 (Or.inr hb))) hr2)
            rw [eqB_yes rfl (fun c _ => rfl)] at HSM
            have H3' := Lib.hid (show Pair w X B c (rdE S.d (s + 1)) (rdE S.d (s + 1)) w3' from hp2.less (fun i hi => Or.inl hi))
            clear hr2 hp2 k2 HR2 HRW
            go_wp2_with fail
            refine HSM.out.mono ?_
            rintro e w4' ⟨rfl, n4, rfl⟩
            have H4' := Lib.hid (H3'.out.gr ((Ch.refl _ w3').drewN n4))
            clear HSM H3'
            go_wp2
            go_roundw
            case rel => exact ⟨s + 1, by omega, by go_num, H4'⟩
            case measure => simp [intOf]; omega
          · obtain rfl : s = 8 := by omega
            have HC := Lib.hid HJ.out.ch
            have t9 : (S.e == E) = true := by rw [HEE.out]; simp
            clear hs8
            go_wp2
            go_ret
            exact ⟨rfl, HC.out⟩
#print axioms keepEach_any
end Go.Proofs.Ytjibfoplihaabaa
