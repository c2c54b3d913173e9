/-
  KeepMends, walked: what was mended is as it should be, each sector that was not is counted once, and nothing is mended once more.
-/
import Derived.Test.YtjibfoplihaabaaMg45
namespace Go.Proofs.Ytjibfoplihaabaa
open Go.RowKit
set_option linter.unusedVariables false
set_option maxRecDepth 100000

/-! ### in plain words -/
theorem finAll_nil (d : Dev) : finAll d [] = d := rfl
theorem Fine.settle {N : Nat} {d : Dev} (h : Fine N d) (k : Nat) : Fine N (settleD d k) := by
  have e1 : ofS d.W k = [] := by rw [h.qt.W]; rfl
  have e2 : offS d.W k = [] := by rw [h.qt.W]; rfl
  unfold settleD
  rw [e1, e2]
  exact ⟨⟨h.qt.n, h.qt.dead, h.qt.armed, rfl⟩, h.drops, h.miss⟩
theorem Fine.fault {N : Nat} {d : Dev} (h : Fine N d) (f : Fa) (hk : f.kind < 4) : Fine N (faultD d f) := by
  unfold faultD
  cases hb : hasB d f.pl
  · exact h
  · rw [if_pos rfl]
    split
    · unfold rotD
      split
      · exact h
      · have := h.settle f.pl.toNat
        exact ⟨⟨this.qt.n, this.qt.dead, this.qt.armed, this.qt.W⟩, this.drops, this.miss⟩
    · split
      · have := h.settle f.pl.toNat
        exact ⟨⟨this.qt.n, this.qt.dead, this.qt.armed, this.qt.W⟩, this.drops, this.miss⟩
      · split
        · have := h.settle f.pl.toNat
          exact ⟨⟨this.qt.n, this.qt.dead, this.qt.armed, this.qt.W⟩, this.drops, this.miss⟩
        · split
          · omega
          · split
            · omega
            · exact h
theorem fine0 (n : Nat) : Fine n (dev0 n) := ⟨qt0 n, fun _ => rfl, fun _ => rfl⟩
theorem rdE_fine {N : Nat} {d : Dev} (h : Fine N d) : ∀ j, j ≤ N → Fine N (rdE d j) ∧ (rdE d j).has = d.has ∧ (rdE d j).lost = d.lost
  | 0, _ => ⟨h, rfl, rfl⟩
  | j + 1, hj => by
    obtain ⟨h1, h2, h3⟩ := rdE_fine h j (by omega)
    obtain ⟨g1, g2, g3⟩ := h1.read (k := j) (by omega)
    exact ⟨g1, g2.trans h2, g3.trans h3⟩
def bbF (b : Nat) (a : Nat) : Nat := (b + a) % 256
/-- What is told of a sector that is read: is it as it should be? -/
theorem told_asP {d : Dev} {B : Nat → Nat} {i : Nat} {E : Int} {S : Bool} (hE : E = readE d (i : Int)) (hS : S = eqB (readL d (i : Int)) 256 (readZ d (i : Int)) (fun _ => B i)) : asP d (putF B i) = (decide (E = 0) && S) := by
  rw [hE, hS]
  rfl
theorem badTo_le (B : Nat → Nat) (d : Dev) : ∀ i, badTo B d i ≤ i
  | 0 => Nat.le_refl _
  | i + 1 => by
    have := badTo_le B d i
    show badTo B d i + _ ≤ _
    split <;> omega
theorem badTo_congr {N : Nat} {d e : Dev} (h : Qt N d) (k : Qt N e) (B : Nat → Nat) (e1 : e.has = d.has) (e2 : e.lost = d.lost) : ∀ i, i ≤ N → badTo B e i = badTo B d i
  | 0, _ => rfl
  | i + 1, hi => by
    show badTo B e i + (if asP e (putF B i) then 0 else 1) = badTo B d i + (if asP d (putF B i) then 0 else 1)
    rw [badTo_congr h k B e1 e2 i (by omega), asP_eq h k (by omega) B (by rw [e1]) (by rw [e2])]
theorem PutsV.get {w : World} {X : Nat → Prop} {b o n c : Nat} {f : Nat → PutP} (h : PutsV w X (some ⟨b, o, none⟩) n f) (hc : c < n) : X b ∧ ∃ sb so sC, PutIs w X b (o + c * 2) sb so sC (f c) := by
  obtain ⟨b', o', e, h1, h2⟩ := h.2 (by omega)
  injection e with e
  injection e with e1 e2
  subst e1
  subst e2
  exact ⟨h1, h2 c hc⟩
/-- A device beside the rows of what is to be there. -/
structure MnSt (w0 w : World) (X : Nat → Prop) (B : Nat) (d : Dev) (a o n : Nat) (f : Nat → PutP) (t : Nat) : Prop where
  dev : OneX w0 X B d w
  fine : Fine 8 d
  lim : Lim d t
  limM : LimM d t
  puts : PutsV w X (some ⟨a, o, none⟩) n f
theorem MnSt.more {w0 w : World} {X : Nat → Prop} {B a o n t t' : Nat} {d : Dev} {f : Nat → PutP} (h : MnSt w0 w X B d a o n f t) (k : t ≤ t') : MnSt w0 w X B d a o n f t' := ⟨h.dev, h.fine, h.lim.mono k, h.limM.mono k, h.puts⟩
theorem MnSt.gr {w0 w w' : World} {X : Nat → Prop} {B a o n t : Nat} {d : Dev} {f : Nat → PutP} (h : MnSt w0 w X B d a o n f t) (k : Ch (fun _ => False) w w') : MnSt w0 w' X B d a o n f t := ⟨h.dev.gr k, h.fine, h.lim, h.limM, h.puts.gr k⟩
theorem MnSt.next {w0 w w' : World} {X : Nat → Prop} {B a o n t t' : Nat} {d d' : Dev} {f : Nat → PutP} (h : MnSt w0 w X B d a o n f t) (g : OneX w0 X B d' w') (k : Ch (fun i => w0.heap.size ≤ i ∧ ¬ X i) w w') (hf : Fine 8 d') (hl : Lim d' t' ∧ LimM d' t') : MnSt w0 w' X B d' a o n f t' :=
  ⟨g, hf, hl.1, hl.2, h.puts.ch k (fun i hi q => q.2 hi)⟩
set_option maxHeartbeats 3200000 in
theorem keepMends_any (K : KeepC) (A : Option Addr) (m C : Nat) (g : Nat → Fa) (b : Nat) (w : World) (hf : RowF w A m g) (hb : b < 256) :
    Calls Try.prog 5 #[.slice A m C, .int .u8 (b : Int)] w (Told w) := by
  have hm63 := hf.1
  have HK := Lib.hid K
  have HF := Lib.hid hf
  have HB := Lib.hid hb
  clear K hf
  by_cases hm30 : 30 < m
  · go_enter Try.func5, Try.ntmps5
    go_wp2_with fail
    refine (awake_any HK.out _).mono ?_
    rintro e w1 ⟨rfl, hc1⟩
    have HC1 := Lib.hid hc1
    clear hc1
    go_wp2
    go_ret
    exact ⟨rfl, HC1.out⟩
  go_enter Try.func5, Try.ntmps5
  go_wp2_with fail
  refine (awake_any HK.out _).mono ?_
  rintro e w1 ⟨rfl, hc1⟩
  have HC1 := Lib.hid hc1
  clear hc1
  go_wp2_with fail
  refine (show Calls Try.prog _ #[.int .i64 8] _ _ from OneX.new (X := fun _ => False) 8 w1 (by decide) (by decide) w HC1.out (fun _ f => f.elim)).mono ?_
  rintro e w2 ⟨B, rfl, h2⟩
  have H2 := Lib.hid h2
  have HS : Hid (∃ s, PutsO w2 w2 (.slice none 0 0) 0 (putF (bbF b)) s) := ⟨fun _ => .slice none 0 0, PutsO.start w2 _ _⟩
  clear h2 HC1
  go_wp2_with fail
  go_loopw [8, 9] (fun v i wr => ∃ k : Nat, k ≤ 8 ∧ i = .int .i64 k ∧ Hid (∃ s, PutsO w2 wr v k (putF (bbF b)) s)) (fun _ i _ => 8 - (intOf i).toNat)
  case atStart => exact ⟨0, Nat.zero_le _, rfl, HS⟩
  case round =>
    obtain ⟨k, hk, rfl, HP⟩ := hrel
    clear HS
    obtain ⟨s, hs⟩ := HP.out
    obtain ⟨A0, C0, rfl⟩ := hs.len
    have HP := Lib.hid hs
    clear hs
    by_cases hlt : k < 8
    · have hv : ((b : Int) + (k : Int)) % 256 = ((bbF b k : Nat) : Int) := by unfold bbF; omega
      have hb8 : bbF b k < 256 := Nat.mod_lt _ (by decide)
      go_wp2_with fail
      rw [hv]
      refine (sector_any (bbF b k) hb8 wr).mono ?_
      rintro e1 w3 ⟨sb, rfl, h3, hb3, hc3⟩
      have HP3 := Lib.hid (HP.out.gr hc3)
      have hlo : w2.heap.size ≤ sb := Nat.le_trans HP.out.ch.size hb3
      obtain ⟨g2, cap, w4, hr4, hs4⟩ := HP3.out.app (u := .slice (some ⟨sb, 0, none⟩) 256 256) (secOwn h3 hb8 hlo 0 256 rfl (by decide)) (by omega)
      have HSL := Lib.hid (slice_put w3 (.int .i64 (k : Int)) (.slice (some ⟨sb, 0, none⟩) 256 256))
      obtain ⟨ws, hws⟩ : ∃ ws, ws = w3.alloc (.cells #[.int .i64 (k : Int), .slice (some ⟨sb, 0, none⟩) 256 256] 50) := ⟨_, rfl⟩
      obtain ⟨Kb, hK⟩ : ∃ K, K = w3.heap.size := ⟨_, rfl⟩
      obtain ⟨N, hN⟩ : ∃ N, N = k + 1 := ⟨_, rfl⟩
      rw [show (putF (bbF b) k).pl = (k : Int) from rfl, ← hws, ← hK, ← hN] at hr4
      rw [← hws, ← hK] at HSL
      rw [← hN] at hs4
      have HRUN := Lib.hid hr4
      have HS4 := Lib.hid (show ∃ s, PutsO w2 w4 _ N (putF (bbF b)) s from ⟨_, hs4⟩)
      have HN := Lib.hid hN
      clear hr4 hs4 hws hK hN h3 hb3 hc3 hlo hv hb8 HP HP3
      go_wp2_with (first
        | ((with_reducible refine wpList_isOp (.buildSlice 31 1 #[(0, .tmp 49)]) rfl ?_); refine wpList_slicing1 _ ws rfl 31 0 1 (.tmp 49) rfl (.agg #[.int .i64 (k : Int), .slice (some ⟨sb, 0, none⟩) 256 256]) (.slice (some ⟨Kb, 0, none⟩) 1 1) rfl (by exact HSL.out) ?_)
        | ((with_reducible refine wpList_isOp (.call { callee := .builtin .append, args := #[.tmp 42, .tmp 50], argTypes := #[ 31, 31] }) rfl ?_); refine wpList_appP _ rfl (.tmp 42) (.tmp 50) rfl rfl (.slice A0 k C0) (.slice (some ⟨Kb, 0, none⟩) 1 1) (.slice (some ⟨g2, 0, none⟩) N cap) w4 rfl rfl (by exact HRUN.out) ?_))
      go_roundw
      case rel => exact ⟨N, by rw [HN.out]; omega, by rw [HN.out]; go_num, HS4⟩
      case measure => simp [intOf]; omega
    · obtain rfl : k = 8 := by omega
      obtain ⟨X, hX⟩ : ∃ X : Nat → Prop, X = fun i => w2.heap.size ≤ i ∧ i < wr.heap.size := ⟨_, rfl⟩
      have hv := HP.out.read (by omega)
      rw [← hX] at hv
      have h5 : OneX w X B (dev0 8) wr := H2.out.fresh HP.out.ch (fun i hi => Or.inr (by rw [hX] at hi; exact hi))
      obtain ⟨b0, o, rfl, _, _⟩ := hv.2 (by omega)
      have HI := Lib.hid (show ∀ i, i < 8 → I64 (putF (bbF b) i).pl from fun i hi => (show I64 (i : Int) from i64_lit (by omega)))
      have HX := Lib.hid (HK.out.allX (C := C0) h5 (Ch.refl _ wr) hv HI.out (fun i hi => Or.inl hi) (lim0 8 0).1 (lim0 8 0).2 (by omega))
      have H5 : Hid (MnSt w wr X B (dev0 8) b0 o 8 (putF (bbF b)) 0) := ⟨h5, fine0 8, (lim0 8 0).1, (lim0 8 0).2, hv⟩
      obtain ⟨q1, q2, _⟩ := all_fine (bbF b) (fine0 8) 8 (Nat.le_refl _)
      have hla := allTo_lim (f := putF (bbF b)) (lim0 8 0).1 (lim0 8 0).2 8
      obtain ⟨d1, hd1⟩ : ∃ d1, d1 = (allTo (putF (bbF b)) (dev0 8) 8).d := ⟨_, rfl⟩
      rw [q1, ← hd1] at HX
      rw [← hd1] at q2 hla
      have HQ2 := Lib.hid (And.intro q2 hla)
      clear hlt hX hv h5 q1 q2 hla hd1 HP H2
      go_wp2_with fail
      refine HX.out.mono ?_
      rintro e w5 ⟨rfl, h6, k6⟩
      have HS : Hid (∃ d, MnSt w w5 X B d b0 o 8 (putF (bbF b)) (200 + 0)) := ⟨d1, (H5.out.next h6 k6 HQ2.out.1 HQ2.out.2).more (by omega)⟩
      clear h6 k6 HX H5 HQ2
      go_wp2_with fail
      go_loopw [11] (fun i wr => ∃ j : Nat, j ≤ m ∧ i = .int .i64 j ∧ Hid (∃ d, MnSt w wr X B d b0 o 8 (putF (bbF b)) (200 + j))) (fun i _ => m - (intOf i).toNat)
      case atStart => exact ⟨0, Nat.zero_le _, rfl, HS⟩
      case round =>
        obtain ⟨j, hj, rfl, HJ⟩ := hrel
        clear HS
        by_cases hlt : j < m
        · obtain ⟨d, hmn⟩ := HJ.out
          obtain ⟨fb, fo, rfl, hcs⟩ := HF.out.2 (by omega)
          have hw := (hcs j hlt).gr hmn.dev.ch
          obtain ⟨f, hf⟩ : ∃ f, f = g j := ⟨_, rfl⟩
          rw [← hf] at hw
          have c0 : wr.cell? ⟨fb, fo + j * 9, none⟩ = some (.int .i64 f.kind) := hw.c 0 _ rfl
          have HLD := Lib.hid hw.load
          have HOK := Lib.hid hw.ok
          have HMN := Lib.hid hmn
          have i1 : (0 : Int) ≤ (j : Int) := Int.natCast_nonneg _
          have i2 : (j : Int) < (m : Int) := by omega
          clear hcs hw hf hmn HJ
          by_cases hk4 : f.kind < 4
          · have HXF := Lib.hid (HMN.out.dev.fault HOK.out HMN.out.lim HMN.out.limM (by omega))
            have HFF := Lib.hid (HMN.out.fine.fault f hk4)
            go_wp2_with (first
              | ((with_reducible refine wpList_isOp (.load 45 (.tmp 70)) rfl ?_); refine wpList_loading _ rfl 45 (.tmp 70) rfl (.agg (faC f)) ⟨fb, fo + j * 9, none⟩ (by simp [Act.eval]) (by exact HLD.out) ?_)
              | fail)
            refine HXF.out.mono ?_
            rintro e w6 ⟨rfl, h6, k6⟩
            have H7 := Lib.hid (show ∃ d, MnSt w w6 X B d b0 o 8 (putF (bbF b)) (200 + (j + 1)) from ⟨_, HMN.out.next h6 k6 HFF.out ((near_fault d f).lim HMN.out.lim HMN.out.limM)⟩)
            clear h6 k6 HXF HLD c0 HMN
            go_wp2
            go_roundw
            case rel => exact ⟨j + 1, by omega, by go_num, H7⟩
            case measure => simp [intOf]; omega
          · have H7 := Lib.hid (show ∃ d, MnSt w wr X B d b0 o 8 (putF (bbF b)) (200 + (j + 1)) from ⟨_, HMN.out.more (by omega)⟩)
            clear HLD HMN
            go_wp2
            go_roundw
            case rel => exact ⟨j + 1, by omega, by go_num, H7⟩
            case measure => simp [intOf]; omega
        · obtain rfl : j = m := by omega
          obtain ⟨d, hmn⟩ := HJ.out
          have HS : Hid (MnSt w wr X B (rdE d 0) b0 o 8 (putF (bbF b)) (300 + 0)) := hmn.more (by omega)
          have HFD := Lib.hid hmn.fine
          clear hlt hmn HJ
          go_wp2_with fail
          go_loopw [12, 13, 14, 15, 16] (fun c i _ _ _ wr => ∃ s : Nat, s ≤ 8 ∧ i = .int .i64 s ∧ c = .int .i64 ((badTo (bbF b) d s : Nat) : Int) ∧ Hid (MnSt w wr X B (rdE d s) b0 o 8 (putF (bbF b)) (300 + s))) (fun _ i _ _ _ _ => 8 - (intOf i).toNat)
          case atStart => exact ⟨0, Nat.zero_le _, rfl, rfl, HS⟩
          case round =>
            obtain ⟨s, hs, rfl, rfl, HJ⟩ := hrel
            clear HS
            have hbl := badTo_le (bbF b) d s
            obtain ⟨c, hc⟩ : ∃ c, c = badTo (bbF b) d s := ⟨_, rfl⟩
            rw [← hc] at hbl ⊢
            have HC := Lib.hid hc
            clear hc
            by_cases hlt : s < 8
            · have HSB := Lib.hid (show asP (rdE d s) (putF (bbF b) s) = asP d (putF (bbF b) s) from (by
                obtain ⟨r1, r2, r3⟩ := rdE_fine HFD.out s (by omega)
                exact asP_eq HFD.out.qt r1.qt hlt (bbF b) (by rw [r2]) (by rw [r3])))
              have HRR := Lib.hid (HJ.out.dev.read (a := (s : Int)) HJ.out.lim (by omega))
              obtain ⟨E, hE⟩ : ∃ E, E = readE (rdE d s) (s : Int) := ⟨_, rfl⟩
              obtain ⟨r, hr⟩ : ∃ r, r = readL (rdE d s) (s : Int) := ⟨_, rfl⟩
              obtain ⟨z, hz⟩ : ∃ z, z = readZ (rdE d s) (s : Int) := ⟨_, rfl⟩
              obtain ⟨S, hS⟩ : ∃ S, S = eqB r 256 z (fun _ => bbF b s) := ⟨_, rfl⟩
              have hEE : E = 0 ∨ E = 20 := by rw [hE]; exact readE_qt HJ.out.fine.qt hlt
              have HAS := Lib.hid (show asP (rdE d s) (putF (bbF b) s) = (decide (E = 0) && S) from told_asP hE (by rw [hS, hr, hz]))
              rw [← hE, ← hr] at HRR
              have HSS := Lib.hid hS
              have HRZ := Lib.hid (show r = readL (rdE d s) (s : Int) ∧ z = readZ (rdE d s) (s : Int) from ⟨hr, hz⟩)
              clear hE hr hz hS
              go_wp2_with fail
              refine HRR.out.mono ?_
              rintro e w6 ⟨A6, C6, rfl, h6⟩
              have hrow := h6.row
              rw [← HRZ.out.1, ← HRZ.out.2] at hrow
              have h7 := HJ.out.next h6.dev h6.ch (HJ.out.fine.read hlt).1 ((near_read (rdE d s) (s : Int)).lim HJ.out.lim HJ.out.limM)
              obtain ⟨_, sb, so, sC, hp⟩ := h7.puts.get hlt
              have c1 : w6.cell? ⟨b0, o + s * 2 + 1, none⟩ = some (.slice (some ⟨sb, so, none⟩) 256 sC) := hp.c1
              have HSM := Lib.hid (same_any _ _ _ _ _ _ _ _ w6 hrow hp.row)
              change Hid (Calls Try.prog 21 #[.slice A6 r C6, .slice (some ⟨sb, so, none⟩) 256 sC] w6 (Qu (.bool (eqB r 256 z (fun _ => bbF b s))) w6)) at HSM
              rw [← HSS.out] at HSM
              have H7 := Lib.hid h7
              have i1 : (0 : Int) ≤ (s : Int) := Int.natCast_nonneg _
              have i2 : (s : Int) < ((8 : Nat) : Int) := by omega
              clear h6 hrow h7 hp HRR
              go_wp2_with fail
              refine HSM.out.mono ?_
              rintro e w7 ⟨rfl, n7, rfl⟩
              have H8 := Lib.hid (H7.out.gr ((Ch.refl _ w6).drewN n7))
              clear HSM H7 c1
              rcases hEE with rfl | rfl
              · cases S
                · have HB9 := Lib.hid (show c + 1 = badTo (bbF b) d (s + 1) by
                    show _ = badTo (bbF b) d s + (if asP d (putF (bbF b) s) then 0 else 1)
                    rw [← HSB.out, HAS.out, HC.out]; rfl)
                  go_wp2
                  go_roundw
                  case rel => exact ⟨s + 1, by omega, by go_num, by rw [← HB9.out]; go_num, H8⟩
                  case measure => simp [intOf]; omega
                · have HB9 := Lib.hid (show c = badTo (bbF b) d (s + 1) by
                    show _ = badTo (bbF b) d s + (if asP d (putF (bbF b) s) then 0 else 1)
                    rw [← HSB.out, HAS.out, HC.out]; rfl)
                  go_wp2
                  go_roundw
                  case rel => exact ⟨s + 1, by omega, by go_num, by rw [← HB9.out], H8⟩
                  case measure => simp [intOf]; omega
              · have HB9 := Lib.hid (show c + 1 = badTo (bbF b) d (s + 1) by
                  show _ = badTo (bbF b) d s + (if asP d (putF (bbF b) s) then 0 else 1)
                  rw [← HSB.out, HAS.out, HC.out]; rfl)
                go_wp2
                go_roundw
                case rel => exact ⟨s + 1, by omega, by go_num, by rw [← HB9.out]; go_num, H8⟩
                case measure => simp [intOf]; omega
            · obtain rfl : s = 8 := by omega
              obtain ⟨r1, r2, r3⟩ := rdE_fine HFD.out 8 (Nat.le_refl _)
              have hcb : badTo (bbF b) (rdE d 8) 8 = c := by rw [HC.out]; exact badTo_congr HFD.out.qt r1.qt (bbF b) r2 r3 8 (Nat.le_refl _)
              obtain ⟨d2, hd2⟩ : ∃ d2, d2 = rdE d 8 := ⟨_, rfl⟩
              rw [← hd2] at HJ r1 hcb
              obtain ⟨m1, m2, m3, m4, _⟩ := mend_fine (bbF b) r1 8 (Nat.le_refl _)
              have hml := mendTo_lim (f := putF (bbF b)) HJ.out.lim HJ.out.limM 8
              have HX := Lib.hid (HK.out.mendX (C := C0) HJ.out.dev (Ch.refl _ _) HJ.out.puts HI.out (fun i hi => Or.inl hi) HJ.out.lim HJ.out.limM (by omega))
              rw [m1, m2, hcb] at HX
              obtain ⟨d3, hd3⟩ : ∃ d3, d3 = (mendTo (putF (bbF b)) d2 8).d := ⟨_, rfl⟩
              rw [← hd3] at HX m3 m4 hml
              have HM := Lib.hid (And.intro m3 (And.intro m4 hml))
              clear hlt r1 r2 r3 hcb hd2 m1 m2 m3 m4 hml hd3 HFD HC hbl
              go_wp2_with fail
              refine HX.out.mono ?_
              rintro e w6 ⟨rfl, h6, k6⟩
              have H7 := Lib.hid ((HJ.out.next h6 k6 HM.out.1 HM.out.2.2).more (t' := 500) (by omega))
              have HX := Lib.hid (H7.out.dev.crash0 (C := 0) H7.out.lim (by omega))
              rw [crash_qt HM.out.1.qt] at HX
              have HM4 := Lib.hid HM.out.2.1
              clear h6 k6 HJ HM
              go_wp2_with fail
              refine HX.out.mono ?_
              rintro e w7 ⟨rfl, h7, k7⟩
              have HS : Hid (MnSt w w7 X B (rdE d3 0) b0 o 8 (putF (bbF b)) (500 + 0)) := H7.out.next h7 k7 H7.out.fine (And.intro H7.out.lim H7.out.limM)
              have HFD := Lib.hid H7.out.fine
              clear h7 k7 HX H7
              go_wp2_with fail
              go_loopw [19, 20, 21, 22] (fun i _ _ _ wr => ∃ s : Nat, s ≤ 8 ∧ i = .int .i64 s ∧ Hid (MnSt w wr X B (rdE d3 s) b0 o 8 (putF (bbF b)) (500 + s))) (fun i _ _ _ _ => 8 - (intOf i).toNat)
              case atStart => exact ⟨0, Nat.zero_le _, rfl, HS⟩
              case round =>
                obtain ⟨s, hs, rfl, HJ⟩ := hrel
                clear HS
                by_cases hlt : s < 8
                · have HSB := Lib.hid (show asP (rdE d3 s) (putF (bbF b) s) = true from (by
                    obtain ⟨r1, r2, r3⟩ := rdE_fine HFD.out s (by omega)
                    refine (asP_eq HFD.out.qt r1.qt hlt (bbF b) (by rw [r2]) (by rw [r3])).trans ?_
                    exact (asP_qt HFD.out.qt hlt (fun _ => bbF b s)).2 (HM4.out s hlt)))
                  have HRR := Lib.hid (HJ.out.dev.read (a := (s : Int)) HJ.out.lim (by omega))
                  obtain ⟨E, hE⟩ : ∃ E, E = readE (rdE d3 s) (s : Int) := ⟨_, rfl⟩
                  obtain ⟨r, hr⟩ : ∃ r, r = readL (rdE d3 s) (s : Int) := ⟨_, rfl⟩
                  obtain ⟨z, hz⟩ : ∃ z, z = readZ (rdE d3 s) (s : Int) := ⟨_, rfl⟩
                  obtain ⟨S, hS⟩ : ∃ S, S = eqB r 256 z (fun _ => bbF b s) := ⟨_, rfl⟩
                  have hEE : E = 0 ∨ E = 20 := by rw [hE]; exact readE_qt HJ.out.fine.qt hlt
                  have HAS := Lib.hid (show asP (rdE d3 s) (putF (bbF b) s) = (decide (E = 0) && S) from told_asP hE (by rw [hS, hr, hz]))
                  rw [← hE, ← hr] at HRR
                  have HSS := Lib.hid hS
                  have HRZ := Lib.hid (show r = readL (rdE d3 s) (s : Int) ∧ z = readZ (rdE d3 s) (s : Int) from ⟨hr, hz⟩)
                  clear hE hr hz hS
                  go_wp2_with fail
                  refine HRR.out.mono ?_
                  rintro e w6 ⟨A6, C6, rfl, h6⟩
                  have hrow := h6.row
                  rw [← HRZ.out.1, ← HRZ.out.2] at hrow
                  have h7 := HJ.out.next h6.dev h6.ch (HJ.out.fine.read hlt).1 ((near_read (rdE d3 s) (s : Int)).lim HJ.out.lim HJ.out.limM)
                  obtain ⟨_, sb, so, sC, hp⟩ := h7.puts.get hlt
                  have c1 : w6.cell? ⟨b0, o + s * 2 + 1, none⟩ = some (.slice (some ⟨sb, so, none⟩) 256 sC) := hp.c1
                  have HSM := Lib.hid (same_any _ _ _ _ _ _ _ _ w6 hrow hp.row)
                  change Hid (Calls Try.prog 21 #[.slice A6 r C6, .slice (some ⟨sb, so, none⟩) 256 sC] w6 (Qu (.bool (eqB r 256 z (fun _ => bbF b s))) w6)) at HSM
                  rw [← HSS.out] at HSM
                  have H7 := Lib.hid h7
                  have i1 : (0 : Int) ≤ (s : Int) := Int.natCast_nonneg _
                  have i2 : (s : Int) < ((8 : Nat) : Int) := by omega
                  clear h6 hrow h7 hp HRR
                  go_wp2_with fail
                  refine HSM.out.mono ?_
                  rintro e w7 ⟨rfl, n7, rfl⟩
                  have H8 := Lib.hid (H7.out.gr ((Ch.refl _ w6).drewN n7))
                  clear HSM H7 c1
                  have hgood : E = 0 ∧ S = true := by
                    have := HAS.out.symm.trans HSB.out
                    rw [Bool.and_eq_true, decide_eq_true_eq] at this
                    exact this
                  obtain ⟨rfl, rfl⟩ := hgood
                  clear hEE
                  go_wp2
                  go_roundw
                  case rel => exact ⟨s + 1, by omega, by go_num, H8⟩
                  case measure => simp [intOf]; omega
                · obtain rfl : s = 8 := by omega
                  obtain ⟨r1, r2, r3⟩ := rdE_fine HFD.out 8 (Nat.le_refl _)
                  have hbn : badTo (bbF b) (rdE d3 8) 8 = 0 := bad_none r1.qt (fun a ha => ⟨by rw [r3]; exact (HM4.out a ha).1, fun x hx => by rw [r2]; exact (HM4.out a ha).2 x hx⟩) 8 (Nat.le_refl _)
                  obtain ⟨m1, m2, _, _, _⟩ := mend_fine (bbF b) r1 8 (Nat.le_refl _)
                  have HX := Lib.hid (HK.out.mendX (C := C0) HJ.out.dev (Ch.refl _ _) HJ.out.puts HI.out (fun i hi => Or.inl hi) HJ.out.lim HJ.out.limM (by omega))
                  rw [m1, m2, hbn] at HX
                  clear hlt r1 r2 r3 hbn m1 m2 HFD HM4 HJ
                  go_wp2_with fail
                  refine HX.out.mono ?_
                  rintro e w8 ⟨rfl, h8, _⟩
                  have HC8 := Lib.hid h8.ch
                  have t9 : ((c : Int) == (c : Int)) = true := by simp
                  clear h8 HX
                  go_wp2
                  go_ret
                  exact ⟨rfl, HC8.out⟩
#print axioms keepMends_any
end Go.Proofs.Ytjibfoplihaabaa
