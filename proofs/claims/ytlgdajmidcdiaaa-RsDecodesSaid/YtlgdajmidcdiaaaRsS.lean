/-
  The document's solved, walked.
-/
import Derived.Test.YtlgdajmidcdiaaaRsH
import Derived.Deep.DeepCutAuto
namespace Go.Proofs.Ytlgdajmidcdiaaa
open Go.RowKit
set_option linter.unusedVariables false

theorem radd_still' (a b : Nat) (ha : a < 256) (hb : b < 256) (w : World) : Calls Try.prog 20 #[.int .u8 (a : Int), .int .u8 (b : Int)] w fun e w' => e = .returned (.int .u8 (xr a b : Int)) ∧ w' = w :=
  (radd_any (a : Int) (b : Int) (by omega) (by omega) (by omega) (by omega) w).mono fun _ _ ⟨he, hw⟩ => ⟨by rw [he]; simp, hw.symm⟩
theorem rdiv_quiet (a b : Nat) (ha : a < 256) (hb : b < 256) (b0 : 0 < b) (w : World) (k : Nat) : Calls Try.prog 44 #[.int .u8 (a : Int), .int .u8 (b : Int)] (w.drewN k) fun e w' => e = .returned (.tuple #[.int .u8 (Gf.quo a b : Int), .int .i64 0]) ∧ ∃ m, w' = w.drewN m :=
  (rdiv_any (a : Int) (b : Int) (by omega) (by omega) (by omega) (by omega) (w.drewN k)).mono fun _ _ ⟨he, hw⟩ => ⟨by rw [he, Int.toNat_natCast, Int.toNat_natCast, qv_pos (by omega), ze_pos (by omega)], k, hw.symm⟩
theorem bytes_aug (n : Nat) (R : Nat → Nat → Nat) (y : Nat → Nat) (i : Nat) : bytesL n (R i) ++ [Value.int .u8 (y i : Int)] = bytesL (n + 1) (augZ n R y i) := by
  rw [bytesL_snoc]
  congr 1
  · unfold bytesL
    exact List.map_congr_left fun c hc => by unfold augZ; rw [if_pos (List.mem_range.1 hc)]
  · unfold augZ; rw [if_neg (Nat.lt_irrefl _)]
theorem form_len' {w : World} {base : Nat} {e : TypeId} {v : Value} {n : Nat} {xs : List Value} (h : w.ownsRow base e 1 v n xs) : ∃ A C, v = .slice A n C ∧ n ≤ C := by
  rcases h.2 with ⟨rfl, rfl⟩ | ⟨g, cap, cur, rfl, _, _, hc, _⟩
  · exact ⟨none, 0, rfl, Nat.le_refl _⟩
  · exact ⟨_, _, rfl, hc⟩
def SolvedPost (n : Nat) (x : Nat → Nat) (w : World) (e : Ending) (w' : World) : Prop := ∃ v, e = .returned v ∧ w'.ownsRow w.heap.size /-t-/5 1 v n (bytesL n x) ∧ Ch (fun _ => False) w w'
def GridAt (w wr : World) (g n c : Nat) (x : Nat → Nat) : Prop := ∃ B K Z, Grid w.heap.size wr g n (n + 1) B K Z ∧ Elim n c x Z ∧ Ch (fun _ => False) w wr
structure AugAt (wr w4 : World) (gb n capb : Nat) (z : Nat → Nat) : Prop where
  ch : Ch (fun _ => False) wr w4
  row : BRow w4 gb (n + 1) z
  lo : wr.heap.size ≤ gb
  cap : n + 1 ≤ capb
theorem aug_step {wr w3 w4 : World} {v : Value} {n i gb capb : Nat} {R : Nat → Nat → Nat} {y : Nat → Nat} (hown : w3.ownsRow wr.heap.size /-t-/5 1 v n (bytesL n (R i))) (hc2 : Ch (fun _ => False) wr w3) (hR : AllB R) (hy : ∀ i, y i < 256) (c : Array Value) (t : TypeId)
    (h1 : w4.ownsRow wr.heap.size /-t-/5 1 (.slice (some ⟨gb, 0, none⟩) (n + 1) capb) (n + 1) (bytesL n (R i) ++ [Value.int .u8 (y i : Int)])) (h2 : (w3.alloc (.cells c t)).grownBy w4 v.ownBlock) : AugAt wr w4 gb n capb (augZ n R y i) := by
  rw [bytes_aug] at h1
  obtain ⟨_, _, e, hcap⟩ := form_len' h1
  injection e with e1 e2 e3
  exact ⟨(hc2.alloc c t).grown h2 (fun q hq => Or.inr (World.ownsRow.lt hown q hq).1), owns_brow h1 (fun c _ => by unfold augZ; split; exact hR _ _; exact hy _), (World.ownsRow.lt h1 gb rfl).1, by omega⟩
set_option maxHeartbeats 6400000 in
set_option maxRecDepth 100000 in
theorem solved_any (vr : Value) (by' oy n Cy : Nat) (R : Nat → Nat → Nat) (y x : Nat → Nat) (w : World) (n1 : 1 ≤ n) (n64 : n ≤ 64) (hr : MatV w vr n (fun _ => n) R) (hR : AllB R) (hs : Sure n R) (hy : ∀ i, i < n → w.cell? ⟨by', oy + i, none⟩ = some (.int .u8 (y i : Int))) (hyb : ∀ i, y i < 256) (hx : ∀ j, x j < 256) (hsol : ∀ r, r < n → rowSum n R x r = y r) :
    Calls Try.prog 31 #[vr, .slice (some ⟨by', oy, none⟩) n Cy] w (SolvedPost n x w) := by
  obtain ⟨A', C', rfl, hAC, hA3⟩ := id hr
  obtain ⟨b, o, rfl, hrows⟩ := hA3 (by omega)
  have HR := Lib.hid hrows
  have HRB := Lib.hid hR
  have HY := Lib.hid hy
  have HYB := Lib.hid hyb
  have HX := Lib.hid hx
  have HEL := Lib.hid (Elim.start hR hyb hs hsol)
  obtain ⟨i0, hi, hz0, hz1, hz2⟩ := info_parts Try.info33
  obtain ⟨j0, gi, gz0, gz1, gz2⟩ := info_parts Try.info5
  clear hA3 hrows hr hR hs hy hyb hx hsol hAC
  go_enter Try.func31, Try.ntmps31
  go_wp2
  go_loopw [6, 7, 8] (fun v t _ wr => ∃ i : Nat, i ≤ n ∧ t = .int .i64 i ∧ Hid (Ch (fun _ => False) w wr ∧ ∃ B K, GridL w.heap.size wr v i (n + 1) B K (augZ n R y))) (fun _ t _ _ => n - (intOf t).toNat)
  case atStart => exact ⟨0, Nat.zero_le _, rfl, Lib.hid ⟨Ch.refl _ _, fun _ => 0, fun _ => 0, World.ownsRow_nil _ _ _ _, fun r hr => absurd hr (Nat.not_lt_zero r), fun r s hr => absurd hr (Nat.not_lt_zero r), fun r hr => absurd hr (Nat.not_lt_zero r), fun r hr => absurd hr (Nat.not_lt_zero r), fun r hr => absurd hr (Nat.not_lt_zero r)⟩⟩
  case round =>
    obtain ⟨i, hin, rfl, HP⟩ := hrel
    by_cases hlt : i < n
    · obtain ⟨xv, cx, hxr⟩ := HR.out i hlt
      obtain ⟨hch, B, K, hgl⟩ := HP.out
      have c1 := hch.cell cx (fun f => f)
      have hxw := hxr.ch hch (fun _ _ f => f)
      obtain ⟨Ax, Cx, rfl, hcx, _⟩ := id hxw
      obtain ⟨v1, w3, hrun, hown, hc2⟩ := app_copy hxw (by omega)
      have cy := (hch.trans hc2).cell (HY.out i hlt) (fun f => f)
      obtain ⟨A1, C1, rfl, _⟩ := form_len' hown
      have HAP := Lib.hid (app_mk (x := .int .u8 (y i : Int)) hown hc2.size rfl (by omega))
      have HM1 := Lib.hid (show (n + 1) * 1 ≤ 140737488355328 by omega)
      have HM2 := Lib.hid (show (i + 1) * 24 ≤ 140737488355328 by omega)
      have HRUN := Lib.hid hrun
      have HOW := Lib.hid hown
      have HC2 := Lib.hid hc2
      have HGL := Lib.hid hgl
      have HCH := Lib.hid hch
      clear hrun hown hc2 hgl hch hxw cx hxr HP
      go_wp2_with (first | (at_builtin; refine wpList_copy_of _ rfl (.const (.slice none 0 0)) (.tmp 31) rfl rfl (.slice none 0 0) (.slice Ax n Cx) (.slice A1 n C1) w3 rfl rfl HRUN.out ?_) | (at_builtin; refine wpList_append_lies _ rfl (.tmp 34) (.tmp 39) /-t-/33 rfl wr.heap.size /-t-/5 j0 (.int .u8 0) 1 1 Try.underlying33 gi gz0 gz1 gz2 rfl (by decide) (.slice A1 n C1) n (bytesL n (R i)) rfl HAP.out.o ⟨w3.heap.size, 0, none⟩ 1 1 [.int .u8 (y i : Int)] rfl rfl HAP.out.n HAP.out.c (by decide) HAP.out.m HM1.out HAP.out.b (w3.heap.size + 1) HAP.out.s ?_; intro gb capb w4 h1 h2 h3 h4; have HAU := Lib.hid (aug_step HOW.out HC2.out HRB.out HYB.out _ _ h1 h2); have HAP2 := Lib.hid (app_mk (x := .slice (some ⟨gb, 0, none⟩) (n + 1) capb) (ownsRow_ch HGL.out.own HAU.out.ch) (Nat.le_trans HCH.out.size HAU.out.ch.size) rfl (by omega)); clear h1 h2 h3 h4) | (at_builtin; refine wpList_append_lies _ rfl (.tmp 33) (.tmp 41) /-t-/22 rfl w.heap.size /-t-/33 i0 (.slice none 0 0) 1 24 Try.underlying22 hi hz0 hz1 hz2 rfl (by decide) u6 i (valsL i (rowF (n + 1) B K)) rfl HAP2.out.o ⟨w4.heap.size, 0, none⟩ 1 1 [.slice (some ⟨gb, 0, none⟩) (n + 1) capb] rfl rfl HAP2.out.n HAP2.out.c (by decide) HAP2.out.m HM2.out HAP2.out.b (w4.heap.size + 1) HAP2.out.s ?_; intro g cap w5 k1 k2 k3 k4))
      have HN := Lib.hid (show Ch (fun _ => False) w w5 ∧ ∃ B K, GridL w.heap.size w5 (.slice (some ⟨g, 0, none⟩) (i + 1) cap) (i + 1) (n + 1) B K (augZ n R y) from ⟨((HCH.out.trans HAU.out.ch).alloc _ _).grown k2 (fun q hq => Or.inr (World.ownsRow.lt HGL.out.own q hq).1), _, _, HGL.out.more HAU.out.lo HCH.out.size HAU.out.ch HAU.out.row HAU.out.cap k1 _ k2 k3⟩)
      clear k1 k2 k3 k4
      go_wp2
      go_roundw
      case rel => exact ⟨i + 1, by omega, by go_num, HN⟩
      case measure => simp [intOf]; omega
    · have HE := Lib.hid (show i = n by omega)
      obtain ⟨hch, B, K, hgl⟩ := HP.out
      rw [HE.out] at hgl
      obtain ⟨g, cap, rfl, _, _⟩ := World.ownsRow.form hgl.own (by omega)
      have H0 := Lib.hid (show GridAt w wr g n 0 x from ⟨B, K, _, hgl.grid, HEL.out, hch⟩)
      clear hch hgl HP HR HY
      go_wp2
      go_loopw [9, 10, 11, 12, 13, 14, 15, 16] (fun t _ _ _ _ _ _ _ wr => ∃ c : Nat, c ≤ n ∧ t = .int .i64 c ∧ Hid (GridAt w wr g n c x)) (fun t _ _ _ _ _ _ _ _ => n - (intOf t).toNat)
      case atStart => exact ⟨0, Nat.zero_le _, rfl, H0⟩
      case round =>
        obtain ⟨c, hcn, rfl, HG⟩ := hrel
        by_cases hlt : c < n
        · obtain ⟨B, K, Z, hg, hel, hch⟩ := HG.out
          have HGR := Lib.hid hg
          have HEZ := Lib.hid hel
          have HCH := Lib.hid hch
          clear hg hel hch HG
          go_wp2
          go_loop [10] (fun t => ∃ p : Nat, c ≤ p ∧ p < n ∧ t = .int .i64 p ∧ Hid (∀ r, c ≤ r → r < p → Z r c = 0)) (fun t => n - (intOf t).toNat)
          case atStart => exact ⟨c, Nat.le_refl _, hlt, rfl, Lib.hid fun r h1 h2 => by omega⟩
          case round =>
            obtain ⟨p, hcp, hpn, rfl, HZ⟩ := hrel
            obtain ⟨tp, fp⟩ := HGR.out.topAt hpn
            obtain ⟨zp, _, zp8⟩ := HGR.out.at hpn (show c < n + 1 by omega)
            have ic1 : c < n + 1 := by omega
            have ic2 : (c : Int) < (n : Int) + 1 := by omega
            by_cases hA : p < n - 1 ∧ Z p c = 0
            · obtain ⟨hp1, hz⟩ := hA
              have ta : decide ((p : Int) < (n : Int) - 1) = true := by simp; omega
              rw [hz] at zp
              have HN := Lib.hid (show ∀ r, c ≤ r → r < p + 1 → Z r c = 0 from fun r h1 h2 => by
                by_cases e : r = p
                · rw [e]; exact hz
                · exact HZ.out r h1 (by omega))
              clear hz
              go_wp2
              go_round
              case rel => exact ⟨p + 1, by omega, by omega, by go_num, HN⟩
              case measure => simp [intOf]; omega
            · have hpiv : 0 < Z p c := by
                by_cases q : Z p c = 0
                · exact (HEZ.out.pivot hlt fun r h1 h2 => by
                    by_cases e : r < p
                    · exact HZ.out r h1 e
                    · have : r = p := by
                        by_cases e2 : p < n - 1
                        · exact absurd ⟨e2, q⟩ hA
                        · omega
                      rw [this]; exact q).elim
                · omega
              have hex : (decide ((p : Int) < (n : Int) - 1) = true ∧ ((Z p c : Int) == 0) = false) ∨ decide ((p : Int) < (n : Int) - 1) = false := by
                by_cases e2 : p < n - 1
                · exact Or.inl ⟨by simp; omega, by rw [beq_eq_false_iff_ne]; omega⟩
                · exact Or.inr (by simp; omega)
              obtain ⟨tc, fc⟩ := HGR.out.topAt hlt
              obtain ⟨tm, fm⟩ := HGR.out.mid hlt hpn
              obtain ⟨B2, K2, Z1, hg2, he2, hz2, hch2⟩ := HGR.out.swapped HEZ.out HCH.out hlt hcp hpn hpiv
              have HG2 := Lib.hid hg2
              have HE2 := Lib.hid he2
              have HC2 := Lib.hid hch2
              have HZ2 := Lib.hid hz2
              clear hg2 he2 hch2 hz2 hA
              rcases hex with ⟨ta, tb⟩ | ta
              all_goals
                go_upto_region 17 with (fail)
                obtain ⟨w2, hw2⟩ : ∃ w2, w2 = (wr.setCell ⟨g, c, none⟩ (.slice (some ⟨B p, 0, none⟩) (n + 1) (K p))).setCell ⟨g, p, none⟩ (.slice (some ⟨B c, 0, none⟩) (n + 1) (K c)) := ⟨_, rfl⟩
                rw [← hw2]
                rw [← hw2] at HG2 HC2
                clear hw2 tc fc tm fm tp fp zp
                clear HGR HEZ HCH HZ
                go_wp2
                go_loopw [12, 13, 14, 15, 16] (fun t _ _ _ _ wr => ∃ i : Nat, i ≤ n ∧ t = .int .i64 i ∧ Hid (Grid w.heap.size wr g n (n + 1) B2 K2 (lessQ c i Z1) ∧ Ch (fun _ => False) w wr)) (fun t _ _ _ _ _ => n - (intOf t).toNat)
                case atStart => exact ⟨0, Nat.zero_le _, rfl, Lib.hid ⟨HG2.out.congr fun r j _ _ => by unfold lessQ; rw [if_neg (fun h => Nat.not_lt_zero _ h.1)], HC2.out⟩⟩
                case round =>
                  obtain ⟨i, hin2, rfl, HI⟩ := hrel
                  by_cases hlt2 : i < n
                  · by_cases hic : i = c
                    · have tic : ((i : Int) == (c : Int)) = true := by simp; omega
                      have HN := Lib.hid (show Grid w.heap.size wr g n (n + 1) B2 K2 (lessQ c (i + 1) Z1) ∧ Ch (fun _ => False) w wr from ⟨HI.out.1.congr fun r j _ _ => by rw [hic]; exact lessQ_skip r j, HI.out.2⟩)
                      clear hic
                      go_wp2
                      go_roundw
                      case rel => exact ⟨i + 1, by omega, by go_num, HN⟩
                      case measure => simp [intOf]; omega
                    · have tic : ((i : Int) == (c : Int)) = false := by simp; omega
                      obtain ⟨tc, _⟩ := HI.out.1.topAt hlt
                      obtain ⟨ti, _⟩ := HI.out.1.topAt hlt2
                      obtain ⟨zc, _, zc8⟩ := HI.out.1.at hlt ic1
                      obtain ⟨zi, _, zi8⟩ := HI.out.1.at hlt2 ic1
                      rw [lessQ_c] at zc zc8
                      have eli : lessQ c i Z1 i c = Z1 i c := by unfold lessQ; rw [if_neg (fun h => Nat.lt_irrefl _ h.1)]
                      rw [eli] at zi zi8
                      have zpos := HZ2.out
                      have tz : ((Z1 c c : Int) == 0) = false := by rw [beq_eq_false_iff_ne]; omega
                      clear eli
                      go_wp2
                      go_quiet ((go_at_call 44; exact rdiv_quiet _ _ zi8 zc8 zpos _ _))
                      go_wp2
                      obtain ⟨w3, hw3⟩ : ∃ w3, w3 = wr.drewN nq := ⟨_, rfl⟩
                      rw [← hw3]
                      have H5 := Lib.hid (show Grid w.heap.size w3 g n (n + 1) B2 K2 (partQ c i (Gf.quo (Z1 i c) (Z1 c c)) 0 (lessQ c i Z1)) ∧ Ch (fun _ => False) w w3 by
                        rw [hw3]
                        exact ⟨(HI.out.1.drewN _).congr fun r j _ _ => (partQ_zero _ _ _ _ r j).symm, HI.out.2.drewN _⟩)
                      have hq8 := Gf.quo_lt (Z1 i c) (Z1 c c)
                      obtain ⟨q, hq⟩ : ∃ q, q = Gf.quo (Z1 i c) (Z1 c c) := ⟨_, rfl⟩
                      have HQ := Lib.hid hq
                      rw [← hq]
                      rw [← hq] at H5 hq8
                      clear hw3 tc ti zc zi tz hq HI
                      go_loopw [15, 16] (fun t _ wi => ∃ k : Nat, k ≤ n + 1 ∧ t = .int .i64 k ∧ Hid (Grid w.heap.size wi g n (n + 1) B2 K2 (partQ c i q k (lessQ c i Z1)) ∧ Ch (fun _ => False) w wi)) (fun t _ _ => n + 1 - (intOf t).toNat)
                      case atStart => exact ⟨0, Nat.zero_le _, rfl, H5⟩
                      case round =>
                        obtain ⟨k, hkn, rfl, HK⟩ := hrel
                        by_cases hlt3 : k < n + 1
                        · have tk : decide (k ≤ n) = true := decide_eq_true (by omega)
                          have hci : c ≠ i := fun e => hic e.symm
                          obtain ⟨tc, _⟩ := HK.out.1.topAt hlt
                          obtain ⟨ti, _⟩ := HK.out.1.topAt hlt2
                          obtain ⟨zc, _, zc8⟩ := HK.out.1.at hlt hlt3
                          obtain ⟨zi, fi, zi8⟩ := HK.out.1.at hlt2 hlt3
                          rw [partQ_c hci] at zc zc8
                          rw [partQ_i] at zi zi8
                          have ik2 : (k : Int) < (n : Int) + 1 := by omega
                          have hm8 := Gf.mul_lt q (lessQ c i Z1 c k)
                          clear hci
                          go_wp2_with fail
                          refine (rmul_any _ _ (by omega) (by omega) (by omega) (by omega) _).mono ?_
                          rintro e w4 ⟨rfl, rfl⟩
                          rw [Int.toNat_natCast, Int.toNat_natCast]
                          go_wp2
                          go_still_tail 15, (by kernel_rfl)
                          still_call (radd_still' _ _ zi8 hm8 _)
                          repeat still_step
                          refine wpStill_nil ?_
                          change wpList _ _ _ _ _ wr.drew
                          go_wp2
                          have HN := Lib.hid (show Grid w.heap.size (wr.drew.setCell ⟨B2 i, k, none⟩ (.int .u8 (xr (lessQ c i Z1 i k) (Gf.mul q (lessQ c i Z1 c k)) : Int))) g n (n + 1) B2 K2 (partQ c i q (k + 1) (lessQ c i Z1)) ∧ Ch (fun _ => False) w (wr.drew.setCell ⟨B2 i, k, none⟩ (.int .u8 (xr (lessQ c i Z1 i k) (Gf.mul q (lessQ c i Z1 c k)) : Int))) from ⟨(HK.out.1.drew.setRow hlt2 k _ (xr_lt8 zi8 hm8)).congr fun r j _ _ => partQ_next (fun e => hic e.symm) r j, HK.out.2.drew.setCell (p := ⟨B2 i, k, none⟩) (Or.inr (HK.out.1.lo.2 i hlt2)) _⟩)
                          clear tc ti zc zi fi
                          go_roundw
                          case rel => exact ⟨k + 1, by omega, by go_num, HN⟩
                          case measure => simp [intOf]; omega
                        · have tk : decide (k ≤ n) = false := decide_eq_false (by omega)
                          have HKE := Lib.hid (show k = n + 1 by omega)
                          have HN := Lib.hid (show Grid w.heap.size wr g n (n + 1) B2 K2 (lessQ c (i + 1) Z1) ∧ Ch (fun _ => False) w wr from by
                            have h1 := HK.out
                            rw [HKE.out, HQ.out] at h1
                            exact ⟨h1.1.congr fun r j _ hj => partQ_done hic r j hj, h1.2⟩)
                          go_wp2
                          go_roundw
                          case rel => exact ⟨i + 1, by omega, by go_num, HN⟩
                          case measure => simp [intOf]; omega
                  · have HIE := Lib.hid (show i = n by omega)
                    have HN := Lib.hid (show GridAt w wr g n (c + 1) x from by
                      have h1 := HI.out
                      rw [HIE.out] at h1
                      exact ⟨B2, K2, _, h1.1, HE2.out.less HX.out hlt HZ2.out, h1.2⟩)
                    go_wp2
                    go_roundw
                    case rel => exact ⟨c + 1, by omega, by go_num, HN⟩
                    case measure => simp [intOf]; omega
        · have HCE := Lib.hid (show c = n by omega)
          obtain ⟨B, K, Z, hg, hel, hch⟩ := HG.out
          rw [HCE.out] at hel
          obtain ⟨w2, rfl⟩ : ∃ w2 : World, w2 = wr := ⟨_, rfl⟩
          have HGR := Lib.hid hg
          have HEZ := Lib.hid hel
          have HCH := Lib.hid hch
          clear hg hel hch HG
          go_wp2
          go_loopw [17, 18, 19, 20] (fun v t _ _ wr => ∃ i : Nat, i ≤ n ∧ t = .int .i64 i ∧ Hid (Ch (fun _ => False) w2 wr ∧ wr.ownsRow w2.heap.size /-t-/5 1 v i (bytesL i x))) (fun _ t _ _ _ => n - (intOf t).toNat)
          case atStart => exact ⟨0, Nat.zero_le _, rfl, Lib.hid ⟨Ch.refl _ _, World.ownsRow_nil _ _ _ _⟩⟩
          case round =>
            obtain ⟨i, hin2, rfl, HI⟩ := hrel
            by_cases hlt2 : i < n
            · have hgr := HGR.out.ch (w0 := w) HI.out.1
              obtain ⟨ti, _⟩ := hgr.topAt hlt2
              obtain ⟨zn, _, zn8⟩ := hgr.at hlt2 (show n < n + 1 by omega)
              obtain ⟨zi, _, zi8⟩ := hgr.at hlt2 (show i < n + 1 by omega)
              have zpos := HEZ.out.diag i hlt2
              have hdone := HEZ.out.done HX.out hlt2
              have HD := Lib.hid hdone
              have in1 : n < n + 1 := by omega
              have ii1 : i < n + 1 := by omega
              have ii2 : (i : Int) < (n : Int) + 1 := by omega
              have in2 : (n : Int) < (n : Int) + 1 := by omega
              clear hgr hdone
              go_wp2
              go_quiet ((go_at_call 44; exact rdiv_quiet _ _ zn8 zi8 zpos _ _))
              rw [HD.out]
              obtain ⟨w3, hw3⟩ : ∃ w3, w3 = wr.drewN nq := ⟨_, rfl⟩
              rw [← hw3]
              have hI3 : Ch (fun _ => False) w2 w3 ∧ w3.ownsRow w2.heap.size /-t-/5 1 u17 i (bytesL i x) := by
                rw [hw3]; exact ⟨HI.out.1.drewN _, ownsRow_ch HI.out.2 ((Ch.refl _ _).drewN _)⟩
              have HI3 := Lib.hid hI3
              have HAP := Lib.hid (app_mk (x := .int .u8 (x i : Int)) hI3.2 hI3.1.size rfl (by omega))
              have HM1 := Lib.hid (show (i + 1) * 1 ≤ 140737488355328 by omega)
              clear hw3 hI3 ti zn zi HI
              go_wp2_with (at_builtin; refine wpList_append_lies _ rfl (.tmp 168) (.tmp 170) /-t-/33 rfl w2.heap.size /-t-/5 j0 (.int .u8 0) 1 1 Try.underlying33 gi gz0 gz1 gz2 rfl (by decide) u17 i (bytesL i x) rfl HAP.out.o ⟨w3.heap.size, 0, none⟩ 1 1 [.int .u8 (x i : Int)] rfl rfl HAP.out.n HAP.out.c (by decide) HAP.out.m HM1.out HAP.out.b (w3.heap.size + 1) HAP.out.s ?_; intro gb capb w4 h1 h2 h3 h4)
              have hnext := row_more (z := x) HI3.out.1 HI3.out.2 (Nat.le_refl _) _ _ h1 h2
              have HN := Lib.hid (show Ch (fun _ => False) w2 w4 ∧ w4.ownsRow w2.heap.size /-t-/5 1 (.slice (some ⟨gb, 0, none⟩) (i + 1) capb) (i + 1) (bytesL (i + 1) x) from ⟨hnext.2, hnext.1⟩)
              clear h1 h2 h3 h4 hnext
              go_wp2
              go_roundw
              case rel => exact ⟨i + 1, by omega, by go_num, HN⟩
              case measure => simp [intOf]; omega
            · have HIE := Lib.hid (show i = n by omega)
              go_wp2
              go_ret
              exact ⟨_, rfl, by have := HI.out.2; rw [HIE.out] at this; exact ownsRow_low this HCH.out.size, HCH.out.trans HI.out.1⟩
#print axioms solved_any
end Go.Proofs.Ytlgdajmidcdiaaa
