/-
  crc.Seal, walked. The document's differ, Sum, Same, Seal and Whole (quartermasterref04), walked. The document's Seal (quartermasterref04), walked. block.lay and head; the document's word (quartermasterref07), walked.
-/
import Derived.Test.YteleknojohnlbaaGreatMc11
import Derived.Deep.DeepCutAuto
import Derived.Test.YteleknojohnlbaaGreatMc2
namespace Go.Proofs.YteleknojohnlbaaGreat
open Go.RowKit
set_option linter.unusedVariables false
set_option maxRecDepth 100000
def NewRow (n : Nat) (z : Nat → Nat) (w : World) (e : Ending) (w' : World) : Prop :=
  ∃ g C, e = .returned (.slice (some ⟨g, 0, none⟩) n C) ∧ w'.ownsRow w.heap.size /-t-/5 1 (.slice (some ⟨g, 0, none⟩) n C) n (bytesL n z) ∧ Ch (fun _ => False) w w'
theorem owns_some {w : World} {base n : Nat} {v : Value} {xs : List Value} (h : w.ownsRow base /-t-/5 1 v n xs) (hn : 0 < n) : ∃ g C, v = .slice (some ⟨g, 0, none⟩) n C ∧ n ≤ C := by
  rcases h.2 with ⟨_, h0⟩ | ⟨g, cap, cur, rfl, _, _, hc, _⟩
  · omega
  · exact ⟨g, cap, rfl, hc⟩
theorem cpy_row {w : World} {g n c : Nat} {A : Option Addr} {C base : Nat} {z : Nat → Nat} {cur : Array Value} (hg : w.heap[g]? = some (.cells cur /-t-/5 (0, 0))) (hs : cur.size = c) (hn : n ≤ c) (hc : c ≤ maxLen) (hb : base ≤ g) (h : RowV w (.slice A n C) n z) :
    ∃ w', (∀ ty, (Builtin.copy_ #[ /-t-/24, /-t-/24] ty #[.slice (some ⟨g, 0, none⟩) n c, .slice A n C]).run Tryz.prog w = .ok (goInt n) w') ∧ w'.ownsRow base /-t-/5 1 (.slice (some ⟨g, 0, none⟩) n c) n (bytesL n z) ∧ w.grownBy w' (some g) := by
  by_cases h0 : n = 0
  · subst h0
    refine ⟨w, fun ty => run_copy_none w /-t-/24 /-t-/24 ty /-t-/5 _ _ 0 c 0 C Tryz.underlying24 size_byte rfl, ⟨rfl, Or.inr ⟨g, c, cur, rfl, hb, hg, hn, hc, by omega, by simp [bytesL]⟩⟩, ⟨rfl, rfl, rfl, Nat.le_refl _, fun _ _ _ => rfl⟩⟩
  · obtain ⟨_, _, e, hl, h3⟩ := h
    injection e with e _ _
    subst e
    obtain ⟨b, o, rfl, h4⟩ := h3 (by omega)
    have hrun := fun ty => run_copy_row (P := Tryz.prog) w /-t-/24 /-t-/24 ty /-t-/5 g 0 n c ⟨b, o, none⟩ n C cur /-t-/5 (bytesL n z) Tryz.underlying24 size_byte hg (by rw [bytesL_len]; simp) (fun j v hv => by
      by_cases q : j < n
      · rw [bytesL_get q] at hv
        rw [add_pl, (h4 j q).1]
        exact hv
      · rw [bytesL_none q] at hv
        cases hv) (by rw [bytesL_len]; omega) bytesL_one
    rw [bytesL_len] at hrun
    refine ⟨_, hrun, ⟨by rw [bytesL_len, Nat.mul_one], Or.inr ⟨g, c, _, rfl, hb, setRow_heap w g cur _ /-t-/5 _ hg, hn, hc, ?_, ?_⟩⟩, ⟨rfl, rfl, rfl, by simp, fun k _ hk => setRow_other w g k _ (fun e => hk (by simp [e]))⟩⟩
    · simp [bytesL_len]; omega
    · simp only [Nat.mul_one, List.take_zero, List.nil_append]
      rw [List.take_append_of_le_length (by rw [bytesL_len]; omega), List.take_of_length_le (by rw [bytesL_len]; omega)]
theorem seal_join (n : Nat) (z : Nat → Nat) : bytesL (n + 4) (jnZ n z (Crc.byteOf (Crc.sumZ n z))) = bytesL (n + 4) (Crc.sealZ n z) := bytesL_congr fun c _ => rfl
set_option maxHeartbeats 800000 in
theorem seal_any (A : Option Addr) (n C : Nat) (z : Nat → Nat) (w : World) (hn : n ≤ 65536) (h : RowV w (.slice A n C) n z) : Calls Tryz.prog 73 #[.slice A n C] w (NewRow (n + 4) (Crc.sealZ n z) w) := by
  obtain ⟨i0, hi, hz0, hz1, hz2⟩ := info_parts Tryz.info5
  have hmk : ∀ w : World, (Instr.makeSlice /-t-/24 (.int .i64 (n : Int)) (.int .i64 ((n : Int) + 4))).run Tryz.prog w = .ok (.slice (some ⟨w.heap.size, 0, none⟩) n (n + 4)) (w.alloc (.cells (madeCells #[.int .u8 0] (n + 4)) /-t-/5)) := fun w => by
    have := run_make (P := Tryz.prog) w /-t-/24 /-t-/5 i0 (.int .u8 0) Tryz.underlying24 hi hz0 .i64 .i64 (n : Int) ((n : Int) + 4) (by omega) (by omega) (by rw [hz2]; omega) (by omega)
    rw [hz1, Nat.mul_one, Int.toNat_natCast, show ((n : Int) + 4).toNat = n + 4 by omega] at this
    exact this
  have HV := Lib.hid h
  have HG := Lib.hid (heap_alloc_new w (.cells (madeCells #[.int .u8 0] (n + 4)) /-t-/5))
  obtain ⟨w2, hrun, hown, hgr⟩ := cpy_row (base := w.heap.size) HG.out (size_madeCells _ _) (Nat.le_add_right n 4) (by unfold maxLen; omega) (Nat.le_refl _) (h.gr ((Ch.refl _ w).alloc _ _))
  have hch := ((Ch.refl (fun _ => False) w).alloc (madeCells #[.int .u8 0] (n + 4)) /-t-/5).grown hgr (fun i e => Or.inr (by injection e with e; omega))
  have HRUN := Lib.hid hrun
  have HOWN := Lib.hid hown
  have HC := Lib.hid hch
  have HB := Lib.hid h.bytes
  clear h hrun hown hgr hch hi hz0 hz1 hz2
  go_enter Tryz.func73, Tryz.ntmps73
  go_wp2_with (refine wpList_cpy_of _ rfl (.tmp 10) (.tmp 11) rfl _ _ _ w2 rfl rfl HRUN.out ?_)
  refine (sum_any _ _ _ z _ (HV.out.gr HC.out)).mono ?_
  rintro e w3 ⟨rfl, hch3⟩
  have HC3 := Lib.hid (HC.out.trans hch3)
  have HO3 := Lib.hid (ownsRow_ch HOWN.out hch3)
  clear hch3 HOWN HRUN
  go_wp2_with fail
  refine (lay_any _ (Crc.sumZ_lt HB.out) _).mono ?_
  rintro e w4 ⟨rfl, rfl⟩
  obtain ⟨v', w5, hr5, ho5, hg5, _⟩ := app_row (HO3.out.alloc (.cells (layL (Crc.sumZ n z)) /-t-/5)) (by simp; have := HC3.out.size; omega) (lay_row (Crc.sumZ n z) w3) (by omega)
  obtain ⟨g5, C5, rfl, _⟩ := owns_some ho5 (by omega)
  rw [seal_join] at ho5
  have HR5 := Lib.hid hr5
  have HO5 := Lib.hid ho5
  have HC5 := Lib.hid ((HC3.out.alloc (layL (Crc.sumZ n z)) /-t-/5).grown hg5 (fun i e => Or.inr (by
    have := (World.ownsRow.lt HO3.out i e).1
    omega)))
  clear hr5 ho5 hg5
  go_wp2_with (at_builtin; refine wpList_app_of _ rfl (.tmp 13) (.tmp 16) rfl rfl _ _ _ w5 rfl rfl HR5.out ?_)
  go_ret
  exact ⟨_, _, rfl, HO5.out, HC5.out⟩
end Go.Proofs.YteleknojohnlbaaGreat
namespace Go.Proofs.YteleknojohnlbaaGreat
open Go.RowKit
set_option linter.unusedVariables false
set_option maxRecDepth 100000
def pw (k : Nat) : Nat := 2 ^ k
def dn (a k : Nat) : Nat := a / 2 ^ k
def lo (a b k : Nat) : Nat := (a ^^^ b) % 2 ^ k
theorem pw_succ (k : Nat) : pw (k + 1) = pw k * 2 := Nat.pow_succ ..
theorem pw_le {k : Nat} (h : k ≤ 32) : pw k ≤ 4294967296 := Nat.pow_le_pow_right (n := 2) (by omega) h
theorem dn_succ (a k : Nat) : dn a (k + 1) = dn a k / 2 := by unfold dn; rw [Nat.pow_succ, Nat.div_div_eq_div_mul]
theorem lo_lt (a b k : Nat) : lo a b k < pw k := Nat.mod_lt _ (Nat.pow_pos (by omega))
theorem lo_bit (a b k : Nat) : lo a b (k + 1) = lo a b k + pw k * ((dn a k % 2) ^^^ (dn b k % 2)) := by
  unfold lo pw dn
  rw [Nat.pow_succ, Nat.mod_mul, Nat.xor_div_two_pow, Crc.xor_odd]
theorem lo_yes {a b k : Nat} (h : ¬ dn a k % 2 = dn b k % 2) : lo a b (k + 1) = lo a b k + pw k := by
  rw [lo_bit]
  rcases Nat.mod_two_eq_zero_or_one (dn a k) with ha | ha <;> rcases Nat.mod_two_eq_zero_or_one (dn b k) with hb | hb <;> rw [ha, hb] at h ⊢
  · exact absurd rfl h
  · simp
  · simp
  · exact absurd rfl h
theorem lo_no {a b k : Nat} (h : dn a k % 2 = dn b k % 2) : lo a b (k + 1) = lo a b k := by
  rw [lo_bit, h, Nat.xor_self]; simp
theorem lo_all {a b : Nat} (ha : a < 4294967296) (hb : b < 4294967296) : lo a b 32 = a ^^^ b := Nat.mod_eq_of_lt (Crc.xor_lt ha hb)
set_option maxHeartbeats 800000 in
set_option maxRecDepth 100000 in
theorem differ_any (a b : Nat) (ha : a < 4294967296) (hb : b < 4294967296) (w : World) : Calls Tryz.prog 97 #[.int .i64 (a : Int), .int .i64 (b : Int)] w fun e w' => e = .returned (.int .i64 ((a ^^^ b : Nat) : Int)) ∧ w = w' := by
  have HE := Lib.hid (lo_all ha hb)
  have H0 := Lib.hid (show dn a 0 = a ∧ dn b 0 = b ∧ lo a b 0 = 0 ∧ pw 0 = 1 from ⟨Nat.div_one a, Nat.div_one b, Nat.mod_one _, rfl⟩)
  obtain ⟨T, hT⟩ : ∃ T : Nat, T = 4294967296 := ⟨_, rfl⟩
  have HP0 := Lib.hid (show (∀ k, k ≤ 32 → pw k ≤ T) ∧ (∀ k, dn a k ≤ T) ∧ (∀ k, dn b k ≤ T) from ⟨fun k hk => by rw [hT]; exact pw_le hk, fun k => by rw [hT]; exact Nat.le_trans (Nat.div_le_self _ _) (Nat.le_of_lt ha), fun k => by rw [hT]; exact Nat.le_trans (Nat.div_le_self _ _) (Nat.le_of_lt hb)⟩)
  have hT' : T ≤ 4294967296 := by omega
  clear ha hb hT
  go_enter Tryz.func97, Tryz.ntmps97
  go_wp2
  go_loop [0, 1, 5, 6, 7] (fun x y n p i => ∃ k : Nat, k ≤ 32 ∧ i = .int .i64 k ∧ x = .int .i64 (dn a k : Int) ∧ y = .int .i64 (dn b k : Int) ∧ n = .int .i64 (lo a b k : Int) ∧ p = .int .i64 (pw k : Int)) (fun _ _ _ _ i => 32 - (intOf i).toNat)
  case atStart => exact ⟨0, Nat.zero_le _, rfl, by rw [H0.out.1], by rw [H0.out.2.1], by rw [H0.out.2.2.1]; rfl, by rw [H0.out.2.2.2]; rfl⟩
  case round =>
    obtain ⟨k, hk, rfl, rfl, rfl, rfl, rfl⟩ := hrel
    by_cases hlt : k < 32
    · have hp := HP0.out.1 k hk
      have hda := HP0.out.2.1 k
      have hdb := HP0.out.2.2 k
      have hl := lo_lt a b k
      have HX := Lib.hid (dn_succ a k)
      have HY := Lib.hid (dn_succ b k)
      have HP := Lib.hid (pw_succ k)
      by_cases q : dn a k % 2 = dn b k % 2
      · have HL := Lib.hid (lo_no q)
        have t1 : ((dn a k : Int) % 2 != (dn b k : Int) % 2) = false := by simp; omega
        clear q
        go_wp2
        go_round
        case rel => exact ⟨k + 1, by omega, by go_num, by rw [HX.out]; rfl, by rw [HY.out]; rfl, by rw [HL.out], by rw [HP.out]; go_num⟩
        case measure => simp [intOf]; omega
      · have HL := Lib.hid (lo_yes q)
        have t1 : ((dn a k : Int) % 2 != (dn b k : Int) % 2) = true := by simp; omega
        clear q
        go_wp2
        go_round
        case rel => exact ⟨k + 1, by omega, by go_num, by rw [HX.out]; rfl, by rw [HY.out]; rfl, by rw [HL.out]; go_num, by rw [HP.out]; go_num⟩
        case measure => simp [intOf]; omega
    · obtain rfl : k = 32 := by omega
      go_wp2
      go_ret
      exact ⟨ret_int (by rw [HE.out]), rfl⟩
theorem st_odd_nat {r : Nat} (o : r % 2 = 1) : r / 2 ^^^ 2197175160 = Crc.st r := by unfold Crc.st; rw [if_pos o]
set_option maxHeartbeats 800000 in
set_option maxRecDepth 100000 in
theorem rsum_any (A : Option Addr) (n C : Nat) (z : Nat → Nat) (w : World) (h : RowV w (.slice A n C) n z) : Calls Tryz.prog 58 #[.slice A n C] w fun e w' => e = .returned (.int .i64 (Crc.sumZ n z : Int)) ∧ w = w' := by
  have HB := Lib.hid h.bytes
  have HV := Lib.hid h
  obtain ⟨_, _, _, hl, _⟩ := id h
  have hl1 := hl.1
  clear h hl
  go_enter Tryz.func58, Tryz.ntmps58
  go_wp2
  go_loop [3, 4, 5, 6] (fun r i _ _ => ∃ k : Nat, k ≤ n ∧ i = .int .i64 k ∧ r = .int .i64 (Crc.reg 4294967295 z k : Int)) (fun _ i _ _ => n - (intOf i).toNat)
  case atStart => exact ⟨0, Nat.zero_le _, rfl, rfl⟩
  case round =>
    obtain ⟨k, hk, rfl, rfl⟩ := hrel
    have hRL := Crc.reg_lt (r := 4294967295) (z := z) (by omega) k (fun i hi => HB.out i (by omega))
    by_cases hlt : k < n
    · have hx := HB.out k hlt
      have HN := Lib.hid (show Crc.reg 4294967295 z (k + 1) = Crc.it 8 (Crc.reg 4294967295 z k ^^^ z k) from rfl)
      obtain ⟨R, hR⟩ : ∃ R, R = Crc.reg 4294967295 z k := ⟨_, rfl⟩
      rw [← hR] at hRL HN ⊢
      have HRL := Lib.hid hRL
      have HXL := Lib.hid (Crc.xor_lt hRL (show z k < 4294967296 by omega))
      obtain ⟨_, _, e2, _, h3⟩ := HV.out
      injection e2 with e2 _ _
      subst e2
      obtain ⟨b', o', rfl, h4⟩ := h3 (by omega)
      have c2 := (h4 k hlt).1
      clear h3 h4 hR hRL
      go_wp2_with fail
      refine (differ_any _ _ HRL.out (by omega) _).mono ?_
      rintro e w' ⟨rfl, rfl⟩
      obtain ⟨X, hX⟩ : ∃ X, X = R ^^^ z k := ⟨_, rfl⟩
      rw [← hX] at HN HXL ⊢
      clear hX
      go_wp2
      go_loop [3, 5, 6] (fun r i _ => ∃ j : Nat, j ≤ 8 ∧ i = .int .i64 j ∧ r = .int .i64 (Crc.it j X : Int)) (fun _ i _ => 8 - (intOf i).toNat)
      case atStart => exact ⟨0, Nat.zero_le _, rfl, rfl⟩
      case round =>
        obtain ⟨j, hj, rfl, rfl⟩ := hrel
        by_cases hlt2 : j < 8
        · have HS := Lib.hid (show Crc.it (j + 1) X = Crc.st (Crc.it j X) from rfl)
          have HYL := Lib.hid (Crc.it_lt HXL.out j)
          obtain ⟨Y, hY⟩ : ∃ Y, Y = Crc.it j X := ⟨_, rfl⟩
          rw [← hY] at HS HYL ⊢
          have hYb : Y ≤ 4294967296 := by have := HYL.out; omega
          clear hY
          by_cases q : Y % 2 = 1
          · have t1 : ((Y : Int) % 2 == 1) = true := by simp; omega
            have HQ := Lib.hid (st_odd_nat q)
            clear q
            go_wp2_with fail
            refine (differ_any (Y / 2) 2197175160 (by have := HYL.out; omega) (by omega) _).mono ?_
            rintro e w' ⟨rfl, rfl⟩
            go_wp2
            go_round
            case rel => exact ⟨j + 1, by omega, by go_num, by rw [HS.out, ← HQ.out]⟩
            case measure => simp [intOf]; omega
          · have t1 : ((Y : Int) % 2 == 1) = false := by simp; omega
            have HQ := Lib.hid (st_even q)
            clear q
            go_wp2
            go_round
            case rel => exact ⟨j + 1, by omega, by go_num, by rw [HS.out]; exact int_eq HQ.out⟩
            case measure => simp [intOf]; omega
        · obtain rfl : j = 8 := by omega
          go_wp2
          go_round
          case rel => exact ⟨k + 1, by omega, by go_num, by rw [HN.out]⟩
          case measure => simp [intOf]; omega
    · obtain rfl : k = n := by omega
      have HE := Lib.hid (show (4294967295 : Int) - (Crc.reg 4294967295 z k : Int) = (Crc.sumZ k z : Int) by
        unfold Crc.sumZ; rw [Crc.not_xor hRL]; omega)
      go_wp2
      go_ret
      exact ⟨ret_int HE.out, rfl⟩
end Go.Proofs.YteleknojohnlbaaGreat
namespace Go.Proofs.YteleknojohnlbaaGreat
open Go.RowKit
set_option linter.unusedVariables false
set_option maxRecDepth 100000
def sh (s k : Nat) : Nat := s / 256 ^ k
theorem sh_succ (s k : Nat) : sh s (k + 1) = sh s k / 256 := by unfold sh; rw [Nat.pow_succ, Nat.div_div_eq_div_mul]
theorem sh_byte (s k : Nat) : sh s k % 256 = Crc.byteOf s k := rfl
theorem sh_le (s k : Nat) : sh s k ≤ s := Nat.div_le_self _ _
theorem one_row (w : World) {x : Int} {y : Nat} (h : x = (y : Int)) (hy : y < 256) : RowV (w.alloc (.cells #[.int .u8 x] /-t-/5)) (.slice (some ⟨w.heap.size, 0, none⟩) 1 1) 1 (fun _ => y) := by
  subst h
  refine ⟨_, _, rfl, by omega, fun _ => ⟨_, _, rfl, fun c hc => ⟨?_, hy⟩⟩⟩
  rw [cell_of_row _ _ _ _ _ (0, 0) (heap_alloc_new w _)]
  obtain rfl : c = 0 := by omega
  rfl
theorem seal_more (n k : Nat) (z : Nat → Nat) : bytesL (n + k + 1) (jnZ (n + k) (Crc.sealZ n z) (fun _ => Crc.byteOf (Crc.sumZ n z) k)) = bytesL (n + (k + 1)) (Crc.sealZ n z) :=
  bytesL_congr fun c hc => by
    unfold jnZ
    by_cases q : c < n + k
    · rw [if_pos q]
    · rw [if_neg q]
      unfold Crc.sealZ
      rw [if_neg (by omega), show c - n = k by omega]
theorem seal_front (n : Nat) (z : Nat → Nat) : bytesL n z = bytesL n (Crc.sealZ n z) := bytesL_congr fun c hc => by unfold Crc.sealZ; rw [if_pos hc]
set_option maxHeartbeats 1600000 in
set_option maxRecDepth 100000 in
theorem rseal_any (A : Option Addr) (n C : Nat) (z : Nat → Nat) (w : World) (hn : n ≤ 65536) (h : RowV w (.slice A n C) n z) : Calls Tryz.prog 81 #[.slice A n C] w (NewRow (n + 4) (Crc.sealZ n z) w) := by
  obtain ⟨v1, w1, hr1, ho1, hc1⟩ := app_copy h (by omega)
  have HV := Lib.hid h
  have HR1 := Lib.hid hr1
  have HO1 := Lib.hid ho1
  have HC1 := Lib.hid hc1
  have HSL := Lib.hid (Crc.sumZ_lt h.bytes)
  clear h hr1 ho1 hc1
  go_enter Tryz.func81, Tryz.ntmps81
  go_wp2_with fail
  refine (rsum_any _ _ _ z _ HV.out).mono ?_
  rintro e w' ⟨rfl, rfl⟩
  obtain ⟨S, hS⟩ : ∃ S, S = Crc.sumZ n z := ⟨_, rfl⟩
  rw [← hS] at HSL ⊢
  have HSE := Lib.hid hS
  clear hS
  go_wp2_with (at_builtin; refine wpList_app_of _ rfl (.const (.slice none 0 0)) (.tmp 8) rfl rfl (.slice none 0 0) (.slice A n C) v1 w1 rfl rfl HR1.out ?_)
  have hSL : S ≤ 4294967296 := by have := HSL.out; omega
  have H0 := Lib.hid (show (S : Int) = (sh S 0 : Int) by unfold sh; rw [Nat.pow_zero, Nat.div_one])
  go_loopw [3, 4, 5] (fun s v i wr => ∃ k : Nat, k ≤ 4 ∧ i = .int .i64 k ∧ s = .int .i64 (sh S k : Int) ∧ Hid (wr.ownsRow w.heap.size /-t-/5 1 v (n + k) (bytesL (n + k) (Crc.sealZ n z)) ∧ Ch (fun _ => False) w wr)) (fun _ _ i _ => 4 - (intOf i).toNat)
  case atStart => exact ⟨0, Nat.zero_le _, rfl, int_eq H0.out, Lib.hid ⟨by rw [Nat.add_zero, ← seal_front]; exact HO1.out, HC1.out⟩⟩
  case round =>
    obtain ⟨k, hk, rfl, rfl, HK⟩ := hrel
    by_cases hlt : k < 4
    · have HS := Lib.hid (sh_succ S k)
      have hle := sh_le S k
      have hby : ((sh S k : Int) % 256) = (Crc.byteOf S k : Int) := by rw [← sh_byte]; omega
      obtain ⟨v2, w2, hr2, ho2, hg2, _⟩ := app_row (HK.out.1.alloc (.cells #[.int .u8 ((sh S k : Int) % 256)] /-t-/5)) (by simp; have := HK.out.2.size; omega) (one_row wr hby (Crc.byteOf_lt _ _)) (by omega)
      have hcb : ∀ i, u4.ownBlock = some i → (fun _ => False) i ∨ w.heap.size ≤ i := fun i e => Or.inr (World.ownsRow.lt HK.out.1 i e).1
      have HC2 := Lib.hid ((HK.out.2.alloc #[.int .u8 ((sh S k : Int) % 256)] /-t-/5).grown hg2 hcb)
      rw [HSE.out, seal_more] at ho2
      have HO2 := Lib.hid ho2
      have HR2 := Lib.hid hr2
      clear hr2 ho2 hg2 hby hcb
      go_wp2_with (at_builtin; refine wpList_app_of _ rfl (.tmp 14) (.tmp 18) rfl rfl _ _ v2 w2 rfl rfl HR2.out ?_)
      go_roundw
      case rel => exact ⟨k + 1, by omega, by go_num, by rw [HS.out]; go_num, Lib.hid ⟨HO2.out, HC2.out⟩⟩
      case measure => simp [intOf]; omega
    · obtain rfl : k = 4 := by omega
      obtain ⟨g, Cg, rfl, _⟩ := owns_some HK.out.1 (by omega)
      go_wp2
      go_ret
      exact ⟨_, _, rfl, HK.out.1, HK.out.2⟩
end Go.Proofs.YteleknojohnlbaaGreat
namespace Go.Proofs.YteleknojohnlbaaGreat
open Go.RowKit
set_option linter.unusedVariables false
set_option maxRecDepth 100000
structure LaySt (w0 : World) (g m : Nat) (F : Nat → Nat) (Z : Nat → Nat) (v : Value) (n : Nat) (w : World) : Prop where
  own : w.ownsRow w0.heap.size /-t-/5 1 v n (bytesL n Z)
  ch : Ch (fun _ => False) w0 w
  off : v.ownBlock ≠ some g
  lt : g < w.heap.size
  ints : ∀ i, i < m → w.cell? ⟨g, i, none⟩ = some (.int .i64 (F i : Int))
theorem LaySt.step {w0 w : World} {g m n Y : Nat} {F Z : Nat → Nat} {v : Value} {x : Int} (h : LaySt w0 g m F Z v n w) (hx : x = (Y : Int)) (hY : Z n = Y) (hb : Y < 256) (hn : n ≤ 1000000) :
    ∃ v' w', (Builtin.append_ #[ /-t-/24, /-t-/24] /-t-/24 #[v, .slice (some ⟨w.heap.size, 0, none⟩) 1 1]).run Tryz.prog (w.alloc (.cells #[.int .u8 x] /-t-/5)) = .ok v' w' ∧ LaySt w0 g m F Z v' (n + 1) w' := by
  obtain ⟨v2, w2, hr2, ho2, hg2, hv2⟩ := app_row (h.own.alloc (.cells #[.int .u8 x] /-t-/5)) (by simp; have := h.ch.size; omega) (one_row w hx hb) (by omega)
  rw [bytesL_congr (y := Z) fun c hc => by
    unfold jnZ
    split
    · rfl
    · obtain rfl : c = n := by omega
      exact hY.symm] at ho2
  have hlt := h.lt
  have hk : Ch (fun j => v.ownBlock = some j) w w2 := ((Ch.refl _ w).alloc #[.int .u8 x] /-t-/5).grown hg2 (fun i e => Or.inl e)
  refine ⟨v2, w2, hr2, ho2, (h.ch.alloc #[.int .u8 x] /-t-/5).grown hg2 (fun i e => Or.inr (World.ownsRow.lt h.own i e).1), ?_, Nat.lt_of_lt_of_le hlt hk.size, fun i hi => hk.cell (h.ints i hi) h.off⟩
  rcases hv2 with e | e
  · rw [e]; exact h.off
  · rw [e]
    intro q
    injection q with q
    simp at q
    omega
theorem layZ_at {k i j wide : Nat} {z F : Nat → Nat} (hj : j < wide) : layZ k z wide F (k + i * wide + j) = Crc.byteOf (F i) j := by
  unfold layZ
  rw [if_neg (by omega), show k + i * wide + j - k = wide * i + j by rw [Nat.mul_comm wide i]; omega, Nat.mul_add_div (by omega), Nat.div_eq_of_lt hj, Nat.add_zero, Nat.mul_add_mod, Nat.mod_eq_of_lt hj]
set_option maxHeartbeats 1600000 in
set_option maxRecDepth 100000 in
theorem blay_any (w0 : World) (g m k wide : Nat) (F Z : Nat → Nat) (v : Value) (w : World) (h : LaySt w0 g m F Z v k w) (hF : ∀ i, i < m → F i ≤ 4294967295) (hZ : ∀ i j, i < m → j < wide → Z (k + i * wide + j) = Crc.byteOf (F i) j) (hm : m ≤ 8) (hw : wide ≤ 8) (hk : k ≤ 1000) :
    Calls Tryz.prog 114 #[v, .int .i64 (wide : Int), .slice (some ⟨g, 0, none⟩) m m] w fun e w' => ∃ v', e = .returned v' ∧ LaySt w0 g m F Z v' (k + m * wide) w' := by
  have HS := Lib.hid h
  have HF := Lib.hid hF
  have HZ := Lib.hid hZ
  clear h hF hZ
  go_enter Tryz.func114, Tryz.ntmps114
  go_wp2
  go_loopw [0, 8, 11, 15, 16] (fun v' _ i _ _ wr => ∃ r : Nat, r ≤ m ∧ i = .int .i64 r ∧ Hid (LaySt w0 g m F Z v' (k + r * wide) wr)) (fun _ _ i _ _ _ => m - (intOf i).toNat)
  case atStart => exact ⟨0, Nat.zero_le _, rfl, Lib.hid (by rw [Nat.zero_mul]; exact HS.out)⟩
  case round =>
    obtain ⟨r, hr, rfl, HK⟩ := hrel
    by_cases hlt : r < m
    · have c1 := HK.out.ints r hlt
      have tk : decide (r < m) = true := by simp; omega
      have HX := Lib.hid (HF.out r hlt)
      have H0 := Lib.hid (show (F r : Int) = (sh (F r) 0 : Int) by unfold sh; rw [Nat.pow_zero, Nat.div_one])
      have HZr := Lib.hid (fun j => HZ.out r j hlt)
      obtain ⟨x, hx⟩ : ∃ x, x = F r := ⟨_, rfl⟩
      rw [← hx] at c1 HX H0 HZr
      have hxb : x ≤ 4294967295 := HX.out
      clear hx
      go_wp2
      go_loopw [0, 8, 16] (fun v' n j wr => ∃ s : Nat, s ≤ wide ∧ j = .int .i64 s ∧ n = .int .i64 (sh x s : Int) ∧ Hid (LaySt w0 g m F Z v' (k + r * wide + s) wr)) (fun _ _ j _ => wide - (intOf j).toNat)
      case atStart => exact ⟨0, Nat.zero_le _, rfl, int_eq H0.out, HK⟩
      case round =>
        obtain ⟨s, hs, rfl, rfl, HL⟩ := hrel
        by_cases hlt2 : s < wide
        · have tk2 : decide (s < wide) = true := by simp; omega
          have HSS := Lib.hid (sh_succ x s)
          have hle := sh_le x s
          obtain ⟨v2, w2, hr2, h2⟩ := HL.out.step (x := (sh x s : Int) % 256) (Y := Crc.byteOf x s) (by rw [← sh_byte]; omega) (HZr.out s hlt2) (Crc.byteOf_lt _ _) (by
            have : r * wide ≤ 8 * 8 := Nat.mul_le_mul (by omega) hw
            omega)
          have HR2 := Lib.hid hr2
          have HL2 := Lib.hid h2
          clear hr2 h2
          go_wp2_with (at_builtin; refine wpList_app_of _ rfl (.tmp 18) (.tmp 21) rfl rfl _ _ v2 w2 rfl rfl HR2.out ?_)
          go_roundw
          case rel => exact ⟨s + 1, by omega, by go_num, by rw [HSS.out]; go_num, HL2⟩
          case measure => simp [intOf]; omega
        · obtain rfl : s = wide := by omega
          have HE := Lib.hid (show k + r * s + s = k + (r + 1) * s by rw [Nat.add_mul]; omega)
          have tk2 : decide (s < s) = false := by simp
          go_wp2
          go_roundw
          case rel => exact ⟨r + 1, by omega, by go_num, Lib.hid (by rw [← HE.out]; exact HL.out)⟩
          case measure => simp [intOf]; omega
    · obtain rfl : r = m := by omega
      have tk : decide (r < r) = false := by simp
      go_wp2
      go_ret
      exact ⟨_, rfl, HK.out⟩
set_option maxHeartbeats 1600000 in
set_option maxRecDepth 100000 in
theorem word_any (x wide : Nat) (w : World) (hx : x ≤ 4294967295) (hw : wide ≤ 8) : Calls Tryz.prog 80 #[.int .i64 (x : Int), .int .i64 (wide : Int)] w fun e w' => ∃ v, e = .returned v ∧ w'.ownsRow w.heap.size /-t-/5 1 v wide (bytesL wide (Crc.byteOf x)) ∧ Ch (fun _ => False) w w' := by
  have HX := Lib.hid hx
  have H0 := Lib.hid (show (x : Int) = (sh x 0 : Int) by unfold sh; rw [Nat.pow_zero, Nat.div_one])
  go_enter Tryz.func80, Tryz.ntmps80
  go_wp2
  go_loopw [0, 5, 6] (fun n v i wr => ∃ s : Nat, s ≤ wide ∧ i = .int .i64 s ∧ n = .int .i64 (sh x s : Int) ∧ Hid (wr.ownsRow w.heap.size /-t-/5 1 v s (bytesL s (Crc.byteOf x)) ∧ Ch (fun _ => False) w wr)) (fun _ _ i _ => wide - (intOf i).toNat)
  case atStart => exact ⟨0, Nat.zero_le _, rfl, int_eq H0.out, Lib.hid ⟨World.ownsRow_nil _ _ _ _, Ch.refl _ _⟩⟩
  case round =>
    obtain ⟨s, hs, rfl, rfl, HK⟩ := hrel
    by_cases hlt : s < wide
    · have tk : decide (s < wide) = true := by simp; omega
      have HSS := Lib.hid (sh_succ x s)
      have hle := sh_le x s
      have hby : ((sh x s : Int) % 256) = (Crc.byteOf x s : Int) := by rw [← sh_byte]; omega
      obtain ⟨v2, w2, hr2, ho2, hg2, _⟩ := app_row (HK.out.1.alloc (.cells #[.int .u8 ((sh x s : Int) % 256)] /-t-/5)) (by simp; have := HK.out.2.size; omega) (one_row wr hby (Crc.byteOf_lt _ _)) (by omega)
      have HC2 := Lib.hid ((HK.out.2.alloc #[.int .u8 ((sh x s : Int) % 256)] /-t-/5).grown hg2 (fun i e => Or.inr (World.ownsRow.lt HK.out.1 i e).1))
      rw [bytesL_congr (y := Crc.byteOf x) fun c hc => by
        unfold jnZ
        split
        · rfl
        · obtain rfl : c = s := by omega
          rfl] at ho2
      have HO2 := Lib.hid ho2
      have HR2 := Lib.hid hr2
      clear hr2 ho2 hg2 hby
      go_wp2_with (at_builtin; refine wpList_app_of _ rfl (.tmp 12) (.tmp 16) rfl rfl _ _ v2 w2 rfl rfl HR2.out ?_)
      go_roundw
      case rel => exact ⟨s + 1, by omega, by go_num, by rw [HSS.out]; go_num, Lib.hid ⟨HO2.out, HC2.out⟩⟩
      case measure => simp [intOf]; omega
    · obtain rfl : s = wide := by omega
      have tk : decide (s < s) = false := by simp
      go_wp2
      go_ret
      exact ⟨_, rfl, HK.out.1, HK.out.2⟩
end Go.Proofs.YteleknojohnlbaaGreat
