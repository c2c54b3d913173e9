/-
  slices.Grow and slices.Concat, walked: of rows of bytes, and of two lists of rows. Regions that draw their order, within a round of a range over a function: what the plain calculus shows of every order serves there, too. Fences and what stands between two rounds of a range over a function: a plain region within a round, what a round keeps, blocks of a row of one's own. A snapshot's sectors, plainly; the document's Puts (quartermasterref12): what may not be.
-/
import Derived.Test.YtlbdopcchoklhaaGreatMh8
import Derived.Test.YtlbdopcchoklhaaGreatMh30
import Derived.Lib.AppendZeros
import Derived.Test.YtlbdopcchoklhaaGreatMh1
import Derived.RangeFuncNested
import Derived.RangeFuncBox
import Derived.RangeFuncLeaves
import Derived.RangeFuncCalls
import Derived.OwnWalkIn
import Derived.TacticsInMore
import Derived.LoopNIn
import Derived.LoopIn
import Derived.StillTail
import Derived.StillTactics
import Derived.OrdersHeld
import Derived.Test.YtlbdopcchoklhaaGreatMh29
namespace Go.Proofs.YtlbdopcchoklhaaGreat
open Go.RowKit
set_option linter.unusedVariables false
set_option maxRecDepth 100000
set_option linter.unusedSimpArgs false

set_option maxHeartbeats 1600000 in
theorem growB_any (n : Nat) (h0 : 0 < n) (hn : n ≤ 1000000) (w : World) : Calls Tryz.prog 95 #[.slice none 0 0, .int .i64 (n : Int)] w fun e w' => ∃ g C, e = .returned (.slice (some ⟨g, 0, none⟩) 0 C) ∧ w'.ownsRow w.heap.size /-t-/5 1 (.slice (some ⟨g, 0, none⟩) 0 C) 0 [] ∧ Ch (fun _ => False) w w' := by
  obtain ⟨i0, hi, hz0, hz1, hz2⟩ := info_parts Tryz.info5
  have hr := Lib.run_append_nil_zeros (P := Tryz.prog) w /-t-/24 /-t-/3 /-t-/24 /-t-/5 i0 (Value.int .u8 0) .i64 .i64 Tryz.underlying24 Tryz.underlying3 hi hz0 n h0 (by rw [hz1]; omega) (by omega) (by rw [hz2]; omega)
  have hge := grownCap_ge w n 0 /-t-/5
  have hle := grownCap_le_maxLen w n 0 /-t-/5 (by unfold maxLen; omega)
  obtain ⟨C, hC⟩ : ∃ C, C = grownCap w n 0 /-t-/5 := ⟨_, rfl⟩
  rw [← hC] at hr hge hle
  obtain ⟨cs, hcs⟩ : ∃ cs, cs = Builtin.zeroCells ((Value.int .u8 0)).cells n ++ Builtin.zeroCells ((Value.int .u8 0)).cells (C - n) := ⟨_, rfl⟩
  have hsz : cs.size = C := by
    rw [hcs, Array.size_append, size_zeroCells, size_zeroCells]
    show n * 1 + (C - n) * 1 = C
    omega
  rw [← hcs] at hr
  obtain ⟨w1, hw1⟩ : ∃ w1, w1 = w.drew.alloc (.cells cs /-t-/5) := ⟨_, rfl⟩
  obtain ⟨g, hg⟩ : ∃ g, g = w.heap.size := ⟨_, rfl⟩
  rw [← hw1, ← hg] at hr
  have HO : Hid (w1.ownsRow w.heap.size /-t-/5 1 (.slice (some ⟨g, 0, none⟩) 0 C) 0 []) := Lib.hid ⟨rfl, Or.inr ⟨g, C, cs, rfl, Nat.le_of_eq hg.symm, by rw [hw1, hg]; exact heap_alloc_new w.drew _, Nat.zero_le _, hle, by rw [hsz]; omega, by simp⟩⟩
  have HC : Hid (Ch (fun _ => False) w w1) := Lib.hid (by rw [hw1]; exact (Ch.refl _ w).drew.alloc _ _)
  have hn0 : (0 : Int) < (n : Int) := by omega
  have hn1 : (n : Int) ≤ 1000000 := by omega
  have HR := Lib.hid hr
  have hCn : (0 : Int) ≤ (C : Int) := Int.natCast_nonneg _
  have hnC : n ≤ C := hge
  clear hr hge hle hC hcs hsz hw1 hg hi hz0 hz1 hz2 h0 hn
  go_enter Tryz.func95, Tryz.ntmps95
  go_wp2_with (first
    | (at_builtin; refine Lib.wpList_append_run _ rfl (.tmp 20) (.tmp 21) /-t-/24 /-t-/3 rfl _ _ rfl rfl _ w1 (by exact HR.out) ?_)
    | fail)
  go_ret
  exact ⟨_, _, rfl, HO.out, HC.out⟩
set_option maxHeartbeats 1600000 in
theorem growM_any (n : Nat) (h0 : 0 < n) (hn : n ≤ 1000000) (w : World) : Calls Tryz.prog 104 #[.slice none 0 0, .int .i64 (n : Int)] w fun e w' => ∃ g C, e = .returned (.slice (some ⟨g, 0, none⟩) 0 C) ∧ w'.ownsRow w.heap.size /-t-/24 1 (.slice (some ⟨g, 0, none⟩) 0 C) 0 [] ∧ Ch (fun _ => False) w w' := by
  obtain ⟨i0, hi, hz0, hz1, hz2⟩ := info_parts Tryz.info24
  have hr := Lib.run_append_nil_zeros (P := Tryz.prog) w /-t-/37 /-t-/3 /-t-/37 /-t-/24 i0 (Value.slice none 0 0) .i64 .i64 Tryz.underlying37 Tryz.underlying3 hi hz0 n h0 (by rw [hz1]; omega) (by omega) (by rw [hz2]; omega)
  have hge := grownCap_ge w n 0 /-t-/24
  have hle := grownCap_le_maxLen w n 0 /-t-/24 (by unfold maxLen; omega)
  obtain ⟨C, hC⟩ : ∃ C, C = grownCap w n 0 /-t-/24 := ⟨_, rfl⟩
  rw [← hC] at hr hge hle
  obtain ⟨cs, hcs⟩ : ∃ cs, cs = Builtin.zeroCells ((Value.slice none 0 0)).cells n ++ Builtin.zeroCells ((Value.slice none 0 0)).cells (C - n) := ⟨_, rfl⟩
  have hsz : cs.size = C := by
    rw [hcs, Array.size_append, size_zeroCells, size_zeroCells]
    show n * 1 + (C - n) * 1 = C
    omega
  rw [← hcs] at hr
  obtain ⟨w1, hw1⟩ : ∃ w1, w1 = w.drew.alloc (.cells cs /-t-/24) := ⟨_, rfl⟩
  obtain ⟨g, hg⟩ : ∃ g, g = w.heap.size := ⟨_, rfl⟩
  rw [← hw1, ← hg] at hr
  have HO : Hid (w1.ownsRow w.heap.size /-t-/24 1 (.slice (some ⟨g, 0, none⟩) 0 C) 0 []) := Lib.hid ⟨rfl, Or.inr ⟨g, C, cs, rfl, Nat.le_of_eq hg.symm, by rw [hw1, hg]; exact heap_alloc_new w.drew _, Nat.zero_le _, hle, by rw [hsz]; omega, by simp⟩⟩
  have HC : Hid (Ch (fun _ => False) w w1) := Lib.hid (by rw [hw1]; exact (Ch.refl _ w).drew.alloc _ _)
  have hn0 : (0 : Int) < (n : Int) := by omega
  have hn1 : (n : Int) ≤ 1000000 := by omega
  have HR := Lib.hid hr
  have hCn : (0 : Int) ≤ (C : Int) := Int.natCast_nonneg _
  have hnC : n ≤ C := hge
  clear hr hge hle hC hcs hsz hw1 hg hi hz0 hz1 hz2 h0 hn
  go_enter Tryz.func104, Tryz.ntmps104
  go_wp2_with (first
    | (at_builtin; refine Lib.wpList_append_run _ rfl (.tmp 20) (.tmp 21) /-t-/37 /-t-/3 rfl _ _ rfl rfl _ w1 (by exact HR.out) ?_)
    | fail)
  go_ret
  exact ⟨_, _, rfl, HO.out, HC.out⟩
/-! ### rows of bytes -/
set_option maxHeartbeats 6400000 in
theorem concB_any (b o C K m : Nat) (Z : Nat → Nat → Nat) (w : World) (hK : 0 < K) (hK2 : K ≤ 64) (hm : 0 < m) (hm2 : m ≤ 4096) (h : MatV w (.slice (some ⟨b, o, none⟩) K C) K (fun _ => m) Z) :
    Calls Tryz.prog 54 #[.slice (some ⟨b, o, none⟩) K C] w fun e w' => ∃ v, e = .returned v ∧ OutSt w (fun i => Z (i / m) (i % m)) v (K * m) w' := by
  have k0 : (0 : Int) ≤ (K : Int) := Int.natCast_nonneg _
  have k1 : (K : Int) ≤ 64 := by omega
  have HM := Lib.hid h
  have HB := Lib.hid (And.intro (And.intro hK hK2) (And.intro hm hm2))
  have hTB : ∀ r, r ≤ K → r * m ≤ 262144 := fun r hr => Nat.le_trans (Nat.mul_le_mul (Nat.le_trans hr hK2) hm2) (by omega)
  have HTB := Lib.hid hTB
  have HG := Lib.hid (growB_any (K * m) (Nat.mul_pos hK hm) (Nat.le_trans (hTB K (Nat.le_refl _)) (by omega)) w)
  have m0 : (0 : Int) < (m : Int) := by omega
  obtain ⟨zz, hzz⟩ : ∃ zz, zz = fun i => Z (i / m) (i % m) := ⟨_, rfl⟩
  have HZ : Hid (∀ r c, c < m → zz (r * m + c) = Z r c) := Lib.hid fun r c hc => by
    rw [hzz]
    show Z ((r * m + c) / m) ((r * m + c) % m) = _
    have h1 : (r * m + c) / m = r := by rw [Nat.mul_comm, Nat.mul_add_div (by omega), Nat.div_eq_of_lt hc, Nat.add_zero]
    have h2 : (r * m + c) % m = c := by rw [Nat.mul_comm, Nat.mul_add_mod, Nat.mod_eq_of_lt hc]
    rw [h1, h2]
  rw [← hzz]
  clear h hK hK2 hm hm2 hTB hzz
  go_enter Tryz.func54, Tryz.ntmps54
  go_wp2_with fail
  go_loopw [3, 5, 11, 12, 13, 14, 15, 16, 17, 18, 19, 20, 22] (fun t _ i _ _ _ _ _ _ _ _ _ _ wr => ∃ r T : Nat, r ≤ K ∧ i = .int .i64 r ∧ t = .int .i64 T ∧ Hid (T = r * m) ∧ wr = w) (fun _ _ i _ _ _ _ _ _ _ _ _ _ _ => K - (intOf i).toNat)
  case atStart => exact ⟨0, 0, Nat.zero_le _, rfl, rfl, Lib.hid (Nat.zero_mul _).symm, rfl⟩
  case round =>
    obtain ⟨r, T, hr, rfl, rfl, HT, rfl⟩ := hrel
    have r0 : (0 : Int) ≤ (r : Int) := Int.natCast_nonneg _
    by_cases hlt : r < K
    · have r1 : (r : Int) < (K : Int) := by omega
      obtain ⟨b', o', A', C', hA, c1, hrow⟩ := mat_at2 HM.out hlt
      injection hA with hA
      injection hA with e1 e2
      subst e1 e2
      have c1 : wr.cell? ⟨b, o + r, none⟩ = some (.slice A' m C') := c1
      have hb1 := HTB.out (r + 1) hlt
      have hsm : T + m = (r + 1) * m := by rw [HT.out, Nat.succ_mul]
      have hw := IntWalk.wrap64_in ((T : Int) + (m : Int)) ⟨by omega, by omega⟩
      have HW := Lib.hid hw
      have hneg : ¬ wrap64 ((T : Int) + (m : Int)) < 0 := by rw [hw]; omega
      have hd : decide (wrap64 ((T : Int) + (m : Int)) < 0) = false := decide_eq_false hneg
      have HSM := Lib.hid hsm
      clear hrow hw hsm hb1
      go_wp2_with fail
      go_roundw
      case rel => exact ⟨r + 1, T + m, hlt, by go_num, by rw [HW.out]; rfl, Lib.hid HSM.out, trivial⟩
      case measure => simp [intOf]; omega
    · have hre : r = K := by omega
      have r1 : ¬ (r : Int) < (K : Int) := by omega
      have HT2 : Hid (T = K * m) := Lib.hid (by rw [HT.out, hre])
      clear hre hr HT
      go_wp2_with fail
      rw [HT2.out]
      refine HG.out.mono ?_
      rintro e w1 ⟨g, C1, rfl, ho, hc⟩
      have HO : Hid (OutSt wr zz (.slice (some ⟨g, 0, none⟩) 0 C1) 0 w1) := Lib.hid ⟨ho, hc⟩
      clear ho hc
      go_wp2_with fail
      go_loopw [6, 8, 27, 28, 29, 30, 31, 32, 33, 34] (fun v _ i _ _ _ _ _ _ _ w2 => ∃ s N : Nat, s ≤ K ∧ i = .int .i64 s ∧ Hid (N = s * m) ∧ Hid (OutSt wr zz v N w2)) (fun _ _ i _ _ _ _ _ _ _ _ => K - (intOf i).toNat)
      case atStart => exact ⟨0, 0, Nat.zero_le _, rfl, Lib.hid (Nat.zero_mul _).symm, HO⟩
      case round =>
        clear HO HG
        obtain ⟨s, N, hs, rfl, HN, HS⟩ := hrel
        have s0 : (0 : Int) ≤ (s : Int) := Int.natCast_nonneg _
        by_cases hlt : s < K
        · have s1 : (s : Int) < (K : Int) := by omega
          obtain ⟨b', o', A', C', hA, c1, hrow⟩ := mat_at2 HM.out hlt
          injection hA with hA
          injection hA with e1 e2
          subst e1 e2
          have c1 := HS.out.ch.cell (v := .slice A' m C') c1 (fun f => f)
          have hb1 := HTB.out (s + 1) hlt
          have hsm : N + m = (s + 1) * m := by rw [HN.out, Nat.succ_mul]
          obtain ⟨v2, w3, hrun, hst⟩ := HS.out.app (x := .slice A' m C') (l := m) (y := Z s) (hrow.gr HS.out.ch) (fun c hc => by rw [HN.out]; exact HZ.out s c hc) (by omega)
          have HR := Lib.hid hrun
          have HST := Lib.hid hst
          have HSM := Lib.hid hsm
          clear hrow hsm hb1 hrun hst
          go_wp2_with (first
            | (at_builtin; refine wpList_app_of _ rfl (.tmp 31) (.tmp 32) rfl rfl _ _ v2 w3 rfl rfl (by exact HR.out) ?_)
            | fail)
          go_roundw
          case rel => exact ⟨s + 1, N + m, hlt, by go_num, HSM, HST⟩
          case measure => simp [intOf]; omega
        · have hse : s = K := by omega
          have s1 : ¬ (s : Int) < (K : Int) := by omega
          have hh := HS.out
          rw [HN.out, hse] at hh
          have HFIN := Lib.hid hh
          clear hse hs HN HS hh
          go_wp2
          go_ret
          exact ⟨_, rfl, HFIN.out⟩
/-! ### two lists of rows -/
/-- Two lists of rows, one behind the other: the same rows. -/
def CatPost (k m : Nat) (F G : Nat → Value) (w : World) (e : Ending) (w' : World) : Prop :=
  ∃ g C, e = .returned (.slice (some ⟨g, 0, none⟩) (k + m) C) ∧ w'.ownsRow w.heap.size /-t-/24 1 (.slice (some ⟨g, 0, none⟩) (k + m) C) (k + m) (valsL k F ++ valsL m G) ∧ Ch (fun _ => False) w w'
def catN (k m r : Nat) : Nat := if r = 0 then 0 else if r = 1 then k else k + m
def catL (k m : Nat) (F G : Nat → Value) (r : Nat) : List Value := if r = 0 then [] else if r = 1 then valsL k F else valsL k F ++ valsL m G
/-- The values of a list's rows. -/
def RowsAt (w : World) (b o k : Nat) (F : Nat → Value) : Prop := ∀ r, r < k → w.cell? ⟨b, o + r, none⟩ = some (F r) ∧ (F r).oneCell' = true
theorem RowsAt.gr {w w' : World} {b o k : Nat} {F : Nat → Value} (h : RowsAt w b o k F) (c : Ch (fun _ => False) w w') : RowsAt w' b o k F := fun r hr => ⟨c.cell (h r hr).1 (fun f => f), (h r hr).2⟩
structure CatSt (w0 : World) (k m : Nat) (F G : Nat → Value) (r : Nat) (v : Value) (w : World) : Prop where
  own : w.ownsRow w0.heap.size /-t-/24 1 v (catN k m r) (catL k m F G r)
  ch : Ch (fun _ => False) w0 w
theorem CatSt.app {w0 w : World} {k m r l b o C : Nat} {F G X : Nat → Value} {v : Value} (h : CatSt w0 k m F G r v w) (hX : RowsAt w b o l X) (hr : (r = 0 ∧ l = k ∧ X = F) ∨ (r = 1 ∧ l = m ∧ X = G)) (hk : k + m ≤ 65536) :
    ∃ v' w', (Builtin.append_ #[ /-t-/37, /-t-/37] /-t-/37 #[v, .slice (some ⟨b, o, none⟩) l C]).run Tryz.prog w = .ok v' w' ∧ CatSt w0 k m F G (r + 1) v' w' := by
  have hn : catN k m r + l ≤ 65536 := by rcases hr with ⟨rfl, rfl, _⟩ | ⟨rfl, rfl, _⟩ <;> (unfold catN; simp; omega)
  obtain ⟨v', w', h1, h2, h3⟩ := app_rows (C := C) h.own h.ch.size hn hX
  refine ⟨v', w', h1, ?_, h.ch.grown h3 (fun i e => Or.inr (World.ownsRow.lt h.own i e).1)⟩
  rcases hr with ⟨rfl, rfl, rfl⟩ | ⟨rfl, rfl, rfl⟩
  · have e1 : catN l m 0 + l = catN l m (0 + 1) := by unfold catN; simp
    have e2 : catL l m X G 0 ++ valsL l X = catL l m X G (0 + 1) := by unfold catL; simp
    rw [e1, e2] at h2
    exact h2
  · have e1 : catN k l 1 + l = catN k l (1 + 1) := by unfold catN; simp
    have e2 : catL k l F X 1 ++ valsL l X = catL k l F X (1 + 1) := by unfold catL; simp
    rw [e1, e2] at h2
    exact h2
theorem CatSt.done {w0 w : World} {k m : Nat} {F G : Nat → Value} {v : Value} (h : CatSt w0 k m F G 2 v w) (hk : 0 < k) : CatPost k m F G w0 (.returned v) w := by
  obtain ⟨h1, h2⟩ := h
  have e1 : catN k m 2 = k + m := by unfold catN; simp
  have e2 : catL k m F G 2 = valsL k F ++ valsL m G := by unfold catL; simp
  rw [e1, e2] at h1
  rcases h1.2 with ⟨_, h0⟩ | ⟨g, cap, cur, rfl, rest⟩
  · omega
  · exact ⟨g, cap, rfl, h1, h2⟩
set_option maxHeartbeats 6400000 in
theorem concM_any (B b1 o1 C1 b2 o2 C2 k m : Nat) (F G : Nat → Value) (w : World) (hk : 0 < k) (hkm : k + m ≤ 1024) (hB : w.heap[B]? = some (.cells #[.slice (some ⟨b1, o1, none⟩) k C1, .slice (some ⟨b2, o2, none⟩) m C2] /-t-/37 (0, 0)))
    (hF : RowsAt w b1 o1 k F) (hG : RowsAt w b2 o2 m G) :
    Calls Tryz.prog 65 #[.slice (some ⟨B, 0, none⟩) 2 2] w (CatPost k m F G w) := by
  have k0 : (0 : Int) ≤ (k : Int) := Int.natCast_nonneg _
  have k1 : (k : Int) ≤ 1024 := by omega
  have m0 : (0 : Int) ≤ (m : Int) := Int.natCast_nonneg _
  have m1 : (m : Int) ≤ 1024 := by omega
  have HB := Lib.hid hB
  have HF := Lib.hid hF
  have HG := Lib.hid hG
  have HK := Lib.hid (And.intro hk hkm)
  obtain ⟨N, hN⟩ : ∃ N, N = k + m := ⟨_, rfl⟩
  have HGR := Lib.hid (growM_any N (by omega) (by omega) w)
  have HN := Lib.hid hN
  have e1 : wrap64 ((k : Int) + (m : Int)) = (N : Int) := by rw [IntWalk.wrap64_in _ ⟨by omega, by omega⟩]; omega
  have HE1 := Lib.hid e1
  have hneg : ¬ wrap64 ((k : Int) + (m : Int)) < 0 := by rw [e1]; omega
  have hd : decide (wrap64 ((k : Int) + (m : Int)) < 0) = false := decide_eq_false hneg
  clear hB hF hG hk hkm hN e1
  go_enter Tryz.func65, Tryz.ntmps65
  go_wp2_with fail
  go_loopw [3, 5, 11, 12, 13, 14, 15, 16, 17, 18, 19, 20, 22] (fun t _ i _ _ _ _ _ _ _ _ _ _ wr => ∃ r : Nat, r ≤ 2 ∧ i = .int .i64 r ∧ t = .int .i64 (if r = 0 then 0 else if r = 1 then (k : Int) else (N : Int)) ∧ wr = w) (fun _ _ i _ _ _ _ _ _ _ _ _ _ _ => 2 - (intOf i).toNat)
  case atStart => exact ⟨0, Nat.zero_le _, rfl, rfl, rfl⟩
  case round =>
    obtain ⟨r, hr, rfl, rfl, rfl⟩ := hrel
    have c0 : wr.cell? ⟨B, 0, none⟩ = some (.slice (some ⟨b1, o1, none⟩) k C1) := blk_cell HB.out
    have c1 : wr.cell? ⟨B, 1, none⟩ = some (.slice (some ⟨b2, o2, none⟩) m C2) := blk_cell HB.out
    rcases (show r = 0 ∨ r = 1 ∨ r = 2 by omega) with rfl | rfl | rfl
    · simp only [if_true]
      go_wp2_with fail
      go_roundw
      case rel => exact ⟨1, by omega, by go_num, by simp, trivial⟩
      case measure => simp [intOf]
    · rw [if_neg (show ¬ (1 : Nat) = 0 by omega), if_pos rfl]
      go_wp2_with fail
      go_roundw
      case rel => exact ⟨2, by omega, by go_num, by rw [if_neg (show ¬ (2 : Nat) = 0 by omega), if_neg (show ¬ (2 : Nat) = 1 by omega)]; exact congrArg (Value.int .i64) (show (k : Int) + (m : Int) = (N : Int) by have := HN.out; omega), trivial⟩
      case measure => simp [intOf]
    · rw [if_neg (show ¬ (2 : Nat) = 0 by omega), if_neg (show ¬ (2 : Nat) = 1 by omega)]
      clear hneg hd
      go_wp2_with fail
      refine HGR.out.mono ?_
      rintro e w1 ⟨g, C, rfl, ho, hc⟩
      have HO : Hid (CatSt wr k m F G 0 (.slice (some ⟨g, 0, none⟩) 0 C) w1) := Lib.hid ⟨ho, hc⟩
      clear ho hc c0 c1
      go_wp2_with fail
      go_loopw [6, 8, 27, 28, 29, 30, 31, 32, 33, 34] (fun v _ i _ _ _ _ _ _ _ w2 => ∃ s : Nat, s ≤ 2 ∧ i = .int .i64 s ∧ Hid (CatSt wr k m F G s v w2)) (fun _ _ i _ _ _ _ _ _ _ _ => 2 - (intOf i).toNat)
      case atStart => exact ⟨0, Nat.zero_le _, rfl, HO⟩
      case round =>
        clear HO HGR
        obtain ⟨s, hs, rfl, HS⟩ := hrel
        rcases (show s = 0 ∨ s = 1 ∨ s = 2 by omega) with rfl | rfl | rfl
        · have c0 : wr.cell? ⟨B, 0, none⟩ = some (.slice (some ⟨b1, o1, none⟩) k C1) := HS.out.ch.cell (blk_cell HB.out) (fun f => f)
          obtain ⟨v2, w3, hrun, hst⟩ := HS.out.app (C := C1) (HF.out.gr HS.out.ch) (Or.inl ⟨rfl, rfl, rfl⟩) (by have := HK.out; omega)
          have HR := Lib.hid hrun
          have HST := Lib.hid hst
          clear hrun hst
          go_wp2_with (first
            | (at_builtin; refine wpList_rows_of _ rfl (.tmp 31) (.tmp 32) rfl rfl _ _ v2 w3 rfl rfl (by exact HR.out) ?_)
            | fail)
          go_roundw
          case rel => exact ⟨1, by omega, by go_num, HST⟩
          case measure => simp [intOf]
        · have c1 : wr.cell? ⟨B, 1, none⟩ = some (.slice (some ⟨b2, o2, none⟩) m C2) := HS.out.ch.cell (blk_cell HB.out) (fun f => f)
          obtain ⟨v2, w3, hrun, hst⟩ := HS.out.app (C := C2) (HG.out.gr HS.out.ch) (Or.inr ⟨rfl, rfl, rfl⟩) (by have := HK.out; omega)
          have HR := Lib.hid hrun
          have HST := Lib.hid hst
          clear hrun hst
          go_wp2_with (first
            | (at_builtin; refine wpList_rows_of _ rfl (.tmp 31) (.tmp 32) rfl rfl _ _ v2 w3 rfl rfl (by exact HR.out) ?_)
            | fail)
          go_roundw
          case rel => exact ⟨2, by omega, by go_num, HST⟩
          case measure => simp [intOf]
        · go_wp2
          go_ret
          exact HS.out.done HK.out.1
end Go.Proofs.YtlbdopcchoklhaaGreat
namespace Go.Proofs.YtlbdopcchoklhaaGreat
open Go.RowKit
set_option linter.unusedVariables false
set_option maxRecDepth 100000

section
variable {P : Program} {ops : Array Oper} {Q : Exit → Act → World → Prop}
theorem rowsIn_of {n : Nat} {row : String} {args : Array Value} {w : World} {R : Value → World → Prop} (h : Rows P row args w R) : RowsIn Fence.wide n P row args w R :=
  fun c cs _ => let ⟨v, w', r, s⟩ := h c cs; ⟨v, w', r, stepsIn_wide.2 s⟩
theorem operIn_of {o : Oper} {a : Act} {w : World} {K : Act → World → Prop} {l n : Nat} (hnd : ∀ c, o.op ≠ .defer c) (h : o.wp P a w K Q) : o.wpIn (Fence.wide.inRound l) n P a w K Q := by
  refine ⟨fun _ _ => trivial, ?_⟩
  rw [Fence.inRound_round, Oper.semAt_some _ _ _ hnd]
  unfold Oper.wp at h
  generalize (execOp a.eval o).run P w = r at *
  have hd : (Fence.wide.inRound l).depth.isSome = true → 1 ≤ n := fun e => by simp [Fence.wide, Fence.inRound] at e
  cases r with
  | ok x w' =>
    cases x <;> simp only [Oper.upon] at h <;> simp only [Oper.uponIn] <;> first
      | exact h
      | exact ⟨hd, (callsIn_wide.2 h).mono (fun e w'' he => by cases e <;> exact he)⟩
      | exact ⟨hd, rowsIn_of h⟩
      | exact h.elim
  | halt x w' => cases x <;> simp only [Oper.upon] at h <;> simp only [Oper.uponIn] <;> first | exact h | exact h.elim
def noDefer (ops : Array Oper) : Bool := ops.all fun o => match o.op with | .defer _ => false | _ => true
theorem noDefer_spec (h : noDefer ops = true) {j : Nat} {o : Oper} (ho : ops[j]? = some o) (c : Call) : o.op ≠ .defer c := fun e => by
  have h1 := Array.all_eq_true_iff_forall_mem.1 h o (Array.mem_of_getElem? ho)
  rw [e] at h1
  cases h1
theorem opsIn_of {l n : Nat} (hnd : noDefer ops = true) (hq : ¬ LetsOut Q) : ∀ (L : List Nat) (a : Act) (w : World), wpOps P ops Q L a w → wpOpsIn (Fence.wide.inRound l) n P ops Q L a w
  | [], _, _, h => h
  | i :: rest, a, w, h => by
    simp only [wpOps] at h
    simp only [wpOpsIn]
    cases ho : ops[i]? with
    | none => simp only [ho] at h; exact opsIn_of hnd hq rest _ _ h
    | some o =>
      simp only [ho] at h ⊢
      split
      · rename_i hw
        simp only [hw, if_true] at h
        rcases h with h | ⟨_, h⟩
        · exact operIn_of (noDefer_spec hnd ho) (Oper.wp_mono (fun a w => opsIn_of hnd hq rest a w) h)
        · exact absurd h hq
      · rename_i hw
        simp only [hw] at h
        exact ⟨fun _ _ => trivial, opsIn_of hnd hq rest _ _ h⟩
/-- In a round, whichever order. -/
theorem wpIn_round_any {id l n : Nat} {a : Act} {w : World} (hm : P.follows .mixedOrders = true) (hnd : noDefer ops = true) (hq : ¬ LetsOut Q)
    (h : wpAny P .any ops Q ops.size (Array.replicate ops.size false) a { w with drawn := w.drawn + 1 }) : (Code.region id ops true).wpIn (Fence.wide.inRound l) n P Q a w :=
  wpIn_region_draw fun t => by
    simp only [Region.schedule, hm, Bool.true_or, if_true]
    exact opsIn_of hnd hq _ _ _ (wpAny_sound ops.size t _ a _ h)
theorem wpIn_round_held {id l n : Nat} {a : Act} {w : World} (S : World → Prop) (hm : P.follows .mixedOrders = true) (hnd : noDefer ops = true) (hq : ¬ LetsOut Q)
    (h : wpAnyH P .any ops Q S ops.size (Array.replicate ops.size false) a { w with drawn := w.drawn + 1 }) : (Code.region id ops true).wpIn (Fence.wide.inRound l) n P Q a w :=
  wpIn_round_any hm hnd hq (wpAny_of_held _ _ _ _ h)
end
end Go.Proofs.YtlbdopcchoklhaaGreat
namespace Go.Proofs.YtlbdopcchoklhaaGreat
open Go.RowKit
set_option linter.unusedVariables false
set_option maxRecDepth 100000

theorem wide_fn (f : FuncId) : Fence.wide.fn f = True := rfl
theorem wide_depth : Fence.wide.depth = none := rfl
/-- A region that draws no order, within a round. -/
theorem wpIn_round_lit {P : Program} {Q : Exit → Act → World → Prop} {id l n : Nat} {a : Act} {w : World} {L : List Oper} (hnd : noDefer L.toArray = true) (hq : ¬ LetsOut Q) (h : wpList P L.toArray Q L a w) : (Code.region id L.toArray false).wpIn (Fence.wide.inRound l) n P Q a w :=
  wpIn_region (opsIn_of hnd hq _ a w (by rw [List.range_eq_range', ← Array.length_toList, wpOps_eq_wpList L 0 (by simp)]; exact h))
theorem keeps_ch {S : Nat → Prop} {B : Nat} {W W' : World} (h : Ch S W W') (hS : ∀ i, S i → i < B) : KeepsFrom B W W' :=
  ⟨h.size, fun k o hB hk _ => (h.block k (Array.getElem?_eq_some_iff.1 hk).1 (fun s => by have := hS k s; omega)).trans hk⟩
theorem row_ch {W W' : World} {row : Option Nat} (hg : W.grownBy W' row) : Ch (fun i => row = some i) W W' := (Ch.refl _ W).grown hg fun i e => Or.inl e
theorem ch_then {S T : Nat → Prop} {a b c : World} (h : Ch S a b) (k : Ch T b c) (hT : ∀ i, T i → S i ∨ a.heap.size ≤ i) : Ch S a c :=
  ⟨k.os.trans h.os, k.tape.trans h.tape, k.output.trans h.output, Nat.le_trans h.size k.size, fun i hi hS => (k.block i (Nat.lt_of_lt_of_le hi h.size) (fun t => (hT i t).elim hS (fun q => by omega))).trans (h.block i hi hS)⟩
theorem own_low {w : World} {base n k : Nat} {e : TypeId} {v : Value} {xs : List Value} (h : w.ownsRow base e k v n xs) : ∀ i, v.ownBlock = some i → base ≤ i := fun i q => by
  rcases h.2 with ⟨rfl, _⟩ | ⟨g, cap, cur, rfl, hb, _⟩
  · cases q
  · injection q with q; rw [← q]; exact hb
theorem own_cells {w : World} {base n k : Nat} {e : TypeId} {v : Value} {xs : List Value} (h : w.ownsRow base e k v n xs) : ∀ i, v.ownBlock = some i → ∃ c, w.heap[i]? = some (.cells c e (0, 0)) := fun i q => by
  rcases h.2 with ⟨rfl, _⟩ | ⟨g, cap, cur, rfl, hb, hg, _⟩
  · cases q
  · injection q with q; exact ⟨cur, by rw [← q]; exact hg⟩
theorem grown_ch {a b : World} (h : Ch (fun _ => False) a b) : a.grownBy b none := ⟨h.os, h.tape, h.output, h.size, fun k hk _ => h.block k hk (fun f => f)⟩
/-- What a round leaves of the iterator's own blocks. -/
def KpX (X : Nat → Prop) (W W' : World) : Prop := ∀ i c t f, X i → W.heap[i]? = some (.cells c t f) → W'.heap[i]? = some (.cells c t f)
theorem KpX.trans {X : Nat → Prop} {A B C : World} (h : KpX X A B) (k : KpX X B C) : KpX X A C := fun i c t f hx hc => k i c t f hx (h i c t f hx hc)
theorem KpX.put {X : Nat → Prop} {l : Nat} {W : World} {o o' : Obj} (ho : W.heap[l]? = some o) (hc : o.isCells = false) : KpX X W (W.putObj l o') := fun i c t f _ h => (World.putObj_heap_other (fun e => by
  rw [e] at h; rw [h] at ho; cases ho; cases hc)).trans h
theorem KpX.of {X S : Nat → Prop} {W W' : World} (h : Ch S W W') (hX : ∀ i, X i → ¬ S i) : KpX X W W' := fun i c t f hx hc => (h.block i (Array.getElem?_eq_some_iff.1 hc).1 (hX i hx)).trans hc
theorem keeps_cells {S : Nat → Prop} {B : Nat} {W W' : World} (h : Ch S W W') (hS : ∀ i, S i → i < B ∨ ∃ c t f, W.heap[i]? = some (.cells c t f)) : KeepsFrom B W W' :=
  ⟨h.size, fun k o hB hk hc => (h.block k (Array.getElem?_eq_some_iff.1 hk).1 (fun s => by
    rcases hS k s with q | ⟨c, t, f, q⟩
    · omega
    · rw [hk] at q; cases q; cases hc)).trans hk⟩
/-- A row of one's own stands, whatever turns that is not its block. -/
theorem ownsRow_chS {S : Nat → Prop} {w w' : World} {base sz : Nat} {e : TypeId} {v : Value} {n : Nat} {xs : List Value} (h : w.ownsRow base e sz v n xs) (k : Ch S w w') (hS : ∀ i, v.ownBlock = some i → ¬ S i) : w'.ownsRow base e sz v n xs := by
  refine ⟨h.1, h.2.imp id ?_⟩
  rintro ⟨g, cap, cur, hv, hb, hg, r⟩
  exact ⟨g, cap, cur, hv, hb, (k.block g (Array.getElem?_eq_some_iff.1 hg).1 (hS g (by rw [hv]; rfl))).trans hg, r⟩
theorem ownsRow_base {w : World} {base base2 sz : Nat} {e : TypeId} {v : Value} {n : Nat} {xs : List Value} (h : w.ownsRow base e sz v n xs) (hb : base2 ≤ base) : w.ownsRow base2 e sz v n xs := by
  refine ⟨h.1, h.2.imp id ?_⟩
  rintro ⟨g, cap, cur, hv, hb2, r⟩
  exact ⟨g, cap, cur, hv, Nat.le_trans hb hb2, r⟩
/-- A variable in a block of its own is turned. -/
theorem var_set {w : World} {E : Nat} {a : Value} {t : TypeId} {f : Nat × Nat} (h : w.heap[E]? = some (.cells #[a] t f)) (v : Value) : (w.setCell ⟨E, 0, none⟩ v).heap[E]? = some (.cells #[v] t f) := blk_set (i := 0) h v
end Go.Proofs.YtlbdopcchoklhaaGreat
namespace Go.Proofs.YtlbdopcchoklhaaGreat
open Go.RowKit
set_option linter.unusedVariables false
set_option maxRecDepth 100000
set_option linter.unusedSimpArgs false

/-! ### plainly -/
/-- A snapshot's bytes, with noughts behind them. -/
def padZ (l : Nat) (z : Nat → Nat) (i : Nat) : Nat := if i < l then z i else 0
/-- The data of a stripe of K. -/
def datZ (K : Nat) (Z : Nat → Nat) (s k c : Nat) : Nat := Z ((s * K + k) * 228 + c)
/-- The block of a stripe's share. -/
def shrK (vol ep no : Int) (n : Gn) (a : Nat) (Z : Nat → Nat) (V : Value) (s i : Nat) : Bk := ⟨4, vol, (frsN n a s : Int) + (i : Int), ep, no, V, 228, sharesZ n.K (datZ n.K Z s) i⟩
/-- Put j of a snapshot. -/
def snpP (vol ep no : Int) (n : Gn) (a : Nat) (Z : Nat → Nat) (j : Nat) : PutP := ⟨(frsN n a (j / n.q) : Int) + ((j % n.q : Nat) : Int), 256, sectZ (shrK vol ep no n a Z undef (j / n.q) (j % n.q))⟩
theorem padZ_b {l : Nat} {z : Nat → Nat} (h : Bytes l z) (i : Nat) : padZ l z i < 256 := by
  unfold padZ
  split
  · exact h i (by assumption)
  · omega
theorem datZ_b {K : Nat} {Z : Nat → Nat} (h : ∀ i, Z i < 256) (s : Nat) : AllB (datZ K Z s) := fun r c => h _
theorem shr_may {vol ep no : Int} {n : Gn} {a s i : Nat} {Z : Nat → Nat} {V : Value} (hn : n.Ok) (ha : a ≤ 1) (hs : s < n.S) (hi : i < n.q) (hv : 0 ≤ vol ∧ vol ≤ 4294967295) (he : 0 ≤ ep ∧ ep ≤ 4294967295) (ho : 0 ≤ no ∧ no ≤ 4294967295) : mayB (shrK vol ep no n a Z V s i) = true := by
  have h1 := frsN_lt hn ha hs hi
  have h2 := hn.tot2
  exact mayB_iff.2 ⟨⟨⟨by show (1 : Int) ≤ 4; omega, by show (4 : Int) ≤ 4; omega⟩, hv, ⟨by show (0 : Int) ≤ (frsN n a s : Int) + (i : Int); omega, by show (frsN n a s : Int) + (i : Int) ≤ _; omega⟩, he, ho⟩, Nat.le_refl _⟩
/-- Which arguments may be, but for how many bytes there are. -/
def ptsB (vol : Int) (g : Ge) (a ep no : Int) : Bool := frsB g a 0 && (wordB vol && (wordB ep && wordB no))
/-! ### law12's small -/
def smlB (g : Ge) : Bool := decide (g.wal ≤ 16) && (decide (g.st ≤ 3) && (decide (g.k ≤ 4) && decide (g.m ≤ 3)))
set_option maxHeartbeats 1600000 in
theorem small12_any (g : Ge) (w : World) : Calls Tryz.prog 10 #[.agg (geC g)] w (Ans (.bool (smlB g)) w) := by
  obtain ⟨w1, H, hR⟩ := geR w g
  obtain ⟨x0, x1, x2, x3⟩ := hR.x
  have HR := Lib.hid hR
  clear hR
  by_cases h1 : g.wal ≤ 16
  case neg =>
    rw [show smlB g = false by unfold smlB; rw [decide_eq_false h1]; rfl]
    go_enter Tryz.func10, Tryz.ntmps10
    go_wp2_with ((with_reducible refine wpList_isOp (.box 23 (.tmp 0)) rfl ?_); refine wpList_boxing _ w1 rfl 23 (.tmp 0) rfl (geC g) H rfl (by exact HR.out.sz) (by exact HR.out.al) ?_)
    go_ret
    exact ⟨rfl, HR.out.ch⟩
  by_cases h2 : g.st ≤ 3
  case neg =>
    rw [show smlB g = false by unfold smlB; rw [decide_eq_true h1, decide_eq_false h2]; rfl]
    go_enter Tryz.func10, Tryz.ntmps10
    go_wp2_with ((with_reducible refine wpList_isOp (.box 23 (.tmp 0)) rfl ?_); refine wpList_boxing _ w1 rfl 23 (.tmp 0) rfl (geC g) H rfl (by exact HR.out.sz) (by exact HR.out.al) ?_)
    go_ret
    exact ⟨rfl, HR.out.ch⟩
  by_cases h3 : g.k ≤ 4
  case neg =>
    rw [show smlB g = false by unfold smlB; rw [decide_eq_true h1, decide_eq_true h2, decide_eq_false h3]; rfl]
    go_enter Tryz.func10, Tryz.ntmps10
    go_wp2_with ((with_reducible refine wpList_isOp (.box 23 (.tmp 0)) rfl ?_); refine wpList_boxing _ w1 rfl 23 (.tmp 0) rfl (geC g) H rfl (by exact HR.out.sz) (by exact HR.out.al) ?_)
    go_ret
    exact ⟨rfl, HR.out.ch⟩
  by_cases h4 : g.m ≤ 3
  case neg =>
    rw [show smlB g = false by unfold smlB; rw [decide_eq_true h1, decide_eq_true h2, decide_eq_true h3, decide_eq_false h4]; rfl]
    go_enter Tryz.func10, Tryz.ntmps10
    go_wp2_with ((with_reducible refine wpList_isOp (.box 23 (.tmp 0)) rfl ?_); refine wpList_boxing _ w1 rfl 23 (.tmp 0) rfl (geC g) H rfl (by exact HR.out.sz) (by exact HR.out.al) ?_)
    go_ret
    exact ⟨rfl, HR.out.ch⟩
  rw [show smlB g = true by unfold smlB; rw [decide_eq_true h1, decide_eq_true h2, decide_eq_true h3, decide_eq_true h4]; rfl]
  go_enter Tryz.func10, Tryz.ntmps10
  go_wp2_with ((with_reducible refine wpList_isOp (.box 23 (.tmp 0)) rfl ?_); refine wpList_boxing _ w1 rfl 23 (.tmp 0) rfl (geC g) H rfl (by exact HR.out.sz) (by exact HR.out.al) ?_)
  go_ret
  exact ⟨rfl, HR.out.ch⟩
/-! ### what may not be -/
end Go.Proofs.YtlbdopcchoklhaaGreat
