/-
  sup.within and May, walked.
-/
import Derived.Test.YtjdknebifcdicaaMg25
namespace Go.Proofs.Ytjdknebifcdicaa
open Go.RowKit
set_option linter.unusedVariables false
set_option maxRecDepth 100000

set_option maxHeartbeats 400000 in
theorem swithin_any (n a b : Int) (w : World) : Calls Try.prog 25 #[.int .i64 n, .int .i64 a, .int .i64 b] w fun e w' => e = .returned (.bool (inB n a b)) ∧ w = w' := by
  by_cases h1 : a ≤ n
  · by_cases h2 : n ≤ b
    · have HE := Lib.hid (show inB n a b = true from inB_true.2 ⟨h1, h2⟩)
      have t1 : decide (a ≤ n) = true := decide_eq_true h1
      have t2 : decide (n ≤ b) = true := decide_eq_true h2
      clear h1 h2
      go_enter Try.func25, Try.ntmps25
      go_wp2
      go_ret
      exact ⟨ret_bool HE.out.symm, rfl⟩
    · have HE := Lib.hid (show inB n a b = false from decide_eq_false fun q => h2 q.2)
      have t1 : decide (a ≤ n) = true := decide_eq_true h1
      have t2 : decide (n ≤ b) = false := decide_eq_false h2
      clear h1 h2
      go_enter Try.func25, Try.ntmps25
      go_wp2
      go_ret
      exact ⟨ret_bool HE.out.symm, rfl⟩
  · have HE := Lib.hid (show inB n a b = false from decide_eq_false fun q => h1 q.1)
    have t1 : decide (a ≤ n) = false := decide_eq_false h1
    clear h1
    go_enter Try.func25, Try.ntmps25
    go_wp2
    go_ret
    exact ⟨ret_bool HE.out.symm, rfl⟩
#print axioms swithin_any

theorem swithin_q {n a b : Int} {q : Bool} (h : inB n a b = q) (w : World) : Calls Try.prog 25 #[.int .i64 n, .int .i64 a, .int .i64 b] w fun e w' => e = .returned (.bool q) ∧ w' = w := (swithin_any n a b w).mono fun _ _ ⟨h1, h2⟩ => ⟨by rw [h1, h], h2.symm⟩

/-! ### May -/
def fiveS (x : Sp) : Nat → Int
  | 0 => x.vol
  | 1 => x.ep
  | 2 => x.snap
  | 3 => x.start
  | _ => x.chain
theorem five_all {x : Sp} (h : ∀ c, c < 5 → wordS (fiveS x c) = true) : (wordS x.vol && (wordS x.ep && (wordS x.snap && (wordS x.start && wordS x.chain)))) = true := by
  simp only [Bool.and_eq_true]
  exact ⟨h 0 (by omega), h 1 (by omega), h 2 (by omega), h 3 (by omega), h 4 (by omega)⟩
theorem five_not {x : Sp} {c : Nat} (hc : c < 5) (h : wordS (fiveS x c) = false) : mayS x = false := by
  cases q : mayS x with
  | false => rfl
  | true =>
    have m := mayS_iff.1 q
    have : wordS (fiveS x c) = true := by
      refine inB_true.2 ?_
      match c, hc with
      | 0, _ => exact m.vol
      | 1, _ => exact m.ep
      | 2, _ => exact m.snap
      | 3, _ => exact m.start
      | 4, _ => exact m.chain
    rw [this] at h
    cases h
theorem five_cells (x : Sp) {c : Nat} (hc : c < 5) : (#[Value.int .i64 x.vol, .int .i64 x.ep, .int .i64 x.snap, .int .i64 x.start, .int .i64 x.chain] : Array Value)[c]? = some (.int .i64 (fiveS x c)) := by
  match c, hc with
  | 0, _ => rfl
  | 1, _ => rfl
  | 2, _ => rfl
  | 3, _ => rfl
  | 4, _ => rfl
theorem may_with {x : Sp} (h : ∀ c, c < 5 → wordS (fiveS x c) = true) : mayS x = (inB x.gen 1 4294967295 && (inB x.area 0 1 && (inB x.long 0 (roomG x.g) && mayG x.g))) := by
  unfold mayS
  rw [five_all h, Bool.true_and]
set_option maxHeartbeats 20000000 in
theorem smay_any (x : Sp) (w : World) : Calls Try.prog 14 #[.agg (supC x)] w (Ans (.bool (mayS x)) w) := by
  obtain ⟨w1, H, hR⟩ := boxR w (supC x) 25
  obtain ⟨x0, x1, x2, x3, x4, x5, x6, x7, x8, x9, x10, x11⟩ := su_x hR.cx
  obtain ⟨w2, hw2⟩ : ∃ w2, w2 = w1.alloc (.cells #[.int .i64 x.vol, .int .i64 x.ep, .int .i64 x.snap, .int .i64 x.start, .int .i64 x.chain] /-t-/3) := ⟨_, rfl⟩
  obtain ⟨G, hG⟩ : ∃ G, G = w1.heap.size := ⟨_, rfl⟩
  have hc12 : Ch (fun _ => False) w1 w2 := by rw [hw2]; exact (Ch.refl _ w1).alloc _ _
  have HC2 := Lib.hid (hR.ch.trans hc12)
  have HX2 := Lib.hid ((su_x hR.cx).gr hc12)
  have HV := Lib.hid (show ∀ c, c < 5 → w2.cell? ⟨G, c, none⟩ = some (.int .i64 (fiveS x c)) from fun c hc => by
    rw [hw2, hG, blk_cell (heap_alloc_new w1 _)]
    exact five_cells x hc)
  have HR := Lib.hid hR
  clear hR hc12
  go_enter Try.func14, Try.ntmps14
  go_wp2_with ((with_reducible refine wpList_isOp (.box 25 (.tmp 0)) rfl ?_); refine wpList_boxing _ w1 rfl 25 (.tmp 0) rfl (supC x) H rfl (by exact HR.out.sz) (by exact HR.out.al) ?_)
  rw [← hw2, ← hG]
  clear x0 x1 x2 x3 x4 x5 x6 x7 x8 x9 x10 x11 hw2 hG HR
  go_loopw [4, 17, 18, 19, 20, 21, 22, 23, 24] (fun _ i _ _ _ _ _ _ _ wr => ∃ k : Nat, k ≤ 5 ∧ i = .int .i64 k ∧ wr = w2 ∧ Hid (∀ c, c < k → wordS (fiveS x c) = true)) (fun _ i _ _ _ _ _ _ _ _ => 5 - (intOf i).toNat)
  case atStart => exact ⟨0, Nat.zero_le _, rfl, rfl, Lib.hid fun c hc => absurd hc (Nat.not_lt_zero c)⟩
  case round =>
    obtain ⟨k, hk, rfl, rfl, HK⟩ := hrel
    by_cases hlt : k < 5
    · have i1 : (0 : Int) ≤ (k : Int) := Int.natCast_nonneg _
      have i2 : (k : Int) < 5 := by omega
      have hcell := HV.out k hlt
      have HLT := Lib.hid hlt
      clear hlt
      cases hf : wordS (fiveS x k)
      · have HF := Lib.hid (five_not HLT.out hf)
        have HQ := Lib.hid (show inB (fiveS x k) 0 4294967295 = false from hf)
        clear hf
        go_wp2_with (go_at_call 25; refine (swithin_any _ _ _ _).mono ?_; rintro e w' ⟨rfl, rfl⟩; rw [HQ.out])
        go_ret
        exact ⟨ret_bool HF.out.symm, HC2.out⟩
      · have HF := Lib.hid hf
        have HQ := Lib.hid (show inB (fiveS x k) 0 4294967295 = true from hf)
        clear hf
        go_wp2_with (go_at_call 25; refine (swithin_any _ _ _ _).mono ?_; rintro e w' ⟨rfl, rfl⟩; rw [HQ.out])
        go_roundw
        case rel =>
          refine ⟨k + 1, HLT.out, by go_num, by trivial, Lib.hid fun c hc => ?_⟩
          by_cases q : c < k
          · exact HK.out c q
          · obtain rfl : c = k := by omega
            exact HF.out
        case measure => have := HLT.out; simp [intOf]; omega
    · obtain rfl : k = 5 := by omega
      have HM := Lib.hid (may_with HK.out)
      obtain ⟨x0, x1, x2, x3, x4, x5, x6, x7, x8, x9, x10, x11⟩ := HX2.out
      clear hlt hk
      rw [show ((5 : Nat) : Int) = 5 from rfl]
      cases t1 : inB x.gen 1 4294967295
      · have HE := Lib.hid (show mayS x = false by rw [HM.out, t1]; rfl)
        have H1 := Lib.hid (fun w => swithin_q t1 w)
        clear t1
        go_wp2
        go_quiet (first | (go_at_call 25; exact Calls.quiet_of_same (H1.out _)))
        go_wp2
        go_ret
        exact ⟨ret_bool HE.out.symm, HC2.out.drewN _⟩
      cases t2 : inB x.area 0 1
      · have HE := Lib.hid (show mayS x = false by rw [HM.out, t1, t2]; rfl)
        have H1 := Lib.hid t1
        have H2 := Lib.hid t2
        clear t1 t2
        go_wp2
        go_quiet (first
          | (go_at_call 25; refine Calls.quiet_of_same (v := .bool true) (swithin_q (q := true) ?_ _); with_reducible exact H1.out)
          | (go_at_call 25; refine Calls.quiet_of_same (v := .bool false) (swithin_q (q := false) ?_ _); with_reducible exact H2.out))
        go_wp2
        go_ret
        exact ⟨ret_bool HE.out.symm, HC2.out.drewN _⟩
      cases t3 : inB x.long 0 (roomG x.g)
      · have HE := Lib.hid (show mayS x = false by rw [HM.out, t1, t2, t3]; rfl)
        have H1 := Lib.hid t1
        have H2 := Lib.hid t2
        have H3 := Lib.hid t3
        clear t1 t2 t3
        go_upto_region 7 with fail
        have HS1 := Lib.hid HX2.out.drew
        refine wp_region_held (S := (fun w' => w'.cell? ⟨H, 0, none⟩ = some (.int .i64 (x).vol) ∧ w'.cell? ⟨H, 1, none⟩ = some (.int .i64 (x).gen) ∧ w'.cell? ⟨H, 2, none⟩ = some (.int .i64 (x).ep) ∧ w'.cell? ⟨H, 3, none⟩ = some (.int .i64 (x).area) ∧ w'.cell? ⟨H, 4, none⟩ = some (.int .i64 (x).snap) ∧ w'.cell? ⟨H, 5, none⟩ = some (.int .i64 (x).long) ∧ w'.cell? ⟨H, 6, none⟩ = some (.int .i64 (x).start) ∧ w'.cell? ⟨H, 7, none⟩ = some (.int .i64 (x).chain) ∧ w'.cell? ⟨H, 8, none⟩ = some (.int .i64 (x).g.wal) ∧ w'.cell? ⟨H, 9, none⟩ = some (.int .i64 (x).g.st) ∧ w'.cell? ⟨H, 10, none⟩ = some (.int .i64 (x).g.k) ∧ w'.cell? ⟨H, 11, none⟩ = some (.int .i64 (x).g.m))) (by kernel_rfl) ?_
        change wpAnyH _ _ _ _ _ _ _ _ (World.drew _)
        refine wpAnyH_take (i := 0) (oi := ⟨some 25, .fieldAddr 25 (.tmp 1) 1, _, _, _, none⟩) (v := .pointer (some ⟨H, 1, none⟩)) rfl (by kernel_rfl) (by kernel_rfl) (by kernel_rfl) (fun _ _ _ h => h) (Or.inl ⟨by rfl, fun w' hS => ?_⟩) HS1.out ?_
        · clear hS; go_simp
        simp only [Act.put, List.setIfInBounds_toArray, List.set_cons_zero, List.set_cons_succ]
        refine wpAnyH_take (i := 1) (oi := ⟨some 26, .load /-t-/3 (.tmp 25), _, _, _, none⟩) (v := .int .i64 x.gen) rfl (by kernel_rfl) (by kernel_rfl) (by kernel_rfl) (fun _ _ _ h => h) (Or.inl ⟨by rfl, fun w' hS => ?_⟩) HS1.out ?_
        · obtain ⟨x0, x1, x2, x3, x4, x5, x6, x7, x8, x9, x10, x11⟩ := hS; go_simp
        simp only [Act.put, List.setIfInBounds_toArray, List.set_cons_zero, List.set_cons_succ]
        refine wpAnyH_ready (rs := [2]) (by kernel_rfl) (by simp) ?_
        refine AllReadyH.cons rfl (fun K hK => ?_) AllReadyH.nil
        go_simp
        refine (swithin_any _ _ _ _).mono ?_
        rintro e w' ⟨rfl, rfl⟩
        rw [H1.out]
        dsimp only
        refine hK.out _ _ HS1.out (fun _ => ?_)
        clear hK K
        refine wpAnyH_take (i := 3) (oi := ⟨some 28, .move (.tmp 27), _, _, _, none⟩) (v := .bool true) rfl (by kernel_rfl) (by kernel_rfl) (by kernel_rfl) (fun _ _ _ h => h) (Or.inl ⟨by rfl, fun w' hS => ?_⟩) HS1.out ?_
        · clear hS; go_simp
        simp only [Act.put, List.setIfInBounds_toArray, List.set_cons_zero, List.set_cons_succ]
        refine wpAnyH_take (i := 4) (oi := ⟨some 29, .fieldAddr 25 (.tmp 1) 3, _, _, _, some (3, true)⟩) (v := .pointer (some ⟨H, 3, none⟩)) rfl (by kernel_rfl) (by kernel_rfl) (by kernel_rfl) (fun _ _ _ h => h) (Or.inl ⟨by rfl, fun w' hS => ?_⟩) HS1.out ?_
        · clear hS; go_simp
        simp only [Act.put, List.setIfInBounds_toArray, List.set_cons_zero, List.set_cons_succ]
        refine wpAnyH_take (i := 5) (oi := ⟨some 30, .load /-t-/3 (.tmp 29), _, _, _, some (3, true)⟩) (v := .int .i64 x.area) rfl (by kernel_rfl) (by kernel_rfl) (by kernel_rfl) (fun _ _ _ h => h) (Or.inl ⟨by rfl, fun w' hS => ?_⟩) HS1.out ?_
        · obtain ⟨x0, x1, x2, x3, x4, x5, x6, x7, x8, x9, x10, x11⟩ := hS; go_simp
        simp only [Act.put, List.setIfInBounds_toArray, List.set_cons_zero, List.set_cons_succ]
        refine wpAnyH_ready (rs := [6]) (by kernel_rfl) (by simp) ?_
        refine AllReadyH.cons rfl (fun K hK => ?_) AllReadyH.nil
        go_simp
        refine (swithin_any _ _ _ _).mono ?_
        rintro e w' ⟨rfl, rfl⟩
        rw [H2.out]
        dsimp only
        refine hK.out _ _ HS1.out (fun _ => ?_)
        clear hK K
        refine wpAnyH_take (i := 7) (oi := ⟨some 32, .pick (.tmp 28) (.tmp 31) (.const (.bool false)), _, _, _, none⟩) (v := .bool true) rfl (by kernel_rfl) (by kernel_rfl) (by kernel_rfl) (fun _ _ _ h => h) (Or.inl ⟨by rfl, fun w' hS => ?_⟩) HS1.out ?_
        · clear hS; go_simp
        simp only [Act.put, List.setIfInBounds_toArray, List.set_cons_zero, List.set_cons_succ]
        refine wpAnyH_take (i := 8) (oi := ⟨some 33, .move (.tmp 32), _, _, _, none⟩) (v := .bool true) rfl (by kernel_rfl) (by kernel_rfl) (by kernel_rfl) (fun _ _ _ h => h) (Or.inl ⟨by rfl, fun w' hS => ?_⟩) HS1.out ?_
        · clear hS; go_simp
        simp only [Act.put, List.setIfInBounds_toArray, List.set_cons_zero, List.set_cons_succ]
        refine wpAnyH_take (i := 9) (oi := ⟨some 34, .fieldAddr 25 (.tmp 1) 5, _, _, _, some (8, true)⟩) (v := .pointer (some ⟨H, 5, none⟩)) rfl (by kernel_rfl) (by kernel_rfl) (by kernel_rfl) (fun _ _ _ h => h) (Or.inl ⟨by rfl, fun w' hS => ?_⟩) HS1.out ?_
        · clear hS; go_simp
        simp only [Act.put, List.setIfInBounds_toArray, List.set_cons_zero, List.set_cons_succ]
        refine wpAnyH_take (i := 10) (oi := ⟨some 35, .load /-t-/3 (.tmp 34), _, _, _, some (8, true)⟩) (v := .int .i64 x.long) rfl (by kernel_rfl) (by kernel_rfl) (by kernel_rfl) (fun _ _ _ h => h) (Or.inl ⟨by rfl, fun w' hS => ?_⟩) HS1.out ?_
        · obtain ⟨x0, x1, x2, x3, x4, x5, x6, x7, x8, x9, x10, x11⟩ := hS; go_simp
        simp only [Act.put, List.setIfInBounds_toArray, List.set_cons_zero, List.set_cons_succ]
        refine wpAnyH_take (i := 11) (oi := ⟨some 36, .fieldAddr 25 (.tmp 1) 8, _, _, _, some (8, true)⟩) (v := .pointer (some ⟨H, 8, none⟩)) rfl (by kernel_rfl) (by kernel_rfl) (by kernel_rfl) (fun _ _ _ h => h) (Or.inl ⟨by rfl, fun w' hS => ?_⟩) HS1.out ?_
        · clear hS; go_simp
        simp only [Act.put, List.setIfInBounds_toArray, List.set_cons_zero, List.set_cons_succ]
        refine wpAnyH_take (i := 12) (oi := ⟨some 37, .load 23 (.tmp 36), _, _, _, some (8, true)⟩) (v := .agg (geC x.g)) rfl (by kernel_rfl) (by kernel_rfl) (by kernel_rfl) (fun _ _ _ h => h) (Or.inl ⟨by rfl, fun w' hS => ?_⟩) HS1.out ?_
        · obtain ⟨x0, x1, x2, x3, x4, x5, x6, x7, x8, x9, x10, x11⟩ := hS; go_simp; rfl
        simp only [Act.put, List.setIfInBounds_toArray, List.set_cons_zero, List.set_cons_succ]
        refine wpAnyH_ready (rs := [13]) (by kernel_rfl) (by simp) ?_
        refine AllReadyH.cons rfl (fun K hK => ?_) AllReadyH.nil
        go_simp
        refine (room_any x.g _).mono ?_
        rintro e w3 ⟨rfl, hc3⟩
        have HS2 := Lib.hid (HX2.out.drew.gr hc3)
        have HC3 := Lib.hid (HC2.out.drew.trans hc3)
        clear hc3
        dsimp only
        refine hK.out _ _ HS2.out (fun _ => ?_)
        clear hK K
        refine wpAnyH_ready (rs := [14]) (by kernel_rfl) (by simp) ?_
        refine AllReadyH.cons rfl (fun K hK => ?_) AllReadyH.nil
        go_simp
        refine (swithin_any _ _ _ _).mono ?_
        rintro e w' ⟨rfl, rfl⟩
        rw [H3.out]
        dsimp only
        refine hK.out _ _ HS2.out (fun _ => ?_)
        clear hK K
        refine wpAnyH_take (i := 15) (oi := ⟨some 40, .pick (.tmp 33) (.tmp 39) (.const (.bool false)), _, _, _, none⟩) (v := .bool false) rfl (by kernel_rfl) (by kernel_rfl) (by kernel_rfl) (fun _ _ _ h => h) (Or.inl ⟨by rfl, fun w' hS => ?_⟩) HS2.out ?_
        · clear hS; go_simp
        simp only [Act.put, List.setIfInBounds_toArray, List.set_cons_zero, List.set_cons_succ]
        refine wpAnyH_take (i := 16) (oi := ⟨some 41, .move (.tmp 40), _, _, _, none⟩) (v := .bool false) rfl (by kernel_rfl) (by kernel_rfl) (by kernel_rfl) (fun _ _ _ h => h) (Or.inl ⟨by rfl, fun w' hS => ?_⟩) HS2.out ?_
        · clear hS; go_simp
        simp only [Act.put, List.setIfInBounds_toArray, List.set_cons_zero, List.set_cons_succ]
        refine wpAnyH_take (i := 17) (oi := ⟨some 42, .fieldAddr 25 (.tmp 1) 8, _, _, _, some (16, true)⟩) (v := undef) rfl (by kernel_rfl) (by kernel_rfl) (by kernel_rfl) (fun _ _ _ h => h) (Or.inr ⟨by rfl, rfl⟩) HS2.out ?_
        simp only [Act.put, List.setIfInBounds_toArray, List.set_cons_zero, List.set_cons_succ]
        refine wpAnyH_take (i := 18) (oi := ⟨some 43, .load 23 (.tmp 42), _, _, _, some (16, true)⟩) (v := undef) rfl (by kernel_rfl) (by kernel_rfl) (by kernel_rfl) (fun _ _ _ h => h) (Or.inr ⟨by rfl, rfl⟩) HS2.out ?_
        simp only [Act.put, List.setIfInBounds_toArray, List.set_cons_zero, List.set_cons_succ]
        refine wpAnyH_take (i := 19) (oi := ⟨some 44, .call { callee := .value (.func 35), args := #[.tmp 43], argTypes := #[ 23] }, _, _, _, some (16, true)⟩) (v := undef) rfl (by kernel_rfl) (by kernel_rfl) (by kernel_rfl) (fun _ _ _ h => h) (Or.inr ⟨by rfl, rfl⟩) HS2.out ?_
        simp only [Act.put, List.setIfInBounds_toArray, List.set_cons_zero, List.set_cons_succ]
        refine wpAnyH_take (i := 20) (oi := ⟨some 45, .pick (.tmp 41) (.tmp 44) (.const (.bool false)), _, _, _, none⟩) (v := .bool false) rfl (by kernel_rfl) (by kernel_rfl) (by kernel_rfl) (fun _ _ _ h => h) (Or.inl ⟨by rfl, fun w' hS => ?_⟩) HS2.out ?_
        · clear hS; go_simp
        simp only [Act.put, List.setIfInBounds_toArray, List.set_cons_zero, List.set_cons_succ]
        refine wpAnyH_take (i := 21) (oi := ⟨some 2, .assign (.tmp 45), _, _, _, none⟩) (v := .bool false) rfl (by kernel_rfl) (by kernel_rfl) (by kernel_rfl) (fun _ _ _ h => h) (Or.inl ⟨by rfl, fun w' hS => ?_⟩) HS2.out ?_
        · clear hS; go_simp
        simp only [Act.put, List.setIfInBounds_toArray, List.set_cons_zero, List.set_cons_succ]
        refine wpAnyH_done (by kernel_rfl) ?_ _
        go_wp2
        go_ret
        exact ⟨ret_bool HE.out.symm, HC3.out⟩
      have HE := Lib.hid (show mayS x = mayG x.g by rw [HM.out, t1, t2, t3]; rfl)
      have H1 := Lib.hid t1
      have H2 := Lib.hid t2
      have H3 := Lib.hid t3
      clear t1 t2 t3
      go_wp2
      go_region_held3 (fun w' => w'.cell? ⟨H, 0, none⟩ = some (.int .i64 (x).vol) ∧ w'.cell? ⟨H, 1, none⟩ = some (.int .i64 (x).gen) ∧ w'.cell? ⟨H, 2, none⟩ = some (.int .i64 (x).ep) ∧ w'.cell? ⟨H, 3, none⟩ = some (.int .i64 (x).area) ∧ w'.cell? ⟨H, 4, none⟩ = some (.int .i64 (x).snap) ∧ w'.cell? ⟨H, 5, none⟩ = some (.int .i64 (x).long) ∧ w'.cell? ⟨H, 6, none⟩ = some (.int .i64 (x).start) ∧ w'.cell? ⟨H, 7, none⟩ = some (.int .i64 (x).chain) ∧ w'.cell? ⟨H, 8, none⟩ = some (.int .i64 (x).g.wal) ∧ w'.cell? ⟨H, 9, none⟩ = some (.int .i64 (x).g.st) ∧ w'.cell? ⟨H, 10, none⟩ = some (.int .i64 (x).g.k) ∧ w'.cell? ⟨H, 11, none⟩ = some (.int .i64 (x).g.m)) (first | go_keep | exact ka | exact kb)
        (first
          | (go_at_call 25; refine (swithin_any _ _ _ _).mono ?_; rintro e w' ⟨rfl, rfl⟩; first | rw [H1.out] | rw [H2.out] | rw [H3.out])
          | (go_at_call 34; refine (room_any x.g _).mono ?_; rintro e w3 ⟨rfl, hc3⟩; have ka := (HX2.out.drew.gr hc3).all)
          | (go_at_call 35; refine (gmay_any x.g _).mono ?_; rintro e w4 ⟨rfl, hc4⟩; have kb := ((HX2.out.drew.gr hc3).gr hc4).all))
      go_wp2
      go_ret
      exact ⟨ret_bool HE.out.symm, (HC2.out.drew.trans hc3).trans hc4⟩
#print axioms smay_any
end Go.Proofs.Ytjdknebifcdicaa
