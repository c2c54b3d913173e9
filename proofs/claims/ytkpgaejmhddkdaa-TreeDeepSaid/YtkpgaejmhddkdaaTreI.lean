/-
  slices.Grow and slices.Concat of a tree's rows, walked. (Laid by tools/gen_trei.py.)
-/
import Derived.Test.YtkpgaejmhddkdaaTreD
import Derived.Lib.AppendZeros
namespace Go.Proofs.Ytkpgaejmhddkdaa
open Go.RowKit
set_option linter.unusedVariables false
set_option maxRecDepth 100000
set_option linter.unusedSimpArgs false

/-- How long the first k of some rows are together. -/
def catLen {α : Type} (X : List (Option Addr × Nat × List α)) (k : Nat) : Nat := ((X.take k).flatMap fun x => x.2.2).length
theorem catLen_succ {α : Type} {X : List (Option Addr × Nat × List α)} {k : Nat} {x : Option Addr × Nat × List α} (h : X[k]? = some x) : catLen X (k + 1) = catLen X k + x.2.2.length := by
  unfold catLen
  rw [List.take_add_one, h]
  simp
set_option maxHeartbeats 1600000 in
theorem growPr_any (n : Nat) (hn : n ≤ 2000) (w : World) : Calls Try.prog 57 #[.slice none 0 0, .int .i64 (n : Int)] w (RowP kdPr w []) := by
  by_cases h0 : 0 < n
  · obtain ⟨i0, hi, hz0, hz1, hz2⟩ := info_parts kdPr_ok.inf
    have hr := Lib.run_append_nil_zeros (P := Try.prog) w 57 /-t-/3 57 56 i0 kdPr.z .i64 .i64 kdPr_ok.un (by kernel_rfl) hi hz0 n h0 (by rw [hz1]; exact kdPr_ok.k0) (by omega) (by rw [hz2]; show n * 24 ≤ _; omega)
    have hge := grownCap_ge w n 0 56
    have hle := grownCap_le_maxLen w n 0 56 (by unfold maxLen; omega)
    obtain ⟨C, hC⟩ : ∃ C, C = grownCap w n 0 56 := ⟨_, rfl⟩
    rw [← hC] at hr hge hle
    obtain ⟨cs, hcs⟩ : ∃ cs, cs = Builtin.zeroCells kdPr.z.cells n ++ Builtin.zeroCells kdPr.z.cells (C - n) := ⟨_, rfl⟩
    have hsz : cs.size = C * kdPr.k := by
      rw [hcs, Array.size_append, size_zeroCells, size_zeroCells, kdPr_ok.zk, ← Nat.add_mul]
      congr 1
      omega
    rw [← hcs] at hr
    obtain ⟨w1, hw1⟩ : ∃ w1, w1 = w.drew.alloc (.cells cs 56) := ⟨_, rfl⟩
    obtain ⟨g, hg⟩ : ∃ g, g = w.heap.size := ⟨_, rfl⟩
    rw [← hw1, ← hg] at hr
    have HO : Hid (RowP kdPr w [] (.returned (.slice (some ⟨g, 0, none⟩) 0 C)) w1) := Lib.hid ⟨_, rfl, ⟨by simp [flC], Or.inr ⟨g, C, cs, rfl, Nat.le_of_eq hg.symm, by rw [hw1, hg]; exact heap_alloc_new w.drew _, Nat.zero_le _, hle, hsz, by simp [flC]⟩⟩, by rw [hw1]; exact (Ch.refl _ w).drew.alloc _ _⟩
    have hn0 : (0 : Int) < (n : Int) := by omega
    have hn1 : (n : Int) ≤ 2000 := by omega
    have HR := Lib.hid hr
    have hCn : (0 : Int) ≤ (C : Int) := Int.natCast_nonneg _
    have hnC : n ≤ C := hge
    clear hr hge hle hC hcs hsz hw1 hg hi hz0 hz1 hz2 h0 hn
    go_enter Try.func57, Try.ntmps57
    go_wp2_with (first
      | (at_builtin; refine Lib.wpList_append_run _ rfl (.tmp 20) (.tmp 21) 57 /-t-/3 rfl _ _ rfl rfl _ w1 (by exact HR.out) ?_)
      | fail)
    go_ret
    exact HO.out
  · have e : n = 0 := by omega
    subst e
    clear h0 hn
    go_enter Try.func57, Try.ntmps57
    go_wp2
    go_ret
    exact ⟨_, rfl, FlO.start kdPr w w, Ch.refl _ _⟩
#print axioms growPr_any
set_option maxHeartbeats 6400000 in
theorem concPr_any (b : Nat) (X : List (Option Addr × Nat × List Kv)) (w : World) (T : TypeId) (hb : w.heap[b]? = some (.cells (X.map fun x => Value.slice x.1 x.2.2.length x.2.1).toArray T (0, 0))) (hX : ∀ x ∈ X, FlV kdPr w x.1 x.2.1 x.2.2) (hs : ∀ k, catLen X k ≤ 1000) (hl : X.length ≤ 10) :
    Calls Try.prog 50 #[.slice (some ⟨b, 0, none⟩) X.length X.length] w (RowP kdPr w (X.flatMap fun x => x.2.2)) := by
  obtain ⟨K, hK⟩ : ∃ K, K = X.length := ⟨_, rfl⟩
  rw [← hK] at hl ⊢
  have HKX := Lib.hid hK
  have hcell : ∀ j x, X[j]? = some x → w.cell? ⟨b, j, none⟩ = some (.slice x.1 x.2.2.length x.2.1) := fun j x hx => by
    rw [blk_cell hb, List.getElem?_toArray, List.getElem?_map, hx]; rfl
  have HCE := Lib.hid hcell
  have HX := Lib.hid hX
  have HS := Lib.hid hs
  have k0 : (0 : Int) ≤ (K : Int) := Int.natCast_nonneg _
  have k1 : (K : Int) ≤ 10 := by omega
  have HG := Lib.hid (growPr_any (catLen X K) (by have := hs K; omega) w)
  clear hb hX hs hcell hK hl
  go_enter Try.func50, Try.ntmps50
  go_wp2_with fail
  go_loopw [3, 5, 11, 12, 13, 14, 15, 16, 17, 18, 19, 20, 22] (fun t _ i _ _ _ _ _ _ _ _ _ _ wr => ∃ r T : Nat, r ≤ K ∧ i = .int .i64 r ∧ t = .int .i64 T ∧ Hid (T = catLen X r) ∧ wr = w) (fun _ _ i _ _ _ _ _ _ _ _ _ _ _ => K - (intOf i).toNat)
  case atStart => exact ⟨0, 0, Nat.zero_le _, rfl, rfl, Lib.hid (by simp [catLen]), rfl⟩
  case round =>
    obtain ⟨r, T, hr, rfl, rfl, HT, rfl⟩ := hrel
    have r0 : (0 : Int) ≤ (r : Int) := Int.natCast_nonneg _
    by_cases hlt : r < K
    · have r1 : (r : Int) < (K : Int) := by omega
      obtain ⟨x, hx⟩ : ∃ x, X[r]? = some x := ⟨_, List.getElem?_eq_getElem (by rw [← HKX.out]; exact hlt)⟩
      obtain ⟨A', C', L'⟩ := x
      have c1 : wr.cell? ⟨b, r, none⟩ = some (.slice A' L'.length C') := HCE.out r _ hx
      obtain ⟨m, hm⟩ : ∃ m, m = L'.length := ⟨_, rfl⟩
      rw [← hm] at c1
      have hsm : T + m = catLen X (r + 1) := by rw [HT.out, hm, catLen_succ hx]
      have hb1 := HS.out (r + 1)
      have hw := IntWalk.wrap64_in ((T : Int) + (m : Int)) ⟨by omega, by omega⟩
      have HW := Lib.hid hw
      have hneg : ¬ wrap64 ((T : Int) + (m : Int)) < 0 := by rw [hw]; omega
      have hd : decide (wrap64 ((T : Int) + (m : Int)) < 0) = false := decide_eq_false hneg
      have HSM := Lib.hid hsm
      clear hx hw hsm hb1 hm
      go_wp2_with fail
      go_roundw
      case rel => exact ⟨r + 1, T + m, hlt, by go_num, by rw [HW.out]; rfl, Lib.hid HSM.out, trivial⟩
      case measure => simp [intOf]; omega
    · have hre : r = K := by omega
      have r1 : ¬ (r : Int) < (K : Int) := by omega
      have HT2 : Hid (T = catLen X K) := Lib.hid (by rw [HT.out, hre])
      clear hre hr HT
      go_wp2_with fail
      rw [HT2.out]
      refine HG.out.mono ?_
      rintro e w1 ⟨v1, rfl, ho, hc⟩
      have HO : Hid (FlO kdPr wr w1 v1 []) := Lib.hid ho
      have HC : Hid (Ch (fun _ => False) wr w1) := Lib.hid hc
      clear ho hc
      go_wp2_with fail
      go_loopw [6, 8, 27, 28, 29, 30, 31, 32, 33, 34] (fun v _ i _ _ _ _ _ _ _ w2 => ∃ s : Nat, s ≤ K ∧ i = .int .i64 s ∧ Hid (FlO kdPr wr w2 v ((X.take s).flatMap fun x => x.2.2)) ∧ Hid (Ch (fun _ => False) wr w2)) (fun _ _ i _ _ _ _ _ _ _ _ => K - (intOf i).toNat)
      case atStart => exact ⟨0, Nat.zero_le _, rfl, HO, HC⟩
      case round =>
        clear HO HG HC
        obtain ⟨s, hs, rfl, HO, HC⟩ := hrel
        have s0 : (0 : Int) ≤ (s : Int) := Int.natCast_nonneg _
        by_cases hlt : s < K
        · have s1 : (s : Int) < (K : Int) := by omega
          obtain ⟨x, hx⟩ : ∃ x, X[s]? = some x := ⟨_, List.getElem?_eq_getElem (by rw [← HKX.out]; exact hlt)⟩
          obtain ⟨A', C', L'⟩ := x
          have c1 := HC.out.cell (HCE.out s _ hx) (fun f => f)
          have hv := HX.out _ (List.mem_of_getElem? hx)
          have e1 : ((X.take s).flatMap fun x => x.2.2) ++ L' = (X.take (s + 1)).flatMap fun x => x.2.2 := by
            rw [List.take_add_one, hx]; simp
          have hln : ((X.take s).flatMap fun x => x.2.2).length + L'.length ≤ 1048576 := by
            have h1 := HS.out (s + 1)
            rw [← List.length_append, e1]
            have : catLen X (s + 1) = ((X.take (s + 1)).flatMap fun x => x.2.2).length := rfl
            omega
          obtain ⟨v2, w3, hrun, ho3, hc3, _⟩ := HO.out.appV kdPr_ok 57 A' C' (hv.gr HC.out) hln HC.out.size
          rw [e1] at ho3
          have hcc := HC.out.new (hc3.mono fun i _ hi => (own_at HO.out hi).1)
          obtain ⟨m, hm⟩ : ∃ m, m = L'.length := ⟨_, rfl⟩
          change _ = some (Value.slice A' L'.length C') at c1
          rw [← hm] at c1 hrun
          have HR := Lib.hid hrun
          have HO3 := Lib.hid ho3
          have HC3 := Lib.hid hcc
          clear hx hv e1 hln hrun ho3 hc3 hcc hm
          go_wp2_with (first
            | (at_builtin; refine wpList_appF 57 _ rfl (.tmp 31) (.tmp 32) rfl rfl _ _ v2 w3 rfl rfl (by exact HR.out) ?_)
            | fail)
          go_roundw
          case rel => exact ⟨s + 1, hlt, by go_num, HO3, HC3⟩
          case measure => simp [intOf]; omega
        · have hse : s = K := by omega
          have s1 : ¬ (s : Int) < (K : Int) := by omega
          have hh := HO.out
          rw [hse, HKX.out, List.take_length] at hh
          have HO2 := Lib.hid hh
          clear hse hs HO hh
          go_wp2_with fail
          go_ret
          exact ⟨_, rfl, HO2.out, HC.out⟩
#print axioms concPr_any
set_option maxHeartbeats 1600000 in
theorem growNd_any (n : Nat) (hn : n ≤ 2000) (w : World) : Calls Try.prog 58 #[.slice none 0 0, .int .i64 (n : Int)] w (RowP kdNd w []) := by
  by_cases h0 : 0 < n
  · obtain ⟨i0, hi, hz0, hz1, hz2⟩ := info_parts kdNd_ok.inf
    have hr := Lib.run_append_nil_zeros (P := Try.prog) w 58 /-t-/3 58 26 i0 kdNd.z .i64 .i64 kdNd_ok.un (by kernel_rfl) hi hz0 n h0 (by rw [hz1]; exact kdNd_ok.k0) (by omega) (by rw [hz2]; show n * 8 ≤ _; omega)
    have hge := grownCap_ge w n 0 26
    have hle := grownCap_le_maxLen w n 0 26 (by unfold maxLen; omega)
    obtain ⟨C, hC⟩ : ∃ C, C = grownCap w n 0 26 := ⟨_, rfl⟩
    rw [← hC] at hr hge hle
    obtain ⟨cs, hcs⟩ : ∃ cs, cs = Builtin.zeroCells kdNd.z.cells n ++ Builtin.zeroCells kdNd.z.cells (C - n) := ⟨_, rfl⟩
    have hsz : cs.size = C * kdNd.k := by
      rw [hcs, Array.size_append, size_zeroCells, size_zeroCells, kdNd_ok.zk, ← Nat.add_mul]
      congr 1
      omega
    rw [← hcs] at hr
    obtain ⟨w1, hw1⟩ : ∃ w1, w1 = w.drew.alloc (.cells cs 26) := ⟨_, rfl⟩
    obtain ⟨g, hg⟩ : ∃ g, g = w.heap.size := ⟨_, rfl⟩
    rw [← hw1, ← hg] at hr
    have HO : Hid (RowP kdNd w [] (.returned (.slice (some ⟨g, 0, none⟩) 0 C)) w1) := Lib.hid ⟨_, rfl, ⟨by simp [flC], Or.inr ⟨g, C, cs, rfl, Nat.le_of_eq hg.symm, by rw [hw1, hg]; exact heap_alloc_new w.drew _, Nat.zero_le _, hle, hsz, by simp [flC]⟩⟩, by rw [hw1]; exact (Ch.refl _ w).drew.alloc _ _⟩
    have hn0 : (0 : Int) < (n : Int) := by omega
    have hn1 : (n : Int) ≤ 2000 := by omega
    have HR := Lib.hid hr
    have hCn : (0 : Int) ≤ (C : Int) := Int.natCast_nonneg _
    have hnC : n ≤ C := hge
    clear hr hge hle hC hcs hsz hw1 hg hi hz0 hz1 hz2 h0 hn
    go_enter Try.func58, Try.ntmps58
    go_wp2_with (first
      | (at_builtin; refine Lib.wpList_append_run _ rfl (.tmp 20) (.tmp 21) 58 /-t-/3 rfl _ _ rfl rfl _ w1 (by exact HR.out) ?_)
      | fail)
    go_ret
    exact HO.out
  · have e : n = 0 := by omega
    subst e
    clear h0 hn
    go_enter Try.func58, Try.ntmps58
    go_wp2
    go_ret
    exact ⟨_, rfl, FlO.start kdNd w w, Ch.refl _ _⟩
#print axioms growNd_any
set_option maxHeartbeats 6400000 in
theorem concNd_any (b : Nat) (X : List (Option Addr × Nat × List Nat)) (w : World) (T : TypeId) (hb : w.heap[b]? = some (.cells (X.map fun x => Value.slice x.1 x.2.2.length x.2.1).toArray T (0, 0))) (hX : ∀ x ∈ X, FlV kdNd w x.1 x.2.1 x.2.2) (hs : ∀ k, catLen X k ≤ 1000) (hl : X.length ≤ 10) :
    Calls Try.prog 51 #[.slice (some ⟨b, 0, none⟩) X.length X.length] w (RowP kdNd w (X.flatMap fun x => x.2.2)) := by
  obtain ⟨K, hK⟩ : ∃ K, K = X.length := ⟨_, rfl⟩
  rw [← hK] at hl ⊢
  have HKX := Lib.hid hK
  have hcell : ∀ j x, X[j]? = some x → w.cell? ⟨b, j, none⟩ = some (.slice x.1 x.2.2.length x.2.1) := fun j x hx => by
    rw [blk_cell hb, List.getElem?_toArray, List.getElem?_map, hx]; rfl
  have HCE := Lib.hid hcell
  have HX := Lib.hid hX
  have HS := Lib.hid hs
  have k0 : (0 : Int) ≤ (K : Int) := Int.natCast_nonneg _
  have k1 : (K : Int) ≤ 10 := by omega
  have HG := Lib.hid (growNd_any (catLen X K) (by have := hs K; omega) w)
  clear hb hX hs hcell hK hl
  go_enter Try.func51, Try.ntmps51
  go_wp2_with fail
  go_loopw [3, 5, 11, 12, 13, 14, 15, 16, 17, 18, 19, 20, 22] (fun t _ i _ _ _ _ _ _ _ _ _ _ wr => ∃ r T : Nat, r ≤ K ∧ i = .int .i64 r ∧ t = .int .i64 T ∧ Hid (T = catLen X r) ∧ wr = w) (fun _ _ i _ _ _ _ _ _ _ _ _ _ _ => K - (intOf i).toNat)
  case atStart => exact ⟨0, 0, Nat.zero_le _, rfl, rfl, Lib.hid (by simp [catLen]), rfl⟩
  case round =>
    obtain ⟨r, T, hr, rfl, rfl, HT, rfl⟩ := hrel
    have r0 : (0 : Int) ≤ (r : Int) := Int.natCast_nonneg _
    by_cases hlt : r < K
    · have r1 : (r : Int) < (K : Int) := by omega
      obtain ⟨x, hx⟩ : ∃ x, X[r]? = some x := ⟨_, List.getElem?_eq_getElem (by rw [← HKX.out]; exact hlt)⟩
      obtain ⟨A', C', L'⟩ := x
      have c1 : wr.cell? ⟨b, r, none⟩ = some (.slice A' L'.length C') := HCE.out r _ hx
      obtain ⟨m, hm⟩ : ∃ m, m = L'.length := ⟨_, rfl⟩
      rw [← hm] at c1
      have hsm : T + m = catLen X (r + 1) := by rw [HT.out, hm, catLen_succ hx]
      have hb1 := HS.out (r + 1)
      have hw := IntWalk.wrap64_in ((T : Int) + (m : Int)) ⟨by omega, by omega⟩
      have HW := Lib.hid hw
      have hneg : ¬ wrap64 ((T : Int) + (m : Int)) < 0 := by rw [hw]; omega
      have hd : decide (wrap64 ((T : Int) + (m : Int)) < 0) = false := decide_eq_false hneg
      have HSM := Lib.hid hsm
      clear hx hw hsm hb1 hm
      go_wp2_with fail
      go_roundw
      case rel => exact ⟨r + 1, T + m, hlt, by go_num, by rw [HW.out]; rfl, Lib.hid HSM.out, trivial⟩
      case measure => simp [intOf]; omega
    · have hre : r = K := by omega
      have r1 : ¬ (r : Int) < (K : Int) := by omega
      have HT2 : Hid (T = catLen X K) := Lib.hid (by rw [HT.out, hre])
      clear hre hr HT
      go_wp2_with fail
      rw [HT2.out]
      refine HG.out.mono ?_
      rintro e w1 ⟨v1, rfl, ho, hc⟩
      have HO : Hid (FlO kdNd wr w1 v1 []) := Lib.hid ho
      have HC : Hid (Ch (fun _ => False) wr w1) := Lib.hid hc
      clear ho hc
      go_wp2_with fail
      go_loopw [6, 8, 27, 28, 29, 30, 31, 32, 33, 34] (fun v _ i _ _ _ _ _ _ _ w2 => ∃ s : Nat, s ≤ K ∧ i = .int .i64 s ∧ Hid (FlO kdNd wr w2 v ((X.take s).flatMap fun x => x.2.2)) ∧ Hid (Ch (fun _ => False) wr w2)) (fun _ _ i _ _ _ _ _ _ _ _ => K - (intOf i).toNat)
      case atStart => exact ⟨0, Nat.zero_le _, rfl, HO, HC⟩
      case round =>
        clear HO HG HC
        obtain ⟨s, hs, rfl, HO, HC⟩ := hrel
        have s0 : (0 : Int) ≤ (s : Int) := Int.natCast_nonneg _
        by_cases hlt : s < K
        · have s1 : (s : Int) < (K : Int) := by omega
          obtain ⟨x, hx⟩ : ∃ x, X[s]? = some x := ⟨_, List.getElem?_eq_getElem (by rw [← HKX.out]; exact hlt)⟩
          obtain ⟨A', C', L'⟩ := x
          have c1 := HC.out.cell (HCE.out s _ hx) (fun f => f)
          have hv := HX.out _ (List.mem_of_getElem? hx)
          have e1 : ((X.take s).flatMap fun x => x.2.2) ++ L' = (X.take (s + 1)).flatMap fun x => x.2.2 := by
            rw [List.take_add_one, hx]; simp
          have hln : ((X.take s).flatMap fun x => x.2.2).length + L'.length ≤ 1048576 := by
            have h1 := HS.out (s + 1)
            rw [← List.length_append, e1]
            have : catLen X (s + 1) = ((X.take (s + 1)).flatMap fun x => x.2.2).length := rfl
            omega
          obtain ⟨v2, w3, hrun, ho3, hc3, _⟩ := HO.out.appV kdNd_ok 58 A' C' (hv.gr HC.out) hln HC.out.size
          rw [e1] at ho3
          have hcc := HC.out.new (hc3.mono fun i _ hi => (own_at HO.out hi).1)
          obtain ⟨m, hm⟩ : ∃ m, m = L'.length := ⟨_, rfl⟩
          change _ = some (Value.slice A' L'.length C') at c1
          rw [← hm] at c1 hrun
          have HR := Lib.hid hrun
          have HO3 := Lib.hid ho3
          have HC3 := Lib.hid hcc
          clear hx hv e1 hln hrun ho3 hc3 hcc hm
          go_wp2_with (first
            | (at_builtin; refine wpList_appF 58 _ rfl (.tmp 31) (.tmp 32) rfl rfl _ _ v2 w3 rfl rfl (by exact HR.out) ?_)
            | fail)
          go_roundw
          case rel => exact ⟨s + 1, hlt, by go_num, HO3, HC3⟩
          case measure => simp [intOf]; omega
        · have hse : s = K := by omega
          have s1 : ¬ (s : Int) < (K : Int) := by omega
          have hh := HO.out
          rw [hse, HKX.out, List.take_length] at hh
          have HO2 := Lib.hid hh
          clear hse hs HO hh
          go_wp2_with fail
          go_ret
          exact ⟨_, rfl, HO2.out, HC.out⟩
#print axioms concNd_any
end Go.Proofs.Ytkpgaejmhddkdaa
