/-
  slices.Grow and slices.Concat of a tree's rows, walked. (Laid by tools/gen_trei.py.). Keys held against one another; where a key stands among a node's pairs.
-/
import Derived.Test.YtkpahhioiefcbaaMb12
import Derived.Lib.AppendZeros
import Derived.Lib.Bytealg
import Derived.Laws.Externs
namespace Go.Proofs.Ytkpahhioiefcbaa
open Go.RowKit
set_option linter.unusedVariables false
set_option maxRecDepth 100000
set_option linter.unusedSimpArgs false

/-- How long the first k of some rows are together. -/
def catLen {α : Type} (X : List (Option Addr × Nat × List α)) (k : Nat) : Nat := ((X.take k).flatMap fun x => x.2.2).length
theorem catLen_succ {α : Type} {X : List (Option Addr × Nat × List α)} {k : Nat} {x : Option Addr × Nat × List α} (h : X[k]? = some x) : catLen X (k + 1) = catLen X k + x.2.2.length := by
  unfold catLen
  rw [List.take_add_one, h]
  simp
set_option maxHeartbeats 1600000 in
theorem growPr_any (n : Nat) (hn : n ≤ 2000) (w : World) : Calls Try.prog 82 #[.slice none 0 0, .int .i64 (n : Int)] w (RowP kdPr w []) := by
  by_cases h0 : 0 < n
  · obtain ⟨i0, hi, hz0, hz1, hz2⟩ := info_parts kdPr_ok.inf
    have hr := Lib.run_append_nil_zeros (P := Try.prog) w 86 /-t-/3 86 93 i0 kdPr.z .i64 .i64 kdPr_ok.un (by kernel_rfl) hi hz0 n h0 (by rw [hz1]; exact kdPr_ok.k0) (by omega) (by rw [hz2]; show n * 32 ≤ _; omega)
    have hge := grownCap_ge w n 0 93
    have hle := grownCap_le_maxLen w n 0 93 (by unfold maxLen; omega)
    obtain ⟨C, hC⟩ : ∃ C, C = grownCap w n 0 93 := ⟨_, rfl⟩
    rw [← hC] at hr hge hle
    obtain ⟨cs, hcs⟩ : ∃ cs, cs = Builtin.zeroCells kdPr.z.cells n ++ Builtin.zeroCells kdPr.z.cells (C - n) := ⟨_, rfl⟩
    have hsz : cs.size = C * kdPr.k := by
      rw [hcs, Array.size_append, size_zeroCells, size_zeroCells, kdPr_ok.zk, ← Nat.add_mul]
      congr 1
      omega
    rw [← hcs] at hr
    obtain ⟨w1, hw1⟩ : ∃ w1, w1 = w.drew.alloc (.cells cs 93) := ⟨_, rfl⟩
    obtain ⟨g, hg⟩ : ∃ g, g = w.heap.size := ⟨_, rfl⟩
    rw [← hw1, ← hg] at hr
    have HO : Hid (RowP kdPr w [] (.returned (.slice (some ⟨g, 0, none⟩) 0 C)) w1) := Lib.hid ⟨_, rfl, ⟨by simp [flC], Or.inr ⟨g, C, cs, rfl, Nat.le_of_eq hg.symm, by rw [hw1, hg]; exact heap_alloc_new w.drew _, Nat.zero_le _, hle, hsz, by simp [flC]⟩⟩, by rw [hw1]; exact (Ch.refl _ w).drew.alloc _ _⟩
    have hn0 : (0 : Int) < (n : Int) := by omega
    have hn1 : (n : Int) ≤ 2000 := by omega
    have HR := Lib.hid hr
    have hCn : (0 : Int) ≤ (C : Int) := Int.natCast_nonneg _
    have hnC : n ≤ C := hge
    clear hr hge hle hC hcs hsz hw1 hg hi hz0 hz1 hz2 h0 hn
    go_enter Try.func82, Try.ntmps82
    go_wp2_with (first
      | (at_builtin; refine Lib.wpList_append_run _ rfl (.tmp 20) (.tmp 21) 86 /-t-/3 rfl _ _ rfl rfl _ w1 (by exact HR.out) ?_)
      | fail)
    go_ret
    exact HO.out
  · have e : n = 0 := by omega
    subst e
    clear h0 hn
    go_enter Try.func82, Try.ntmps82
    go_wp2
    go_ret
    exact ⟨_, rfl, FlO.start kdPr w w, Ch.refl _ _⟩
#print axioms growPr_any
set_option maxHeartbeats 6400000 in
theorem concPr_any (b : Nat) (X : List (Option Addr × Nat × List Kv)) (w : World) (T : TypeId) (hb : w.heap[b]? = some (.cells (X.map fun x => Value.slice x.1 x.2.2.length x.2.1).toArray T (0, 0))) (hX : ∀ x ∈ X, FlV kdPr w x.1 x.2.1 x.2.2) (hs : ∀ k, catLen X k ≤ 1000) (hl : X.length ≤ 10) :
    Calls Try.prog 74 #[.slice (some ⟨b, 0, none⟩) X.length X.length] w (RowP kdPr w (X.flatMap fun x => x.2.2)) := by
  obtain ⟨K, hK⟩ : ∃ K, K = X.length := ⟨_, rfl⟩
  rw [← hK] at hl ⊢
  have HKX := Lib.hid hK
  have hcell : ∀ j x, X[j]? = some x → w.cell? ⟨b, j, none⟩ = some (.slice x.1 x.2.2.length x.2.1) := fun j x hx => by
    rw [blk_cell hb, List.getElem?_toArray, List.getElem?_map, hx]; rfl
  have HCE := Lib.hid hcell
  have HX := Lib.hid hX
  have HS := Lib.hid hs
  have k0 : (0 : Int) ≤ (K : Int) := Int.natCast_nonneg _
  have k1 : (K : Int) ≤ 10 := by omega
  have HG := Lib.hid (growPr_any (catLen X K) (by have := hs K; omega) w)
  clear hb hX hs hcell hK hl
  go_enter Try.func74, Try.ntmps74
  go_wp2_with fail
  go_loopw [3, 5, 11, 12, 13, 14, 15, 16, 17, 18, 19, 20, 22] (fun t _ i _ _ _ _ _ _ _ _ _ _ wr => ∃ r T : Nat, r ≤ K ∧ i = .int .i64 r ∧ t = .int .i64 T ∧ Hid (T = catLen X r) ∧ wr = w) (fun _ _ i _ _ _ _ _ _ _ _ _ _ _ => K - (intOf i).toNat)
  case atStart => exact ⟨0, 0, Nat.zero_le _, rfl, rfl, Lib.hid (by simp [catLen]), rfl⟩
  case round =>
    obtain ⟨r, T, hr, rfl, rfl, HT, rfl⟩ := hrel
    have r0 : (0 : Int) ≤ (r : Int) := Int.natCast_nonneg _
    by_cases hlt : r < K
    · have r1 : (r : Int) < (K : Int) := by omega
      obtain ⟨x, hx⟩ : ∃ x, X[r]? = some x := ⟨_, List.getElem?_eq_getElem (by rw [← HKX.out]; exact hlt)⟩
      obtain ⟨A', C', L'⟩ := x
      have c1 : wr.cell? ⟨b, r, none⟩ = some (.slice A' L'.length C') := HCE.out r _ hx
      obtain ⟨m, hm⟩ : ∃ m, m = L'.length := ⟨_, rfl⟩
      rw [← hm] at c1
      have hsm : T + m = catLen X (r + 1) := by rw [HT.out, hm, catLen_succ hx]
      have hb1 := HS.out (r + 1)
      have hw := IntWalk.wrap64_in ((T : Int) + (m : Int)) ⟨by omega, by omega⟩
      have HW := Lib.hid hw
      have hneg : ¬ wrap64 ((T : Int) + (m : Int)) < 0 := by rw [hw]; omega
      have hd : decide (wrap64 ((T : Int) + (m : Int)) < 0) = false := decide_eq_false hneg
      have HSM := Lib.hid hsm
      clear hx hw hsm hb1 hm
      go_wp2_with fail
      go_roundw
      case rel => exact ⟨r + 1, T + m, hlt, by go_num, by rw [HW.out]; rfl, Lib.hid HSM.out, trivial⟩
      case measure => simp [intOf]; omega
    · have hre : r = K := by omega
      have r1 : ¬ (r : Int) < (K : Int) := by omega
      have HT2 : Hid (T = catLen X K) := Lib.hid (by rw [HT.out, hre])
      clear hre hr HT
      go_wp2_with fail
      rw [HT2.out]
      refine HG.out.mono ?_
      rintro e w1 ⟨v1, rfl, ho, hc⟩
      have HO : Hid (FlO kdPr wr w1 v1 []) := Lib.hid ho
      have HC : Hid (Ch (fun _ => False) wr w1) := Lib.hid hc
      clear ho hc
      go_wp2_with fail
      go_loopw [6, 8, 27, 28, 29, 30, 31, 32, 33, 34] (fun v _ i _ _ _ _ _ _ _ w2 => ∃ s : Nat, s ≤ K ∧ i = .int .i64 s ∧ Hid (FlO kdPr wr w2 v ((X.take s).flatMap fun x => x.2.2)) ∧ Hid (Ch (fun _ => False) wr w2)) (fun _ _ i _ _ _ _ _ _ _ _ => K - (intOf i).toNat)
      case atStart => exact ⟨0, Nat.zero_le _, rfl, HO, HC⟩
      case round =>
        clear HO HG HC
        obtain ⟨s, hs, rfl, HO, HC⟩ := hrel
        have s0 : (0 : Int) ≤ (s : Int) := Int.natCast_nonneg _
        by_cases hlt : s < K
        · have s1 : (s : Int) < (K : Int) := by omega
          obtain ⟨x, hx⟩ : ∃ x, X[s]? = some x := ⟨_, List.getElem?_eq_getElem (by rw [← HKX.out]; exact hlt)⟩
          obtain ⟨A', C', L'⟩ := x
          have c1 := HC.out.cell (HCE.out s _ hx) (fun f => f)
          have hv := HX.out _ (List.mem_of_getElem? hx)
          have e1 : ((X.take s).flatMap fun x => x.2.2) ++ L' = (X.take (s + 1)).flatMap fun x => x.2.2 := by
            rw [List.take_add_one, hx]; simp
          have hln : ((X.take s).flatMap fun x => x.2.2).length + L'.length ≤ 1048576 := by
            have h1 := HS.out (s + 1)
            rw [← List.length_append, e1]
            have : catLen X (s + 1) = ((X.take (s + 1)).flatMap fun x => x.2.2).length := rfl
            omega
          obtain ⟨v2, w3, hrun, ho3, hc3, _⟩ := HO.out.appV kdPr_ok 86 A' C' (hv.gr HC.out) hln HC.out.size
          rw [e1] at ho3
          have hcc := HC.out.new (hc3.mono fun i _ hi => (own_at HO.out hi).1)
          obtain ⟨m, hm⟩ : ∃ m, m = L'.length := ⟨_, rfl⟩
          change _ = some (Value.slice A' L'.length C') at c1
          rw [← hm] at c1 hrun
          have HR := Lib.hid hrun
          have HO3 := Lib.hid ho3
          have HC3 := Lib.hid hcc
          clear hx hv e1 hln hrun ho3 hc3 hcc hm
          go_wp2_with (first
            | (at_builtin; refine wpList_appF 86 _ rfl (.tmp 31) (.tmp 32) rfl rfl _ _ v2 w3 rfl rfl (by exact HR.out) ?_)
            | fail)
          go_roundw
          case rel => exact ⟨s + 1, hlt, by go_num, HO3, HC3⟩
          case measure => simp [intOf]; omega
        · have hse : s = K := by omega
          have s1 : ¬ (s : Int) < (K : Int) := by omega
          have hh := HO.out
          rw [hse, HKX.out, List.take_length] at hh
          have HO2 := Lib.hid hh
          clear hse hs HO hh
          go_wp2_with fail
          go_ret
          exact ⟨_, rfl, HO2.out, HC.out⟩
#print axioms concPr_any
set_option maxHeartbeats 1600000 in
theorem growNd_any (n : Nat) (hn : n ≤ 2000) (w : World) : Calls Try.prog 83 #[.slice none 0 0, .int .i64 (n : Int)] w (RowP kdNd w []) := by
  by_cases h0 : 0 < n
  · obtain ⟨i0, hi, hz0, hz1, hz2⟩ := info_parts kdNd_ok.inf
    have hr := Lib.run_append_nil_zeros (P := Try.prog) w 87 /-t-/3 87 36 i0 kdNd.z .i64 .i64 kdNd_ok.un (by kernel_rfl) hi hz0 n h0 (by rw [hz1]; exact kdNd_ok.k0) (by omega) (by rw [hz2]; show n * 8 ≤ _; omega)
    have hge := grownCap_ge w n 0 36
    have hle := grownCap_le_maxLen w n 0 36 (by unfold maxLen; omega)
    obtain ⟨C, hC⟩ : ∃ C, C = grownCap w n 0 36 := ⟨_, rfl⟩
    rw [← hC] at hr hge hle
    obtain ⟨cs, hcs⟩ : ∃ cs, cs = Builtin.zeroCells kdNd.z.cells n ++ Builtin.zeroCells kdNd.z.cells (C - n) := ⟨_, rfl⟩
    have hsz : cs.size = C * kdNd.k := by
      rw [hcs, Array.size_append, size_zeroCells, size_zeroCells, kdNd_ok.zk, ← Nat.add_mul]
      congr 1
      omega
    rw [← hcs] at hr
    obtain ⟨w1, hw1⟩ : ∃ w1, w1 = w.drew.alloc (.cells cs 36) := ⟨_, rfl⟩
    obtain ⟨g, hg⟩ : ∃ g, g = w.heap.size := ⟨_, rfl⟩
    rw [← hw1, ← hg] at hr
    have HO : Hid (RowP kdNd w [] (.returned (.slice (some ⟨g, 0, none⟩) 0 C)) w1) := Lib.hid ⟨_, rfl, ⟨by simp [flC], Or.inr ⟨g, C, cs, rfl, Nat.le_of_eq hg.symm, by rw [hw1, hg]; exact heap_alloc_new w.drew _, Nat.zero_le _, hle, hsz, by simp [flC]⟩⟩, by rw [hw1]; exact (Ch.refl _ w).drew.alloc _ _⟩
    have hn0 : (0 : Int) < (n : Int) := by omega
    have hn1 : (n : Int) ≤ 2000 := by omega
    have HR := Lib.hid hr
    have hCn : (0 : Int) ≤ (C : Int) := Int.natCast_nonneg _
    have hnC : n ≤ C := hge
    clear hr hge hle hC hcs hsz hw1 hg hi hz0 hz1 hz2 h0 hn
    go_enter Try.func83, Try.ntmps83
    go_wp2_with (first
      | (at_builtin; refine Lib.wpList_append_run _ rfl (.tmp 20) (.tmp 21) 87 /-t-/3 rfl _ _ rfl rfl _ w1 (by exact HR.out) ?_)
      | fail)
    go_ret
    exact HO.out
  · have e : n = 0 := by omega
    subst e
    clear h0 hn
    go_enter Try.func83, Try.ntmps83
    go_wp2
    go_ret
    exact ⟨_, rfl, FlO.start kdNd w w, Ch.refl _ _⟩
#print axioms growNd_any
set_option maxHeartbeats 6400000 in
theorem concNd_any (b : Nat) (X : List (Option Addr × Nat × List Nat)) (w : World) (T : TypeId) (hb : w.heap[b]? = some (.cells (X.map fun x => Value.slice x.1 x.2.2.length x.2.1).toArray T (0, 0))) (hX : ∀ x ∈ X, FlV kdNd w x.1 x.2.1 x.2.2) (hs : ∀ k, catLen X k ≤ 1000) (hl : X.length ≤ 10) :
    Calls Try.prog 75 #[.slice (some ⟨b, 0, none⟩) X.length X.length] w (RowP kdNd w (X.flatMap fun x => x.2.2)) := by
  obtain ⟨K, hK⟩ : ∃ K, K = X.length := ⟨_, rfl⟩
  rw [← hK] at hl ⊢
  have HKX := Lib.hid hK
  have hcell : ∀ j x, X[j]? = some x → w.cell? ⟨b, j, none⟩ = some (.slice x.1 x.2.2.length x.2.1) := fun j x hx => by
    rw [blk_cell hb, List.getElem?_toArray, List.getElem?_map, hx]; rfl
  have HCE := Lib.hid hcell
  have HX := Lib.hid hX
  have HS := Lib.hid hs
  have k0 : (0 : Int) ≤ (K : Int) := Int.natCast_nonneg _
  have k1 : (K : Int) ≤ 10 := by omega
  have HG := Lib.hid (growNd_any (catLen X K) (by have := hs K; omega) w)
  clear hb hX hs hcell hK hl
  go_enter Try.func75, Try.ntmps75
  go_wp2_with fail
  go_loopw [3, 5, 11, 12, 13, 14, 15, 16, 17, 18, 19, 20, 22] (fun t _ i _ _ _ _ _ _ _ _ _ _ wr => ∃ r T : Nat, r ≤ K ∧ i = .int .i64 r ∧ t = .int .i64 T ∧ Hid (T = catLen X r) ∧ wr = w) (fun _ _ i _ _ _ _ _ _ _ _ _ _ _ => K - (intOf i).toNat)
  case atStart => exact ⟨0, 0, Nat.zero_le _, rfl, rfl, Lib.hid (by simp [catLen]), rfl⟩
  case round =>
    obtain ⟨r, T, hr, rfl, rfl, HT, rfl⟩ := hrel
    have r0 : (0 : Int) ≤ (r : Int) := Int.natCast_nonneg _
    by_cases hlt : r < K
    · have r1 : (r : Int) < (K : Int) := by omega
      obtain ⟨x, hx⟩ : ∃ x, X[r]? = some x := ⟨_, List.getElem?_eq_getElem (by rw [← HKX.out]; exact hlt)⟩
      obtain ⟨A', C', L'⟩ := x
      have c1 : wr.cell? ⟨b, r, none⟩ = some (.slice A' L'.length C') := HCE.out r _ hx
      obtain ⟨m, hm⟩ : ∃ m, m = L'.length := ⟨_, rfl⟩
      rw [← hm] at c1
      have hsm : T + m = catLen X (r + 1) := by rw [HT.out, hm, catLen_succ hx]
      have hb1 := HS.out (r + 1)
      have hw := IntWalk.wrap64_in ((T : Int) + (m : Int)) ⟨by omega, by omega⟩
      have HW := Lib.hid hw
      have hneg : ¬ wrap64 ((T : Int) + (m : Int)) < 0 := by rw [hw]; omega
      have hd : decide (wrap64 ((T : Int) + (m : Int)) < 0) = false := decide_eq_false hneg
      have HSM := Lib.hid hsm
      clear hx hw hsm hb1 hm
      go_wp2_with fail
      go_roundw
      case rel => exact ⟨r + 1, T + m, hlt, by go_num, by rw [HW.out]; rfl, Lib.hid HSM.out, trivial⟩
      case measure => simp [intOf]; omega
    · have hre : r = K := by omega
      have r1 : ¬ (r : Int) < (K : Int) := by omega
      have HT2 : Hid (T = catLen X K) := Lib.hid (by rw [HT.out, hre])
      clear hre hr HT
      go_wp2_with fail
      rw [HT2.out]
      refine HG.out.mono ?_
      rintro e w1 ⟨v1, rfl, ho, hc⟩
      have HO : Hid (FlO kdNd wr w1 v1 []) := Lib.hid ho
      have HC : Hid (Ch (fun _ => False) wr w1) := Lib.hid hc
      clear ho hc
      go_wp2_with fail
      go_loopw [6, 8, 27, 28, 29, 30, 31, 32, 33, 34] (fun v _ i _ _ _ _ _ _ _ w2 => ∃ s : Nat, s ≤ K ∧ i = .int .i64 s ∧ Hid (FlO kdNd wr w2 v ((X.take s).flatMap fun x => x.2.2)) ∧ Hid (Ch (fun _ => False) wr w2)) (fun _ _ i _ _ _ _ _ _ _ _ => K - (intOf i).toNat)
      case atStart => exact ⟨0, Nat.zero_le _, rfl, HO, HC⟩
      case round =>
        clear HO HG HC
        obtain ⟨s, hs, rfl, HO, HC⟩ := hrel
        have s0 : (0 : Int) ≤ (s : Int) := Int.natCast_nonneg _
        by_cases hlt : s < K
        · have s1 : (s : Int) < (K : Int) := by omega
          obtain ⟨x, hx⟩ : ∃ x, X[s]? = some x := ⟨_, List.getElem?_eq_getElem (by rw [← HKX.out]; exact hlt)⟩
          obtain ⟨A', C', L'⟩ := x
          have c1 := HC.out.cell (HCE.out s _ hx) (fun f => f)
          have hv := HX.out _ (List.mem_of_getElem? hx)
          have e1 : ((X.take s).flatMap fun x => x.2.2) ++ L' = (X.take (s + 1)).flatMap fun x => x.2.2 := by
            rw [List.take_add_one, hx]; simp
          have hln : ((X.take s).flatMap fun x => x.2.2).length + L'.length ≤ 1048576 := by
            have h1 := HS.out (s + 1)
            rw [← List.length_append, e1]
            have : catLen X (s + 1) = ((X.take (s + 1)).flatMap fun x => x.2.2).length := rfl
            omega
          obtain ⟨v2, w3, hrun, ho3, hc3, _⟩ := HO.out.appV kdNd_ok 87 A' C' (hv.gr HC.out) hln HC.out.size
          rw [e1] at ho3
          have hcc := HC.out.new (hc3.mono fun i _ hi => (own_at HO.out hi).1)
          obtain ⟨m, hm⟩ : ∃ m, m = L'.length := ⟨_, rfl⟩
          change _ = some (Value.slice A' L'.length C') at c1
          rw [← hm] at c1 hrun
          have HR := Lib.hid hrun
          have HO3 := Lib.hid ho3
          have HC3 := Lib.hid hcc
          clear hx hv e1 hln hrun ho3 hc3 hcc hm
          go_wp2_with (first
            | (at_builtin; refine wpList_appF 87 _ rfl (.tmp 31) (.tmp 32) rfl rfl _ _ v2 w3 rfl rfl (by exact HR.out) ?_)
            | fail)
          go_roundw
          case rel => exact ⟨s + 1, hlt, by go_num, HO3, HC3⟩
          case measure => simp [intOf]; omega
        · have hse : s = K := by omega
          have s1 : ¬ (s : Int) < (K : Int) := by omega
          have hh := HO.out
          rw [hse, HKX.out, List.take_length] at hh
          have HO2 := Lib.hid hh
          clear hse hs HO hh
          go_wp2_with fail
          go_ret
          exact ⟨_, rfl, HO2.out, HC.out⟩
#print axioms concNd_any
end Go.Proofs.Ytkpahhioiefcbaa
namespace Go.Proofs.Ytkpahhioiefcbaa
open Go.RowKit
set_option linter.unusedVariables false
set_option maxRecDepth 100000
set_option linter.unusedSimpArgs false

def cmpZ (a b : ByteArray) : Int := if kLt a b then -1 else if kEq a b then 0 else 1
theorem cmpB_eq : ∀ (a b : List UInt8), Lib.compareBytes a b = if Op.bytesLess a b then -1 else if (a == b) then 0 else 1
  | [], [] => by simp [Lib.compareBytes, Op.bytesLess]
  | [], _ :: _ => by simp [Lib.compareBytes, Op.bytesLess]
  | _ :: _, [] => by simp [Lib.compareBytes, Op.bytesLess]
  | x :: a, y :: b => by
    unfold Lib.compareBytes Op.bytesLess
    rw [cmpB_eq a b]
    by_cases h : x < y
    · simp [h]
    · by_cases h2 : x = y
      · subst h2
        simp [UInt8.lt_irrefl]
      · have : y < x := UInt8.lt_of_le_of_ne (UInt8.not_lt.1 h) (Ne.symm h2)
        simp [h, this, h2]
theorem cmpX_eq (a b : ByteArray) : Extern.BytealgCompare.cmp a b = cmpZ a b := by
  rw [Lib.cmp_eq, cmpB_eq]
  unfold cmpZ kLt kEq
  rw [ByteArray.toList_eq, ByteArray.toList_eq]
theorem cmpZ_lt {a b : ByteArray} : cmpZ a b < 0 ↔ kLt a b = true := by
  unfold cmpZ
  split
  · rename_i h; simp [h]
  · rename_i h; split <;> simp [h]
theorem cmpZ_zero {a b : ByteArray} : cmpZ a b = 0 ↔ kEq a b = true := by
  unfold cmpZ
  split
  · rename_i h
    have : kEq a b = false := kEq_no.2 (kLt_ne h)
    simp [this]
  · split
    · rename_i h; simp [h]
    · rename_i h; simp [h]
theorem cmpZ_beq (a b : ByteArray) : (cmpZ a b == 0) = kEq a b := by
  cases h : kEq a b with
  | true => rw [cmpZ_zero.2 h]; rfl
  | false => rw [beq_eq_false_iff_ne]; exact fun f => by rw [cmpZ_zero.1 f] at h; cases h
theorem cmpC_any (a b : ByteArray) (w : World) : Calls Try.prog 73 #[.string a, .string b] w fun e w' => e = .returned (.int .i64 (cmpZ a b)) ∧ w' = w := by
  have hx : (callFunc 81 #[.string a, .string b]).run Try.prog w = .ok (.value (.int .i64 (cmpZ a b))) w := by
    rw [run_callFunc_extern Try.func81 (by kernel_rfl) (by kernel_rfl) (by kernel_rfl) (e := Extern.BytealgCompare.compare) (by kernel_rfl), Lib.run_compareString, ← cmpX_eq, Lib.cmp_eq]
    rfl
  go_enter Try.func73, Try.ntmps73
  go_wp2_with (simp only [hx])
  go_ret
  exact ⟨rfl, rfl⟩
theorem cmpS_any (a b : ByteArray) (w : World) : Calls Try.prog 64 #[.string a, .string b] w fun e w' => e = .returned (.int .i64 (cmpZ a b)) ∧ w' = w := by
  go_enter Try.func64, Try.ntmps64
  go_wp2_with fail
  refine (cmpC_any _ _ _).mono ?_
  rintro e w1 ⟨rfl, rfl⟩
  go_wp2_with fail
  go_ret
  exact ⟨rfl, rfl⟩
#print axioms cmpS_any
set_option maxHeartbeats 400000 in
theorem fcmp_any (x : Kv) (b : ByteArray) (w : World) : Calls Try.prog 63 #[.agg #[.string x.1, .string x.2], .string b] w (Ans (.int .i64 (cmpZ x.1 b)) w) := by
  go_enter Try.func63, Try.ntmps63
  go_wp2_with fail
  refine (cmpS_any _ _ _).mono ?_
  rintro e w1 ⟨rfl, rfl⟩
  go_wp2_with fail
  go_ret
  exact ⟨rfl, (Ch.refl _ w).alloc _ _⟩
#print axioms fcmp_any
/-- Is the first of these that key's? -/
def hereB (b : List Kv) (k : ByteArray) : Bool := match b with | [] => false | p :: _ => kEq p.1 k
/-- Where a key stands. -/
def FindP (ps : List Kv) (k : ByteArray) (w : World) (e : Ending) (w' : World) : Prop :=
  ∃ a b : List Kv, ps = a ++ b ∧ e = .returned (.tuple #[.int .i64 (a.length : Int), .bool (hereB b k)]) ∧ (∀ p ∈ a, kLt p.1 k = true) ∧ (∀ p ∈ b, kLt p.1 k = false) ∧ Ch (fun _ => False) w w'
theorem rise_idx {ps : List Kv} (h : Rise ps) {i j : Nat} {x y : Kv} (hx : ps[i]? = some x) (hy : ps[j]? = some y) (hij : i < j) : kLt x.1 y.1 = true := by
  obtain ⟨hi, e1⟩ := List.getElem?_eq_some_iff.1 hx
  obtain ⟨hj, e2⟩ := List.getElem?_eq_some_iff.1 hy
  subst e1 e2
  exact List.pairwise_iff_getElem.1 h i j hi hj hij
/-- All ahead of i are below. -/
def BelowI (ps : List Kv) (k : ByteArray) (i : Nat) : Prop := ∀ (t : Nat) (x : Kv), t < i → ps[t]? = some x → kLt x.1 k = true
def AboveI (ps : List Kv) (k : ByteArray) (i : Nat) : Prop := ∀ (t : Nat) (x : Kv), i ≤ t → ps[t]? = some x → kLt x.1 k = false
theorem below_step {ps : List Kv} {k : ByteArray} (hr : Rise ps) {h : Nat} {x : Kv} (hx : ps[h]? = some x) (hk : kLt x.1 k = true) : BelowI ps k (h + 1) := fun t y ht hy => by
  by_cases e : t = h
  · rw [e, hx] at hy; injection hy with hy; rw [← hy]; exact hk
  · exact kLt_trans (rise_idx hr hy hx (by omega)) hk
theorem above_step {ps : List Kv} {k : ByteArray} (hr : Rise ps) {h : Nat} {x : Kv} (hx : ps[h]? = some x) (hk : kLt x.1 k = false) : AboveI ps k h := fun t y ht hy => by
  by_cases e : t = h
  · rw [e, hx] at hy; injection hy with hy; rw [← hy]; exact hk
  · cases q : kLt y.1 k with
    | false => rfl
    | true => rw [kLt_trans (rise_idx hr hx hy (by omega)) q] at hk; cases hk
theorem find_done {ps : List Kv} {k : ByteArray} {i : Nat} {w w' : World} {B : Bool} (hi : i ≤ ps.length) (hb : BelowI ps k i) (ha : AboveI ps k i) (hc : Ch (fun _ => False) w w') (hB : B = hereB (ps.drop i) k) : FindP ps k w (.returned (.tuple #[.int .i64 (i : Int), .bool B])) w' := by
  refine ⟨ps.take i, ps.drop i, (List.take_append_drop i ps).symm, by rw [List.length_take, Nat.min_eq_left hi, hB], fun p hp => ?_, fun p hp => ?_, hc⟩
  · obtain ⟨j, hj⟩ := List.mem_iff_getElem?.1 hp
    rw [List.getElem?_take] at hj
    split at hj
    · rename_i hlt; exact hb j p hlt hj
    · cases hj
  · obtain ⟨j, hj⟩ := List.mem_iff_getElem?.1 hp
    rw [List.getElem?_drop] at hj
    exact ha (i + j) p (by omega) hj
set_option maxHeartbeats 1600000 in
theorem bsf_any (A : Option Addr) (C : Nat) (ps : List Kv) (k : ByteArray) (w : World) (h : FlV kdPr w A C ps) (hr : Rise ps) (hl : ps.length ≤ 1000) :
    Calls Try.prog 62 #[.slice A ps.length C, .string k, .func (.func 63) #[] #[]] w (FindP ps k w) := by
  obtain ⟨n, hn⟩ : ∃ n, n = ps.length := ⟨_, rfl⟩
  rw [← hn] at hl ⊢
  have HN := Lib.hid hn
  have HV := Lib.hid h
  have HR := Lib.hid hr
  have n0 : (0 : Int) ≤ (n : Int) := Int.natCast_nonneg _
  have n1 : (n : Int) ≤ 1000 := by omega
  clear h hr hn hl
  go_enter Try.func62, Try.ntmps62
  go_wp2_with fail
  go_loopw [9, 10, 11, 15, 16, 17, 18, 19, 20, 21, 22, 23, 24, 25, 26, 27, 28, 29, 30, 31, 32, 33, 34] (fun i j _ _ _ _ _ _ _ _ _ _ _ _ _ _ _ _ _ _ _ _ _ wr => ∃ p q : Nat, p ≤ q ∧ q ≤ n ∧ i = .int .i64 p ∧ j = .int .i64 q ∧ Hid (Ch (fun _ => False) w wr) ∧ Hid (BelowI ps k p) ∧ Hid (AboveI ps k q)) (fun i j _ _ _ _ _ _ _ _ _ _ _ _ _ _ _ _ _ _ _ _ _ _ => (intOf j).toNat - (intOf i).toNat)
  case atStart => exact ⟨0, n, Nat.zero_le _, Nat.le_refl _, rfl, rfl, Lib.hid (Ch.refl _ _), Lib.hid fun t x ht => absurd ht (Nat.not_lt_zero t), Lib.hid fun t x ht hx => by
    have := (List.getElem?_eq_some_iff.1 hx).1
    rw [← HN.out] at this
    omega⟩
  case round =>
    obtain ⟨p, q, hpq, hq, rfl, rfl, HC, HB, HA⟩ := hrel
    have p0 : (0 : Int) ≤ (p : Int) := Int.natCast_nonneg _
    have q0 : (q : Int) ≤ 1000 := by omega
    by_cases hlt : p < q
    · have r1 : (p : Int) < (q : Int) := by omega
      obtain ⟨h, hh⟩ : ∃ h, h = (p + q) / 2 := ⟨_, rfl⟩
      have e : ((p : Int) + (q : Int)) / 2 = (h : Int) := by omega
      have h1 : p ≤ h := by omega
      have h2 : h < q := by omega
      have h3 : (h : Int) < (n : Int) := by omega
      have h0 : (0 : Int) ≤ (h : Int) := Int.natCast_nonneg _
      clear hh
      obtain ⟨x, hx⟩ : ∃ x, ps[h]? = some x := ⟨_, List.getElem?_eq_getElem (by rw [← HN.out]; omega)⟩
      obtain ⟨b, o, rfl, hc⟩ := HV.out.at' (by rw [← HN.out]; omega)
      have c0 : wr.cell? ⟨b, o + h * 2, none⟩ = some (.string x.1) := HC.out.cell (hc h x hx 0 _ rfl) (fun f => f)
      have c1 : wr.cell? ⟨b, o + h * 2 + 1, none⟩ = some (.string x.2) := HC.out.cell (hc h x hx 1 _ rfl) (fun f => f)
      have HX := Lib.hid hx
      clear hc hx
      go_wp2_with fail
      refine (fcmp_any x k wr).mono ?_
      rintro en w1 ⟨rfl, hc1⟩
      have HC1 := Lib.hid (HC.out.trans hc1)
      clear hc1 HC
      cases q1 : kLt x.1 k
      · have t : ¬ cmpZ x.1 k < 0 := fun f => by rw [cmpZ_lt.1 f] at q1; cases q1
        have HA2 := Lib.hid (above_step HR.out HX.out q1)
        clear q1
        go_wp2_with fail
        go_roundw
        case rel => exact ⟨p, h, h1, by omega, rfl, rfl, HC1, HB, HA2⟩
        case measure => simp [intOf]; omega
      · have t : cmpZ x.1 k < 0 := cmpZ_lt.2 q1
        have HB2 := Lib.hid (below_step HR.out HX.out q1)
        clear q1
        go_wp2_with fail
        go_roundw
        case rel => exact ⟨h + 1, q, h2, hq, by go_num, rfl, HC1, HB2, HA⟩
        case measure => simp [intOf]; omega
    · have hpe : p = q := by omega
      have r1 : ¬ (p : Int) < (q : Int) := by omega
      subst hpe
      by_cases hpn : p < n
      · obtain ⟨x, hx⟩ : ∃ x, ps[p]? = some x := ⟨_, List.getElem?_eq_getElem (by rw [← HN.out]; omega)⟩
        obtain ⟨b, o, rfl, hc⟩ := HV.out.at' (by rw [← HN.out]; omega)
        have c0 : wr.cell? ⟨b, o + p * 2, none⟩ = some (.string x.1) := HC.out.cell (hc p x hx 0 _ rfl) (fun f => f)
        have c1 : wr.cell? ⟨b, o + p * 2 + 1, none⟩ = some (.string x.2) := HC.out.cell (hc p x hx 1 _ rfl) (fun f => f)
        have hB : hereB (ps.drop p) k = kEq x.1 k := by
          have := (List.getElem?_eq_some_iff.1 hx)
          obtain ⟨hl, he⟩ := this
          rw [List.drop_eq_getElem_cons hl, he]
          rfl
        have r2 : (p : Int) < (n : Int) := by omega
        have HF : Hid (∀ (B : Bool) (w' : World), Ch (fun _ => False) wr w' → B = kEq x.1 k → FindP ps k w (.returned (.tuple #[.int .i64 (p : Int), .bool B])) w') := Lib.hid fun B w' h1 h2 => find_done (by rw [← HN.out]; omega) HB.out HA.out (HC.out.trans h1) (by rw [hB, h2])
        clear hc hx hB HA HB HC HN HV
        go_wp2_with fail
        refine (fcmp_any x k wr).mono ?_
        rintro en w1 ⟨rfl, hc1⟩
        have HC1 := Lib.hid hc1
        clear hc1
        go_wp2_with fail
        go_ret2
        exact HF.out (cmpZ x.1 k == 0) _ HC1.out (cmpZ_beq _ _)
      · have r2 : ¬ (p : Int) < (n : Int) := by omega
        have HF : Hid (FindP ps k w (.returned (.tuple #[.int .i64 (p : Int), .bool false])) wr) := Lib.hid (find_done (by rw [← HN.out]; omega) HB.out HA.out HC.out (by rw [List.drop_eq_nil_of_le (by rw [← HN.out]; omega)]; rfl))
        clear HA HB HC HN HV
        go_wp2_with fail
        go_ret2
        exact HF.out
#print axioms bsf_any
end Go.Proofs.Ytkpahhioiefcbaa
