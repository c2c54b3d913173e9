/-
  The document's One, walked.
-/
import Derived.Test.YtlgdajmidcdiaaaOnes
namespace Go.Proofs.Ytlgdajmidcdiaaa
open Go.RowKit
set_option linter.unusedVariables false

/-! ### the document's One -/
theorem one_news (w : World) (x : Value) (t : TypeId) : ∀ j u, [x][j]? = some u → (w.alloc (.cells #[x] t)).cell? ((⟨w.heap.size, 0, none⟩ : Addr).add j) = some u :=
  World.news_of_block (cs := #[x]) (t := t) (fr := (0, 0)) (heap_alloc_new w _)
theorem made_one (k n : Nat) (i : Nat) (hi : i < ((madeCells #[Value.int .u8 0] n).setIfInBounds k (.int .u8 1)).size) : ((madeCells #[Value.int .u8 0] n).setIfInBounds k (.int .u8 1))[i]? = some (.int .u8 (oneZ k i : Int)) := by
  have hn : i < n := by simpa [size_madeCells] using hi
  rw [Array.getElem?_setIfInBounds]
  unfold oneZ
  by_cases e : k = i
  · subst e; simp [size_madeCells, hn]
  · rw [if_neg e, if_neg e]
    simp [madeCells, hn, Nat.mod_one]
set_option maxHeartbeats 1600000 in
theorem rone_new (n : Int) (n1 : 1 ≤ n) (n2 : n ≤ 64) (w : World) : Calls Try.prog 26 #[.int .i64 n] w (FreshPost n.toNat n.toNat oneZ w) := by
  obtain ⟨n, rfl⟩ := Int.eq_ofNat_of_zero_le (show 0 ≤ n by omega)
  rw [Int.toNat_natCast]
  have t1 : decide ((n : Int) < 1) = false := by simp; omega
  have t2 : decide ((64 : Int) < (n : Int)) = false := by simp; omega
  have hmk2 := run_make_row' (P := Try.prog) 33 5 (.int .u8 0) 1 Try.underlying33 Try.info5 rfl .i64 .i64 n (by omega) (by omega)
  obtain ⟨i0, hi, hz0, hz1, hz2⟩ := info_parts Try.info33
  go_enter Try.func26, Try.ntmps26
  go_wp2
  go_loopw [4, 5, 6] (fun v i _ wr => ∃ k : Nat, k ≤ n ∧ i = .int .i64 k ∧ Ch (fun _ => False) w wr ∧ Bld w.heap.size wr v k (fun _ => n) oneZ) (fun _ i _ _ => n - (intOf i).toNat)
  case atStart => exact ⟨0, Nat.zero_le _, rfl, Ch.refl _ _, Bld.nil _ _ _ _⟩
  case round =>
    obtain ⟨k, hk, rfl, hch, hbld⟩ := hrel
    by_cases hlt : k < n
    · obtain ⟨xs, ho, hrows⟩ := hbld
      have c0 := (World.rowIs_made wr (.int .u8 0) n /-t-/5).cell hlt
      have f0 := (World.rowIs_made wr (.int .u8 0) n /-t-/5).frozen k
      obtain ⟨W, hW⟩ : ∃ W, W = wr.alloc (.cells ((madeCells #[Value.int .u8 0] n).setIfInBounds k (.int .u8 1)) /-t-/5) := ⟨_, rfl⟩
      have hWr : W.rowIs wr.heap.size /-t-/5 n (fun c => .int .u8 (oneZ k c : Int)) := by
        have := World.rowIs_alloc wr ((madeCells #[Value.int .u8 0] n).setIfInBounds k (.int .u8 1)) /-t-/5 (fun c => .int .u8 (oneZ k c : Int)) (made_one k n)
        rw [hW]; simpa [size_madeCells] using this
      have hWs : W.heap.size = wr.heap.size + 1 := by rw [hW]; simp
      have hWc : Ch (fun _ => False) wr W := by rw [hW]; exact (Ch.refl _ _).alloc _ _
      have hWo : W.ownsRow w.heap.size /-t-/33 1 u4 k xs := ownsRow_ch ho hWc
      have hWrows : ∀ r, r < k → ∃ x, xs[r]? = some x ∧ RowV W x n (oneZ r) ∧ ∀ b, x.ownBlock = some b → b < W.heap.size ∧ u4.ownBlock ≠ some b ∧ Far w.heap.size W b := fun r hr => by
        obtain ⟨x, hx, hv, hoo⟩ := hrows r hr
        exact ⟨x, hx, hv.ch hWc (fun _ _ f => f), fun b hb => ⟨Nat.lt_of_lt_of_le (hoo b hb).1 hWc.size, (hoo b hb).2.1, (hoo b hb).2.2.ch hWc (hoo b hb).1⟩⟩
      have hX : RowV W (.slice (some ⟨wr.heap.size, 0, none⟩) n n) n (oneZ k) := ⟨_, _, rfl, by omega, fun _ => ⟨_, 0, rfl, fun c hc => ⟨by rw [Nat.zero_add]; exact hWr.cell hc, by unfold oneZ; split <;> omega⟩⟩⟩
      have hXb : ∀ b, (Value.slice (some ⟨wr.heap.size, 0, none⟩) n n).ownBlock = some b → b < W.heap.size ∧ u4.ownBlock ≠ some b ∧ Far w.heap.size W b := fun b hb => by
        have e : wr.heap.size = b := by simpa [Value.ownBlock] using hb
        have hs0 := hch.size
        refine ⟨by omega, fun q => ?_, Far.row (e ▸ hWr) (by omega)⟩
        have := (World.ownsRow.lt ho b q).2
        omega
      have HN := Lib.hid (show ∀ j u, [Value.slice (some ⟨wr.heap.size, 0, none⟩) n n][j]? = some u → (W.alloc (.cells #[.slice (some ⟨wr.heap.size, 0, none⟩) n n] /-t-/33)).cell? ((⟨wr.heap.size + 1, 0, none⟩ : Addr).add j) = some u from by rw [← hWs]; exact one_news W _ _)
      have HO2 := Lib.hid (hWo.alloc (.cells #[.slice (some ⟨wr.heap.size, 0, none⟩) n n] /-t-/33))
      have HS2 := Lib.hid (show (W.alloc (.cells #[.slice (some ⟨wr.heap.size, 0, none⟩) n n] /-t-/33)).heap.size = wr.heap.size + 2 by simp [hWs])
      have HB2 := Lib.hid (show w.heap.size ≤ (W.alloc (.cells #[.slice (some ⟨wr.heap.size, 0, none⟩) n n] /-t-/33)).heap.size by have := hch.size; simp; omega)
      have HWO := Lib.hid hWo
      have HWR := Lib.hid hWrows
      have HX := Lib.hid hX
      have HXB := Lib.hid hXb
      have HWC := Lib.hid (hch.trans hWc)
      have HWS := Lib.hid hWs
      have HW := Lib.hid hW
      have H1 := Lib.hid (show ∀ u ∈ [Value.slice (some ⟨wr.heap.size, 0, none⟩) n n], u.oneCell' = true from fun u hu => by rw [List.mem_singleton] at hu; rw [hu]; rfl)
      have HM1 := Lib.hid (show k + 1 ≤ maxLen by unfold maxLen; omega)
      have HM2 := Lib.hid (show (k + 1) * 24 ≤ 140737488355328 by omega)
      rw [HW.out] at HN HO2 HS2 HB2
      clear hW hWr hWs hWc hWo hWrows hX hXb ho hrows
      go_wp2_with (at_builtin; refine wpList_append_lies _ rfl _ _ /-t-/22 rfl w.heap.size /-t-/33 i0 (.slice none 0 0) 1 24 Try.underlying22 hi hz0 hz1 hz2 rfl (by decide) u4 k xs rfl HO2.out ⟨wr.heap.size + 1, 0, none⟩ 1 1 [.slice (some ⟨wr.heap.size, 0, none⟩) n n] rfl rfl HN.out H1.out (by decide) HM1.out HM2.out HB2.out (wr.heap.size + 2) HS2.out ?_; intro g cap w1 h1 h2 h3 h4)
      rw [← HW.out] at h2
      have hnb : Bld w.heap.size w1 (.slice (some ⟨g, 0, none⟩) (k + 1) cap) (k + 1) (fun _ => n) oneZ := Bld.more _ HWO.out HWR.out HX.out HXB.out h1 h2 (by rw [HWS.out]; exact h3)
      have hnc : Ch (fun _ => False) w w1 := Bld.moreCh _ _ HWC.out HWO.out (Nat.le_refl _) h2
      clear h1 h2 h3 h4
      go_wp2
      go_roundw
      case rel => exact ⟨k + 1, by omega, by go_num, hnc, hnb⟩
      case measure => simp [intOf]; omega
    · have HE := Lib.hid (show k = n by omega)
      obtain ⟨A, C, rfl, _⟩ := id (hbld.mat (by omega))
      have HM := Lib.hid hbld
      clear hbld
      go_wp2
      go_ret2
      exact ⟨_, rfl, by have := HM.out; rw [HE.out] at this; rw [HE.out]; exact this, hch⟩
#print axioms rone_new
theorem rone_yes (n : Int) (n1 : 1 ≤ n) (n2 : n ≤ 64) (w : World) : Calls Try.prog 26 #[.int .i64 n] w (MatPost n.toNat n.toNat oneZ w) := (rone_new n n1 n2 w).mono fun _ _ h => h.mat (by omega)
end Go.Proofs.Ytlgdajmidcdiaaa
