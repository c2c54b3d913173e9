/-
  Matrices that are built by append, row by row; the document's One, walked.
-/
import Derived.Test.YtpeidgochfcanaaOnes
import Derived.Deep.AppendLies
namespace Go.Proofs.Ytpeidgochfcanaa
open Go.RowKit
set_option linter.unusedVariables false

theorem add_pl (b o j : Nat) : (⟨b, o, none⟩ : Addr).add j = ⟨b, o + j, none⟩ := by unfold Addr.add; split <;> simp_all
theorem ownsRow_ch {w w' : World} {base : Nat} {e : TypeId} {v : Value} {n : Nat} {xs : List Value} (h : w.ownsRow base e 1 v n xs) (k : Ch (fun _ => False) w w') : w'.ownsRow base e 1 v n xs := by
  refine ⟨h.1, ?_⟩
  rcases h.2 with hn | ⟨g, cap, cur, rfl, hb, hgg, rest⟩
  · exact Or.inl hn
  · exact Or.inr ⟨g, cap, cur, rfl, hb, (k.block g (Array.getElem?_eq_some_iff.1 hgg).1 (fun f => f)).trans hgg, rest⟩
def bytesL (k : Nat) (z : Nat → Nat) : List Value := (List.range k).map fun c => Value.int .u8 (z c : Int)
theorem bytesL_snoc (k : Nat) (z : Nat → Nat) : bytesL (k + 1) z = bytesL k z ++ [Value.int .u8 (z k : Int)] := by unfold bytesL; rw [List.range_succ, List.map_append]; rfl
theorem ownsRow_rowV {w : World} {base k : Nat} {v : Value} {z : Nat → Nat} (h : w.ownsRow base /-t-/5 1 v k (bytesL k z)) (hk : k ≤ 140737488351232) (hz : Bytes k z) : RowV w v k z := by
  rcases h.2 with ⟨rfl, h0⟩ | ⟨g, cap, cur, rfl, hb, hgg, hcap, hm, hs, ht⟩
  · subst h0; exact ⟨none, 0, rfl, ⟨hk, Nat.le_refl _⟩, fun h => absurd h (Nat.lt_irrefl 0)⟩
  · refine ⟨_, _, rfl, ⟨hk, hcap⟩, fun _ => ⟨g, 0, rfl, fun c hc => ⟨?_, hz c hc⟩⟩⟩
    have := World.ownsRow.cells h (g := g) rfl c (Value.int .u8 (z c : Int)) (by unfold bytesL; simp [hc])
    rwa [add_pl] at this
theorem rowIs_owns {w : World} {b t m base : Nat} {f : Nat → Value} (h : w.rowIs b t m f) (hb : base ≤ b) (hm : m ≤ maxLen) : w.ownsRow base t 1 (.slice (some ⟨b, 0, none⟩) m m) m ((List.range m).map f) := by
  obtain ⟨c, hc, hs, hf⟩ := h
  refine ⟨by simp, Or.inr ⟨b, m, c, rfl, hb, hc, Nat.le_refl _, hm, by omega, ?_⟩⟩
  refine List.ext_getElem? fun i => ?_
  rw [Nat.mul_one, List.getElem?_take]
  by_cases hi : i < m
  · rw [if_pos hi, Array.getElem?_toList, hf i hi]; simp [hi]
  · rw [if_neg hi, List.getElem?_eq_none (by simp; omega)]

/-- A matrix of k rows, built by append: its own row, and its rows' values, none of which lies in it. -/
def Bld (base : Nat) (w : World) (v : Value) (k : Nat) (L : Nat → Nat) (Z : Nat → Nat → Nat) : Prop :=
  ∃ xs, w.ownsRow base /-t-/24 1 v k xs ∧ ∀ r, r < k → ∃ x, xs[r]? = some x ∧ RowV w x (L r) (Z r) ∧ ∀ b, x.ownBlock = some b → b < w.heap.size ∧ v.ownBlock ≠ some b
theorem Bld.nil (base : Nat) (w : World) (L : Nat → Nat) (Z : Nat → Nat → Nat) : Bld base w (.slice none 0 0) 0 L Z := ⟨[], World.ownsRow_nil _ _ _ _, fun r hr => absurd hr (Nat.not_lt_zero r)⟩
theorem Bld.ch {base : Nat} {w w' : World} {v : Value} {k : Nat} {L : Nat → Nat} {Z : Nat → Nat → Nat} (h : Bld base w v k L Z) (c : Ch (fun _ => False) w w') : Bld base w' v k L Z := by
  obtain ⟨xs, h1, h2⟩ := h
  refine ⟨xs, ownsRow_ch h1 c, fun r hr => ?_⟩
  obtain ⟨x, hx, hv, ho⟩ := h2 r hr
  exact ⟨x, hx, hv.ch c (fun _ _ f => f), fun b hb => ⟨Nat.lt_of_lt_of_le (ho b hb).1 c.size, (ho b hb).2⟩⟩
theorem Bld.mat {base : Nat} {w : World} {v : Value} {k : Nat} {L : Nat → Nat} {Z : Nat → Nat → Nat} (h : Bld base w v k L Z) (hk : k ≤ 140737488351232) : MatV w v k L Z := by
  obtain ⟨xs, h1, h2⟩ := h
  rcases h1.2 with ⟨rfl, h0⟩ | ⟨g, cap, cur, rfl, hb, hgg, hcap, hm, hs, ht⟩
  · subst h0; exact ⟨none, 0, rfl, ⟨hk, Nat.le_refl _⟩, fun h => absurd h (Nat.lt_irrefl 0)⟩
  · refine ⟨_, _, rfl, ⟨hk, hcap⟩, fun _ => ⟨g, 0, rfl, fun r hr => ?_⟩⟩
    obtain ⟨x, hx, hv, _⟩ := h2 r hr
    have := World.ownsRow.cells h1 (g := g) rfl r x hx
    rw [add_pl] at this
    exact ⟨x, this, hv⟩
/-- What the law of append asks and leaves, for one row more. -/
theorem Bld.more {base : Nat} {w w' : World} {v x : Value} {k g cap : Nat} {L : Nat → Nat} {Z : Nat → Nat → Nat} {xs : List Value} (o : Obj) (h1 : w.ownsRow base /-t-/24 1 v k xs)
    (h2 : ∀ r, r < k → ∃ x, xs[r]? = some x ∧ RowV w x (L r) (Z r) ∧ ∀ b, x.ownBlock = some b → b < w.heap.size ∧ v.ownBlock ≠ some b)
    (hx : RowV w x (L k) (Z k)) (hb : ∀ b, x.ownBlock = some b → b < w.heap.size ∧ v.ownBlock ≠ some b)
    (h : w'.ownsRow base /-t-/24 1 (.slice (some ⟨g, 0, none⟩) (k + 1) cap) (k + 1) (xs ++ [x])) (hg : (w.alloc o).grownBy w' v.ownBlock) (hat : v.ownBlock = some g ∨ g = w.heap.size + 1) :
    Bld base w' (.slice (some ⟨g, 0, none⟩) (k + 1) cap) (k + 1) L Z := by
  have hlen : xs.length = k := by have := h1.1; omega
  have hsz : w.heap.size + 1 ≤ w'.heap.size := by have := hg.size; simpa using this
  have keepRow : ∀ y l z, RowV w y l z → (∀ b, y.ownBlock = some b → b < w.heap.size ∧ v.ownBlock ≠ some b) → RowV w' y l z ∧ ∀ b, y.ownBlock = some b → b < w'.heap.size ∧ (Value.slice (some ⟨g, 0, none⟩) (k + 1) cap).ownBlock ≠ some b := by
    intro y l z hy ho
    refine ⟨?_, fun b hb => ?_⟩
    · obtain ⟨A, C, rfl, hl, hc⟩ := hy
      refine ⟨A, C, rfl, hl, fun h0 => ?_⟩
      obtain ⟨b, o', rfl, hc2⟩ := hc h0
      refine ⟨b, o', rfl, fun c hcl => ⟨?_, (hc2 c hcl).2⟩⟩
      have hbb := ho b rfl
      have e1 : w'.heap[b]? = w.heap[b]? := (hg.block b (by simpa using Nat.lt_succ_of_lt hbb.1) (fun e => hbb.2 e.symm)).trans (Below.heap_alloc w o b hbb.1)
      exact (World.cell?_of_block (a := ⟨b, o' + c, none⟩) e1).trans (hc2 c hcl).1
    · have hbb := ho b hb
      refine ⟨by omega, fun e => ?_⟩
      have e' : g = b := by simpa [Value.ownBlock] using e
      rcases hat with q | q
      · exact hbb.2 (by rw [q, e'])
      · omega
  refine ⟨xs ++ [x], h, fun r hr => ?_⟩
  by_cases e : r < k
  · obtain ⟨y, hy, hv, ho⟩ := h2 r e
    have := keepRow y _ _ hv ho
    exact ⟨y, by rw [List.getElem?_append_left (by omega)]; exact hy, this.1, this.2⟩
  · obtain rfl : r = k := by omega
    have := keepRow x _ _ hx hb
    exact ⟨x, by rw [List.getElem?_append_right (by omega), hlen]; simp, this.1, this.2⟩
theorem Bld.moreCh {base : Nat} {w0 w w' : World} {v : Value} {k : Nat} {xs : List Value} (c : Array Value) (t : TypeId) (hc : Ch (fun _ => False) w0 w) (h1 : w.ownsRow base /-t-/24 1 v k xs) (hb : w0.heap.size ≤ base) (hg : (w.alloc (.cells c t)).grownBy w' v.ownBlock) : Ch (fun _ => False) w0 w' :=
  (hc.alloc c t).grown hg (fun i hi => Or.inr (Nat.le_trans hb (World.ownsRow.lt h1 i hi).1))

/-! ### the document's One -/
theorem one_news (w : World) (x : Value) (t : TypeId) : ∀ j u, [x][j]? = some u → (w.alloc (.cells #[x] t)).cell? ((⟨w.heap.size, 0, none⟩ : Addr).add j) = some u :=
  World.news_of_block (cs := #[x]) (t := t) (fr := (0, 0)) (heap_alloc_new w _)
theorem made_one (k n : Nat) (i : Nat) (hi : i < ((madeCells #[Value.int .u8 0] n).setIfInBounds k (.int .u8 1)).size) : ((madeCells #[Value.int .u8 0] n).setIfInBounds k (.int .u8 1))[i]? = some (.int .u8 (oneZ k i : Int)) := by
  have hn : i < n := by simpa [size_madeCells] using hi
  rw [Array.getElem?_setIfInBounds]
  unfold oneZ
  by_cases e : k = i
  · subst e; simp [size_madeCells, hn]
  · rw [if_neg e, if_neg e]
    simp [madeCells, hn, Nat.mod_one]
set_option maxHeartbeats 1600000 in
theorem rone_yes (n : Int) (n1 : 1 ≤ n) (n2 : n ≤ 64) (w : World) : Calls Try.prog 11 #[.int .i64 n] w (MatPost n.toNat n.toNat oneZ w) := by
  obtain ⟨n, rfl⟩ := Int.eq_ofNat_of_zero_le (show 0 ≤ n by omega)
  rw [Int.toNat_natCast]
  have t1 : decide ((n : Int) < 1) = false := by simp; omega
  have t2 : decide ((64 : Int) < (n : Int)) = false := by simp; omega
  have hmk2 := run_make_row' (P := Try.prog) 24 5 (.int .u8 0) 1 Try.underlying24 Try.info5 rfl .i64 .i64 n (by omega) (by omega)
  obtain ⟨i0, hi, hz0, hz1, hz2⟩ := info_parts Try.info24
  go_enter Try.func11, Try.ntmps11
  go_wp2
  go_loopw [4, 5, 6] (fun v i _ wr => ∃ k : Nat, k ≤ n ∧ i = .int .i64 k ∧ Ch (fun _ => False) w wr ∧ Bld w.heap.size wr v k (fun _ => n) oneZ) (fun _ i _ _ => n - (intOf i).toNat)
  case atStart => exact ⟨0, Nat.zero_le _, rfl, Ch.refl _ _, Bld.nil _ _ _ _⟩
  case round =>
    obtain ⟨k, hk, rfl, hch, hbld⟩ := hrel
    by_cases hlt : k < n
    · obtain ⟨xs, ho, hrows⟩ := hbld
      have c0 := (World.rowIs_made wr (.int .u8 0) n /-t-/5).cell hlt
      have f0 := (World.rowIs_made wr (.int .u8 0) n /-t-/5).frozen k
      obtain ⟨W, hW⟩ : ∃ W, W = wr.alloc (.cells ((madeCells #[Value.int .u8 0] n).setIfInBounds k (.int .u8 1)) /-t-/5) := ⟨_, rfl⟩
      have hWr : W.rowIs wr.heap.size /-t-/5 n (fun c => .int .u8 (oneZ k c : Int)) := by
        have := World.rowIs_alloc wr ((madeCells #[Value.int .u8 0] n).setIfInBounds k (.int .u8 1)) /-t-/5 (fun c => .int .u8 (oneZ k c : Int)) (made_one k n)
        rw [hW]; simpa [size_madeCells] using this
      have hWs : W.heap.size = wr.heap.size + 1 := by rw [hW]; simp
      have hWc : Ch (fun _ => False) wr W := by rw [hW]; exact (Ch.refl _ _).alloc _ _
      have hWo : W.ownsRow w.heap.size /-t-/24 1 u4 k xs := ownsRow_ch ho hWc
      have hWrows : ∀ r, r < k → ∃ x, xs[r]? = some x ∧ RowV W x n (oneZ r) ∧ ∀ b, x.ownBlock = some b → b < W.heap.size ∧ u4.ownBlock ≠ some b := fun r hr => by
        obtain ⟨x, hx, hv, hoo⟩ := hrows r hr
        exact ⟨x, hx, hv.ch hWc (fun _ _ f => f), fun b hb => ⟨Nat.lt_of_lt_of_le (hoo b hb).1 hWc.size, (hoo b hb).2⟩⟩
      have hX : RowV W (.slice (some ⟨wr.heap.size, 0, none⟩) n n) n (oneZ k) := ⟨_, _, rfl, by omega, fun _ => ⟨_, 0, rfl, fun c hc => ⟨by rw [Nat.zero_add]; exact hWr.cell hc, by unfold oneZ; split <;> omega⟩⟩⟩
      have hXb : ∀ b, (Value.slice (some ⟨wr.heap.size, 0, none⟩) n n).ownBlock = some b → b < W.heap.size ∧ u4.ownBlock ≠ some b := fun b hb => by
        have e : wr.heap.size = b := by simpa [Value.ownBlock] using hb
        refine ⟨by omega, fun q => ?_⟩
        have := (World.ownsRow.lt ho b q).2
        omega
      have HN := Lib.hid (show ∀ j u, [Value.slice (some ⟨wr.heap.size, 0, none⟩) n n][j]? = some u → (W.alloc (.cells #[.slice (some ⟨wr.heap.size, 0, none⟩) n n] /-t-/24)).cell? ((⟨wr.heap.size + 1, 0, none⟩ : Addr).add j) = some u from by rw [← hWs]; exact one_news W _ _)
      have HO2 := Lib.hid (hWo.alloc (.cells #[.slice (some ⟨wr.heap.size, 0, none⟩) n n] /-t-/24))
      have HS2 := Lib.hid (show (W.alloc (.cells #[.slice (some ⟨wr.heap.size, 0, none⟩) n n] /-t-/24)).heap.size = wr.heap.size + 2 by simp [hWs])
      have HB2 := Lib.hid (show w.heap.size ≤ (W.alloc (.cells #[.slice (some ⟨wr.heap.size, 0, none⟩) n n] /-t-/24)).heap.size by have := hch.size; simp; omega)
      have HWO := Lib.hid hWo
      have HWR := Lib.hid hWrows
      have HX := Lib.hid hX
      have HXB := Lib.hid hXb
      have HWC := Lib.hid (hch.trans hWc)
      have HWS := Lib.hid hWs
      have HW := Lib.hid hW
      have H1 := Lib.hid (show ∀ u ∈ [Value.slice (some ⟨wr.heap.size, 0, none⟩) n n], u.oneCell' = true from fun u hu => by rw [List.mem_singleton] at hu; rw [hu]; rfl)
      have HM1 := Lib.hid (show k + 1 ≤ maxLen by unfold maxLen; omega)
      have HM2 := Lib.hid (show (k + 1) * 24 ≤ 140737488355328 by omega)
      rw [HW.out] at HN HO2 HS2 HB2
      clear hW hWr hWs hWc hWo hWrows hX hXb ho hrows
      go_wp2_with (at_builtin; refine wpList_append_lies _ rfl _ _ /-t-/22 rfl w.heap.size /-t-/24 i0 (.slice none 0 0) 1 24 Try.underlying22 hi hz0 hz1 hz2 rfl (by decide) u4 k xs rfl HO2.out ⟨wr.heap.size + 1, 0, none⟩ 1 1 [.slice (some ⟨wr.heap.size, 0, none⟩) n n] rfl rfl HN.out H1.out (by decide) HM1.out HM2.out HB2.out (wr.heap.size + 2) HS2.out ?_; intro g cap w1 h1 h2 h3 h4)
      rw [← HW.out] at h2
      have hnb : Bld w.heap.size w1 (.slice (some ⟨g, 0, none⟩) (k + 1) cap) (k + 1) (fun _ => n) oneZ := Bld.more _ HWO.out HWR.out HX.out HXB.out h1 h2 (by rw [HWS.out]; exact h3)
      have hnc : Ch (fun _ => False) w w1 := Bld.moreCh _ _ HWC.out HWO.out (Nat.le_refl _) h2
      clear h1 h2 h3 h4
      go_wp2
      go_roundw
      case rel => exact ⟨k + 1, by omega, by go_num, hnc, hnb⟩
      case measure => simp [intOf]; omega
    · have HE := Lib.hid (show k = n by omega)
      have HM := Lib.hid (hbld.mat (by omega))
      obtain ⟨A, C, rfl, _⟩ := id HM.out
      go_wp2
      go_ret2
      exact ⟨_, rfl, by have := HM.out; rw [HE.out] at this; rw [HE.out]; exact this, hch⟩
#print axioms rone_yes
end Go.Proofs.Ytpeidgochfcanaa
