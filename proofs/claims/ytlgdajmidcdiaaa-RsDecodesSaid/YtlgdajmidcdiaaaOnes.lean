/-
  mat.One and mat.Cauchy, walked.
-/
import Derived.Test.YtlgdajmidcdiaaaLst
namespace Go.Proofs.Ytlgdajmidcdiaaa
open Go.RowKit
set_option linter.unusedVariables false

theorem one1_any (i b m : Nat) (z : Nat → Nat) (w : World) (hi : i < m) (hm : m ≤ 8192) (h : bRow w b m z) :
    Calls Try.prog 40 #[.int .i64 (i : Int), .slice (some ⟨b, 0, none⟩) m m] w fun e w' => e = .returned (.tuple #[]) ∧ w.setCell ⟨b, i, none⟩ (.int .u8 1) = w' := by
  have c1 := World.rowIs.cell h hi
  have f1 := World.rowIs.frozen h i
  clear h
  go_enter Try.func40, Try.ntmps40
  go_wp2
  go_end0
  exact ⟨rfl, rfl⟩
theorem one1_turns (g n : Nat) (B : Nat → Nat) (hn : n ≤ 64) (s : Nat) (w0 : World) (hs : ∀ r, r < n → s ≤ B r) :
    Turns 40 #[] g n n B (fun i W => Own W g n n B (upto i zeroZ oneZ) ∧ Ch (fun j => s ≤ j) w0 W) := by
  intro i W hi hP
  refine ⟨hP.1.top.cell hi, ?_⟩
  have hrow := hP.1.row i hi
  refine (one1_any i (B i) n _ W hi (by omega) hrow).mono ?_
  rintro e w' ⟨rfl, rfl⟩
  have hset := World.rowIs.set hrow i (.int .u8 1)
  have hc : Ch (fun j => j = B i) W (W.setCell ⟨B i, i, none⟩ (.int .u8 1)) := (Ch.refl (fun j => j = B i) W).setCell (p := ⟨B i, i, none⟩) (Or.inl rfl) _
  refine ⟨rfl, hP.1.step hi hc (hset.congr fun c _ => ?_) (fun c _ => ?_), hP.2.trans (hc.mono fun j _ e => by rw [e]; exact hs i hi)⟩
  · unfold oneZ
    by_cases e : c = i
    · rw [if_pos e, if_pos e.symm]; rfl
    · rw [if_neg e, if_neg (fun q => e q.symm), upto_ge (by omega)]; rfl
  · unfold oneZ; split <;> omega
set_option maxHeartbeats 800000 in
theorem one_new (n : Int) (n1 : 1 ≤ n) (n2 : n ≤ 64) (w : World) : Calls Try.prog 24 #[.int .i64 n] w (FreshPost n.toNat n.toNat oneZ w) := by
  obtain ⟨n, rfl⟩ := Int.eq_ofNat_of_zero_le (show 0 ≤ n by omega)
  rw [Int.toNat_natCast]
  have hc : cntB (n : Int) = true := by simp [cntB]; omega
  go_enter Try.func24, Try.ntmps24
  go_wp2_with fail
  refine (count_any _ _).mono ?_
  rintro e w1 ⟨rfl, rfl⟩
  go_wp2_with fail
  refine (blank_any _ _ (by omega) (by omega) (by omega) (by omega) _).mono ?_
  rintro e w1 ⟨rfl, hown, hch⟩
  rw [Int.toNat_natCast] at hown ⊢
  have HO := Lib.hid hown
  clear hown
  go_wp2_with fail
  refine (turn0_any 40 w.heap.size n n (fun r => w.heap.size + 1 + r) (fun i W => Own W w.heap.size n n (fun r => w.heap.size + 1 + r) (upto i zeroZ oneZ) ∧ Ch (fun j => w.heap.size ≤ j) w1 W) w1 (by omega) enter25 (one1_turns w.heap.size n _ (by omega) w.heap.size w1 (fun r _ => by omega)) ⟨HO.out.start oneZ, Ch.refl _ _⟩).mono ?_
  rintro e w2 ⟨rfl, hP, hch2⟩
  go_wp2
  go_ret2
  refine ⟨_, rfl, hP.finish.bld (by omega) (by omega) (Nat.le_refl _) (fun r _ => by omega), Ch.gr ?_⟩
  exact ((hch.mono fun _ _ f => f.elim).trans hch2).mono fun i hi hS => by omega
theorem one_yes (n : Int) (n1 : 1 ≤ n) (n2 : n ≤ 64) (w : World) : Calls Try.prog 24 #[.int .i64 n] w (MatPost n.toNat n.toNat oneZ w) := (one_new n n1 n2 w).mono fun _ _ h => h.mat (by omega)
set_option maxHeartbeats 400000 in
theorem one_no (n : Int) (h : ¬ (1 ≤ n ∧ n ≤ 64)) (w : World) : Calls Try.prog 24 #[.int .i64 n] w (ErrPost 1 w) := by
  have hc : cntB n = false := by simp [cntB]; omega
  go_enter Try.func24, Try.ntmps24
  go_wp2_with fail
  refine (count_any _ _).mono ?_
  rintro e w1 ⟨rfl, rfl⟩
  go_wp2
  go_ret2
  exact ⟨rfl, Ch.refl _ _⟩

/-! ### Cauchy -/
theorem u8_in (x : Int) (h0 : 0 ≤ x) (h1 : x < 256) : IntKind.u8.wrap x = x := by
  simp [IntKind.wrap, IntKind.bits, IntKind.signed]; omega
theorem i64_in (x : Int) (h0 : 0 ≤ x) (h1 : x < 1000000) : IntKind.i64.wrap x = x := by
  simp [IntKind.wrap, IntKind.bits, IntKind.signed]; omega
set_option maxHeartbeats 1600000 in
theorem cau1_any (i b g pf pc cols : Nat) (z : Nat → Nat) (w : World) (hi : i ≤ 64) (h1 : 1 ≤ cols) (h2 : cols ≤ 64) (h : bRow w b cols z) (hf : fullAt w g) (cf : w.cell? ⟨pf, 0, none⟩ = some (.pointer (some ⟨g, 0, none⟩))) (cc : w.cell? ⟨pc, 0, none⟩ = some (.int .i64 (cols : Int))) (hg : g ≠ b) (hpf : pf ≠ b) (hpc : pc ≠ b) :
    Calls Try.prog 41 #[.int .i64 (i : Int), .slice (some ⟨b, 0, none⟩) cols cols, .pointer (some ⟨pf, 0, none⟩), .pointer (some ⟨pc, 0, none⟩)] w (RowPost b cols (cauZ cols i) w) := by
  obtain ⟨y, hy⟩ : ∃ y, y = cauZ cols i := ⟨_, rfl⟩
  rw [← hy]
  have HY := Lib.hid (show ∀ c, y c = cauZ cols i c from fun c => by rw [hy])
  have h0 : RowRel b cols 0 z y w w := RowRel.start h
  have HF := Lib.hid hf
  have HG := Lib.hid hg
  have HCF := Lib.hid cf
  have HCC := Lib.hid cc
  clear hf hy h hg cf cc
  go_enter Try.func41, Try.ntmps41
  go_wp2
  go_loopw [9, 6] (fun i _ wr => ∃ k : Nat, k ≤ cols ∧ i = .int .i64 k ∧ RowRel b cols k z y w wr) (fun i _ _ => cols - (intOf i).toNat)
  case atStart => exact ⟨0, Nat.zero_le _, rfl, h0⟩
  case round =>
    obtain ⟨k, hk, rfl, hrel⟩ := hrel
    by_cases hlt : k < cols
    · have c1 : wr.cell? ⟨b, k, none⟩ = some (.int .u8 (z k : Int)) := by rw [World.rowIs.cell hrel.1 hlt, part_ge (by omega)]
      have f1 : wr.frozen? ⟨b, k, none⟩ = false := World.rowIs.frozen hrel.1 k
      have c2 := hrel.2.cell HCF.out (fun e => hpf e)
      have c3 := hrel.2.cell HCC.out (fun e => hpc e)
      have hfull := Lib.hid (HF.out.ch hrel.2 HG.out)
      have i1 : (0 : Int) ≤ (k : Int) := Int.natCast_nonneg _
      have i2 : (k : Int) < (cols : Int) := by omega
      have hx : xr (cols + i) k < 256 := Gf.xor_lt (by omega) (by omega)
      have HV := Lib.hid (show qv 1 (xr (cols + i) k) = (y k : Int) from by rw [qv_pos (cau_sum hlt), HY.out k]; rfl)
      have a0 : (0 : Int) ≤ (cols : Int) + (i : Int) := by omega
      have a1 : (cols : Int) + (i : Int) < 256 := by omega
      have b1 : (k : Int) < 256 := by omega
      have x0 : (0 : Int) ≤ (xr (cols + i) k : Int) := by omega
      have x1 : (xr (cols + i) k : Int) < 256 := by omega
      have HT := Lib.hid (show ((cols : Int) + (i : Int)).toNat = cols + i by omega)
      have q1 := i64_in _ a0 (by omega)
      have q2 := u8_in _ a0 a1
      have q3 := u8_in _ i1 b1
      go_wp2
      go_region_held3 (fun w' => w'.cell? ⟨pf, 0, none⟩ = some (.pointer (some ⟨g, 0, none⟩)) ∧ w'.cell? ⟨pc, 0, none⟩ = some (.int .i64 (cols : Int))) (first | go_keep | (refine ⟨?_, ?_⟩; (rw [World.cell?_setCell_other _ _ _ _ (fun e => hpf (congrArg Addr.block e).symm)]; exact c2); (rw [World.cell?_setCell_other _ _ _ _ (fun e => hpc (congrArg Addr.block e).symm)]; exact c3)))
        (first | (go_at_call 42; refine (inv_full _ _ x0 x1 _ (hfull.out.drewN 1)).mono ?_; rintro e w1 ⟨rfl, n, rfl⟩; rw [Int.toNat_natCast, HV.out]) | (go_at_call 43; refine (add_any _ _ _ a0 a1 i1 b1 _).mono ?_; rintro e w1 ⟨rfl, rfl⟩; rw [HT.out, Int.toNat_natCast]))
      all_goals
        have hnext := hrel.stepN (n := 1 + n)
        clear q1 q2 q3
        go_wp2
        go_roundw
        case rel => exact ⟨k + 1, by omega, by go_num, hnext⟩
        case measure => simp [intOf]; omega
    · go_wp2
      go_end0
      exact ⟨rfl, hrel.done (by omega), hrel.2⟩
theorem cau1_turns (g pf pc n cols : Nat) (t : Nat) (B : Nat → Nat) (hn : n ≤ 64) (h1 : 1 ≤ cols) (h2 : cols ≤ 64) (s : Nat) (w0 : World) (hs : ∀ r, r < n → s ≤ B r) (hg : g < s) (hpf : pf < s) (hpc : pc < s)
    (hf : fullAt w0 g) (cf : w0.cell? ⟨pf, 0, none⟩ = some (.pointer (some ⟨g, 0, none⟩))) (cc : w0.cell? ⟨pc, 0, none⟩ = some (.int .i64 (cols : Int))) :
    Turns 41 #[.pointer (some ⟨pf, 0, none⟩), .pointer (some ⟨pc, 0, none⟩)] t n cols B (fun i W => Own W t n cols B (upto i zeroZ (cauZ cols)) ∧ Ch (fun j => s ≤ j) w0 W) := by
  intro i W hi hP
  refine ⟨hP.1.top.cell hi, ?_⟩
  have hB := hs i hi
  refine (cau1_any i (B i) g pf pc cols _ W (by omega) h1 h2 (hP.1.row i hi) (hf.ch hP.2 (by omega)) (hP.2.cell cf (by show ¬ s ≤ pf; omega)) (hP.2.cell cc (by show ¬ s ≤ pc; omega)) (by omega) (by omega) (by omega)).mono ?_
  rintro e w' ⟨rfl, hr, hc⟩
  exact ⟨rfl, hP.1.step hi hc hr (fun c _ => cauZ_lt _ _ _), hP.2.trans (hc.mono fun j _ e => by rw [e]; exact hB)⟩
theorem ret_mat {v : Value} {k l : Int} (h : k = l) : Ending.returned (.tuple #[v, .int .i64 k]) = .returned (.tuple #[v, .int .i64 l]) := by rw [h]
set_option maxHeartbeats 1600000 in
theorem cauchy_new (n m : Int) (n1 : 1 ≤ n) (n2 : n ≤ 64) (m1 : 1 ≤ m) (m2 : m ≤ 64) (w : World) : Calls Try.prog 25 #[.int .i64 n, .int .i64 m] w (FreshPost n.toNat m.toNat (cauZ m.toNat) w) := by
  obtain ⟨n, rfl⟩ := Int.eq_ofNat_of_zero_le (show 0 ≤ n by omega)
  obtain ⟨m, rfl⟩ := Int.eq_ofNat_of_zero_le (show 0 ≤ m by omega)
  rw [Int.toNat_natCast, Int.toNat_natCast]
  have hc : cntB (n : Int) = true := by simp [cntB]; omega
  have hc2 : cntB (m : Int) = true := by simp [cntB]; omega
  go_enter Try.func25, Try.ntmps25
  go_wp2_with (go_at_call 39; refine (count_any _ _).mono ?_; rintro e w' ⟨rfl, rfl⟩)
  refine (new_any _).mono ?_
  rintro e w1 ⟨rfl, hfull, hg⟩
  have hs : (w.alloc (.cells #[.int .i64 (m : Int)] /-t-/3)).heap.size = w.heap.size + 1 := by simp
  rw [hs] at hfull hg ⊢
  have hlt := hfull.lt
  have c3 : w1.cell? ⟨w.heap.size, 0, none⟩ = some (.int .i64 (m : Int)) := (hg.1.cell (p := ⟨w.heap.size, 0, none⟩) (by show w.heap.size < w.heap.size + 1; omega)).trans (cell_of_one (heap_alloc_new w (.cells #[.int .i64 (m : Int)] /-t-/3)))
  have HF := Lib.hid hfull
  have hch0 : Ch (fun _ => False) w w1 := ((Ch.refl _ w).alloc _ _).trans (Gr.ch (by rw [hs]; exact hg) _)
  clear hfull hg hs
  have c4 : ∀ o, (w1.alloc o).cell? ⟨w.heap.size, 0, none⟩ = some (.int .i64 (m : Int)) := fun o => (World.cell?_of_block (Below.heap_alloc w1 o w.heap.size (by omega))).trans c3
  go_wp2_with fail
  refine (blank_any _ _ (by omega) (by omega) (by omega) (by omega) _).mono ?_
  rintro e w2 ⟨rfl, hown, hch⟩
  rw [Int.toNat_natCast, Int.toNat_natCast] at hown
  have hs : (w1.alloc (.cells #[.pointer (some ⟨w.heap.size + 1, 0, none⟩)] /-t-/45)).heap.size = w1.heap.size + 1 := by simp
  rw [hs] at hown ⊢
  rw [Int.toNat_natCast]
  have d1 : fullAt w2 (w.heap.size + 1) := fullAt.ch (World.rowIs.alloc HF.out _) hch (fun f => f)
  have d2 : w2.cell? ⟨w1.heap.size, 0, none⟩ = some (.pointer (some ⟨w.heap.size + 1, 0, none⟩)) := hch.cell (cell_of_one (heap_alloc_new w1 (.cells #[.pointer (some ⟨w.heap.size + 1, 0, none⟩)] /-t-/45))) (fun f => f)
  have d3 : w2.cell? ⟨w.heap.size, 0, none⟩ = some (.int .i64 (m : Int)) := (((Ch.refl (fun _ => False) w1).alloc _ _).trans hch).cell c3 (fun f => f)
  have HT := Lib.hid (cau1_turns (w.heap.size + 1) w1.heap.size w.heap.size n m (w1.heap.size + 1) (fun r => w1.heap.size + 1 + 1 + r) (by omega) (by omega) (by omega) (w1.heap.size + 1) w2 (fun r _ => by omega) (by omega) (by omega) (by omega) d1 d2 d3)
  have HO := Lib.hid hown
  have hchw : Ch (fun _ => False) w w2 := hch0.trans (((Ch.refl _ _).alloc _ _).trans hch)
  clear hown d1 d2 d3 c3 c4 hch hs hch0
  go_wp2_with fail
  refine (turn2_any 41 _ _ _ _ _ _ _ w2 (by omega) enter27 HT.out ⟨HO.out.start _, Ch.refl _ _⟩).mono ?_
  rintro e w3 ⟨rfl, hP, hch2⟩
  go_wp2
  go_ret2
  refine ⟨_, rfl, hP.finish.bld (by omega) (by omega) (by omega) (fun r _ => by omega), Ch.gr ?_⟩
  exact ((hchw.mono fun _ _ f => f.elim).trans hch2).mono fun i hi hS => by omega
theorem cauchy_yes (n m : Int) (n1 : 1 ≤ n) (n2 : n ≤ 64) (m1 : 1 ≤ m) (m2 : m ≤ 64) (w : World) : Calls Try.prog 25 #[.int .i64 n, .int .i64 m] w (MatPost n.toNat m.toNat (cauZ m.toNat) w) := (cauchy_new n m n1 n2 m1 m2 w).mono fun _ _ h => h.mat (by omega)
set_option maxHeartbeats 400000 in
theorem cauchy_no (n m : Int) (h : ¬ (1 ≤ n ∧ n ≤ 64 ∧ 1 ≤ m ∧ m ≤ 64)) (w : World) : Calls Try.prog 25 #[.int .i64 n, .int .i64 m] w (ErrPost 1 w) := by
  by_cases hn : cntB n = true
  · have hm : cntB m = false := by
      have := of_decide_eq_true hn
      simp [cntB]; omega
    go_enter Try.func25, Try.ntmps25
    go_wp2_with (go_at_call 39; refine (count_any _ _).mono ?_; rintro e w' ⟨rfl, rfl⟩)
    go_ret2
    exact ⟨rfl, (Ch.refl _ _).alloc _ _⟩
  · have hn' : cntB n = false := by simpa using hn
    go_enter Try.func25, Try.ntmps25
    go_wp2_with (go_at_call 39; refine (count_any _ _).mono ?_; rintro e w' ⟨rfl, rfl⟩)
    go_ret2
    exact ⟨rfl, (Ch.refl _ _).alloc _ _⟩
#print axioms cauchy_yes
#print axioms cauchy_no
#print axioms one_yes
#print axioms one_no
end Go.Proofs.Ytlgdajmidcdiaaa
