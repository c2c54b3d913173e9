/-
  Matrices that are built by append, row by row; what calls answer. mat.One and mat.Cauchy, walked. mat.Mul, walked.
-/
import Derived.Test.YtlbdopcchoklhaaGreatMh11
import Derived.Deep.AppendLies
namespace Go.Proofs.YtlbdopcchoklhaaGreat
open Go.RowKit
set_option linter.unusedVariables false
set_option maxRecDepth 100000

/-- A block from lo on, of which, if lo is above 0, nothing is frozen. -/
def Far (lo : Nat) (w : World) (b : Nat) : Prop := lo ≤ b ∧ (1 ≤ lo → ∃ c t, w.heap[b]? = some (.cells c t (0, 0)))
theorem Far.zero (w : World) (b : Nat) : Far 0 w b := ⟨Nat.zero_le _, fun h => absurd h (by omega)⟩
theorem Far.of_block {lo : Nat} {w w' : World} {b : Nat} (h : Far lo w b) (e : w'.heap[b]? = w.heap[b]?) : Far lo w' b := ⟨h.1, fun q => by
  obtain ⟨c, t, hc⟩ := h.2 q
  exact ⟨c, t, e.trans hc⟩⟩
theorem Far.ch {lo : Nat} {w w' : World} {b : Nat} (h : Far lo w b) (k : Ch (fun _ => False) w w') (hb : b < w.heap.size) : Far lo w' b := h.of_block (k.block b hb (fun f => f))
theorem Far.low {lo lo2 : Nat} {w : World} {b : Nat} (h : Far lo w b) (hl : lo2 ≤ lo) : Far lo2 w b := ⟨Nat.le_trans hl h.1, fun q => h.2 (by omega)⟩
theorem Far.row {lo : Nat} {w : World} {b : Nat} {t : TypeId} {n : Nat} {f : Nat → Value} (h : w.rowIs b t n f) (hl : lo ≤ b) : Far lo w b := ⟨hl, fun _ => by
  obtain ⟨c, hc, _⟩ := h
  exact ⟨c, _, hc⟩⟩
/-- A matrix of k rows, built by append: its own row, and its rows' values, none of which lies in it. -/
def BldL (base lo : Nat) (w : World) (v : Value) (k : Nat) (L : Nat → Nat) (Z : Nat → Nat → Nat) : Prop :=
  ∃ xs, w.ownsRow base /-t-/24 1 v k xs ∧ ∀ r, r < k → ∃ x, xs[r]? = some x ∧ RowV w x (L r) (Z r) ∧ ∀ b, x.ownBlock = some b → b < w.heap.size ∧ v.ownBlock ≠ some b ∧ Far lo w b
/-- The same, all of it new. -/
def Bld (base : Nat) (w : World) (v : Value) (k : Nat) (L : Nat → Nat) (Z : Nat → Nat → Nat) : Prop := BldL base base w v k L Z
theorem BldL.nil (base lo : Nat) (w : World) (L : Nat → Nat) (Z : Nat → Nat → Nat) : BldL base lo w (.slice none 0 0) 0 L Z := ⟨[], World.ownsRow_nil _ _ _ _, fun r hr => absurd hr (Nat.not_lt_zero r)⟩
theorem Bld.nil (base : Nat) (w : World) (L : Nat → Nat) (Z : Nat → Nat → Nat) : Bld base w (.slice none 0 0) 0 L Z := BldL.nil _ _ _ _ _
theorem BldL.ch {base lo : Nat} {w w' : World} {v : Value} {k : Nat} {L : Nat → Nat} {Z : Nat → Nat → Nat} (h : BldL base lo w v k L Z) (c : Ch (fun _ => False) w w') : BldL base lo w' v k L Z := by
  obtain ⟨xs, h1, h2⟩ := h
  refine ⟨xs, ownsRow_ch h1 c, fun r hr => ?_⟩
  obtain ⟨x, hx, hv, ho⟩ := h2 r hr
  exact ⟨x, hx, hv.ch c (fun _ _ f => f), fun b hb => ⟨Nat.lt_of_lt_of_le (ho b hb).1 c.size, (ho b hb).2.1, (ho b hb).2.2.ch c (ho b hb).1⟩⟩
theorem Bld.ch {base : Nat} {w w' : World} {v : Value} {k : Nat} {L : Nat → Nat} {Z : Nat → Nat → Nat} (h : Bld base w v k L Z) (c : Ch (fun _ => False) w w') : Bld base w' v k L Z := BldL.ch h c
theorem BldL.mat {base lo : Nat} {w : World} {v : Value} {k : Nat} {L : Nat → Nat} {Z : Nat → Nat → Nat} (h : BldL base lo w v k L Z) (hk : k ≤ 140737488351232) : MatV w v k L Z := by
  obtain ⟨xs, h1, h2⟩ := h
  rcases h1.2 with ⟨rfl, h0⟩ | ⟨g, cap, cur, rfl, hb, hgg, hcap, hm, hs, ht⟩
  · subst h0; exact ⟨none, 0, rfl, ⟨hk, Nat.le_refl _⟩, fun h => absurd h (Nat.lt_irrefl 0)⟩
  · refine ⟨_, _, rfl, ⟨hk, hcap⟩, fun _ => ⟨g, 0, rfl, fun r hr => ?_⟩⟩
    obtain ⟨x, hx, hv, _⟩ := h2 r hr
    have := World.ownsRow.cells h1 (g := g) rfl r x hx
    rw [add_pl] at this
    exact ⟨x, this, hv⟩
theorem Bld.mat {base : Nat} {w : World} {v : Value} {k : Nat} {L : Nat → Nat} {Z : Nat → Nat → Nat} (h : Bld base w v k L Z) (hk : k ≤ 140737488351232) : MatV w v k L Z := BldL.mat h hk
/-- What the law of append asks and leaves, for one row more. -/
theorem Bld.more {base lo : Nat} {w w' : World} {v x : Value} {k g cap : Nat} {L : Nat → Nat} {Z : Nat → Nat → Nat} {xs : List Value} (o : Obj) (h1 : w.ownsRow base /-t-/24 1 v k xs)
    (h2 : ∀ r, r < k → ∃ x, xs[r]? = some x ∧ RowV w x (L r) (Z r) ∧ ∀ b, x.ownBlock = some b → b < w.heap.size ∧ v.ownBlock ≠ some b ∧ Far lo w b)
    (hx : RowV w x (L k) (Z k)) (hb : ∀ b, x.ownBlock = some b → b < w.heap.size ∧ v.ownBlock ≠ some b ∧ Far lo w b)
    (h : w'.ownsRow base /-t-/24 1 (.slice (some ⟨g, 0, none⟩) (k + 1) cap) (k + 1) (xs ++ [x])) (hg : (w.alloc o).grownBy w' v.ownBlock) (hat : v.ownBlock = some g ∨ g = w.heap.size + 1) :
    BldL base lo w' (.slice (some ⟨g, 0, none⟩) (k + 1) cap) (k + 1) L Z := by
  have hlen : xs.length = k := by have := h1.1; omega
  have hsz : w.heap.size + 1 ≤ w'.heap.size := by have := hg.size; simpa using this
  have keepRow : ∀ y l z, RowV w y l z → (∀ b, y.ownBlock = some b → b < w.heap.size ∧ v.ownBlock ≠ some b ∧ Far lo w b) → RowV w' y l z ∧ ∀ b, y.ownBlock = some b → b < w'.heap.size ∧ (Value.slice (some ⟨g, 0, none⟩) (k + 1) cap).ownBlock ≠ some b ∧ Far lo w' b := by
    intro y l z hy ho
    refine ⟨?_, fun b hb => ?_⟩
    · obtain ⟨A, C, rfl, hl, hc⟩ := hy
      refine ⟨A, C, rfl, hl, fun h0 => ?_⟩
      obtain ⟨b, o', rfl, hc2⟩ := hc h0
      refine ⟨b, o', rfl, fun c hcl => ⟨?_, (hc2 c hcl).2⟩⟩
      have hbb := ho b rfl
      have e1 : w'.heap[b]? = w.heap[b]? := (hg.block b (by simpa using Nat.lt_succ_of_lt hbb.1) (fun e => hbb.2.1 e.symm)).trans (Below.heap_alloc w o b hbb.1)
      exact (World.cell?_of_block (a := ⟨b, o' + c, none⟩) e1).trans (hc2 c hcl).1
    · have hbb := ho b hb
      refine ⟨by omega, fun e => ?_, hbb.2.2.of_block ((hg.block b (by simpa using Nat.lt_succ_of_lt hbb.1) (fun e => hbb.2.1 e.symm)).trans (Below.heap_alloc w o b hbb.1))⟩
      have e' : g = b := by simpa [Value.ownBlock] using e
      rcases hat with q | q
      · exact hbb.2.1 (by rw [q, e'])
      · omega
  refine ⟨xs ++ [x], h, fun r hr => ?_⟩
  by_cases e : r < k
  · obtain ⟨y, hy, hv, ho⟩ := h2 r e
    have := keepRow y _ _ hv ho
    exact ⟨y, by rw [List.getElem?_append_left (by omega)]; exact hy, this.1, this.2⟩
  · obtain rfl : r = k := by omega
    have := keepRow x _ _ hx hb
    exact ⟨x, by rw [List.getElem?_append_right (by omega), hlen]; simp, this.1, this.2⟩
/-! ### what calls answer -/
/-- Two results: a matrix, or nothing; and the error. -/
def MatPost (n m : Nat) (Z : Nat → Nat → Nat) (w : World) (e : Ending) (w' : World) : Prop :=
  ∃ v, e = .returned (.tuple #[v, .int .i64 0]) ∧ MatV w' v n (fun _ => m) Z ∧ Ch (fun _ => False) w w'
def ErrPost (k : Int) (w : World) (e : Ending) (w' : World) : Prop := e = .returned (.tuple #[.slice none 0 0, .int .i64 k]) ∧ Ch (fun _ => False) w w'
/-- The same, and all of it is new. -/
def FreshPost (n m : Nat) (Z : Nat → Nat → Nat) (w : World) (e : Ending) (w' : World) : Prop :=
  ∃ v, e = .returned (.tuple #[v, .int .i64 0]) ∧ Bld w.heap.size w' v n (fun _ => m) Z ∧ Ch (fun _ => False) w w'
theorem FreshPost.mat {n m : Nat} {Z : Nat → Nat → Nat} {w : World} {e : Ending} {w' : World} (hn : n ≤ 140737488351232) (h : FreshPost n m Z w e w') : MatPost n m Z w e w' := by
  obtain ⟨v, h1, h2, h3⟩ := h
  exact ⟨v, h1, h2.mat hn, h3⟩
theorem Own.bld {w : World} {base g n m : Nat} {B : Nat → Nat} {Z : Nat → Nat → Nat} (h : Own w g n m B Z) (hn : n ≤ 65536) (hm : m ≤ 65536) (hg : base ≤ g) (hB : ∀ r, r < n → base ≤ B r) : Bld base w (.slice (some ⟨g, 0, none⟩) n n) n (fun _ => m) Z := by
  refine ⟨_, rowIs_owns h.top hg (by unfold maxLen; omega), fun r hr => ⟨.slice (some ⟨B r, 0, none⟩) m m, by simp [hr], ?_, fun b hb => ?_⟩⟩
  · exact ⟨_, _, rfl, ⟨by show m ≤ 140737488351232; omega, Nat.le_refl _⟩, fun _ => ⟨B r, 0, rfl, fun c hc => ⟨by rw [Nat.zero_add]; exact (h.row r hr).cell hc, h.byte r c hr hc⟩⟩⟩
  · have e : B r = b := by simpa [Value.ownBlock] using hb
    subst e
    exact ⟨(h.row r hr).lt, fun q => h.off r hr (by simpa [Value.ownBlock] using q.symm), Far.row (h.row r hr) (hB r hr)⟩
end Go.Proofs.YtlbdopcchoklhaaGreat
namespace Go.Proofs.YtlbdopcchoklhaaGreat
open Go.RowKit
set_option linter.unusedVariables false
set_option maxRecDepth 100000

theorem one1_any (i b m : Nat) (z : Nat → Nat) (w : World) (hi : i < m) (hm : m ≤ 8192) (h : bRow w b m z) :
    Calls Tryz.prog 135 #[.int .i64 (i : Int), .slice (some ⟨b, 0, none⟩) m m] w fun e w' => e = .returned (.tuple #[]) ∧ w.setCell ⟨b, i, none⟩ (.int .u8 1) = w' := by
  have c1 := World.rowIs.cell h hi
  have f1 := World.rowIs.frozen h i
  clear h
  go_enter Tryz.func135, Tryz.ntmps135
  go_wp2
  go_end0
  exact ⟨rfl, rfl⟩
theorem one1_turns (g n : Nat) (B : Nat → Nat) (hn : n ≤ 64) (s : Nat) (w0 : World) (hs : ∀ r, r < n → s ≤ B r) :
    Turns 135 #[] g n n B (fun i W => Own W g n n B (uptoF i zeroZ oneZ) ∧ Ch (fun j => s ≤ j) w0 W) := by
  intro i W hi hP
  refine ⟨hP.1.top.cell hi, ?_⟩
  have hrow := hP.1.row i hi
  refine (one1_any i (B i) n _ W hi (by omega) hrow).mono ?_
  rintro e w' ⟨rfl, rfl⟩
  have hset := World.rowIs.set hrow i (.int .u8 1)
  have hc : Ch (fun j => j = B i) W (W.setCell ⟨B i, i, none⟩ (.int .u8 1)) := (Ch.refl (fun j => j = B i) W).setCell (p := ⟨B i, i, none⟩) (Or.inl rfl) _
  refine ⟨rfl, hP.1.step hi hc (hset.congr fun c _ => ?_) (fun c _ => ?_), hP.2.trans (hc.mono fun j _ e => by rw [e]; exact hs i hi)⟩
  · unfold oneZ
    by_cases e : c = i
    · rw [if_pos e, if_pos e.symm]; rfl
    · rw [if_neg e, if_neg (fun q => e q.symm), upto_ge (by omega)]; rfl
  · unfold oneZ; split <;> omega
set_option maxHeartbeats 800000 in
theorem one_new (n : Int) (n1 : 1 ≤ n) (n2 : n ≤ 64) (w : World) : Calls Tryz.prog 116 #[.int .i64 n] w (FreshPost n.toNat n.toNat oneZ w) := by
  obtain ⟨n, rfl⟩ := Int.eq_ofNat_of_zero_le (show 0 ≤ n by omega)
  rw [Int.toNat_natCast]
  have hc : cntB (n : Int) = true := by simp [cntB]; omega
  go_enter Tryz.func116, Tryz.ntmps116
  go_wp2_with fail
  refine (count_any _ _).mono ?_
  rintro e w1 ⟨rfl, rfl⟩
  go_wp2_with fail
  refine (blank_anyF _ _ (by omega) (by omega) (by omega) (by omega) _).mono ?_
  rintro e w1 ⟨rfl, hown, hch⟩
  rw [Int.toNat_natCast] at hown ⊢
  have HO := Lib.hid hown
  clear hown
  go_wp2_with fail
  refine (turn0_any 135 w.heap.size n n (fun r => w.heap.size + 1 + r) (fun i W => Own W w.heap.size n n (fun r => w.heap.size + 1 + r) (uptoF i zeroZ oneZ) ∧ Ch (fun j => w.heap.size ≤ j) w1 W) w1 (by omega) enter25 (one1_turns w.heap.size n _ (by omega) w.heap.size w1 (fun r _ => by omega)) ⟨HO.out.start oneZ, Ch.refl _ _⟩).mono ?_
  rintro e w2 ⟨rfl, hP, hch2⟩
  go_wp2
  go_ret2
  refine ⟨_, rfl, hP.finish.bld (by omega) (by omega) (Nat.le_refl _) (fun r _ => by omega), Ch.gr ?_⟩
  exact ((hch.mono fun _ _ f => f.elim).trans hch2).mono fun i hi hS => by omega
/-! ### Cauchy -/
theorem u8_in (x : Int) (h0 : 0 ≤ x) (h1 : x < 256) : IntKind.u8.wrap x = x := by
  simp [IntKind.wrap, IntKind.bits, IntKind.signed]; omega
theorem i64_in (x : Int) (h0 : 0 ≤ x) (h1 : x < 1000000) : IntKind.i64.wrap x = x := by
  simp [IntKind.wrap, IntKind.bits, IntKind.signed]; omega
set_option maxHeartbeats 1600000 in
theorem cau1_any (i b g pf pc cols : Nat) (z : Nat → Nat) (w : World) (hi : i ≤ 64) (h1 : 1 ≤ cols) (h2 : cols ≤ 64) (h : bRow w b cols z) (hf : fullAt w g) (cf : w.cell? ⟨pf, 0, none⟩ = some (.pointer (some ⟨g, 0, none⟩))) (cc : w.cell? ⟨pc, 0, none⟩ = some (.int .i64 (cols : Int))) (hg : g ≠ b) (hpf : pf ≠ b) (hpc : pc ≠ b) :
    Calls Tryz.prog 136 #[.int .i64 (i : Int), .slice (some ⟨b, 0, none⟩) cols cols, .pointer (some ⟨pf, 0, none⟩), .pointer (some ⟨pc, 0, none⟩)] w (RowPost b cols (cauZ cols i) w) := by
  obtain ⟨y, hy⟩ : ∃ y, y = cauZ cols i := ⟨_, rfl⟩
  rw [← hy]
  have HY := Lib.hid (show ∀ c, y c = cauZ cols i c from fun c => by rw [hy])
  have h0 : RowRel b cols 0 z y w w := RowRel.start h
  have HF := Lib.hid hf
  have HG := Lib.hid hg
  have HCF := Lib.hid cf
  have HCC := Lib.hid cc
  clear hf hy h hg cf cc
  go_enter Tryz.func136, Tryz.ntmps136
  go_wp2
  go_loopw [9, 6] (fun i _ wr => ∃ k : Nat, k ≤ cols ∧ i = .int .i64 k ∧ RowRel b cols k z y w wr) (fun i _ _ => cols - (intOf i).toNat)
  case atStart => exact ⟨0, Nat.zero_le _, rfl, h0⟩
  case round =>
    obtain ⟨k, hk, rfl, hrel⟩ := hrel
    by_cases hlt : k < cols
    · have c1 : wr.cell? ⟨b, k, none⟩ = some (.int .u8 (z k : Int)) := by rw [World.rowIs.cell hrel.1 hlt, part_ge (by omega)]
      have f1 : wr.frozen? ⟨b, k, none⟩ = false := World.rowIs.frozen hrel.1 k
      have c2 := hrel.2.cell HCF.out (fun e => hpf e)
      have c3 := hrel.2.cell HCC.out (fun e => hpc e)
      have hfull := Lib.hid (HF.out.ch hrel.2 HG.out)
      have i1 : (0 : Int) ≤ (k : Int) := Int.natCast_nonneg _
      have i2 : (k : Int) < (cols : Int) := by omega
      have hx : xr (cols + i) k < 256 := Gf.xor_lt (by omega) (by omega)
      have HV := Lib.hid (show qv 1 (xr (cols + i) k) = (y k : Int) from by rw [qv_pos (cau_sum hlt), HY.out k]; rfl)
      have a0 : (0 : Int) ≤ (cols : Int) + (i : Int) := by omega
      have a1 : (cols : Int) + (i : Int) < 256 := by omega
      have b1 : (k : Int) < 256 := by omega
      have x0 : (0 : Int) ≤ (xr (cols + i) k : Int) := by omega
      have x1 : (xr (cols + i) k : Int) < 256 := by omega
      have HT := Lib.hid (show ((cols : Int) + (i : Int)).toNat = cols + i by omega)
      have q1 := i64_in _ a0 (by omega)
      have q2 := u8_in _ a0 a1
      have q3 := u8_in _ i1 b1
      go_wp2
      go_region_held3 (fun w' => w'.cell? ⟨pf, 0, none⟩ = some (.pointer (some ⟨g, 0, none⟩)) ∧ w'.cell? ⟨pc, 0, none⟩ = some (.int .i64 (cols : Int))) (first | go_keep | (refine ⟨?_, ?_⟩; (rw [World.cell?_setCell_other _ _ _ _ (fun e => hpf (congrArg Addr.block e).symm)]; exact c2); (rw [World.cell?_setCell_other _ _ _ _ (fun e => hpc (congrArg Addr.block e).symm)]; exact c3)))
        (first | (go_at_call 137; refine (inv_full _ _ x0 x1 _ (hfull.out.drewN 1)).mono ?_; rintro e w1 ⟨rfl, n, rfl⟩; rw [Int.toNat_natCast, HV.out]) | (go_at_call 138; refine (add_any _ _ _ a0 a1 i1 b1 _).mono ?_; rintro e w1 ⟨rfl, rfl⟩; rw [HT.out, Int.toNat_natCast]))
      all_goals
        have hnext := hrel.stepN (n := 1 + n)
        clear q1 q2 q3
        go_wp2
        go_roundw
        case rel => exact ⟨k + 1, by omega, by go_num, hnext⟩
        case measure => simp [intOf]; omega
    · go_wp2
      go_end0
      exact ⟨rfl, hrel.done (by omega), hrel.2⟩
theorem cau1_turns (g pf pc n cols : Nat) (t : Nat) (B : Nat → Nat) (hn : n ≤ 64) (h1 : 1 ≤ cols) (h2 : cols ≤ 64) (s : Nat) (w0 : World) (hs : ∀ r, r < n → s ≤ B r) (hg : g < s) (hpf : pf < s) (hpc : pc < s)
    (hf : fullAt w0 g) (cf : w0.cell? ⟨pf, 0, none⟩ = some (.pointer (some ⟨g, 0, none⟩))) (cc : w0.cell? ⟨pc, 0, none⟩ = some (.int .i64 (cols : Int))) :
    Turns 136 #[.pointer (some ⟨pf, 0, none⟩), .pointer (some ⟨pc, 0, none⟩)] t n cols B (fun i W => Own W t n cols B (uptoF i zeroZ (cauZ cols)) ∧ Ch (fun j => s ≤ j) w0 W) := by
  intro i W hi hP
  refine ⟨hP.1.top.cell hi, ?_⟩
  have hB := hs i hi
  refine (cau1_any i (B i) g pf pc cols _ W (by omega) h1 h2 (hP.1.row i hi) (hf.ch hP.2 (by omega)) (hP.2.cell cf (by show ¬ s ≤ pf; omega)) (hP.2.cell cc (by show ¬ s ≤ pc; omega)) (by omega) (by omega) (by omega)).mono ?_
  rintro e w' ⟨rfl, hr, hc⟩
  exact ⟨rfl, hP.1.step hi hc hr (fun c _ => cauZ_lt _ _ _), hP.2.trans (hc.mono fun j _ e => by rw [e]; exact hB)⟩
set_option maxHeartbeats 1600000 in
theorem cauchy_new (n m : Int) (n1 : 1 ≤ n) (n2 : n ≤ 64) (m1 : 1 ≤ m) (m2 : m ≤ 64) (w : World) : Calls Tryz.prog 117 #[.int .i64 n, .int .i64 m] w (FreshPost n.toNat m.toNat (cauZ m.toNat) w) := by
  obtain ⟨n, rfl⟩ := Int.eq_ofNat_of_zero_le (show 0 ≤ n by omega)
  obtain ⟨m, rfl⟩ := Int.eq_ofNat_of_zero_le (show 0 ≤ m by omega)
  rw [Int.toNat_natCast, Int.toNat_natCast]
  have hc : cntB (n : Int) = true := by simp [cntB]; omega
  have hc2 : cntB (m : Int) = true := by simp [cntB]; omega
  go_enter Tryz.func117, Tryz.ntmps117
  go_wp2_with (go_at_call 134; refine (count_any _ _).mono ?_; rintro e w' ⟨rfl, rfl⟩)
  refine (new_anyF _).mono ?_
  rintro e w1 ⟨rfl, hfull, hg⟩
  have hs : (w.alloc (.cells #[.int .i64 (m : Int)] /-t-/3)).heap.size = w.heap.size + 1 := by simp
  rw [hs] at hfull hg ⊢
  have hlt := hfull.lt
  have c3 : w1.cell? ⟨w.heap.size, 0, none⟩ = some (.int .i64 (m : Int)) := (hg.1.cell (p := ⟨w.heap.size, 0, none⟩) (by show w.heap.size < w.heap.size + 1; omega)).trans (cell_of_one (heap_alloc_new w (.cells #[.int .i64 (m : Int)] /-t-/3)))
  have HF := Lib.hid hfull
  have hch0 : Ch (fun _ => False) w w1 := ((Ch.refl _ w).alloc _ _).trans (Gr.ch (by rw [hs]; exact hg) _)
  clear hfull hg hs
  have c4 : ∀ o, (w1.alloc o).cell? ⟨w.heap.size, 0, none⟩ = some (.int .i64 (m : Int)) := fun o => (World.cell?_of_block (Below.heap_alloc w1 o w.heap.size (by omega))).trans c3
  go_wp2_with fail
  refine (blank_anyF _ _ (by omega) (by omega) (by omega) (by omega) _).mono ?_
  rintro e w2 ⟨rfl, hown, hch⟩
  rw [Int.toNat_natCast, Int.toNat_natCast] at hown
  have hs : (w1.alloc (.cells #[.pointer (some ⟨w.heap.size + 1, 0, none⟩)] /-t-/146)).heap.size = w1.heap.size + 1 := by simp
  rw [hs] at hown ⊢
  rw [Int.toNat_natCast]
  have d1 : fullAt w2 (w.heap.size + 1) := fullAt.ch (World.rowIs.alloc HF.out _) hch (fun f => f)
  have d2 : w2.cell? ⟨w1.heap.size, 0, none⟩ = some (.pointer (some ⟨w.heap.size + 1, 0, none⟩)) := hch.cell (cell_of_one (heap_alloc_new w1 (.cells #[.pointer (some ⟨w.heap.size + 1, 0, none⟩)] /-t-/146))) (fun f => f)
  have d3 : w2.cell? ⟨w.heap.size, 0, none⟩ = some (.int .i64 (m : Int)) := (((Ch.refl (fun _ => False) w1).alloc _ _).trans hch).cell c3 (fun f => f)
  have HT := Lib.hid (cau1_turns (w.heap.size + 1) w1.heap.size w.heap.size n m (w1.heap.size + 1) (fun r => w1.heap.size + 1 + 1 + r) (by omega) (by omega) (by omega) (w1.heap.size + 1) w2 (fun r _ => by omega) (by omega) (by omega) (by omega) d1 d2 d3)
  have HO := Lib.hid hown
  have hchw : Ch (fun _ => False) w w2 := hch0.trans (((Ch.refl _ _).alloc _ _).trans hch)
  clear hown d1 d2 d3 c3 c4 hch hs hch0
  go_wp2_with fail
  refine (turn2_any 136 _ _ _ _ _ _ _ w2 (by omega) enter27 HT.out ⟨HO.out.start _, Ch.refl _ _⟩).mono ?_
  rintro e w3 ⟨rfl, hP, hch2⟩
  go_wp2
  go_ret2
  refine ⟨_, rfl, hP.finish.bld (by omega) (by omega) (by omega) (fun r _ => by omega), Ch.gr ?_⟩
  exact ((hchw.mono fun _ _ f => f.elim).trans hch2).mono fun i hi hS => by omega
end Go.Proofs.YtlbdopcchoklhaaGreat
namespace Go.Proofs.YtlbdopcchoklhaaGreat
open Go.RowKit
set_option linter.unusedVariables false
set_option maxRecDepth 100000

/-- What Mul's function works on: both matrices, the field, and where they are kept, as they stood when the rows were made. -/
structure MulAt (w0 : World) (g pa pb pf n k m : Nat) (va vb : Value) (X Y : Nat → Nat → Nat) : Prop where
  a : MatV w0 va n (fun _ => k) X
  b : MatV w0 vb k (fun _ => m) Y
  f : fullAt w0 g
  ca : w0.cell? ⟨pa, 0, none⟩ = some va
  cb : w0.cell? ⟨pb, 0, none⟩ = some vb
  cf : w0.cell? ⟨pf, 0, none⟩ = some (.pointer (some ⟨g, 0, none⟩))
  k1 : 1 ≤ k
  k2 : k ≤ 64
  m1 : 1 ≤ m
  m2 : m ≤ 4096
  n1 : 1 ≤ n
  n2 : n ≤ 64
def MulRel (br m j : Nat) (i : Nat) (X Y : Nat → Nat → Nat) (w wr : World) : Prop := bRow wr br m (fun c => mulZ j X Y i c) ∧ Ch (fun q => q = br) w wr
theorem MulRel.step {br m j i : Nat} {X Y : Nat → Nat → Nat} {w wr w2 w3 : World} (h : MulRel br m j i X Y w wr) (h1 : Ch (fun q => q = br) wr w2) (hr : bRow w3 br m (fun c => xr (mulZ j X Y i c) (Gf.mul (Y j c) (X i j)))) (h2 : Ch (fun q => q = br) w2 w3) : MulRel br m (j + 1) i X Y w w3 :=
  ⟨World.rowIs.congr hr fun c _ => by show Value.int .u8 (xr (mulZ j X Y i c) (Gf.mul (Y j c) (X i j)) : Int) = _; rw [Gf.mul_comm]; rfl, (h.2.trans h1).trans h2⟩
set_option maxHeartbeats 1600000 in
theorem mul1_any (w0 : World) (g pa pb pf n k m : Nat) (va vb : Value) (X Y : Nat → Nat → Nat) (h : MulAt w0 g pa pb pf n k m va vb X Y) (i br : Nat) (hi : i < n) (hbr : w0.heap.size ≤ br) (w : World) (hch : Ch (fun j => w0.heap.size ≤ j) w0 w) (hrow : bRow w br m (fun _ => 0)) :
    Calls Tryz.prog 126 #[.int .i64 (i : Int), .slice (some ⟨br, 0, none⟩) m m, .pointer (some ⟨pb, 0, none⟩), .pointer (some ⟨pf, 0, none⟩), .pointer (some ⟨pa, 0, none⟩)] w (RowPost br m (fun c => mulZ k X Y i c) w) := by
  obtain ⟨ha, hb, hf, ca, cb, cf, k1, k2, m1, m2, n1, n2⟩ := h
  have h0 : MulRel br m 0 i X Y w w := ⟨hrow, Ch.refl _ _⟩
  obtain ⟨ba, oa, Ca, rfl, _, hra⟩ := ha.some (by omega)
  obtain ⟨bb, ob, Cb, rfl, _, hrb⟩ := hb.some (by omega)
  obtain ⟨Ai, Di, cai, _, hai⟩ := hra i hi
  obtain ⟨bi, oi, rfl, hai2⟩ := hai (by omega)
  clear hai
  have HB := Lib.hid hrb
  have HA := Lib.hid hai2
  have HCH := Lib.hid hch
  have HF := Lib.hid hf
  have CA := Lib.hid ca
  have CB := Lib.hid cb
  have CF := Lib.hid cf
  have CI := Lib.hid cai
  have hcb : w.cell? ⟨pb, 0, none⟩ = some (.slice (some ⟨bb, ob, none⟩) k Cb) := hch.cell cb (by have := World.block_lt_of_cell? _ _ cb; show ¬ w0.heap.size ≤ pb; exact Nat.not_le.2 this)
  clear hra hrb hai2 hch hf ca cb cf cai ha hb hrow
  go_enter Tryz.func126, Tryz.ntmps126
  go_wp2
  clear hcb
  go_loopw [10, 7] (fun t _ wr => ∃ j : Nat, j ≤ k ∧ t = .int .i64 j ∧ MulRel br m j i X Y w wr) (fun t _ _ => k - (intOf t).toNat)
  case atStart => exact ⟨0, Nat.zero_le _, rfl, h0⟩
  case round =>
    obtain ⟨j, hj, rfl, hrel⟩ := hrel
    by_cases hlt : j < k
    · have hc := HCH.out.trans (hrel.2.mono fun q _ e => by rw [e]; exact hbr)
      have keep : ∀ {p : Addr} {v : Value}, w0.cell? p = some v → wr.cell? p = some v := fun {p v} q => hc.cell q (Nat.not_le.2 (World.block_lt_of_cell? _ _ q))
      obtain ⟨Bj, Dj, cbj, lbj, hbj⟩ := HB.out j hlt
      obtain ⟨bj, oj, rfl, hbj2⟩ := hbj (by omega)
      clear hbj
      have e1 := keep CB.out
      have e2 := keep CF.out
      have e3 := keep cbj
      have e4 := keep CA.out
      have e5 := keep CI.out
      have e6 := keep (HA.out j hlt).1
      have hxj := (HA.out j hlt).2
      have i1 : (0 : Int) ≤ (j : Int) := Int.natCast_nonneg _
      have i2 : (j : Int) < (k : Int) := by omega
      have i3 : (0 : Int) ≤ (i : Int) := Int.natCast_nonneg _
      have i4 : (i : Int) < (n : Int) := by omega
      have hnebj : bj ≠ br := by
        have := World.block_lt_of_cell? _ _ (hbj2 0 (by omega)).1
        have : bj < w0.heap.size := this
        omega
      have hneg : g ≠ br := by have := HF.out.row.lt; omega
      have HX := Lib.hid (show ∀ c, c < m → wr.drew.cell? ⟨bj, oj + c, none⟩ = some (.int .u8 (Y j c : Int)) from fun c hcm => hc.drew.cell (hbj2 c hcm).1 (Nat.not_le.2 (World.block_lt_of_cell? _ _ (hbj2 c hcm).1)))
      have HY := Lib.hid (show Bytes m (Y j) from fun c hcm => (hbj2 c hcm).2)
      have HFR := Lib.hid (show fullAt wr.drew g from HF.out.ch hc.drew (Nat.not_le.2 HF.out.row.lt))
      have HRW := Lib.hid (show bRow wr.drew br m (fun c => mulZ j X Y i c) from World.rowIs.drew hrel.1)
      have HNB := Lib.hid hnebj
      have HNG := Lib.hid hneg
      clear keep hbj2 cbj hc hnebj hneg
      go_wp2
      go_still_tail 13, (by kernel_rfl)
      change wpList _ _ _ _ _ wr.drew
      go_wp2_with fail
      refine (addTimes_any g br m bj oj m Dj _ (by omega) (by omega) (fun c => mulZ j X Y i c) (Y j) wr.drew (by omega) (Nat.le_refl _) (by omega) HFR.out HNG.out HNB.out HRW.out (fun c _ => mulZ_lt _ _ _ _ _) HY.out HX.out).mono ?_
      rintro e w2 ⟨rfl, hr2, hc2⟩
      rw [Int.toNat_natCast] at hr2
      have hnext := hrel.step ((Ch.refl _ wr).drew) hr2 hc2
      clear hr2 hc2
      go_wp2
      go_roundw
      case rel => exact ⟨j + 1, by omega, by go_num, hnext⟩
      case measure => simp [intOf]; omega
    · have HE := Lib.hid (show j = k by omega)
      go_wp2
      go_end0
      rw [HE.out] at hrel
      exact ⟨rfl, hrel.1, hrel.2⟩
theorem mul1_turns (w0 w2 : World) (g pa pb pf n k m : Nat) (va vb : Value) (X Y : Nat → Nat → Nat) (h : MulAt w0 g pa pb pf n k m va vb X Y) (t : Nat) (B : Nat → Nat) (hs : ∀ r, r < n → w0.heap.size ≤ B r) (hch : Ch (fun j => w0.heap.size ≤ j) w0 w2) :
    Turns 126 #[.pointer (some ⟨pb, 0, none⟩), .pointer (some ⟨pf, 0, none⟩), .pointer (some ⟨pa, 0, none⟩)] t n m B (fun i W => Own W t n m B (uptoF i zeroZ (mulZ k X Y)) ∧ Ch (fun j => w0.heap.size ≤ j) w2 W) := by
  intro i W hi hP
  refine ⟨hP.1.top.cell hi, ?_⟩
  have hB := hs i hi
  refine (mul1_any w0 g pa pb pf n k m va vb X Y h i (B i) hi hB W (hch.trans hP.2) ((hP.1.row i hi).congr fun c _ => by rw [upto_ge (by omega)]; rfl)).mono ?_
  rintro e w' ⟨rfl, hr, hc⟩
  exact ⟨rfl, hP.1.step hi hc hr (fun c _ => mulZ_lt _ _ _ _ _), hP.2.trans (hc.mono fun j _ e => by rw [e]; exact hB)⟩
theorem MatV.lens {w : World} {v : Value} {n : Nat} {L M : Nat → Nat} {Z : Nat → Nat → Nat} (h : MatV w v n L Z) (e : ∀ r, r < n → L r = M r) : MatV w v n M Z := by
  obtain ⟨A, C, h1, h2, h3⟩ := h
  refine ⟨A, C, h1, h2, fun hl => ?_⟩
  obtain ⟨b, o, hA, hc⟩ := h3 hl
  refine ⟨b, o, hA, fun r hr => ?_⟩
  obtain ⟨x, hx, hv⟩ := hc r hr
  exact ⟨x, hx, by rw [← e r hr]; exact hv⟩
theorem may_quiet (v : Value) (n : Nat) (L : Nat → Nat) (Z : Nat → Nat → Nat) (w : World) (k : Nat) (h : MatV w v n L Z) :
    Calls Tryz.prog 79 #[v] (w.drewN k) fun e w' => e = .returned (.bool (mayBF n L)) ∧ ∃ m, w' = w.drewN m :=
  (may_anyF v n L Z (w.drewN k) (h.drewN k)).mono fun _ _ ⟨he, hw⟩ => ⟨he, k, hw.symm⟩
set_option maxHeartbeats 1600000 in
theorem mul_new (va vb : Value) (n k : Nat) (L M : Nat → Nat) (X Y : Nat → Nat → Nat) (w : World) (ha : MatV w va n L X) (hb : MatV w vb k M Y) (m1 : mayBF n L = true) (m2 : mayBF k M = true) (hk : L 0 = k) :
    Calls Tryz.prog 103 #[va, vb] w (FreshPost n (M 0) (mulZ k X Y) w) := by
  obtain ⟨n1, n2, l1, l2, hL⟩ := mayB_true m1
  obtain ⟨k1, k2, q1, q2, hM⟩ := mayB_true m2
  obtain ⟨ba, oa, Ca, rfl, _, hra⟩ := ha.some (by omega)
  obtain ⟨bb, ob, Cb, rfl, _, hrb⟩ := hb.some (by omega)
  obtain ⟨A0, D0, ca0, _, _⟩ := hra 0 (by omega)
  obtain ⟨B0, E0, cb0, _, _⟩ := hrb 0 (by omega)
  rw [Nat.add_zero, hk] at ca0
  rw [Nat.add_zero] at cb0
  clear hra hrb
  obtain ⟨W, hW⟩ : ∃ W, W = (w.alloc (.cells #[.slice (some ⟨ba, oa, none⟩) n Ca] /-t-/37)).alloc (.cells #[.slice (some ⟨bb, ob, none⟩) k Cb] /-t-/37) := ⟨_, rfl⟩
  have hWc : Ch (fun _ => False) w W := by rw [hW]; exact ((Ch.refl _ _).alloc _ _).alloc _ _
  have hWa := ha.ch hWc (fun _ _ f => f)
  have hWb := hb.ch hWc (fun _ _ f => f)
  have hWs : W.heap.size = w.heap.size + 2 := by rw [hW]; simp
  have c1 : W.cell? ⟨w.heap.size, 0, none⟩ = some (.slice (some ⟨ba, oa, none⟩) n Ca) := by
    rw [hW, World.cell?_of_block (Below.heap_alloc _ _ w.heap.size (by simp))]; exact cell_of_one (heap_alloc_new w _)
  have c2 : W.cell? ⟨w.heap.size + 1, 0, none⟩ = some (.slice (some ⟨bb, ob, none⟩) k Cb) := by
    rw [hW]; exact cell_of_one (by simpa using heap_alloc_new (w.alloc (.cells #[.slice (some ⟨ba, oa, none⟩) n Ca] /-t-/37)) _)
  have c3 := hWc.cell ca0 (fun f => f)
  have c4 := hWc.cell cb0 (fun f => f)
  have b1 : ((k : Int) != (k : Int)) = false := by simp
  have HWS := Lib.hid hWs
  have HWC := Lib.hid hWc
  have HL := Lib.hid hL
  have HM := Lib.hid hM
  have HK := Lib.hid hk
  have i0 : (0 : Int) < (n : Int) := by omega
  have i1 : (0 : Int) < (k : Int) := by omega
  clear hWs hWc hL hM hk ha hb ca0 cb0
  go_enter Tryz.func103, Tryz.ntmps103
  go_wp2
  have HW := Lib.hid hW
  rw [← HW.out]
  clear hW
  go_quiet ((go_at_call 79; exact may_quiet _ _ _ _ _ _ (by assumption)))
  go_wp2_with fail
  refine (new_anyF _).mono ?_
  rintro e w1 ⟨rfl, hfull, hg⟩
  have hsz : (W.drewN nq).heap.size = W.heap.size := rfl
  rw [hsz] at hfull hg ⊢
  have hlt := hfull.lt
  have hch1 : Ch (fun _ => False) W w1 := ((Ch.refl _ W).drewN nq).trans (Gr.ch hg _)
  have d1 := hch1.cell c1 (fun f => f)
  have d2 := hch1.cell c2 (fun f => f)
  have d3 := hch1.cell c3 (fun f => f)
  have d4 := hch1.cell c4 (fun f => f)
  have hws := HWS.out
  have keep : ∀ {p : Addr} {v : Value} (o : Obj), w1.cell? p = some v → (w1.alloc o).cell? p = some v := fun {p v} o q => (World.cell?_of_block (Below.heap_alloc w1 o p.block (World.block_lt_of_cell? _ _ q))).trans q
  have f1 := fun o => keep o d1
  have f2 := fun o => keep o d2
  have f3 := fun o => keep o d3
  have f4 := fun o => keep o d4
  have HF := Lib.hid hfull
  have HC1 := Lib.hid hch1
  have HA := Lib.hid hWa
  have HB := Lib.hid hWb
  clear hfull hch1 hg c1 c2 c3 c4 d1 d2 d3 d4 keep hws hsz hWa hWb
  go_wp2
  obtain ⟨V, hV⟩ : ∃ V, V = w1.alloc (.cells #[.pointer (some ⟨W.heap.size, 0, none⟩)] /-t-/146) := ⟨_, rfl⟩
  have e1 : V.cell? ⟨w.heap.size, 0, none⟩ = some (.slice (some ⟨ba, oa, none⟩) n Ca) := by rw [hV]; exact f1 _
  have e2 : V.cell? ⟨w.heap.size + 1, 0, none⟩ = some (.slice (some ⟨bb, ob, none⟩) k Cb) := by rw [hV]; exact f2 _
  have e4 := show V.cell? ⟨bb, ob, none⟩ = some (.slice B0 (M 0) E0) by rw [hV]; exact f4 _
  have e5 : V.cell? ⟨w1.heap.size, 0, none⟩ = some (.pointer (some ⟨W.heap.size, 0, none⟩)) := by rw [hV]; exact cell_of_one (heap_alloc_new w1 _)
  have hVc : Ch (fun _ => False) w1 V := by rw [hV]; exact (Ch.refl _ _).alloc _ _
  have hVs : V.heap.size = w1.heap.size + 1 := by rw [hV]; simp
  have HVC := Lib.hid hVc
  have HVS := Lib.hid hVs
  rw [← hV]
  clear hVc hVs hV f1 f2 f3 f4
  have kpos : 0 < k := by omega
  go_still_tail 6, (by kernel_rfl)
  change wpList _ _ _ _ _ V.drew
  go_wp2_with fail
  refine (blank_anyF _ _ (by omega) (by omega) (by omega) (by omega) V.drew).mono ?_
  rintro e w2 ⟨rfl, hown, hch⟩
  have hsz : V.drew.heap.size = V.heap.size := rfl
  rw [hsz, Int.toNat_natCast, Int.toNat_natCast] at hown
  rw [hsz, Int.toNat_natCast]
  have hch2 : Ch (fun _ => False) V w2 := ((Ch.refl _ V).drew).trans hch
  have hWV : Ch (fun _ => False) W V := HC1.out.trans HVC.out
  have hat : MulAt V W.heap.size w.heap.size (w.heap.size + 1) w1.heap.size n k (M 0) (.slice (some ⟨ba, oa, none⟩) n Ca) (.slice (some ⟨bb, ob, none⟩) k Cb) X Y :=
    ⟨(HA.out.ch hWV (fun _ _ f => f)).lens (fun r hr => by rw [HL.out r hr, HK.out]), (HB.out.ch hWV (fun _ _ f => f)).lens (fun r hr => HM.out r hr), fullAt.ch HF.out HVC.out (fun f => f), e1, e2, e5, k1, k2, q1, q2, n1, n2⟩
  have hT := mul1_turns V w2 _ _ _ _ _ _ _ _ _ X Y hat V.heap.size (fun r => V.heap.size + 1 + r) (fun r _ => by omega) (hch2.mono fun _ _ f => f.elim)
  have HT := Lib.hid hT
  have HO := Lib.hid hown
  have hvs := HVS.out
  have hws := HWS.out
  have hchw : Ch (fun _ => False) w w2 := (HWC.out.trans hWV).trans hch2
  have hsz2 : w.heap.size ≤ V.heap.size := by omega
  clear hown hat hT hch hch2 hWV hvs hws hsz e1 e2 e4 e5
  go_wp2_with fail
  refine (turn3_any 126 _ _ _ _ _ _ _ _ w2 (by omega) enter32 HT.out ⟨HO.out.start _, Ch.refl _ _⟩).mono ?_
  rintro e w3 ⟨rfl, hP, hch2⟩
  go_wp2
  go_ret2
  refine ⟨_, rfl, hP.finish.bld (by omega) (by omega) hsz2 (fun r _ => by omega), Ch.gr ?_⟩
  exact ((hchw.mono fun _ _ f => f.elim).trans hch2).mono fun i hi hS => by omega
end Go.Proofs.YtlbdopcchoklhaaGreat
