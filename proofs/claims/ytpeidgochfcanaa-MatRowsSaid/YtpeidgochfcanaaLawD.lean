/-
  MatRows, walked.
-/
import Derived.Test.YtpeidgochfcanaaLawC
import Derived.Test.YtpeidgochfcanaaCauB
namespace Go.Proofs.Ytpeidgochfcanaa
open Go.RowKit
set_option linter.unusedVariables false

/-! ### a list of ints, to be read -/
def ListV (w : World) (v : Value) (n : Nat) (z : Nat → Int) : Prop :=
  ∃ (A : Option Addr) (C : Nat), v = .slice A n C ∧ n ≤ 140737488351232 ∧ (0 < n → ∃ b o, A = some ⟨b, o, none⟩ ∧ ∀ c, c < n → w.cell? ⟨b, o + c, none⟩ = some (.int .i64 (z c)) ∧ -9223372036854775808 ≤ z c ∧ z c ≤ 9223372036854775807)

/-! ### a matrix, as the values of its rows -/
theorem mat_vals {w : World} {b o n C : Nat} {L : Nat → Nat} {Z : Nat → Nat → Nat} (h : MatV w (.slice (some ⟨b, o, none⟩) n C) n L Z) (hL : ∀ r, r < n → 0 < L r) :
    ∃ F : Nat → Value, ∀ r, r < n → w.cell? ⟨b, o + r, none⟩ = some (F r) ∧ RowV w (F r) (L r) (Z r) ∧ (F r).oneCell' = true ∧ ∀ q, (F r).ownBlock = some q → q < w.heap.size := by
  refine ⟨fun r => (w.cell? ⟨b, o + r, none⟩).getD (.bool false), fun r hr => ?_⟩
  obtain ⟨A, C', e, _, h3⟩ := h
  injection e with e1 e2 e3
  subst e1
  obtain ⟨b', o', e4, h4⟩ := h3 (by omega)
  injection e4 with e5
  injection e5 with e6 e7
  subst e6
  subst e7
  obtain ⟨x, hx, hv⟩ := h4 r hr
  have ex : (w.cell? ⟨b, o + r, none⟩).getD (.bool false) = x := by rw [hx]; rfl
  show w.cell? ⟨b, o + r, none⟩ = some ((w.cell? ⟨b, o + r, none⟩).getD (.bool false)) ∧ RowV w ((w.cell? ⟨b, o + r, none⟩).getD (.bool false)) (L r) (Z r) ∧ ((w.cell? ⟨b, o + r, none⟩).getD (.bool false)).oneCell' = true ∧ ∀ q, ((w.cell? ⟨b, o + r, none⟩).getD (.bool false)).ownBlock = some q → q < w.heap.size
  rw [ex]
  refine ⟨hx, hv, ?_, fun q hq => ?_⟩
  · obtain ⟨A, C, rfl, _⟩ := hv; rfl
  · obtain ⟨A, C, rfl, _, hc⟩ := hv
    obtain ⟨b2, o2, rfl, hc2⟩ := hc (hL r hr)
    have e : b2 = q := by simpa [Value.ownBlock] using hq
    rw [← e]
    exact World.block_lt_of_cell? _ _ (hc2 0 (hL r hr)).1
def valsL (n : Nat) (F : Nat → Value) : List Value := (List.range n).map F
theorem valsL_get {n j : Nat} {F : Nat → Value} (h : j < n) : (valsL n F)[j]? = some (F j) := by unfold valsL; simp [h]
/-- append of a matrix' rows to a list of rows. -/
theorem app_rows {base k m b o C : Nat} {w : World} {v : Value} {xs : List Value} {G : Nat → Value} (ho : w.ownsRow base /-t-/24 1 v k xs) (hb : base ≤ w.heap.size) (hk : k + m ≤ 65536)
    (hG : ∀ r, r < m → w.cell? ⟨b, o + r, none⟩ = some (G r) ∧ (G r).oneCell' = true) :
    ∃ v' w', (Builtin.append_ #[ /-t-/22, /-t-/22] /-t-/22 #[v, .slice (some ⟨b, o, none⟩) m C]).run Try.prog w = .ok v' w' ∧ w'.ownsRow base /-t-/24 1 v' (k + m) (xs ++ valsL m G) ∧ w.grownBy w' v.ownBlock := by
  obtain ⟨i0, hi, hz0, hz1, hz2⟩ := info_parts Try.info24
  obtain ⟨v', w', hr, h2, h3, _, _⟩ := run_append_own_at (P := Try.prog) w base /-t-/22 /-t-/22 /-t-/24 i0 (.slice none 0 0) 1 24 Try.underlying22 hi hz0 hz1 hz2 rfl (by decide) v k xs ho ⟨b, o, none⟩ m C (valsL m G) (by unfold valsL; simp)
    (fun j u hu => by
      by_cases q : j < m
      · rw [valsL_get q] at hu
        injection hu with hu
        rw [add_pl, ← hu]
        exact (hG j q).1
      · unfold valsL at hu
        rw [List.getElem?_eq_none (by simp; omega)] at hu
        cases hu)
    (fun u hu => by unfold valsL at hu; obtain ⟨c, hc, rfl⟩ := List.mem_map.1 hu; exact (hG c (List.mem_range.1 hc)).2) (by unfold maxLen; omega) (by omega) hb
  exact ⟨v', w', hr, h2, h3⟩
theorem wpList_rows_of {ops : Array Oper} {rest : List Oper} {o : Oper} {a : Act} {Q : Exit → Act → World → Prop} (w : World) (hgd : o.guard = none) (s x : Operand)
    (ho : o.op = .call { callee := .builtin .append, args := #[s, x], argTypes := #[ /-t-/22, /-t-/22] }) (hty : o.type = /-t-/22) (sv xv v' : Value) (w' : World) (hs : a.eval s = sv) (hx : a.eval x = xv)
    (hrun : (Builtin.append_ #[ /-t-/22, /-t-/22] /-t-/22 #[sv, xv]).run Try.prog w = .ok v' w') (h : wpList Try.prog ops Q rest (a.put o.dst v') w') : wpList Try.prog ops Q (o :: rest) a w := by
  refine wpList_plain hgd fun _ hK => ?_
  unfold Oper.wp execOp
  simp only [ho, hty, resolve, invoke, builtin, Sem.run_bind, Sem.run_pure, Result.andThen_ok, List.map_toArray, List.map_cons, List.map_nil, hs, hx, hrun]
  exact hK _ _ h
theorem Try.info4 : (Try.prog.info? 4).map (fun i => (i.zero, i.size, i.bytes)) = some (some (.bool false), 1, 1) := by kernel_rfl

/-! ### which rows were taken -/
def usedB (wh : Nat → Nat) (i j : Nat) : Bool := (List.range i).any fun r => wh r == j
theorem usedB_zero (wh : Nat → Nat) (j : Nat) : usedB wh 0 j = false := rfl
theorem usedB_succ (wh : Nat → Nat) (i j : Nat) : usedB wh (i + 1) j = (usedB wh i j || wh i == j) := by unfold usedB; rw [List.range_succ, List.any_append]; simp
theorem usedB_false {wh : Nat → Nat} {i j : Nat} (h : usedB wh i j = false) : ∀ r, r < i → wh r ≠ j := fun r hr e => by
  unfold usedB at h
  have := List.any_eq_false.1 h r (List.mem_range.2 hr)
  simp [e] at this
/-- The values that the list holds so far, by which rows they are. -/
def picked (F : Nat → Value) (wh : Nat → Nat) (i : Nat) : List Value := valsL i (fun r => F (wh r))
theorem picked_snoc (F : Nat → Value) (wh : Nat → Nat) (i : Nat) : picked F wh (i + 1) = picked F wh i ++ [F (wh i)] := by unfold picked valsL; rw [List.range_succ, List.map_append]; rfl
structure PickRel (wu : World) (base bu N : Nat) (F : Nat → Value) (wh : Nat → Nat) (i : Nat) (v : Value) (wr : World) : Prop where
  own : wr.ownsRow base /-t-/24 1 v i (picked F wh i)
  used : wr.rowIs bu /-t-/4 N (fun j => .bool (usedB wh i j))
  ch : Ch (fun j => j = bu) wu wr
  lt : ∀ r, r < i → wh r < N
  inj : ∀ r s, r < i → s < i → wh r = wh s → r = s
theorem ownsRow_other {w : World} {base : Nat} {e : TypeId} {v : Value} {n : Nat} {xs : List Value} (h : w.ownsRow base e 1 v n xs) {p : Addr} (hp : p.block < base) (u : Value) : (w.setCell p u).ownsRow base e 1 v n xs := by
  refine ⟨h.1, ?_⟩
  rcases h.2 with hn | ⟨g, cap, cur, rfl, hb, hgg, rest⟩
  · exact Or.inl hn
  · exact Or.inr ⟨g, cap, cur, rfl, hb, (Below.heap_setCell w p u g (by omega)).trans hgg, rest⟩
theorem PickRel.more {wu : World} {base bu N : Nat} {F : Nat → Value} {wh : Nat → Nat} {i : Nat} {v : Value} {wr w' : World} {g cap : Nat} (h : PickRel wu base bu N F wh i v wr) (hbu : bu < base) (hub : wu.heap.size ≤ base) (hw : wh i < N) (hu : usedB wh i (wh i) = false) (c : Array Value) (t : TypeId)
    (h1 : w'.ownsRow base /-t-/24 1 (.slice (some ⟨g, 0, none⟩) (i + 1) cap) (i + 1) (picked F wh i ++ [F (wh i)]))
    (h2 : ((wr.setCell ⟨bu, wh i, none⟩ (.bool true)).alloc (.cells c t)).grownBy w' v.ownBlock) : PickRel wu base bu N F wh (i + 1) (.slice (some ⟨g, 0, none⟩) (i + 1) cap) w' := by
  have hlt := h.used.lt
  have hvb : some bu ≠ v.ownBlock := fun e => by
    have := (World.ownsRow.lt h.own bu e.symm).1
    omega
  refine ⟨by rw [picked_snoc]; exact h1, ?_, ?_, fun r hr => ?_, fun r s hr hs e => ?_⟩
  · have e := h2.block bu (by simp [World.setCell]; omega) hvb
    refine (((h.used.set (wh i) (.bool true)).alloc (.cells c t)).of_block e).congr fun j _ => ?_
    rw [usedB_succ]
    by_cases q : j = wh i
    · rw [if_pos q, q]; simp
    · rw [if_neg q]
      have : (wh i == j) = false := by rw [beq_eq_false_iff_ne]; exact fun e => q e.symm
      rw [this, Bool.or_false]
  · exact ((h.ch.setCell (p := ⟨bu, wh i, none⟩) (Or.inl rfl) _).alloc c t).grown h2 (fun q hq => Or.inr (Nat.le_trans hub (World.ownsRow.lt h.own q hq).1))
  · by_cases q : r = i
    · rw [q]; exact hw
    · exact h.lt r (by omega)
  · have hno := usedB_false hu
    by_cases q : r = i
    · by_cases q2 : s = i
      · omega
      · exact absurd (by rw [← e, q]) (hno s (by omega))
    · by_cases q2 : s = i
      · exact absurd (by rw [e, q2]) (hno r (by omega))
      · exact h.inj r s (by omega) (by omega) e
/-- What was picked is a matrix. -/
theorem PickRel.mat {wa wu : World} {base bu N cols : Nat} {F : Nat → Value} {wh : Nat → Nat} {i : Nat} {v : Value} {wr : World} {Z : Nat → Nat → Nat} (h : PickRel wu base bu N F wh i v wr) (hwa : Ch (fun _ => False) wa wu) (hbu : wa.heap.size ≤ bu) (hi : i ≤ 140737488351232)
    (hF : ∀ r, r < N → RowV wa (F r) cols (Z r)) : MatV wr v i (fun _ => cols) (fun r c => Z (wh r) c) := by
  have hch : Ch (fun j => j = bu) wa wr := (hwa.mono fun _ _ f => f.elim).trans h.ch
  have hrow : ∀ r, r < i → RowV wr (F (wh r)) cols (Z (wh r)) := fun r hr => (hF _ (h.lt r hr)).ch hch (fun q hq e => by omega)
  rcases h.own.2 with ⟨rfl, h0⟩ | ⟨g, cap, cur, rfl, hb, hgg, hcap, hm, hs, ht⟩
  · subst h0; exact ⟨none, 0, rfl, by omega, fun h => absurd h (Nat.lt_irrefl 0)⟩
  · refine ⟨_, _, rfl, ⟨hi, hcap⟩, fun _ => ⟨g, 0, rfl, fun r hr => ⟨F (wh r), ?_, hrow r hr⟩⟩⟩
    have := World.ownsRow.cells h.own (g := g) rfl r (F (wh r)) (by unfold picked; exact valsL_get hr)
    rwa [add_pl] at this

set_option maxHeartbeats 1600000 in
set_option maxRecDepth 100000 in
theorem matRows_short (c m : Int) (A : Option Addr) (n C : Nat) (w : World) (hn : n ≤ 140737488351232) (h : ¬ (1 ≤ c ∧ c ≤ 12 ∧ 1 ≤ m ∧ m ≤ 12 ∧ c ≤ (n : Int))) : Calls Try.prog 6 #[.int .i64 c, .int .i64 m, .slice A n C] w (Told w) := by
  by_cases h1 : 1 ≤ c
  case neg =>
    have t1 : decide (c < 1) = true := by simp; omega
    go_enter Try.func6, Try.ntmps6
    go_wp2_with fail
    refine (awake_any _).mono ?_
    rintro e w1 ⟨rfl, hch1⟩
    go_wp2
    go_ret
    exact ⟨rfl, hch1⟩
  have t1 : decide (c < 1) = false := by simp; omega
  by_cases h2 : c ≤ 12
  case neg =>
    have t2 : decide (12 < c) = true := by simp; omega
    go_enter Try.func6, Try.ntmps6
    go_wp2_with fail
    refine (awake_any _).mono ?_
    rintro e w1 ⟨rfl, hch1⟩
    go_wp2
    go_ret
    exact ⟨rfl, hch1⟩
  have t2 : decide (12 < c) = false := by simp; omega
  by_cases h3 : 1 ≤ m
  case neg =>
    have t3 : decide (m < 1) = true := by simp; omega
    go_enter Try.func6, Try.ntmps6
    go_wp2_with fail
    refine (awake_any _).mono ?_
    rintro e w1 ⟨rfl, hch1⟩
    go_wp2
    go_ret
    exact ⟨rfl, hch1⟩
  have t3 : decide (m < 1) = false := by simp; omega
  by_cases h4 : m ≤ 12
  case neg =>
    have t4 : decide (12 < m) = true := by simp; omega
    go_enter Try.func6, Try.ntmps6
    go_wp2_with fail
    refine (awake_any _).mono ?_
    rintro e w1 ⟨rfl, hch1⟩
    go_wp2
    go_ret
    exact ⟨rfl, hch1⟩
  have t4 : decide (12 < m) = false := by simp; omega
  have t5 : decide ((n : Int) < c) = true := by simp; omega
  go_enter Try.func6, Try.ntmps6
  go_wp2_with fail
  refine (awake_any _).mono ?_
  rintro e w1 ⟨rfl, hch1⟩
  go_wp2
  go_ret
  exact ⟨rfl, hch1⟩

theorem all_vals {w : World} {c m : Nat} {F G : Nat → Value} (hF : ∀ r, r < c → RowV w (F r) c (oneZ r)) (hG : ∀ r, r < m → RowV w (G r) c (cauZ c r)) (r : Nat) (hr : r < c + m) : RowV w (if r < c then F r else G (r - c)) c (allZ c r) := by
  by_cases q : r < c
  · rw [if_pos q]; exact (hF r q).congr fun k _ => by unfold allZ; rw [if_pos q]
  · rw [if_neg q]; exact (hG (r - c) (by omega)).congr fun k _ => by unfold allZ; rw [if_neg q]
theorem vals_join (c m : Nat) (F G : Nat → Value) : valsL c F ++ valsL m G = valsL (c + m) (fun r => if r < c then F r else G (r - c)) := by
  refine List.ext_getElem? fun j => ?_
  have hl : (valsL c F).length = c := by unfold valsL; simp
  by_cases q : j < c
  · rw [List.getElem?_append_left (by omega), valsL_get q, valsL_get (by omega), if_pos q]
  · rw [List.getElem?_append_right (by omega), hl]
    by_cases q2 : j < c + m
    · rw [valsL_get (by omega), valsL_get q2, if_neg q]
    · rw [List.getElem?_eq_none (by unfold valsL; simp; omega), List.getElem?_eq_none (by unfold valsL; simp; omega)]
set_option maxHeartbeats 3200000 in
set_option maxRecDepth 100000 in
theorem matRows_main (c m n b o C : Nat) (z : Nat → Int) (w : World) (c1 : 1 ≤ c) (c2 : c ≤ 12) (m1 : 1 ≤ m) (m2 : m ≤ 12) (hcn : c ≤ n) (hn : n ≤ 140737488351232)
    (hz : ∀ i, i < n → w.cell? ⟨b, o + i, none⟩ = some (.int .i64 (z i)) ∧ -9223372036854775808 ≤ z i ∧ z i ≤ 9223372036854775807) : Calls Try.prog 6 #[.int .i64 (c : Int), .int .i64 (m : Int), .slice (some ⟨b, o, none⟩) n C] w (Told w) := by
  have t1 : decide ((c : Int) < 1) = false := by simp; omega
  have t2 : decide ((12 : Int) < (c : Int)) = false := by simp; omega
  have t3 : decide ((m : Int) < 1) = false := by simp; omega
  have t4 : decide ((12 : Int) < (m : Int)) = false := by simp; omega
  have t5 : decide (n < c) = false := by simp; omega
  have t6 : ((c : Int) + (m : Int) != (c : Int) + (m : Int)) = false := by simp
  have HZ := Lib.hid hz
  obtain ⟨i0, hi, hz0, hz1, hz2⟩ := info_parts Try.info24
  have hmk := run_make_row' (P := Try.prog) /-t-/37 /-t-/4 (.bool false) 1 Try.underlying37 Try.info4 rfl .i64 .i64 (c + m) (by omega) (by omega)
  rw [Int.natCast_add] at hmk
  clear hz
  go_enter Try.func6, Try.ntmps6
  go_wp2_with fail
  refine (awake_any _).mono ?_
  rintro e w1 ⟨rfl, hch1⟩
  have HC1 := Lib.hid hch1
  clear hch1
  go_wp2_with fail
  refine (one_yes _ (by omega) (by omega) _).mono ?_
  rintro e w2 ⟨v2, rfl, hM2, hch2⟩
  rw [Int.toNat_natCast] at hM2
  obtain ⟨b2, o2, C2, rfl, _, _⟩ := hM2.some (by omega)
  have HM2 := Lib.hid hM2
  have HC2 := Lib.hid hch2
  clear hM2 hch2
  go_wp2_with fail
  refine (cauchy_yes _ _ (by omega) (by omega) (by omega) (by omega) _).mono ?_
  rintro e w3 ⟨v3, rfl, hM3, hch3⟩
  rw [Int.toNat_natCast, Int.toNat_natCast] at hM3
  obtain ⟨b3, o3, C3, rfl, _, _⟩ := hM3.some (by omega)
  obtain ⟨F, hF⟩ := mat_vals (HM2.out.gr hch3) (fun _ _ => by omega)
  obtain ⟨G, hG⟩ := mat_vals hM3 (fun _ _ => by omega)
  obtain ⟨v4, w4, hrun4, own4, gr4⟩ := app_rows (C := C2) (World.ownsRow_nil w3 w3.heap.size /-t-/24 1) (Nat.le_refl _) (by omega) (fun r hr => ⟨(hF r hr).1, (hF r hr).2.2.1⟩)
  rw [Nat.zero_add, List.nil_append] at own4
  have hc4 : Ch (fun _ => False) w3 w4 := (Ch.refl _ w3).grown gr4 (fun i hi => by cases hi)
  obtain ⟨v5, w5, hrun5, own5, gr5⟩ := app_rows (C := C3) own4 hc4.size (by omega) (fun r hr => ⟨hc4.cell (hG r hr).1 (fun f => f), (hG r hr).2.2.1⟩)
  have hc5 : Ch (fun _ => False) w3 w5 := hc4.grown gr5 (fun i hi => Or.inr (World.ownsRow.lt own4 i hi).1)
  rw [vals_join] at own5
  obtain ⟨g5, cap5, rfl, hg5, hg5'⟩ := World.ownsRow.form own5 (by omega)
  obtain ⟨K, hK⟩ : ∃ K : Nat → Value, K = fun r => if r < c then F r else G (r - c) := ⟨_, rfl⟩
  rw [← hK] at own5
  have hKrow : ∀ r, r < c + m → RowV w5 (K r) c (allZ c r) := fun r hr => by
    rw [hK]
    exact all_vals (fun r hr => (hF r hr).2.1.ch hc5 (fun _ _ f => f)) (fun r hr => (hG r hr).2.1.ch hc5 (fun _ _ f => f)) r hr
  have hKcell : ∀ r, r < c + m → w5.cell? ⟨g5, r, none⟩ = some (K r) := fun r hr => by
    have := World.ownsRow.cells own5 (g := g5) rfl r (K r) (valsL_get hr)
    rw [add_pl, Nat.zero_add] at this
    exact this
  have hKone : ∀ r, r < c + m → ∃ A C, K r = .slice A c C := fun r hr => by
    obtain ⟨A, C, e, _⟩ := hKrow r hr
    exact ⟨A, C, e⟩
  obtain ⟨wu, hwu⟩ : ∃ wu, wu = w5.alloc (.cells (madeCells #[Value.bool false] (c + m)) /-t-/4) := ⟨_, rfl⟩
  have hcu : Ch (fun _ => False) w5 wu := by rw [hwu]; exact (Ch.refl _ _).alloc _ _
  have hsu : wu.heap.size = w5.heap.size + 1 := by rw [hwu]; simp
  have h0 : PickRel wu (w5.heap.size + 1) w5.heap.size (c + m) K (fun r => (z r).toNat) 0 (.slice none 0 0) wu :=
    ⟨World.ownsRow_nil _ _ _ _, by rw [hwu]; exact (World.rowIs_made w5 (.bool false) (c + m) /-t-/4).congr fun j _ => by rw [usedB_zero], Ch.refl _ _, fun r hr => absurd hr (Nat.not_lt_zero r), fun r s hr => absurd hr (Nat.not_lt_zero r)⟩
  have H0 := Lib.hid h0
  have HKR := Lib.hid hKrow
  have HKC := Lib.hid hKcell
  have HKO := Lib.hid hKone
  have HCU := Lib.hid hcu
  have HSU := Lib.hid hsu
  have HWU := Lib.hid hwu
  have HCW := Lib.hid (((HC1.out.trans HC2.out).trans hch3).trans hc5)
  have HR4 := Lib.hid hrun4
  have HR5 := Lib.hid hrun5
  obtain ⟨g4, cap4, rfl, _, _⟩ := World.ownsRow.form own4 (by omega)
  clear hM3 hch3 hF hG hrun4 own4 gr4 hc4 hrun5 own5 gr5 hc5 hK hKrow hKcell hKone hcu hsu hwu h0 HC1 HC2 HM2
  go_wp2_with (first | (at_builtin; refine wpList_rows_of _ rfl (.const (.slice none 0 0)) (.tmp 61) rfl rfl (.slice none 0 0) (.slice (some ⟨b2, o2, none⟩) c C2) (.slice (some ⟨g4, 0, none⟩) c cap4) w4 rfl rfl HR4.out ?_) | (at_builtin; refine wpList_rows_of _ rfl (.tmp 62) (.tmp 63) rfl rfl (.slice (some ⟨g4, 0, none⟩) c cap4) (.slice (some ⟨b3, o3, none⟩) m C3) (.slice (some ⟨g5, 0, none⟩) (c + m) cap5) w5 rfl rfl HR5.out ?_))
  rw [← HWU.out]
  clear hmk t1 t2 t3 t4 t5 t6 HR4 HR5 HWU
  go_loopw [13, 15, 16] (fun v t _ wr => ∃ i : Nat, i ≤ c ∧ t = .int .i64 i ∧ Hid (PickRel wu (w5.heap.size + 1) w5.heap.size (c + m) K (fun r => (z r).toNat) i v wr)) (fun _ t _ _ => c - (intOf t).toNat)
  case atStart => exact ⟨0, Nat.zero_le _, rfl, H0⟩
  case round =>
    obtain ⟨i, hic, rfl, HP⟩ := hrel
    have hsz := HCW.out.size
    have hfin := Lib.hid (show Ch (fun _ => False) w wr from (((HCW.out.mono fun _ _ f => f.elim).trans (HCU.out.mono fun _ _ f => f.elim)).trans HP.out.ch).mono fun q hq e => by omega)
    by_cases hlt : i < c
    · obtain ⟨hzc, hzl, hzu⟩ := HZ.out i (by omega)
      have cz : wr.cell? ⟨b, o + i, none⟩ = some (.int .i64 (z i)) := hfin.out.cell hzc (fun f => f)
      clear hzc
      by_cases h7 : z i < 0
      · have t7 : decide (z i < 0) = true := by simp; omega
        go_wp2
        go_ret
        exact ⟨rfl, hfin.out⟩
      · have t7 : decide (z i < 0) = false := by simp; omega
        by_cases h8 : (c : Int) + (m : Int) ≤ z i
        · have t8 : decide ((c : Int) + (m : Int) ≤ z i) = true := by simp; omega
          go_wp2
          go_ret
          exact ⟨rfl, hfin.out⟩
        · have t8 : decide ((c : Int) + (m : Int) ≤ z i) = false := by simp; omega
          have hj : (z i).toNat < c + m := by omega
          have cu := HP.out.used.cell hj
          have fu := HP.out.used.frozen (z i).toNat
          have j1 : 0 ≤ z i := by omega
          have j2 : z i < (c : Int) + (m : Int) := by omega
          have j3 : z i < ((c + m : Nat) : Int) := by omega
          cases hu : usedB (fun r => (z r).toNat) i (z i).toNat with
          | true =>
            rw [hu] at cu
            go_wp2
            go_ret
            exact ⟨rfl, hfin.out⟩
          | false =>
            rw [hu] at cu
            have HU := Lib.hid hu
            clear hu
            obtain ⟨Ak, Ck, hkv⟩ := HKO.out (z i).toNat hj
            have hs1 : (wr.setCell ⟨w5.heap.size, (z i).toNat, none⟩ (.bool true)).heap.size = wr.heap.size := by simp [World.setCell]
            have ck : (wr.setCell ⟨w5.heap.size, (z i).toNat, none⟩ (.bool true)).cell? ⟨g5, (z i).toNat, none⟩ = some (.slice Ak c Ck) := by
              rw [World.cell?_setCell_other _ _ _ _ (fun e => by have := congrArg Addr.block e; simp at this; omega), ← hkv]
              exact HP.out.ch.cell (HCU.out.cell (HKC.out _ hj) (fun f => f)) (show ¬ g5 = w5.heap.size by omega)
            have hown := ownsRow_other HP.out.own (p := ⟨w5.heap.size, (z i).toNat, none⟩) (show w5.heap.size < w5.heap.size + 1 by omega) (.bool true)
            have hbs : w5.heap.size + 1 ≤ (wr.setCell ⟨w5.heap.size, (z i).toNat, none⟩ (.bool true)).heap.size := by rw [hs1]; have := HP.out.ch.size; have := HSU.out; omega
            have hap := app_mk (x := .slice Ak c Ck) hown hbs rfl (by omega)
            have HN := Lib.hid (show ∀ j u, [Value.slice Ak c Ck][j]? = some u → ((wr.setCell ⟨w5.heap.size, (z i).toNat, none⟩ (.bool true)).alloc (.cells #[.slice Ak c Ck] /-t-/24)).cell? ((⟨wr.heap.size, 0, none⟩ : Addr).add j) = some u by have := hap.n; rw [hs1] at this; exact this)
            have HS := Lib.hid (show ((wr.setCell ⟨w5.heap.size, (z i).toNat, none⟩ (.bool true)).alloc (.cells #[.slice Ak c Ck] /-t-/24)).heap.size = wr.heap.size + 1 by have := hap.s; rw [hs1] at this; exact this)
            have HAP := Lib.hid hap
            have HKV := Lib.hid hkv
            have HM2 := Lib.hid (show (i + 1) * 24 ≤ 140737488355328 by omega)
            clear hkv hs1 hown hbs hap
            go_wp2_with (at_builtin; refine wpList_append_lies _ rfl (.tmp 110) (.tmp 115) /-t-/22 rfl (w5.heap.size + 1) /-t-/24 i0 (.slice none 0 0) 1 24 Try.underlying22 hi hz0 hz1 hz2 rfl (by decide) u13 i (picked K (fun r => (z r).toNat) i) rfl HAP.out.o ⟨wr.heap.size, 0, none⟩ 1 1 [.slice Ak c Ck] rfl rfl HN.out HAP.out.c (by decide) HAP.out.m HM2.out HAP.out.b (wr.heap.size + 1) HS.out ?_; intro g cap w7 h1 h2 h3 h4)
            have hnext := HP.out.more (by omega) (by have := HSU.out; omega) hj HU.out _ _ (by rw [HKV.out]; exact h1) h2
            have HNX := Lib.hid hnext
            clear h1 h2 h3 h4 hnext
            go_wp2
            go_roundw
            case rel => exact ⟨i + 1, by omega, by go_num, HNX⟩
            case measure => simp [intOf]; omega
    · have HE := Lib.hid (show i = c by omega)
      have hP := HP.out
      rw [HE.out] at hP
      have hM := hP.mat (Z := allZ c) HCU.out (Nat.le_refl _) (by omega) HKR.out
      have hsure : Sure c (fun r q => allZ c ((z r).toNat) q) := fun x hx hxz => rows_sure (cols := c) (more := m) (fun r => (z r).toNat) (by omega) hP.lt hP.inj x hx hxz
      have hMb : AllB (fun r q => allZ c ((z r).toNat) q) := fun r q => allZ_b c _ _
      obtain ⟨Am, Cm, rfl, hm1⟩ := id hM
      have HM := Lib.hid hM
      have HSU2 := Lib.hid hsure
      have HMB := Lib.hid hMb
      have MC := Lib.hid (may_const c1 (by omega : c ≤ 64) c1 (by omega : c ≤ 4096))
      clear hP hM hsure hMb hm1
      go_wp2_with fail
      refine (inv_ans _ c (fun _ => c) _ HMB.out _ HM.out MC.out rfl).mono ?_
      rintro e w7 ⟨A7, l7, C7, k7, rfl, hch7, (⟨V, rfl, hboth, hV⟩ | ⟨rfl, hns, _⟩)⟩
      · obtain ⟨_, _, e7, hh⟩ := id hV
        have hl7 : l7 = c := by injection e7
        have HV := Lib.hid hV
        have HBO := Lib.hid hboth
        have HC7 := Lib.hid hch7
        clear hV hboth hch7 e7 hh
        rw [hl7] at HV ⊢
        clear hl7
        go_wp2_with fail
        refine (mul_yes _ _ c c (fun _ => c) (fun _ => c) _ V _ (HM.out.gr HC7.out) HV.out MC.out MC.out rfl).mono ?_
        rintro e w8 ⟨v8, rfl, hM8, hch8⟩
        obtain ⟨A8, C8, rfl, hw1⟩ := id hM8
        have HM8 := Lib.hid (hM8.congr (Y := oneZ) fun r q hr hq => HBO.out.2.2 r q hr hq)
        have HC8 := Lib.hid hch8
        clear hM8 hch8 hw1
        go_wp2_with fail
        refine (rone_yes _ (by omega) (by omega) _).mono ?_
        rintro e w9 ⟨v9, rfl, hM9, hch9⟩
        rw [Int.toNat_natCast] at hM9
        obtain ⟨A9, C9, rfl, hw1⟩ := id hM9
        have HM9 := Lib.hid hM9
        have HC9 := Lib.hid hch9
        clear hM9 hch9 hw1
        go_wp2_with fail
        refine (same_any _ _ c (fun _ => c) oneZ _ (HM8.out.gr HC9.out) HM9.out).mono ?_
        rintro e w10 ⟨rfl, d10, rfl⟩
        go_wp2
        go_ret
        exact ⟨rfl, (((hfin.out.trans HC7.out).trans HC8.out).trans HC9.out).drewN _⟩
      · exact (hns HSU2.out).elim
theorem matRows_of (c m : Int) (vw : Value) (w : World) {n : Nat} {z : Nat → Int} (hc : -9223372036854775808 ≤ c ∧ c ≤ 9223372036854775807) (hm : -9223372036854775808 ≤ m ∧ m ≤ 9223372036854775807) (hl : ListV w vw n z) : Calls Try.prog 6 #[.int .i64 c, .int .i64 m, vw] w (Told w) := by
  obtain ⟨A, C, rfl, hn, h3⟩ := hl
  by_cases h : 1 ≤ c ∧ c ≤ 12 ∧ 1 ≤ m ∧ m ≤ 12 ∧ c ≤ (n : Int)
  · obtain ⟨c, rfl⟩ := Int.eq_ofNat_of_zero_le (show 0 ≤ c by omega)
    obtain ⟨m, rfl⟩ := Int.eq_ofNat_of_zero_le (show 0 ≤ m by omega)
    obtain ⟨b, o, rfl, h4⟩ := h3 (by omega)
    exact matRows_main c m n b o C z w (by omega) (by omega) (by omega) (by omega) (by omega) hn h4
  · exact matRows_short c m A n C w hn h
#print axioms matRows_of
end Go.Proofs.Ytpeidgochfcanaa
