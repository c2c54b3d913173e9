/-
  Shares, in plain numbers: which ones are left; the data of which they are made is the only one. No program is named here. The document's elimination, in plain numbers: rows with one number more, of which the rows have an inverse; what it leaves tells the only solution. No program is named here. rs.Rows and rs.Encode, walked. The document's Rows and Encode, walked. Rows of one's own in a list of one's own, tto be turned and exchanged: how they lie in memory. The document's solved, walked.
-/
import Derived.Test.YtlbdopcchoklhaaGreatMh16
import Derived.Deep.DeepCutAuto
namespace Go.Proofs.YtlbdopcchoklhaaGreat
set_option linter.unusedVariables false
set_option maxRecDepth 100000

/-! ### which are left -/
def idx (L : Nat → Nat) : Nat → List Nat
  | 0 => []
  | n + 1 => if 0 < L n then idx L n ++ [n] else idx L n
theorem idx_yes {L : Nat → Nat} {n : Nat} (h : 0 < L n) : idx L (n + 1) = idx L n ++ [n] := if_pos h
theorem idx_no {L : Nat → Nat} {n : Nat} (h : ¬ 0 < L n) : idx L (n + 1) = idx L n := if_neg h
theorem idx_mem {L : Nat → Nat} {n i : Nat} : i ∈ idx L n ↔ i < n ∧ 0 < L i := by
  induction n with
  | zero => simp [idx]
  | succ n ih =>
    by_cases h : 0 < L n
    · rw [idx_yes h, List.mem_append, ih, List.mem_singleton]
      constructor
      · rintro (q | rfl)
        · exact ⟨by omega, q.2⟩
        · exact ⟨by omega, h⟩
      · rintro ⟨q, q2⟩
        by_cases e : i = n
        · exact Or.inr e
        · exact Or.inl ⟨by omega, q2⟩
    · rw [idx_no h, ih]
      constructor
      · rintro ⟨q, q2⟩; exact ⟨by omega, q2⟩
      · rintro ⟨q, q2⟩
        by_cases e : i = n
        · rw [e] at q2; exact absurd q2 h
        · exact ⟨by omega, q2⟩
theorem idx_nodup (L : Nat → Nat) (n : Nat) : (idx L n).Nodup := by
  induction n with
  | zero => simp [idx]
  | succ n ih =>
    by_cases h : 0 < L n
    · rw [idx_yes h]
      refine List.nodup_append.2 ⟨ih, by simp, fun a ha b hb e => ?_⟩
      rw [List.mem_singleton] at hb
      have := (idx_mem.1 ha).1
      omega
    · rw [idx_no h]; exact ih
theorem idx_len (L : Nat → Nat) (n : Nat) : (idx L n).length ≤ n := by
  induction n with
  | zero => simp [idx]
  | succ n ih =>
    by_cases h : 0 < L n
    · rw [idx_yes h, List.length_append]; simp; omega
    · rw [idx_no h]; omega
/-- The place of the r-th that is left. -/
def wh (L : Nat → Nat) (n r : Nat) : Nat := (idx L n).getD r 0
theorem wh_mem {L : Nat → Nat} {n r : Nat} (h : r < (idx L n).length) : wh L n r ∈ idx L n := by
  unfold wh; rw [List.getD, List.getElem?_eq_getElem h]; exact List.getElem_mem _
theorem wh_lt {L : Nat → Nat} {n r : Nat} (h : r < (idx L n).length) : wh L n r < n := (idx_mem.1 (wh_mem h)).1
theorem wh_pos {L : Nat → Nat} {n r : Nat} (h : r < (idx L n).length) : 0 < L (wh L n r) := (idx_mem.1 (wh_mem h)).2
theorem wh_inj {L : Nat → Nat} {n r s : Nat} (h : r < (idx L n).length) (k : s < (idx L n).length) (e : wh L n r = wh L n s) : r = s := by
  unfold wh at e
  rw [List.getD, List.getD, List.getElem?_eq_getElem h, List.getElem?_eq_getElem k] at e
  have hp := List.pairwise_iff_getElem.1 (idx_nodup L n)
  rcases Nat.lt_trichotomy r s with q | q | q
  · exact absurd e (hp r s h k q)
  · exact q
  · exact absurd e.symm (hp s r k h q)
/-- Those that are left are of one length, which may be. -/
def Fits (L : Nat → Nat) (n : Nat) : Prop := ∀ i, i < n → 0 < L i → L i ≤ 4096 ∧ ∀ j, j < n → 0 < L j → L i = L j
/-- How long they are. -/
def longZ (L : Nat → Nat) (n : Nat) : Nat := L (wh L n 0)
theorem Fits.long {L : Nat → Nat} {n i : Nat} (h : Fits L n) (hi : i < n) (h0 : 0 < L i) : L i = longZ L n := by
  have hp : 0 < (idx L n).length := List.length_pos_of_mem (idx_mem.2 ⟨hi, h0⟩)
  exact (h i hi h0).2 _ (wh_lt hp) (wh_pos hp)
theorem Fits.bounds {L : Nat → Nat} {n : Nat} (h : Fits L n) (hp : 0 < (idx L n).length) : 1 ≤ longZ L n ∧ longZ L n ≤ 4096 := ⟨wh_pos hp, (h _ (wh_lt hp) (wh_pos hp)).1⟩
theorem Fits.wh {L : Nat → Nat} {n r : Nat} (h : Fits L n) (hr : r < (idx L n).length) : L (wh L n r) = longZ L n := h.long (wh_lt hr) (wh_pos hr)

/-! ### the rows of those that are left, and the data -/
/-- The rows by which the first k that are left are made. -/
def rowsZ (L : Nat → Nat) (n k : Nat) (r c : Nat) : Nat := allZ k (wh L n r) c
theorem rowsZ_b (L : Nat → Nat) (n k : Nat) : AllB (rowsZ L n k) := fun r c => allZ_b k _ _
theorem rows_left {L : Nat → Nat} {n k : Nat} (hk : k ≤ (idx L n).length) (hn : n ≤ 64) (h1 : k ≤ n) : Sure k (rowsZ L n k) := fun x hx hz =>
  rows_sure (cols := k) (more := n - k) (fun r => wh L n r) (by omega) (fun r hr => by have := wh_lt (L := L) (n := n) (r := r) (by omega); omega) (fun r s hr hs e => wh_inj (by omega) (by omega) e) x hx hz
/-- D is data that has these shares. -/
def DataOf (L : Nat → Nat) (n k m : Nat) (X D : Nat → Nat → Nat) : Prop := AllB D ∧ ∀ r c, r < k → c < m → mulZ k (rowsZ L n k) D r c = X (wh L n r) c
/-- There is but one. -/
theorem DataOf.only {L : Nat → Nat} {n k m : Nat} {X D E : Nat → Nat → Nat} (hD : DataOf L n k m X D) (hE : DataOf L n k m X E) (hs : Sure k (rowsZ L n k)) : Eq2 k m D E := by
  intro r c hr hc
  refine xr_eq (hs (fun j => xr (D j c) (E j c)) (fun j => xr_lt8 (hD.1 _ _) (hE.1 _ _)) (fun q hq => ?_) r hr)
  have e1 := hD.2 q c hq hc
  have e2 := hE.2 q c hq hc
  have : xsum k (fun j => Gf.mul (rowsZ L n k q j) (xr (D j c) (E j c))) = xr (mulZ k (rowsZ L n k) D q c) (mulZ k (rowsZ L n k) E q c) := by
    unfold mulZ
    rw [← xsum_add]
    exact xsum_congr fun j _ => mul_xr (rowsZ_b _ _ _ _ _) (hD.1 _ _) (hE.1 _ _)
  rw [this, e1, e2, xr_self]
theorem data_inv {L : Nat → Nat} {n k m : Nat} {X V : Nat → Nat → Nat} (hX : AllB X) (h : Both k V (rowsZ L n k)) : DataOf L n k m X (mulZ k V (fun r c => X (wh L n r) c)) := by
  refine ⟨AllB.mul _ _ _, fun r c hr hc => ?_⟩
  rw [← mulZ_assoc (rowsZ_b L n k) h.1 (fun r c => hX _ _)]
  rw [show mulZ k (mulZ k (rowsZ L n k) V) (fun r c => X (wh L n r) c) r c = mulZ k oneZ (fun r c => X (wh L n r) c) r c from xsum_congr fun j hj => by rw [h.2.2 r j hr hj]]
  exact one_mulZ (fun r c => hX _ _) hr c
/-- All shares of data. -/
def sharesZ (k : Nat) (D : Nat → Nat → Nat) (r c : Nat) : Nat := mulZ k (allZ k) D r c
theorem shares_b (k : Nat) (D : Nat → Nat → Nat) : AllB (sharesZ k D) := AllB.mul _ _ _
theorem shares_data {k : Nat} {D : Nat → Nat → Nat} (hD : AllB D) {r : Nat} (hr : r < k) (c : Nat) : sharesZ k D r c = D r c := by
  unfold sharesZ
  rw [show mulZ k (allZ k) D r c = mulZ k oneZ D r c from xsum_congr fun j _ => by unfold allZ; rw [if_pos hr]]
  exact one_mulZ hD hr c
theorem shares_rest {k : Nat} {D : Nat → Nat → Nat} (r c : Nat) : sharesZ k D (k + r) c = mulZ k (cauZ k) D r c := by
  unfold sharesZ
  exact xsum_congr fun j _ => by unfold allZ; rw [if_neg (by omega), show k + r - k = r by omega]
theorem shares_join {k : Nat} {D : Nat → Nat → Nat} (hD : AllB D) (r c : Nat) : jz k D (mulZ k (cauZ k) D) r c = sharesZ k D r c := by
  unfold jz
  by_cases q : r < k
  · rw [if_pos q, shares_data hD q]
  · rw [if_neg q, ← shares_rest]
    rw [show k + (r - k) = r by omega]
theorem shares_congr {k m : Nat} {D E : Nat → Nat → Nat} (h : Eq2 k m D E) (r c : Nat) (hc : c < m) : sharesZ k D r c = sharesZ k E r c := xsum_congr fun j hj => by rw [h j c hj hc]
/-- Of shares that data made, that data is the one. -/
theorem data_back {L : Nat → Nat} {n k m : Nat} {X D : Nat → Nat → Nat} (hD : AllB D) (h : ∀ i c, i < n → 0 < L i → c < m → X i c = sharesZ k D i c) (hk : k ≤ (idx L n).length) : DataOf L n k m X D :=
  ⟨hD, fun r c hr hc => by rw [h _ c (wh_lt (by omega)) (wh_pos (by omega)) hc]; rfl⟩
/-! ### pieces and sums -/
end Go.Proofs.YtlbdopcchoklhaaGreat
namespace Go.Proofs.YtlbdopcchoklhaaGreat
set_option linter.unusedVariables false
set_option maxRecDepth 100000

/-- Rows below I, but row c, less so much of row c that nothing is left in column c. -/
def lessQ (c I : Nat) (Z : Nat → Nat → Nat) (r k : Nat) : Nat := if r < I ∧ r ≠ c then xr (Z r k) (Gf.mul (Gf.quo (Z r c) (Z c c)) (Z c k)) else Z r k
def rowSum (n : Nat) (Z : Nat → Nat → Nat) (x : Nat → Nat) (r : Nat) : Nat := xsum n (fun j => Gf.mul (Z r j) (x j))
structure Elim (n c : Nat) (x : Nat → Nat) (Z : Nat → Nat → Nat) : Prop where
  b : AllB Z
  sol : ∀ r, r < n → rowSum n Z x r = Z r n
  sure : Sure n Z
  off : ∀ r k, r < n → k < c → r ≠ k → Z r k = 0
  diag : ∀ k, k < c → 0 < Z k k
theorem Elim.swap {n c p : Nat} {x : Nat → Nat} {Z : Nat → Nat → Nat} (h : Elim n c x Z) (hc : c < n) (hcp : c ≤ p) (hp : p < n) : Elim n c x (swapZ c p Z) := by
  refine ⟨fun r k => h.b _ _, fun r hr => h.sol _ (sw_lt hc hp hr), fun y hy hz => h.sure y hy fun r hr => ?_, fun r k hr hk hne => ?_, fun k hk => ?_⟩
  · have := hz (sw c p r) (sw_lt hc hp hr)
    unfold swapZ at this
    rw [sw_sw] at this
    exact this
  · refine h.off _ k (sw_lt hc hp hr) hk fun e => ?_
    unfold sw at e
    by_cases q1 : r = c
    · rw [if_pos q1] at e; omega
    · rw [if_neg q1] at e
      by_cases q2 : r = p
      · rw [if_pos q2] at e; omega
      · rw [if_neg q2] at e; exact hne e
  · unfold swapZ sw
    rw [if_neg (by omega), if_neg (by omega)]
    exact h.diag k hk
theorem Elim.done {n : Nat} {x : Nat → Nat} {Z : Nat → Nat → Nat} (hx : ∀ j, x j < 256) (h : Elim n n x Z) {i : Nat} (hi : i < n) : Gf.quo (Z i n) (Z i i) = x i := by
  have := h.sol i hi
  unfold rowSum at this
  rw [xsum_single (i := i) _ hi (fun j hj hne => by rw [h.off i j hi hj (fun e => hne e.symm), Gf.zero_mul])] at this
  exact (Gf.mul_only (hx i) (h.b _ _) (h.diag i hi) (by rw [Gf.mul_comm]; exact this)).symm
/-- Rows, and a number more for each. -/
def augZ (n : Nat) (R : Nat → Nat → Nat) (y : Nat → Nat) (r c : Nat) : Nat := if c < n then R r c else y r
theorem Elim.start {n : Nat} {x y : Nat → Nat} {R : Nat → Nat → Nat} (hR : AllB R) (hy : ∀ r, y r < 256) (hs : Sure n R) (h : ∀ r, r < n → rowSum n R x r = y r) : Elim n 0 x (augZ n R y) := by
  refine ⟨fun r c => by unfold augZ; split; exact hR _ _; exact hy _, fun r hr => ?_, fun z hz h0 => hs z hz fun r hr => ?_, fun r k _ hk => absurd hk (Nat.not_lt_zero k), fun k hk => absurd hk (Nat.not_lt_zero k)⟩
  · have e : rowSum n (augZ n R y) x r = rowSum n R x r := xsum_congr fun j hj => by unfold augZ; rw [if_pos hj]
    rw [e, h r hr]
    unfold augZ; rw [if_neg (Nat.lt_irrefl _)]
  · rw [← h0 r hr]
    exact xsum_congr fun j hj => by unfold augZ; rw [if_pos hj]
end Go.Proofs.YtlbdopcchoklhaaGreat
namespace Go.Proofs.YtlbdopcchoklhaaGreat
open Go.RowKit
set_option linter.unusedVariables false
set_option maxRecDepth 100000

theorem jn_const (k m r : Nat) : jn k (fun _ => m) (fun _ => m) r = m := by unfold jn; split <;> rfl
/-- One's rows and Cauchy's, joined. -/
theorem rows_bld {base : Nat} {w : World} {v : Value} {k m : Nat} (h : Bld base w v (k + m) (jn k (fun _ => k) (fun _ => k)) (jz k oneZ (cauZ k))) : Bld base w v (k + m) (fun _ => k) (allZ k) :=
  (BldL.lens h (fun r _ => jn_const k k r)).congr fun r c _ _ => by unfold jz allZ; rfl
/-- Joins, as the caller sees it. -/
theorem Joins.ch {v u : Value} {base lo : Nat} {w0 w : World} {k : Nat} {L : Nat → Nat} {X : Nat → Nat → Nat} {v' : Value} {w' : World} (h : Joins v u base lo w k L X v' w') (hw : Ch (fun _ => False) w0 w) (hv : ∀ q, v.ownBlock = some q → w0.heap.size ≤ q) : Ch (fun _ => False) w0 w' :=
  hw.grown h.2.2 (fun i hi => Or.inr (hv i hi))
set_option maxHeartbeats 1600000 in
theorem rows_new (k m : Nat) (k1 : 1 ≤ k) (hkm : k + m ≤ 64) (w : World) : Calls Tryz.prog 76 #[.int .i64 (k : Int), .int .i64 (m : Int)] w (FreshPost (k + m) k (allZ k) w) := by
  have t1 : decide ((k : Int) < 1) = false := by simp; omega
  have t2 : decide ((64 : Int) < (k : Int)) = false := by simp; omega
  have t3 : decide ((m : Int) < 0) = false := by simp
  have t4 : decide ((64 : Int) - (k : Int) < (m : Int)) = false := by simp; omega
  by_cases h0 : m = 0
  · have t5 : ((m : Int) == 0) = true := by simp [h0]
    have HE := Lib.hid h0
    clear h0
    go_enter Tryz.func76, Tryz.ntmps76
    go_wp2_with fail
    refine (one_new _ (by omega) (by omega) _).mono ?_
    rintro e w1 ⟨v, rfl, hB, hch⟩
    rw [Int.toNat_natCast] at hB
    have HB := Lib.hid hB
    clear hB
    go_wp2
    go_ret2
    refine ⟨_, rfl, ?_, hch⟩
    rw [HE.out]
    exact BldL.congr HB.out fun r c hr _ => by unfold allZ; rw [if_pos (show r < k from hr)]
  · have t5 : ((m : Int) == 0) = false := by simp [h0]
    have m1 : 1 ≤ m := by omega
    clear h0
    go_enter Tryz.func76, Tryz.ntmps76
    go_wp2_with fail
    refine (one_new _ (by omega) (by omega) _).mono ?_
    rintro e w1 ⟨v, rfl, hB, hch⟩
    rw [Int.toNat_natCast] at hB
    have HB := Lib.hid hB
    have HC := Lib.hid hch
    clear hB hch
    go_wp2_with fail
    refine (cauchy_new _ _ (by omega) (by omega) (by omega) (by omega) _).mono ?_
    rintro e w2 ⟨u, rfl, hB2, hch2⟩
    rw [Int.toNat_natCast, Int.toNat_natCast] at hB2
    obtain ⟨v', w', hj⟩ := bld_join (BldL.ch HB.out hch2) hB2 (Nat.le_trans HC.out.size hch2.size) (by omega) (fun q hq => (BldL.block HB.out hq).2) HC.out.size
    have hchw := hj.ch (HC.out.trans hch2) (fun q hq => (BldL.block HB.out hq).1)
    have HJ := Lib.hid hj.1
    have HBJ := Lib.hid hj.2.1
    have HCW := Lib.hid hchw
    clear hB2 hch2 hj hchw
    go_wp2_with (at_builtin; refine wpList_rows_of _ rfl (.tmp 47) (.tmp 48) rfl rfl v u v' w' rfl rfl HJ.out ?_)
    go_ret2
    exact ⟨_, rfl, rows_bld HBJ.out, HCW.out⟩
/-! ### Encode -/
theorem enc_congr {k m : Nat} {X : Nat → Nat → Nat} (r c : Nat) : mulZ k (fun r => allZ k (k + r)) X r c = mulZ k (cauZ k) X r c := xsum_congr fun j _ => by show Gf.mul (allZ k (k + r) j) _ = _; unfold allZ; rw [if_neg (by omega), show k + r - k = r by omega]
set_option maxHeartbeats 1600000 in
theorem encode_new (va : Value) (n m : Nat) (L : Nat → Nat) (X : Nat → Nat → Nat) (w : World) (ha : MatV w va n L X) (m1 : mayBF n L = true) (hm : n + m ≤ 64) : Calls Tryz.prog 64 #[va, .int .i64 (m : Int)] w (FreshPost m (L 0) (mulZ n (cauZ n) X) w) := by
  obtain ⟨n1, n2, l1, l2, hL⟩ := mayB_true m1
  obtain ⟨A, Ca, rfl, na, _⟩ := id ha
  have HA := Lib.hid ha
  have M1 := Lib.hid m1
  clear ha hL m1
  by_cases h0 : m = 0
  · have t5 : ((m : Int) == 0) = true := by simp [h0]
    have HE := Lib.hid h0
    clear h0
    go_enter Tryz.func64, Tryz.ntmps64
    go_wp2_with fail
    refine (may_anyF _ n L X _ HA.out).mono ?_
    rintro e w1 ⟨rfl, rfl⟩
    rw [M1.out]
    go_wp2_with fail
    refine (rows_new n m n1 hm _).mono ?_
    rintro e w1 ⟨v, rfl, hB, hch⟩
    clear hB
    go_wp2
    go_ret2
    refine ⟨_, rfl, ?_, hch⟩
    rw [HE.out]
    exact Bld.nil _ _ _ _
  · have t5 : ((m : Int) == 0) = false := by simp [h0]
    have mp : 1 ≤ m := by omega
    clear h0
    go_enter Tryz.func64, Tryz.ntmps64
    go_wp2_with fail
    refine (may_anyF _ n L X _ HA.out).mono ?_
    rintro e w1 ⟨rfl, rfl⟩
    rw [M1.out]
    go_wp2_with fail
    refine (rows_new n m n1 hm _).mono ?_
    rintro e w1 ⟨v, rfl, hB, hch⟩
    have hM := hB.mat (by omega)
    obtain ⟨b, o, C, rfl, _, _⟩ := hM.some (by omega)
    obtain ⟨A', C', e', hc1, _⟩ := id hM
    obtain rfl : C = C' := by injection e'
    have hT := mat_tail hM (show n < n + m by omega)
    rw [Nat.add_sub_cancel_left] at hT
    have HT := Lib.hid hT
    have HC := Lib.hid hch
    have hcap := hc1.2
    have s1 : n + m - n = m := Nat.add_sub_cancel_left n m
    have MR := Lib.hid (may_const mp (by omega : m ≤ 64) n1 (by omega : n ≤ 4096))
    clear hM hB hT hch e' hc1
    go_wp2_with fail
    refine (mul_new _ _ m n _ L _ X _ HT.out (HA.out.gr HC.out) MR.out M1.out rfl).mono ?_
    rintro e w2 ⟨u, rfl, hB2, hch2⟩
    have HB2 := Lib.hid hB2
    have HC2 := Lib.hid hch2
    clear hB2 hch2
    go_wp2
    go_ret2
    exact ⟨_, rfl, Bld.base (BldL.congr HB2.out fun r c _ _ => enc_congr (m := m) r c) HC.out.size, HC.out.trans HC2.out⟩
end Go.Proofs.YtlbdopcchoklhaaGreat
namespace Go.Proofs.YtlbdopcchoklhaaGreat
open Go.RowKit
set_option linter.unusedVariables false
set_option maxRecDepth 100000

end Go.Proofs.YtlbdopcchoklhaaGreat
namespace Go.Proofs.YtlbdopcchoklhaaGreat
open Go.RowKit
set_option linter.unusedVariables false
set_option maxRecDepth 100000

theorem heap_set {w : World} {b o : Nat} {cs : Array Value} {t : TypeId} {fr : Nat × Nat} {v : Value} (hb : w.heap[b]? = some (.cells cs t fr)) : (w.setCell ⟨b, o, none⟩ v).heap[b]? = some (.cells (cs.setIfInBounds o v) t fr) := by
  simp [World.setCell, Array.getElem?_modify, hb]
def BRow (w : World) (b m : Nat) (z : Nat → Nat) : Prop := ∃ cs t, w.heap[b]? = some (.cells cs t (0, 0)) ∧ ∀ c, c < m → cs[c]? = some (.int .u8 (z c : Int)) ∧ z c < 256
theorem BRow.of_block {w w' : World} {b m : Nat} {z : Nat → Nat} (h : BRow w b m z) (e : w'.heap[b]? = w.heap[b]?) : BRow w' b m z := by
  obtain ⟨cs, t, hb, hc⟩ := h
  exact ⟨cs, t, e.trans hb, hc⟩
theorem BRow.lt {w : World} {b m : Nat} {z : Nat → Nat} (h : BRow w b m z) : b < w.heap.size := by
  obtain ⟨cs, t, hb, _⟩ := h
  exact (Array.getElem?_eq_some_iff.1 hb).1
theorem BRow.at {w : World} {b m : Nat} {z : Nat → Nat} (h : BRow w b m z) {c : Nat} (hc : c < m) : w.cell? ⟨b, c, none⟩ = some (.int .u8 (z c : Int)) ∧ w.frozen? ⟨b, c, none⟩ = false ∧ z c < 256 := by
  obtain ⟨cs, t, hb, hx⟩ := h
  exact ⟨by simp [World.cell?, hb, (hx c hc).1], by simp [World.frozen?, hb], (hx c hc).2⟩
theorem BRow.set {w : World} {b m : Nat} {z : Nat → Nat} (h : BRow w b m z) (i y : Nat) (hy : y < 256) : BRow (w.setCell ⟨b, i, none⟩ (.int .u8 (y : Int))) b m (fun c => if c = i then y else z c) := by
  obtain ⟨cs, t, hb, hx⟩ := h
  refine ⟨_, t, heap_set hb, fun c hc => ?_⟩
  rw [Array.getElem?_setIfInBounds]
  by_cases e : i = c
  · subst e
    have hlt := (Array.getElem?_eq_some_iff.1 (hx i hc).1).1
    rw [if_pos rfl, if_pos hlt]
    exact ⟨by simp, by simp [hy]⟩
  · rw [if_neg e]
    simp only [if_neg (fun q : c = i => e q.symm)]
    exact hx c hc
theorem BRow.congr {w : World} {b m : Nat} {z y : Nat → Nat} (h : BRow w b m z) (e : ∀ c, c < m → z c = y c) : BRow w b m y := by
  obtain ⟨cs, t, hb, hx⟩ := h
  exact ⟨cs, t, hb, fun c hc => by rw [← e c hc]; exact hx c hc⟩
def rowF (m : Nat) (B K : Nat → Nat) (r : Nat) : Value := .slice (some ⟨B r, 0, none⟩) m (K r)
/-- While it is built. -/
structure GridL (base : Nat) (w : World) (v : Value) (i m : Nat) (B K : Nat → Nat) (Z : Nat → Nat → Nat) : Prop where
  own : w.ownsRow base /-t-/24 1 v i (valsL i (rowF m B K))
  row : ∀ r, r < i → BRow w (B r) m (Z r)
  inj : ∀ r s, r < i → s < i → B r = B s → r = s
  off : ∀ r, r < i → v.ownBlock ≠ some (B r)
  lo : ∀ r, r < i → base ≤ B r
  cap : ∀ r, r < i → m ≤ K r
def up1 (F : Nat → Nat) (i u r : Nat) : Nat := if r = i then u else F r
theorem GridL.more {base : Nat} {w w' : World} {v : Value} {i m b k g cap : Nat} {B K : Nat → Nat} {Z : Nat → Nat → Nat} (h : GridL base w v i m B K Z) (hb : w.heap.size ≤ b) (hbase : base ≤ w.heap.size) {w3 : World} (hch : Ch (fun _ => False) w w3) (hrow : BRow w3 b m (Z i)) (hk : m ≤ k)
    (h1 : w'.ownsRow base /-t-/24 1 (.slice (some ⟨g, 0, none⟩) (i + 1) cap) (i + 1) (valsL i (rowF m B K) ++ [.slice (some ⟨b, 0, none⟩) m k])) (o : Obj) (h2 : (w3.alloc o).grownBy w' v.ownBlock) (h3 : v.ownBlock = some g ∨ g = w3.heap.size + 1) :
    GridL base w' (.slice (some ⟨g, 0, none⟩) (i + 1) cap) (i + 1) m (up1 B i b) (up1 K i k) Z := by
  have hbs := hrow.lt
  have hs3 := hch.size
  have vb : ∀ q, v.ownBlock = some q → q < w.heap.size := fun q e => (World.ownsRow.lt h.own q e).2
  have keep : ∀ q, q < w3.heap.size → v.ownBlock ≠ some q → w'.heap[q]? = w3.heap[q]? := fun q hq hne => (h2.block q (by simpa using Nat.lt_succ_of_lt hq) (fun e => hne e.symm)).trans (Below.heap_alloc w3 o q hq)
  have uB : ∀ r, r < i → up1 B i b r = B r := fun r hr => by unfold up1; rw [if_neg (by omega)]
  have uBi : up1 B i b i = b := by unfold up1; rw [if_pos rfl]
  have uKi : up1 K i k i = k := by unfold up1; rw [if_pos rfl]
  have rl : ∀ r, r < i → B r < w.heap.size := fun r hr => (h.row r hr).lt
  have gn : ∀ q, q < w3.heap.size → v.ownBlock ≠ some q → (Value.slice (some ⟨g, 0, none⟩) (i + 1) cap).ownBlock ≠ some q := fun q hq hne e => by
    have e' : g = q := by simpa [Value.ownBlock] using e
    rcases h3 with h3 | h3
    · exact hne (by rw [h3, e'])
    · omega
  refine ⟨?_, fun r hr => ?_, fun r s hr hs e => ?_, fun r hr => ?_, fun r hr => ?_, fun r hr => ?_⟩
  · have e : valsL (i + 1) (rowF m (up1 B i b) (up1 K i k)) = valsL i (rowF m B K) ++ [.slice (some ⟨b, 0, none⟩) m k] := by
      unfold valsL
      rw [List.range_succ, List.map_append]
      congr 1
      · exact List.map_congr_left fun r hr => by
          have := List.mem_range.1 hr
          unfold rowF up1; rw [if_neg (by omega), if_neg (by omega)]
      · simp [rowF, up1]
    rw [e]; exact h1
  · by_cases e : r = i
    · subst e; rw [uBi]; exact hrow.of_block (keep b hbs (fun q => by have := vb b q; omega))
    · rw [uB r (by omega)]
      have := rl r (by omega)
      exact ((h.row r (by omega)).of_block (hch.block _ this (fun f => f))).of_block (keep _ (by omega) (h.off r (by omega)))
  · by_cases e1 : r = i
    · by_cases e2 : s = i
      · omega
      · rw [e1, uBi, uB s (by omega)] at e
        have := rl s (by omega); omega
    · by_cases e2 : s = i
      · rw [e2, uBi, uB r (by omega)] at e
        have := rl r (by omega); omega
      · rw [uB r (by omega), uB s (by omega)] at e
        exact h.inj r s (by omega) (by omega) e
  · by_cases e : r = i
    · subst e; rw [uBi]; exact gn b hbs (fun q => by have := vb b q; omega)
    · rw [uB r (by omega)]; have := rl r (by omega); exact gn _ (by omega) (h.off r (by omega))
  · by_cases e : r = i
    · subst e; rw [uBi]; omega
    · rw [uB r (by omega)]; exact h.lo r (by omega)
  · by_cases e : r = i
    · subst e; rw [uKi]; exact hk
    · unfold up1; rw [if_neg e]; exact h.cap r (by omega)
structure Grid (base : Nat) (w : World) (g n m : Nat) (B K : Nat → Nat) (Z : Nat → Nat → Nat) : Prop where
  top : ∃ cs t, w.heap[g]? = some (.cells cs t (0, 0)) ∧ ∀ r, r < n → cs[r]? = some (rowF m B K r)
  row : ∀ r, r < n → BRow w (B r) m (Z r)
  inj : ∀ r s, r < n → s < n → B r = B s → r = s
  off : ∀ r, r < n → B r ≠ g
  lo : base ≤ g ∧ ∀ r, r < n → base ≤ B r
theorem Grid.at {base : Nat} {w : World} {g n m : Nat} {B K : Nat → Nat} {Z : Nat → Nat → Nat} (h : Grid base w g n m B K Z) {r c : Nat} (hr : r < n) (hc : c < m) : w.cell? ⟨B r, c, none⟩ = some (.int .u8 (Z r c : Int)) ∧ w.frozen? ⟨B r, c, none⟩ = false ∧ Z r c < 256 := (h.row r hr).at hc
theorem Grid.congr {base : Nat} {w : World} {g n m : Nat} {B K : Nat → Nat} {Z Y : Nat → Nat → Nat} (h : Grid base w g n m B K Z) (e : ∀ r c, r < n → c < m → Z r c = Y r c) : Grid base w g n m B K Y :=
  ⟨h.top, fun r hr => (h.row r hr).congr fun c hc => e r c hr hc, h.inj, h.off, h.lo⟩
theorem Grid.drewN {base : Nat} {w : World} {g n m : Nat} {B K : Nat → Nat} {Z : Nat → Nat → Nat} (h : Grid base w g n m B K Z) (k : Nat) : Grid base (w.drewN k) g n m B K Z := ⟨h.top, h.row, h.inj, h.off, h.lo⟩
theorem Grid.drew {base : Nat} {w : World} {g n m : Nat} {B K : Nat → Nat} {Z : Nat → Nat → Nat} (h : Grid base w g n m B K Z) : Grid base w.drew g n m B K Z := ⟨h.top, h.row, h.inj, h.off, h.lo⟩
def updZ (Z : Nat → Nat → Nat) (r c y : Nat) (r' c' : Nat) : Nat := if r' = r ∧ c' = c then y else Z r' c'
theorem Grid.setRow {base : Nat} {w : World} {g n m : Nat} {B K : Nat → Nat} {Z : Nat → Nat → Nat} (h : Grid base w g n m B K Z) {r : Nat} (hr : r < n) (c y : Nat) (hy : y < 256) : Grid base (w.setCell ⟨B r, c, none⟩ (.int .u8 (y : Int))) g n m B K (updZ Z r c y) := by
  refine ⟨?_, fun q hq => ?_, h.inj, h.off, h.lo⟩
  · obtain ⟨cs, t, hb, hx⟩ := h.top
    exact ⟨cs, t, (Below.heap_setCell w ⟨B r, c, none⟩ _ g (fun e => h.off r hr e.symm)).trans hb, hx⟩
  · by_cases e : q = r
    · subst e
      exact ((h.row q hq).set c y hy).congr fun c' _ => by unfold updZ; simp
    · refine ((h.row q hq).of_block (Below.heap_setCell w ⟨B r, c, none⟩ _ (B q) (fun e2 => e (h.inj q r hq hr e2)))).congr fun c' _ => by unfold updZ; rw [if_neg (fun z => e z.1)]
theorem Grid.swap {base : Nat} {w : World} {g n m : Nat} {B K : Nat → Nat} {Z : Nat → Nat → Nat} (h : Grid base w g n m B K Z) {c p : Nat} (hc : c < n) (hp : p < n) : Grid base ((w.setCell ⟨g, c, none⟩ (.slice (some ⟨B p, 0, none⟩) m (K p))).setCell ⟨g, p, none⟩ (.slice (some ⟨B c, 0, none⟩) m (K c))) g n m (fun r => B (sw c p r)) (fun r => K (sw c p r)) (swapZ c p Z) := by
  refine ⟨?_, fun q hq => ?_, fun r s hr hs e => sw_inj (h.inj _ _ (sw_lt hc hp hr) (sw_lt hc hp hs) e), fun r hr => h.off _ (sw_lt hc hp hr), h.lo.1, fun r hr => h.lo.2 _ (sw_lt hc hp hr)⟩
  · obtain ⟨cs, t, hb, hx⟩ := h.top
    refine ⟨_, t, heap_set (heap_set hb), fun r hr => ?_⟩
    have hlc := (Array.getElem?_eq_some_iff.1 (hx c hc)).1
    have hlp := (Array.getElem?_eq_some_iff.1 (hx p hp)).1
    rw [Array.getElem?_setIfInBounds, Array.getElem?_setIfInBounds]
    unfold rowF sw
    by_cases q1 : r = c
    · subst q1
      by_cases q2 : p = r
      · subst q2; simp [hlp]
      · simp [q2, hlc]
    · by_cases q2 : r = p
      · subst q2; simp [q1, hlp]
      · rw [if_neg (fun e => q2 e.symm), if_neg (fun e => q1 e.symm)]
        simp only [if_neg q1, if_neg q2]
        exact hx r hr
  · have hr := h.row _ (sw_lt hc hp hq)
    have hne := h.off _ (sw_lt hc hp hq)
    exact (hr.of_block (Below.heap_setCell w ⟨g, c, none⟩ _ _ hne)).of_block (Below.heap_setCell _ ⟨g, p, none⟩ _ _ hne)
theorem Grid.ch {base : Nat} {w0 w w' : World} {g n m : Nat} {B K : Nat → Nat} {Z : Nat → Nat → Nat} (h : Grid base w g n m B K Z) (k : Ch (fun _ => False) w w') : Grid base w' g n m B K Z := by
  refine ⟨?_, fun r hr => (h.row r hr).of_block (k.block _ (h.row r hr).lt (fun f => f)), h.inj, h.off, h.lo⟩
  obtain ⟨cs, t, hb, hx⟩ := h.top
  exact ⟨cs, t, (k.block g (Array.getElem?_eq_some_iff.1 hb).1 (fun f => f)).trans hb, hx⟩
/-- A part of a row less so much of row c. -/
def partQ (c i q k : Nat) (Z : Nat → Nat → Nat) (r j : Nat) : Nat := if r = i ∧ j < k then xr (Z r j) (Gf.mul q (Z c j)) else Z r j
end Go.Proofs.YtlbdopcchoklhaaGreat
namespace Go.Proofs.YtlbdopcchoklhaaGreat
open Go.RowKit
set_option linter.unusedVariables false
set_option maxRecDepth 100000

def SolvedPost (n : Nat) (x : Nat → Nat) (w : World) (e : Ending) (w' : World) : Prop := ∃ v, e = .returned v ∧ w'.ownsRow w.heap.size /-t-/5 1 v n (bytesL n x) ∧ Ch (fun _ => False) w w'
def GridAt (w wr : World) (g n c : Nat) (x : Nat → Nat) : Prop := ∃ B K Z, Grid w.heap.size wr g n (n + 1) B K Z ∧ Elim n c x Z ∧ Ch (fun _ => False) w wr
structure AugAt (wr w4 : World) (gb n capb : Nat) (z : Nat → Nat) : Prop where
  ch : Ch (fun _ => False) wr w4
  row : BRow w4 gb (n + 1) z
  lo : wr.heap.size ≤ gb
  cap : n + 1 ≤ capb
end Go.Proofs.YtlbdopcchoklhaaGreat
