/-
  Keys held against one another; where a key stands among a node's pairs.
-/
import Derived.Test.YtkpgaejmhddkdaaTreD
import Derived.Lib.Bytealg
import Derived.Laws.Externs
namespace Go.Proofs.Ytkpgaejmhddkdaa
open Go.RowKit
set_option linter.unusedVariables false
set_option maxRecDepth 100000
set_option linter.unusedSimpArgs false

def cmpZ (a b : ByteArray) : Int := if kLt a b then -1 else if kEq a b then 0 else 1
theorem cmpB_eq : ∀ (a b : List UInt8), Lib.compareBytes a b = if Op.bytesLess a b then -1 else if (a == b) then 0 else 1
  | [], [] => by simp [Lib.compareBytes, Op.bytesLess]
  | [], _ :: _ => by simp [Lib.compareBytes, Op.bytesLess]
  | _ :: _, [] => by simp [Lib.compareBytes, Op.bytesLess]
  | x :: a, y :: b => by
    unfold Lib.compareBytes Op.bytesLess
    rw [cmpB_eq a b]
    by_cases h : x < y
    · simp [h]
    · by_cases h2 : x = y
      · subst h2
        simp [UInt8.lt_irrefl]
      · have : y < x := UInt8.lt_of_le_of_ne (UInt8.not_lt.1 h) (Ne.symm h2)
        simp [h, this, h2]
theorem cmpX_eq (a b : ByteArray) : Extern.BytealgCompare.cmp a b = cmpZ a b := by
  rw [Lib.cmp_eq, cmpB_eq]
  unfold cmpZ kLt kEq
  rw [ByteArray.toList_eq, ByteArray.toList_eq]
theorem cmpZ_lt {a b : ByteArray} : cmpZ a b < 0 ↔ kLt a b = true := by
  unfold cmpZ
  split
  · rename_i h; simp [h]
  · rename_i h; split <;> simp [h]
theorem cmpZ_zero {a b : ByteArray} : cmpZ a b = 0 ↔ kEq a b = true := by
  unfold cmpZ
  split
  · rename_i h
    have : kEq a b = false := kEq_no.2 (kLt_ne h)
    simp [this]
  · split
    · rename_i h; simp [h]
    · rename_i h; simp [h]
theorem cmpZ_beq (a b : ByteArray) : (cmpZ a b == 0) = kEq a b := by
  cases h : kEq a b with
  | true => rw [cmpZ_zero.2 h]; rfl
  | false => rw [beq_eq_false_iff_ne]; exact fun f => by rw [cmpZ_zero.1 f] at h; cases h
theorem cmpC_any (a b : ByteArray) (w : World) : Calls Try.prog 42 #[.string a, .string b] w fun e w' => e = .returned (.int .i64 (cmpZ a b)) ∧ w' = w := by
  have hx : (callFunc 49 #[.string a, .string b]).run Try.prog w = .ok (.value (.int .i64 (cmpZ a b))) w := by
    rw [run_callFunc_extern Try.func49 (by kernel_rfl) (by kernel_rfl) (by kernel_rfl) (e := Extern.BytealgCompare.compare) (by kernel_rfl), Lib.run_compareString, ← cmpX_eq, Lib.cmp_eq]
    rfl
  go_enter Try.func42, Try.ntmps42
  go_wp2_with (simp only [hx])
  go_ret
  exact ⟨rfl, rfl⟩
theorem cmpS_any (a b : ByteArray) (w : World) : Calls Try.prog 35 #[.string a, .string b] w fun e w' => e = .returned (.int .i64 (cmpZ a b)) ∧ w' = w := by
  go_enter Try.func35, Try.ntmps35
  go_wp2_with fail
  refine (cmpC_any _ _ _).mono ?_
  rintro e w1 ⟨rfl, rfl⟩
  go_wp2_with fail
  go_ret
  exact ⟨rfl, rfl⟩
#print axioms cmpS_any
set_option maxHeartbeats 400000 in
theorem fcmp_any (x : Kv) (b : ByteArray) (w : World) : Calls Try.prog 34 #[.agg #[.string x.1, .int .i64 x.2], .string b] w (Ans (.int .i64 (cmpZ x.1 b)) w) := by
  go_enter Try.func34, Try.ntmps34
  go_wp2_with fail
  refine (cmpS_any _ _ _).mono ?_
  rintro e w1 ⟨rfl, rfl⟩
  go_wp2_with fail
  go_ret
  exact ⟨rfl, (Ch.refl _ w).alloc _ _⟩
#print axioms fcmp_any
/-- Is the first of these that key's? -/
def hereB (b : List Kv) (k : ByteArray) : Bool := match b with | [] => false | p :: _ => kEq p.1 k
/-- Where a key stands. -/
def FindP (ps : List Kv) (k : ByteArray) (w : World) (e : Ending) (w' : World) : Prop :=
  ∃ a b : List Kv, ps = a ++ b ∧ e = .returned (.tuple #[.int .i64 (a.length : Int), .bool (hereB b k)]) ∧ (∀ p ∈ a, kLt p.1 k = true) ∧ (∀ p ∈ b, kLt p.1 k = false) ∧ Ch (fun _ => False) w w'
theorem rise_idx {ps : List Kv} (h : Rise ps) {i j : Nat} {x y : Kv} (hx : ps[i]? = some x) (hy : ps[j]? = some y) (hij : i < j) : kLt x.1 y.1 = true := by
  obtain ⟨hi, e1⟩ := List.getElem?_eq_some_iff.1 hx
  obtain ⟨hj, e2⟩ := List.getElem?_eq_some_iff.1 hy
  subst e1 e2
  exact List.pairwise_iff_getElem.1 h i j hi hj hij
/-- All ahead of i are below. -/
def BelowI (ps : List Kv) (k : ByteArray) (i : Nat) : Prop := ∀ (t : Nat) (x : Kv), t < i → ps[t]? = some x → kLt x.1 k = true
def AboveI (ps : List Kv) (k : ByteArray) (i : Nat) : Prop := ∀ (t : Nat) (x : Kv), i ≤ t → ps[t]? = some x → kLt x.1 k = false
theorem below_step {ps : List Kv} {k : ByteArray} (hr : Rise ps) {h : Nat} {x : Kv} (hx : ps[h]? = some x) (hk : kLt x.1 k = true) : BelowI ps k (h + 1) := fun t y ht hy => by
  by_cases e : t = h
  · rw [e, hx] at hy; injection hy with hy; rw [← hy]; exact hk
  · exact kLt_trans (rise_idx hr hy hx (by omega)) hk
theorem above_step {ps : List Kv} {k : ByteArray} (hr : Rise ps) {h : Nat} {x : Kv} (hx : ps[h]? = some x) (hk : kLt x.1 k = false) : AboveI ps k h := fun t y ht hy => by
  by_cases e : t = h
  · rw [e, hx] at hy; injection hy with hy; rw [← hy]; exact hk
  · cases q : kLt y.1 k with
    | false => rfl
    | true => rw [kLt_trans (rise_idx hr hx hy (by omega)) q] at hk; cases hk
theorem find_done {ps : List Kv} {k : ByteArray} {i : Nat} {w w' : World} {B : Bool} (hi : i ≤ ps.length) (hb : BelowI ps k i) (ha : AboveI ps k i) (hc : Ch (fun _ => False) w w') (hB : B = hereB (ps.drop i) k) : FindP ps k w (.returned (.tuple #[.int .i64 (i : Int), .bool B])) w' := by
  refine ⟨ps.take i, ps.drop i, (List.take_append_drop i ps).symm, by rw [List.length_take, Nat.min_eq_left hi, hB], fun p hp => ?_, fun p hp => ?_, hc⟩
  · obtain ⟨j, hj⟩ := List.mem_iff_getElem?.1 hp
    rw [List.getElem?_take] at hj
    split at hj
    · rename_i hlt; exact hb j p hlt hj
    · cases hj
  · obtain ⟨j, hj⟩ := List.mem_iff_getElem?.1 hp
    rw [List.getElem?_drop] at hj
    exact ha (i + j) p (by omega) hj
set_option maxHeartbeats 1600000 in
theorem bsf_any (A : Option Addr) (C : Nat) (ps : List Kv) (k : ByteArray) (w : World) (h : FlV kdPr w A C ps) (hr : Rise ps) (hl : ps.length ≤ 1000) :
    Calls Try.prog 33 #[.slice A ps.length C, .string k, .func (.func 34) #[] #[]] w (FindP ps k w) := by
  obtain ⟨n, hn⟩ : ∃ n, n = ps.length := ⟨_, rfl⟩
  rw [← hn] at hl ⊢
  have HN := Lib.hid hn
  have HV := Lib.hid h
  have HR := Lib.hid hr
  have n0 : (0 : Int) ≤ (n : Int) := Int.natCast_nonneg _
  have n1 : (n : Int) ≤ 1000 := by omega
  clear h hr hn hl
  go_enter Try.func33, Try.ntmps33
  go_wp2_with fail
  go_loopw [9, 10, 11, 15, 16, 17, 18, 19, 20, 21, 22, 23, 24, 25, 26, 27, 28, 29, 30, 31, 32, 33, 34] (fun i j _ _ _ _ _ _ _ _ _ _ _ _ _ _ _ _ _ _ _ _ _ wr => ∃ p q : Nat, p ≤ q ∧ q ≤ n ∧ i = .int .i64 p ∧ j = .int .i64 q ∧ Hid (Ch (fun _ => False) w wr) ∧ Hid (BelowI ps k p) ∧ Hid (AboveI ps k q)) (fun i j _ _ _ _ _ _ _ _ _ _ _ _ _ _ _ _ _ _ _ _ _ _ => (intOf j).toNat - (intOf i).toNat)
  case atStart => exact ⟨0, n, Nat.zero_le _, Nat.le_refl _, rfl, rfl, Lib.hid (Ch.refl _ _), Lib.hid fun t x ht => absurd ht (Nat.not_lt_zero t), Lib.hid fun t x ht hx => by
    have := (List.getElem?_eq_some_iff.1 hx).1
    rw [← HN.out] at this
    omega⟩
  case round =>
    obtain ⟨p, q, hpq, hq, rfl, rfl, HC, HB, HA⟩ := hrel
    have p0 : (0 : Int) ≤ (p : Int) := Int.natCast_nonneg _
    have q0 : (q : Int) ≤ 1000 := by omega
    by_cases hlt : p < q
    · have r1 : (p : Int) < (q : Int) := by omega
      obtain ⟨h, hh⟩ : ∃ h, h = (p + q) / 2 := ⟨_, rfl⟩
      have e : ((p : Int) + (q : Int)) / 2 = (h : Int) := by omega
      have h1 : p ≤ h := by omega
      have h2 : h < q := by omega
      have h3 : (h : Int) < (n : Int) := by omega
      have h0 : (0 : Int) ≤ (h : Int) := Int.natCast_nonneg _
      clear hh
      obtain ⟨x, hx⟩ : ∃ x, ps[h]? = some x := ⟨_, List.getElem?_eq_getElem (by rw [← HN.out]; omega)⟩
      obtain ⟨b, o, rfl, hc⟩ := HV.out.at' (by rw [← HN.out]; omega)
      have c0 : wr.cell? ⟨b, o + h * 2, none⟩ = some (.string x.1) := HC.out.cell (hc h x hx 0 _ rfl) (fun f => f)
      have c1 : wr.cell? ⟨b, o + h * 2 + 1, none⟩ = some (.int .i64 x.2) := HC.out.cell (hc h x hx 1 _ rfl) (fun f => f)
      have HX := Lib.hid hx
      clear hc hx
      go_wp2_with fail
      refine (fcmp_any x k wr).mono ?_
      rintro en w1 ⟨rfl, hc1⟩
      have HC1 := Lib.hid (HC.out.trans hc1)
      clear hc1 HC
      cases q1 : kLt x.1 k
      · have t : ¬ cmpZ x.1 k < 0 := fun f => by rw [cmpZ_lt.1 f] at q1; cases q1
        have HA2 := Lib.hid (above_step HR.out HX.out q1)
        clear q1
        go_wp2_with fail
        go_roundw
        case rel => exact ⟨p, h, h1, by omega, rfl, rfl, HC1, HB, HA2⟩
        case measure => simp [intOf]; omega
      · have t : cmpZ x.1 k < 0 := cmpZ_lt.2 q1
        have HB2 := Lib.hid (below_step HR.out HX.out q1)
        clear q1
        go_wp2_with fail
        go_roundw
        case rel => exact ⟨h + 1, q, h2, hq, by go_num, rfl, HC1, HB2, HA⟩
        case measure => simp [intOf]; omega
    · have hpe : p = q := by omega
      have r1 : ¬ (p : Int) < (q : Int) := by omega
      subst hpe
      by_cases hpn : p < n
      · obtain ⟨x, hx⟩ : ∃ x, ps[p]? = some x := ⟨_, List.getElem?_eq_getElem (by rw [← HN.out]; omega)⟩
        obtain ⟨b, o, rfl, hc⟩ := HV.out.at' (by rw [← HN.out]; omega)
        have c0 : wr.cell? ⟨b, o + p * 2, none⟩ = some (.string x.1) := HC.out.cell (hc p x hx 0 _ rfl) (fun f => f)
        have c1 : wr.cell? ⟨b, o + p * 2 + 1, none⟩ = some (.int .i64 x.2) := HC.out.cell (hc p x hx 1 _ rfl) (fun f => f)
        have hB : hereB (ps.drop p) k = kEq x.1 k := by
          have := (List.getElem?_eq_some_iff.1 hx)
          obtain ⟨hl, he⟩ := this
          rw [List.drop_eq_getElem_cons hl, he]
          rfl
        have r2 : (p : Int) < (n : Int) := by omega
        have HF : Hid (∀ (B : Bool) (w' : World), Ch (fun _ => False) wr w' → B = kEq x.1 k → FindP ps k w (.returned (.tuple #[.int .i64 (p : Int), .bool B])) w') := Lib.hid fun B w' h1 h2 => find_done (by rw [← HN.out]; omega) HB.out HA.out (HC.out.trans h1) (by rw [hB, h2])
        clear hc hx hB HA HB HC HN HV
        go_wp2_with fail
        refine (fcmp_any x k wr).mono ?_
        rintro en w1 ⟨rfl, hc1⟩
        have HC1 := Lib.hid hc1
        clear hc1
        go_wp2_with fail
        go_ret2
        exact HF.out (cmpZ x.1 k == 0) _ HC1.out (cmpZ_beq _ _)
      · have r2 : ¬ (p : Int) < (n : Int) := by omega
        have HF : Hid (FindP ps k w (.returned (.tuple #[.int .i64 (p : Int), .bool false])) wr) := Lib.hid (find_done (by rw [← HN.out]; omega) HB.out HA.out HC.out (by rw [List.drop_eq_nil_of_le (by rw [← HN.out]; omega)]; rfl))
        clear HA HB HC HN HV
        go_wp2_with fail
        go_ret2
        exact HF.out
#print axioms bsf_any
end Go.Proofs.Ytkpgaejmhddkdaa
