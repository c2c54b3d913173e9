/-
  Rows of pairs; the document's Get, From, Del (quartermasterref13), walked.
-/
import Derived.Test.YtkpgaejmhddkdaaTreA
import Derived.Test.YtkpgaejmhddkdaaFla
import Derived.Laws.Cover1
namespace Go.Proofs.Ytkpgaejmhddkdaa
open Go.RowKit
set_option linter.unusedVariables false
set_option maxRecDepth 100000
set_option linter.unusedSimpArgs false

def kdKv : Kf Kv := ⟨ 48, 29, 2, 24, .agg #[.string ByteArray.empty, .int .i64 0], fun x => [.string x.1, .int .i64 x.2]⟩
theorem kdKv_ok : kdKv.Ok := ⟨by kernel_rfl, by kernel_rfl, by kernel_rfl, by decide, by decide, by decide, fun _ => rfl, fun x u hu => by
  simp only [kdKv, List.mem_cons, List.not_mem_nil, or_false] at hu
  rcases hu with rfl | rfl <;> rfl⟩
/-- Such and such an answer, where nothing old has turned. -/
def Tid (v : Value) (w : World) (e : Ending) (w' : World) : Prop := e = .returned v ∧ Ch (fun _ => False) w w'
def gotV (o : Option Int) : Value := .tuple #[.int .i64 (o.getD 0), .bool o.isSome]
theorem getL_none {l : List Kv} {k : ByteArray} (h : ∀ (i : Nat) (x : Kv), l[i]? = some x → kEq x.1 k = false) : getL l k = none := by
  unfold getL
  rw [List.find?_eq_none.2 fun x hx => ?_]
  · rfl
  · obtain ⟨i, hi⟩ := List.mem_iff_getElem?.1 hx
    rw [h i x hi]
    exact Bool.false_ne_true
theorem getL_some {l : List Kv} {k : ByteArray} {j : Nat} {x : Kv} (hj : l[j]? = some x) (hx : kEq x.1 k = true) (h : ∀ (i : Nat) (y : Kv), i < j → l[i]? = some y → kEq y.1 k = false) : getL l k = some x.2 := by
  induction l generalizing j with
  | nil => simp at hj
  | cons y l ih =>
    unfold getL
    cases j with
    | zero =>
      simp only [List.getElem?_cons_zero, Option.some.injEq] at hj
      rw [hj, List.find?_cons_of_pos (p := fun x => kEq x.1 k) (a := x) hx]
      rfl
    | succ j =>
      rw [List.find?_cons_of_neg (p := fun x => kEq x.1 k) (a := y) (by rw [h 0 y (Nat.succ_pos j) rfl]; exact Bool.false_ne_true)]
      rw [List.getElem?_cons_succ] at hj
      exact ih hj fun i z hi hz => h (i + 1) z (by omega) (by rw [List.getElem?_cons_succ]; exact hz)
set_option maxHeartbeats 1600000 in
theorem rget_any (A : Option Addr) (C : Nat) (L : List Kv) (k : ByteArray) (w : World) (h : FlV kdKv w A C L) : Calls Try.prog 10 #[.slice A L.length C, .string k] w (Tid (gotV (getL L k)) w) := by
  have HV := Lib.hid h
  have hle := h.le
  obtain ⟨n, hn⟩ : ∃ n, n = L.length := ⟨_, rfl⟩
  rw [← hn] at hle ⊢
  have HN := Lib.hid hn
  have n0 : (0 : Int) ≤ (n : Int) := Int.natCast_nonneg _
  have n1 : (n : Int) ≤ 1048576 := by omega
  clear h hn hle
  go_enter Try.func10, Try.ntmps10
  go_wp2
  go_loopw [6] (fun i wr => ∃ j : Nat, j ≤ n ∧ i = .int .i64 (j : Int) ∧ Hid (Ch (fun _ => False) w wr) ∧ Hid (∀ (i : Nat) (x : Kv), i < j → L[i]? = some x → kEq x.1 k = false)) (fun i _ => n - (intOf i).toNat)
  case atStart => exact ⟨0, Nat.zero_le _, rfl, Lib.hid (Ch.refl _ _), Lib.hid fun i x hi => absurd hi (Nat.not_lt_zero i)⟩
  case round =>
    obtain ⟨j, hj, rfl, HW, HP⟩ := hrel
    have j0 : (0 : Int) ≤ (j : Int) := Int.natCast_nonneg _
    by_cases hlt : j < n
    · have j1 : (j : Int) < (n : Int) := by omega
      obtain ⟨b, o, rfl, hc⟩ := (HV.out.gr HW.out).at' (by rw [← HN.out]; omega)
      have hx : L[j]? = some (L[j]'(by rw [← HN.out]; exact hlt)) := List.getElem?_eq_getElem _
      obtain ⟨x, hxe⟩ : ∃ x, L[j]? = some x := ⟨_, hx⟩
      have c0 : wr.cell? ⟨b, o + j * 2, none⟩ = some (.string x.1) := hc j x hxe 0 _ rfl
      have c1 : wr.cell? ⟨b, o + j * 2 + 1, none⟩ = some (.int .i64 x.2) := hc j x hxe 1 _ rfl
      have HX := Lib.hid hxe
      clear hc hx hxe
      cases q : kEq x.1 k
      · have t : (x.1.toList == k.toList) = false := q
        have HP2 : Hid (∀ (i : Nat) (x : Kv), i < j + 1 → L[i]? = some x → kEq x.1 k = false) := Lib.hid fun i y hi hy => by
          by_cases e : i = j
          · rw [e, HX.out] at hy
            injection hy with hy
            rw [← hy]; exact q
          · exact HP.out i y (by omega) hy
        clear q
        go_wp2
        go_roundw
        case rel => exact ⟨j + 1, by omega, by go_num, HW, HP2⟩
        case measure => simp [intOf]; omega
      · have t : (x.1.toList == k.toList) = true := q
        have HG := Lib.hid (getL_some HX.out q fun i y hi hy => HP.out i y hi hy)
        clear q
        go_wp2
        go_ret2
        exact ⟨by rw [HG.out]; rfl, HW.out⟩
    · have hje : j = n := by omega
      have j1 : ¬ (j : Int) < (n : Int) := by omega
      have HG : Hid (getL L k = none) := Lib.hid (getL_none fun i x hx => HP.out i x (by rw [hje, HN.out]; exact (List.getElem?_eq_some_iff.1 hx).1) hx)
      clear hje
      go_wp2
      go_ret2
      exact ⟨by rw [HG.out]; rfl, HW.out⟩
#print axioms rget_any
end Go.Proofs.Ytkpgaejmhddkdaa
