/-
  Groups and sectors of any geometry, by any ints, plainly.
-/
import Derived.Test.YtfbkfchibfiemaaGeoA
namespace Go.Proofs.Ytfbkfchibfiemaa
open Go.RowKit
set_option linter.unusedVariables false
set_option maxRecDepth 100000

def toGn (g : Ge) : Gn := ⟨g.wal.toNat, g.st.toNat, g.k.toNat, g.m.toNat⟩
theorem toGn_ge (n : Gn) : toGn n.ge = n := by
  obtain ⟨a, b, c, d⟩ := n
  unfold toGn Gn.ge
  simp only [Int.toNat_natCast]
def inG (g : Ge) (i : Int) : Bool := decide (0 ≤ i ∧ i < grpG g)
def cntG (g : Ge) (i : Int) : Nat := if inG g i then (toGn g).cnt i.toNat else 0
def brsG (g : Ge) (i : Int) : Nat := if inG g i then (toGn g).brs i.toNat else 0
def secG (g : Ge) (i : Int) (p : Nat) : Int := ((toGn g).sec i.toNat p : Int)
def atG (g : Ge) (a : Int) : Bool := decide (0 ≤ a ∧ a < totG g)
def whE (g : Ge) (a : Int) : Int := if mayG g then (if atG g a then 0 else 3) else 1
def whI (g : Ge) (a : Int) : Int := if atG g a then ((toGn g).ofA a.toNat : Int) else 0
def whJ (g : Ge) (a : Int) : Int := if atG g a then ((toGn g).plA a.toNat : Int) else 0
def whV (g : Ge) (a : Int) : Value := .tuple #[.int .i64 (whI g a), .int .i64 (whJ g a), .int .i64 (whE g a)]
theorem inG_no {g : Ge} {i : Int} (h : inG g i = false) : cntG g i = 0 ∧ brsG g i = 0 := by unfold cntG brsG; rw [h]; exact ⟨rfl, rfl⟩
theorem inG_may {g : Ge} {i : Int} (h : inG g i = true) : mayG g = true := by
  have h1 := of_decide_eq_true h
  cases t : mayG g
  · rw [grpG_no t] at h1; omega
  · rfl
theorem inG_nat {g : Ge} {i : Int} (h : inG g i = true) : ∃ (n : Gn) (j : Nat), n.Ok ∧ g = n.ge ∧ i = (j : Int) ∧ j < n.grp := by
  obtain ⟨n, hn, rfl⟩ := may_nat (inG_may h)
  have h1 := of_decide_eq_true h
  rw [grpG_ok hn] at h1
  exact ⟨n, i.toNat, hn, rfl, by omega, by omega⟩
theorem inG_ok {n : Gn} (h : n.Ok) {j : Nat} (hj : j < n.grp) : inG n.ge (j : Int) = true := decide_eq_true (by rw [grpG_ok h]; omega)
theorem cntG_ok {n : Gn} (h : n.Ok) {j : Nat} (hj : j < n.grp) : cntG n.ge (j : Int) = n.cnt j := by unfold cntG; rw [inG_ok h hj, if_pos rfl, toGn_ge, Int.toNat_natCast]
theorem brsG_ok {n : Gn} (h : n.Ok) {j : Nat} (hj : j < n.grp) : brsG n.ge (j : Int) = n.brs j := by unfold brsG; rw [inG_ok h hj, if_pos rfl, toGn_ge, Int.toNat_natCast]
theorem secG_ok (n : Gn) (j p : Nat) : secG n.ge (j : Int) p = (n.sec j p : Int) := by unfold secG; rw [toGn_ge, Int.toNat_natCast]
theorem cntG_le (g : Ge) (i : Int) : cntG g i ≤ 24 := by
  cases t : inG g i
  · rw [(inG_no t).1]; omega
  · obtain ⟨n, j, hn, rfl, rfl, hj⟩ := inG_nat t
    rw [cntG_ok hn hj]
    exact Gn.cnt_le hn j
theorem whE_no {g : Ge} {a : Int} (h : mayG g = false) : whV g a = .tuple #[.int .i64 0, .int .i64 0, .int .i64 1] := by
  have : atG g a = false := decide_eq_false (by rw [totG_no h]; omega)
  unfold whV whI whJ whE
  rw [h, this]
  rfl
theorem whE_off {g : Ge} {a : Int} (h : mayG g = true) (k : atG g a = false) : whV g a = .tuple #[.int .i64 0, .int .i64 0, .int .i64 3] := by
  unfold whV whI whJ whE
  rw [h, k]
  rfl
theorem atG_nat {n : Gn} (h : n.Ok) {a : Int} (k : atG n.ge a = true) : ∃ b : Nat, a = (b : Int) ∧ b < n.tot := by
  have h1 := of_decide_eq_true k
  rw [totG_ok h] at h1
  exact ⟨a.toNat, by omega, by omega⟩
theorem atG_ok {n : Gn} (h : n.Ok) {b : Nat} (hb : b < n.tot) : atG n.ge (b : Int) = true := decide_eq_true (by rw [totG_ok h]; omega)
theorem whE_at {n : Gn} (h : n.Ok) {b : Nat} (hb : b < n.tot) : whV n.ge (b : Int) = .tuple #[.int .i64 (n.ofA b : Int), .int .i64 (n.plA b : Int), .int .i64 0] := by
  unfold whV whI whJ whE
  rw [ok_may h, atG_ok h hb, toGn_ge, Int.toNat_natCast]
  rfl
#print axioms whE_at
end Go.Proofs.Ytfbkfchibfiemaa
