/-
  The four laws of keep, said of what is handed in.
-/
import Derived.Test.YtjibfoplihaabaaMg44
import Derived.Test.YtjibfoplihaabaaMg45
import Derived.Test.YtjibfoplihaabaaMg46
import Derived.Test.YtjibfoplihaabaaMg47
import Derived.Test.YtjibfoplihaabaaMg48
import Derived.Test.YtjibfoplihaabaaMg36
namespace Go.Proofs.Ytjibfoplihaabaa
open Go.RowKit
set_option linter.unusedVariables false
set_option maxRecDepth 100000

theorem keepDoes_of {A A2 A3 : Option Addr} {m C n C2 k C3 : Nat} {g : Nat → Fa} {l r : Nat → WantD} (die : Int) (w : World) (hf : RowF w A m g) (hd : -9223372036854775808 ≤ die ∧ die ≤ 9223372036854775807) (hl : RowW w A2 n l) (hr : RowW w A3 k r) :
    Calls Try.prog 3 #[.slice A m C, .int .i64 die, .slice A2 n C2, .slice A3 k C3] w (Told w) := keepDoes_any keepC A A2 A3 m C n C2 k C3 g die l r w hf hd hl hr
theorem keepPuts_of (a b x : Int) {A : Option Addr} {n C : Nat} {q : Nat → Int} (w : World) (ha : -9223372036854775808 ≤ a ∧ a ≤ 9223372036854775807) (hb : 0 ≤ b ∧ b < 256) (hx : -9223372036854775808 ≤ x ∧ x ≤ 9223372036854775807) (h : IntV w (.slice A n C) n q ∧ ∀ i, i < n → I64 (q i)) :
    Calls Try.prog 4 #[.int .i64 a, .int .u8 b, .int .i64 x, .slice A n C] w (Told w) := by
  obtain ⟨c, rfl⟩ : ∃ c : Nat, b = (c : Int) := ⟨b.toNat, by omega⟩
  exact keepPuts_any keepC a c x A n C q w ha (by omega) hx h.1 h.2
theorem keepMends_of {A : Option Addr} {m C : Nat} {g : Nat → Fa} (b : Int) (w : World) (hf : RowF w A m g) (hb : 0 ≤ b ∧ b < 256) :
    Calls Try.prog 5 #[.slice A m C, .int .u8 b] w (Told w) := by
  obtain ⟨c, rfl⟩ : ∃ c : Nat, b = (c : Int) := ⟨b.toNat, by omega⟩
  exact keepMends_any keepC A m C g c w hf (by omega)
theorem keepEach_of {A A2 : Option Addr} {m C n C2 : Nat} {g : Nat → Fa} {l : Nat → WantD} (die : Int) (w : World) (hf : RowF w A m g) (hd : -9223372036854775808 ≤ die ∧ die ≤ 9223372036854775807) (hl : RowW w A2 n l) :
    Calls Try.prog 6 #[.slice A m C, .int .i64 die, .slice A2 n C2] w (Told w) := keepEach_any keepC A A2 m C n C2 g die l w hf hd hl
#print axioms keepDoes_of
end Go.Proofs.Ytjibfoplihaabaa
