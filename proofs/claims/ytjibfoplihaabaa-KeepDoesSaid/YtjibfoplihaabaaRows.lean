/-
  No cell of these rows narrows 'for every input' (looked for: loops, veiled, ifaces, maps, wideKeys, modest, calm, conditions, laid).
  DERIVED. THE GIVEN ROWS OF THIS SEAT. 4 by the template 'for every input the law returns true; each argument reads behind the call as it read before'; 0 by the template 'total and deterministic' (their statements: YtjibfoplihaabaaTotals.lean).
  GIVEN WITH THE SEED: the statements are not yours to turn. If you find one false, say at which input.
  Laid BY PROGRAM, IN A SANDBOX (cutbox-rows.mjs): the forced cells as the released guide's own fill.sh prints them over the translation 5f98bac6c2ad27b2… (all of the seat's roots in one cut). By AI agents, Wed Nov 11 2026. No macro, syntax, notation, axiom, sorry.
-/
import Derived.Test.YtjibfoplihaabaaChecked
import GoSem.Claim
import GoSem.ClaimJoined
import GoSem.ClaimMapViews
import Derived.JoinedTies
import Derived.KernelRfl
namespace Go.Proofs.Ytjibfoplihaabaa
/- THE CELL 'sum', in the pinned program and in every row, IS THE sha256 OF THE DUMP (.gsa) THAT YtjibfoplihaabaaProg.lean LOADS. Nothing in Lean hashes anything: it is a label: what it is worth is what the hold of that sum in a sandbox is worth. -/
noncomputable def Try.pinned : Pinned := { name := "ytjibfoplihaabaa", sum := "5f98bac6c2ad27b2706260100e42b021bf56d7085060a0f654c16a7762b27afa", checked := Try.checked }
namespace Rows
def none {H : Type} : Left H := { results := [], args := [] }

/-- 'quartermasterlaw09.KeepDoes': WHATEVER THE INPUT: true; the input reads as it did. -/
def keepDoesSpec : ChangeSpec := { name := "keepDoes", fn := fun _ => fun
  | [d1, d2, d3, d4] => { results := [.lit (.bool true)], args := [d1, d2, d3, d4] }
  | _ => none }
def keepDoesRow : OpenClaim := { program := "ytjibfoplihaabaa", sum := "5f98bac6c2ad27b2706260100e42b021bf56d7085060a0f654c16a7762b27afa", func := "quartermaster/quartermasterlaw09.KeepDoes", spec := "keepDoes", unfollowed := true, recurses := true, apart := false }
def KeepDoesSaid : Prop := keepDoesRow.holds Try.pinned (OpenSpec.ofChange keepDoesSpec)

/-- ITS FALSE NEIGHBOUR: 'it returns false'. Refute it at one input. -/
def keepDoesWrong : ChangeSpec := { name := "keepDoes", fn := fun _ => fun
  | [d1, d2, d3, d4] => { results := [.lit (.bool false)], args := [d1, d2, d3, d4] }
  | _ => none }
def KeepDoesWrongFalsely : Prop := keepDoesRow.holds Try.pinned (OpenSpec.ofChange keepDoesWrong)

/-- 'quartermasterlaw09.KeepPuts': WHATEVER THE INPUT: true; the input reads as it did. -/
def keepPutsSpec : ChangeSpec := { name := "keepPuts", fn := fun _ => fun
  | [d1, d2, d3, d4] => { results := [.lit (.bool true)], args := [d1, d2, d3, d4] }
  | _ => none }
def keepPutsRow : OpenClaim := { program := "ytjibfoplihaabaa", sum := "5f98bac6c2ad27b2706260100e42b021bf56d7085060a0f654c16a7762b27afa", func := "quartermaster/quartermasterlaw09.KeepPuts", spec := "keepPuts", unfollowed := true, recurses := true, apart := false }
def KeepPutsSaid : Prop := keepPutsRow.holds Try.pinned (OpenSpec.ofChange keepPutsSpec)

/-- ITS FALSE NEIGHBOUR: 'it returns false'. Refute it at one input. -/
def keepPutsWrong : ChangeSpec := { name := "keepPuts", fn := fun _ => fun
  | [d1, d2, d3, d4] => { results := [.lit (.bool false)], args := [d1, d2, d3, d4] }
  | _ => none }
def KeepPutsWrongFalsely : Prop := keepPutsRow.holds Try.pinned (OpenSpec.ofChange keepPutsWrong)

/-- 'quartermasterlaw09.KeepMends': WHATEVER THE INPUT: true; the input reads as it did. -/
def keepMendsSpec : ChangeSpec := { name := "keepMends", fn := fun _ => fun
  | [d1, d2] => { results := [.lit (.bool true)], args := [d1, d2] }
  | _ => none }
def keepMendsRow : OpenClaim := { program := "ytjibfoplihaabaa", sum := "5f98bac6c2ad27b2706260100e42b021bf56d7085060a0f654c16a7762b27afa", func := "quartermaster/quartermasterlaw09.KeepMends", spec := "keepMends", unfollowed := true, recurses := true, apart := false }
def KeepMendsSaid : Prop := keepMendsRow.holds Try.pinned (OpenSpec.ofChange keepMendsSpec)

/-- ITS FALSE NEIGHBOUR: 'it returns false'. Refute it at one input. -/
def keepMendsWrong : ChangeSpec := { name := "keepMends", fn := fun _ => fun
  | [d1, d2] => { results := [.lit (.bool false)], args := [d1, d2] }
  | _ => none }
def KeepMendsWrongFalsely : Prop := keepMendsRow.holds Try.pinned (OpenSpec.ofChange keepMendsWrong)

/-- 'quartermasterlaw09.KeepEach': WHATEVER THE INPUT: true; the input reads as it did. -/
def keepEachSpec : ChangeSpec := { name := "keepEach", fn := fun _ => fun
  | [d1, d2, d3] => { results := [.lit (.bool true)], args := [d1, d2, d3] }
  | _ => none }
def keepEachRow : OpenClaim := { program := "ytjibfoplihaabaa", sum := "5f98bac6c2ad27b2706260100e42b021bf56d7085060a0f654c16a7762b27afa", func := "quartermaster/quartermasterlaw09.KeepEach", spec := "keepEach", unfollowed := true, recurses := true, apart := false }
def KeepEachSaid : Prop := keepEachRow.holds Try.pinned (OpenSpec.ofChange keepEachSpec)

/-- ITS FALSE NEIGHBOUR: 'it returns false'. Refute it at one input. -/
def keepEachWrong : ChangeSpec := { name := "keepEach", fn := fun _ => fun
  | [d1, d2, d3] => { results := [.lit (.bool false)], args := [d1, d2, d3] }
  | _ => none }
def KeepEachWrongFalsely : Prop := keepEachRow.holds Try.pinned (OpenSpec.ofChange keepEachWrong)

/- THE SECOND FORM. 'bulk': how many values and letters a reading holds, each counted each time it is reached (what is shared counts as often as it is met; a slice's spare places count too). A statement '..UptoSaid' is the law's where the arguments, and the package variables that the reading takes, are together of bulk at most 1048576: NARROWER than '..Said'. Prove '..Said' where nothing that the law and all that it calls make is longer than what came in: it says more and counts as full. Else prove '..UptoSaid'. A law counts once. -/
mutual
def uptoBulk {H : Type} : DataW H → Nat
  | .lit (.string bytes) => bytes.length + 1
  | .lit _ => 1
  | .nil => 1
  | .ptr d => uptoBulk d + 1
  | .slice elems spare => uptoBulkAll elems + uptoBulkAll spare + 1
  | .agg parts => uptoBulkAll parts + 1
  | .iface _ d => uptoBulk d + 1
  | .map entries => uptoBulkEntries entries + 1
  | .held _ => 1
def uptoBulkAll {H : Type} : List (DataW H) → Nat
  | [] => 0
  | d :: r => uptoBulk d + uptoBulkAll r
def uptoBulkEntries {H : Type} : List (Lit × DataW H) → Nat
  | [] => 0
  | x :: r => uptoBulkEntry x + uptoBulkEntries r
def uptoBulkEntry {H : Type} : Lit × DataW H → Nat
  | (.string bytes, d) => bytes.length + uptoBulk d + 1
  | (_, d) => uptoBulk d + 1
 end
def uptoSmall : (H : Type) → List (DataW H) → Bool := fun _ ds => decide (uptoBulkAll ds ≤ 1048576)
def OpenSpec.upto (s : _root_.Go.ChangeSpec) : _root_.Go.OpenSpec := { _root_.Go.OpenSpec.ofChange s with cond := some uptoSmall }

/-- 'quartermasterlaw09.KeepDoes', WHERE WHAT IT READS IS OF BULK AT MOST 1048576: true; the input reads as it did. -/
def keepDoesUptoRow : OpenClaim := { program := "ytjibfoplihaabaa", sum := "5f98bac6c2ad27b2706260100e42b021bf56d7085060a0f654c16a7762b27afa", func := "quartermaster/quartermasterlaw09.KeepDoes", spec := "keepDoes", unfollowed := true, recurses := true, apart := false, narrowed := true }
def KeepDoesUptoSaid : Prop := keepDoesUptoRow.holds Try.pinned (OpenSpec.upto keepDoesSpec)

/-- 'quartermasterlaw09.KeepPuts', WHERE WHAT IT READS IS OF BULK AT MOST 1048576: true; the input reads as it did. -/
def keepPutsUptoRow : OpenClaim := { program := "ytjibfoplihaabaa", sum := "5f98bac6c2ad27b2706260100e42b021bf56d7085060a0f654c16a7762b27afa", func := "quartermaster/quartermasterlaw09.KeepPuts", spec := "keepPuts", unfollowed := true, recurses := true, apart := false, narrowed := true }
def KeepPutsUptoSaid : Prop := keepPutsUptoRow.holds Try.pinned (OpenSpec.upto keepPutsSpec)

/-- 'quartermasterlaw09.KeepMends', WHERE WHAT IT READS IS OF BULK AT MOST 1048576: true; the input reads as it did. -/
def keepMendsUptoRow : OpenClaim := { program := "ytjibfoplihaabaa", sum := "5f98bac6c2ad27b2706260100e42b021bf56d7085060a0f654c16a7762b27afa", func := "quartermaster/quartermasterlaw09.KeepMends", spec := "keepMends", unfollowed := true, recurses := true, apart := false, narrowed := true }
def KeepMendsUptoSaid : Prop := keepMendsUptoRow.holds Try.pinned (OpenSpec.upto keepMendsSpec)

/-- 'quartermasterlaw09.KeepEach', WHERE WHAT IT READS IS OF BULK AT MOST 1048576: true; the input reads as it did. -/
def keepEachUptoRow : OpenClaim := { program := "ytjibfoplihaabaa", sum := "5f98bac6c2ad27b2706260100e42b021bf56d7085060a0f654c16a7762b27afa", func := "quartermaster/quartermasterlaw09.KeepEach", spec := "keepEach", unfollowed := true, recurses := true, apart := false, narrowed := true }
def KeepEachUptoSaid : Prop := keepEachUptoRow.holds Try.pinned (OpenSpec.upto keepEachSpec)

end Rows
end Go.Proofs.Ytjibfoplihaabaa
