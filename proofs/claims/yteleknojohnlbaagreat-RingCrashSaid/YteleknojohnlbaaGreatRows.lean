/-
  No cell of these rows narrows 'for every input' (looked for: loops, veiled, ifaces, maps, wideKeys, modest, calm, conditions, laid).
  DERIVED. THE GIVEN ROWS OF THIS SEAT. 8 by the template 'for every input the law returns true; each argument reads behind the call as it read before'; 0 by the template 'total and deterministic' (their statements: YteleknojohnlbaaGreatTotals.lean).
  GIVEN WITH THE SEED: the statements are not yours to turn. If you find one false, say at which input.
  Laid BY PROGRAM, IN A SANDBOX (cutbox-rows.mjs): the forced cells as the released guide's own fill.sh prints them over the translation 0c91d7e4a9c16454… (all of the seat's roots in one cut). By AI agents, Wed Nov 11 2026. No macro, syntax, notation, axiom, sorry.
-/
import Derived.Test.YteleknojohnlbaaGreatChecked
import GoSem.Claim
import GoSem.ClaimJoined
import GoSem.ClaimMapViews
import Derived.JoinedTies
import Derived.KernelRfl
namespace Go.Proofs.YteleknojohnlbaaGreat
/- THE CELL 'sum', in the pinned program and in every row, IS THE sha256 OF THE DUMP (.gsa) THAT YteleknojohnlbaaGreatProg.lean LOADS. Nothing in Lean hashes anything: it is a label: what it is worth is what the hold of that sum in a sandbox is worth. -/
noncomputable def Tryz.pinned : Pinned := { name := "yteleknojohnlbaagreat", sum := "0c91d7e4a9c164549c649b809604fef3e2d535ffab71b86d37294f4533dc4255", checked := Tryz.checked }
namespace Rows
def none {H : Type} : Left H := { results := [], args := [] }

/-- 'quartermasterlaw11.RingTells': WHATEVER THE INPUT: true; the input reads as it did. -/
def ringTellsSpec : ChangeSpec := { name := "ringTells", fn := fun _ => fun
  | [d1, d2, d3, d4, d5, d6] => { results := [.lit (.bool true)], args := [d1, d2, d3, d4, d5, d6] }
  | _ => none }
def ringTellsRow : OpenClaim := { program := "yteleknojohnlbaagreat", sum := "0c91d7e4a9c164549c649b809604fef3e2d535ffab71b86d37294f4533dc4255", func := "quartermaster/quartermasterlaw11.RingTells", spec := "ringTells", unfollowed := true, recurses := true, apart := false }
def RingTellsSaid : Prop := ringTellsRow.holds Tryz.pinned (OpenSpec.ofChange ringTellsSpec)

/-- ITS FALSE NEIGHBOUR: 'it returns false'. Refute it at one input. -/
def ringTellsWrong : ChangeSpec := { name := "ringTells", fn := fun _ => fun
  | [d1, d2, d3, d4, d5, d6] => { results := [.lit (.bool false)], args := [d1, d2, d3, d4, d5, d6] }
  | _ => none }
def RingTellsWrongFalsely : Prop := ringTellsRow.holds Tryz.pinned (OpenSpec.ofChange ringTellsWrong)

/-- 'quartermasterlaw11.RingFollows': WHATEVER THE INPUT: true; the input reads as it did. -/
def ringFollowsSpec : ChangeSpec := { name := "ringFollows", fn := fun _ => fun
  | [d1, d2, d3, d4, d5, d6] => { results := [.lit (.bool true)], args := [d1, d2, d3, d4, d5, d6] }
  | _ => none }
def ringFollowsRow : OpenClaim := { program := "yteleknojohnlbaagreat", sum := "0c91d7e4a9c164549c649b809604fef3e2d535ffab71b86d37294f4533dc4255", func := "quartermaster/quartermasterlaw11.RingFollows", spec := "ringFollows", unfollowed := true, recurses := true, apart := false }
def RingFollowsSaid : Prop := ringFollowsRow.holds Tryz.pinned (OpenSpec.ofChange ringFollowsSpec)

/-- ITS FALSE NEIGHBOUR: 'it returns false'. Refute it at one input. -/
def ringFollowsWrong : ChangeSpec := { name := "ringFollows", fn := fun _ => fun
  | [d1, d2, d3, d4, d5, d6] => { results := [.lit (.bool false)], args := [d1, d2, d3, d4, d5, d6] }
  | _ => none }
def RingFollowsWrongFalsely : Prop := ringFollowsRow.holds Tryz.pinned (OpenSpec.ofChange ringFollowsWrong)

/-- 'quartermasterlaw11.RingLeft': WHATEVER THE INPUT: true; the input reads as it did. -/
def ringLeftSpec : ChangeSpec := { name := "ringLeft", fn := fun _ => fun
  | [d1, d2, d3, d4, d5] => { results := [.lit (.bool true)], args := [d1, d2, d3, d4, d5] }
  | _ => none }
def ringLeftRow : OpenClaim := { program := "yteleknojohnlbaagreat", sum := "0c91d7e4a9c164549c649b809604fef3e2d535ffab71b86d37294f4533dc4255", func := "quartermaster/quartermasterlaw11.RingLeft", spec := "ringLeft", unfollowed := true, recurses := true, apart := false }
def RingLeftSaid : Prop := ringLeftRow.holds Tryz.pinned (OpenSpec.ofChange ringLeftSpec)

/-- ITS FALSE NEIGHBOUR: 'it returns false'. Refute it at one input. -/
def ringLeftWrong : ChangeSpec := { name := "ringLeft", fn := fun _ => fun
  | [d1, d2, d3, d4, d5] => { results := [.lit (.bool false)], args := [d1, d2, d3, d4, d5] }
  | _ => none }
def RingLeftWrongFalsely : Prop := ringLeftRow.holds Tryz.pinned (OpenSpec.ofChange ringLeftWrong)

/-- 'quartermasterlaw11.RingBoth': WHATEVER THE INPUT: true; the input reads as it did. -/
def ringBothSpec : ChangeSpec := { name := "ringBoth", fn := fun _ => fun
  | [d1, d2, d3] => { results := [.lit (.bool true)], args := [d1, d2, d3] }
  | _ => none }
def ringBothRow : OpenClaim := { program := "yteleknojohnlbaagreat", sum := "0c91d7e4a9c164549c649b809604fef3e2d535ffab71b86d37294f4533dc4255", func := "quartermaster/quartermasterlaw11.RingBoth", spec := "ringBoth", unfollowed := true, recurses := true, apart := false }
def RingBothSaid : Prop := ringBothRow.holds Tryz.pinned (OpenSpec.ofChange ringBothSpec)

/-- ITS FALSE NEIGHBOUR: 'it returns false'. Refute it at one input. -/
def ringBothWrong : ChangeSpec := { name := "ringBoth", fn := fun _ => fun
  | [d1, d2, d3] => { results := [.lit (.bool false)], args := [d1, d2, d3] }
  | _ => none }
def RingBothWrongFalsely : Prop := ringBothRow.holds Tryz.pinned (OpenSpec.ofChange ringBothWrong)

/-- 'quartermasterlaw11.RingCrash': WHATEVER THE INPUT: true; the input reads as it did. -/
def ringCrashSpec : ChangeSpec := { name := "ringCrash", fn := fun _ => fun
  | [d1, d2, d3, d4] => { results := [.lit (.bool true)], args := [d1, d2, d3, d4] }
  | _ => none }
def ringCrashRow : OpenClaim := { program := "yteleknojohnlbaagreat", sum := "0c91d7e4a9c164549c649b809604fef3e2d535ffab71b86d37294f4533dc4255", func := "quartermaster/quartermasterlaw11.RingCrash", spec := "ringCrash", unfollowed := true, recurses := true, apart := false }
def RingCrashSaid : Prop := ringCrashRow.holds Tryz.pinned (OpenSpec.ofChange ringCrashSpec)

/-- ITS FALSE NEIGHBOUR: 'it returns false'. Refute it at one input. -/
def ringCrashWrong : ChangeSpec := { name := "ringCrash", fn := fun _ => fun
  | [d1, d2, d3, d4] => { results := [.lit (.bool false)], args := [d1, d2, d3, d4] }
  | _ => none }
def RingCrashWrongFalsely : Prop := ringCrashRow.holds Tryz.pinned (OpenSpec.ofChange ringCrashWrong)

/-- 'quartermasterlaw11.RingLimits': WHATEVER THE INPUT: true; the input reads as it did. -/
def ringLimitsSpec : ChangeSpec := { name := "ringLimits", fn := fun _ => fun
  | [d1, d2] => { results := [.lit (.bool true)], args := [d1, d2] }
  | _ => none }
def ringLimitsRow : OpenClaim := { program := "yteleknojohnlbaagreat", sum := "0c91d7e4a9c164549c649b809604fef3e2d535ffab71b86d37294f4533dc4255", func := "quartermaster/quartermasterlaw11.RingLimits", spec := "ringLimits", unfollowed := true, recurses := true, apart := false }
def RingLimitsSaid : Prop := ringLimitsRow.holds Tryz.pinned (OpenSpec.ofChange ringLimitsSpec)

/-- ITS FALSE NEIGHBOUR: 'it returns false'. Refute it at one input. -/
def ringLimitsWrong : ChangeSpec := { name := "ringLimits", fn := fun _ => fun
  | [d1, d2] => { results := [.lit (.bool false)], args := [d1, d2] }
  | _ => none }
def RingLimitsWrongFalsely : Prop := ringLimitsRow.holds Tryz.pinned (OpenSpec.ofChange ringLimitsWrong)

/-- 'quartermasterlaw11.RingNew': WHATEVER THE INPUT: true; the input reads as it did. -/
def ringNewSpec : ChangeSpec := { name := "ringNew", fn := fun _ => fun
  | [d1, d2, d3, d4, d5, d6, d7] => { results := [.lit (.bool true)], args := [d1, d2, d3, d4, d5, d6, d7] }
  | _ => none }
def ringNewRow : OpenClaim := { program := "yteleknojohnlbaagreat", sum := "0c91d7e4a9c164549c649b809604fef3e2d535ffab71b86d37294f4533dc4255", func := "quartermaster/quartermasterlaw11.RingNew", spec := "ringNew", unfollowed := true, recurses := true, apart := false }
def RingNewSaid : Prop := ringNewRow.holds Tryz.pinned (OpenSpec.ofChange ringNewSpec)

/-- ITS FALSE NEIGHBOUR: 'it returns false'. Refute it at one input. -/
def ringNewWrong : ChangeSpec := { name := "ringNew", fn := fun _ => fun
  | [d1, d2, d3, d4, d5, d6, d7] => { results := [.lit (.bool false)], args := [d1, d2, d3, d4, d5, d6, d7] }
  | _ => none }
def RingNewWrongFalsely : Prop := ringNewRow.holds Tryz.pinned (OpenSpec.ofChange ringNewWrong)

/-- 'quartermasterlaw11.RingOne': WHATEVER THE INPUT: true; the input reads as it did. -/
def ringOneSpec : ChangeSpec := { name := "ringOne", fn := fun _ => fun
  | [d1, d2, d3, d4, d5] => { results := [.lit (.bool true)], args := [d1, d2, d3, d4, d5] }
  | _ => none }
def ringOneRow : OpenClaim := { program := "yteleknojohnlbaagreat", sum := "0c91d7e4a9c164549c649b809604fef3e2d535ffab71b86d37294f4533dc4255", func := "quartermaster/quartermasterlaw11.RingOne", spec := "ringOne", unfollowed := true, recurses := true, apart := false }
def RingOneSaid : Prop := ringOneRow.holds Tryz.pinned (OpenSpec.ofChange ringOneSpec)

/-- ITS FALSE NEIGHBOUR: 'it returns false'. Refute it at one input. -/
def ringOneWrong : ChangeSpec := { name := "ringOne", fn := fun _ => fun
  | [d1, d2, d3, d4, d5] => { results := [.lit (.bool false)], args := [d1, d2, d3, d4, d5] }
  | _ => none }
def RingOneWrongFalsely : Prop := ringOneRow.holds Tryz.pinned (OpenSpec.ofChange ringOneWrong)

/- THE SECOND FORM. 'bulk': how many values and letters a reading holds, each counted each time it is reached (what is shared counts as often as it is met; a slice's spare places count too). A statement '..UptoSaid' is the law's where the arguments, and the package variables that the reading takes, are together of bulk at most 1048576: NARROWER than '..Said'. Prove '..Said' where nothing that the law and all that it calls make is longer than what came in: it says more and counts as full. Else prove '..UptoSaid'. A law counts once. -/
mutual
def uptoBulk {H : Type} : DataW H → Nat
  | .lit (.string bytes) => bytes.length + 1
  | .lit _ => 1
  | .nil => 1
  | .ptr d => uptoBulk d + 1
  | .slice elems spare => uptoBulkAll elems + uptoBulkAll spare + 1
  | .agg parts => uptoBulkAll parts + 1
  | .iface _ d => uptoBulk d + 1
  | .map entries => uptoBulkEntries entries + 1
  | .held _ => 1
def uptoBulkAll {H : Type} : List (DataW H) → Nat
  | [] => 0
  | d :: r => uptoBulk d + uptoBulkAll r
def uptoBulkEntries {H : Type} : List (Lit × DataW H) → Nat
  | [] => 0
  | x :: r => uptoBulkEntry x + uptoBulkEntries r
def uptoBulkEntry {H : Type} : Lit × DataW H → Nat
  | (.string bytes, d) => bytes.length + uptoBulk d + 1
  | (_, d) => uptoBulk d + 1
 end
def uptoSmall : (H : Type) → List (DataW H) → Bool := fun _ ds => decide (uptoBulkAll ds ≤ 1048576)
def OpenSpec.upto (s : _root_.Go.ChangeSpec) : _root_.Go.OpenSpec := { _root_.Go.OpenSpec.ofChange s with cond := some uptoSmall }

/-- 'quartermasterlaw11.RingTells', WHERE WHAT IT READS IS OF BULK AT MOST 1048576: true; the input reads as it did. -/
def ringTellsUptoRow : OpenClaim := { program := "yteleknojohnlbaagreat", sum := "0c91d7e4a9c164549c649b809604fef3e2d535ffab71b86d37294f4533dc4255", func := "quartermaster/quartermasterlaw11.RingTells", spec := "ringTells", unfollowed := true, recurses := true, apart := false, narrowed := true }
def RingTellsUptoSaid : Prop := ringTellsUptoRow.holds Tryz.pinned (OpenSpec.upto ringTellsSpec)

/-- 'quartermasterlaw11.RingFollows', WHERE WHAT IT READS IS OF BULK AT MOST 1048576: true; the input reads as it did. -/
def ringFollowsUptoRow : OpenClaim := { program := "yteleknojohnlbaagreat", sum := "0c91d7e4a9c164549c649b809604fef3e2d535ffab71b86d37294f4533dc4255", func := "quartermaster/quartermasterlaw11.RingFollows", spec := "ringFollows", unfollowed := true, recurses := true, apart := false, narrowed := true }
def RingFollowsUptoSaid : Prop := ringFollowsUptoRow.holds Tryz.pinned (OpenSpec.upto ringFollowsSpec)

/-- 'quartermasterlaw11.RingLeft', WHERE WHAT IT READS IS OF BULK AT MOST 1048576: true; the input reads as it did. -/
def ringLeftUptoRow : OpenClaim := { program := "yteleknojohnlbaagreat", sum := "0c91d7e4a9c164549c649b809604fef3e2d535ffab71b86d37294f4533dc4255", func := "quartermaster/quartermasterlaw11.RingLeft", spec := "ringLeft", unfollowed := true, recurses := true, apart := false, narrowed := true }
def RingLeftUptoSaid : Prop := ringLeftUptoRow.holds Tryz.pinned (OpenSpec.upto ringLeftSpec)

/-- 'quartermasterlaw11.RingBoth', WHERE WHAT IT READS IS OF BULK AT MOST 1048576: true; the input reads as it did. -/
def ringBothUptoRow : OpenClaim := { program := "yteleknojohnlbaagreat", sum := "0c91d7e4a9c164549c649b809604fef3e2d535ffab71b86d37294f4533dc4255", func := "quartermaster/quartermasterlaw11.RingBoth", spec := "ringBoth", unfollowed := true, recurses := true, apart := false, narrowed := true }
def RingBothUptoSaid : Prop := ringBothUptoRow.holds Tryz.pinned (OpenSpec.upto ringBothSpec)

/-- 'quartermasterlaw11.RingCrash', WHERE WHAT IT READS IS OF BULK AT MOST 1048576: true; the input reads as it did. -/
def ringCrashUptoRow : OpenClaim := { program := "yteleknojohnlbaagreat", sum := "0c91d7e4a9c164549c649b809604fef3e2d535ffab71b86d37294f4533dc4255", func := "quartermaster/quartermasterlaw11.RingCrash", spec := "ringCrash", unfollowed := true, recurses := true, apart := false, narrowed := true }
def RingCrashUptoSaid : Prop := ringCrashUptoRow.holds Tryz.pinned (OpenSpec.upto ringCrashSpec)

/-- 'quartermasterlaw11.RingLimits', WHERE WHAT IT READS IS OF BULK AT MOST 1048576: true; the input reads as it did. -/
def ringLimitsUptoRow : OpenClaim := { program := "yteleknojohnlbaagreat", sum := "0c91d7e4a9c164549c649b809604fef3e2d535ffab71b86d37294f4533dc4255", func := "quartermaster/quartermasterlaw11.RingLimits", spec := "ringLimits", unfollowed := true, recurses := true, apart := false, narrowed := true }
def RingLimitsUptoSaid : Prop := ringLimitsUptoRow.holds Tryz.pinned (OpenSpec.upto ringLimitsSpec)

/-- 'quartermasterlaw11.RingNew', WHERE WHAT IT READS IS OF BULK AT MOST 1048576: true; the input reads as it did. -/
def ringNewUptoRow : OpenClaim := { program := "yteleknojohnlbaagreat", sum := "0c91d7e4a9c164549c649b809604fef3e2d535ffab71b86d37294f4533dc4255", func := "quartermaster/quartermasterlaw11.RingNew", spec := "ringNew", unfollowed := true, recurses := true, apart := false, narrowed := true }
def RingNewUptoSaid : Prop := ringNewUptoRow.holds Tryz.pinned (OpenSpec.upto ringNewSpec)

/-- 'quartermasterlaw11.RingOne', WHERE WHAT IT READS IS OF BULK AT MOST 1048576: true; the input reads as it did. -/
def ringOneUptoRow : OpenClaim := { program := "yteleknojohnlbaagreat", sum := "0c91d7e4a9c164549c649b809604fef3e2d535ffab71b86d37294f4533dc4255", func := "quartermaster/quartermasterlaw11.RingOne", spec := "ringOne", unfollowed := true, recurses := true, apart := false, narrowed := true }
def RingOneUptoSaid : Prop := ringOneUptoRow.holds Tryz.pinned (OpenSpec.upto ringOneSpec)

end Rows
end Go.Proofs.YteleknojohnlbaaGreat
