/-
  No cell of these rows narrows 'for every input' (looked for: loops, veiled, ifaces, maps, wideKeys, modest, calm, conditions, laid).
  DERIVED. THE GIVEN ROWS OF THIS SEAT. 6 by the template 'for every input the law returns true; each argument reads behind the call as it read before'; 0 by the template 'total and deterministic' (their statements: YtlbdopcchoklhaaGreatTotals.lean).
  GIVEN WITH THE SEED: the statements are not yours to turn. If you find one false, say at which input.
  Laid BY PROGRAM, IN A SANDBOX (cutbox-rows.mjs): the forced cells as the released guide's own fill.sh prints them over the translation d6091ed866b8a344… (all of the seat's roots in one cut). By AI agents, Wed Nov 11 2026. No macro, syntax, notation, axiom, sorry.
-/
import Derived.Test.YtlbdopcchoklhaaGreatChecked
import GoSem.Claim
import GoSem.ClaimJoined
import GoSem.ClaimMapViews
import Derived.JoinedTies
import Derived.KernelRfl
namespace Go.Proofs.YtlbdopcchoklhaaGreat
/- THE CELL 'sum', in the pinned program and in every row, IS THE sha256 OF THE DUMP (.gsa) THAT YtlbdopcchoklhaaGreatProg.lean LOADS. Nothing in Lean hashes anything: it is a label: what it is worth is what the hold of that sum in a sandbox is worth. -/
noncomputable def Tryz.pinned : Pinned := { name := "ytlbdopcchoklhaagreat", sum := "d6091ed866b8a344ca3c907a2f4c8e980f38a7a76122c7189b1575c14e2324d8", checked := Tryz.checked }
namespace Rows
def none {H : Type} : Left H := { results := [], args := [] }

/-- 'quartermasterlaw12.SnapPuts': WHATEVER THE INPUT: true; the input reads as it did. -/
def snapPutsSpec : ChangeSpec := { name := "snapPuts", fn := fun _ => fun
  | [d1, d2, d3, d4, d5, d6, d7] => { results := [.lit (.bool true)], args := [d1, d2, d3, d4, d5, d6, d7] }
  | _ => none }
def snapPutsRow : OpenClaim := { program := "ytlbdopcchoklhaagreat", sum := "d6091ed866b8a344ca3c907a2f4c8e980f38a7a76122c7189b1575c14e2324d8", func := "quartermaster/quartermasterlaw12.SnapPuts", spec := "snapPuts", unfollowed := true, recurses := true, apart := false }
def SnapPutsSaid : Prop := snapPutsRow.holds Tryz.pinned (OpenSpec.ofChange snapPutsSpec)

/-- ITS FALSE NEIGHBOUR: 'it returns false'. Refute it at one input. -/
def snapPutsWrong : ChangeSpec := { name := "snapPuts", fn := fun _ => fun
  | [d1, d2, d3, d4, d5, d6, d7] => { results := [.lit (.bool false)], args := [d1, d2, d3, d4, d5, d6, d7] }
  | _ => none }
def SnapPutsWrongFalsely : Prop := snapPutsRow.holds Tryz.pinned (OpenSpec.ofChange snapPutsWrong)

/-- 'quartermasterlaw12.SnapStripes': WHATEVER THE INPUT: true; the input reads as it did. -/
def snapStripesSpec : ChangeSpec := { name := "snapStripes", fn := fun _ => fun
  | [d1, d2, d3, d4, d5, d6] => { results := [.lit (.bool true)], args := [d1, d2, d3, d4, d5, d6] }
  | _ => none }
def snapStripesRow : OpenClaim := { program := "ytlbdopcchoklhaagreat", sum := "d6091ed866b8a344ca3c907a2f4c8e980f38a7a76122c7189b1575c14e2324d8", func := "quartermaster/quartermasterlaw12.SnapStripes", spec := "snapStripes", unfollowed := true, recurses := true, apart := false }
def SnapStripesSaid : Prop := snapStripesRow.holds Tryz.pinned (OpenSpec.ofChange snapStripesSpec)

/-- ITS FALSE NEIGHBOUR: 'it returns false'. Refute it at one input. -/
def snapStripesWrong : ChangeSpec := { name := "snapStripes", fn := fun _ => fun
  | [d1, d2, d3, d4, d5, d6] => { results := [.lit (.bool false)], args := [d1, d2, d3, d4, d5, d6] }
  | _ => none }
def SnapStripesWrongFalsely : Prop := snapStripesRow.holds Tryz.pinned (OpenSpec.ofChange snapStripesWrong)

/-- 'quartermasterlaw12.SnapLeft': WHATEVER THE INPUT: true; the input reads as it did. -/
def snapLeftSpec : ChangeSpec := { name := "snapLeft", fn := fun _ => fun
  | [d1, d2, d3, d4, d5] => { results := [.lit (.bool true)], args := [d1, d2, d3, d4, d5] }
  | _ => none }
def snapLeftRow : OpenClaim := { program := "ytlbdopcchoklhaagreat", sum := "d6091ed866b8a344ca3c907a2f4c8e980f38a7a76122c7189b1575c14e2324d8", func := "quartermaster/quartermasterlaw12.SnapLeft", spec := "snapLeft", unfollowed := true, recurses := true, apart := false }
def SnapLeftSaid : Prop := snapLeftRow.holds Tryz.pinned (OpenSpec.ofChange snapLeftSpec)

/-- ITS FALSE NEIGHBOUR: 'it returns false'. Refute it at one input. -/
def snapLeftWrong : ChangeSpec := { name := "snapLeft", fn := fun _ => fun
  | [d1, d2, d3, d4, d5] => { results := [.lit (.bool false)], args := [d1, d2, d3, d4, d5] }
  | _ => none }
def SnapLeftWrongFalsely : Prop := snapLeftRow.holds Tryz.pinned (OpenSpec.ofChange snapLeftWrong)

/-- 'quartermasterlaw12.SnapOld': WHATEVER THE INPUT: true; the input reads as it did. -/
def snapOldSpec : ChangeSpec := { name := "snapOld", fn := fun _ => fun
  | [d1, d2, d3, d4, d5] => { results := [.lit (.bool true)], args := [d1, d2, d3, d4, d5] }
  | _ => none }
def snapOldRow : OpenClaim := { program := "ytlbdopcchoklhaagreat", sum := "d6091ed866b8a344ca3c907a2f4c8e980f38a7a76122c7189b1575c14e2324d8", func := "quartermaster/quartermasterlaw12.SnapOld", spec := "snapOld", unfollowed := true, recurses := true, apart := false }
def SnapOldSaid : Prop := snapOldRow.holds Tryz.pinned (OpenSpec.ofChange snapOldSpec)

/-- ITS FALSE NEIGHBOUR: 'it returns false'. Refute it at one input. -/
def snapOldWrong : ChangeSpec := { name := "snapOld", fn := fun _ => fun
  | [d1, d2, d3, d4, d5] => { results := [.lit (.bool false)], args := [d1, d2, d3, d4, d5] }
  | _ => none }
def SnapOldWrongFalsely : Prop := snapOldRow.holds Tryz.pinned (OpenSpec.ofChange snapOldWrong)

/-- 'quartermasterlaw12.SnapArgs': WHATEVER THE INPUT: true; the input reads as it did. -/
def snapArgsSpec : ChangeSpec := { name := "snapArgs", fn := fun _ => fun
  | [d1, d2, d3, d4] => { results := [.lit (.bool true)], args := [d1, d2, d3, d4] }
  | _ => none }
def snapArgsRow : OpenClaim := { program := "ytlbdopcchoklhaagreat", sum := "d6091ed866b8a344ca3c907a2f4c8e980f38a7a76122c7189b1575c14e2324d8", func := "quartermaster/quartermasterlaw12.SnapArgs", spec := "snapArgs", unfollowed := true, recurses := true, apart := false }
def SnapArgsSaid : Prop := snapArgsRow.holds Tryz.pinned (OpenSpec.ofChange snapArgsSpec)

/-- ITS FALSE NEIGHBOUR: 'it returns false'. Refute it at one input. -/
def snapArgsWrong : ChangeSpec := { name := "snapArgs", fn := fun _ => fun
  | [d1, d2, d3, d4] => { results := [.lit (.bool false)], args := [d1, d2, d3, d4] }
  | _ => none }
def SnapArgsWrongFalsely : Prop := snapArgsRow.holds Tryz.pinned (OpenSpec.ofChange snapArgsWrong)

/-- 'quartermasterlaw12.SnapAreas': WHATEVER THE INPUT: true; the input reads as it did. -/
def snapAreasSpec : ChangeSpec := { name := "snapAreas", fn := fun _ => fun
  | [d] => { results := [.lit (.bool true)], args := [d] }
  | _ => none }
def snapAreasRow : OpenClaim := { program := "ytlbdopcchoklhaagreat", sum := "d6091ed866b8a344ca3c907a2f4c8e980f38a7a76122c7189b1575c14e2324d8", func := "quartermaster/quartermasterlaw12.SnapAreas", spec := "snapAreas", unfollowed := true, recurses := true, apart := false }
def SnapAreasSaid : Prop := snapAreasRow.holds Tryz.pinned (OpenSpec.ofChange snapAreasSpec)

/-- ITS FALSE NEIGHBOUR: 'it returns false'. Refute it at one input. -/
def snapAreasWrong : ChangeSpec := { name := "snapAreas", fn := fun _ => fun
  | [d] => { results := [.lit (.bool false)], args := [d] }
  | _ => none }
def SnapAreasWrongFalsely : Prop := snapAreasRow.holds Tryz.pinned (OpenSpec.ofChange snapAreasWrong)

/- THE SECOND FORM. 'bulk': how many values and letters a reading holds, each counted each time it is reached (what is shared counts as often as it is met; a slice's spare places count too). A statement '..UptoSaid' is the law's where the arguments, and the package variables that the reading takes, are together of bulk at most 1048576: NARROWER than '..Said'. Prove '..Said' where nothing that the law and all that it calls make is longer than what came in: it says more and counts as full. Else prove '..UptoSaid'. A law counts once. -/
mutual
def uptoBulk {H : Type} : DataW H → Nat
  | .lit (.string bytes) => bytes.length + 1
  | .lit _ => 1
  | .nil => 1
  | .ptr d => uptoBulk d + 1
  | .slice elems spare => uptoBulkAll elems + uptoBulkAll spare + 1
  | .agg parts => uptoBulkAll parts + 1
  | .iface _ d => uptoBulk d + 1
  | .map entries => uptoBulkEntries entries + 1
  | .held _ => 1
def uptoBulkAll {H : Type} : List (DataW H) → Nat
  | [] => 0
  | d :: r => uptoBulk d + uptoBulkAll r
def uptoBulkEntries {H : Type} : List (Lit × DataW H) → Nat
  | [] => 0
  | x :: r => uptoBulkEntry x + uptoBulkEntries r
def uptoBulkEntry {H : Type} : Lit × DataW H → Nat
  | (.string bytes, d) => bytes.length + uptoBulk d + 1
  | (_, d) => uptoBulk d + 1
 end
def uptoSmall : (H : Type) → List (DataW H) → Bool := fun _ ds => decide (uptoBulkAll ds ≤ 1048576)
def OpenSpec.upto (s : _root_.Go.ChangeSpec) : _root_.Go.OpenSpec := { _root_.Go.OpenSpec.ofChange s with cond := some uptoSmall }

/-- 'quartermasterlaw12.SnapPuts', WHERE WHAT IT READS IS OF BULK AT MOST 1048576: true; the input reads as it did. -/
def snapPutsUptoRow : OpenClaim := { program := "ytlbdopcchoklhaagreat", sum := "d6091ed866b8a344ca3c907a2f4c8e980f38a7a76122c7189b1575c14e2324d8", func := "quartermaster/quartermasterlaw12.SnapPuts", spec := "snapPuts", unfollowed := true, recurses := true, apart := false, narrowed := true }
def SnapPutsUptoSaid : Prop := snapPutsUptoRow.holds Tryz.pinned (OpenSpec.upto snapPutsSpec)

/-- 'quartermasterlaw12.SnapStripes', WHERE WHAT IT READS IS OF BULK AT MOST 1048576: true; the input reads as it did. -/
def snapStripesUptoRow : OpenClaim := { program := "ytlbdopcchoklhaagreat", sum := "d6091ed866b8a344ca3c907a2f4c8e980f38a7a76122c7189b1575c14e2324d8", func := "quartermaster/quartermasterlaw12.SnapStripes", spec := "snapStripes", unfollowed := true, recurses := true, apart := false, narrowed := true }
def SnapStripesUptoSaid : Prop := snapStripesUptoRow.holds Tryz.pinned (OpenSpec.upto snapStripesSpec)

/-- 'quartermasterlaw12.SnapLeft', WHERE WHAT IT READS IS OF BULK AT MOST 1048576: true; the input reads as it did. -/
def snapLeftUptoRow : OpenClaim := { program := "ytlbdopcchoklhaagreat", sum := "d6091ed866b8a344ca3c907a2f4c8e980f38a7a76122c7189b1575c14e2324d8", func := "quartermaster/quartermasterlaw12.SnapLeft", spec := "snapLeft", unfollowed := true, recurses := true, apart := false, narrowed := true }
def SnapLeftUptoSaid : Prop := snapLeftUptoRow.holds Tryz.pinned (OpenSpec.upto snapLeftSpec)

/-- 'quartermasterlaw12.SnapOld', WHERE WHAT IT READS IS OF BULK AT MOST 1048576: true; the input reads as it did. -/
def snapOldUptoRow : OpenClaim := { program := "ytlbdopcchoklhaagreat", sum := "d6091ed866b8a344ca3c907a2f4c8e980f38a7a76122c7189b1575c14e2324d8", func := "quartermaster/quartermasterlaw12.SnapOld", spec := "snapOld", unfollowed := true, recurses := true, apart := false, narrowed := true }
def SnapOldUptoSaid : Prop := snapOldUptoRow.holds Tryz.pinned (OpenSpec.upto snapOldSpec)

/-- 'quartermasterlaw12.SnapArgs', WHERE WHAT IT READS IS OF BULK AT MOST 1048576: true; the input reads as it did. -/
def snapArgsUptoRow : OpenClaim := { program := "ytlbdopcchoklhaagreat", sum := "d6091ed866b8a344ca3c907a2f4c8e980f38a7a76122c7189b1575c14e2324d8", func := "quartermaster/quartermasterlaw12.SnapArgs", spec := "snapArgs", unfollowed := true, recurses := true, apart := false, narrowed := true }
def SnapArgsUptoSaid : Prop := snapArgsUptoRow.holds Tryz.pinned (OpenSpec.upto snapArgsSpec)

/-- 'quartermasterlaw12.SnapAreas', WHERE WHAT IT READS IS OF BULK AT MOST 1048576: true; the input reads as it did. -/
def snapAreasUptoRow : OpenClaim := { program := "ytlbdopcchoklhaagreat", sum := "d6091ed866b8a344ca3c907a2f4c8e980f38a7a76122c7189b1575c14e2324d8", func := "quartermaster/quartermasterlaw12.SnapAreas", spec := "snapAreas", unfollowed := true, recurses := true, apart := false, narrowed := true }
def SnapAreasUptoSaid : Prop := snapAreasUptoRow.holds Tryz.pinned (OpenSpec.upto snapAreasSpec)

end Rows
end Go.Proofs.YtlbdopcchoklhaaGreat
