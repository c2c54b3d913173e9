/-
  No cell of these rows narrows 'for every input' (looked for: loops, veiled, ifaces, maps, wideKeys, modest, calm, conditions, laid).
  DERIVED. THE GIVEN ROWS OF THIS SEAT. 7 by the template 'for every input the law returns true; each argument reads behind the call as it read before'; 0 by the template 'total and deterministic' (their statements: YtdkgjmdldmldaaaTotals.lean).
  GIVEN WITH THE SEED: the statements are not yours to turn. If you find one false, say at which input.
  Laid BY PROGRAM, IN A SANDBOX (cutbox-rows.mjs): the forced cells as the released guide's own fill.sh prints them over the translation ba90288380be591a… (all of the seat's roots in one cut). By AI agents, Wed Nov 11 2026. No macro, syntax, notation, axiom, sorry.
-/
import Derived.Test.YtdkgjmdldmldaaaChecked
import GoSem.Claim
import GoSem.ClaimJoined
import GoSem.ClaimMapViews
import Derived.JoinedTies
import Derived.KernelRfl
namespace Go.Proofs.Ytdkgjmdldmldaaa
/- THE CELL 'sum', in the pinned program and in every row, IS THE sha256 OF THE DUMP (.gsa) THAT YtdkgjmdldmldaaaProg.lean LOADS. Nothing in Lean hashes anything: it is a label: what it is worth is what the hold of that sum in a sandbox is worth. -/
noncomputable def Try.pinned : Pinned := { name := "ytdkgjmdldmldaaa", sum := "ba90288380be591a33fef24ca4e314e3cf29f8ab642fd91af793e08ac6a52949", checked := Try.checked }
namespace Rows
def none {H : Type} : Left H := { results := [], args := [] }

/-- 'quartermasterlaw01.GfSums': WHATEVER THE INPUT: true; the input reads as it did. -/
def gfSumsSpec : ChangeSpec := { name := "gfSums", fn := fun _ => fun
  | [d1, d2] => { results := [.lit (.bool true)], args := [d1, d2] }
  | _ => none }
def gfSumsRow : OpenClaim := { program := "ytdkgjmdldmldaaa", sum := "ba90288380be591a33fef24ca4e314e3cf29f8ab642fd91af793e08ac6a52949", func := "quartermaster/quartermasterlaw01.GfSums", spec := "gfSums", unfollowed := true, recurses := true, apart := false }
def GfSumsSaid : Prop := gfSumsRow.holds Try.pinned (OpenSpec.ofChange gfSumsSpec)

/-- ITS FALSE NEIGHBOUR: 'it returns false'. Refute it at one input. -/
def gfSumsWrong : ChangeSpec := { name := "gfSums", fn := fun _ => fun
  | [d1, d2] => { results := [.lit (.bool false)], args := [d1, d2] }
  | _ => none }
def GfSumsWrongFalsely : Prop := gfSumsRow.holds Try.pinned (OpenSpec.ofChange gfSumsWrong)

/-- 'quartermasterlaw01.GfParts': WHATEVER THE INPUT: true; the input reads as it did. -/
def gfPartsSpec : ChangeSpec := { name := "gfParts", fn := fun _ => fun
  | [d1, d2] => { results := [.lit (.bool true)], args := [d1, d2] }
  | _ => none }
def gfPartsRow : OpenClaim := { program := "ytdkgjmdldmldaaa", sum := "ba90288380be591a33fef24ca4e314e3cf29f8ab642fd91af793e08ac6a52949", func := "quartermaster/quartermasterlaw01.GfParts", spec := "gfParts", unfollowed := true, recurses := true, apart := false }
def GfPartsSaid : Prop := gfPartsRow.holds Try.pinned (OpenSpec.ofChange gfPartsSpec)

/-- ITS FALSE NEIGHBOUR: 'it returns false'. Refute it at one input. -/
def gfPartsWrong : ChangeSpec := { name := "gfParts", fn := fun _ => fun
  | [d1, d2] => { results := [.lit (.bool false)], args := [d1, d2] }
  | _ => none }
def GfPartsWrongFalsely : Prop := gfPartsRow.holds Try.pinned (OpenSpec.ofChange gfPartsWrong)

/-- 'quartermasterlaw01.GfPowers': WHATEVER THE INPUT: true; the input reads as it did. -/
def gfPowersSpec : ChangeSpec := { name := "gfPowers", fn := fun _ => fun
  | [d1, d2] => { results := [.lit (.bool true)], args := [d1, d2] }
  | _ => none }
def gfPowersRow : OpenClaim := { program := "ytdkgjmdldmldaaa", sum := "ba90288380be591a33fef24ca4e314e3cf29f8ab642fd91af793e08ac6a52949", func := "quartermaster/quartermasterlaw01.GfPowers", spec := "gfPowers", unfollowed := true, recurses := true, apart := false }
def GfPowersSaid : Prop := gfPowersRow.holds Try.pinned (OpenSpec.ofChange gfPowersSpec)

/-- ITS FALSE NEIGHBOUR: 'it returns false'. Refute it at one input. -/
def gfPowersWrong : ChangeSpec := { name := "gfPowers", fn := fun _ => fun
  | [d1, d2] => { results := [.lit (.bool false)], args := [d1, d2] }
  | _ => none }
def GfPowersWrongFalsely : Prop := gfPowersRow.holds Try.pinned (OpenSpec.ofChange gfPowersWrong)

/-- 'quartermasterlaw01.GfField': WHATEVER THE INPUT: true; the input reads as it did. -/
def gfFieldSpec : ChangeSpec := { name := "gfField", fn := fun _ => fun
  | [d1, d2, d3] => { results := [.lit (.bool true)], args := [d1, d2, d3] }
  | _ => none }
def gfFieldRow : OpenClaim := { program := "ytdkgjmdldmldaaa", sum := "ba90288380be591a33fef24ca4e314e3cf29f8ab642fd91af793e08ac6a52949", func := "quartermaster/quartermasterlaw01.GfField", spec := "gfField", unfollowed := true, recurses := true, apart := false }
def GfFieldSaid : Prop := gfFieldRow.holds Try.pinned (OpenSpec.ofChange gfFieldSpec)

/-- ITS FALSE NEIGHBOUR: 'it returns false'. Refute it at one input. -/
def gfFieldWrong : ChangeSpec := { name := "gfField", fn := fun _ => fun
  | [d1, d2, d3] => { results := [.lit (.bool false)], args := [d1, d2, d3] }
  | _ => none }
def GfFieldWrongFalsely : Prop := gfFieldRow.holds Try.pinned (OpenSpec.ofChange gfFieldWrong)

/-- 'quartermasterlaw01.GfBack': WHATEVER THE INPUT: true; the input reads as it did. -/
def gfBackSpec : ChangeSpec := { name := "gfBack", fn := fun _ => fun
  | [d1, d2] => { results := [.lit (.bool true)], args := [d1, d2] }
  | _ => none }
def gfBackRow : OpenClaim := { program := "ytdkgjmdldmldaaa", sum := "ba90288380be591a33fef24ca4e314e3cf29f8ab642fd91af793e08ac6a52949", func := "quartermaster/quartermasterlaw01.GfBack", spec := "gfBack", unfollowed := true, recurses := true, apart := false }
def GfBackSaid : Prop := gfBackRow.holds Try.pinned (OpenSpec.ofChange gfBackSpec)

/-- ITS FALSE NEIGHBOUR: 'it returns false'. Refute it at one input. -/
def gfBackWrong : ChangeSpec := { name := "gfBack", fn := fun _ => fun
  | [d1, d2] => { results := [.lit (.bool false)], args := [d1, d2] }
  | _ => none }
def GfBackWrongFalsely : Prop := gfBackRow.holds Try.pinned (OpenSpec.ofChange gfBackWrong)

/-- 'quartermasterlaw01.GfLogs': WHATEVER THE INPUT: true; the input reads as it did. -/
def gfLogsSpec : ChangeSpec := { name := "gfLogs", fn := fun _ => fun
  | [d1, d2] => { results := [.lit (.bool true)], args := [d1, d2] }
  | _ => none }
def gfLogsRow : OpenClaim := { program := "ytdkgjmdldmldaaa", sum := "ba90288380be591a33fef24ca4e314e3cf29f8ab642fd91af793e08ac6a52949", func := "quartermaster/quartermasterlaw01.GfLogs", spec := "gfLogs", unfollowed := true, recurses := true, apart := false }
def GfLogsSaid : Prop := gfLogsRow.holds Try.pinned (OpenSpec.ofChange gfLogsSpec)

/-- ITS FALSE NEIGHBOUR: 'it returns false'. Refute it at one input. -/
def gfLogsWrong : ChangeSpec := { name := "gfLogs", fn := fun _ => fun
  | [d1, d2] => { results := [.lit (.bool false)], args := [d1, d2] }
  | _ => none }
def GfLogsWrongFalsely : Prop := gfLogsRow.holds Try.pinned (OpenSpec.ofChange gfLogsWrong)

/-- 'quartermasterlaw01.GfNone': WHATEVER THE INPUT: true; the input reads as it did. -/
def gfNoneSpec : ChangeSpec := { name := "gfNone", fn := fun _ => fun
  | [d1, d2, d3] => { results := [.lit (.bool true)], args := [d1, d2, d3] }
  | _ => none }
def gfNoneRow : OpenClaim := { program := "ytdkgjmdldmldaaa", sum := "ba90288380be591a33fef24ca4e314e3cf29f8ab642fd91af793e08ac6a52949", func := "quartermaster/quartermasterlaw01.GfNone", spec := "gfNone", unfollowed := true, recurses := true, apart := false }
def GfNoneSaid : Prop := gfNoneRow.holds Try.pinned (OpenSpec.ofChange gfNoneSpec)

/-- ITS FALSE NEIGHBOUR: 'it returns false'. Refute it at one input. -/
def gfNoneWrong : ChangeSpec := { name := "gfNone", fn := fun _ => fun
  | [d1, d2, d3] => { results := [.lit (.bool false)], args := [d1, d2, d3] }
  | _ => none }
def GfNoneWrongFalsely : Prop := gfNoneRow.holds Try.pinned (OpenSpec.ofChange gfNoneWrong)

/- THE SECOND FORM. 'bulk': how many values and letters a reading holds, each counted each time it is reached (what is shared counts as often as it is met; a slice's spare places count too). A statement '..UptoSaid' is the law's where the arguments, and the package variables that the reading takes, are together of bulk at most 1048576: NARROWER than '..Said'. Prove '..Said' where nothing that the law and all that it calls make is longer than what came in: it says more and counts as full. Else prove '..UptoSaid'. A law counts once. -/
mutual
def uptoBulk {H : Type} : DataW H → Nat
  | .lit (.string bytes) => bytes.length + 1
  | .lit _ => 1
  | .nil => 1
  | .ptr d => uptoBulk d + 1
  | .slice elems spare => uptoBulkAll elems + uptoBulkAll spare + 1
  | .agg parts => uptoBulkAll parts + 1
  | .iface _ d => uptoBulk d + 1
  | .map entries => uptoBulkEntries entries + 1
  | .held _ => 1
def uptoBulkAll {H : Type} : List (DataW H) → Nat
  | [] => 0
  | d :: r => uptoBulk d + uptoBulkAll r
def uptoBulkEntries {H : Type} : List (Lit × DataW H) → Nat
  | [] => 0
  | x :: r => uptoBulkEntry x + uptoBulkEntries r
def uptoBulkEntry {H : Type} : Lit × DataW H → Nat
  | (.string bytes, d) => bytes.length + uptoBulk d + 1
  | (_, d) => uptoBulk d + 1
 end
def uptoSmall : (H : Type) → List (DataW H) → Bool := fun _ ds => decide (uptoBulkAll ds ≤ 1048576)
def OpenSpec.upto (s : _root_.Go.ChangeSpec) : _root_.Go.OpenSpec := { _root_.Go.OpenSpec.ofChange s with cond := some uptoSmall }

/-- 'quartermasterlaw01.GfSums', WHERE WHAT IT READS IS OF BULK AT MOST 1048576: true; the input reads as it did. -/
def gfSumsUptoRow : OpenClaim := { program := "ytdkgjmdldmldaaa", sum := "ba90288380be591a33fef24ca4e314e3cf29f8ab642fd91af793e08ac6a52949", func := "quartermaster/quartermasterlaw01.GfSums", spec := "gfSums", unfollowed := true, recurses := true, apart := false, narrowed := true }
def GfSumsUptoSaid : Prop := gfSumsUptoRow.holds Try.pinned (OpenSpec.upto gfSumsSpec)

/-- 'quartermasterlaw01.GfParts', WHERE WHAT IT READS IS OF BULK AT MOST 1048576: true; the input reads as it did. -/
def gfPartsUptoRow : OpenClaim := { program := "ytdkgjmdldmldaaa", sum := "ba90288380be591a33fef24ca4e314e3cf29f8ab642fd91af793e08ac6a52949", func := "quartermaster/quartermasterlaw01.GfParts", spec := "gfParts", unfollowed := true, recurses := true, apart := false, narrowed := true }
def GfPartsUptoSaid : Prop := gfPartsUptoRow.holds Try.pinned (OpenSpec.upto gfPartsSpec)

/-- 'quartermasterlaw01.GfPowers', WHERE WHAT IT READS IS OF BULK AT MOST 1048576: true; the input reads as it did. -/
def gfPowersUptoRow : OpenClaim := { program := "ytdkgjmdldmldaaa", sum := "ba90288380be591a33fef24ca4e314e3cf29f8ab642fd91af793e08ac6a52949", func := "quartermaster/quartermasterlaw01.GfPowers", spec := "gfPowers", unfollowed := true, recurses := true, apart := false, narrowed := true }
def GfPowersUptoSaid : Prop := gfPowersUptoRow.holds Try.pinned (OpenSpec.upto gfPowersSpec)

/-- 'quartermasterlaw01.GfField', WHERE WHAT IT READS IS OF BULK AT MOST 1048576: true; the input reads as it did. -/
def gfFieldUptoRow : OpenClaim := { program := "ytdkgjmdldmldaaa", sum := "ba90288380be591a33fef24ca4e314e3cf29f8ab642fd91af793e08ac6a52949", func := "quartermaster/quartermasterlaw01.GfField", spec := "gfField", unfollowed := true, recurses := true, apart := false, narrowed := true }
def GfFieldUptoSaid : Prop := gfFieldUptoRow.holds Try.pinned (OpenSpec.upto gfFieldSpec)

/-- 'quartermasterlaw01.GfBack', WHERE WHAT IT READS IS OF BULK AT MOST 1048576: true; the input reads as it did. -/
def gfBackUptoRow : OpenClaim := { program := "ytdkgjmdldmldaaa", sum := "ba90288380be591a33fef24ca4e314e3cf29f8ab642fd91af793e08ac6a52949", func := "quartermaster/quartermasterlaw01.GfBack", spec := "gfBack", unfollowed := true, recurses := true, apart := false, narrowed := true }
def GfBackUptoSaid : Prop := gfBackUptoRow.holds Try.pinned (OpenSpec.upto gfBackSpec)

/-- 'quartermasterlaw01.GfLogs', WHERE WHAT IT READS IS OF BULK AT MOST 1048576: true; the input reads as it did. -/
def gfLogsUptoRow : OpenClaim := { program := "ytdkgjmdldmldaaa", sum := "ba90288380be591a33fef24ca4e314e3cf29f8ab642fd91af793e08ac6a52949", func := "quartermaster/quartermasterlaw01.GfLogs", spec := "gfLogs", unfollowed := true, recurses := true, apart := false, narrowed := true }
def GfLogsUptoSaid : Prop := gfLogsUptoRow.holds Try.pinned (OpenSpec.upto gfLogsSpec)

/-- 'quartermasterlaw01.GfNone', WHERE WHAT IT READS IS OF BULK AT MOST 1048576: true; the input reads as it did. -/
def gfNoneUptoRow : OpenClaim := { program := "ytdkgjmdldmldaaa", sum := "ba90288380be591a33fef24ca4e314e3cf29f8ab642fd91af793e08ac6a52949", func := "quartermaster/quartermasterlaw01.GfNone", spec := "gfNone", unfollowed := true, recurses := true, apart := false, narrowed := true }
def GfNoneUptoSaid : Prop := gfNoneUptoRow.holds Try.pinned (OpenSpec.upto gfNoneSpec)

end Rows
end Go.Proofs.Ytdkgjmdldmldaaa
