/-
  No cell of these rows narrows 'for every input' (looked for: loops, veiled, ifaces, maps, wideKeys, modest, calm, conditions, laid).
  DERIVED. THE GIVEN ROWS OF THIS SEAT. 4 by the template 'for every input the law returns true; each argument reads behind the call as it read before'; 0 by the template 'total and deterministic' (their statements: YtfbkfchibfiemaaTotals.lean).
  GIVEN WITH THE SEED: the statements are not yours to turn. If you find one false, say at which input.
  Laid BY PROGRAM, IN A SANDBOX (cutbox-rows.mjs): the forced cells as the released guide's own fill.sh prints them over the translation ebcfdf00e76de068… (all of the seat's roots in one cut). By AI agents, Wed Nov 11 2026. No macro, syntax, notation, axiom, sorry.
-/
import Derived.Test.YtfbkfchibfiemaaChecked
import GoSem.Claim
import GoSem.ClaimJoined
import GoSem.ClaimMapViews
import Derived.JoinedTies
import Derived.KernelRfl
namespace Go.Proofs.Ytfbkfchibfiemaa
/- THE CELL 'sum', in the pinned program and in every row, IS THE sha256 OF THE DUMP (.gsa) THAT YtfbkfchibfiemaaProg.lean LOADS. Nothing in Lean hashes anything: it is a label: what it is worth is what the hold of that sum in a sandbox is worth. -/
noncomputable def Try.pinned : Pinned := { name := "ytfbkfchibfiemaa", sum := "ebcfdf00e76de06878bb9f31b0283c63cc68ae3ede295960934a784fcd690dee", checked := Try.checked }
namespace Rows
def none {H : Type} : Left H := { results := [], args := [] }

/-- 'quartermasterlaw08.GeoTells': WHATEVER THE INPUT: true; the input reads as it did. -/
def geoTellsSpec : ChangeSpec := { name := "geoTells", fn := fun _ => fun
  | [d1, d2, d3] => { results := [.lit (.bool true)], args := [d1, d2, d3] }
  | _ => none }
def geoTellsRow : OpenClaim := { program := "ytfbkfchibfiemaa", sum := "ebcfdf00e76de06878bb9f31b0283c63cc68ae3ede295960934a784fcd690dee", func := "quartermaster/quartermasterlaw08.GeoTells", spec := "geoTells", unfollowed := true, recurses := true, apart := false }
def GeoTellsSaid : Prop := geoTellsRow.holds Try.pinned (OpenSpec.ofChange geoTellsSpec)

/-- ITS FALSE NEIGHBOUR: 'it returns false'. Refute it at one input. -/
def geoTellsWrong : ChangeSpec := { name := "geoTells", fn := fun _ => fun
  | [d1, d2, d3] => { results := [.lit (.bool false)], args := [d1, d2, d3] }
  | _ => none }
def GeoTellsWrongFalsely : Prop := geoTellsRow.holds Try.pinned (OpenSpec.ofChange geoTellsWrong)

/-- 'quartermasterlaw08.GeoParts': WHATEVER THE INPUT: true; the input reads as it did. -/
def geoPartsSpec : ChangeSpec := { name := "geoParts", fn := fun _ => fun
  | [d] => { results := [.lit (.bool true)], args := [d] }
  | _ => none }
def geoPartsRow : OpenClaim := { program := "ytfbkfchibfiemaa", sum := "ebcfdf00e76de06878bb9f31b0283c63cc68ae3ede295960934a784fcd690dee", func := "quartermaster/quartermasterlaw08.GeoParts", spec := "geoParts", unfollowed := true, recurses := true, apart := false }
def GeoPartsSaid : Prop := geoPartsRow.holds Try.pinned (OpenSpec.ofChange geoPartsSpec)

/-- ITS FALSE NEIGHBOUR: 'it returns false'. Refute it at one input. -/
def geoPartsWrong : ChangeSpec := { name := "geoParts", fn := fun _ => fun
  | [d] => { results := [.lit (.bool false)], args := [d] }
  | _ => none }
def GeoPartsWrongFalsely : Prop := geoPartsRow.holds Try.pinned (OpenSpec.ofChange geoPartsWrong)

/-- 'quartermasterlaw08.GeoBears': WHATEVER THE INPUT: true; the input reads as it did. -/
def geoBearsSpec : ChangeSpec := { name := "geoBears", fn := fun _ => fun
  | [d1, d2] => { results := [.lit (.bool true)], args := [d1, d2] }
  | _ => none }
def geoBearsRow : OpenClaim := { program := "ytfbkfchibfiemaa", sum := "ebcfdf00e76de06878bb9f31b0283c63cc68ae3ede295960934a784fcd690dee", func := "quartermaster/quartermasterlaw08.GeoBears", spec := "geoBears", unfollowed := true, recurses := true, apart := false }
def GeoBearsSaid : Prop := geoBearsRow.holds Try.pinned (OpenSpec.ofChange geoBearsSpec)

/-- ITS FALSE NEIGHBOUR: 'it returns false'. Refute it at one input. -/
def geoBearsWrong : ChangeSpec := { name := "geoBears", fn := fun _ => fun
  | [d1, d2] => { results := [.lit (.bool false)], args := [d1, d2] }
  | _ => none }
def GeoBearsWrongFalsely : Prop := geoBearsRow.holds Try.pinned (OpenSpec.ofChange geoBearsWrong)

/-- 'quartermasterlaw08.GeoNext': WHATEVER THE INPUT: true; the input reads as it did. -/
def geoNextSpec : ChangeSpec := { name := "geoNext", fn := fun _ => fun
  | [d] => { results := [.lit (.bool true)], args := [d] }
  | _ => none }
def geoNextRow : OpenClaim := { program := "ytfbkfchibfiemaa", sum := "ebcfdf00e76de06878bb9f31b0283c63cc68ae3ede295960934a784fcd690dee", func := "quartermaster/quartermasterlaw08.GeoNext", spec := "geoNext", unfollowed := true, recurses := true, apart := false }
def GeoNextSaid : Prop := geoNextRow.holds Try.pinned (OpenSpec.ofChange geoNextSpec)

/-- ITS FALSE NEIGHBOUR: 'it returns false'. Refute it at one input. -/
def geoNextWrong : ChangeSpec := { name := "geoNext", fn := fun _ => fun
  | [d] => { results := [.lit (.bool false)], args := [d] }
  | _ => none }
def GeoNextWrongFalsely : Prop := geoNextRow.holds Try.pinned (OpenSpec.ofChange geoNextWrong)

/- THE SECOND FORM. 'bulk': how many values and letters a reading holds, each counted each time it is reached (what is shared counts as often as it is met; a slice's spare places count too). A statement '..UptoSaid' is the law's where the arguments, and the package variables that the reading takes, are together of bulk at most 1048576: NARROWER than '..Said'. Prove '..Said' where nothing that the law and all that it calls make is longer than what came in: it says more and counts as full. Else prove '..UptoSaid'. A law counts once. -/
mutual
def uptoBulk {H : Type} : DataW H → Nat
  | .lit (.string bytes) => bytes.length + 1
  | .lit _ => 1
  | .nil => 1
  | .ptr d => uptoBulk d + 1
  | .slice elems spare => uptoBulkAll elems + uptoBulkAll spare + 1
  | .agg parts => uptoBulkAll parts + 1
  | .iface _ d => uptoBulk d + 1
  | .map entries => uptoBulkEntries entries + 1
  | .held _ => 1
def uptoBulkAll {H : Type} : List (DataW H) → Nat
  | [] => 0
  | d :: r => uptoBulk d + uptoBulkAll r
def uptoBulkEntries {H : Type} : List (Lit × DataW H) → Nat
  | [] => 0
  | x :: r => uptoBulkEntry x + uptoBulkEntries r
def uptoBulkEntry {H : Type} : Lit × DataW H → Nat
  | (.string bytes, d) => bytes.length + uptoBulk d + 1
  | (_, d) => uptoBulk d + 1
 end
def uptoSmall : (H : Type) → List (DataW H) → Bool := fun _ ds => decide (uptoBulkAll ds ≤ 1048576)
def OpenSpec.upto (s : _root_.Go.ChangeSpec) : _root_.Go.OpenSpec := { _root_.Go.OpenSpec.ofChange s with cond := some uptoSmall }

/-- 'quartermasterlaw08.GeoTells', WHERE WHAT IT READS IS OF BULK AT MOST 1048576: true; the input reads as it did. -/
def geoTellsUptoRow : OpenClaim := { program := "ytfbkfchibfiemaa", sum := "ebcfdf00e76de06878bb9f31b0283c63cc68ae3ede295960934a784fcd690dee", func := "quartermaster/quartermasterlaw08.GeoTells", spec := "geoTells", unfollowed := true, recurses := true, apart := false, narrowed := true }
def GeoTellsUptoSaid : Prop := geoTellsUptoRow.holds Try.pinned (OpenSpec.upto geoTellsSpec)

/-- 'quartermasterlaw08.GeoParts', WHERE WHAT IT READS IS OF BULK AT MOST 1048576: true; the input reads as it did. -/
def geoPartsUptoRow : OpenClaim := { program := "ytfbkfchibfiemaa", sum := "ebcfdf00e76de06878bb9f31b0283c63cc68ae3ede295960934a784fcd690dee", func := "quartermaster/quartermasterlaw08.GeoParts", spec := "geoParts", unfollowed := true, recurses := true, apart := false, narrowed := true }
def GeoPartsUptoSaid : Prop := geoPartsUptoRow.holds Try.pinned (OpenSpec.upto geoPartsSpec)

/-- 'quartermasterlaw08.GeoBears', WHERE WHAT IT READS IS OF BULK AT MOST 1048576: true; the input reads as it did. -/
def geoBearsUptoRow : OpenClaim := { program := "ytfbkfchibfiemaa", sum := "ebcfdf00e76de06878bb9f31b0283c63cc68ae3ede295960934a784fcd690dee", func := "quartermaster/quartermasterlaw08.GeoBears", spec := "geoBears", unfollowed := true, recurses := true, apart := false, narrowed := true }
def GeoBearsUptoSaid : Prop := geoBearsUptoRow.holds Try.pinned (OpenSpec.upto geoBearsSpec)

/-- 'quartermasterlaw08.GeoNext', WHERE WHAT IT READS IS OF BULK AT MOST 1048576: true; the input reads as it did. -/
def geoNextUptoRow : OpenClaim := { program := "ytfbkfchibfiemaa", sum := "ebcfdf00e76de06878bb9f31b0283c63cc68ae3ede295960934a784fcd690dee", func := "quartermaster/quartermasterlaw08.GeoNext", spec := "geoNext", unfollowed := true, recurses := true, apart := false, narrowed := true }
def GeoNextUptoSaid : Prop := geoNextUptoRow.holds Try.pinned (OpenSpec.upto geoNextSpec)

end Rows
end Go.Proofs.Ytfbkfchibfiemaa
