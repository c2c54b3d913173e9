/-
  No cell of these rows narrows 'for every input' (looked for: loops, veiled, ifaces, maps, wideKeys, modest, calm, conditions, laid).
  DERIVED. THE GIVEN ROWS OF THIS SEAT. 5 by the template 'for every input the law returns true; each argument reads behind the call as it read before'; 0 by the template 'total and deterministic' (their statements: YtjdknebifcdicaaTotals.lean).
  GIVEN WITH THE SEED: the statements are not yours to turn. If you find one false, say at which input.
  Laid BY PROGRAM, IN A SANDBOX (cutbox-rows.mjs): the forced cells as the released guide's own fill.sh prints them over the translation d2a4d3ebf67acd1f… (all of the seat's roots in one cut). By AI agents, Wed Nov 11 2026. No macro, syntax, notation, axiom, sorry.
-/
import Derived.Test.YtjdknebifcdicaaChecked
import GoSem.Claim
import GoSem.ClaimJoined
import GoSem.ClaimMapViews
import Derived.JoinedTies
import Derived.KernelRfl
namespace Go.Proofs.Ytjdknebifcdicaa
/- THE CELL 'sum', in the pinned program and in every row, IS THE sha256 OF THE DUMP (.gsa) THAT YtjdknebifcdicaaProg.lean LOADS. Nothing in Lean hashes anything: it is a label: what it is worth is what the hold of that sum in a sandbox is worth. -/
noncomputable def Try.pinned : Pinned := { name := "ytjdknebifcdicaa", sum := "d2a4d3ebf67acd1fe6727acab4e7f9d089ae48002f24d2f708f326955989fc2b", checked := Try.checked }
namespace Rows
def none {H : Type} : Left H := { results := [], args := [] }

/-- 'quartermasterlaw10.SupTells': WHATEVER THE INPUT: true; the input reads as it did. -/
def supTellsSpec : ChangeSpec := { name := "supTells", fn := fun _ => fun
  | [d1, d2, d3] => { results := [.lit (.bool true)], args := [d1, d2, d3] }
  | _ => none }
def supTellsRow : OpenClaim := { program := "ytjdknebifcdicaa", sum := "d2a4d3ebf67acd1fe6727acab4e7f9d089ae48002f24d2f708f326955989fc2b", func := "quartermaster/quartermasterlaw10.SupTells", spec := "supTells", unfollowed := true, recurses := true, apart := false }
def SupTellsSaid : Prop := supTellsRow.holds Try.pinned (OpenSpec.ofChange supTellsSpec)

/-- ITS FALSE NEIGHBOUR: 'it returns false'. Refute it at one input. -/
def supTellsWrong : ChangeSpec := { name := "supTells", fn := fun _ => fun
  | [d1, d2, d3] => { results := [.lit (.bool false)], args := [d1, d2, d3] }
  | _ => none }
def SupTellsWrongFalsely : Prop := supTellsRow.holds Try.pinned (OpenSpec.ofChange supTellsWrong)

/-- 'quartermasterlaw10.SupPicks': WHATEVER THE INPUT: true; the input reads as it did. -/
def supPicksSpec : ChangeSpec := { name := "supPicks", fn := fun _ => fun
  | [d] => { results := [.lit (.bool true)], args := [d] }
  | _ => none }
def supPicksRow : OpenClaim := { program := "ytjdknebifcdicaa", sum := "d2a4d3ebf67acd1fe6727acab4e7f9d089ae48002f24d2f708f326955989fc2b", func := "quartermaster/quartermasterlaw10.SupPicks", spec := "supPicks", unfollowed := true, recurses := true, apart := false }
def SupPicksSaid : Prop := supPicksRow.holds Try.pinned (OpenSpec.ofChange supPicksSpec)

/-- ITS FALSE NEIGHBOUR: 'it returns false'. Refute it at one input. -/
def supPicksWrong : ChangeSpec := { name := "supPicks", fn := fun _ => fun
  | [d] => { results := [.lit (.bool false)], args := [d] }
  | _ => none }
def SupPicksWrongFalsely : Prop := supPicksRow.holds Try.pinned (OpenSpec.ofChange supPicksWrong)

/-- 'quartermasterlaw10.SupLeft': WHATEVER THE INPUT: true; the input reads as it did. -/
def supLeftSpec : ChangeSpec := { name := "supLeft", fn := fun _ => fun
  | [d1, d2] => { results := [.lit (.bool true)], args := [d1, d2] }
  | _ => none }
def supLeftRow : OpenClaim := { program := "ytjdknebifcdicaa", sum := "d2a4d3ebf67acd1fe6727acab4e7f9d089ae48002f24d2f708f326955989fc2b", func := "quartermaster/quartermasterlaw10.SupLeft", spec := "supLeft", unfollowed := true, recurses := true, apart := false }
def SupLeftSaid : Prop := supLeftRow.holds Try.pinned (OpenSpec.ofChange supLeftSpec)

/-- ITS FALSE NEIGHBOUR: 'it returns false'. Refute it at one input. -/
def supLeftWrong : ChangeSpec := { name := "supLeft", fn := fun _ => fun
  | [d1, d2] => { results := [.lit (.bool false)], args := [d1, d2] }
  | _ => none }
def SupLeftWrongFalsely : Prop := supLeftRow.holds Try.pinned (OpenSpec.ofChange supLeftWrong)

/-- 'quartermasterlaw10.SupEither': WHATEVER THE INPUT: true; the input reads as it did. -/
def supEitherSpec : ChangeSpec := { name := "supEither", fn := fun _ => fun
  | [d1, d2, d3, d4] => { results := [.lit (.bool true)], args := [d1, d2, d3, d4] }
  | _ => none }
def supEitherRow : OpenClaim := { program := "ytjdknebifcdicaa", sum := "d2a4d3ebf67acd1fe6727acab4e7f9d089ae48002f24d2f708f326955989fc2b", func := "quartermaster/quartermasterlaw10.SupEither", spec := "supEither", unfollowed := true, recurses := true, apart := false }
def SupEitherSaid : Prop := supEitherRow.holds Try.pinned (OpenSpec.ofChange supEitherSpec)

/-- ITS FALSE NEIGHBOUR: 'it returns false'. Refute it at one input. -/
def supEitherWrong : ChangeSpec := { name := "supEither", fn := fun _ => fun
  | [d1, d2, d3, d4] => { results := [.lit (.bool false)], args := [d1, d2, d3, d4] }
  | _ => none }
def SupEitherWrongFalsely : Prop := supEitherRow.holds Try.pinned (OpenSpec.ofChange supEitherWrong)

/-- 'quartermasterlaw10.SupFew': WHATEVER THE INPUT: true; the input reads as it did. -/
def supFewSpec : ChangeSpec := { name := "supFew", fn := fun _ => fun
  | [d1, d2, d3, d4] => { results := [.lit (.bool true)], args := [d1, d2, d3, d4] }
  | _ => none }
def supFewRow : OpenClaim := { program := "ytjdknebifcdicaa", sum := "d2a4d3ebf67acd1fe6727acab4e7f9d089ae48002f24d2f708f326955989fc2b", func := "quartermaster/quartermasterlaw10.SupFew", spec := "supFew", unfollowed := true, recurses := true, apart := false }
def SupFewSaid : Prop := supFewRow.holds Try.pinned (OpenSpec.ofChange supFewSpec)

/-- ITS FALSE NEIGHBOUR: 'it returns false'. Refute it at one input. -/
def supFewWrong : ChangeSpec := { name := "supFew", fn := fun _ => fun
  | [d1, d2, d3, d4] => { results := [.lit (.bool false)], args := [d1, d2, d3, d4] }
  | _ => none }
def SupFewWrongFalsely : Prop := supFewRow.holds Try.pinned (OpenSpec.ofChange supFewWrong)

/- THE SECOND FORM. 'bulk': how many values and letters a reading holds, each counted each time it is reached (what is shared counts as often as it is met; a slice's spare places count too). A statement '..UptoSaid' is the law's where the arguments, and the package variables that the reading takes, are together of bulk at most 1048576: NARROWER than '..Said'. Prove '..Said' where nothing that the law and all that it calls make is longer than what came in: it says more and counts as full. Else prove '..UptoSaid'. A law counts once. -/
mutual
def uptoBulk {H : Type} : DataW H → Nat
  | .lit (.string bytes) => bytes.length + 1
  | .lit _ => 1
  | .nil => 1
  | .ptr d => uptoBulk d + 1
  | .slice elems spare => uptoBulkAll elems + uptoBulkAll spare + 1
  | .agg parts => uptoBulkAll parts + 1
  | .iface _ d => uptoBulk d + 1
  | .map entries => uptoBulkEntries entries + 1
  | .held _ => 1
def uptoBulkAll {H : Type} : List (DataW H) → Nat
  | [] => 0
  | d :: r => uptoBulk d + uptoBulkAll r
def uptoBulkEntries {H : Type} : List (Lit × DataW H) → Nat
  | [] => 0
  | x :: r => uptoBulkEntry x + uptoBulkEntries r
def uptoBulkEntry {H : Type} : Lit × DataW H → Nat
  | (.string bytes, d) => bytes.length + uptoBulk d + 1
  | (_, d) => uptoBulk d + 1
 end
def uptoSmall : (H : Type) → List (DataW H) → Bool := fun _ ds => decide (uptoBulkAll ds ≤ 1048576)
def OpenSpec.upto (s : _root_.Go.ChangeSpec) : _root_.Go.OpenSpec := { _root_.Go.OpenSpec.ofChange s with cond := some uptoSmall }

/-- 'quartermasterlaw10.SupTells', WHERE WHAT IT READS IS OF BULK AT MOST 1048576: true; the input reads as it did. -/
def supTellsUptoRow : OpenClaim := { program := "ytjdknebifcdicaa", sum := "d2a4d3ebf67acd1fe6727acab4e7f9d089ae48002f24d2f708f326955989fc2b", func := "quartermaster/quartermasterlaw10.SupTells", spec := "supTells", unfollowed := true, recurses := true, apart := false, narrowed := true }
def SupTellsUptoSaid : Prop := supTellsUptoRow.holds Try.pinned (OpenSpec.upto supTellsSpec)

/-- 'quartermasterlaw10.SupPicks', WHERE WHAT IT READS IS OF BULK AT MOST 1048576: true; the input reads as it did. -/
def supPicksUptoRow : OpenClaim := { program := "ytjdknebifcdicaa", sum := "d2a4d3ebf67acd1fe6727acab4e7f9d089ae48002f24d2f708f326955989fc2b", func := "quartermaster/quartermasterlaw10.SupPicks", spec := "supPicks", unfollowed := true, recurses := true, apart := false, narrowed := true }
def SupPicksUptoSaid : Prop := supPicksUptoRow.holds Try.pinned (OpenSpec.upto supPicksSpec)

/-- 'quartermasterlaw10.SupLeft', WHERE WHAT IT READS IS OF BULK AT MOST 1048576: true; the input reads as it did. -/
def supLeftUptoRow : OpenClaim := { program := "ytjdknebifcdicaa", sum := "d2a4d3ebf67acd1fe6727acab4e7f9d089ae48002f24d2f708f326955989fc2b", func := "quartermaster/quartermasterlaw10.SupLeft", spec := "supLeft", unfollowed := true, recurses := true, apart := false, narrowed := true }
def SupLeftUptoSaid : Prop := supLeftUptoRow.holds Try.pinned (OpenSpec.upto supLeftSpec)

/-- 'quartermasterlaw10.SupEither', WHERE WHAT IT READS IS OF BULK AT MOST 1048576: true; the input reads as it did. -/
def supEitherUptoRow : OpenClaim := { program := "ytjdknebifcdicaa", sum := "d2a4d3ebf67acd1fe6727acab4e7f9d089ae48002f24d2f708f326955989fc2b", func := "quartermaster/quartermasterlaw10.SupEither", spec := "supEither", unfollowed := true, recurses := true, apart := false, narrowed := true }
def SupEitherUptoSaid : Prop := supEitherUptoRow.holds Try.pinned (OpenSpec.upto supEitherSpec)

/-- 'quartermasterlaw10.SupFew', WHERE WHAT IT READS IS OF BULK AT MOST 1048576: true; the input reads as it did. -/
def supFewUptoRow : OpenClaim := { program := "ytjdknebifcdicaa", sum := "d2a4d3ebf67acd1fe6727acab4e7f9d089ae48002f24d2f708f326955989fc2b", func := "quartermaster/quartermasterlaw10.SupFew", spec := "supFew", unfollowed := true, recurses := true, apart := false, narrowed := true }
def SupFewUptoSaid : Prop := supFewUptoRow.holds Try.pinned (OpenSpec.upto supFewSpec)

end Rows
end Go.Proofs.Ytjdknebifcdicaa
