/-
  No cell of these rows narrows 'for every input' (looked for: loops, veiled, ifaces, maps, wideKeys, modest, calm, conditions, laid).
  DERIVED. THE GIVEN ROWS OF THIS SEAT. 4 by the template 'for every input the law returns true; each argument reads behind the call as it read before'; 0 by the template 'total and deterministic' (their statements: YtkpahhioiefcbaaTotals.lean).
  GIVEN WITH THE SEED: the statements are not yours to turn. If you find one false, say at which input.
  Laid BY PROGRAM, IN A SANDBOX (cutbox-rows.mjs): the forced cells as the released guide's own fill.sh prints them over the translation 6f63c0abacbb1bc1… (all of the seat's roots in one cut). By AI agents, Wed Nov 11 2026. No macro, syntax, notation, axiom, sorry.
-/
import Derived.Test.YtkpahhioiefcbaaChecked
import GoSem.Claim
import GoSem.ClaimJoined
import GoSem.ClaimMapViews
import Derived.JoinedTies
import Derived.KernelRfl
namespace Go.Proofs.Ytkpahhioiefcbaa
/- THE CELL 'sum', in the pinned program and in every row, IS THE sha256 OF THE DUMP (.gsa) THAT YtkpahhioiefcbaaProg.lean LOADS. Nothing in Lean hashes anything: it is a label: what it is worth is what the hold of that sum in a sandbox is worth. -/
noncomputable def Try.pinned : Pinned := { name := "ytkpahhioiefcbaa", sum := "6f63c0abacbb1bc1927446a42e8d9511ca12db5e0d899e68091d7dd287b381a0", checked := Try.checked }
namespace Rows
def none {H : Type} : Left H := { results := [], args := [] }

/-- 'quartermasterlaw14.BatchDecodes': WHATEVER THE INPUT: true; the input reads as it did. -/
def batchDecodesSpec : ChangeSpec := { name := "batchDecodes", fn := fun _ => fun
  | [d] => { results := [.lit (.bool true)], args := [d] }
  | _ => none }
def batchDecodesRow : OpenClaim := { program := "ytkpahhioiefcbaa", sum := "6f63c0abacbb1bc1927446a42e8d9511ca12db5e0d899e68091d7dd287b381a0", func := "quartermaster/quartermasterlaw14.BatchDecodes", spec := "batchDecodes", inPlace := ["internal/bytealg.abigen_runtime_cmpstring", "slices.overlaps[quartermaster/tree.pair[string]]", "slices.overlaps[*quartermaster/tree.node[string]]"], unfollowed := true, recurses := true, apart := false }
def BatchDecodesSaid : Prop := batchDecodesRow.holds Try.pinned (OpenSpec.ofChange batchDecodesSpec)

/-- ITS FALSE NEIGHBOUR: 'it returns false'. Refute it at one input. -/
def batchDecodesWrong : ChangeSpec := { name := "batchDecodes", fn := fun _ => fun
  | [d] => { results := [.lit (.bool false)], args := [d] }
  | _ => none }
def BatchDecodesWrongFalsely : Prop := batchDecodesRow.holds Try.pinned (OpenSpec.ofChange batchDecodesWrong)

/-- 'quartermasterlaw14.BatchApplies': WHATEVER THE INPUT: true; the input reads as it did. -/
def batchAppliesSpec : ChangeSpec := { name := "batchApplies", fn := fun _ => fun
  | [d1, d2] => { results := [.lit (.bool true)], args := [d1, d2] }
  | _ => none }
def batchAppliesRow : OpenClaim := { program := "ytkpahhioiefcbaa", sum := "6f63c0abacbb1bc1927446a42e8d9511ca12db5e0d899e68091d7dd287b381a0", func := "quartermaster/quartermasterlaw14.BatchApplies", spec := "batchApplies", inPlace := ["internal/bytealg.abigen_runtime_cmpstring", "slices.overlaps[quartermaster/tree.pair[string]]", "slices.overlaps[*quartermaster/tree.node[string]]"], unfollowed := true, recurses := true, apart := false }
def BatchAppliesSaid : Prop := batchAppliesRow.holds Try.pinned (OpenSpec.ofChange batchAppliesSpec)

/-- ITS FALSE NEIGHBOUR: 'it returns false'. Refute it at one input. -/
def batchAppliesWrong : ChangeSpec := { name := "batchApplies", fn := fun _ => fun
  | [d1, d2] => { results := [.lit (.bool false)], args := [d1, d2] }
  | _ => none }
def BatchAppliesWrongFalsely : Prop := batchAppliesRow.holds Try.pinned (OpenSpec.ofChange batchAppliesWrong)

/-- 'quartermasterlaw14.BatchBack': WHATEVER THE INPUT: true; the input reads as it did. -/
def batchBackSpec : ChangeSpec := { name := "batchBack", fn := fun _ => fun
  | [d1, d2] => { results := [.lit (.bool true)], args := [d1, d2] }
  | _ => none }
def batchBackRow : OpenClaim := { program := "ytkpahhioiefcbaa", sum := "6f63c0abacbb1bc1927446a42e8d9511ca12db5e0d899e68091d7dd287b381a0", func := "quartermaster/quartermasterlaw14.BatchBack", spec := "batchBack", inPlace := ["internal/bytealg.abigen_runtime_cmpstring", "slices.overlaps[quartermaster/tree.pair[string]]", "slices.overlaps[*quartermaster/tree.node[string]]"], unfollowed := true, recurses := true, apart := false }
def BatchBackSaid : Prop := batchBackRow.holds Try.pinned (OpenSpec.ofChange batchBackSpec)

/-- ITS FALSE NEIGHBOUR: 'it returns false'. Refute it at one input. -/
def batchBackWrong : ChangeSpec := { name := "batchBack", fn := fun _ => fun
  | [d1, d2] => { results := [.lit (.bool false)], args := [d1, d2] }
  | _ => none }
def BatchBackWrongFalsely : Prop := batchBackRow.holds Try.pinned (OpenSpec.ofChange batchBackWrong)

/-- 'quartermasterlaw14.BatchDumps': WHATEVER THE INPUT: true; the input reads as it did. -/
def batchDumpsSpec : ChangeSpec := { name := "batchDumps", fn := fun _ => fun
  | [d] => { results := [.lit (.bool true)], args := [d] }
  | _ => none }
def batchDumpsRow : OpenClaim := { program := "ytkpahhioiefcbaa", sum := "6f63c0abacbb1bc1927446a42e8d9511ca12db5e0d899e68091d7dd287b381a0", func := "quartermaster/quartermasterlaw14.BatchDumps", spec := "batchDumps", inPlace := ["internal/bytealg.abigen_runtime_cmpstring", "slices.overlaps[quartermaster/tree.pair[string]]", "slices.overlaps[*quartermaster/tree.node[string]]"], unfollowed := true, recurses := true, apart := false }
def BatchDumpsSaid : Prop := batchDumpsRow.holds Try.pinned (OpenSpec.ofChange batchDumpsSpec)

/-- ITS FALSE NEIGHBOUR: 'it returns false'. Refute it at one input. -/
def batchDumpsWrong : ChangeSpec := { name := "batchDumps", fn := fun _ => fun
  | [d] => { results := [.lit (.bool false)], args := [d] }
  | _ => none }
def BatchDumpsWrongFalsely : Prop := batchDumpsRow.holds Try.pinned (OpenSpec.ofChange batchDumpsWrong)

/- THE SECOND FORM. 'bulk': how many values and letters a reading holds, each counted each time it is reached (what is shared counts as often as it is met; a slice's spare places count too). A statement '..UptoSaid' is the law's where the arguments, and the package variables that the reading takes, are together of bulk at most 1048576: NARROWER than '..Said'. Prove '..Said' where nothing that the law and all that it calls make is longer than what came in: it says more and counts as full. Else prove '..UptoSaid'. A law counts once. -/
mutual
def uptoBulk {H : Type} : DataW H → Nat
  | .lit (.string bytes) => bytes.length + 1
  | .lit _ => 1
  | .nil => 1
  | .ptr d => uptoBulk d + 1
  | .slice elems spare => uptoBulkAll elems + uptoBulkAll spare + 1
  | .agg parts => uptoBulkAll parts + 1
  | .iface _ d => uptoBulk d + 1
  | .map entries => uptoBulkEntries entries + 1
  | .held _ => 1
def uptoBulkAll {H : Type} : List (DataW H) → Nat
  | [] => 0
  | d :: r => uptoBulk d + uptoBulkAll r
def uptoBulkEntries {H : Type} : List (Lit × DataW H) → Nat
  | [] => 0
  | x :: r => uptoBulkEntry x + uptoBulkEntries r
def uptoBulkEntry {H : Type} : Lit × DataW H → Nat
  | (.string bytes, d) => bytes.length + uptoBulk d + 1
  | (_, d) => uptoBulk d + 1
 end
def uptoSmall : (H : Type) → List (DataW H) → Bool := fun _ ds => decide (uptoBulkAll ds ≤ 1048576)
def OpenSpec.upto (s : _root_.Go.ChangeSpec) : _root_.Go.OpenSpec := { _root_.Go.OpenSpec.ofChange s with cond := some uptoSmall }

/-- 'quartermasterlaw14.BatchDecodes', WHERE WHAT IT READS IS OF BULK AT MOST 1048576: true; the input reads as it did. -/
def batchDecodesUptoRow : OpenClaim := { program := "ytkpahhioiefcbaa", sum := "6f63c0abacbb1bc1927446a42e8d9511ca12db5e0d899e68091d7dd287b381a0", func := "quartermaster/quartermasterlaw14.BatchDecodes", spec := "batchDecodes", inPlace := ["internal/bytealg.abigen_runtime_cmpstring", "slices.overlaps[quartermaster/tree.pair[string]]", "slices.overlaps[*quartermaster/tree.node[string]]"], unfollowed := true, recurses := true, apart := false, narrowed := true }
def BatchDecodesUptoSaid : Prop := batchDecodesUptoRow.holds Try.pinned (OpenSpec.upto batchDecodesSpec)

/-- 'quartermasterlaw14.BatchApplies', WHERE WHAT IT READS IS OF BULK AT MOST 1048576: true; the input reads as it did. -/
def batchAppliesUptoRow : OpenClaim := { program := "ytkpahhioiefcbaa", sum := "6f63c0abacbb1bc1927446a42e8d9511ca12db5e0d899e68091d7dd287b381a0", func := "quartermaster/quartermasterlaw14.BatchApplies", spec := "batchApplies", inPlace := ["internal/bytealg.abigen_runtime_cmpstring", "slices.overlaps[quartermaster/tree.pair[string]]", "slices.overlaps[*quartermaster/tree.node[string]]"], unfollowed := true, recurses := true, apart := false, narrowed := true }
def BatchAppliesUptoSaid : Prop := batchAppliesUptoRow.holds Try.pinned (OpenSpec.upto batchAppliesSpec)

/-- 'quartermasterlaw14.BatchBack', WHERE WHAT IT READS IS OF BULK AT MOST 1048576: true; the input reads as it did. -/
def batchBackUptoRow : OpenClaim := { program := "ytkpahhioiefcbaa", sum := "6f63c0abacbb1bc1927446a42e8d9511ca12db5e0d899e68091d7dd287b381a0", func := "quartermaster/quartermasterlaw14.BatchBack", spec := "batchBack", inPlace := ["internal/bytealg.abigen_runtime_cmpstring", "slices.overlaps[quartermaster/tree.pair[string]]", "slices.overlaps[*quartermaster/tree.node[string]]"], unfollowed := true, recurses := true, apart := false, narrowed := true }
def BatchBackUptoSaid : Prop := batchBackUptoRow.holds Try.pinned (OpenSpec.upto batchBackSpec)

/-- 'quartermasterlaw14.BatchDumps', WHERE WHAT IT READS IS OF BULK AT MOST 1048576: true; the input reads as it did. -/
def batchDumpsUptoRow : OpenClaim := { program := "ytkpahhioiefcbaa", sum := "6f63c0abacbb1bc1927446a42e8d9511ca12db5e0d899e68091d7dd287b381a0", func := "quartermaster/quartermasterlaw14.BatchDumps", spec := "batchDumps", inPlace := ["internal/bytealg.abigen_runtime_cmpstring", "slices.overlaps[quartermaster/tree.pair[string]]", "slices.overlaps[*quartermaster/tree.node[string]]"], unfollowed := true, recurses := true, apart := false, narrowed := true }
def BatchDumpsUptoSaid : Prop := batchDumpsUptoRow.holds Try.pinned (OpenSpec.upto batchDumpsSpec)

end Rows
end Go.Proofs.Ytkpahhioiefcbaa
