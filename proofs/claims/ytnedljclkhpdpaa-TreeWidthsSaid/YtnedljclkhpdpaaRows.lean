/-
  No cell of these rows narrows 'for every input' (looked for: loops, veiled, ifaces, maps, wideKeys, modest, calm, conditions, laid).
  DERIVED. THE GIVEN ROWS OF THIS SEAT. 7 by the template 'for every input the law returns true; each argument reads behind the call as it read before'; 0 by the template 'total and deterministic' (their statements: YtnedljclkhpdpaaTotals.lean).
  GIVEN WITH THE SEED: the statements are not yours to turn. If you find one false, say at which input.
  Laid BY PROGRAM, IN A SANDBOX (cutbox-rows.mjs): the forced cells as the released guide's own fill.sh prints them over the translation 81cc604ff967324e… (all of the seat's roots in one cut). By AI agents, Wed Nov 11 2026. No macro, syntax, notation, axiom, sorry.
-/
import Derived.Test.YtnedljclkhpdpaaChecked
import GoSem.Claim
import GoSem.ClaimJoined
import GoSem.ClaimMapViews
import Derived.JoinedTies
import Derived.KernelRfl
namespace Go.Proofs.Ytnedljclkhpdpaa
/- THE CELL 'sum', in the pinned program and in every row, IS THE sha256 OF THE DUMP (.gsa) THAT YtnedljclkhpdpaaProg.lean LOADS. Nothing in Lean hashes anything: it is a label: what it is worth is what the hold of that sum in a sandbox is worth. -/
noncomputable def Try.pinned : Pinned := { name := "ytnedljclkhpdpaa", sum := "81cc604ff967324e6d050fc9a740aaf16133f5099ddb85d90b4e781d6f447bdc", checked := Try.checked }
namespace Rows
def none {H : Type} : Left H := { results := [], args := [] }

/-- 'perigeelaw8.TreeAll': WHATEVER THE INPUT: true; the input reads as it did. -/
def treeAllSpec : ChangeSpec := { name := "treeAll", fn := fun _ => fun
  | [d1, d2] => { results := [.lit (.bool true)], args := [d1, d2] }
  | _ => none }
def treeAllRow : OpenClaim := { program := "ytnedljclkhpdpaa", sum := "81cc604ff967324e6d050fc9a740aaf16133f5099ddb85d90b4e781d6f447bdc", func := "perigee/perigeelaw8.TreeAll", spec := "treeAll", recurses := true, apart := false }
def TreeAllSaid : Prop := treeAllRow.holds Try.pinned (OpenSpec.ofChange treeAllSpec)

/-- ITS FALSE NEIGHBOUR: 'it returns false'. Refute it at one input. -/
def treeAllWrong : ChangeSpec := { name := "treeAll", fn := fun _ => fun
  | [d1, d2] => { results := [.lit (.bool false)], args := [d1, d2] }
  | _ => none }
def TreeAllWrongFalsely : Prop := treeAllRow.holds Try.pinned (OpenSpec.ofChange treeAllWrong)

/-- 'perigeelaw8.TreeMade': WHATEVER THE INPUT: true; the input reads as it did. -/
def treeMadeSpec : ChangeSpec := { name := "treeMade", fn := fun _ => fun
  | [d1, d2] => { results := [.lit (.bool true)], args := [d1, d2] }
  | _ => none }
def treeMadeRow : OpenClaim := { program := "ytnedljclkhpdpaa", sum := "81cc604ff967324e6d050fc9a740aaf16133f5099ddb85d90b4e781d6f447bdc", func := "perigee/perigeelaw8.TreeMade", spec := "treeMade", recurses := true, apart := false }
def TreeMadeSaid : Prop := treeMadeRow.holds Try.pinned (OpenSpec.ofChange treeMadeSpec)

/-- ITS FALSE NEIGHBOUR: 'it returns false'. Refute it at one input. -/
def treeMadeWrong : ChangeSpec := { name := "treeMade", fn := fun _ => fun
  | [d1, d2] => { results := [.lit (.bool false)], args := [d1, d2] }
  | _ => none }
def TreeMadeWrongFalsely : Prop := treeMadeRow.holds Try.pinned (OpenSpec.ofChange treeMadeWrong)

/-- 'perigeelaw8.TreeLeaves': WHATEVER THE INPUT: true; the input reads as it did. -/
def treeLeavesSpec : ChangeSpec := { name := "treeLeaves", fn := fun _ => fun
  | [d1, d2] => { results := [.lit (.bool true)], args := [d1, d2] }
  | _ => none }
def treeLeavesRow : OpenClaim := { program := "ytnedljclkhpdpaa", sum := "81cc604ff967324e6d050fc9a740aaf16133f5099ddb85d90b4e781d6f447bdc", func := "perigee/perigeelaw8.TreeLeaves", spec := "treeLeaves", recurses := true, apart := false }
def TreeLeavesSaid : Prop := treeLeavesRow.holds Try.pinned (OpenSpec.ofChange treeLeavesSpec)

/-- ITS FALSE NEIGHBOUR: 'it returns false'. Refute it at one input. -/
def treeLeavesWrong : ChangeSpec := { name := "treeLeaves", fn := fun _ => fun
  | [d1, d2] => { results := [.lit (.bool false)], args := [d1, d2] }
  | _ => none }
def TreeLeavesWrongFalsely : Prop := treeLeavesRow.holds Try.pinned (OpenSpec.ofChange treeLeavesWrong)

/-- 'perigeelaw8.TreeKeys': WHATEVER THE INPUT: true; the input reads as it did. -/
def treeKeysSpec : ChangeSpec := { name := "treeKeys", fn := fun _ => fun
  | [d1, d2] => { results := [.lit (.bool true)], args := [d1, d2] }
  | _ => none }
def treeKeysRow : OpenClaim := { program := "ytnedljclkhpdpaa", sum := "81cc604ff967324e6d050fc9a740aaf16133f5099ddb85d90b4e781d6f447bdc", func := "perigee/perigeelaw8.TreeKeys", spec := "treeKeys", recurses := true, apart := false }
def TreeKeysSaid : Prop := treeKeysRow.holds Try.pinned (OpenSpec.ofChange treeKeysSpec)

/-- ITS FALSE NEIGHBOUR: 'it returns false'. Refute it at one input. -/
def treeKeysWrong : ChangeSpec := { name := "treeKeys", fn := fun _ => fun
  | [d1, d2] => { results := [.lit (.bool false)], args := [d1, d2] }
  | _ => none }
def TreeKeysWrongFalsely : Prop := treeKeysRow.holds Try.pinned (OpenSpec.ofChange treeKeysWrong)

/-- 'perigeelaw8.TreeWidths': WHATEVER THE INPUT: true; the input reads as it did. -/
def treeWidthsSpec : ChangeSpec := { name := "treeWidths", fn := fun _ => fun
  | [d] => { results := [.lit (.bool true)], args := [d] }
  | _ => none }
def treeWidthsRow : OpenClaim := { program := "ytnedljclkhpdpaa", sum := "81cc604ff967324e6d050fc9a740aaf16133f5099ddb85d90b4e781d6f447bdc", func := "perigee/perigeelaw8.TreeWidths", spec := "treeWidths", recurses := true, apart := false }
def TreeWidthsSaid : Prop := treeWidthsRow.holds Try.pinned (OpenSpec.ofChange treeWidthsSpec)

/-- ITS FALSE NEIGHBOUR: 'it returns false'. Refute it at one input. -/
def treeWidthsWrong : ChangeSpec := { name := "treeWidths", fn := fun _ => fun
  | [d] => { results := [.lit (.bool false)], args := [d] }
  | _ => none }
def TreeWidthsWrongFalsely : Prop := treeWidthsRow.holds Try.pinned (OpenSpec.ofChange treeWidthsWrong)

/-- 'perigeelaw8.TreeFew': WHATEVER THE INPUT: true; the input reads as it did. -/
def treeFewSpec : ChangeSpec := { name := "treeFew", fn := fun _ => fun
  | [d1, d2, d3] => { results := [.lit (.bool true)], args := [d1, d2, d3] }
  | _ => none }
def treeFewRow : OpenClaim := { program := "ytnedljclkhpdpaa", sum := "81cc604ff967324e6d050fc9a740aaf16133f5099ddb85d90b4e781d6f447bdc", func := "perigee/perigeelaw8.TreeFew", spec := "treeFew", recurses := true, apart := false }
def TreeFewSaid : Prop := treeFewRow.holds Try.pinned (OpenSpec.ofChange treeFewSpec)

/-- ITS FALSE NEIGHBOUR: 'it returns false'. Refute it at one input. -/
def treeFewWrong : ChangeSpec := { name := "treeFew", fn := fun _ => fun
  | [d1, d2, d3] => { results := [.lit (.bool false)], args := [d1, d2, d3] }
  | _ => none }
def TreeFewWrongFalsely : Prop := treeFewRow.holds Try.pinned (OpenSpec.ofChange treeFewWrong)

/-- 'perigeelaw8.TreeRises': WHATEVER THE INPUT: true; the input reads as it did. -/
def treeRisesSpec : ChangeSpec := { name := "treeRises", fn := fun _ => fun
  | [d1, d2] => { results := [.lit (.bool true)], args := [d1, d2] }
  | _ => none }
def treeRisesRow : OpenClaim := { program := "ytnedljclkhpdpaa", sum := "81cc604ff967324e6d050fc9a740aaf16133f5099ddb85d90b4e781d6f447bdc", func := "perigee/perigeelaw8.TreeRises", spec := "treeRises", recurses := true, apart := false }
def TreeRisesSaid : Prop := treeRisesRow.holds Try.pinned (OpenSpec.ofChange treeRisesSpec)

/-- ITS FALSE NEIGHBOUR: 'it returns false'. Refute it at one input. -/
def treeRisesWrong : ChangeSpec := { name := "treeRises", fn := fun _ => fun
  | [d1, d2] => { results := [.lit (.bool false)], args := [d1, d2] }
  | _ => none }
def TreeRisesWrongFalsely : Prop := treeRisesRow.holds Try.pinned (OpenSpec.ofChange treeRisesWrong)

/- THE SECOND FORM. 'bulk': how many values and letters a reading holds, each counted each time it is reached (what is shared counts as often as it is met; a slice's spare places count too). A statement '..UptoSaid' is the law's where the arguments, and the package variables that the reading takes, are together of bulk at most 1048576: NARROWER than '..Said'. Prove '..Said' where nothing that the law and all that it calls make is longer than what came in: it says more and counts as full. Else prove '..UptoSaid'. A law counts once. -/
mutual
def uptoBulk {H : Type} : DataW H → Nat
  | .lit (.string bytes) => bytes.length + 1
  | .lit _ => 1
  | .nil => 1
  | .ptr d => uptoBulk d + 1
  | .slice elems spare => uptoBulkAll elems + uptoBulkAll spare + 1
  | .agg parts => uptoBulkAll parts + 1
  | .iface _ d => uptoBulk d + 1
  | .map entries => uptoBulkEntries entries + 1
  | .held _ => 1
def uptoBulkAll {H : Type} : List (DataW H) → Nat
  | [] => 0
  | d :: r => uptoBulk d + uptoBulkAll r
def uptoBulkEntries {H : Type} : List (Lit × DataW H) → Nat
  | [] => 0
  | x :: r => uptoBulkEntry x + uptoBulkEntries r
def uptoBulkEntry {H : Type} : Lit × DataW H → Nat
  | (.string bytes, d) => bytes.length + uptoBulk d + 1
  | (_, d) => uptoBulk d + 1
 end
def uptoSmall : (H : Type) → List (DataW H) → Bool := fun _ ds => decide (uptoBulkAll ds ≤ 1048576)
def OpenSpec.upto (s : _root_.Go.ChangeSpec) : _root_.Go.OpenSpec := { _root_.Go.OpenSpec.ofChange s with cond := some uptoSmall }

/-- 'perigeelaw8.TreeAll', WHERE WHAT IT READS IS OF BULK AT MOST 1048576: true; the input reads as it did. -/
def treeAllUptoRow : OpenClaim := { program := "ytnedljclkhpdpaa", sum := "81cc604ff967324e6d050fc9a740aaf16133f5099ddb85d90b4e781d6f447bdc", func := "perigee/perigeelaw8.TreeAll", spec := "treeAll", recurses := true, apart := false, narrowed := true }
def TreeAllUptoSaid : Prop := treeAllUptoRow.holds Try.pinned (OpenSpec.upto treeAllSpec)

/-- 'perigeelaw8.TreeMade', WHERE WHAT IT READS IS OF BULK AT MOST 1048576: true; the input reads as it did. -/
def treeMadeUptoRow : OpenClaim := { program := "ytnedljclkhpdpaa", sum := "81cc604ff967324e6d050fc9a740aaf16133f5099ddb85d90b4e781d6f447bdc", func := "perigee/perigeelaw8.TreeMade", spec := "treeMade", recurses := true, apart := false, narrowed := true }
def TreeMadeUptoSaid : Prop := treeMadeUptoRow.holds Try.pinned (OpenSpec.upto treeMadeSpec)

/-- 'perigeelaw8.TreeLeaves', WHERE WHAT IT READS IS OF BULK AT MOST 1048576: true; the input reads as it did. -/
def treeLeavesUptoRow : OpenClaim := { program := "ytnedljclkhpdpaa", sum := "81cc604ff967324e6d050fc9a740aaf16133f5099ddb85d90b4e781d6f447bdc", func := "perigee/perigeelaw8.TreeLeaves", spec := "treeLeaves", recurses := true, apart := false, narrowed := true }
def TreeLeavesUptoSaid : Prop := treeLeavesUptoRow.holds Try.pinned (OpenSpec.upto treeLeavesSpec)

/-- 'perigeelaw8.TreeKeys', WHERE WHAT IT READS IS OF BULK AT MOST 1048576: true; the input reads as it did. -/
def treeKeysUptoRow : OpenClaim := { program := "ytnedljclkhpdpaa", sum := "81cc604ff967324e6d050fc9a740aaf16133f5099ddb85d90b4e781d6f447bdc", func := "perigee/perigeelaw8.TreeKeys", spec := "treeKeys", recurses := true, apart := false, narrowed := true }
def TreeKeysUptoSaid : Prop := treeKeysUptoRow.holds Try.pinned (OpenSpec.upto treeKeysSpec)

/-- 'perigeelaw8.TreeWidths', WHERE WHAT IT READS IS OF BULK AT MOST 1048576: true; the input reads as it did. -/
def treeWidthsUptoRow : OpenClaim := { program := "ytnedljclkhpdpaa", sum := "81cc604ff967324e6d050fc9a740aaf16133f5099ddb85d90b4e781d6f447bdc", func := "perigee/perigeelaw8.TreeWidths", spec := "treeWidths", recurses := true, apart := false, narrowed := true }
def TreeWidthsUptoSaid : Prop := treeWidthsUptoRow.holds Try.pinned (OpenSpec.upto treeWidthsSpec)

/-- 'perigeelaw8.TreeFew', WHERE WHAT IT READS IS OF BULK AT MOST 1048576: true; the input reads as it did. -/
def treeFewUptoRow : OpenClaim := { program := "ytnedljclkhpdpaa", sum := "81cc604ff967324e6d050fc9a740aaf16133f5099ddb85d90b4e781d6f447bdc", func := "perigee/perigeelaw8.TreeFew", spec := "treeFew", recurses := true, apart := false, narrowed := true }
def TreeFewUptoSaid : Prop := treeFewUptoRow.holds Try.pinned (OpenSpec.upto treeFewSpec)

/-- 'perigeelaw8.TreeRises', WHERE WHAT IT READS IS OF BULK AT MOST 1048576: true; the input reads as it did. -/
def treeRisesUptoRow : OpenClaim := { program := "ytnedljclkhpdpaa", sum := "81cc604ff967324e6d050fc9a740aaf16133f5099ddb85d90b4e781d6f447bdc", func := "perigee/perigeelaw8.TreeRises", spec := "treeRises", recurses := true, apart := false, narrowed := true }
def TreeRisesUptoSaid : Prop := treeRisesUptoRow.holds Try.pinned (OpenSpec.upto treeRisesSpec)

end Rows
end Go.Proofs.Ytnedljclkhpdpaa
