/-
  No cell of these rows narrows 'for every input' (looked for: loops, veiled, ifaces, maps, wideKeys, modest, calm, conditions, laid).
  DERIVED. THE GIVEN ROWS OF THIS SEAT. 5 by the template 'for every input the law returns true; each argument reads behind the call as it read before'; 0 by the template 'total and deterministic' (their statements: YtgiiddioinhfiaaTotals.lean).
  GIVEN WITH THE SEED: the statements are not yours to turn. If you find one false, say at which input.
  Laid BY PROGRAM, IN A SANDBOX (cutbox-rows.mjs): the forced cells as the released guide's own fill.sh prints them over the translation f5797f0d8c99dc57… (all of the seat's roots in one cut). By AI agents, Wed Nov 11 2026. No macro, syntax, notation, axiom, sorry.
-/
import Derived.Test.YtgiiddioinhfiaaChecked
import GoSem.Claim
import GoSem.ClaimJoined
import GoSem.ClaimMapViews
import Derived.JoinedTies
import Derived.KernelRfl
namespace Go.Proofs.Ytgiiddioinhfiaa
/- THE CELL 'sum', in the pinned program and in every row, IS THE sha256 OF THE DUMP (.gsa) THAT YtgiiddioinhfiaaProg.lean LOADS. Nothing in Lean hashes anything: it is a label: what it is worth is what the hold of that sum in a sandbox is worth. -/
noncomputable def Try.pinned : Pinned := { name := "ytgiiddioinhfiaa", sum := "f5797f0d8c99dc570b4a2afe2bf979668c816c2666584197265ed016e98d0808", checked := Try.checked }
namespace Rows
def none {H : Type} : Left H := { results := [], args := [] }

/-- 'perigeelaw6.MortonAll': WHATEVER THE INPUT: true; the input reads as it did. -/
def mortonAllSpec : ChangeSpec := { name := "mortonAll", fn := fun _ => fun
  | [d1, d2, d3] => { results := [.lit (.bool true)], args := [d1, d2, d3] }
  | _ => none }
def mortonAllRow : OpenClaim := { program := "ytgiiddioinhfiaa", sum := "f5797f0d8c99dc570b4a2afe2bf979668c816c2666584197265ed016e98d0808", func := "perigee/perigeelaw6.MortonAll", spec := "mortonAll", apart := false }
def MortonAllSaid : Prop := mortonAllRow.holds Try.pinned (OpenSpec.ofChange mortonAllSpec)

/-- ITS FALSE NEIGHBOUR: 'it returns false'. Refute it at one input. -/
def mortonAllWrong : ChangeSpec := { name := "mortonAll", fn := fun _ => fun
  | [d1, d2, d3] => { results := [.lit (.bool false)], args := [d1, d2, d3] }
  | _ => none }
def MortonAllWrongFalsely : Prop := mortonAllRow.holds Try.pinned (OpenSpec.ofChange mortonAllWrong)

/-- 'perigeelaw6.MortonBack': WHATEVER THE INPUT: true; the input reads as it did. -/
def mortonBackSpec : ChangeSpec := { name := "mortonBack", fn := fun _ => fun
  | [d1, d2, d3, d4] => { results := [.lit (.bool true)], args := [d1, d2, d3, d4] }
  | _ => none }
def mortonBackRow : OpenClaim := { program := "ytgiiddioinhfiaa", sum := "f5797f0d8c99dc570b4a2afe2bf979668c816c2666584197265ed016e98d0808", func := "perigee/perigeelaw6.MortonBack", spec := "mortonBack", apart := false }
def MortonBackSaid : Prop := mortonBackRow.holds Try.pinned (OpenSpec.ofChange mortonBackSpec)

/-- ITS FALSE NEIGHBOUR: 'it returns false'. Refute it at one input. -/
def mortonBackWrong : ChangeSpec := { name := "mortonBack", fn := fun _ => fun
  | [d1, d2, d3, d4] => { results := [.lit (.bool false)], args := [d1, d2, d3, d4] }
  | _ => none }
def MortonBackWrongFalsely : Prop := mortonBackRow.holds Try.pinned (OpenSpec.ofChange mortonBackWrong)

/-- 'perigeelaw6.MortonOrder': WHATEVER THE INPUT: true; the input reads as it did. -/
def mortonOrderSpec : ChangeSpec := { name := "mortonOrder", fn := fun _ => fun
  | [d1, d2, d3, d4, d5] => { results := [.lit (.bool true)], args := [d1, d2, d3, d4, d5] }
  | _ => none }
def mortonOrderRow : OpenClaim := { program := "ytgiiddioinhfiaa", sum := "f5797f0d8c99dc570b4a2afe2bf979668c816c2666584197265ed016e98d0808", func := "perigee/perigeelaw6.MortonOrder", spec := "mortonOrder", apart := false }
def MortonOrderSaid : Prop := mortonOrderRow.holds Try.pinned (OpenSpec.ofChange mortonOrderSpec)

/-- ITS FALSE NEIGHBOUR: 'it returns false'. Refute it at one input. -/
def mortonOrderWrong : ChangeSpec := { name := "mortonOrder", fn := fun _ => fun
  | [d1, d2, d3, d4, d5] => { results := [.lit (.bool false)], args := [d1, d2, d3, d4, d5] }
  | _ => none }
def MortonOrderWrongFalsely : Prop := mortonOrderRow.holds Try.pinned (OpenSpec.ofChange mortonOrderWrong)

/-- 'perigeelaw6.MortonEdges': WHATEVER THE INPUT: true; the input reads as it did. -/
def mortonEdgesSpec : ChangeSpec := { name := "mortonEdges", fn := fun _ => fun
  | [d] => { results := [.lit (.bool true)], args := [d] }
  | _ => none }
def mortonEdgesRow : OpenClaim := { program := "ytgiiddioinhfiaa", sum := "f5797f0d8c99dc570b4a2afe2bf979668c816c2666584197265ed016e98d0808", func := "perigee/perigeelaw6.MortonEdges", spec := "mortonEdges", apart := false }
def MortonEdgesSaid : Prop := mortonEdgesRow.holds Try.pinned (OpenSpec.ofChange mortonEdgesSpec)

/-- ITS FALSE NEIGHBOUR: 'it returns false'. Refute it at one input. -/
def mortonEdgesWrong : ChangeSpec := { name := "mortonEdges", fn := fun _ => fun
  | [d] => { results := [.lit (.bool false)], args := [d] }
  | _ => none }
def MortonEdgesWrongFalsely : Prop := mortonEdgesRow.holds Try.pinned (OpenSpec.ofChange mortonEdgesWrong)

/-- 'perigeelaw6.MortonQuarters': WHATEVER THE INPUT: true; the input reads as it did. -/
def mortonQuartersSpec : ChangeSpec := { name := "mortonQuarters", fn := fun _ => fun
  | [d1, d2, d3] => { results := [.lit (.bool true)], args := [d1, d2, d3] }
  | _ => none }
def mortonQuartersRow : OpenClaim := { program := "ytgiiddioinhfiaa", sum := "f5797f0d8c99dc570b4a2afe2bf979668c816c2666584197265ed016e98d0808", func := "perigee/perigeelaw6.MortonQuarters", spec := "mortonQuarters", apart := false }
def MortonQuartersSaid : Prop := mortonQuartersRow.holds Try.pinned (OpenSpec.ofChange mortonQuartersSpec)

/-- ITS FALSE NEIGHBOUR: 'it returns false'. Refute it at one input. -/
def mortonQuartersWrong : ChangeSpec := { name := "mortonQuarters", fn := fun _ => fun
  | [d1, d2, d3] => { results := [.lit (.bool false)], args := [d1, d2, d3] }
  | _ => none }
def MortonQuartersWrongFalsely : Prop := mortonQuartersRow.holds Try.pinned (OpenSpec.ofChange mortonQuartersWrong)

/- THE SECOND FORM. 'bulk': how many values and letters a reading holds, each counted each time it is reached (what is shared counts as often as it is met; a slice's spare places count too). A statement '..UptoSaid' is the law's where the arguments, and the package variables that the reading takes, are together of bulk at most 1048576: NARROWER than '..Said'. Prove '..Said' where nothing that the law and all that it calls make is longer than what came in: it says more and counts as full. Else prove '..UptoSaid'. A law counts once. -/
mutual
def uptoBulk {H : Type} : DataW H → Nat
  | .lit (.string bytes) => bytes.length + 1
  | .lit _ => 1
  | .nil => 1
  | .ptr d => uptoBulk d + 1
  | .slice elems spare => uptoBulkAll elems + uptoBulkAll spare + 1
  | .agg parts => uptoBulkAll parts + 1
  | .iface _ d => uptoBulk d + 1
  | .map entries => uptoBulkEntries entries + 1
  | .held _ => 1
def uptoBulkAll {H : Type} : List (DataW H) → Nat
  | [] => 0
  | d :: r => uptoBulk d + uptoBulkAll r
def uptoBulkEntries {H : Type} : List (Lit × DataW H) → Nat
  | [] => 0
  | x :: r => uptoBulkEntry x + uptoBulkEntries r
def uptoBulkEntry {H : Type} : Lit × DataW H → Nat
  | (.string bytes, d) => bytes.length + uptoBulk d + 1
  | (_, d) => uptoBulk d + 1
 end
def uptoSmall : (H : Type) → List (DataW H) → Bool := fun _ ds => decide (uptoBulkAll ds ≤ 1048576)
def OpenSpec.upto (s : _root_.Go.ChangeSpec) : _root_.Go.OpenSpec := { _root_.Go.OpenSpec.ofChange s with cond := some uptoSmall }

/-- 'perigeelaw6.MortonAll', WHERE WHAT IT READS IS OF BULK AT MOST 1048576: true; the input reads as it did. -/
def mortonAllUptoRow : OpenClaim := { program := "ytgiiddioinhfiaa", sum := "f5797f0d8c99dc570b4a2afe2bf979668c816c2666584197265ed016e98d0808", func := "perigee/perigeelaw6.MortonAll", spec := "mortonAll", apart := false, narrowed := true }
def MortonAllUptoSaid : Prop := mortonAllUptoRow.holds Try.pinned (OpenSpec.upto mortonAllSpec)

/-- 'perigeelaw6.MortonBack', WHERE WHAT IT READS IS OF BULK AT MOST 1048576: true; the input reads as it did. -/
def mortonBackUptoRow : OpenClaim := { program := "ytgiiddioinhfiaa", sum := "f5797f0d8c99dc570b4a2afe2bf979668c816c2666584197265ed016e98d0808", func := "perigee/perigeelaw6.MortonBack", spec := "mortonBack", apart := false, narrowed := true }
def MortonBackUptoSaid : Prop := mortonBackUptoRow.holds Try.pinned (OpenSpec.upto mortonBackSpec)

/-- 'perigeelaw6.MortonOrder', WHERE WHAT IT READS IS OF BULK AT MOST 1048576: true; the input reads as it did. -/
def mortonOrderUptoRow : OpenClaim := { program := "ytgiiddioinhfiaa", sum := "f5797f0d8c99dc570b4a2afe2bf979668c816c2666584197265ed016e98d0808", func := "perigee/perigeelaw6.MortonOrder", spec := "mortonOrder", apart := false, narrowed := true }
def MortonOrderUptoSaid : Prop := mortonOrderUptoRow.holds Try.pinned (OpenSpec.upto mortonOrderSpec)

/-- 'perigeelaw6.MortonEdges', WHERE WHAT IT READS IS OF BULK AT MOST 1048576: true; the input reads as it did. -/
def mortonEdgesUptoRow : OpenClaim := { program := "ytgiiddioinhfiaa", sum := "f5797f0d8c99dc570b4a2afe2bf979668c816c2666584197265ed016e98d0808", func := "perigee/perigeelaw6.MortonEdges", spec := "mortonEdges", apart := false, narrowed := true }
def MortonEdgesUptoSaid : Prop := mortonEdgesUptoRow.holds Try.pinned (OpenSpec.upto mortonEdgesSpec)

/-- 'perigeelaw6.MortonQuarters', WHERE WHAT IT READS IS OF BULK AT MOST 1048576: true; the input reads as it did. -/
def mortonQuartersUptoRow : OpenClaim := { program := "ytgiiddioinhfiaa", sum := "f5797f0d8c99dc570b4a2afe2bf979668c816c2666584197265ed016e98d0808", func := "perigee/perigeelaw6.MortonQuarters", spec := "mortonQuarters", apart := false, narrowed := true }
def MortonQuartersUptoSaid : Prop := mortonQuartersUptoRow.holds Try.pinned (OpenSpec.upto mortonQuartersSpec)

end Rows
end Go.Proofs.Ytgiiddioinhfiaa
