/-
  No cell of these rows narrows 'for every input' (looked for: loops, veiled, ifaces, maps, wideKeys, modest, calm, conditions, laid).
  DERIVED. THE GIVEN ROWS OF THIS SEAT. 3 by the template 'for every input the law returns true; each argument reads behind the call as it read before'; 0 by the template 'total and deterministic' (their statements: YtdaajhfippnciaaTotals.lean).
  GIVEN WITH THE SEED: the statements are not yours to turn. If you find one false, say at which input.
  Laid BY PROGRAM, IN A SANDBOX (cutbox-rows.mjs): the forced cells as the released guide's own fill.sh prints them over the translation eb05f139fd5d1ddb… (all of the seat's roots in one cut). By AI agents, Wed Nov 11 2026. No macro, syntax, notation, axiom, sorry.
-/
import Derived.Test.YtdaajhfippnciaaChecked
import GoSem.Claim
import GoSem.ClaimJoined
import GoSem.ClaimMapViews
import Derived.JoinedTies
import Derived.KernelRfl
namespace Go.Proofs.Ytdaajhfippnciaa
/- THE CELL 'sum', in the pinned program and in every row, IS THE sha256 OF THE DUMP (.gsa) THAT YtdaajhfippnciaaProg.lean LOADS. Nothing in Lean hashes anything: it is a label: what it is worth is what the hold of that sum in a sandbox is worth. -/
noncomputable def Try.pinned : Pinned := { name := "ytdaajhfippnciaa", sum := "eb05f139fd5d1ddb3be2a31b50867cba7ff6f24b269a5877443b0c0f28b84a79", checked := Try.checked }
namespace Rows
def none {H : Type} : Left H := { results := [], args := [] }

/-- 'perigeelaw7.SortAll': WHATEVER THE INPUT: true; the input reads as it did. -/
def sortAllSpec : ChangeSpec := { name := "sortAll", fn := fun _ => fun
  | [d] => { results := [.lit (.bool true)], args := [d] }
  | _ => none }
def sortAllRow : OpenClaim := { program := "ytdaajhfippnciaa", sum := "eb05f139fd5d1ddb3be2a31b50867cba7ff6f24b269a5877443b0c0f28b84a79", func := "perigee/perigeelaw7.SortAll", spec := "sortAll", apart := false }
def SortAllSaid : Prop := sortAllRow.holds Try.pinned (OpenSpec.ofChange sortAllSpec)

/-- ITS FALSE NEIGHBOUR: 'it returns false'. Refute it at one input. -/
def sortAllWrong : ChangeSpec := { name := "sortAll", fn := fun _ => fun
  | [d] => { results := [.lit (.bool false)], args := [d] }
  | _ => none }
def SortAllWrongFalsely : Prop := sortAllRow.holds Try.pinned (OpenSpec.ofChange sortAllWrong)

/-- 'perigeelaw7.SortStays': WHATEVER THE INPUT: true; the input reads as it did. -/
def sortStaysSpec : ChangeSpec := { name := "sortStays", fn := fun _ => fun
  | [d] => { results := [.lit (.bool true)], args := [d] }
  | _ => none }
def sortStaysRow : OpenClaim := { program := "ytdaajhfippnciaa", sum := "eb05f139fd5d1ddb3be2a31b50867cba7ff6f24b269a5877443b0c0f28b84a79", func := "perigee/perigeelaw7.SortStays", spec := "sortStays", apart := false }
def SortStaysSaid : Prop := sortStaysRow.holds Try.pinned (OpenSpec.ofChange sortStaysSpec)

/-- ITS FALSE NEIGHBOUR: 'it returns false'. Refute it at one input. -/
def sortStaysWrong : ChangeSpec := { name := "sortStays", fn := fun _ => fun
  | [d] => { results := [.lit (.bool false)], args := [d] }
  | _ => none }
def SortStaysWrongFalsely : Prop := sortStaysRow.holds Try.pinned (OpenSpec.ofChange sortStaysWrong)

/-- 'perigeelaw7.SortJoins': WHATEVER THE INPUT: true; the input reads as it did. -/
def sortJoinsSpec : ChangeSpec := { name := "sortJoins", fn := fun _ => fun
  | [d1, d2, d3] => { results := [.lit (.bool true)], args := [d1, d2, d3] }
  | _ => none }
def sortJoinsRow : OpenClaim := { program := "ytdaajhfippnciaa", sum := "eb05f139fd5d1ddb3be2a31b50867cba7ff6f24b269a5877443b0c0f28b84a79", func := "perigee/perigeelaw7.SortJoins", spec := "sortJoins", apart := false }
def SortJoinsSaid : Prop := sortJoinsRow.holds Try.pinned (OpenSpec.ofChange sortJoinsSpec)

/-- ITS FALSE NEIGHBOUR: 'it returns false'. Refute it at one input. -/
def sortJoinsWrong : ChangeSpec := { name := "sortJoins", fn := fun _ => fun
  | [d1, d2, d3] => { results := [.lit (.bool false)], args := [d1, d2, d3] }
  | _ => none }
def SortJoinsWrongFalsely : Prop := sortJoinsRow.holds Try.pinned (OpenSpec.ofChange sortJoinsWrong)

/- THE SECOND FORM. 'bulk': how many values and letters a reading holds, each counted each time it is reached (what is shared counts as often as it is met; a slice's spare places count too). A statement '..UptoSaid' is the law's where the arguments, and the package variables that the reading takes, are together of bulk at most 1048576: NARROWER than '..Said'. Prove '..Said' where nothing that the law and all that it calls make is longer than what came in: it says more and counts as full. Else prove '..UptoSaid'. A law counts once. -/
mutual
def uptoBulk {H : Type} : DataW H → Nat
  | .lit (.string bytes) => bytes.length + 1
  | .lit _ => 1
  | .nil => 1
  | .ptr d => uptoBulk d + 1
  | .slice elems spare => uptoBulkAll elems + uptoBulkAll spare + 1
  | .agg parts => uptoBulkAll parts + 1
  | .iface _ d => uptoBulk d + 1
  | .map entries => uptoBulkEntries entries + 1
  | .held _ => 1
def uptoBulkAll {H : Type} : List (DataW H) → Nat
  | [] => 0
  | d :: r => uptoBulk d + uptoBulkAll r
def uptoBulkEntries {H : Type} : List (Lit × DataW H) → Nat
  | [] => 0
  | x :: r => uptoBulkEntry x + uptoBulkEntries r
def uptoBulkEntry {H : Type} : Lit × DataW H → Nat
  | (.string bytes, d) => bytes.length + uptoBulk d + 1
  | (_, d) => uptoBulk d + 1
 end
def uptoSmall : (H : Type) → List (DataW H) → Bool := fun _ ds => decide (uptoBulkAll ds ≤ 1048576)
def OpenSpec.upto (s : _root_.Go.ChangeSpec) : _root_.Go.OpenSpec := { _root_.Go.OpenSpec.ofChange s with cond := some uptoSmall }

/-- 'perigeelaw7.SortAll', WHERE WHAT IT READS IS OF BULK AT MOST 1048576: true; the input reads as it did. -/
def sortAllUptoRow : OpenClaim := { program := "ytdaajhfippnciaa", sum := "eb05f139fd5d1ddb3be2a31b50867cba7ff6f24b269a5877443b0c0f28b84a79", func := "perigee/perigeelaw7.SortAll", spec := "sortAll", apart := false, narrowed := true }
def SortAllUptoSaid : Prop := sortAllUptoRow.holds Try.pinned (OpenSpec.upto sortAllSpec)

/-- 'perigeelaw7.SortStays', WHERE WHAT IT READS IS OF BULK AT MOST 1048576: true; the input reads as it did. -/
def sortStaysUptoRow : OpenClaim := { program := "ytdaajhfippnciaa", sum := "eb05f139fd5d1ddb3be2a31b50867cba7ff6f24b269a5877443b0c0f28b84a79", func := "perigee/perigeelaw7.SortStays", spec := "sortStays", apart := false, narrowed := true }
def SortStaysUptoSaid : Prop := sortStaysUptoRow.holds Try.pinned (OpenSpec.upto sortStaysSpec)

/-- 'perigeelaw7.SortJoins', WHERE WHAT IT READS IS OF BULK AT MOST 1048576: true; the input reads as it did. -/
def sortJoinsUptoRow : OpenClaim := { program := "ytdaajhfippnciaa", sum := "eb05f139fd5d1ddb3be2a31b50867cba7ff6f24b269a5877443b0c0f28b84a79", func := "perigee/perigeelaw7.SortJoins", spec := "sortJoins", apart := false, narrowed := true }
def SortJoinsUptoSaid : Prop := sortJoinsUptoRow.holds Try.pinned (OpenSpec.upto sortJoinsSpec)

end Rows
end Go.Proofs.Ytdaajhfippnciaa
