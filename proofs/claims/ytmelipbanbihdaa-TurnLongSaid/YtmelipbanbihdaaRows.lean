/-
  No cell of these rows narrows 'for every input' (looked for: loops, veiled, ifaces, maps, wideKeys, modest, calm, conditions, laid).
  DERIVED. THE GIVEN ROWS OF THIS SEAT. 5 by the template 'for every input the law returns true; each argument reads behind the call as it read before'; 0 by the template 'total and deterministic' (their statements: YtmelipbanbihdaaTotals.lean).
  GIVEN WITH THE SEED: the statements are not yours to turn. If you find one false, say at which input.
  Laid BY PROGRAM, IN A SANDBOX (cutbox-rows.mjs): the forced cells as the released guide's own fill.sh prints them over the translation 24b6ba7dedc3c65e… (all of the seat's roots in one cut). By AI agents, Wed Nov 11 2026. No macro, syntax, notation, axiom, sorry.
-/
import Derived.Test.YtmelipbanbihdaaChecked
import GoSem.Claim
import GoSem.ClaimJoined
import GoSem.ClaimMapViews
import Derived.JoinedTies
import Derived.KernelRfl
namespace Go.Proofs.Ytmelipbanbihdaa
/- THE CELL 'sum', in the pinned program and in every row, IS THE sha256 OF THE DUMP (.gsa) THAT YtmelipbanbihdaaProg.lean LOADS. Nothing in Lean hashes anything: it is a label: what it is worth is what the hold of that sum in a sandbox is worth. -/
noncomputable def Try.pinned : Pinned := { name := "ytmelipbanbihdaa", sum := "24b6ba7dedc3c65edd514745a6273731d4173b1486acfc36641241686e0f21b5", checked := Try.checked }
namespace Rows
def none {H : Type} : Left H := { results := [], args := [] }

/-- 'perigeelaw5.TurnAll': WHATEVER THE INPUT: true; the input reads as it did. -/
def turnAllSpec : ChangeSpec := { name := "turnAll", fn := fun _ => fun
  | [d1, d2] => { results := [.lit (.bool true)], args := [d1, d2] }
  | _ => none }
def turnAllRow : OpenClaim := { program := "ytmelipbanbihdaa", sum := "24b6ba7dedc3c65edd514745a6273731d4173b1486acfc36641241686e0f21b5", func := "perigee/perigeelaw5.TurnAll", spec := "turnAll", recurses := true, apart := false }
def TurnAllSaid : Prop := turnAllRow.holds Try.pinned (OpenSpec.ofChange turnAllSpec)

/-- ITS FALSE NEIGHBOUR: 'it returns false'. Refute it at one input. -/
def turnAllWrong : ChangeSpec := { name := "turnAll", fn := fun _ => fun
  | [d1, d2] => { results := [.lit (.bool false)], args := [d1, d2] }
  | _ => none }
def TurnAllWrongFalsely : Prop := turnAllRow.holds Try.pinned (OpenSpec.ofChange turnAllWrong)

/-- 'perigeelaw5.TurnQuarters': WHATEVER THE INPUT: true; the input reads as it did. -/
def turnQuartersSpec : ChangeSpec := { name := "turnQuarters", fn := fun _ => fun
  | [d1, d2] => { results := [.lit (.bool true)], args := [d1, d2] }
  | _ => none }
def turnQuartersRow : OpenClaim := { program := "ytmelipbanbihdaa", sum := "24b6ba7dedc3c65edd514745a6273731d4173b1486acfc36641241686e0f21b5", func := "perigee/perigeelaw5.TurnQuarters", spec := "turnQuarters", recurses := true, apart := false }
def TurnQuartersSaid : Prop := turnQuartersRow.holds Try.pinned (OpenSpec.ofChange turnQuartersSpec)

/-- ITS FALSE NEIGHBOUR: 'it returns false'. Refute it at one input. -/
def turnQuartersWrong : ChangeSpec := { name := "turnQuarters", fn := fun _ => fun
  | [d1, d2] => { results := [.lit (.bool false)], args := [d1, d2] }
  | _ => none }
def TurnQuartersWrongFalsely : Prop := turnQuartersRow.holds Try.pinned (OpenSpec.ofChange turnQuartersWrong)

/-- 'perigeelaw5.TurnLong': WHATEVER THE INPUT: true; the input reads as it did. -/
def turnLongSpec : ChangeSpec := { name := "turnLong", fn := fun _ => fun
  | [d] => { results := [.lit (.bool true)], args := [d] }
  | _ => none }
def turnLongRow : OpenClaim := { program := "ytmelipbanbihdaa", sum := "24b6ba7dedc3c65edd514745a6273731d4173b1486acfc36641241686e0f21b5", func := "perigee/perigeelaw5.TurnLong", spec := "turnLong", recurses := true, apart := false }
def TurnLongSaid : Prop := turnLongRow.holds Try.pinned (OpenSpec.ofChange turnLongSpec)

/-- ITS FALSE NEIGHBOUR: 'it returns false'. Refute it at one input. -/
def turnLongWrong : ChangeSpec := { name := "turnLong", fn := fun _ => fun
  | [d] => { results := [.lit (.bool false)], args := [d] }
  | _ => none }
def TurnLongWrongFalsely : Prop := turnLongRow.holds Try.pinned (OpenSpec.ofChange turnLongWrong)

/-- 'perigeelaw5.TurnTwice': WHATEVER THE INPUT: true; the input reads as it did. -/
def turnTwiceSpec : ChangeSpec := { name := "turnTwice", fn := fun _ => fun
  | [d1, d2, d3, d4] => { results := [.lit (.bool true)], args := [d1, d2, d3, d4] }
  | _ => none }
def turnTwiceRow : OpenClaim := { program := "ytmelipbanbihdaa", sum := "24b6ba7dedc3c65edd514745a6273731d4173b1486acfc36641241686e0f21b5", func := "perigee/perigeelaw5.TurnTwice", spec := "turnTwice", recurses := true, apart := false }
def TurnTwiceSaid : Prop := turnTwiceRow.holds Try.pinned (OpenSpec.ofChange turnTwiceSpec)

/-- ITS FALSE NEIGHBOUR: 'it returns false'. Refute it at one input. -/
def turnTwiceWrong : ChangeSpec := { name := "turnTwice", fn := fun _ => fun
  | [d1, d2, d3, d4] => { results := [.lit (.bool false)], args := [d1, d2, d3, d4] }
  | _ => none }
def TurnTwiceWrongFalsely : Prop := turnTwiceRow.holds Try.pinned (OpenSpec.ofChange turnTwiceWrong)

/-- 'perigeelaw5.TurnMirror': WHATEVER THE INPUT: true; the input reads as it did. -/
def turnMirrorSpec : ChangeSpec := { name := "turnMirror", fn := fun _ => fun
  | [d] => { results := [.lit (.bool true)], args := [d] }
  | _ => none }
def turnMirrorRow : OpenClaim := { program := "ytmelipbanbihdaa", sum := "24b6ba7dedc3c65edd514745a6273731d4173b1486acfc36641241686e0f21b5", func := "perigee/perigeelaw5.TurnMirror", spec := "turnMirror", recurses := true, apart := false }
def TurnMirrorSaid : Prop := turnMirrorRow.holds Try.pinned (OpenSpec.ofChange turnMirrorSpec)

/-- ITS FALSE NEIGHBOUR: 'it returns false'. Refute it at one input. -/
def turnMirrorWrong : ChangeSpec := { name := "turnMirror", fn := fun _ => fun
  | [d] => { results := [.lit (.bool false)], args := [d] }
  | _ => none }
def TurnMirrorWrongFalsely : Prop := turnMirrorRow.holds Try.pinned (OpenSpec.ofChange turnMirrorWrong)

/- THE SECOND FORM. 'bulk': how many values and letters a reading holds, each counted each time it is reached (what is shared counts as often as it is met; a slice's spare places count too). A statement '..UptoSaid' is the law's where the arguments, and the package variables that the reading takes, are together of bulk at most 1048576: NARROWER than '..Said'. Prove '..Said' where nothing that the law and all that it calls make is longer than what came in: it says more and counts as full. Else prove '..UptoSaid'. A law counts once. -/
mutual
def uptoBulk {H : Type} : DataW H → Nat
  | .lit (.string bytes) => bytes.length + 1
  | .lit _ => 1
  | .nil => 1
  | .ptr d => uptoBulk d + 1
  | .slice elems spare => uptoBulkAll elems + uptoBulkAll spare + 1
  | .agg parts => uptoBulkAll parts + 1
  | .iface _ d => uptoBulk d + 1
  | .map entries => uptoBulkEntries entries + 1
  | .held _ => 1
def uptoBulkAll {H : Type} : List (DataW H) → Nat
  | [] => 0
  | d :: r => uptoBulk d + uptoBulkAll r
def uptoBulkEntries {H : Type} : List (Lit × DataW H) → Nat
  | [] => 0
  | x :: r => uptoBulkEntry x + uptoBulkEntries r
def uptoBulkEntry {H : Type} : Lit × DataW H → Nat
  | (.string bytes, d) => bytes.length + uptoBulk d + 1
  | (_, d) => uptoBulk d + 1
 end
def uptoSmall : (H : Type) → List (DataW H) → Bool := fun _ ds => decide (uptoBulkAll ds ≤ 1048576)
def OpenSpec.upto (s : _root_.Go.ChangeSpec) : _root_.Go.OpenSpec := { _root_.Go.OpenSpec.ofChange s with cond := some uptoSmall }

/-- 'perigeelaw5.TurnAll', WHERE WHAT IT READS IS OF BULK AT MOST 1048576: true; the input reads as it did. -/
def turnAllUptoRow : OpenClaim := { program := "ytmelipbanbihdaa", sum := "24b6ba7dedc3c65edd514745a6273731d4173b1486acfc36641241686e0f21b5", func := "perigee/perigeelaw5.TurnAll", spec := "turnAll", recurses := true, apart := false, narrowed := true }
def TurnAllUptoSaid : Prop := turnAllUptoRow.holds Try.pinned (OpenSpec.upto turnAllSpec)

/-- 'perigeelaw5.TurnQuarters', WHERE WHAT IT READS IS OF BULK AT MOST 1048576: true; the input reads as it did. -/
def turnQuartersUptoRow : OpenClaim := { program := "ytmelipbanbihdaa", sum := "24b6ba7dedc3c65edd514745a6273731d4173b1486acfc36641241686e0f21b5", func := "perigee/perigeelaw5.TurnQuarters", spec := "turnQuarters", recurses := true, apart := false, narrowed := true }
def TurnQuartersUptoSaid : Prop := turnQuartersUptoRow.holds Try.pinned (OpenSpec.upto turnQuartersSpec)

/-- 'perigeelaw5.TurnLong', WHERE WHAT IT READS IS OF BULK AT MOST 1048576: true; the input reads as it did. -/
def turnLongUptoRow : OpenClaim := { program := "ytmelipbanbihdaa", sum := "24b6ba7dedc3c65edd514745a6273731d4173b1486acfc36641241686e0f21b5", func := "perigee/perigeelaw5.TurnLong", spec := "turnLong", recurses := true, apart := false, narrowed := true }
def TurnLongUptoSaid : Prop := turnLongUptoRow.holds Try.pinned (OpenSpec.upto turnLongSpec)

/-- 'perigeelaw5.TurnTwice', WHERE WHAT IT READS IS OF BULK AT MOST 1048576: true; the input reads as it did. -/
def turnTwiceUptoRow : OpenClaim := { program := "ytmelipbanbihdaa", sum := "24b6ba7dedc3c65edd514745a6273731d4173b1486acfc36641241686e0f21b5", func := "perigee/perigeelaw5.TurnTwice", spec := "turnTwice", recurses := true, apart := false, narrowed := true }
def TurnTwiceUptoSaid : Prop := turnTwiceUptoRow.holds Try.pinned (OpenSpec.upto turnTwiceSpec)

/-- 'perigeelaw5.TurnMirror', WHERE WHAT IT READS IS OF BULK AT MOST 1048576: true; the input reads as it did. -/
def turnMirrorUptoRow : OpenClaim := { program := "ytmelipbanbihdaa", sum := "24b6ba7dedc3c65edd514745a6273731d4173b1486acfc36641241686e0f21b5", func := "perigee/perigeelaw5.TurnMirror", spec := "turnMirror", recurses := true, apart := false, narrowed := true }
def TurnMirrorUptoSaid : Prop := turnMirrorUptoRow.holds Try.pinned (OpenSpec.upto turnMirrorSpec)

end Rows
end Go.Proofs.Ytmelipbanbihdaa
