/-
  No cell of these rows narrows 'for every input' (looked for: loops, veiled, ifaces, maps, wideKeys, modest, calm, conditions, laid).
  DERIVED. THE GIVEN ROWS OF THIS SEAT. 9 by the template 'for every input the law returns true; each argument reads behind the call as it read before'; 0 by the template 'total and deterministic' (their statements: YtafpmafcekcpdaaTotals.lean).
  GIVEN WITH THE SEED: the statements are not yours to turn. If you find one false, say at which input.
  Laid BY PROGRAM, IN A SANDBOX (cutbox-rows.mjs): the forced cells as the released guide's own fill.sh prints them over the translation 4f4ca6db9243c343… (all of the seat's roots in one cut). By AI agents, Wed Nov 11 2026. No macro, syntax, notation, axiom, sorry.
-/
import Derived.Test.YtafpmafcekcpdaaChecked
import GoSem.Claim
import GoSem.ClaimJoined
import GoSem.ClaimMapViews
import Derived.JoinedTies
import Derived.KernelRfl
namespace Go.Proofs.Ytafpmafcekcpdaa
/- THE CELL 'sum', in the pinned program and in every row, IS THE sha256 OF THE DUMP (.gsa) THAT YtafpmafcekcpdaaProg.lean LOADS. Nothing in Lean hashes anything: it is a label: what it is worth is what the hold of that sum in a sandbox is worth. -/
noncomputable def Try.pinned : Pinned := { name := "ytafpmafcekcpdaa", sum := "4f4ca6db9243c343fb821fc7435ee53f4ce8fe45b72f06f5a7107891daa3c4e0", checked := Try.checked }
namespace Rows
def none {H : Type} : Left H := { results := [], args := [] }

/-- 'perigeelaw1.LimbAdds': WHATEVER THE INPUT: true; the input reads as it did. -/
def limbAddsSpec : ChangeSpec := { name := "limbAdds", fn := fun _ => fun
  | [d1, d2] => { results := [.lit (.bool true)], args := [d1, d2] }
  | _ => none }
def limbAddsRow : OpenClaim := { program := "ytafpmafcekcpdaa", sum := "4f4ca6db9243c343fb821fc7435ee53f4ce8fe45b72f06f5a7107891daa3c4e0", func := "perigee/perigeelaw1.LimbAdds", spec := "limbAdds", recurses := true, apart := false }
def LimbAddsSaid : Prop := limbAddsRow.holds Try.pinned (OpenSpec.ofChange limbAddsSpec)

/-- ITS FALSE NEIGHBOUR: 'it returns false'. Refute it at one input. -/
def limbAddsWrong : ChangeSpec := { name := "limbAdds", fn := fun _ => fun
  | [d1, d2] => { results := [.lit (.bool false)], args := [d1, d2] }
  | _ => none }
def LimbAddsWrongFalsely : Prop := limbAddsRow.holds Try.pinned (OpenSpec.ofChange limbAddsWrong)

/-- 'perigeelaw1.LimbMuls': WHATEVER THE INPUT: true; the input reads as it did. -/
def limbMulsSpec : ChangeSpec := { name := "limbMuls", fn := fun _ => fun
  | [d1, d2, d3] => { results := [.lit (.bool true)], args := [d1, d2, d3] }
  | _ => none }
def limbMulsRow : OpenClaim := { program := "ytafpmafcekcpdaa", sum := "4f4ca6db9243c343fb821fc7435ee53f4ce8fe45b72f06f5a7107891daa3c4e0", func := "perigee/perigeelaw1.LimbMuls", spec := "limbMuls", recurses := true, apart := false }
def LimbMulsSaid : Prop := limbMulsRow.holds Try.pinned (OpenSpec.ofChange limbMulsSpec)

/-- ITS FALSE NEIGHBOUR: 'it returns false'. Refute it at one input. -/
def limbMulsWrong : ChangeSpec := { name := "limbMuls", fn := fun _ => fun
  | [d1, d2, d3] => { results := [.lit (.bool false)], args := [d1, d2, d3] }
  | _ => none }
def LimbMulsWrongFalsely : Prop := limbMulsRow.holds Try.pinned (OpenSpec.ofChange limbMulsWrong)

/-- 'perigeelaw1.LimbShifts': WHATEVER THE INPUT: true; the input reads as it did. -/
def limbShiftsSpec : ChangeSpec := { name := "limbShifts", fn := fun _ => fun
  | [d1, d2, d3] => { results := [.lit (.bool true)], args := [d1, d2, d3] }
  | _ => none }
def limbShiftsRow : OpenClaim := { program := "ytafpmafcekcpdaa", sum := "4f4ca6db9243c343fb821fc7435ee53f4ce8fe45b72f06f5a7107891daa3c4e0", func := "perigee/perigeelaw1.LimbShifts", spec := "limbShifts", recurses := true, apart := false }
def LimbShiftsSaid : Prop := limbShiftsRow.holds Try.pinned (OpenSpec.ofChange limbShiftsSpec)

/-- ITS FALSE NEIGHBOUR: 'it returns false'. Refute it at one input. -/
def limbShiftsWrong : ChangeSpec := { name := "limbShifts", fn := fun _ => fun
  | [d1, d2, d3] => { results := [.lit (.bool false)], args := [d1, d2, d3] }
  | _ => none }
def LimbShiftsWrongFalsely : Prop := limbShiftsRow.holds Try.pinned (OpenSpec.ofChange limbShiftsWrong)

/-- 'perigeelaw1.LimbBack': WHATEVER THE INPUT: true; the input reads as it did. -/
def limbBackSpec : ChangeSpec := { name := "limbBack", fn := fun _ => fun
  | [d1, d2] => { results := [.lit (.bool true)], args := [d1, d2] }
  | _ => none }
def limbBackRow : OpenClaim := { program := "ytafpmafcekcpdaa", sum := "4f4ca6db9243c343fb821fc7435ee53f4ce8fe45b72f06f5a7107891daa3c4e0", func := "perigee/perigeelaw1.LimbBack", spec := "limbBack", recurses := true, apart := false }
def LimbBackSaid : Prop := limbBackRow.holds Try.pinned (OpenSpec.ofChange limbBackSpec)

/-- ITS FALSE NEIGHBOUR: 'it returns false'. Refute it at one input. -/
def limbBackWrong : ChangeSpec := { name := "limbBack", fn := fun _ => fun
  | [d1, d2] => { results := [.lit (.bool false)], args := [d1, d2] }
  | _ => none }
def LimbBackWrongFalsely : Prop := limbBackRow.holds Try.pinned (OpenSpec.ofChange limbBackWrong)

/-- 'perigeelaw1.LimbRest': WHATEVER THE INPUT: true; the input reads as it did. -/
def limbRestSpec : ChangeSpec := { name := "limbRest", fn := fun _ => fun
  | [d1, d2] => { results := [.lit (.bool true)], args := [d1, d2] }
  | _ => none }
def limbRestRow : OpenClaim := { program := "ytafpmafcekcpdaa", sum := "4f4ca6db9243c343fb821fc7435ee53f4ce8fe45b72f06f5a7107891daa3c4e0", func := "perigee/perigeelaw1.LimbRest", spec := "limbRest", recurses := true, apart := false }
def LimbRestSaid : Prop := limbRestRow.holds Try.pinned (OpenSpec.ofChange limbRestSpec)

/-- ITS FALSE NEIGHBOUR: 'it returns false'. Refute it at one input. -/
def limbRestWrong : ChangeSpec := { name := "limbRest", fn := fun _ => fun
  | [d1, d2] => { results := [.lit (.bool false)], args := [d1, d2] }
  | _ => none }
def LimbRestWrongFalsely : Prop := limbRestRow.holds Try.pinned (OpenSpec.ofChange limbRestWrong)

/-- 'perigeelaw1.LimbRoots': WHATEVER THE INPUT: true; the input reads as it did. -/
def limbRootsSpec : ChangeSpec := { name := "limbRoots", fn := fun _ => fun
  | [d] => { results := [.lit (.bool true)], args := [d] }
  | _ => none }
def limbRootsRow : OpenClaim := { program := "ytafpmafcekcpdaa", sum := "4f4ca6db9243c343fb821fc7435ee53f4ce8fe45b72f06f5a7107891daa3c4e0", func := "perigee/perigeelaw1.LimbRoots", spec := "limbRoots", recurses := true, apart := false }
def LimbRootsSaid : Prop := limbRootsRow.holds Try.pinned (OpenSpec.ofChange limbRootsSpec)

/-- ITS FALSE NEIGHBOUR: 'it returns false'. Refute it at one input. -/
def limbRootsWrong : ChangeSpec := { name := "limbRoots", fn := fun _ => fun
  | [d] => { results := [.lit (.bool false)], args := [d] }
  | _ => none }
def LimbRootsWrongFalsely : Prop := limbRootsRow.holds Try.pinned (OpenSpec.ofChange limbRootsWrong)

/-- 'perigeelaw1.LimbMoves': WHATEVER THE INPUT: true; the input reads as it did. -/
def limbMovesSpec : ChangeSpec := { name := "limbMoves", fn := fun _ => fun
  | [d1, d2, d3] => { results := [.lit (.bool true)], args := [d1, d2, d3] }
  | _ => none }
def limbMovesRow : OpenClaim := { program := "ytafpmafcekcpdaa", sum := "4f4ca6db9243c343fb821fc7435ee53f4ce8fe45b72f06f5a7107891daa3c4e0", func := "perigee/perigeelaw1.LimbMoves", spec := "limbMoves", recurses := true, apart := false }
def LimbMovesSaid : Prop := limbMovesRow.holds Try.pinned (OpenSpec.ofChange limbMovesSpec)

/-- ITS FALSE NEIGHBOUR: 'it returns false'. Refute it at one input. -/
def limbMovesWrong : ChangeSpec := { name := "limbMoves", fn := fun _ => fun
  | [d1, d2, d3] => { results := [.lit (.bool false)], args := [d1, d2, d3] }
  | _ => none }
def LimbMovesWrongFalsely : Prop := limbMovesRow.holds Try.pinned (OpenSpec.ofChange limbMovesWrong)

/-- 'perigeelaw1.LimbWords': WHATEVER THE INPUT: true; the input reads as it did. -/
def limbWordsSpec : ChangeSpec := { name := "limbWords", fn := fun _ => fun
  | [d1, d2, d3] => { results := [.lit (.bool true)], args := [d1, d2, d3] }
  | _ => none }
def limbWordsRow : OpenClaim := { program := "ytafpmafcekcpdaa", sum := "4f4ca6db9243c343fb821fc7435ee53f4ce8fe45b72f06f5a7107891daa3c4e0", func := "perigee/perigeelaw1.LimbWords", spec := "limbWords", recurses := true, apart := false }
def LimbWordsSaid : Prop := limbWordsRow.holds Try.pinned (OpenSpec.ofChange limbWordsSpec)

/-- ITS FALSE NEIGHBOUR: 'it returns false'. Refute it at one input. -/
def limbWordsWrong : ChangeSpec := { name := "limbWords", fn := fun _ => fun
  | [d1, d2, d3] => { results := [.lit (.bool false)], args := [d1, d2, d3] }
  | _ => none }
def LimbWordsWrongFalsely : Prop := limbWordsRow.holds Try.pinned (OpenSpec.ofChange limbWordsWrong)

/-- 'perigeelaw1.LimbOrder': WHATEVER THE INPUT: true; the input reads as it did. -/
def limbOrderSpec : ChangeSpec := { name := "limbOrder", fn := fun _ => fun
  | [d1, d2, d3] => { results := [.lit (.bool true)], args := [d1, d2, d3] }
  | _ => none }
def limbOrderRow : OpenClaim := { program := "ytafpmafcekcpdaa", sum := "4f4ca6db9243c343fb821fc7435ee53f4ce8fe45b72f06f5a7107891daa3c4e0", func := "perigee/perigeelaw1.LimbOrder", spec := "limbOrder", recurses := true, apart := false }
def LimbOrderSaid : Prop := limbOrderRow.holds Try.pinned (OpenSpec.ofChange limbOrderSpec)

/-- ITS FALSE NEIGHBOUR: 'it returns false'. Refute it at one input. -/
def limbOrderWrong : ChangeSpec := { name := "limbOrder", fn := fun _ => fun
  | [d1, d2, d3] => { results := [.lit (.bool false)], args := [d1, d2, d3] }
  | _ => none }
def LimbOrderWrongFalsely : Prop := limbOrderRow.holds Try.pinned (OpenSpec.ofChange limbOrderWrong)

/- THE SECOND FORM. 'bulk': how many values and letters a reading holds, each counted each time it is reached (what is shared counts as often as it is met; a slice's spare places count too). A statement '..UptoSaid' is the law's where the arguments, and the package variables that the reading takes, are together of bulk at most 1048576: NARROWER than '..Said'. Prove '..Said' where nothing that the law and all that it calls make is longer than what came in: it says more and counts as full. Else prove '..UptoSaid'. A law counts once. -/
mutual
def uptoBulk {H : Type} : DataW H → Nat
  | .lit (.string bytes) => bytes.length + 1
  | .lit _ => 1
  | .nil => 1
  | .ptr d => uptoBulk d + 1
  | .slice elems spare => uptoBulkAll elems + uptoBulkAll spare + 1
  | .agg parts => uptoBulkAll parts + 1
  | .iface _ d => uptoBulk d + 1
  | .map entries => uptoBulkEntries entries + 1
  | .held _ => 1
def uptoBulkAll {H : Type} : List (DataW H) → Nat
  | [] => 0
  | d :: r => uptoBulk d + uptoBulkAll r
def uptoBulkEntries {H : Type} : List (Lit × DataW H) → Nat
  | [] => 0
  | x :: r => uptoBulkEntry x + uptoBulkEntries r
def uptoBulkEntry {H : Type} : Lit × DataW H → Nat
  | (.string bytes, d) => bytes.length + uptoBulk d + 1
  | (_, d) => uptoBulk d + 1
 end
def uptoSmall : (H : Type) → List (DataW H) → Bool := fun _ ds => decide (uptoBulkAll ds ≤ 1048576)
def OpenSpec.upto (s : _root_.Go.ChangeSpec) : _root_.Go.OpenSpec := { _root_.Go.OpenSpec.ofChange s with cond := some uptoSmall }

/-- 'perigeelaw1.LimbAdds', WHERE WHAT IT READS IS OF BULK AT MOST 1048576: true; the input reads as it did. -/
def limbAddsUptoRow : OpenClaim := { program := "ytafpmafcekcpdaa", sum := "4f4ca6db9243c343fb821fc7435ee53f4ce8fe45b72f06f5a7107891daa3c4e0", func := "perigee/perigeelaw1.LimbAdds", spec := "limbAdds", recurses := true, apart := false, narrowed := true }
def LimbAddsUptoSaid : Prop := limbAddsUptoRow.holds Try.pinned (OpenSpec.upto limbAddsSpec)

/-- 'perigeelaw1.LimbMuls', WHERE WHAT IT READS IS OF BULK AT MOST 1048576: true; the input reads as it did. -/
def limbMulsUptoRow : OpenClaim := { program := "ytafpmafcekcpdaa", sum := "4f4ca6db9243c343fb821fc7435ee53f4ce8fe45b72f06f5a7107891daa3c4e0", func := "perigee/perigeelaw1.LimbMuls", spec := "limbMuls", recurses := true, apart := false, narrowed := true }
def LimbMulsUptoSaid : Prop := limbMulsUptoRow.holds Try.pinned (OpenSpec.upto limbMulsSpec)

/-- 'perigeelaw1.LimbShifts', WHERE WHAT IT READS IS OF BULK AT MOST 1048576: true; the input reads as it did. -/
def limbShiftsUptoRow : OpenClaim := { program := "ytafpmafcekcpdaa", sum := "4f4ca6db9243c343fb821fc7435ee53f4ce8fe45b72f06f5a7107891daa3c4e0", func := "perigee/perigeelaw1.LimbShifts", spec := "limbShifts", recurses := true, apart := false, narrowed := true }
def LimbShiftsUptoSaid : Prop := limbShiftsUptoRow.holds Try.pinned (OpenSpec.upto limbShiftsSpec)

/-- 'perigeelaw1.LimbBack', WHERE WHAT IT READS IS OF BULK AT MOST 1048576: true; the input reads as it did. -/
def limbBackUptoRow : OpenClaim := { program := "ytafpmafcekcpdaa", sum := "4f4ca6db9243c343fb821fc7435ee53f4ce8fe45b72f06f5a7107891daa3c4e0", func := "perigee/perigeelaw1.LimbBack", spec := "limbBack", recurses := true, apart := false, narrowed := true }
def LimbBackUptoSaid : Prop := limbBackUptoRow.holds Try.pinned (OpenSpec.upto limbBackSpec)

/-- 'perigeelaw1.LimbRest', WHERE WHAT IT READS IS OF BULK AT MOST 1048576: true; the input reads as it did. -/
def limbRestUptoRow : OpenClaim := { program := "ytafpmafcekcpdaa", sum := "4f4ca6db9243c343fb821fc7435ee53f4ce8fe45b72f06f5a7107891daa3c4e0", func := "perigee/perigeelaw1.LimbRest", spec := "limbRest", recurses := true, apart := false, narrowed := true }
def LimbRestUptoSaid : Prop := limbRestUptoRow.holds Try.pinned (OpenSpec.upto limbRestSpec)

/-- 'perigeelaw1.LimbRoots', WHERE WHAT IT READS IS OF BULK AT MOST 1048576: true; the input reads as it did. -/
def limbRootsUptoRow : OpenClaim := { program := "ytafpmafcekcpdaa", sum := "4f4ca6db9243c343fb821fc7435ee53f4ce8fe45b72f06f5a7107891daa3c4e0", func := "perigee/perigeelaw1.LimbRoots", spec := "limbRoots", recurses := true, apart := false, narrowed := true }
def LimbRootsUptoSaid : Prop := limbRootsUptoRow.holds Try.pinned (OpenSpec.upto limbRootsSpec)

/-- 'perigeelaw1.LimbMoves', WHERE WHAT IT READS IS OF BULK AT MOST 1048576: true; the input reads as it did. -/
def limbMovesUptoRow : OpenClaim := { program := "ytafpmafcekcpdaa", sum := "4f4ca6db9243c343fb821fc7435ee53f4ce8fe45b72f06f5a7107891daa3c4e0", func := "perigee/perigeelaw1.LimbMoves", spec := "limbMoves", recurses := true, apart := false, narrowed := true }
def LimbMovesUptoSaid : Prop := limbMovesUptoRow.holds Try.pinned (OpenSpec.upto limbMovesSpec)

/-- 'perigeelaw1.LimbWords', WHERE WHAT IT READS IS OF BULK AT MOST 1048576: true; the input reads as it did. -/
def limbWordsUptoRow : OpenClaim := { program := "ytafpmafcekcpdaa", sum := "4f4ca6db9243c343fb821fc7435ee53f4ce8fe45b72f06f5a7107891daa3c4e0", func := "perigee/perigeelaw1.LimbWords", spec := "limbWords", recurses := true, apart := false, narrowed := true }
def LimbWordsUptoSaid : Prop := limbWordsUptoRow.holds Try.pinned (OpenSpec.upto limbWordsSpec)

/-- 'perigeelaw1.LimbOrder', WHERE WHAT IT READS IS OF BULK AT MOST 1048576: true; the input reads as it did. -/
def limbOrderUptoRow : OpenClaim := { program := "ytafpmafcekcpdaa", sum := "4f4ca6db9243c343fb821fc7435ee53f4ce8fe45b72f06f5a7107891daa3c4e0", func := "perigee/perigeelaw1.LimbOrder", spec := "limbOrder", recurses := true, apart := false, narrowed := true }
def LimbOrderUptoSaid : Prop := limbOrderUptoRow.holds Try.pinned (OpenSpec.upto limbOrderSpec)

end Rows
end Go.Proofs.Ytafpmafcekcpdaa
