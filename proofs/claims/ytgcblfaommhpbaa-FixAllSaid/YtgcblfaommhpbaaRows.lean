/-
  No cell of these rows narrows 'for every input' (looked for: loops, veiled, ifaces, maps, wideKeys, modest, calm, conditions, laid).
  DERIVED. THE GIVEN ROWS OF THIS SEAT. 11 by the template 'for every input the law returns true; each argument reads behind the call as it read before'; 0 by the template 'total and deterministic' (their statements: YtgcblfaommhpbaaTotals.lean).
  GIVEN WITH THE SEED: the statements are not yours to turn. If you find one false, say at which input.
  Laid BY PROGRAM, IN A SANDBOX (cutbox-rows.mjs): the forced cells as the released guide's own fill.sh prints them over the translation 82e8fb58aa91b579… (all of the seat's roots in one cut). By AI agents, Wed Nov 11 2026. No macro, syntax, notation, axiom, sorry.
-/
import Derived.Test.YtgcblfaommhpbaaChecked
import GoSem.Claim
import GoSem.ClaimJoined
import GoSem.ClaimMapViews
import Derived.JoinedTies
import Derived.KernelRfl
namespace Go.Proofs.Ytgcblfaommhpbaa
/- THE CELL 'sum', in the pinned program and in every row, IS THE sha256 OF THE DUMP (.gsa) THAT YtgcblfaommhpbaaProg.lean LOADS. Nothing in Lean hashes anything: it is a label: what it is worth is what the hold of that sum in a sandbox is worth. -/
noncomputable def Try.pinned : Pinned := { name := "ytgcblfaommhpbaa", sum := "82e8fb58aa91b579f8bdaa2675df9d8293ded102778d095288d807f7f4178fda", checked := Try.checked }
namespace Rows
def none {H : Type} : Left H := { results := [], args := [] }

/-- 'perigeelaw1.LimbMuls': WHATEVER THE INPUT: true; the input reads as it did. -/
def limbMulsSpec : ChangeSpec := { name := "limbMuls", fn := fun _ => fun
  | [d1, d2, d3] => { results := [.lit (.bool true)], args := [d1, d2, d3] }
  | _ => none }
def limbMulsRow : OpenClaim := { program := "ytgcblfaommhpbaa", sum := "82e8fb58aa91b579f8bdaa2675df9d8293ded102778d095288d807f7f4178fda", func := "perigee/perigeelaw1.LimbMuls", spec := "limbMuls", recurses := true, apart := false }
def LimbMulsSaid : Prop := limbMulsRow.holds Try.pinned (OpenSpec.ofChange limbMulsSpec)

/-- ITS FALSE NEIGHBOUR: 'it returns false'. Refute it at one input. -/
def limbMulsWrong : ChangeSpec := { name := "limbMuls", fn := fun _ => fun
  | [d1, d2, d3] => { results := [.lit (.bool false)], args := [d1, d2, d3] }
  | _ => none }
def LimbMulsWrongFalsely : Prop := limbMulsRow.holds Try.pinned (OpenSpec.ofChange limbMulsWrong)

/-- 'perigeelaw1.LimbShifts': WHATEVER THE INPUT: true; the input reads as it did. -/
def limbShiftsSpec : ChangeSpec := { name := "limbShifts", fn := fun _ => fun
  | [d1, d2, d3] => { results := [.lit (.bool true)], args := [d1, d2, d3] }
  | _ => none }
def limbShiftsRow : OpenClaim := { program := "ytgcblfaommhpbaa", sum := "82e8fb58aa91b579f8bdaa2675df9d8293ded102778d095288d807f7f4178fda", func := "perigee/perigeelaw1.LimbShifts", spec := "limbShifts", recurses := true, apart := false }
def LimbShiftsSaid : Prop := limbShiftsRow.holds Try.pinned (OpenSpec.ofChange limbShiftsSpec)

/-- ITS FALSE NEIGHBOUR: 'it returns false'. Refute it at one input. -/
def limbShiftsWrong : ChangeSpec := { name := "limbShifts", fn := fun _ => fun
  | [d1, d2, d3] => { results := [.lit (.bool false)], args := [d1, d2, d3] }
  | _ => none }
def LimbShiftsWrongFalsely : Prop := limbShiftsRow.holds Try.pinned (OpenSpec.ofChange limbShiftsWrong)

/-- 'perigeelaw1.LimbOrder': WHATEVER THE INPUT: true; the input reads as it did. -/
def limbOrderSpec : ChangeSpec := { name := "limbOrder", fn := fun _ => fun
  | [d1, d2, d3] => { results := [.lit (.bool true)], args := [d1, d2, d3] }
  | _ => none }
def limbOrderRow : OpenClaim := { program := "ytgcblfaommhpbaa", sum := "82e8fb58aa91b579f8bdaa2675df9d8293ded102778d095288d807f7f4178fda", func := "perigee/perigeelaw1.LimbOrder", spec := "limbOrder", recurses := true, apart := false }
def LimbOrderSaid : Prop := limbOrderRow.holds Try.pinned (OpenSpec.ofChange limbOrderSpec)

/-- ITS FALSE NEIGHBOUR: 'it returns false'. Refute it at one input. -/
def limbOrderWrong : ChangeSpec := { name := "limbOrder", fn := fun _ => fun
  | [d1, d2, d3] => { results := [.lit (.bool false)], args := [d1, d2, d3] }
  | _ => none }
def LimbOrderWrongFalsely : Prop := limbOrderRow.holds Try.pinned (OpenSpec.ofChange limbOrderWrong)

/-- 'perigeelaw2.FixAll': WHATEVER THE INPUT: true; the input reads as it did. -/
def fixAllSpec : ChangeSpec := { name := "fixAll", fn := fun _ => fun
  | [d1, d2] => { results := [.lit (.bool true)], args := [d1, d2] }
  | _ => none }
def fixAllRow : OpenClaim := { program := "ytgcblfaommhpbaa", sum := "82e8fb58aa91b579f8bdaa2675df9d8293ded102778d095288d807f7f4178fda", func := "perigee/perigeelaw2.FixAll", spec := "fixAll", apart := false }
def FixAllSaid : Prop := fixAllRow.holds Try.pinned (OpenSpec.ofChange fixAllSpec)

/-- ITS FALSE NEIGHBOUR: 'it returns false'. Refute it at one input. -/
def fixAllWrong : ChangeSpec := { name := "fixAll", fn := fun _ => fun
  | [d1, d2] => { results := [.lit (.bool false)], args := [d1, d2] }
  | _ => none }
def FixAllWrongFalsely : Prop := fixAllRow.holds Try.pinned (OpenSpec.ofChange fixAllWrong)

/-- 'perigeelaw2.FixOne': WHATEVER THE INPUT: true; the input reads as it did. -/
def fixOneSpec : ChangeSpec := { name := "fixOne", fn := fun _ => fun
  | [d1, d2] => { results := [.lit (.bool true)], args := [d1, d2] }
  | _ => none }
def fixOneRow : OpenClaim := { program := "ytgcblfaommhpbaa", sum := "82e8fb58aa91b579f8bdaa2675df9d8293ded102778d095288d807f7f4178fda", func := "perigee/perigeelaw2.FixOne", spec := "fixOne", recurses := true, apart := false }
def FixOneSaid : Prop := fixOneRow.holds Try.pinned (OpenSpec.ofChange fixOneSpec)

/-- ITS FALSE NEIGHBOUR: 'it returns false'. Refute it at one input. -/
def fixOneWrong : ChangeSpec := { name := "fixOne", fn := fun _ => fun
  | [d1, d2] => { results := [.lit (.bool false)], args := [d1, d2] }
  | _ => none }
def FixOneWrongFalsely : Prop := fixOneRow.holds Try.pinned (OpenSpec.ofChange fixOneWrong)

/-- 'perigeelaw2.FixRoots': WHATEVER THE INPUT: true; the input reads as it did. -/
def fixRootsSpec : ChangeSpec := { name := "fixRoots", fn := fun _ => fun
  | [d1, d2] => { results := [.lit (.bool true)], args := [d1, d2] }
  | _ => none }
def fixRootsRow : OpenClaim := { program := "ytgcblfaommhpbaa", sum := "82e8fb58aa91b579f8bdaa2675df9d8293ded102778d095288d807f7f4178fda", func := "perigee/perigeelaw2.FixRoots", spec := "fixRoots", recurses := true, apart := false }
def FixRootsSaid : Prop := fixRootsRow.holds Try.pinned (OpenSpec.ofChange fixRootsSpec)

/-- ITS FALSE NEIGHBOUR: 'it returns false'. Refute it at one input. -/
def fixRootsWrong : ChangeSpec := { name := "fixRoots", fn := fun _ => fun
  | [d1, d2] => { results := [.lit (.bool false)], args := [d1, d2] }
  | _ => none }
def FixRootsWrongFalsely : Prop := fixRootsRow.holds Try.pinned (OpenSpec.ofChange fixRootsWrong)

/-- 'perigeelaw2.FixParts': WHATEVER THE INPUT: true; the input reads as it did. -/
def fixPartsSpec : ChangeSpec := { name := "fixParts", fn := fun _ => fun
  | [d1, d2] => { results := [.lit (.bool true)], args := [d1, d2] }
  | _ => none }
def fixPartsRow : OpenClaim := { program := "ytgcblfaommhpbaa", sum := "82e8fb58aa91b579f8bdaa2675df9d8293ded102778d095288d807f7f4178fda", func := "perigee/perigeelaw2.FixParts", spec := "fixParts", apart := false }
def FixPartsSaid : Prop := fixPartsRow.holds Try.pinned (OpenSpec.ofChange fixPartsSpec)

/-- ITS FALSE NEIGHBOUR: 'it returns false'. Refute it at one input. -/
def fixPartsWrong : ChangeSpec := { name := "fixParts", fn := fun _ => fun
  | [d1, d2] => { results := [.lit (.bool false)], args := [d1, d2] }
  | _ => none }
def FixPartsWrongFalsely : Prop := fixPartsRow.holds Try.pinned (OpenSpec.ofChange fixPartsWrong)

/-- 'perigeelaw3.HexaAll': WHATEVER THE INPUT: true; the input reads as it did. -/
def hexaAllSpec : ChangeSpec := { name := "hexaAll", fn := fun _ => fun
  | [d1, d2] => { results := [.lit (.bool true)], args := [d1, d2] }
  | _ => none }
def hexaAllRow : OpenClaim := { program := "ytgcblfaommhpbaa", sum := "82e8fb58aa91b579f8bdaa2675df9d8293ded102778d095288d807f7f4178fda", func := "perigee/perigeelaw3.HexaAll", spec := "hexaAll", inPlace := ["internal/bytealg.IndexByteString", "internal/bytealg.IndexString"], named := ["internal/bytealg.MaxLen"], apart := false }
def HexaAllSaid : Prop := hexaAllRow.holds Try.pinned (OpenSpec.ofChange hexaAllSpec)

/-- ITS FALSE NEIGHBOUR: 'it returns false'. Refute it at one input. -/
def hexaAllWrong : ChangeSpec := { name := "hexaAll", fn := fun _ => fun
  | [d1, d2] => { results := [.lit (.bool false)], args := [d1, d2] }
  | _ => none }
def HexaAllWrongFalsely : Prop := hexaAllRow.holds Try.pinned (OpenSpec.ofChange hexaAllWrong)

/-- 'perigeelaw3.HexaBack': WHATEVER THE INPUT: true; the input reads as it did. -/
def hexaBackSpec : ChangeSpec := { name := "hexaBack", fn := fun _ => fun
  | [d1, d2, d3] => { results := [.lit (.bool true)], args := [d1, d2, d3] }
  | _ => none }
def hexaBackRow : OpenClaim := { program := "ytgcblfaommhpbaa", sum := "82e8fb58aa91b579f8bdaa2675df9d8293ded102778d095288d807f7f4178fda", func := "perigee/perigeelaw3.HexaBack", spec := "hexaBack", inPlace := ["internal/bytealg.IndexByteString", "internal/bytealg.IndexString"], named := ["internal/bytealg.MaxLen"], apart := false }
def HexaBackSaid : Prop := hexaBackRow.holds Try.pinned (OpenSpec.ofChange hexaBackSpec)

/-- ITS FALSE NEIGHBOUR: 'it returns false'. Refute it at one input. -/
def hexaBackWrong : ChangeSpec := { name := "hexaBack", fn := fun _ => fun
  | [d1, d2, d3] => { results := [.lit (.bool false)], args := [d1, d2, d3] }
  | _ => none }
def HexaBackWrongFalsely : Prop := hexaBackRow.holds Try.pinned (OpenSpec.ofChange hexaBackWrong)

/-- 'perigeelaw3.HexaWhole': WHATEVER THE INPUT: true; the input reads as it did. -/
def hexaWholeSpec : ChangeSpec := { name := "hexaWhole", fn := fun _ => fun
  | [d1, d2] => { results := [.lit (.bool true)], args := [d1, d2] }
  | _ => none }
def hexaWholeRow : OpenClaim := { program := "ytgcblfaommhpbaa", sum := "82e8fb58aa91b579f8bdaa2675df9d8293ded102778d095288d807f7f4178fda", func := "perigee/perigeelaw3.HexaWhole", spec := "hexaWhole", inPlace := ["internal/bytealg.IndexByteString", "internal/bytealg.IndexString"], named := ["internal/bytealg.MaxLen"], apart := false }
def HexaWholeSaid : Prop := hexaWholeRow.holds Try.pinned (OpenSpec.ofChange hexaWholeSpec)

/-- ITS FALSE NEIGHBOUR: 'it returns false'. Refute it at one input. -/
def hexaWholeWrong : ChangeSpec := { name := "hexaWhole", fn := fun _ => fun
  | [d1, d2] => { results := [.lit (.bool false)], args := [d1, d2] }
  | _ => none }
def HexaWholeWrongFalsely : Prop := hexaWholeRow.holds Try.pinned (OpenSpec.ofChange hexaWholeWrong)

/-- 'perigeelaw3.HexaRefuses': WHATEVER THE INPUT: true; the input reads as it did. -/
def hexaRefusesSpec : ChangeSpec := { name := "hexaRefuses", fn := fun _ => fun
  | [d1, d2] => { results := [.lit (.bool true)], args := [d1, d2] }
  | _ => none }
def hexaRefusesRow : OpenClaim := { program := "ytgcblfaommhpbaa", sum := "82e8fb58aa91b579f8bdaa2675df9d8293ded102778d095288d807f7f4178fda", func := "perigee/perigeelaw3.HexaRefuses", spec := "hexaRefuses", inPlace := ["internal/bytealg.IndexByteString", "internal/bytealg.IndexString"], named := ["internal/bytealg.MaxLen"], apart := false }
def HexaRefusesSaid : Prop := hexaRefusesRow.holds Try.pinned (OpenSpec.ofChange hexaRefusesSpec)

/-- ITS FALSE NEIGHBOUR: 'it returns false'. Refute it at one input. -/
def hexaRefusesWrong : ChangeSpec := { name := "hexaRefuses", fn := fun _ => fun
  | [d1, d2] => { results := [.lit (.bool false)], args := [d1, d2] }
  | _ => none }
def HexaRefusesWrongFalsely : Prop := hexaRefusesRow.holds Try.pinned (OpenSpec.ofChange hexaRefusesWrong)

/- THE SECOND FORM. 'bulk': how many values and letters a reading holds, each counted each time it is reached (what is shared counts as often as it is met; a slice's spare places count too). A statement '..UptoSaid' is the law's where the arguments, and the package variables that the reading takes, are together of bulk at most 1048576: NARROWER than '..Said'. Prove '..Said' where nothing that the law and all that it calls make is longer than what came in: it says more and counts as full. Else prove '..UptoSaid'. A law counts once. -/
mutual
def uptoBulk {H : Type} : DataW H → Nat
  | .lit (.string bytes) => bytes.length + 1
  | .lit _ => 1
  | .nil => 1
  | .ptr d => uptoBulk d + 1
  | .slice elems spare => uptoBulkAll elems + uptoBulkAll spare + 1
  | .agg parts => uptoBulkAll parts + 1
  | .iface _ d => uptoBulk d + 1
  | .map entries => uptoBulkEntries entries + 1
  | .held _ => 1
def uptoBulkAll {H : Type} : List (DataW H) → Nat
  | [] => 0
  | d :: r => uptoBulk d + uptoBulkAll r
def uptoBulkEntries {H : Type} : List (Lit × DataW H) → Nat
  | [] => 0
  | x :: r => uptoBulkEntry x + uptoBulkEntries r
def uptoBulkEntry {H : Type} : Lit × DataW H → Nat
  | (.string bytes, d) => bytes.length + uptoBulk d + 1
  | (_, d) => uptoBulk d + 1
 end
def uptoSmall : (H : Type) → List (DataW H) → Bool := fun _ ds => decide (uptoBulkAll ds ≤ 1048576)
def OpenSpec.upto (s : _root_.Go.ChangeSpec) : _root_.Go.OpenSpec := { _root_.Go.OpenSpec.ofChange s with cond := some uptoSmall }

/-- 'perigeelaw1.LimbMuls', WHERE WHAT IT READS IS OF BULK AT MOST 1048576: true; the input reads as it did. -/
def limbMulsUptoRow : OpenClaim := { program := "ytgcblfaommhpbaa", sum := "82e8fb58aa91b579f8bdaa2675df9d8293ded102778d095288d807f7f4178fda", func := "perigee/perigeelaw1.LimbMuls", spec := "limbMuls", recurses := true, apart := false, narrowed := true }
def LimbMulsUptoSaid : Prop := limbMulsUptoRow.holds Try.pinned (OpenSpec.upto limbMulsSpec)

/-- 'perigeelaw1.LimbShifts', WHERE WHAT IT READS IS OF BULK AT MOST 1048576: true; the input reads as it did. -/
def limbShiftsUptoRow : OpenClaim := { program := "ytgcblfaommhpbaa", sum := "82e8fb58aa91b579f8bdaa2675df9d8293ded102778d095288d807f7f4178fda", func := "perigee/perigeelaw1.LimbShifts", spec := "limbShifts", recurses := true, apart := false, narrowed := true }
def LimbShiftsUptoSaid : Prop := limbShiftsUptoRow.holds Try.pinned (OpenSpec.upto limbShiftsSpec)

/-- 'perigeelaw1.LimbOrder', WHERE WHAT IT READS IS OF BULK AT MOST 1048576: true; the input reads as it did. -/
def limbOrderUptoRow : OpenClaim := { program := "ytgcblfaommhpbaa", sum := "82e8fb58aa91b579f8bdaa2675df9d8293ded102778d095288d807f7f4178fda", func := "perigee/perigeelaw1.LimbOrder", spec := "limbOrder", recurses := true, apart := false, narrowed := true }
def LimbOrderUptoSaid : Prop := limbOrderUptoRow.holds Try.pinned (OpenSpec.upto limbOrderSpec)

/-- 'perigeelaw2.FixAll', WHERE WHAT IT READS IS OF BULK AT MOST 1048576: true; the input reads as it did. -/
def fixAllUptoRow : OpenClaim := { program := "ytgcblfaommhpbaa", sum := "82e8fb58aa91b579f8bdaa2675df9d8293ded102778d095288d807f7f4178fda", func := "perigee/perigeelaw2.FixAll", spec := "fixAll", apart := false, narrowed := true }
def FixAllUptoSaid : Prop := fixAllUptoRow.holds Try.pinned (OpenSpec.upto fixAllSpec)

/-- 'perigeelaw2.FixOne', WHERE WHAT IT READS IS OF BULK AT MOST 1048576: true; the input reads as it did. -/
def fixOneUptoRow : OpenClaim := { program := "ytgcblfaommhpbaa", sum := "82e8fb58aa91b579f8bdaa2675df9d8293ded102778d095288d807f7f4178fda", func := "perigee/perigeelaw2.FixOne", spec := "fixOne", recurses := true, apart := false, narrowed := true }
def FixOneUptoSaid : Prop := fixOneUptoRow.holds Try.pinned (OpenSpec.upto fixOneSpec)

/-- 'perigeelaw2.FixRoots', WHERE WHAT IT READS IS OF BULK AT MOST 1048576: true; the input reads as it did. -/
def fixRootsUptoRow : OpenClaim := { program := "ytgcblfaommhpbaa", sum := "82e8fb58aa91b579f8bdaa2675df9d8293ded102778d095288d807f7f4178fda", func := "perigee/perigeelaw2.FixRoots", spec := "fixRoots", recurses := true, apart := false, narrowed := true }
def FixRootsUptoSaid : Prop := fixRootsUptoRow.holds Try.pinned (OpenSpec.upto fixRootsSpec)

/-- 'perigeelaw2.FixParts', WHERE WHAT IT READS IS OF BULK AT MOST 1048576: true; the input reads as it did. -/
def fixPartsUptoRow : OpenClaim := { program := "ytgcblfaommhpbaa", sum := "82e8fb58aa91b579f8bdaa2675df9d8293ded102778d095288d807f7f4178fda", func := "perigee/perigeelaw2.FixParts", spec := "fixParts", apart := false, narrowed := true }
def FixPartsUptoSaid : Prop := fixPartsUptoRow.holds Try.pinned (OpenSpec.upto fixPartsSpec)

/-- 'perigeelaw3.HexaAll', WHERE WHAT IT READS IS OF BULK AT MOST 1048576: true; the input reads as it did. -/
def hexaAllUptoRow : OpenClaim := { program := "ytgcblfaommhpbaa", sum := "82e8fb58aa91b579f8bdaa2675df9d8293ded102778d095288d807f7f4178fda", func := "perigee/perigeelaw3.HexaAll", spec := "hexaAll", inPlace := ["internal/bytealg.IndexByteString", "internal/bytealg.IndexString"], named := ["internal/bytealg.MaxLen"], apart := false, narrowed := true }
def HexaAllUptoSaid : Prop := hexaAllUptoRow.holds Try.pinned (OpenSpec.upto hexaAllSpec)

/-- 'perigeelaw3.HexaBack', WHERE WHAT IT READS IS OF BULK AT MOST 1048576: true; the input reads as it did. -/
def hexaBackUptoRow : OpenClaim := { program := "ytgcblfaommhpbaa", sum := "82e8fb58aa91b579f8bdaa2675df9d8293ded102778d095288d807f7f4178fda", func := "perigee/perigeelaw3.HexaBack", spec := "hexaBack", inPlace := ["internal/bytealg.IndexByteString", "internal/bytealg.IndexString"], named := ["internal/bytealg.MaxLen"], apart := false, narrowed := true }
def HexaBackUptoSaid : Prop := hexaBackUptoRow.holds Try.pinned (OpenSpec.upto hexaBackSpec)

/-- 'perigeelaw3.HexaWhole', WHERE WHAT IT READS IS OF BULK AT MOST 1048576: true; the input reads as it did. -/
def hexaWholeUptoRow : OpenClaim := { program := "ytgcblfaommhpbaa", sum := "82e8fb58aa91b579f8bdaa2675df9d8293ded102778d095288d807f7f4178fda", func := "perigee/perigeelaw3.HexaWhole", spec := "hexaWhole", inPlace := ["internal/bytealg.IndexByteString", "internal/bytealg.IndexString"], named := ["internal/bytealg.MaxLen"], apart := false, narrowed := true }
def HexaWholeUptoSaid : Prop := hexaWholeUptoRow.holds Try.pinned (OpenSpec.upto hexaWholeSpec)

/-- 'perigeelaw3.HexaRefuses', WHERE WHAT IT READS IS OF BULK AT MOST 1048576: true; the input reads as it did. -/
def hexaRefusesUptoRow : OpenClaim := { program := "ytgcblfaommhpbaa", sum := "82e8fb58aa91b579f8bdaa2675df9d8293ded102778d095288d807f7f4178fda", func := "perigee/perigeelaw3.HexaRefuses", spec := "hexaRefuses", inPlace := ["internal/bytealg.IndexByteString", "internal/bytealg.IndexString"], named := ["internal/bytealg.MaxLen"], apart := false, narrowed := true }
def HexaRefusesUptoSaid : Prop := hexaRefusesUptoRow.holds Try.pinned (OpenSpec.upto hexaRefusesSpec)

end Rows
end Go.Proofs.Ytgcblfaommhpbaa
