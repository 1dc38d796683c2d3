/-
  No cell of these rows narrows 'for every input' (looked for: loops, veiled, ifaces, maps, wideKeys, modest, calm, conditions, laid).
  DERIVED. THE GIVEN ROWS OF THIS SEAT. 9 by the template 'for every input the law returns true; each argument reads behind the call as it read before'; 0 by the template 'total and deterministic' (their statements: YtgiamnehncbihaaTotals.lean).
  GIVEN WITH THE SEED: the statements are not yours to turn. If you find one false, say at which input.
  Laid BY PROGRAM, IN A SANDBOX (cutbox-rows.mjs): the forced cells as the released guide's own fill.sh prints them over the translation 831e71def84277b0… (all of the seat's roots in one cut). By AI agents, Wed Nov 11 2026. No macro, syntax, notation, axiom, sorry.
-/
import Derived.Test.YtgiamnehncbihaaChecked
import GoSem.Claim
import GoSem.ClaimJoined
import GoSem.ClaimMapViews
import Derived.JoinedTies
import Derived.KernelRfl
namespace Go.Proofs.Ytgiamnehncbihaa
/- THE CELL 'sum', in the pinned program and in every row, IS THE sha256 OF THE DUMP (.gsa) THAT YtgiamnehncbihaaProg.lean LOADS. Nothing in Lean hashes anything: it is a label: what it is worth is what the hold of that sum in a sandbox is worth. -/
noncomputable def Try.pinned : Pinned := { name := "ytgiamnehncbihaa", sum := "831e71def84277b042cc54688d53b5e3638456ef8379786aff3211bbbad349ee", checked := Try.checked }
namespace Rows
def none {H : Type} : Left H := { results := [], args := [] }

/-- 'perigeelaw3.HexaAll': WHATEVER THE INPUT: true; the input reads as it did. -/
def hexaAllSpec : ChangeSpec := { name := "hexaAll", fn := fun _ => fun
  | [d1, d2] => { results := [.lit (.bool true)], args := [d1, d2] }
  | _ => none }
def hexaAllRow : OpenClaim := { program := "ytgiamnehncbihaa", sum := "831e71def84277b042cc54688d53b5e3638456ef8379786aff3211bbbad349ee", func := "perigee/perigeelaw3.HexaAll", spec := "hexaAll", inPlace := ["internal/bytealg.IndexByteString", "internal/bytealg.IndexString"], named := ["internal/bytealg.MaxLen"], plainKeys := false, apart := false }
def HexaAllSaid : Prop := hexaAllRow.holds Try.pinned (OpenSpec.ofChange hexaAllSpec)

/-- ITS FALSE NEIGHBOUR: 'it returns false'. Refute it at one input. -/
def hexaAllWrong : ChangeSpec := { name := "hexaAll", fn := fun _ => fun
  | [d1, d2] => { results := [.lit (.bool false)], args := [d1, d2] }
  | _ => none }
def HexaAllWrongFalsely : Prop := hexaAllRow.holds Try.pinned (OpenSpec.ofChange hexaAllWrong)

/-- 'perigeelaw3.HexaBack': WHATEVER THE INPUT: true; the input reads as it did. -/
def hexaBackSpec : ChangeSpec := { name := "hexaBack", fn := fun _ => fun
  | [d1, d2, d3] => { results := [.lit (.bool true)], args := [d1, d2, d3] }
  | _ => none }
def hexaBackRow : OpenClaim := { program := "ytgiamnehncbihaa", sum := "831e71def84277b042cc54688d53b5e3638456ef8379786aff3211bbbad349ee", func := "perigee/perigeelaw3.HexaBack", spec := "hexaBack", inPlace := ["internal/bytealg.IndexByteString", "internal/bytealg.IndexString"], named := ["internal/bytealg.MaxLen"], plainKeys := false, apart := false }
def HexaBackSaid : Prop := hexaBackRow.holds Try.pinned (OpenSpec.ofChange hexaBackSpec)

/-- ITS FALSE NEIGHBOUR: 'it returns false'. Refute it at one input. -/
def hexaBackWrong : ChangeSpec := { name := "hexaBack", fn := fun _ => fun
  | [d1, d2, d3] => { results := [.lit (.bool false)], args := [d1, d2, d3] }
  | _ => none }
def HexaBackWrongFalsely : Prop := hexaBackRow.holds Try.pinned (OpenSpec.ofChange hexaBackWrong)

/-- 'perigeelaw3.HexaWhole': WHATEVER THE INPUT: true; the input reads as it did. -/
def hexaWholeSpec : ChangeSpec := { name := "hexaWhole", fn := fun _ => fun
  | [d1, d2] => { results := [.lit (.bool true)], args := [d1, d2] }
  | _ => none }
def hexaWholeRow : OpenClaim := { program := "ytgiamnehncbihaa", sum := "831e71def84277b042cc54688d53b5e3638456ef8379786aff3211bbbad349ee", func := "perigee/perigeelaw3.HexaWhole", spec := "hexaWhole", inPlace := ["internal/bytealg.IndexByteString", "internal/bytealg.IndexString"], named := ["internal/bytealg.MaxLen"], plainKeys := false, apart := false }
def HexaWholeSaid : Prop := hexaWholeRow.holds Try.pinned (OpenSpec.ofChange hexaWholeSpec)

/-- ITS FALSE NEIGHBOUR: 'it returns false'. Refute it at one input. -/
def hexaWholeWrong : ChangeSpec := { name := "hexaWhole", fn := fun _ => fun
  | [d1, d2] => { results := [.lit (.bool false)], args := [d1, d2] }
  | _ => none }
def HexaWholeWrongFalsely : Prop := hexaWholeRow.holds Try.pinned (OpenSpec.ofChange hexaWholeWrong)

/-- 'perigeelaw3.HexaRefuses': WHATEVER THE INPUT: true; the input reads as it did. -/
def hexaRefusesSpec : ChangeSpec := { name := "hexaRefuses", fn := fun _ => fun
  | [d1, d2] => { results := [.lit (.bool true)], args := [d1, d2] }
  | _ => none }
def hexaRefusesRow : OpenClaim := { program := "ytgiamnehncbihaa", sum := "831e71def84277b042cc54688d53b5e3638456ef8379786aff3211bbbad349ee", func := "perigee/perigeelaw3.HexaRefuses", spec := "hexaRefuses", inPlace := ["internal/bytealg.IndexByteString", "internal/bytealg.IndexString"], named := ["internal/bytealg.MaxLen"], plainKeys := false, apart := false }
def HexaRefusesSaid : Prop := hexaRefusesRow.holds Try.pinned (OpenSpec.ofChange hexaRefusesSpec)

/-- ITS FALSE NEIGHBOUR: 'it returns false'. Refute it at one input. -/
def hexaRefusesWrong : ChangeSpec := { name := "hexaRefuses", fn := fun _ => fun
  | [d1, d2] => { results := [.lit (.bool false)], args := [d1, d2] }
  | _ => none }
def HexaRefusesWrongFalsely : Prop := hexaRefusesRow.holds Try.pinned (OpenSpec.ofChange hexaRefusesWrong)

/-- 'perigeelaw4.VecAll': WHATEVER THE INPUT: true; the input reads as it did. -/
def vecAllSpec : ChangeSpec := { name := "vecAll", fn := fun _ => fun
  | [d1, d2, d3] => { results := [.lit (.bool true)], args := [d1, d2, d3] }
  | _ => none }
def vecAllRow : OpenClaim := { program := "ytgiamnehncbihaa", sum := "831e71def84277b042cc54688d53b5e3638456ef8379786aff3211bbbad349ee", func := "perigee/perigeelaw4.VecAll", spec := "vecAll", unfollowed := true, recurses := true, plainKeys := false, apart := false }
def VecAllSaid : Prop := vecAllRow.holds Try.pinned (OpenSpec.ofChange vecAllSpec)

/-- ITS FALSE NEIGHBOUR: 'it returns false'. Refute it at one input. -/
def vecAllWrong : ChangeSpec := { name := "vecAll", fn := fun _ => fun
  | [d1, d2, d3] => { results := [.lit (.bool false)], args := [d1, d2, d3] }
  | _ => none }
def VecAllWrongFalsely : Prop := vecAllRow.holds Try.pinned (OpenSpec.ofChange vecAllWrong)

/-- 'perigeelaw4.VecSigns': WHATEVER THE INPUT: true; the input reads as it did. -/
def vecSignsSpec : ChangeSpec := { name := "vecSigns", fn := fun _ => fun
  | [d1, d2, d3] => { results := [.lit (.bool true)], args := [d1, d2, d3] }
  | _ => none }
def vecSignsRow : OpenClaim := { program := "ytgiamnehncbihaa", sum := "831e71def84277b042cc54688d53b5e3638456ef8379786aff3211bbbad349ee", func := "perigee/perigeelaw4.VecSigns", spec := "vecSigns", unfollowed := true, recurses := true, plainKeys := false, apart := false }
def VecSignsSaid : Prop := vecSignsRow.holds Try.pinned (OpenSpec.ofChange vecSignsSpec)

/-- ITS FALSE NEIGHBOUR: 'it returns false'. Refute it at one input. -/
def vecSignsWrong : ChangeSpec := { name := "vecSigns", fn := fun _ => fun
  | [d1, d2, d3] => { results := [.lit (.bool false)], args := [d1, d2, d3] }
  | _ => none }
def VecSignsWrongFalsely : Prop := vecSignsRow.holds Try.pinned (OpenSpec.ofChange vecSignsWrong)

/-- 'perigeelaw4.VecSums': WHATEVER THE INPUT: true; the input reads as it did. -/
def vecSumsSpec : ChangeSpec := { name := "vecSums", fn := fun _ => fun
  | [d1, d2] => { results := [.lit (.bool true)], args := [d1, d2] }
  | _ => none }
def vecSumsRow : OpenClaim := { program := "ytgiamnehncbihaa", sum := "831e71def84277b042cc54688d53b5e3638456ef8379786aff3211bbbad349ee", func := "perigee/perigeelaw4.VecSums", spec := "vecSums", unfollowed := true, recurses := true, plainKeys := false, apart := false }
def VecSumsSaid : Prop := vecSumsRow.holds Try.pinned (OpenSpec.ofChange vecSumsSpec)

/-- ITS FALSE NEIGHBOUR: 'it returns false'. Refute it at one input. -/
def vecSumsWrong : ChangeSpec := { name := "vecSums", fn := fun _ => fun
  | [d1, d2] => { results := [.lit (.bool false)], args := [d1, d2] }
  | _ => none }
def VecSumsWrongFalsely : Prop := vecSumsRow.holds Try.pinned (OpenSpec.ofChange vecSumsWrong)

/-- 'perigeelaw4.VecLengths': WHATEVER THE INPUT: true; the input reads as it did. -/
def vecLengthsSpec : ChangeSpec := { name := "vecLengths", fn := fun _ => fun
  | [d1, d2, d3, d4] => { results := [.lit (.bool true)], args := [d1, d2, d3, d4] }
  | _ => none }
def vecLengthsRow : OpenClaim := { program := "ytgiamnehncbihaa", sum := "831e71def84277b042cc54688d53b5e3638456ef8379786aff3211bbbad349ee", func := "perigee/perigeelaw4.VecLengths", spec := "vecLengths", recurses := true, plainKeys := false, apart := false }
def VecLengthsSaid : Prop := vecLengthsRow.holds Try.pinned (OpenSpec.ofChange vecLengthsSpec)

/-- ITS FALSE NEIGHBOUR: 'it returns false'. Refute it at one input. -/
def vecLengthsWrong : ChangeSpec := { name := "vecLengths", fn := fun _ => fun
  | [d1, d2, d3, d4] => { results := [.lit (.bool false)], args := [d1, d2, d3, d4] }
  | _ => none }
def VecLengthsWrongFalsely : Prop := vecLengthsRow.holds Try.pinned (OpenSpec.ofChange vecLengthsWrong)

/-- 'perigeelaw4.VecWhole': WHATEVER THE INPUT: true; the input reads as it did. -/
def vecWholeSpec : ChangeSpec := { name := "vecWhole", fn := fun _ => fun
  | [d1, d2, d3, d4, d5] => { results := [.lit (.bool true)], args := [d1, d2, d3, d4, d5] }
  | _ => none }
def vecWholeRow : OpenClaim := { program := "ytgiamnehncbihaa", sum := "831e71def84277b042cc54688d53b5e3638456ef8379786aff3211bbbad349ee", func := "perigee/perigeelaw4.VecWhole", spec := "vecWhole", unfollowed := true, recurses := true, plainKeys := false, apart := false }
def VecWholeSaid : Prop := vecWholeRow.holds Try.pinned (OpenSpec.ofChange vecWholeSpec)

/-- ITS FALSE NEIGHBOUR: 'it returns false'. Refute it at one input. -/
def vecWholeWrong : ChangeSpec := { name := "vecWhole", fn := fun _ => fun
  | [d1, d2, d3, d4, d5] => { results := [.lit (.bool false)], args := [d1, d2, d3, d4, d5] }
  | _ => none }
def VecWholeWrongFalsely : Prop := vecWholeRow.holds Try.pinned (OpenSpec.ofChange vecWholeWrong)

/- THE SECOND FORM. 'bulk': how many values and letters a reading holds, each counted each time it is reached (what is shared counts as often as it is met; a slice's spare places count too). A statement '..UptoSaid' is the law's where the arguments, and the package variables that the reading takes, are together of bulk at most 1048576: NARROWER than '..Said'. Prove '..Said' where nothing that the law and all that it calls make is longer than what came in: it says more and counts as full. Else prove '..UptoSaid'. A law counts once. -/
mutual
def uptoBulk {H : Type} : DataW H → Nat
  | .lit (.string bytes) => bytes.length + 1
  | .lit _ => 1
  | .nil => 1
  | .ptr d => uptoBulk d + 1
  | .slice elems spare => uptoBulkAll elems + uptoBulkAll spare + 1
  | .agg parts => uptoBulkAll parts + 1
  | .iface _ d => uptoBulk d + 1
  | .map entries => uptoBulkEntries entries + 1
  | .held _ => 1
def uptoBulkAll {H : Type} : List (DataW H) → Nat
  | [] => 0
  | d :: r => uptoBulk d + uptoBulkAll r
def uptoBulkEntries {H : Type} : List (Lit × DataW H) → Nat
  | [] => 0
  | x :: r => uptoBulkEntry x + uptoBulkEntries r
def uptoBulkEntry {H : Type} : Lit × DataW H → Nat
  | (.string bytes, d) => bytes.length + uptoBulk d + 1
  | (_, d) => uptoBulk d + 1
 end
def uptoSmall : (H : Type) → List (DataW H) → Bool := fun _ ds => decide (uptoBulkAll ds ≤ 1048576)
def OpenSpec.upto (s : _root_.Go.ChangeSpec) : _root_.Go.OpenSpec := { _root_.Go.OpenSpec.ofChange s with cond := some uptoSmall }

/-- 'perigeelaw3.HexaAll', WHERE WHAT IT READS IS OF BULK AT MOST 1048576: true; the input reads as it did. -/
def hexaAllUptoRow : OpenClaim := { program := "ytgiamnehncbihaa", sum := "831e71def84277b042cc54688d53b5e3638456ef8379786aff3211bbbad349ee", func := "perigee/perigeelaw3.HexaAll", spec := "hexaAll", inPlace := ["internal/bytealg.IndexByteString", "internal/bytealg.IndexString"], named := ["internal/bytealg.MaxLen"], plainKeys := false, apart := false, narrowed := true }
def HexaAllUptoSaid : Prop := hexaAllUptoRow.holds Try.pinned (OpenSpec.upto hexaAllSpec)

/-- 'perigeelaw3.HexaBack', WHERE WHAT IT READS IS OF BULK AT MOST 1048576: true; the input reads as it did. -/
def hexaBackUptoRow : OpenClaim := { program := "ytgiamnehncbihaa", sum := "831e71def84277b042cc54688d53b5e3638456ef8379786aff3211bbbad349ee", func := "perigee/perigeelaw3.HexaBack", spec := "hexaBack", inPlace := ["internal/bytealg.IndexByteString", "internal/bytealg.IndexString"], named := ["internal/bytealg.MaxLen"], plainKeys := false, apart := false, narrowed := true }
def HexaBackUptoSaid : Prop := hexaBackUptoRow.holds Try.pinned (OpenSpec.upto hexaBackSpec)

/-- 'perigeelaw3.HexaWhole', WHERE WHAT IT READS IS OF BULK AT MOST 1048576: true; the input reads as it did. -/
def hexaWholeUptoRow : OpenClaim := { program := "ytgiamnehncbihaa", sum := "831e71def84277b042cc54688d53b5e3638456ef8379786aff3211bbbad349ee", func := "perigee/perigeelaw3.HexaWhole", spec := "hexaWhole", inPlace := ["internal/bytealg.IndexByteString", "internal/bytealg.IndexString"], named := ["internal/bytealg.MaxLen"], plainKeys := false, apart := false, narrowed := true }
def HexaWholeUptoSaid : Prop := hexaWholeUptoRow.holds Try.pinned (OpenSpec.upto hexaWholeSpec)

/-- 'perigeelaw3.HexaRefuses', WHERE WHAT IT READS IS OF BULK AT MOST 1048576: true; the input reads as it did. -/
def hexaRefusesUptoRow : OpenClaim := { program := "ytgiamnehncbihaa", sum := "831e71def84277b042cc54688d53b5e3638456ef8379786aff3211bbbad349ee", func := "perigee/perigeelaw3.HexaRefuses", spec := "hexaRefuses", inPlace := ["internal/bytealg.IndexByteString", "internal/bytealg.IndexString"], named := ["internal/bytealg.MaxLen"], plainKeys := false, apart := false, narrowed := true }
def HexaRefusesUptoSaid : Prop := hexaRefusesUptoRow.holds Try.pinned (OpenSpec.upto hexaRefusesSpec)

/-- 'perigeelaw4.VecAll', WHERE WHAT IT READS IS OF BULK AT MOST 1048576: true; the input reads as it did. -/
def vecAllUptoRow : OpenClaim := { program := "ytgiamnehncbihaa", sum := "831e71def84277b042cc54688d53b5e3638456ef8379786aff3211bbbad349ee", func := "perigee/perigeelaw4.VecAll", spec := "vecAll", unfollowed := true, recurses := true, plainKeys := false, apart := false, narrowed := true }
def VecAllUptoSaid : Prop := vecAllUptoRow.holds Try.pinned (OpenSpec.upto vecAllSpec)

/-- 'perigeelaw4.VecSigns', WHERE WHAT IT READS IS OF BULK AT MOST 1048576: true; the input reads as it did. -/
def vecSignsUptoRow : OpenClaim := { program := "ytgiamnehncbihaa", sum := "831e71def84277b042cc54688d53b5e3638456ef8379786aff3211bbbad349ee", func := "perigee/perigeelaw4.VecSigns", spec := "vecSigns", unfollowed := true, recurses := true, plainKeys := false, apart := false, narrowed := true }
def VecSignsUptoSaid : Prop := vecSignsUptoRow.holds Try.pinned (OpenSpec.upto vecSignsSpec)

/-- 'perigeelaw4.VecSums', WHERE WHAT IT READS IS OF BULK AT MOST 1048576: true; the input reads as it did. -/
def vecSumsUptoRow : OpenClaim := { program := "ytgiamnehncbihaa", sum := "831e71def84277b042cc54688d53b5e3638456ef8379786aff3211bbbad349ee", func := "perigee/perigeelaw4.VecSums", spec := "vecSums", unfollowed := true, recurses := true, plainKeys := false, apart := false, narrowed := true }
def VecSumsUptoSaid : Prop := vecSumsUptoRow.holds Try.pinned (OpenSpec.upto vecSumsSpec)

/-- 'perigeelaw4.VecLengths', WHERE WHAT IT READS IS OF BULK AT MOST 1048576: true; the input reads as it did. -/
def vecLengthsUptoRow : OpenClaim := { program := "ytgiamnehncbihaa", sum := "831e71def84277b042cc54688d53b5e3638456ef8379786aff3211bbbad349ee", func := "perigee/perigeelaw4.VecLengths", spec := "vecLengths", recurses := true, plainKeys := false, apart := false, narrowed := true }
def VecLengthsUptoSaid : Prop := vecLengthsUptoRow.holds Try.pinned (OpenSpec.upto vecLengthsSpec)

/-- 'perigeelaw4.VecWhole', WHERE WHAT IT READS IS OF BULK AT MOST 1048576: true; the input reads as it did. -/
def vecWholeUptoRow : OpenClaim := { program := "ytgiamnehncbihaa", sum := "831e71def84277b042cc54688d53b5e3638456ef8379786aff3211bbbad349ee", func := "perigee/perigeelaw4.VecWhole", spec := "vecWhole", unfollowed := true, recurses := true, plainKeys := false, apart := false, narrowed := true }
def VecWholeUptoSaid : Prop := vecWholeUptoRow.holds Try.pinned (OpenSpec.upto vecWholeSpec)

end Rows
end Go.Proofs.Ytgiamnehncbihaa
