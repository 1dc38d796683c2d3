/-
  No cell of these rows narrows 'for every input' (looked for: loops, veiled, ifaces, maps, wideKeys, modest, calm, conditions, laid).
  DERIVED. THE GIVEN ROWS OF THIS SEAT. 6 by the template 'for every input the law returns true; each argument reads behind the call as it read before'; 0 by the template 'total and deterministic' (their statements: YtmmlekgojblopaaTotals.lean).
  GIVEN WITH THE SEED: the statements are not yours to turn. If you find one false, say at which input.
  Laid BY PROGRAM, IN A SANDBOX (cutbox-rows.mjs): the forced cells as the released guide's own fill.sh prints them over the translation dd15411a81d649ce… (all of the seat's roots in one cut). By AI agents, Wed Nov 11 2026. No macro, syntax, notation, axiom, sorry.
-/
import Derived.Test.YtmmlekgojblopaaChecked
import GoSem.Claim
import GoSem.ClaimJoined
import GoSem.ClaimMapViews
import Derived.JoinedTies
import Derived.KernelRfl
namespace Go.Proofs.Ytmmlekgojblopaa
/- THE CELL 'sum', in the pinned program and in every row, IS THE sha256 OF THE DUMP (.gsa) THAT YtmmlekgojblopaaProg.lean LOADS. Nothing in Lean hashes anything: it is a label: what it is worth is what the hold of that sum in a sandbox is worth. -/
noncomputable def Try.pinned : Pinned := { name := "ytmmlekgojblopaa", sum := "dd15411a81d649ce611a3d26b756ef4695bdb221b9edaa4b8240a69e7b9f451e", checked := Try.checked }
namespace Rows
def none {H : Type} : Left H := { results := [], args := [] }

/-- 'perigeelaw10.PairAll': WHATEVER THE INPUT: true; the input reads as it did. -/
def pairAllSpec : ChangeSpec := { name := "pairAll", fn := fun _ => fun
  | [d1, d2, d3, d4, d5, d6] => { results := [.lit (.bool true)], args := [d1, d2, d3, d4, d5, d6] }
  | _ => none }
def pairAllRow : OpenClaim := { program := "ytmmlekgojblopaa", sum := "dd15411a81d649ce611a3d26b756ef4695bdb221b9edaa4b8240a69e7b9f451e", func := "perigee/perigeelaw10.PairAll", spec := "pairAll", unfollowed := true, recurses := true, plainKeys := false, apart := false }
def PairAllSaid : Prop := pairAllRow.holds Try.pinned (OpenSpec.ofChange pairAllSpec)

/-- ITS FALSE NEIGHBOUR: 'it returns false'. Refute it at one input. -/
def pairAllWrong : ChangeSpec := { name := "pairAll", fn := fun _ => fun
  | [d1, d2, d3, d4, d5, d6] => { results := [.lit (.bool false)], args := [d1, d2, d3, d4, d5, d6] }
  | _ => none }
def PairAllWrongFalsely : Prop := pairAllRow.holds Try.pinned (OpenSpec.ofChange pairAllWrong)

/-- 'perigeelaw10.PairTurned': WHATEVER THE INPUT: true; the input reads as it did. -/
def pairTurnedSpec : ChangeSpec := { name := "pairTurned", fn := fun _ => fun
  | [d1, d2, d3, d4, d5, d6] => { results := [.lit (.bool true)], args := [d1, d2, d3, d4, d5, d6] }
  | _ => none }
def pairTurnedRow : OpenClaim := { program := "ytmmlekgojblopaa", sum := "dd15411a81d649ce611a3d26b756ef4695bdb221b9edaa4b8240a69e7b9f451e", func := "perigee/perigeelaw10.PairTurned", spec := "pairTurned", unfollowed := true, recurses := true, plainKeys := false, apart := false }
def PairTurnedSaid : Prop := pairTurnedRow.holds Try.pinned (OpenSpec.ofChange pairTurnedSpec)

/-- ITS FALSE NEIGHBOUR: 'it returns false'. Refute it at one input. -/
def pairTurnedWrong : ChangeSpec := { name := "pairTurned", fn := fun _ => fun
  | [d1, d2, d3, d4, d5, d6] => { results := [.lit (.bool false)], args := [d1, d2, d3, d4, d5, d6] }
  | _ => none }
def PairTurnedWrongFalsely : Prop := pairTurnedRow.holds Try.pinned (OpenSpec.ofChange pairTurnedWrong)

/-- 'perigeelaw10.PairFar': WHATEVER THE INPUT: true; the input reads as it did. -/
def pairFarSpec : ChangeSpec := { name := "pairFar", fn := fun _ => fun
  | [d1, d2, d3] => { results := [.lit (.bool true)], args := [d1, d2, d3] }
  | _ => none }
def pairFarRow : OpenClaim := { program := "ytmmlekgojblopaa", sum := "dd15411a81d649ce611a3d26b756ef4695bdb221b9edaa4b8240a69e7b9f451e", func := "perigee/perigeelaw10.PairFar", spec := "pairFar", unfollowed := true, recurses := true, plainKeys := false, apart := false }
def PairFarSaid : Prop := pairFarRow.holds Try.pinned (OpenSpec.ofChange pairFarSpec)

/-- ITS FALSE NEIGHBOUR: 'it returns false'. Refute it at one input. -/
def pairFarWrong : ChangeSpec := { name := "pairFar", fn := fun _ => fun
  | [d1, d2, d3] => { results := [.lit (.bool false)], args := [d1, d2, d3] }
  | _ => none }
def PairFarWrongFalsely : Prop := pairFarRow.holds Try.pinned (OpenSpec.ofChange pairFarWrong)

/-- 'perigeelaw10.PairNone': WHATEVER THE INPUT: true; the input reads as it did. -/
def pairNoneSpec : ChangeSpec := { name := "pairNone", fn := fun _ => fun
  | [d1, d2, d3, d4] => { results := [.lit (.bool true)], args := [d1, d2, d3, d4] }
  | _ => none }
def pairNoneRow : OpenClaim := { program := "ytmmlekgojblopaa", sum := "dd15411a81d649ce611a3d26b756ef4695bdb221b9edaa4b8240a69e7b9f451e", func := "perigee/perigeelaw10.PairNone", spec := "pairNone", unfollowed := true, recurses := true, plainKeys := false, apart := false }
def PairNoneSaid : Prop := pairNoneRow.holds Try.pinned (OpenSpec.ofChange pairNoneSpec)

/-- ITS FALSE NEIGHBOUR: 'it returns false'. Refute it at one input. -/
def pairNoneWrong : ChangeSpec := { name := "pairNone", fn := fun _ => fun
  | [d1, d2, d3, d4] => { results := [.lit (.bool false)], args := [d1, d2, d3, d4] }
  | _ => none }
def PairNoneWrongFalsely : Prop := pairNoneRow.holds Try.pinned (OpenSpec.ofChange pairNoneWrong)

/-- 'perigeelaw10.PairEps': WHATEVER THE INPUT: true; the input reads as it did. -/
def pairEpsSpec : ChangeSpec := { name := "pairEps", fn := fun _ => fun
  | [d1, d2, d3, d4, d5] => { results := [.lit (.bool true)], args := [d1, d2, d3, d4, d5] }
  | _ => none }
def pairEpsRow : OpenClaim := { program := "ytmmlekgojblopaa", sum := "dd15411a81d649ce611a3d26b756ef4695bdb221b9edaa4b8240a69e7b9f451e", func := "perigee/perigeelaw10.PairEps", spec := "pairEps", unfollowed := true, recurses := true, plainKeys := false, apart := false }
def PairEpsSaid : Prop := pairEpsRow.holds Try.pinned (OpenSpec.ofChange pairEpsSpec)

/-- ITS FALSE NEIGHBOUR: 'it returns false'. Refute it at one input. -/
def pairEpsWrong : ChangeSpec := { name := "pairEps", fn := fun _ => fun
  | [d1, d2, d3, d4, d5] => { results := [.lit (.bool false)], args := [d1, d2, d3, d4, d5] }
  | _ => none }
def PairEpsWrongFalsely : Prop := pairEpsRow.holds Try.pinned (OpenSpec.ofChange pairEpsWrong)

/-- 'perigeelaw10.PairAcross': WHATEVER THE INPUT: true; the input reads as it did. -/
def pairAcrossSpec : ChangeSpec := { name := "pairAcross", fn := fun _ => fun
  | [d1, d2, d3, d4, d5] => { results := [.lit (.bool true)], args := [d1, d2, d3, d4, d5] }
  | _ => none }
def pairAcrossRow : OpenClaim := { program := "ytmmlekgojblopaa", sum := "dd15411a81d649ce611a3d26b756ef4695bdb221b9edaa4b8240a69e7b9f451e", func := "perigee/perigeelaw10.PairAcross", spec := "pairAcross", unfollowed := true, recurses := true, plainKeys := false, apart := false }
def PairAcrossSaid : Prop := pairAcrossRow.holds Try.pinned (OpenSpec.ofChange pairAcrossSpec)

/-- ITS FALSE NEIGHBOUR: 'it returns false'. Refute it at one input. -/
def pairAcrossWrong : ChangeSpec := { name := "pairAcross", fn := fun _ => fun
  | [d1, d2, d3, d4, d5] => { results := [.lit (.bool false)], args := [d1, d2, d3, d4, d5] }
  | _ => none }
def PairAcrossWrongFalsely : Prop := pairAcrossRow.holds Try.pinned (OpenSpec.ofChange pairAcrossWrong)

/- THE SECOND FORM. 'bulk': how many values and letters a reading holds, each counted each time it is reached (what is shared counts as often as it is met; a slice's spare places count too). A statement '..UptoSaid' is the law's where the arguments, and the package variables that the reading takes, are together of bulk at most 1048576: NARROWER than '..Said'. Prove '..Said' where nothing that the law and all that it calls make is longer than what came in: it says more and counts as full. Else prove '..UptoSaid'. A law counts once. -/
mutual
def uptoBulk {H : Type} : DataW H → Nat
  | .lit (.string bytes) => bytes.length + 1
  | .lit _ => 1
  | .nil => 1
  | .ptr d => uptoBulk d + 1
  | .slice elems spare => uptoBulkAll elems + uptoBulkAll spare + 1
  | .agg parts => uptoBulkAll parts + 1
  | .iface _ d => uptoBulk d + 1
  | .map entries => uptoBulkEntries entries + 1
  | .held _ => 1
def uptoBulkAll {H : Type} : List (DataW H) → Nat
  | [] => 0
  | d :: r => uptoBulk d + uptoBulkAll r
def uptoBulkEntries {H : Type} : List (Lit × DataW H) → Nat
  | [] => 0
  | x :: r => uptoBulkEntry x + uptoBulkEntries r
def uptoBulkEntry {H : Type} : Lit × DataW H → Nat
  | (.string bytes, d) => bytes.length + uptoBulk d + 1
  | (_, d) => uptoBulk d + 1
 end
def uptoSmall : (H : Type) → List (DataW H) → Bool := fun _ ds => decide (uptoBulkAll ds ≤ 1048576)
def OpenSpec.upto (s : _root_.Go.ChangeSpec) : _root_.Go.OpenSpec := { _root_.Go.OpenSpec.ofChange s with cond := some uptoSmall }

/-- 'perigeelaw10.PairAll', WHERE WHAT IT READS IS OF BULK AT MOST 1048576: true; the input reads as it did. -/
def pairAllUptoRow : OpenClaim := { program := "ytmmlekgojblopaa", sum := "dd15411a81d649ce611a3d26b756ef4695bdb221b9edaa4b8240a69e7b9f451e", func := "perigee/perigeelaw10.PairAll", spec := "pairAll", unfollowed := true, recurses := true, plainKeys := false, apart := false, narrowed := true }
def PairAllUptoSaid : Prop := pairAllUptoRow.holds Try.pinned (OpenSpec.upto pairAllSpec)

/-- 'perigeelaw10.PairTurned', WHERE WHAT IT READS IS OF BULK AT MOST 1048576: true; the input reads as it did. -/
def pairTurnedUptoRow : OpenClaim := { program := "ytmmlekgojblopaa", sum := "dd15411a81d649ce611a3d26b756ef4695bdb221b9edaa4b8240a69e7b9f451e", func := "perigee/perigeelaw10.PairTurned", spec := "pairTurned", unfollowed := true, recurses := true, plainKeys := false, apart := false, narrowed := true }
def PairTurnedUptoSaid : Prop := pairTurnedUptoRow.holds Try.pinned (OpenSpec.upto pairTurnedSpec)

/-- 'perigeelaw10.PairFar', WHERE WHAT IT READS IS OF BULK AT MOST 1048576: true; the input reads as it did. -/
def pairFarUptoRow : OpenClaim := { program := "ytmmlekgojblopaa", sum := "dd15411a81d649ce611a3d26b756ef4695bdb221b9edaa4b8240a69e7b9f451e", func := "perigee/perigeelaw10.PairFar", spec := "pairFar", unfollowed := true, recurses := true, plainKeys := false, apart := false, narrowed := true }
def PairFarUptoSaid : Prop := pairFarUptoRow.holds Try.pinned (OpenSpec.upto pairFarSpec)

/-- 'perigeelaw10.PairNone', WHERE WHAT IT READS IS OF BULK AT MOST 1048576: true; the input reads as it did. -/
def pairNoneUptoRow : OpenClaim := { program := "ytmmlekgojblopaa", sum := "dd15411a81d649ce611a3d26b756ef4695bdb221b9edaa4b8240a69e7b9f451e", func := "perigee/perigeelaw10.PairNone", spec := "pairNone", unfollowed := true, recurses := true, plainKeys := false, apart := false, narrowed := true }
def PairNoneUptoSaid : Prop := pairNoneUptoRow.holds Try.pinned (OpenSpec.upto pairNoneSpec)

/-- 'perigeelaw10.PairEps', WHERE WHAT IT READS IS OF BULK AT MOST 1048576: true; the input reads as it did. -/
def pairEpsUptoRow : OpenClaim := { program := "ytmmlekgojblopaa", sum := "dd15411a81d649ce611a3d26b756ef4695bdb221b9edaa4b8240a69e7b9f451e", func := "perigee/perigeelaw10.PairEps", spec := "pairEps", unfollowed := true, recurses := true, plainKeys := false, apart := false, narrowed := true }
def PairEpsUptoSaid : Prop := pairEpsUptoRow.holds Try.pinned (OpenSpec.upto pairEpsSpec)

/-- 'perigeelaw10.PairAcross', WHERE WHAT IT READS IS OF BULK AT MOST 1048576: true; the input reads as it did. -/
def pairAcrossUptoRow : OpenClaim := { program := "ytmmlekgojblopaa", sum := "dd15411a81d649ce611a3d26b756ef4695bdb221b9edaa4b8240a69e7b9f451e", func := "perigee/perigeelaw10.PairAcross", spec := "pairAcross", unfollowed := true, recurses := true, plainKeys := false, apart := false, narrowed := true }
def PairAcrossUptoSaid : Prop := pairAcrossUptoRow.holds Try.pinned (OpenSpec.upto pairAcrossSpec)

end Rows
end Go.Proofs.Ytmmlekgojblopaa
