/- The document's Add of a whole number and itself. -/
import Derived.Test.YtnedljclkhpdpaaZzRefE
namespace Go.Proofs.Ytnedljclkhpdpaa
open Go.RowKit
/-- What the document's Add comes to of a whole number and itself. -/
def AddT : Prop := ∀ (X : Nat), X ≤ 2147483648 → ∀ W : World, Calls Try.prog 18 #[.agg #[.int .i64 (X : Int), .int .u64 0], .agg #[.int .i64 (X : Int), .int .u64 0]] W fun e w' => e = .returned (.agg #[.int .i64 ((2 * X : Nat) : Int), .int .u64 0, .int .i64 0]) ∧ Below W.heap.size W w'
theorem add_prog : AddT := fun X hX W => by
  obtain ⟨x, hx⟩ : ∃ x : Int, x = (X : Int) * 18446744073709551616 := ⟨_, rfl⟩
  have m1 : My x := by unfold My; omega
  have m2 : My (x + x) := by unfold My; omega
  have k := radd_any x x m1 m1 W
  rw [ov_in m2, oe_in m2, show fh x = (X : Int) by unfold fh; omega, show fl x = 0 by unfold fl; omega, show fh (x + x) = ((2 * X : Nat) : Int) by unfold fh; omega, show fl (x + x) = 0 by unfold fl; omega] at k
  exact k
end Go.Proofs.Ytnedljclkhpdpaa
