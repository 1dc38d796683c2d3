/- Bodies appended to a row of one's own, the source nil or not. -/
import Derived.Test.YtjilnmpajhifcaaSortLaw
import Derived.Test.YtjilnmpajhifcaaOwn
namespace Go.Proofs.Ytjilnmpajhifcaa
open Go.RowKit
theorem flat_app (L M : List (Nat × Int)) : flat (L ++ M) = flat L ++ flat M := by unfold flat; rw [List.flatMap_append]
/-- Two sorted lists together are, sorted, what both lists together are. -/
theorem std_app {α : Type} {f : α → Nat} {B S1 S2 L1 L2 : List α} (h : Std f B (S1 ++ S2)) (h1 : Std f S1 L1) (h2 : Std f S2 L2) : Std f B (L1 ++ L2) :=
  ⟨h.1, fun c => by rw [h.2 c, List.filter_append, List.filter_append, h1.2 c, h2.2 c]⟩
end Go.Proofs.Ytjilnmpajhifcaa
