/- What the laws of sort want beside their walks: what By and Rising tell, a copy, the law's own awake. -/
import Derived.Test.YtjilnmpajhifcaaSortDoc2
import Derived.StillTailTactics
namespace Go.Proofs.Ytjilnmpajhifcaa
open Go.RowKit
/-- Keys of 64 bits. -/
def Ok64 (L : List (Nat × Int)) : Prop := ∀ x ∈ L, x.1 < 18446744073709551616
theorem Ok64.std {f : Nat × Int → Nat} {M L : List (Nat × Int)} (h : Ok64 L) (s : Std f M L) : Ok64 M := fun x hx => h x (s.perm.mem_iff.1 hx)
theorem Ok64.app {M L : List (Nat × Int)} (h : Ok64 L) (g : Ok64 M) : Ok64 (L ++ M) := fun x hx => by
  rcases List.mem_append.1 hx with a | a
  · exact h x a
  · exact g x a
theorem awake_two : ∀ M, Std Prod.fst M [((5 : Nat), (0 : Int)), (2, 1)] → M = [(2, 1), (5, 0)] := by
  intro M h
  refine h.uniq ⟨by simp, fun c => ?_⟩
  by_cases h2 : c = 2
  · subst h2; rfl
  · by_cases h5 : c = 5
    · subst h5; rfl
    · have e2 : ¬ (2 = c) := fun e => h2 e.symm
      have e5 : ¬ (5 = c) := fun e => h5 e.symm
      simp [e2, e5]
end Go.Proofs.Ytjilnmpajhifcaa
