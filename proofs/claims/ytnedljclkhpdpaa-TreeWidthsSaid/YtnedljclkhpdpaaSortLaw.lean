/- What the laws of sort want beside their walks: what By and Rising tell, a copy, the law's own awake. -/
import Derived.Test.YtnedljclkhpdpaaSortDoc2
import Derived.StillTailTactics
namespace Go.Proofs.Ytnedljclkhpdpaa
open Go.RowKit
/-- Keys of 64 bits. -/
def Ok64 (L : List (Nat × Int)) : Prop := ∀ x ∈ L, x.1 < 18446744073709551616
theorem Ok64.std {f : Nat × Int → Nat} {M L : List (Nat × Int)} (h : Ok64 L) (s : Std f M L) : Ok64 M := fun x hx => h x (s.perm.mem_iff.1 hx)
theorem Ok64.app {M L : List (Nat × Int)} (h : Ok64 L) (g : Ok64 M) : Ok64 (L ++ M) := fun x hx => by
  rcases List.mem_append.1 hx with a | a
  · exact h x a
  · exact g x a
/-- What the program's Rising comes to. -/
def RisT : Prop := ∀ (A : Option Addr) (n c : Nat) (L : List (Nat × Int)), n < 9223372036854775807 → ∀ W : World, Ks W A n L → Calls Try.prog 20 #[.slice A n c] W fun e w' => e = .returned (.bool (rs L)) ∧ Below W.heap.size W w'
theorem Ks.of_own {w : World} {base : Nat} {v : Value} {n : Nat} {L : List (Nat × Int)} (h : w.ownsRow base 36 2 v n (flat L)) :
    ∃ A c, v = .slice A n c ∧ (A = none → n = 0 ∧ c = 0) ∧ Ks w A n L := by
  by_cases hv : v = .slice none 0 0
  · subst hv
    rcases h.2 with ⟨_, rfl⟩ | ⟨g, cap, cur, e, _⟩
    · have hl := h.1
      rw [flat_len] at hl
      exact ⟨none, 0, rfl, fun _ => ⟨rfl, rfl⟩, by omega, fun hn => by omega⟩
    · cases e
  · obtain ⟨g, cap, rfl, _, hl, _, hK⟩ := Kr.of_own h hv
    refine ⟨_, cap, rfl, by simp, ?_⟩
    rw [← hl]; exact hK.slice
theorem Sorted.use {w : World} {n : Nat} {L : List (Nat × Int)} {e : Ending} {w' : World} (h : Sorted w n L e w') :
    ∃ A c M, e = .returned (.slice A n c) ∧ (A = none → n = 0 ∧ c = 0) ∧ Ks w' A n M ∧ w'.ownsRow w.heap.size 36 2 (.slice A n c) n (flat M) ∧ Std Prod.fst M L ∧ Below w.heap.size w w' := by
  obtain ⟨⟨v, M, rfl, hown, hS⟩, hb⟩ := h
  obtain ⟨A, c, rfl, hc, hK⟩ := Ks.of_own hown
  exact ⟨A, c, M, rfl, hc, hK, hown, hS, hb⟩
theorem awake_two : ∀ M, Std Prod.fst M [((5 : Nat), (0 : Int)), (2, 1)] → M = [(2, 1), (5, 0)] := by
  intro M h
  refine h.uniq ⟨by simp, fun c => ?_⟩
  by_cases h2 : c = 2
  · subst h2; rfl
  · by_cases h5 : c = 5
    · subst h5; rfl
    · have e2 : ¬ (2 = c) := fun e => h2 e.symm
      have e5 : ¬ (5 = c) := fun e => h5 e.symm
      simp [e2, e5]
end Go.Proofs.Ytnedljclkhpdpaa
