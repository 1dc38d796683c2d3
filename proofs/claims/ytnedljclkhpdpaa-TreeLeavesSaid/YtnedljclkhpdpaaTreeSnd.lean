/- What the tree of sorted bodies keeps. -/
import Derived.Test.YtnedljclkhpdpaaTreeBld
import Derived.Test.YtnedljclkhpdpaaTreeFew
import Derived.Test.YtnedljclkhpdpaaSortLaw
namespace Go.Proofs.Ytnedljclkhpdpaa
theorem rs_std {M L : List (Nat × Int)} (h : Std Prod.fst M L) : rs M = true := (rs_pair M).2 h.1
theorem keyAt_at {M : List (Nat × Int)} {k : Nat} {x : Nat × Int} (h : M[k]? = some x) : keyAt M k = x.1 := by unfold keyAt; rw [h]; rfl
theorem keyAt_mono {M : List (Nat × Int)} (h : rs M = true) : ∀ a b, a ≤ b → b < M.length → keyAt M a ≤ keyAt M b := by
  intro a b hab hb
  rw [keyAt_at (List.getElem?_eq_getElem (show a < M.length by omega)), keyAt_at (List.getElem?_eq_getElem hb)]
  rcases Nat.eq_or_lt_of_le hab with e | e
  · subst e; exact Nat.le_refl _
  · exact List.pairwise_iff_getElem.1 ((rs_pair M).1 h) a b (by omega) hb e
theorem keyAt_64 {M : List (Nat × Int)} (h : Ok64 M) (k : Nat) : keyAt M k < 18446744073709551616 := by
  unfold keyAt
  cases e : M[k]? with
  | none => decide
  | some x => exact h x (List.mem_of_getElem? e)
theorem bld_ok {n : Nat} {M : List (Nat × Int)} (hl : M.length = n) (h0 : n ≠ 0) (hr : rs M = true) (ho : Ok64 M) : Okt (keyAt M) (bld n M) 0 n 0 n := by
  unfold bld
  rw [if_neg (by rw [hr]; simp [h0])]
  have k := gr_ok (n := n) (fun a b h1 h2 => keyAt_mono hr a b h1 (by omega)) 32 0 rfl 0 0 0 n (by omega) (Nat.le_refl _) (fun k _ _ => Nat.div_eq_of_lt (keyAt_64 ho k))
  rw [Nat.zero_mul] at k; exact k
theorem bld_nil {n : Nat} {M : List (Nat × Int)} (hr : rs M = true) : (bld n M).length = 0 ↔ n = 0 := by
  unfold bld
  by_cases h : n = 0
  · rw [if_pos (Or.inl h)]; simp [h]
  · rw [if_neg (by rw [hr]; simp [h])]
    have := gr_pos 32 (keyAt M) 0 0 0 0 n
    constructor <;> intro <;> omega
theorem bld_head {n : Nat} {M : List (Nat × Int)} (h0 : n ≠ 0) (hr : rs M = true) : ∃ kid, (bld n M)[0]? = some ⟨0, 0, 0, n, kid⟩ := by
  unfold bld
  rw [if_neg (by rw [hr]; simp [h0])]
  exact gr_head 32 _ 0 0 0 0 n
theorem take_snoc_nd {T : List Nd} {j : Nat} {x : Nd} (h : T[j]? = some x) (k : Nat) : cnt (T.take (j + 1)) k = cnt (T.take j) k + if lf x = true ∧ x.fr ≤ k ∧ k < x.to then 1 else 0 := by
  have hl := List.getElem?_eq_some_iff.1 h
  rw [List.take_succ_eq_append_getElem hl.1, hl.2, cnt_app]; rfl
end Go.Proofs.Ytnedljclkhpdpaa
