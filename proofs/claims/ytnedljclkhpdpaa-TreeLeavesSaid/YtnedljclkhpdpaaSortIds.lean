/- Sorted lists whose bodies bear their places: no program here, but the law's Make. -/
import Derived.Test.YtnedljclkhpdpaaSortMake
namespace Go.Proofs.Ytnedljclkhpdpaa
theorem pair_lex {α : Type} {f : α → Nat} {R : α → α → Prop} : ∀ {n : List α}, n.Pairwise (fun a b => f a ≤ f b) → (∀ c, (n.filter (fun x => f x == c)).Pairwise R) → n.Pairwise (fun a b => f a < f b ∨ (f a = f b ∧ R a b)) := by
  intro n
  induction n with
  | nil => intro _ _; exact List.Pairwise.nil
  | cons a t ih =>
    intro hp hc
    rw [List.pairwise_cons] at hp ⊢
    refine ⟨fun b hb => ?_, ih hp.2 fun c => ?_⟩
    · have k := hp.1 b hb
      by_cases e : f a = f b
      · have q := hc (f a)
        rw [List.filter_cons_of_pos (by simp), List.pairwise_cons] at q
        exact Or.inr ⟨e, q.1 b (by simp [hb, e])⟩
      · exact Or.inl (by omega)
    · have q := hc c
      by_cases k : f a == c
      · rw [List.filter_cons_of_pos (p := fun x => f x == c) k, List.pairwise_cons] at q; exact q.2
      · rw [List.filter_cons_of_neg (p := fun x => f x == c) k] at q; exact q
theorem mk_of {l : List Nat} {j : Nat} {x : Nat × Int} (h : (mk_ l)[j]? = some x) : x.2 = (j : Int) := by
  unfold mk_ at h
  rw [List.getElem?_map, List.getElem?_zipIdx] at h
  cases e : (l.take 100)[j]? with
  | none => rw [e] at h; simp at h
  | some b => rw [e] at h; simp at h; rw [← h]
theorem mk_64 (l : List Nat) : Ok64 (mk_ l) := fun x hx => by
  unfold mk_ at hx
  obtain ⟨p, _, rfl⟩ := List.mem_map.1 hx
  exact bkey_lt _
theorem mk_pair (l : List Nat) : (mk_ l).Pairwise fun a b => a.2 < b.2 := by
  rw [List.pairwise_iff_getElem]
  intro i j hi hj hij
  have a := mk_of (List.getElem?_eq_getElem hi)
  have b := mk_of (List.getElem?_eq_getElem hj)
  rw [a, b]; omega
theorem mk_ids (l : List Nat) : (mk_ l).map Prod.snd = (List.range (mk_ l).length).map fun i : Nat => (i : Int) := by
  apply List.ext_getElem?
  intro i
  by_cases c : i < (mk_ l).length
  · rw [List.getElem?_map, List.getElem?_map, List.getElem?_range c, List.getElem?_eq_getElem c]
    simp only [Option.map_some]
    rw [mk_of (List.getElem?_eq_getElem c)]
  · rw [List.getElem?_eq_none (by simp; omega), List.getElem?_eq_none (by simp; omega)]
/-- How often a body of this place has come among the first i. -/
def came (M : List (Nat × Int)) (i j : Nat) : Int := (((M.take i).countP fun x => x.2 == (j : Int)) : Nat)
theorem came_zero (M : List (Nat × Int)) (j : Nat) : came M 0 j = 0 := by unfold came; simp
theorem came_succ {M : List (Nat × Int)} {i j : Nat} {x : Nat × Int} (h : M[i]? = some x) : came M (i + 1) j = came M i j + if x.2 = (j : Int) then 1 else 0 := by
  unfold came
  rw [take_snoc_at h, List.countP_append]
  by_cases c : x.2 = (j : Int) <;> simp [c]
section
variable {l : List Nat} {M : List (Nat × Int)}
theorem came_all (h : Std Prod.fst M (mk_ l)) {j : Nat} (hj : j < (mk_ l).length) : came M (mk_ l).length j = 1 := by
  unfold came
  rw [List.take_of_length_le (by rw [h.perm.length_eq]; omega), h.perm.countP_eq]
  have e : (mk_ l).countP (fun x => x.2 == (j : Int)) = ((mk_ l).map Prod.snd).count (j : Int) := by
    rw [List.count, List.countP_map]; rfl
  rw [e, mk_ids]
  have nd : ((List.range (mk_ l).length).map fun i : Nat => (i : Int)).Nodup := by
    rw [List.nodup_iff_pairwise_ne, List.pairwise_map]
    exact (List.nodup_range.imp fun {a b} hab => fun e => hab (by omega))
  have hm : (j : Int) ∈ (List.range (mk_ l).length).map fun i : Nat => (i : Int) := List.mem_map.2 ⟨j, List.mem_range.2 hj, rfl⟩
  rw [nd.count, if_pos hm]; rfl
theorem stays_id (h : Std Prod.fst M (mk_ l)) {i : Nat} {x : Nat × Int} (hx : M[i]? = some x) : ∃ j : Nat, j < (mk_ l).length ∧ x.2 = (j : Int) ∧ (mk_ l)[j]? = some x := by
  have hm : x ∈ mk_ l := h.perm.mem_iff.1 (List.mem_of_getElem? hx)
  obtain ⟨j, hj⟩ := List.mem_iff_getElem?.1 hm
  exact ⟨j, (List.getElem?_eq_some_iff.1 hj).1, mk_of hj, hj⟩
theorem stays_next (h : Std Prod.fst M (mk_ l)) {i : Nat} {x y : Nat × Int} (hy : M[i]? = some y) (hx : M[i + 1]? = some x) : y.1 < x.1 ∨ (y.1 = x.1 ∧ y.2 < x.2) := by
  have p := pair_lex (R := fun a b : Nat × Int => a.2 < b.2) h.1 fun c => by rw [h.2 c]; exact (mk_pair l).filter _
  rw [List.pairwise_iff_getElem] at p
  have a := List.getElem?_eq_some_iff.1 hy; have b := List.getElem?_eq_some_iff.1 hx
  have q := p i (i + 1) a.1 b.1 (by omega)
  rw [a.2, b.2] at q; exact q
theorem stays_pair (h : Std Prod.fst M (mk_ l)) : rs M = true := by
  rw [rs_pair]; exact h.1
end
end Go.Proofs.Ytnedljclkhpdpaa
