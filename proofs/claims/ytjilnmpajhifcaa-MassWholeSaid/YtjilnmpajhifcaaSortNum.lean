/- Sorted lists in which those of one key stand as they stood: one alone; heaps by digits; one more laid in. No program here. -/
import Derived.Test.YtjilnmpajhifcaaZzLimA
namespace Go.Proofs.Ytjilnmpajhifcaa
section
variable {α : Type}
/-- m holds l's by f; those of one f as they stood. -/
def Std (f : α → Nat) (m l : List α) : Prop := m.Pairwise (fun a b => f a ≤ f b) ∧ ∀ c, m.filter (fun x => f x == c) = l.filter (fun x => f x == c)
theorem Std.refl {f : α → Nat} {m : List α} (h : m.Pairwise (fun a b => f a ≤ f b)) : Std f m m := ⟨h, fun _ => rfl⟩
theorem same_perm [DecidableEq α] {f : α → Nat} {m l : List α} (h : ∀ c, m.filter (fun x => f x == c) = l.filter (fun x => f x == c)) : m.Perm l := by
  rw [List.perm_iff_count]
  intro a
  have e := congrArg (List.count a) (h (f a))
  rw [List.count_filter (by simp), List.count_filter (by simp)] at e
  exact e
theorem Std.perm [DecidableEq α] {f : α → Nat} {m l : List α} (h : Std f m l) : m.Perm l := same_perm h.2
theorem std_uniq {f : α → Nat} : ∀ {m m' : List α}, m.Pairwise (fun a b => f a ≤ f b) → m'.Pairwise (fun a b => f a ≤ f b) → (∀ c, m.filter (fun x => f x == c) = m'.filter (fun x => f x == c)) → m = m' := by
  intro m
  induction m with
  | nil =>
    intro m' _ _ h
    cases m' with
    | nil => rfl
    | cons b t => have := h (f b); simp at this
  | cons a t ih =>
    intro m' hm hm' h
    cases m' with
    | nil => have := h (f a); simp at this
    | cons b s =>
      rw [List.pairwise_cons] at hm hm'
      have e : f a = f b := by
        apply Nat.le_antisymm
        · have g := h (f b)
          have : b ∈ (a :: t).filter (fun x => f x == f b) := by rw [g]; simp
          simp only [List.mem_filter, List.mem_cons] at this
          rcases this.1 with k | k
          · rw [k]; exact Nat.le_refl _
          · exact hm.1 b k
        · have g := h (f a)
          have : a ∈ (b :: s).filter (fun x => f x == f a) := by rw [← g]; simp
          simp only [List.mem_filter, List.mem_cons] at this
          rcases this.1 with k | k
          · rw [k]; exact Nat.le_refl _
          · exact hm'.1 a k
      have g := h (f a)
      rw [List.filter_cons_of_pos (by simp), List.filter_cons_of_pos (by simp [e])] at g
      have hab : a = b := (List.cons.inj g).1
      subst hab
      congr 1
      refine ih hm.2 hm'.2 fun c => ?_
      have g := h c
      by_cases k : f a == c
      · rw [List.filter_cons_of_pos (p := fun x => f x == c) k, List.filter_cons_of_pos (p := fun x => f x == c) k] at g; exact (List.cons.inj g).2
      · rw [List.filter_cons_of_neg (p := fun x => f x == c) k, List.filter_cons_of_neg (p := fun x => f x == c) k] at g; exact g
theorem Std.uniq {f : α → Nat} {m m' l : List α} (h : Std f m l) (h' : Std f m' l) : m = m' :=
  std_uniq h.1 h'.1 fun c => (h.2 c).trans (h'.2 c).symm
/-- By one, then by another one, is by both. -/
theorem pair_both {f g h : α → Nat} {B : Nat} (hf : ∀ x, f x < B) (hh : ∀ x, h x = g x * B + f x) : ∀ {n : List α}, n.Pairwise (fun a b => g a ≤ g b) → (∀ c, (n.filter (fun x => g x == c)).Pairwise (fun a b => f a ≤ f b)) → n.Pairwise (fun a b => h a ≤ h b) := by
  intro n
  induction n with
  | nil => intro _ _; exact List.Pairwise.nil
  | cons a t ih =>
    intro hp hc
    rw [List.pairwise_cons] at hp ⊢
    refine ⟨fun b hb => ?_, ih hp.2 fun c => ?_⟩
    · have k := hp.1 b hb
      rw [hh, hh]
      by_cases e : g a = g b
      · have q := hc (g a)
        rw [List.filter_cons_of_pos (by simp), List.pairwise_cons] at q
        have := q.1 b (by simp [hb, e])
        rw [e]; omega
      · have h1 := hf a; have h2 : (g a + 1) * B ≤ g b * B := Nat.mul_le_mul_right _ (by omega)
        rw [Nat.add_mul] at h2; omega
    · have q := hc c
      by_cases k : g a == c
      · rw [List.filter_cons_of_pos (p := fun x => g x == c) k, List.pairwise_cons] at q; exact q.2
      · rw [List.filter_cons_of_neg (p := fun x => g x == c) k] at q; exact q
theorem Std.both {f g h : α → Nat} {B : Nat} (hf : ∀ x, f x < B) (hh : ∀ x, h x = g x * B + f x) {l m n : List α} (h1 : Std f m l) (h2 : Std g n m) : Std h n l := by
  refine ⟨pair_both hf hh h2.1 fun c => by rw [h2.2 c]; exact h1.1.filter _, fun c => ?_⟩
  have hB : 0 < B ∨ ∀ x : α, False := by
    by_cases k : 0 < B
    · exact Or.inl k
    · exact Or.inr fun x => by have := hf x; omega
  rcases hB with hB | hB
  · have e : ∀ x, (h x == c) = ((f x == c % B) && (g x == c / B)) := fun x => by
      rw [Bool.eq_iff_iff]
      simp only [beq_iff_eq, Bool.and_eq_true]
      rw [hh]
      constructor
      · intro q; subst q
        refine ⟨?_, ?_⟩
        · rw [Nat.add_comm, Nat.add_mul_mod_self_right, Nat.mod_eq_of_lt (hf x)]
        · rw [Nat.add_comm, Nat.add_mul_div_right _ _ hB, Nat.div_eq_of_lt (hf x), Nat.zero_add]
      · rintro ⟨q1, q2⟩
        rw [q1, q2, Nat.mul_comm]; exact Nat.div_add_mod c B
    have two : ∀ L : List α, L.filter (fun x => h x == c) = (L.filter (fun x => g x == c / B)).filter (fun x => f x == c % B) := fun L => by
      rw [List.filter_filter]
      exact List.filter_congr fun x _ => e x
    have owt : ∀ L : List α, L.filter (fun x => h x == c) = (L.filter (fun x => f x == c % B)).filter (fun x => g x == c / B) := fun L => by
      rw [List.filter_filter]
      exact List.filter_congr fun x _ => by rw [e x, Bool.and_comm]
    rw [two n, h2.2, ← two m, owt m, h1.2, ← owt l]
  · cases n with
    | nil => cases l with
      | nil => rfl
      | cons x _ => exact (hB x).elim
    | cons x _ => exact (hB x).elim
/-- How many lie in heaps ahead of c. -/
def lie (d : α → Nat) (l : List α) (c : Nat) : Nat := l.countP fun x => decide (d x < c)
/-- How many lie in heap c. -/
def hold (d : α → Nat) (l : List α) (c : Nat) : Nat := l.countP fun x => d x == c
theorem hold_filter (d : α → Nat) (l : List α) (c : Nat) : (l.filter fun x => d x == c).length = hold d l c := List.countP_eq_length_filter.symm
theorem lie_zero (d : α → Nat) (l : List α) : lie d l 0 = 0 := by unfold lie; simp
theorem lie_succ (d : α → Nat) (l : List α) (c : Nat) : lie d l (c + 1) = lie d l c + hold d l c := by
  unfold lie hold
  induction l with
  | nil => rfl
  | cons a t ih =>
    rw [List.countP_cons, List.countP_cons, List.countP_cons, ih]
    by_cases h1 : d a < c
    · rw [if_pos (by simp; omega), if_pos (by simp [h1]), if_neg (by simp; omega)]; omega
    · by_cases h2 : d a = c
      · rw [if_pos (by simp; omega), if_neg (by simp [h1]), if_pos (by simp [h2])]; omega
      · rw [if_neg (by simp; omega), if_neg (by simp [h1]), if_neg (by simp [h2])]; omega
theorem lie_all {d : α → Nat} {N : Nat} (l : List α) (h : ∀ x, d x < N) : lie d l N = l.length := by
  unfold lie; rw [List.countP_eq_length]; intro x _; simp [h x]
theorem lie_mono (d : α → Nat) (l : List α) {a b : Nat} (h : a ≤ b) : lie d l a ≤ lie d l b := by
  obtain ⟨k, rfl⟩ := Nat.le.dest h
  induction k with
  | zero => exact Nat.le_refl _
  | succ k ih => have := ih (by omega); rw [show a + (k + 1) = a + k + 1 by omega, lie_succ]; omega
theorem hold_snoc (d : α → Nat) (l : List α) (x : α) (c : Nat) : hold d (l ++ [x]) c = hold d l c + if d x = c then 1 else 0 := by
  unfold hold; rw [List.countP_append]
  by_cases h : d x = c <;> simp [h]
theorem hold_app (d : α → Nat) (l m : List α) (c : Nat) : hold d (l ++ m) c = hold d l c + hold d m c := by
  unfold hold; rw [List.countP_append]
/-- All heaps, one behind the other. -/
def heaps (d : α → Nat) (l : List α) : Nat → List α
  | 0 => []
  | N + 1 => heaps d l N ++ l.filter fun x => d x == N
theorem heaps_len (d : α → Nat) (l : List α) : ∀ N, (heaps d l N).length = lie d l N := by
  intro N
  induction N with
  | zero => rw [lie_zero]; rfl
  | succ N ih => show (heaps d l N ++ _).length = _; rw [List.length_append, ih, hold_filter, lie_succ]
theorem heaps_mem (d : α → Nat) (l : List α) : ∀ N x, x ∈ heaps d l N → d x < N := by
  intro N
  induction N with
  | zero => intro x h; cases h
  | succ N ih =>
    intro x h
    rcases List.mem_append.1 h with h | h
    · have := ih x h; omega
    · have := (List.mem_filter.1 h).2; simp at this; omega
theorem heaps_filter (d : α → Nat) (l : List α) : ∀ N c, (heaps d l N).filter (fun x => d x == c) = if c < N then l.filter (fun x => d x == c) else [] := by
  intro N
  induction N with
  | zero => intro c; rfl
  | succ N ih =>
    intro c
    show (heaps d l N ++ l.filter fun x => d x == N).filter (fun x => d x == c) = _
    rw [List.filter_append, ih, List.filter_filter]
    rcases Nat.lt_trichotomy c N with h | h | h
    · have n : l.filter (fun a => d a == c && d a == N) = [] := List.filter_eq_nil_iff.2 fun x _ => by simp; omega
      rw [if_pos h, if_pos (by omega), n, List.append_nil]
    · subst h
      rw [if_neg (by omega), if_pos (by omega), List.nil_append]
      exact List.filter_congr fun x _ => by simp
    · have n : l.filter (fun a => d a == c && d a == N) = [] := List.filter_eq_nil_iff.2 fun x _ => by simp; omega
      rw [if_neg (by omega), if_neg (by omega), n, List.append_nil]
theorem heaps_std {d : α → Nat} {N : Nat} (l : List α) (h : ∀ x, d x < N) : Std d (heaps d l N) l := by
  refine ⟨?_, fun c => ?_⟩
  · have go : ∀ N, (heaps d l N).Pairwise (fun a b => d a ≤ d b) := by
      intro N
      induction N with
      | zero => exact List.Pairwise.nil
      | succ N ih =>
        show (heaps d l N ++ l.filter fun x => d x == N).Pairwise _
        rw [List.pairwise_append]
        refine ⟨ih, ?_, fun a ha b hb => ?_⟩
        · refine List.pairwise_of_forall_mem_list fun a ha b hb => ?_
          have h1 := (List.mem_filter.1 ha).2; have h2 := (List.mem_filter.1 hb).2
          simp at h1 h2; omega
        · have h1 := heaps_mem d l N a ha; have h2 := (List.mem_filter.1 hb).2
          simp at h2; omega
    exact go N
  · rw [heaps_filter]
    by_cases k : c < N
    · rw [if_pos k]
    · rw [if_neg k]; symm; rw [List.filter_eq_nil_iff]; intro x _; have := h x; simp; omega
/-- A list that has each heap's bodies where that heap begins is all heaps. -/
theorem heaps_of {d : α → Nat} {N : Nat} {l m : List α} (h : ∀ x, d x < N) (hl : m.length = l.length) (g : ∀ c k x, c < N → (l.filter fun x => d x == c)[k]? = some x → m[lie d l c + k]? = some x) : m = heaps d l N := by
  have len : (heaps d l N).length = m.length := by rw [heaps_len, lie_all l h, hl]
  have all : ∀ M, M ≤ N → ∀ (j : Nat) (x : α), (heaps d l M)[j]? = some x → m[j]? = some x := by
    intro M
    induction M with
    | zero => intro _ j x hx; simp [heaps] at hx
    | succ M ih =>
      intro hM j x hx
      have hx : (heaps d l M ++ l.filter fun x => d x == M)[j]? = some x := hx
      rw [List.getElem?_append] at hx
      split at hx
      · exact ih (by omega) j x hx
      · rename_i c
        have := g M (j - (heaps d l M).length) x (by omega) hx
        rw [heaps_len] at this c
        rw [show lie d l M + (j - lie d l M) = j by omega] at this
        exact this
  apply List.ext_getElem?
  intro j
  by_cases c : j < m.length
  · obtain ⟨x, hx⟩ : ∃ x, (heaps d l N)[j]? = some x := ⟨(heaps d l N)[j]'(by omega), List.getElem?_eq_getElem _⟩
    rw [hx]; exact all N (Nat.le_refl _) j x hx
  · rw [List.getElem?_eq_none (by omega), List.getElem?_eq_none (by omega)]
/-- One more laid in, ahead of the greater ones. -/
theorem laid_std {f : α → Nat} {A R l : List α} {x : α} (h : Std f (A ++ R) l) (hA : ∀ a ∈ A, f a ≤ f x) (hR : ∀ b ∈ R, f x < f b) : Std f (A ++ x :: R) (l ++ [x]) := by
  obtain ⟨hp, hf⟩ := h
  rw [List.pairwise_append] at hp
  refine ⟨?_, fun c => ?_⟩
  · rw [List.pairwise_append, List.pairwise_cons]
    refine ⟨hp.1, ⟨fun b hb => Nat.le_of_lt (hR b hb), hp.2.1⟩, fun a ha b hb => ?_⟩
    rcases List.mem_cons.1 hb with rfl | hb
    · exact hA a ha
    · exact hp.2.2 a ha b hb
  · have g := hf c
    rw [List.filter_append] at g
    rw [List.filter_append, List.filter_append, ← g, List.append_assoc]
    congr 1
    by_cases k : f x == c
    · have n : R.filter (fun x => f x == c) = [] := by
        rw [List.filter_eq_nil_iff]; intro b hb; have := hR b hb; simp at k ⊢; omega
      rw [List.filter_cons_of_pos (p := fun x => f x == c) k, n, List.filter_cons_of_pos (p := fun x => f x == c) k]; rfl
    · rw [List.filter_cons_of_neg (p := fun x => f x == c) k, List.filter_cons_of_neg (p := fun x => f x == c) k]; simp
end
end Go.Proofs.Ytjilnmpajhifcaa
