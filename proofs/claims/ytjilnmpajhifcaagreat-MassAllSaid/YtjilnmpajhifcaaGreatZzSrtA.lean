/- Bodies appended to a row of one's own, the source nil or not. -/
import Derived.Test.YtjilnmpajhifcaaGreatZzLimA
import Derived.Deep.LoopGhost
import Derived.Deep.DeepCutAuto
import Derived.Deep.AppendLies
import Derived.Laws.OwnMore
import Derived.Maps.AppendAt
import Derived.StillTailTactics
import Derived.Test.YtjilnmpajhifcaaGreatZzRow
namespace Go.Proofs.YtjilnmpajhifcaaGreat
section
variable {α : Type}
/-- m holds l's by f; those of one f as they stood. -/
def Std (f : α → Nat) (m l : List α) : Prop := m.Pairwise (fun a b => f a ≤ f b) ∧ ∀ c, m.filter (fun x => f x == c) = l.filter (fun x => f x == c)
theorem Std.refl {f : α → Nat} {m : List α} (h : m.Pairwise (fun a b => f a ≤ f b)) : Std f m m := ⟨h, fun _ => rfl⟩
theorem same_perm [DecidableEq α] {f : α → Nat} {m l : List α} (h : ∀ c, m.filter (fun x => f x == c) = l.filter (fun x => f x == c)) : m.Perm l := by
  rw [List.perm_iff_count]
  intro a
  have e := congrArg (List.count a) (h (f a))
  rw [List.count_filter (by simp), List.count_filter (by simp)] at e
  exact e
theorem Std.perm [DecidableEq α] {f : α → Nat} {m l : List α} (h : Std f m l) : m.Perm l := same_perm h.2
theorem std_uniq {f : α → Nat} : ∀ {m m' : List α}, m.Pairwise (fun a b => f a ≤ f b) → m'.Pairwise (fun a b => f a ≤ f b) → (∀ c, m.filter (fun x => f x == c) = m'.filter (fun x => f x == c)) → m = m' := by
  intro m
  induction m with
  | nil =>
    intro m' _ _ h
    cases m' with
    | nil => rfl
    | cons b t => have := h (f b); simp at this
  | cons a t ih =>
    intro m' hm hm' h
    cases m' with
    | nil => have := h (f a); simp at this
    | cons b s =>
      rw [List.pairwise_cons] at hm hm'
      have e : f a = f b := by
        apply Nat.le_antisymm
        · have g := h (f b)
          have : b ∈ (a :: t).filter (fun x => f x == f b) := by rw [g]; simp
          simp only [List.mem_filter, List.mem_cons] at this
          rcases this.1 with k | k
          · rw [k]; exact Nat.le_refl _
          · exact hm.1 b k
        · have g := h (f a)
          have : a ∈ (b :: s).filter (fun x => f x == f a) := by rw [← g]; simp
          simp only [List.mem_filter, List.mem_cons] at this
          rcases this.1 with k | k
          · rw [k]; exact Nat.le_refl _
          · exact hm'.1 a k
      have g := h (f a)
      rw [List.filter_cons_of_pos (by simp), List.filter_cons_of_pos (by simp [e])] at g
      have hab : a = b := (List.cons.inj g).1
      subst hab
      congr 1
      refine ih hm.2 hm'.2 fun c => ?_
      have g := h c
      by_cases k : f a == c
      · rw [List.filter_cons_of_pos (p := fun x => f x == c) k, List.filter_cons_of_pos (p := fun x => f x == c) k] at g; exact (List.cons.inj g).2
      · rw [List.filter_cons_of_neg (p := fun x => f x == c) k, List.filter_cons_of_neg (p := fun x => f x == c) k] at g; exact g
theorem Std.uniq {f : α → Nat} {m m' l : List α} (h : Std f m l) (h' : Std f m' l) : m = m' :=
  std_uniq h.1 h'.1 fun c => (h.2 c).trans (h'.2 c).symm
/-- By one, then by another one, is by both. -/
theorem pair_both {f g h : α → Nat} {B : Nat} (hf : ∀ x, f x < B) (hh : ∀ x, h x = g x * B + f x) : ∀ {n : List α}, n.Pairwise (fun a b => g a ≤ g b) → (∀ c, (n.filter (fun x => g x == c)).Pairwise (fun a b => f a ≤ f b)) → n.Pairwise (fun a b => h a ≤ h b) := by
  intro n
  induction n with
  | nil => intro _ _; exact List.Pairwise.nil
  | cons a t ih =>
    intro hp hc
    rw [List.pairwise_cons] at hp ⊢
    refine ⟨fun b hb => ?_, ih hp.2 fun c => ?_⟩
    · have k := hp.1 b hb
      rw [hh, hh]
      by_cases e : g a = g b
      · have q := hc (g a)
        rw [List.filter_cons_of_pos (by simp), List.pairwise_cons] at q
        have := q.1 b (by simp [hb, e])
        rw [e]; omega
      · have h1 := hf a; have h2 : (g a + 1) * B ≤ g b * B := Nat.mul_le_mul_right _ (by omega)
        rw [Nat.add_mul] at h2; omega
    · have q := hc c
      by_cases k : g a == c
      · rw [List.filter_cons_of_pos (p := fun x => g x == c) k, List.pairwise_cons] at q; exact q.2
      · rw [List.filter_cons_of_neg (p := fun x => g x == c) k] at q; exact q
theorem Std.both {f g h : α → Nat} {B : Nat} (hf : ∀ x, f x < B) (hh : ∀ x, h x = g x * B + f x) {l m n : List α} (h1 : Std f m l) (h2 : Std g n m) : Std h n l := by
  refine ⟨pair_both hf hh h2.1 fun c => by rw [h2.2 c]; exact h1.1.filter _, fun c => ?_⟩
  have hB : 0 < B ∨ ∀ x : α, False := by
    by_cases k : 0 < B
    · exact Or.inl k
    · exact Or.inr fun x => by have := hf x; omega
  rcases hB with hB | hB
  · have e : ∀ x, (h x == c) = ((f x == c % B) && (g x == c / B)) := fun x => by
      rw [Bool.eq_iff_iff]
      simp only [beq_iff_eq, Bool.and_eq_true]
      rw [hh]
      constructor
      · intro q; subst q
        refine ⟨?_, ?_⟩
        · rw [Nat.add_comm, Nat.add_mul_mod_self_right, Nat.mod_eq_of_lt (hf x)]
        · rw [Nat.add_comm, Nat.add_mul_div_right _ _ hB, Nat.div_eq_of_lt (hf x), Nat.zero_add]
      · rintro ⟨q1, q2⟩
        rw [q1, q2, Nat.mul_comm]; exact Nat.div_add_mod c B
    have two : ∀ L : List α, L.filter (fun x => h x == c) = (L.filter (fun x => g x == c / B)).filter (fun x => f x == c % B) := fun L => by
      rw [List.filter_filter]
      exact List.filter_congr fun x _ => e x
    have owt : ∀ L : List α, L.filter (fun x => h x == c) = (L.filter (fun x => f x == c % B)).filter (fun x => g x == c / B) := fun L => by
      rw [List.filter_filter]
      exact List.filter_congr fun x _ => by rw [e x, Bool.and_comm]
    rw [two n, h2.2, ← two m, owt m, h1.2, ← owt l]
  · cases n with
    | nil => cases l with
      | nil => rfl
      | cons x _ => exact (hB x).elim
    | cons x _ => exact (hB x).elim
/-- How many lie in heaps ahead of c. -/
def lie (d : α → Nat) (l : List α) (c : Nat) : Nat := l.countP fun x => decide (d x < c)
/-- How many lie in heap c. -/
def hold (d : α → Nat) (l : List α) (c : Nat) : Nat := l.countP fun x => d x == c
theorem hold_filter (d : α → Nat) (l : List α) (c : Nat) : (l.filter fun x => d x == c).length = hold d l c := List.countP_eq_length_filter.symm
theorem lie_zero (d : α → Nat) (l : List α) : lie d l 0 = 0 := by unfold lie; simp
theorem lie_succ (d : α → Nat) (l : List α) (c : Nat) : lie d l (c + 1) = lie d l c + hold d l c := by
  unfold lie hold
  induction l with
  | nil => rfl
  | cons a t ih =>
    rw [List.countP_cons, List.countP_cons, List.countP_cons, ih]
    by_cases h1 : d a < c
    · rw [if_pos (by simp; omega), if_pos (by simp [h1]), if_neg (by simp; omega)]; omega
    · by_cases h2 : d a = c
      · rw [if_pos (by simp; omega), if_neg (by simp [h1]), if_pos (by simp [h2])]; omega
      · rw [if_neg (by simp; omega), if_neg (by simp [h1]), if_neg (by simp [h2])]; omega
theorem lie_all {d : α → Nat} {N : Nat} (l : List α) (h : ∀ x, d x < N) : lie d l N = l.length := by
  unfold lie; rw [List.countP_eq_length]; intro x _; simp [h x]
theorem lie_mono (d : α → Nat) (l : List α) {a b : Nat} (h : a ≤ b) : lie d l a ≤ lie d l b := by
  obtain ⟨k, rfl⟩ := Nat.le.dest h
  induction k with
  | zero => exact Nat.le_refl _
  | succ k ih => have := ih (by omega); rw [show a + (k + 1) = a + k + 1 by omega, lie_succ]; omega
theorem hold_snoc (d : α → Nat) (l : List α) (x : α) (c : Nat) : hold d (l ++ [x]) c = hold d l c + if d x = c then 1 else 0 := by
  unfold hold; rw [List.countP_append]
  by_cases h : d x = c <;> simp [h]
theorem hold_app (d : α → Nat) (l m : List α) (c : Nat) : hold d (l ++ m) c = hold d l c + hold d m c := by
  unfold hold; rw [List.countP_append]
/-- All heaps, one behind the other. -/
def heaps (d : α → Nat) (l : List α) : Nat → List α
  | 0 => []
  | N + 1 => heaps d l N ++ l.filter fun x => d x == N
theorem heaps_len (d : α → Nat) (l : List α) : ∀ N, (heaps d l N).length = lie d l N := by
  intro N
  induction N with
  | zero => rw [lie_zero]; rfl
  | succ N ih => show (heaps d l N ++ _).length = _; rw [List.length_append, ih, hold_filter, lie_succ]
theorem heaps_mem (d : α → Nat) (l : List α) : ∀ N x, x ∈ heaps d l N → d x < N := by
  intro N
  induction N with
  | zero => intro x h; cases h
  | succ N ih =>
    intro x h
    rcases List.mem_append.1 h with h | h
    · have := ih x h; omega
    · have := (List.mem_filter.1 h).2; simp at this; omega
theorem heaps_filter (d : α → Nat) (l : List α) : ∀ N c, (heaps d l N).filter (fun x => d x == c) = if c < N then l.filter (fun x => d x == c) else [] := by
  intro N
  induction N with
  | zero => intro c; rfl
  | succ N ih =>
    intro c
    show (heaps d l N ++ l.filter fun x => d x == N).filter (fun x => d x == c) = _
    rw [List.filter_append, ih, List.filter_filter]
    rcases Nat.lt_trichotomy c N with h | h | h
    · have n : l.filter (fun a => d a == c && d a == N) = [] := List.filter_eq_nil_iff.2 fun x _ => by simp; omega
      rw [if_pos h, if_pos (by omega), n, List.append_nil]
    · subst h
      rw [if_neg (by omega), if_pos (by omega), List.nil_append]
      exact List.filter_congr fun x _ => by simp
    · have n : l.filter (fun a => d a == c && d a == N) = [] := List.filter_eq_nil_iff.2 fun x _ => by simp; omega
      rw [if_neg (by omega), if_neg (by omega), n, List.append_nil]
theorem heaps_std {d : α → Nat} {N : Nat} (l : List α) (h : ∀ x, d x < N) : Std d (heaps d l N) l := by
  refine ⟨?_, fun c => ?_⟩
  · have go : ∀ N, (heaps d l N).Pairwise (fun a b => d a ≤ d b) := by
      intro N
      induction N with
      | zero => exact List.Pairwise.nil
      | succ N ih =>
        show (heaps d l N ++ l.filter fun x => d x == N).Pairwise _
        rw [List.pairwise_append]
        refine ⟨ih, ?_, fun a ha b hb => ?_⟩
        · refine List.pairwise_of_forall_mem_list fun a ha b hb => ?_
          have h1 := (List.mem_filter.1 ha).2; have h2 := (List.mem_filter.1 hb).2
          simp at h1 h2; omega
        · have h1 := heaps_mem d l N a ha; have h2 := (List.mem_filter.1 hb).2
          simp at h2; omega
    exact go N
  · rw [heaps_filter]
    by_cases k : c < N
    · rw [if_pos k]
    · rw [if_neg k]; symm; rw [List.filter_eq_nil_iff]; intro x _; have := h x; simp; omega
/-- A list that has each heap's bodies where that heap begins is all heaps. -/
theorem heaps_of {d : α → Nat} {N : Nat} {l m : List α} (h : ∀ x, d x < N) (hl : m.length = l.length) (g : ∀ c k x, c < N → (l.filter fun x => d x == c)[k]? = some x → m[lie d l c + k]? = some x) : m = heaps d l N := by
  have len : (heaps d l N).length = m.length := by rw [heaps_len, lie_all l h, hl]
  have all : ∀ M, M ≤ N → ∀ (j : Nat) (x : α), (heaps d l M)[j]? = some x → m[j]? = some x := by
    intro M
    induction M with
    | zero => intro _ j x hx; simp [heaps] at hx
    | succ M ih =>
      intro hM j x hx
      have hx : (heaps d l M ++ l.filter fun x => d x == M)[j]? = some x := hx
      rw [List.getElem?_append] at hx
      split at hx
      · exact ih (by omega) j x hx
      · rename_i c
        have := g M (j - (heaps d l M).length) x (by omega) hx
        rw [heaps_len] at this c
        rw [show lie d l M + (j - lie d l M) = j by omega] at this
        exact this
  apply List.ext_getElem?
  intro j
  by_cases c : j < m.length
  · obtain ⟨x, hx⟩ : ∃ x, (heaps d l N)[j]? = some x := ⟨(heaps d l N)[j]'(by omega), List.getElem?_eq_getElem _⟩
    rw [hx]; exact all N (Nat.le_refl _) j x hx
  · rw [List.getElem?_eq_none (by omega), List.getElem?_eq_none (by omega)]
/-- One more laid in, ahead of the greater ones. -/
theorem laid_std {f : α → Nat} {A R l : List α} {x : α} (h : Std f (A ++ R) l) (hA : ∀ a ∈ A, f a ≤ f x) (hR : ∀ b ∈ R, f x < f b) : Std f (A ++ x :: R) (l ++ [x]) := by
  obtain ⟨hp, hf⟩ := h
  rw [List.pairwise_append] at hp
  refine ⟨?_, fun c => ?_⟩
  · rw [List.pairwise_append, List.pairwise_cons]
    refine ⟨hp.1, ⟨fun b hb => Nat.le_of_lt (hR b hb), hp.2.1⟩, fun a ha b hb => ?_⟩
    rcases List.mem_cons.1 hb with rfl | hb
    · exact hA a ha
    · exact hp.2.2 a ha b hb
  · have g := hf c
    rw [List.filter_append] at g
    rw [List.filter_append, List.filter_append, ← g, List.append_assoc]
    congr 1
    by_cases k : f x == c
    · have n : R.filter (fun x => f x == c) = [] := by
        rw [List.filter_eq_nil_iff]; intro b hb; have := hR b hb; simp at k ⊢; omega
      rw [List.filter_cons_of_pos (p := fun x => f x == c) k, n, List.filter_cons_of_pos (p := fun x => f x == c) k]; rfl
    · rw [List.filter_cons_of_neg (p := fun x => f x == c) k, List.filter_cons_of_neg (p := fun x => f x == c) k]; simp
end
end Go.Proofs.YtjilnmpajhifcaaGreat
namespace Go.Proofs.YtjilnmpajhifcaaGreat
open Go.RowKit
theorem block_of_add (a : Addr) (n : Nat) : (a.add n).block = a.block := by unfold Addr.add; split <;> rfl
theorem add_of_add (a : Addr) (i j : Nat) : (a.add i).add j = a.add (i + j) := by
  unfold Addr.add
  by_cases hi : i = 0 <;> by_cases hj : j = 0 <;> simp [hi, hj, Nat.add_assoc]
/-- A slice that holds these bodies, nil let in. -/
def Ks (w : World) (A : Option Addr) (n : Nat) (L : List (Nat × Int)) : Prop :=
  L.length = n ∧ (0 < n → ∃ B o : Nat, A = some ⟨B, o, none⟩ ∧ B < w.heap.size ∧ ∀ (j : Nat) (x : Nat × Int), L[j]? = some x → w.cell? ⟨B, o + j * 2, none⟩ = some (.int .u64 (x.1 : Int)) ∧ w.cell? ⟨B, o + j * 2 + 1, none⟩ = some (.int .i64 x.2))
theorem Ks.below {w w' : World} {A : Option Addr} {n : Nat} {L : List (Nat × Int)} (h : Ks w A n L) (g : Below w.heap.size w w') : Ks w' A n L :=
  ⟨h.1, fun hn => by
    obtain ⟨B, o, e, hb, hc⟩ := h.2 hn
    refine ⟨B, o, e, Nat.lt_of_lt_of_le hb g.size, fun j x hx => ?_⟩
    rw [g.cell (p := ⟨B, o + j * 2, none⟩) hb, g.cell (p := ⟨B, o + j * 2 + 1, none⟩) hb]
    exact hc j x hx⟩
theorem Ks.at_ {w : World} {A : Option Addr} {n : Nat} {L : List (Nat × Int)} (h : Ks w A n L) {k : Nat} (hk : k < n) :
    ∃ (B o : Nat) (x : Nat × Int), A = some ⟨B, o, none⟩ ∧ B < w.heap.size ∧ L[k]? = some x ∧ w.cell? ⟨B, o + k * 2, none⟩ = some (.int .u64 (x.1 : Int)) ∧ w.cell? ⟨B, o + k * 2 + 1, none⟩ = some (.int .i64 x.2) := by
  obtain ⟨B, o, e, hb, hc⟩ := h.2 (by omega)
  have hl : k < L.length := by have := h.1; omega
  have hx := List.getElem?_eq_getElem hl
  exact ⟨B, o, L[k], e, hb, hx, hc k _ hx⟩
/-- Does none have a lesser key than the one ahead? -/
def rs : List (Nat × Int) → Bool
  | [] => true
  | [_] => true
  | a :: b :: t => decide (a.1 ≤ b.1) && rs (b :: t)
theorem rs_take : ∀ (L : List (Nat × Int)) (j : Nat) (x y : Nat × Int), L[j]? = some x → L[j + 1]? = some y → rs (L.take (j + 2)) = (rs (L.take (j + 1)) && decide (x.1 ≤ y.1)) := by
  intro L
  induction L with
  | nil => intro j x y hx; simp at hx
  | cons a t ih =>
    intro j x y hx hy
    cases j with
    | zero =>
      cases t with
      | nil => simp at hy
      | cons b t => simp at hx hy; subst hx; subst hy; simp [rs]
    | succ j =>
      rw [List.getElem?_cons_succ] at hx hy
      have h := ih j x y hx hy
      cases t with
      | nil => simp at hx
      | cons b t =>
        show (decide (a.1 ≤ b.1) && rs ((b :: t).take (j + 2))) = ((decide (a.1 ≤ b.1) && rs ((b :: t).take (j + 1))) && _)
        rw [h, Bool.and_assoc]
theorem rs_false {L : List (Nat × Int)} {j : Nat} {x y : Nat × Int} (hx : L[j]? = some x) (hy : L[j + 1]? = some y) (h : ¬ x.1 ≤ y.1) : rs L = false := by
  induction L generalizing j with
  | nil => simp at hx
  | cons a t ih =>
    cases t with
    | nil => simp at hy
    | cons b t =>
      cases j with
      | zero => simp at hx hy; subst hx; subst hy; simp [rs, h]
      | succ j =>
        show (decide (a.1 ≤ b.1) && rs (b :: t)) = false
        rw [ih (j := j) (by simpa using hx) (by simpa using hy), Bool.and_false]
theorem rs_pair (L : List (Nat × Int)) : rs L = true ↔ L.Pairwise fun a b => a.1 ≤ b.1 := by
  induction L with
  | nil => simp [rs]
  | cons a t ih =>
    cases t with
    | nil => simp [rs]
    | cons b t =>
      show (decide (a.1 ≤ b.1) && rs (b :: t)) = true ↔ _
      rw [Bool.and_eq_true, ih, decide_eq_true_eq, List.pairwise_cons (a := a)]
      refine ⟨fun ⟨h1, h2⟩ => ⟨fun c hc => ?_, h2⟩, fun ⟨h1, h2⟩ => ⟨h1 b (by simp), h2⟩⟩
      rcases List.mem_cons.1 hc with rfl | hc
      · exact h1
      · have := (List.pairwise_cons.1 h2).1 c hc; omega
/-- A block of the call's own, of room for so many, that holds these bodies. -/
def Kr (w : World) (g cap : Nat) (L : List (Nat × Int)) : Prop :=
  ∃ cur : Array Value, w.heap[g]? = some (.cells cur 68 (0, 0)) ∧ cur.size = cap * 2 ∧ L.length ≤ cap ∧ ∀ (j : Nat) (x : Nat × Int), L[j]? = some x → cur[j * 2]? = some (.int .u64 (x.1 : Int)) ∧ cur[j * 2 + 1]? = some (.int .i64 x.2)
section
variable {w w' : World} {g cap : Nat} {L : List (Nat × Int)}
theorem Kr.lt (h : Kr w g cap L) : g < w.heap.size := by
  obtain ⟨cur, hh, _⟩ := h
  rcases Nat.lt_or_ge g w.heap.size with hlt | hge
  · exact hlt
  · rw [Array.getElem?_eq_none hge] at hh; cases hh
theorem Kr.frz (h : Kr w g cap L) (j : Nat) : w.frozen? ⟨g, j, none⟩ = false := by
  obtain ⟨cur, hh, _⟩ := h
  simp [World.frozen?, hh]
theorem Kr.cells (h : Kr w g cap L) (j : Nat) (x : Nat × Int) (hx : L[j]? = some x) : w.cell? ⟨g, j * 2, none⟩ = some (.int .u64 (x.1 : Int)) ∧ w.cell? ⟨g, j * 2 + 1, none⟩ = some (.int .i64 x.2) := by
  obtain ⟨cur, hh, _, _, hc⟩ := h
  rw [cell_of_row w g _ cur _ (0, 0) hh, cell_of_row w g _ cur _ (0, 0) hh]
  exact hc j x hx
theorem Kr.room (h : Kr w g cap L) : L.length ≤ cap := by obtain ⟨_, _, _, h, _⟩ := h; exact h
theorem Kr.block (h : Kr w g cap L) (e : w'.heap[g]? = w.heap[g]?) : Kr w' g cap L := by
  obtain ⟨cur, hh, r⟩ := h; exact ⟨cur, e.trans hh, r⟩
theorem Kr.below (h : Kr w g cap L) (k : Below w.heap.size w w') : Kr w' g cap L := h.block (k.block g h.lt)
theorem Kr.drew (h : Kr w g cap L) : Kr w.drew g cap L := h
theorem Kr.alloc (h : Kr w g cap L) (o : Obj) : Kr (w.alloc o) g cap L := h.block (Below.heap_alloc w o g h.lt)
theorem Kr.far (h : Kr w g cap L) {p : Addr} (hp : g ≠ p.block) (v : Value) : Kr (w.setCell p v) g cap L := h.block (Below.heap_setCell w p v g hp)
theorem Kr.put {j : Nat} (h : Kr w g cap L) (hj : j < L.length) (x : Nat × Int) :
    Kr ((w.setCell ⟨g, j * 2, none⟩ (.int .u64 (x.1 : Int))).setCell ⟨g, j * 2 + 1, none⟩ (.int .i64 x.2)) g cap (L.set j x) := by
  obtain ⟨cur, hh, hs, hl, hc⟩ := h
  refine ⟨(cur.setIfInBounds (j * 2) (.int .u64 (x.1 : Int))).setIfInBounds (j * 2 + 1) (.int .i64 x.2), ?_, by simpa using hs, by simpa using hl, fun i y hy => ?_⟩
  · simp [World.setCell, Array.getElem?_modify, hh]
  rw [List.getElem?_set] at hy
  by_cases c : j = i
  · subst c
    rw [if_pos rfl, if_pos hj] at hy
    obtain rfl : x = y := by simpa using hy
    constructor
    · rw [Array.getElem?_setIfInBounds_ne (by omega), Array.getElem?_setIfInBounds_self_of_lt (by omega)]
    · rw [Array.getElem?_setIfInBounds_self_of_lt (by simp; omega)]
  · rw [if_neg c] at hy
    obtain ⟨a', b'⟩ := hc i y hy
    constructor
    · rw [Array.getElem?_setIfInBounds_ne (by omega), Array.getElem?_setIfInBounds_ne (by omega)]; exact a'
    · rw [Array.getElem?_setIfInBounds_ne (by omega), Array.getElem?_setIfInBounds_ne (by omega)]; exact b'
theorem Kr.putI {j : Nat} {x : Nat × Int} (h : Kr w g cap L) (hx : L[j]? = some x) (i : Int) :
    Kr (w.setCell ⟨g, j * 2 + 1, none⟩ (.int .i64 i)) g cap (L.set j (x.1, i)) := by
  obtain ⟨cur, hh, hs, hl, hc⟩ := h
  have hj := (List.getElem?_eq_some_iff.1 hx).1
  refine ⟨cur.setIfInBounds (j * 2 + 1) (.int .i64 i), ?_, by simpa using hs, by simpa using hl, fun u y hy => ?_⟩
  · simp [World.setCell, Array.getElem?_modify, hh]
  rw [List.getElem?_set] at hy
  by_cases c : j = u
  · subst c
    rw [if_pos rfl, if_pos hj] at hy
    obtain rfl : (x.1, i) = y := by simpa using hy
    exact ⟨by rw [Array.getElem?_setIfInBounds_ne (by omega)]; exact (hc j x hx).1, by rw [Array.getElem?_setIfInBounds_self_of_lt (by omega)]⟩
  · rw [if_neg c] at hy
    obtain ⟨a', b'⟩ := hc u y hy
    exact ⟨by rw [Array.getElem?_setIfInBounds_ne (by omega)]; exact a', by rw [Array.getElem?_setIfInBounds_ne (by omega)]; exact b'⟩
theorem Kr.putK {j : Nat} {x : Nat × Int} (h : Kr w g cap L) (hx : L[j]? = some x) (k : Nat) :
    Kr (w.setCell ⟨g, j * 2, none⟩ (.int .u64 (k : Int))) g cap (L.set j (k, x.2)) := by
  obtain ⟨cur, hh, hs, hl, hc⟩ := h
  have hj := (List.getElem?_eq_some_iff.1 hx).1
  refine ⟨cur.setIfInBounds (j * 2) (.int .u64 (k : Int)), ?_, by simpa using hs, by simpa using hl, fun u y hy => ?_⟩
  · simp [World.setCell, Array.getElem?_modify, hh]
  rw [List.getElem?_set] at hy
  by_cases c : j = u
  · subst c
    rw [if_pos rfl, if_pos hj] at hy
    obtain rfl : (k, x.2) = y := by simpa using hy
    exact ⟨by rw [Array.getElem?_setIfInBounds_self_of_lt (by omega)], by rw [Array.getElem?_setIfInBounds_ne (by omega)]; exact (hc j x hx).2⟩
  · rw [if_neg c] at hy
    obtain ⟨a', b'⟩ := hc u y hy
    exact ⟨by rw [Array.getElem?_setIfInBounds_ne (by omega)]; exact a', by rw [Array.getElem?_setIfInBounds_ne (by omega)]; exact b'⟩
end
theorem Kr.slice {w : World} {g cap : Nat} {L : List (Nat × Int)} (h : Kr w g cap L) : Ks w (some ⟨g, 0, none⟩) L.length L :=
  ⟨rfl, fun _ => ⟨g, 0, rfl, h.lt, fun j x hx => by rw [Nat.zero_add]; exact h.cells j x hx⟩⟩
/-- Bodies as cells. -/
def flat (L : List (Nat × Int)) : List Value := L.flatMap fun x => [.int .u64 (x.1 : Int), .int .i64 x.2]
theorem flat_len (L : List (Nat × Int)) : (flat L).length = L.length * 2 := by
  induction L with
  | nil => rfl
  | cons a t ih => show ([_, _] ++ flat t).length = _; rw [List.length_append, ih]; simp; omega
theorem flat_at : ∀ (L : List (Nat × Int)) (j : Nat) (x : Nat × Int), L[j]? = some x → (flat L)[j * 2]? = some (.int .u64 (x.1 : Int)) ∧ (flat L)[j * 2 + 1]? = some (.int .i64 x.2) := by
  intro L
  induction L with
  | nil => intro j x h; simp at h
  | cons a t ih =>
    intro j x h
    show ((Value.int .u64 (a.1 : Int)) :: (Value.int .i64 a.2) :: flat t)[j * 2]? = _ ∧ ((Value.int .u64 (a.1 : Int)) :: (Value.int .i64 a.2) :: flat t)[j * 2 + 1]? = _
    cases j with
    | zero => simp at h; subst h; simp
    | succ j =>
      rw [show (j + 1) * 2 = j * 2 + 1 + 1 by omega]
      simpa using ih j x (by simpa using h)
theorem flat_of {L : List (Nat × Int)} {i : Nat} {u : Value} (h : (flat L)[i]? = some u) : ∃ x, L[i / 2]? = some x ∧ ((i % 2 = 0 ∧ u = .int .u64 (x.1 : Int)) ∨ (i % 2 = 1 ∧ u = .int .i64 x.2)) := by
  have hi : i < L.length * 2 := by
    rw [← flat_len]; exact (List.getElem?_eq_some_iff.1 h).1
  have hx := List.getElem?_eq_getElem (l := L) (i := i / 2) (by omega)
  refine ⟨_, hx, ?_⟩
  obtain ⟨a, b⟩ := flat_at L _ _ hx
  rcases (show i % 2 = 0 ∨ i % 2 = 1 by omega) with c | c
  · rw [show i / 2 * 2 = i by omega, h] at a; exact Or.inl ⟨c, by injection a⟩
  · rw [show i / 2 * 2 + 1 = i by omega, h] at b; exact Or.inr ⟨c, by injection b⟩
theorem flat_one (L : List (Nat × Int)) : ∀ u ∈ flat L, u.oneCell' = true := by
  intro u hu
  obtain ⟨i, hi⟩ := List.mem_iff_getElem?.1 hu
  obtain ⟨x, _, h | h⟩ := flat_of hi
  · rw [h.2]; rfl
  · rw [h.2]; rfl
theorem Kr.new (w : World) (L : List (Nat × Int)) {cs : Array Value} (h : cs.toList = flat L) : Kr (w.alloc (.cells cs 68)) w.heap.size L.length L := by
  have hs : cs.size = L.length * 2 := by rw [← flat_len, ← h, Array.length_toList]
  refine ⟨cs, heap_alloc_new w _, hs, Nat.le_refl _, fun j x hx => ?_⟩
  have e : ∀ i, cs[i]? = (flat L)[i]? := fun i => by rw [← h, Array.getElem?_toList]
  rw [e, e]
  exact flat_at L j x hx
/-- What append has made. -/
theorem Kr.of_own {w : World} {base : Nat} {v : Value} {n : Nat} {L : List (Nat × Int)} (h : w.ownsRow base 68 2 v n (flat L)) (hv : v ≠ .slice none 0 0) :
    ∃ g cap, v = .slice (some ⟨g, 0, none⟩) n cap ∧ base ≤ g ∧ L.length = n ∧ cap ≤ maxLen ∧ Kr w g cap L := by
  obtain ⟨hlen, h⟩ := h
  rcases h with ⟨h, _⟩ | ⟨g, cap, cur, rfl, hb, hh, hn, hm, hs, ht⟩
  · exact absurd h hv
  · have hL : L.length = n := by rw [flat_len] at hlen; omega
    have cell : ∀ i u, (flat L)[i]? = some u → cur[i]? = some u := fun i u hu => by
      rw [← ht, List.getElem?_take] at hu
      split at hu
      · simpa using hu
      · cases hu
    refine ⟨g, cap, rfl, hb, hL, hm, cur, hh, hs, by omega, fun j x hx => ?_⟩
    obtain ⟨a, b⟩ := flat_at L j x hx
    exact ⟨cell _ _ a, cell _ _ b⟩
/-- And what a block holds may be appended to. -/
theorem Kr.own {w : World} {g cap base : Nat} {L : List (Nat × Int)} (h : Kr w g cap L) (hb : base ≤ g) (hm : cap ≤ maxLen) :
    w.ownsRow base 68 2 (.slice (some ⟨g, 0, none⟩) L.length cap) L.length (flat L) := by
  obtain ⟨cur, hh, hs, hl, hc⟩ := h
  refine ⟨flat_len L, .inr ⟨g, cap, cur, rfl, hb, hh, hl, hm, hs, ?_⟩⟩
  apply List.ext_getElem?
  intro i
  rw [List.getElem?_take]
  by_cases c : i < L.length * 2
  · rw [if_pos c]
    have hx := List.getElem?_eq_getElem (l := L) (i := i / 2) (by omega)
    obtain ⟨a, b⟩ := flat_at L _ _ hx
    obtain ⟨a', b'⟩ := hc _ _ hx
    rcases (show i % 2 = 0 ∨ i % 2 = 1 by omega) with d | d
    · rw [show i / 2 * 2 = i by omega] at a a'; rw [a]; simpa using a'
    · rw [show i / 2 * 2 + 1 = i by omega] at b b'; rw [b]; simpa using b'
  · rw [if_neg c, List.getElem?_eq_none (by rw [flat_len]; omega)]
end Go.Proofs.YtjilnmpajhifcaaGreat
namespace Go.Proofs.YtjilnmpajhifcaaGreat
open Go.RowKit
set_option maxRecDepth 20000 in
set_option maxHeartbeats 8000000 in
theorem rrising_any (A : Option Addr) (n c : Nat) (L : List (Nat × Int)) (hn : n < 9223372036854775807) (w : World) (hL : Ks w A n L) :
    Calls Tryz.prog 26 #[.slice A n c] w fun e w' => e = .returned (.bool (rs L)) ∧ Below w.heap.size w w' := by
  have HL := Lib.hid hL; clear hL
  have HN := Lib.hid hn; clear hn
  go_enter Tryz.func26, Tryz.ntmps26
  go_wp2_with fail
  go_loopg [3] n (fun k iv wr => ∃ i : Nat, 1 ≤ i ∧ n ≤ i + k ∧ i + k ≤ n + 1 ∧ iv = .int .i64 (i : Int) ∧ rs (L.take i) = true ∧ Below w.heap.size w wr)
  case atStart => exact ⟨1, by omega, by omega, by omega, rfl, by cases L <;> rfl, Below.refl _ _⟩
  case round =>
    obtain ⟨i, hi1, hk, hk2, rfl, hr, hbl⟩ := hrel
    obtain ⟨j, hj⟩ : ∃ j, i = j + 1 := ⟨i - 1, by omega⟩
    have HJ := Lib.hid hj
    have HB := Lib.hid hbl
    have HR := Lib.hid hr
    have h9 := HN.out
    clear hbl hr
    by_cases hlt : i < n
    · obtain ⟨G, o, x, rfl, hb, hx, c0, _⟩ := (HL.out.below HB.out).at_ (k := j) (by omega)
      obtain ⟨G', o', y, e, _, hy, d0, _⟩ := (HL.out.below HB.out).at_ (k := i) hlt
      obtain ⟨rfl, rfl⟩ : G = G' ∧ o = o' := by simpa using e
      have hi : (i : Int) < (n : Int) := by omega
      have h0 : (0 : Int) ≤ (i : Int) := by omega
      have h1 : (0 : Int) ≤ (j : Int) := by omega
      have h2 : (j : Int) < (n : Int) := by omega
      have wi : IntKind.i64.wrap ((i : Int) + 1) = (i : Int) + 1 := by rw [IntWalk.i64_in _ (by omega)]
      have wj : IntKind.i64.wrap ((i : Int) - 1) = (j : Int) := by rw [IntWalk.i64_in _ (by omega)]; omega
      have HK : Hid (n ≤ i + gk ∧ i + gk ≤ n + 1) := ⟨hk, hk2⟩
      have HY : Hid (L[j + 1]? = some y) := by show _ = _; rw [← hj]; exact hy
      have HX := Lib.hid hx
      clear e hx hy hk hk2 h9 hj
      go_upto_region 4 with fail
      go_region_held3 (fun w' => w'.cell? ⟨G, o + j * 2, none⟩ = some (.int .u64 (x.1 : Int)) ∧ w'.cell? ⟨G, o + i * 2, none⟩ = some (.int .u64 (y.1 : Int))) (first | (simp [*, go_sem]; done)) (fail)
      rename_i hHeld
      clear hHeld
      by_cases hc : y.1 < x.1
      · have E : Hid (false = rs L) := by show _ = _; rw [rs_false HX.out HY.out (by omega)]
        go_wp2_with fail
        go_returns
        exact ⟨ret_bool E.out, bb⟩
      · go_wp2_with fail
        obtain ⟨g, rfl⟩ : ∃ g, gk = g + 1 := ⟨gk - 1, by have := HK.out; omega⟩
        go_roundg g
        case measure => omega
        case rel =>
          refine ⟨i + 1, by omega, by have := HK.out; omega, by have := HK.out; omega, by simp, ?_, bb⟩
          have q := rs_take L j x y HX.out HY.out
          have r := HR.out
          rw [HJ.out] at r ⊢
          rw [q, r, Bool.true_and, decide_eq_true_eq]; omega
    · have E : Hid (true = rs L) := by
        show _ = _
        have r := HR.out
        rw [List.take_of_length_le (by have := HL.out.1; omega)] at r
        rw [r]
      have hi : ¬ (i : Int) < (n : Int) := by omega
      go_wp2_with fail
      go_returns
      exact ⟨ret_bool E.out, bb⟩
theorem kd_cells : Tryz.prog.cellsOf 68 = 2 := by kernel_rfl
theorem ne_kd_false (a b : Int) (W : World) : (Go.binOp .neq 68 (.agg #[.int .u64 a, .int .i64 b]) (.agg #[.int .u64 a, .int .i64 b])).run Tryz.prog W = .ok (.bool false) W := by
  simp [go_sem]
set_option maxRecDepth 20000 in
set_option maxHeartbeats 8000000 in
theorem samekeyed_any (A B : Option Addr) (n c d : Nat) (L : List (Nat × Int)) (hn : n < 9223372036854775807) (w : World) (hL : Ks w A n L) (hM : Ks w B n L) :
    Calls Tryz.prog 14 #[.slice A n c, .slice B n d] w fun e w' => e = .returned (.bool true) ∧ Below w.heap.size w w' := by
  have HL := Lib.hid hL; clear hL
  have HM := Lib.hid hM; clear hM
  have HN := Lib.hid hn; clear hn
  have hne := ne_kd_false
  have cv := kd_cells
  go_enter Tryz.func14, Tryz.ntmps14
  go_wp2_with fail
  go_loopg [5] n (fun k iv wr => ∃ i : Nat, i + k = n ∧ iv = .int .i64 (i : Int) ∧ Below w.heap.size w wr)
  case atStart => exact ⟨0, by omega, rfl, Below.refl _ _⟩
  case round =>
    obtain ⟨i, hk, rfl, hbl⟩ := hrel
    have HB := Lib.hid hbl
    have h9 := HN.out
    clear hbl
    by_cases hlt : i < n
    · obtain ⟨G, o, x, rfl, hb, hx, c0, c1⟩ := (HL.out.below HB.out).at_ (k := i) hlt
      obtain ⟨E, q, y, rfl, hb', hy, d0, d1⟩ := (HM.out.below HB.out).at_ (k := i) hlt
      obtain rfl : x = y := by rw [hx] at hy; injection hy
      have hi : (i : Int) < (n : Int) := by omega
      have h0 : (0 : Int) ≤ (i : Int) := by omega
      have wi : IntKind.i64.wrap ((i : Int) + 1) = (i : Int) + 1 := by rw [IntWalk.i64_in _ (by omega)]
      have HK : Hid (i + gk = n) := hk
      clear hx hy hk h9
      go_upto_region 6 with fail
      go_region_held3 (fun w' => w'.cell? ⟨G, o + i * 2, none⟩ = some (.int .u64 (x.1 : Int)) ∧ w'.cell? ⟨G, o + i * 2 + 1, none⟩ = some (.int .i64 x.2) ∧ w'.cell? ⟨E, q + i * 2, none⟩ = some (.int .u64 (x.1 : Int)) ∧ w'.cell? ⟨E, q + i * 2 + 1, none⟩ = some (.int .i64 x.2)) (first | (simp [*, go_sem]; done)) (fail)
      rename_i hHeld
      clear hHeld
      go_wp2_with fail
      obtain ⟨g, rfl⟩ : ∃ g, gk = g + 1 := ⟨gk - 1, by have := HK.out; omega⟩
      go_roundg g
      case measure => omega
      case rel => exact ⟨i + 1, by have := HK.out; omega, by simp, bb⟩
    · have hi : ¬ (i : Int) < (n : Int) := by omega
      go_wp2_with fail
      go_returns
      exact ⟨rfl, bb⟩
end Go.Proofs.YtjilnmpajhifcaaGreat
namespace Go.Proofs.YtjilnmpajhifcaaGreat
open Go.RowKit
theorem info_parts {t : TypeId} {q : Nat} {z : Value} (h : (Tryz.prog.info? t).map (fun i => (i.zero, i.size, i.bytes)) = some (some z, q, 16)) : ∃ i, Tryz.prog.info? t = some i ∧ i.zero = some z ∧ i.size = q ∧ i.bytes = 16 := by
  cases hi : Tryz.prog.info? t with
  | none => rw [hi] at h; cases h
  | some i => rw [hi] at h; simp only [Option.map_some, Option.some.injEq, Prod.mk.injEq] at h; exact ⟨i, rfl, h.1, h.2.1, h.2.2⟩
theorem kd_info : (Tryz.prog.info? 68).map (fun i => (i.zero, i.size, i.bytes)) = some (some (.agg #[.int .u64 0, .int .i64 0]), 2, 16) := by kernel_rfl
theorem Ks.asFlat {w : World} {a : Addr} {n : Nat} {L : List (Nat × Int)} (h : Ks w (some a) n L) (j : Nat) (u : Value) (hu : (flat L)[j]? = some u) : a.block < w.heap.size ∧ w.cell? (a.add j) = some u := by
  obtain ⟨x, hx, hc⟩ := flat_of hu
  have hl := (List.getElem?_eq_some_iff.1 hx).1
  obtain ⟨B, o, e, hb, hcell⟩ := h.2 (by have := h.1; omega)
  obtain rfl : a = ⟨B, o, none⟩ := by injection e
  obtain ⟨c0, c1⟩ := hcell _ x hx
  refine ⟨hb, ?_⟩
  rw [WideShapes.add_plain]
  rcases hc with ⟨hm, rfl⟩ | ⟨hm, rfl⟩
  · rw [show o + j = o + j / 2 * 2 by omega]; exact c0
  · rw [show o + j = o + j / 2 * 2 + 1 by omega]; exact c1
theorem own_none (w : World) (e : TypeId) : (w.alloc (.cells #[] e)).ownsRow w.heap.size e 2 (.slice (some ⟨w.heap.size, 0, none⟩) 0 0) 0 [] :=
  ⟨rfl, .inr ⟨w.heap.size, 0, #[], rfl, Nat.le_refl _, heap_alloc_new w _, Nat.le_refl _, Nat.zero_le _, rfl, rfl⟩⟩
theorem set_mid {α : Type} (P T : List α) (x y z : α) : ((P ++ y :: x :: T).set (P.length + 1) y).set P.length z = P ++ z :: y :: T := by
  induction P with
  | nil => rfl
  | cons a t ih => simp
/-- A list sorted, in new memory. -/
def Sorted (w : World) (n : Nat) (L : List (Nat × Int)) (e : Ending) (w' : World) : Prop :=
  (∃ v M, e = .returned v ∧ w'.ownsRow w.heap.size 68 2 v n (flat M) ∧ Std Prod.fst M L) ∧ Below w.heap.size w w'
/-- The first i are sorted, all others stand as they stood. -/
def Part (w : World) (g cap i : Nat) (L : List (Nat × Int)) (W : World) : Prop :=
  ∃ S, Std Prod.fst S (L.take i) ∧ Kr W g cap (S ++ L.drop i) ∧ Below w.heap.size w W
/-- One more goes down among the first ones: it is at place m. -/
def Down (w : World) (g cap i m : Nat) (x : Nat × Int) (L : List (Nat × Int)) (W : World) : Prop :=
  ∃ P Q, P.length = m ∧ Std Prod.fst (P ++ Q) (L.take i) ∧ (∀ q ∈ Q, x.1 < q.1) ∧ Kr W g cap (P ++ x :: (Q ++ L.drop (i + 1))) ∧ Below w.heap.size w W
theorem Part.drew {w : World} {g cap i : Nat} {L : List (Nat × Int)} {W : World} (h : Part w g cap i L W) : Part w g cap i L W.drew := by
  obtain ⟨S, hS, hK, hB⟩ := h
  exact ⟨S, hS, hK.drew, hB.drew⟩
theorem Down.drew {w : World} {g cap i m : Nat} {x : Nat × Int} {L : List (Nat × Int)} {W : World} (h : Down w g cap i m x L W) : Down w g cap i m x L W.drew := by
  obtain ⟨P, Q, hP, hS, hQ, hK, hB⟩ := h
  exact ⟨P, Q, hP, hS, hQ, hK.drew, hB.drew⟩
theorem Down.alloc {w : World} {g cap i m : Nat} {x : Nat × Int} {L : List (Nat × Int)} {W : World} (h : Down w g cap i m x L W) (o : Obj) : Down w g cap i m x L (W.alloc o) := by
  obtain ⟨P, Q, hP, hS, hQ, hK, hB⟩ := h
  exact ⟨P, Q, hP, hS, hQ, hK.alloc o, bl_al hB o⟩
theorem Part.down {w : World} {g cap i : Nat} {x : Nat × Int} {L : List (Nat × Int)} {W : World} (h : Part w g cap i L W) (hx : L[i]? = some x) : Down w g cap i i x L W := by
  obtain ⟨S, hS, hK, hB⟩ := h
  have hl := (List.getElem?_eq_some_iff.1 hx)
  refine ⟨S, [], ?_, by rw [List.append_nil]; exact hS, by simp, ?_, hB⟩
  · rw [hS.perm.length_eq, List.length_take]; have := hl.1; omega
  · have e : L.drop i = x :: L.drop (i + 1) := by
      rw [List.drop_eq_getElem_cons hl.1, hl.2]
    rw [List.nil_append, ← e]; exact hK
theorem Down.done {w : World} {g cap i m : Nat} {x : Nat × Int} {L : List (Nat × Int)} {W : World} (h : Down w g cap i m x L W) (hx : L[i]? = some x)
    (hm : m = 0 ∨ ∃ y, (∃ p, m = p + 1 ∧ ∀ P Q : List (Nat × Int), P.length = m → Kr W g cap (P ++ x :: Q) → P[p]? = some y) ∧ y.1 ≤ x.1) : Part w g cap (i + 1) L W := by
  obtain ⟨P, Q, hP, hS, hQ, hK, hB⟩ := h
  have hl := (List.getElem?_eq_some_iff.1 hx)
  refine ⟨P ++ x :: Q, ?_, by rw [List.append_assoc]; exact hK, hB⟩
  have e : L.take (i + 1) = L.take i ++ [x] := by rw [List.take_succ_eq_append_getElem hl.1, hl.2]
  rw [e]
  refine laid_std hS (fun a ha => ?_) hQ
  rcases hm with rfl | ⟨y, ⟨p, rfl, hy⟩, hyx⟩
  · rw [List.length_eq_zero_iff.1 hP] at ha; cases ha
  · have hy := hy P _ hP hK
    have hp := hS.1
    rw [List.pairwise_append] at hp
    obtain ⟨k, hk⟩ := List.mem_iff_getElem?.1 ha
    have hkl := (List.getElem?_eq_some_iff.1 hk)
    have hyl := (List.getElem?_eq_some_iff.1 hy)
    have q := List.pairwise_iff_getElem.1 hp.1
    by_cases c : k = p
    · subst c; rw [hk] at hy; injection hy with hy; rw [hy]; exact hyx
    · have := q k p hkl.1 hyl.1 (by have := hkl.1; omega)
      rw [hkl.2, hyl.2] at this
      omega
/-- What stands at its place, and ahead of it. -/
theorem Down.see {w : World} {g cap i m : Nat} {x : Nat × Int} {L : List (Nat × Int)} {W : World} (h : Down w g cap i (m + 1) x L W) :
    ∃ y : Nat × Int, (∀ P Q : List (Nat × Int), P.length = m + 1 → Kr W g cap (P ++ x :: Q) → P[m]? = some y) ∧ W.cell? ⟨g, m * 2, none⟩ = some (.int .u64 (y.1 : Int)) ∧ W.cell? ⟨g, m * 2 + 1, none⟩ = some (.int .i64 y.2) ∧
      W.cell? ⟨g, (m + 1) * 2, none⟩ = some (.int .u64 (x.1 : Int)) ∧ W.cell? ⟨g, (m + 1) * 2 + 1, none⟩ = some (.int .i64 x.2) := by
  obtain ⟨P, Q, hP, hS, hQ, hK, hB⟩ := h
  have hy : P[m]? = some (P[m]'(by omega)) := List.getElem?_eq_getElem _
  have cy := hK.cells m _ (by rw [List.getElem?_append_left (by omega)]; exact hy)
  have cx := hK.cells (m + 1) x (by rw [List.getElem?_append_right (by omega), hP, Nat.sub_self]; rfl)
  refine ⟨_, fun P' Q' hP' hK' => ?_, cy.1, cy.2, cx.1, cx.2⟩
  have hz : P'[m]? = some (P'[m]'(by omega)) := List.getElem?_eq_getElem _
  have cz := hK'.cells m _ (by rw [List.getElem?_append_left (by omega)]; exact hz)
  rw [cy.1, cy.2] at cz
  rw [hz]
  have e1 := cz.1; have e2 := cz.2
  injection e1 with e1; injection e1 with _ e1; injection e2 with e2; injection e2 with _ e2
  congr 1
  exact (Prod.ext (by omega) e2).symm
theorem Down.swap {w : World} {g cap i m : Nat} {x y : Nat × Int} {L : List (Nat × Int)} {W W' : World} (h : Down w g cap i (m + 1) x L W) (hy : ∀ P Q : List (Nat × Int), P.length = m + 1 → Kr W g cap (P ++ x :: Q) → P[m]? = some y) (hxy : x.1 < y.1)
    (hg : w.heap.size ≤ g) (hW : Below W.heap.size W W') :
    Down w g cap i m x L ((((W'.setCell ⟨g, (m + 1) * 2, none⟩ (.int .u64 (y.1 : Int))).setCell ⟨g, (m + 1) * 2 + 1, none⟩ (.int .i64 y.2)).setCell ⟨g, m * 2, none⟩ (.int .u64 (x.1 : Int))).setCell ⟨g, m * 2 + 1, none⟩ (.int .i64 x.2)) := by
  obtain ⟨P, Q, hP, hS, hQ, hK, hB⟩ := h
  have hy := hy P _ hP hK
  obtain ⟨P0, rfl⟩ : ∃ P0, P = P0 ++ [y] := by
    refine ⟨P.take m, ?_⟩
    have hl := (List.getElem?_eq_some_iff.1 hy)
    rw [← hl.2, ← List.take_succ_eq_append_getElem hl.1, List.take_of_length_le (by omega)]
  have hm : P0.length = m := by simpa using hP
  refine ⟨P0, y :: Q, hm, by simpa using hS, ?_, ?_, Below.setCell (Below.setCell (Below.setCell (Below.setCell (bl_trans hB hW) hg _) hg _) hg _) hg _⟩
  · intro q hq
    rcases List.mem_cons.1 hq with rfl | hq
    · exact hxy
    · exact hQ q hq
  · have k := ((hK.below hW).put (j := m + 1) (by simp; omega) y).put (j := m) (by simp; omega) x
    have e := set_mid P0 (Q ++ L.drop (i + 1)) x y x
    rw [hm] at e
    simp only [List.append_assoc, List.singleton_append] at k
    rw [e] at k
    exact k
set_option maxRecDepth 20000 in
set_option maxHeartbeats 8000000 in
theorem rby_some (A : Addr) (n c : Nat) (L : List (Nat × Int)) (hn : n ≤ 8796093022208) (w : World) (hL : Ks w (some A) n L) :
    Calls Tryz.prog 25 #[.slice (some A) n c] w (Sorted w n L) := by
  have HL := Lib.hid hL; clear hL
  have HN := Lib.hid hn; clear hn
  obtain ⟨i0, hi, hz0, hz1, hz2⟩ := info_parts kd_info
  have HI := Lib.hid hi; have HZ0 := Lib.hid hz0; have HZ1 := Lib.hid hz1; have HZ2 := Lib.hid hz2
  clear hi hz0 hz1 hz2
  go_enter Tryz.func25, Tryz.ntmps25
  go_wp2_with (first
    | (at_builtin; refine wpList_append_own_at _ rfl _ _ 36 rfl w.heap.size 68 i0 _ 2 16 Tryz.underlying36 HI.out HZ0.out HZ1.out HZ2.out rfl (by decide) _ _ _ rfl (own_none w _) A n c (flat L) rfl ?c0 ?c1 ?c2 ?c3 ?c4 ?c5 ?_)
    | fail)
  case c0 => rw [flat_len, HL.out.1]
  case c1 => intro j u hu; obtain ⟨h1, h2⟩ := HL.out.asFlat j u hu; rw [World.cell?_alloc_lt _ _ _ (by rw [block_of_add]; exact h1)]; exact h2
  case c2 => exact flat_one L
  case c3 => have := HN.out; unfold maxLen; omega
  case c4 => have := HN.out; omega
  case c5 => simp
  intro v1 w1 hown hgrow hnil _
  have hown : w1.ownsRow w.heap.size 68 2 v1 n (flat L) := by simpa using hown
  obtain ⟨g, cap, rfl, hg, hlen, hmax, hK⟩ := Kr.of_own hown (fun e => hnil e)
  have HB1 : Hid (Below w.heap.size w w1) := (bl_al (Below.refl _ _) _).grown hgrow (by simp) (fun q hq => by simp [Value.ownBlock] at hq; omega)
  have HP : Hid (Part w g cap 1 L w1) := by
    refine ⟨L.take 1, Std.refl ?_, by rw [List.take_append_drop]; exact hK, HB1.out⟩
    cases L with
    | nil => exact List.Pairwise.nil
    | cons a t => simp
  have HG : Hid (w.heap.size ≤ g) := hg
  have HC : Hid (L.length = n ∧ cap ≤ maxLen) := ⟨hlen, hmax⟩
  clear hown hgrow hnil hK HI HZ0 HZ1 HZ2 hg hlen hmax
  go_wp2_with fail
  go_loopg [4, 5, 6] n (fun k iv _ _ wr => ∃ i : Nat, 1 ≤ i ∧ n ≤ i + k ∧ i + k ≤ n + 1 ∧ iv = .int .i64 (i : Int) ∧ Part w g cap i L wr)
  case atStart => exact ⟨1, by omega, by omega, by omega, rfl, HP.out⟩
  case round =>
    obtain ⟨i, hi1, hk, hk2, rfl, hpt⟩ := hrel
    have HPt := Lib.hid hpt
    have h9 := HN.out
    clear hpt HP
    by_cases hlt : i < n
    · have hx : L[i]? = some (L[i]'(by rw [HL.out.1]; exact hlt)) := List.getElem?_eq_getElem _
      generalize L[i]'(by rw [HL.out.1]; exact hlt) = x at hx
      have HX := Lib.hid hx
      have HD := Lib.hid (HPt.out.down hx)
      have HK : Hid (n ≤ i + gk ∧ i + gk ≤ n + 1 ∧ 1 ≤ i) := ⟨hk, hk2, hi1⟩
      have hi : (i : Int) < (n : Int) := by omega
      have h0 : (0 : Int) ≤ (i : Int) := by omega
      have wi : IntKind.i64.wrap ((i : Int) + 1) = (i : Int) + 1 := by rw [IntWalk.i64_in _ (by omega)]
      clear hk hk2 hi1 hx HPt h9
      go_wp2_with fail
      go_loopg [5, 6] i (fun m kv _ wz => m ≤ i ∧ kv = .int .i64 (m : Int) ∧ Down w g cap i m x L wz)
      case atStart => exact ⟨Nat.le_refl _, rfl, HD.out⟩
      case round =>
        obtain ⟨hm, rfl, hd⟩ := hrel
        have HD2 := Lib.hid hd
        clear hd HD
        rcases gk with _ | m
        · have HPn := Lib.hid (HD2.out.done HX.out (Or.inl rfl))
          clear HD2
          rw [show ((0 : Nat) : Int) = 0 from rfl]
          go_upto_region 6 with fail
          refine wp_region_held_drew (S := fun w' => True) (by kernel_rfl) ?_ (fun hHeld => ?_)
          · (try dsimp only); (try trivial)
          refine wpAnyH_take (i := 0) (oi := _) (v := ?_) (by simp only [List.getElem?_toArray, List.getElem?_cons_zero]; rfl) (by kernel_rfl) (by kernel_rfl) (by kernel_rfl) (by exact fun _ _ _ h => h) (Or.inl ⟨by rfl, ?_⟩) (by assumption) ?_
          rotate_left 1
          · (intro w hSw; (try dsimp only at hSw); go_simp; try with_reducible rfl)
          try simp only [Act.put, List.setIfInBounds_toArray, List.set_cons_zero, List.set_cons_succ]
          refine wpAnyH_take (i := 1) (oi := _) (v := ?_) (by simp only [List.getElem?_toArray, List.getElem?_cons_succ, List.getElem?_cons_zero]; rfl) (by kernel_rfl) (by kernel_rfl) (by kernel_rfl) (by exact fun _ _ _ h => h) (Or.inl ⟨by rfl, ?_⟩) (by assumption) ?_
          rotate_left 1
          · (intro w hSw; (try dsimp only at hSw); go_simp; try with_reducible rfl)
          try simp only [Act.put, List.setIfInBounds_toArray, List.set_cons_zero, List.set_cons_succ]
          refine wpAnyH_take (i := 2) (oi := _) (v := ?_) (by simp only [List.getElem?_toArray, List.getElem?_cons_succ, List.getElem?_cons_zero]; rfl) (by kernel_rfl) (by kernel_rfl) (by kernel_rfl) (by exact fun _ _ _ h => h) (Or.inl ⟨by rfl, ?_⟩) (by assumption) ?_
          rotate_left 1
          · (intro w hSw; (try dsimp only at hSw); go_simp; try with_reducible rfl)
          try simp only [Act.put, List.setIfInBounds_toArray, List.set_cons_zero, List.set_cons_succ]
          refine wpAnyH_take (i := 3) (oi := _) (v := undef) (by simp only [List.getElem?_toArray, List.getElem?_cons_succ, List.getElem?_cons_zero]; rfl) (by kernel_rfl) (by kernel_rfl) (by kernel_rfl) (by exact fun _ _ _ h => h) (Or.inr ⟨by rfl, rfl⟩) (by assumption) ?_
          try simp only [Act.put, List.setIfInBounds_toArray, List.set_cons_zero, List.set_cons_succ]
          refine wpAnyH_take (i := 4) (oi := _) (v := undef) (by simp only [List.getElem?_toArray, List.getElem?_cons_succ, List.getElem?_cons_zero]; rfl) (by kernel_rfl) (by kernel_rfl) (by kernel_rfl) (by exact fun _ _ _ h => h) (Or.inr ⟨by rfl, rfl⟩) (by assumption) ?_
          try simp only [Act.put, List.setIfInBounds_toArray, List.set_cons_zero, List.set_cons_succ]
          refine wpAnyH_take (i := 5) (oi := _) (v := undef) (by simp only [List.getElem?_toArray, List.getElem?_cons_succ, List.getElem?_cons_zero]; rfl) (by kernel_rfl) (by kernel_rfl) (by kernel_rfl) (by exact fun _ _ _ h => h) (Or.inr ⟨by rfl, rfl⟩) (by assumption) ?_
          try simp only [Act.put, List.setIfInBounds_toArray, List.set_cons_zero, List.set_cons_succ]
          refine wpAnyH_take (i := 6) (oi := _) (v := undef) (by simp only [List.getElem?_toArray, List.getElem?_cons_succ, List.getElem?_cons_zero]; rfl) (by kernel_rfl) (by kernel_rfl) (by kernel_rfl) (by exact fun _ _ _ h => h) (Or.inr ⟨by rfl, rfl⟩) (by assumption) ?_
          try simp only [Act.put, List.setIfInBounds_toArray, List.set_cons_zero, List.set_cons_succ]
          refine wpAnyH_take (i := 7) (oi := _) (v := undef) (by simp only [List.getElem?_toArray, List.getElem?_cons_succ, List.getElem?_cons_zero]; rfl) (by kernel_rfl) (by kernel_rfl) (by kernel_rfl) (by exact fun _ _ _ h => h) (Or.inr ⟨by rfl, rfl⟩) (by assumption) ?_
          try simp only [Act.put, List.setIfInBounds_toArray, List.set_cons_zero, List.set_cons_succ]
          refine wpAnyH_take (i := 8) (oi := _) (v := undef) (by simp only [List.getElem?_toArray, List.getElem?_cons_succ, List.getElem?_cons_zero]; rfl) (by kernel_rfl) (by kernel_rfl) (by kernel_rfl) (by exact fun _ _ _ h => h) (Or.inr ⟨by rfl, rfl⟩) (by assumption) ?_
          try simp only [Act.put, List.setIfInBounds_toArray, List.set_cons_zero, List.set_cons_succ]
          refine wpAnyH_take (i := 9) (oi := _) (v := undef) (by simp only [List.getElem?_toArray, List.getElem?_cons_succ, List.getElem?_cons_zero]; rfl) (by kernel_rfl) (by kernel_rfl) (by kernel_rfl) (by exact fun _ _ _ h => h) (Or.inr ⟨by rfl, rfl⟩) (by assumption) ?_
          try simp only [Act.put, List.setIfInBounds_toArray, List.set_cons_zero, List.set_cons_succ]
          refine wpAnyH_take (i := 10) (oi := _) (v := undef) (by simp only [List.getElem?_toArray, List.getElem?_cons_succ, List.getElem?_cons_zero]; rfl) (by kernel_rfl) (by kernel_rfl) (by kernel_rfl) (by exact fun _ _ _ h => h) (Or.inr ⟨by rfl, rfl⟩) (by assumption) ?_
          try simp only [Act.put, List.setIfInBounds_toArray, List.set_cons_zero, List.set_cons_succ]
          refine wpAnyH_take (i := 11) (oi := _) (v := undef) (by simp only [List.getElem?_toArray, List.getElem?_cons_succ, List.getElem?_cons_zero]; rfl) (by kernel_rfl) (by kernel_rfl) (by kernel_rfl) (by exact fun _ _ _ h => h) (Or.inr ⟨by rfl, rfl⟩) (by assumption) ?_
          try simp only [Act.put, List.setIfInBounds_toArray, List.set_cons_zero, List.set_cons_succ]
          refine wpAnyH_take (i := 12) (oi := _) (v := undef) (by simp only [List.getElem?_toArray, List.getElem?_cons_succ, List.getElem?_cons_zero]; rfl) (by kernel_rfl) (by kernel_rfl) (by kernel_rfl) (by exact fun _ _ _ h => h) (Or.inr ⟨by rfl, rfl⟩) (by assumption) ?_
          try simp only [Act.put, List.setIfInBounds_toArray, List.set_cons_zero, List.set_cons_succ]
          refine wpAnyH_take (i := 13) (oi := _) (v := undef) (by simp only [List.getElem?_toArray, List.getElem?_cons_succ, List.getElem?_cons_zero]; rfl) (by kernel_rfl) (by kernel_rfl) (by kernel_rfl) (by exact fun _ _ _ h => h) (Or.inr ⟨by rfl, rfl⟩) (by assumption) ?_
          try simp only [Act.put, List.setIfInBounds_toArray, List.set_cons_zero, List.set_cons_succ]
          refine wpAnyH_take (i := 14) (oi := _) (v := undef) (by simp only [List.getElem?_toArray, List.getElem?_cons_succ, List.getElem?_cons_zero]; rfl) (by kernel_rfl) (by kernel_rfl) (by kernel_rfl) (by exact fun _ _ _ h => h) (Or.inr ⟨by rfl, rfl⟩) (by assumption) ?_
          try simp only [Act.put, List.setIfInBounds_toArray, List.set_cons_zero, List.set_cons_succ]
          refine wpAnyH_take (i := 15) (oi := _) (v := ?_) (by simp only [List.getElem?_toArray, List.getElem?_cons_succ, List.getElem?_cons_zero]; rfl) (by kernel_rfl) (by kernel_rfl) (by kernel_rfl) (by exact fun _ _ _ h => h) (Or.inl ⟨by rfl, ?_⟩) (by assumption) ?_
          rotate_left 1
          · (intro w hSw; (try dsimp only at hSw); go_simp; try with_reducible rfl)
          try simp only [Act.put, List.setIfInBounds_toArray, List.set_cons_zero, List.set_cons_succ]
          refine wpAnyH_done (by kernel_rfl) ?_ _
          clear hHeld
          go_wp2_with fail
          obtain ⟨k, rfl⟩ : ∃ k, gk = k + 1 := ⟨gk - 1, by have := HK.out; omega⟩
          go_roundg k
          case measure => omega
          case rel => exact ⟨i + 1, by omega, by have := HK.out; omega, by have := HK.out; omega, by simp, HPn.out.drew⟩
        · obtain ⟨y, hyP, cy0, cy1, cx0, cx1⟩ := HD2.out.see
          have HY := Lib.hid hyP
          obtain ⟨g0, hgW⟩ : ∃ u, u = g := ⟨g, rfl⟩
          have zg : g < wr.heap.size := by
            obtain ⟨P, Q, _, _, _, hK, _⟩ := HD2.out; exact hK.lt
          have fg : ∀ j, wr.frozen? ⟨g, j, none⟩ = false := by
            obtain ⟨P, Q, _, _, _, hK, _⟩ := HD2.out; exact hK.frz
          obtain ⟨q, hq⟩ : ∃ q, q = m + 1 := ⟨_, rfl⟩
          have HQ := Lib.hid hq
          have k0 : (0 : Int) < (q : Int) := by omega
          have k0n : 0 < q := by omega
          have k1 : (0 : Int) ≤ (q : Int) := by omega
          have k2 : (q : Int) < (n : Int) := by omega
          have k3 : (0 : Int) ≤ (m : Int) := by omega
          have k4 : (m : Int) < (n : Int) := by omega
          have wj : IntKind.i64.wrap ((q : Int) - 1) = (m : Int) := by rw [IntWalk.i64_in _ (by have := HN.out; omega)]; omega
          have HM : Hid (m + 1 ≤ i) := hm
          have e1 : ¬ (q * 2 = m * 2 + 1) := by omega
          have e2 : ¬ (m * 2 + 1 = q * 2) := by omega
          have e3 : ¬ (q * 2 + 1 = m * 2) := by omega
          have e4 : ¬ (m * 2 = q * 2 + 1) := by omega
          have e5 : ¬ (q = m) := by omega
          have e6 : ¬ (m = q) := by omega
          rw [← hq] at cx0 cx1 ⊢
          clear hyP hq hm hgW g0
          go_upto_region 6 with fail
          go_region_held3 (fun w' => w'.cell? ⟨g, m * 2, none⟩ = some (.int .u64 (y.1 : Int)) ∧ w'.cell? ⟨g, q * 2, none⟩ = some (.int .u64 (x.1 : Int))) (first | (simp [*, go_sem]; done)) (fail)
          rename_i hHeld
          clear hHeld
          by_cases hc : x.1 < y.1
          · go_wp2_with fail
            go_roundg m
            case measure => omega
            case rel =>
              refine ⟨by have := HM.out; omega, rfl, ?_⟩
              have k := (HD2.out.swap HY.out hc HG.out (Below.refl _ _)).alloc (.cells #[.int .u64 (x.1 : Int), .int .i64 x.2] 68)
              rw [← HQ.out] at k
              exact k.drew
          · have HPn := Lib.hid (HD2.out.done HX.out (Or.inr ⟨y, ⟨m, rfl, HY.out⟩, by omega⟩))
            clear HD2
            go_wp2_with fail
            obtain ⟨k, rfl⟩ : ∃ k, gk = k + 1 := ⟨gk - 1, by have := HK.out; omega⟩
            go_roundg k
            case measure => omega
            case rel => exact ⟨i + 1, by omega, by have := HK.out; omega, by have := HK.out; omega, by simp, HPn.out.drew⟩
    · have hi : ¬ (i : Int) < (n : Int) := by omega
      have HS : Hid (∀ W, Part w g cap i L W → Sorted w n L (.returned (.slice (some ⟨g, 0, none⟩) n cap)) W) := fun W hW => by
        obtain ⟨S, hS, hK', hB'⟩ := hW
        have hl := HL.out.1
        rw [List.take_of_length_le (by omega)] at hS
        rw [List.drop_of_length_le (by omega), List.append_nil] at hK'
        have hSl : S.length = n := by rw [hS.perm.length_eq]; exact hl
        refine ⟨⟨_, S, rfl, ?_, hS⟩, hB'⟩
        rw [← hSl]; exact hK'.own HG.out HC.out.2
      go_wp2_with fail
      go_returns
      exact HS.out _ HPt.out
set_option maxRecDepth 20000 in
set_option maxHeartbeats 8000000 in
theorem rby_none (w : World) : Calls Tryz.prog 25 #[.slice none 0 0] w (Sorted w 0 []) := by
  obtain ⟨i0, hi, hz0, hz1, hz2⟩ := info_parts kd_info
  have HI := Lib.hid hi
  clear hi hz0 hz1 hz2
  go_enter Tryz.func25, Tryz.ntmps25
  go_wp2_with (first
    | (at_builtin; refine wpList_append_own_none rfl _ _ 36 rfl w.heap.size 68 i0 2 Tryz.underlying36 HI.out _ _ _ rfl (own_none w _) rfl ?_)
    | fail)
  go_wp2_with fail
  go_loopg [4, 5, 6] 0 (fun _ iv _ _ wr => iv = .int .i64 1 ∧ wr = w.alloc (.cells #[] 68))
  case atStart => exact ⟨rfl, rfl⟩
  case round =>
    obtain ⟨rfl, rfl⟩ := hrel
    have HS : Hid (Sorted w 0 [] (.returned (.slice (some ⟨w.heap.size, 0, none⟩) 0 0)) (w.alloc (.cells #[] 68))) :=
      ⟨⟨_, [], rfl, own_none w _, Std.refl List.Pairwise.nil⟩, bl_al (Below.refl _ _) _⟩
    go_wp2_with fail
    go_returns
    exact HS.out
theorem rby_any (A : Option Addr) (n c : Nat) (L : List (Nat × Int)) (hn : n ≤ 8796093022208) (hc : A = none → n = 0 ∧ c = 0) (w : World) (hL : Ks w A n L) :
    Calls Tryz.prog 25 #[.slice A n c] w (Sorted w n L) := by
  rcases A with _ | A
  · obtain ⟨rfl, rfl⟩ := hc rfl
    rw [List.length_eq_zero_iff.1 hL.1]
    exact rby_none w
  · exact rby_some A n c L hn w hL
end Go.Proofs.YtjilnmpajhifcaaGreat
namespace Go.Proofs.YtjilnmpajhifcaaGreat
open Go.RowKit
/-- Keys of 64 bits. -/
def Ok64 (L : List (Nat × Int)) : Prop := ∀ x ∈ L, x.1 < 18446744073709551616
theorem Ok64.std {f : Nat × Int → Nat} {M L : List (Nat × Int)} (h : Ok64 L) (s : Std f M L) : Ok64 M := fun x hx => h x (s.perm.mem_iff.1 hx)
theorem Ok64.app {M L : List (Nat × Int)} (h : Ok64 L) (g : Ok64 M) : Ok64 (L ++ M) := fun x hx => by
  rcases List.mem_append.1 hx with a | a
  · exact h x a
  · exact g x a
/-- What the program's By comes to. -/
def ByT : Prop := ∀ (A : Option Addr) (n c : Nat) (L : List (Nat × Int)), n ≤ 8796093022208 → (A = none → n = 0 ∧ c = 0) → Ok64 L → ∀ W : World, Ks W A n L → Calls Tryz.prog 34 #[.slice A n c] W (Sorted W n L)
theorem Ks.of_own {w : World} {base : Nat} {v : Value} {n : Nat} {L : List (Nat × Int)} (h : w.ownsRow base 68 2 v n (flat L)) :
    ∃ A c, v = .slice A n c ∧ (A = none → n = 0 ∧ c = 0) ∧ Ks w A n L := by
  by_cases hv : v = .slice none 0 0
  · subst hv
    rcases h.2 with ⟨_, rfl⟩ | ⟨g, cap, cur, e, _⟩
    · have hl := h.1
      rw [flat_len] at hl
      exact ⟨none, 0, rfl, fun _ => ⟨rfl, rfl⟩, by omega, fun hn => by omega⟩
    · cases e
  · obtain ⟨g, cap, rfl, _, hl, _, hK⟩ := Kr.of_own h hv
    refine ⟨_, cap, rfl, by simp, ?_⟩
    rw [← hl]; exact hK.slice
theorem Sorted.use {w : World} {n : Nat} {L : List (Nat × Int)} {e : Ending} {w' : World} (h : Sorted w n L e w') :
    ∃ A c M, e = .returned (.slice A n c) ∧ (A = none → n = 0 ∧ c = 0) ∧ Ks w' A n M ∧ w'.ownsRow w.heap.size 68 2 (.slice A n c) n (flat M) ∧ Std Prod.fst M L ∧ Below w.heap.size w w' := by
  obtain ⟨⟨v, M, rfl, hown, hS⟩, hb⟩ := h
  obtain ⟨A, c, rfl, hc, hK⟩ := Ks.of_own hown
  exact ⟨A, c, M, rfl, hc, hK, hown, hS, hb⟩
theorem awake_two : ∀ M, Std Prod.fst M [((5 : Nat), (0 : Int)), (2, 1)] → M = [(2, 1), (5, 0)] := by
  intro M h
  refine h.uniq ⟨by simp, fun c => ?_⟩
  by_cases h2 : c = 2
  · subst h2; rfl
  · by_cases h5 : c = 5
    · subst h5; rfl
    · have e2 : ¬ (2 = c) := fun e => h2 e.symm
      have e5 : ¬ (5 = c) := fun e => h5 e.symm
      simp [e2, e5]
end Go.Proofs.YtjilnmpajhifcaaGreat
namespace Go.Proofs.YtjilnmpajhifcaaGreat
open Go.RowKit
theorem flat_app (L M : List (Nat × Int)) : flat (L ++ M) = flat L ++ flat M := by unfold flat; rw [List.flatMap_append]
theorem run_append_kd (w : World) (base : Nat) (ty : TypeId) (v : Value) (n : Nat) (L : List (Nat × Int)) (hown : w.ownsRow base 68 2 v n (flat L))
    (A : Option Addr) (m c : Nat) (M : List (Nat × Int)) (hM : Ks w A m M) (hA : A = none → m = 0 ∧ c = 0) (h63 : n + m ≤ 8796093022208) (hbase : base ≤ w.heap.size) :
    ∃ v' w', (Builtin.append_ #[36, 36] ty #[v, .slice A m c]).run Tryz.prog w = .ok v' w' ∧ w'.ownsRow base 68 2 v' (n + m) (flat (L ++ M)) ∧ w.grownBy w' v.ownBlock := by
  obtain ⟨i0, hi, hz0, hz1, hz2⟩ := info_parts kd_info
  rcases A with _ | a
  · obtain ⟨rfl, rfl⟩ := hA rfl
    obtain rfl : M = [] := List.length_eq_zero_iff.1 hM.1
    have h := run_append_owned_none (P := Tryz.prog) (w := w) base 36 ty 68 i0 2 Tryz.underlying36 hi v n (flat L) hown
    exact ⟨v, w, h, by simpa using hown, World.grownBy.refl w _⟩
  · obtain ⟨v', w', hr, h2, h3, _⟩ := run_append_own_at (P := Tryz.prog) w base 36 ty 68 i0 _ 2 16 Tryz.underlying36 hi hz0 hz1 hz2 rfl (by decide) v n (flat L) hown a m c (flat M)
      (by rw [flat_len, hM.1]) (fun j u hu => (hM.asFlat j u hu).2) (flat_one M) (by unfold maxLen; omega) (by omega) hbase
    exact ⟨v', w', hr, by rw [flat_app]; exact h2, h3⟩
theorem wpList_append_kd {w : World} {ops : Array Oper} {rest : List Oper} {o : Oper} {a : Act} {Q : Exit → Act → World → Prop} (hgd : o.guard = none) (s x : Operand)
    (ho : o.op = .call { callee := .builtin .append, args := #[s, x], argTypes := #[36, 36] })
    (base : Nat) (v : Value) (n : Nat) (L : List (Nat × Int)) (hs : a.eval s = v) (hown : w.ownsRow base 68 2 v n (flat L))
    (A : Option Addr) (m c : Nat) (M : List (Nat × Int)) (hx : a.eval x = .slice A m c) (hM : Ks w A m M) (hA : A = none → m = 0 ∧ c = 0) (h63 : n + m ≤ 8796093022208) (hbase : base ≤ w.heap.size)
    (h : ∀ v' w', w'.ownsRow base 68 2 v' (n + m) (flat (L ++ M)) → w.grownBy w' v.ownBlock → wpList Tryz.prog ops Q rest (a.put o.dst v') w') :
    wpList Tryz.prog ops Q (o :: rest) a w := by
  refine wpList_plain hgd fun K hK => ?_
  obtain ⟨v', w', hr, h2, h3⟩ := run_append_kd w base o.type v n L hown A m c M hM hA h63 hbase
  unfold Oper.wp execOp
  simp only [ho, resolve, invoke, builtin, Sem.run_bind, Sem.run_pure, Result.andThen_ok, List.map_toArray, List.map_cons, List.map_nil, hs, hx, hr]
  exact hK _ _ (h v' w' h2 h3)
/-- Two sorted lists together are, sorted, what both lists together are. -/
theorem std_app {α : Type} {f : α → Nat} {B S1 S2 L1 L2 : List α} (h : Std f B (S1 ++ S2)) (h1 : Std f S1 L1) (h2 : Std f S2 L2) : Std f B (L1 ++ L2) :=
  ⟨h.1, fun c => by rw [h.2 c, List.filter_append, List.filter_append, h1.2 c, h2.2 c]⟩
end Go.Proofs.YtjilnmpajhifcaaGreat
