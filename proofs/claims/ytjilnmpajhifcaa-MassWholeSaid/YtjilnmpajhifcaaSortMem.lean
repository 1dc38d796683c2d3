/- Lists of bodies by their keys in memory. -/
import Derived.Test.YtjilnmpajhifcaaZzLimA
import Derived.Test.YtjilnmpajhifcaaSortNum
import Derived.Deep.LoopGhost
import Derived.Deep.DeepCutAuto
import Derived.Deep.AppendLies
import Derived.Laws.OwnMore
import Derived.Maps.AppendAt
namespace Go.Proofs.Ytjilnmpajhifcaa
open Go.RowKit
theorem block_of_add (a : Addr) (n : Nat) : (a.add n).block = a.block := by unfold Addr.add; split <;> rfl
theorem add_of_add (a : Addr) (i j : Nat) : (a.add i).add j = a.add (i + j) := by
  unfold Addr.add
  by_cases hi : i = 0 <;> by_cases hj : j = 0 <;> simp [hi, hj, Nat.add_assoc]
/-- A slice that holds these bodies, nil let in. -/
def Ks (w : World) (A : Option Addr) (n : Nat) (L : List (Nat × Int)) : Prop :=
  L.length = n ∧ (0 < n → ∃ B o : Nat, A = some ⟨B, o, none⟩ ∧ B < w.heap.size ∧ ∀ (j : Nat) (x : Nat × Int), L[j]? = some x → w.cell? ⟨B, o + j * 2, none⟩ = some (.int .u64 (x.1 : Int)) ∧ w.cell? ⟨B, o + j * 2 + 1, none⟩ = some (.int .i64 x.2))
theorem Ks.below {w w' : World} {A : Option Addr} {n : Nat} {L : List (Nat × Int)} (h : Ks w A n L) (g : Below w.heap.size w w') : Ks w' A n L :=
  ⟨h.1, fun hn => by
    obtain ⟨B, o, e, hb, hc⟩ := h.2 hn
    refine ⟨B, o, e, Nat.lt_of_lt_of_le hb g.size, fun j x hx => ?_⟩
    rw [g.cell (p := ⟨B, o + j * 2, none⟩) hb, g.cell (p := ⟨B, o + j * 2 + 1, none⟩) hb]
    exact hc j x hx⟩
theorem Ks.at_ {w : World} {A : Option Addr} {n : Nat} {L : List (Nat × Int)} (h : Ks w A n L) {k : Nat} (hk : k < n) :
    ∃ (B o : Nat) (x : Nat × Int), A = some ⟨B, o, none⟩ ∧ B < w.heap.size ∧ L[k]? = some x ∧ w.cell? ⟨B, o + k * 2, none⟩ = some (.int .u64 (x.1 : Int)) ∧ w.cell? ⟨B, o + k * 2 + 1, none⟩ = some (.int .i64 x.2) := by
  obtain ⟨B, o, e, hb, hc⟩ := h.2 (by omega)
  have hl : k < L.length := by have := h.1; omega
  have hx := List.getElem?_eq_getElem hl
  exact ⟨B, o, L[k], e, hb, hx, hc k _ hx⟩
/-- Does none have a lesser key than the one ahead? -/
def rs : List (Nat × Int) → Bool
  | [] => true
  | [_] => true
  | a :: b :: t => decide (a.1 ≤ b.1) && rs (b :: t)
theorem rs_take : ∀ (L : List (Nat × Int)) (j : Nat) (x y : Nat × Int), L[j]? = some x → L[j + 1]? = some y → rs (L.take (j + 2)) = (rs (L.take (j + 1)) && decide (x.1 ≤ y.1)) := by
  intro L
  induction L with
  | nil => intro j x y hx; simp at hx
  | cons a t ih =>
    intro j x y hx hy
    cases j with
    | zero =>
      cases t with
      | nil => simp at hy
      | cons b t => simp at hx hy; subst hx; subst hy; simp [rs]
    | succ j =>
      rw [List.getElem?_cons_succ] at hx hy
      have h := ih j x y hx hy
      cases t with
      | nil => simp at hx
      | cons b t =>
        show (decide (a.1 ≤ b.1) && rs ((b :: t).take (j + 2))) = ((decide (a.1 ≤ b.1) && rs ((b :: t).take (j + 1))) && _)
        rw [h, Bool.and_assoc]
theorem rs_false {L : List (Nat × Int)} {j : Nat} {x y : Nat × Int} (hx : L[j]? = some x) (hy : L[j + 1]? = some y) (h : ¬ x.1 ≤ y.1) : rs L = false := by
  induction L generalizing j with
  | nil => simp at hx
  | cons a t ih =>
    cases t with
    | nil => simp at hy
    | cons b t =>
      cases j with
      | zero => simp at hx hy; subst hx; subst hy; simp [rs, h]
      | succ j =>
        show (decide (a.1 ≤ b.1) && rs (b :: t)) = false
        rw [ih (j := j) (by simpa using hx) (by simpa using hy), Bool.and_false]
theorem rs_pair (L : List (Nat × Int)) : rs L = true ↔ L.Pairwise fun a b => a.1 ≤ b.1 := by
  induction L with
  | nil => simp [rs]
  | cons a t ih =>
    cases t with
    | nil => simp [rs]
    | cons b t =>
      show (decide (a.1 ≤ b.1) && rs (b :: t)) = true ↔ _
      rw [Bool.and_eq_true, ih, decide_eq_true_eq, List.pairwise_cons (a := a)]
      refine ⟨fun ⟨h1, h2⟩ => ⟨fun c hc => ?_, h2⟩, fun ⟨h1, h2⟩ => ⟨h1 b (by simp), h2⟩⟩
      rcases List.mem_cons.1 hc with rfl | hc
      · exact h1
      · have := (List.pairwise_cons.1 h2).1 c hc; omega
section
variable {w w' : World} {g cap : Nat} {L : List (Nat × Int)}
end
/-- Bodies as cells. -/
def flat (L : List (Nat × Int)) : List Value := L.flatMap fun x => [.int .u64 (x.1 : Int), .int .i64 x.2]
theorem flat_len (L : List (Nat × Int)) : (flat L).length = L.length * 2 := by
  induction L with
  | nil => rfl
  | cons a t ih => show ([_, _] ++ flat t).length = _; rw [List.length_append, ih]; simp; omega
theorem flat_at : ∀ (L : List (Nat × Int)) (j : Nat) (x : Nat × Int), L[j]? = some x → (flat L)[j * 2]? = some (.int .u64 (x.1 : Int)) ∧ (flat L)[j * 2 + 1]? = some (.int .i64 x.2) := by
  intro L
  induction L with
  | nil => intro j x h; simp at h
  | cons a t ih =>
    intro j x h
    show ((Value.int .u64 (a.1 : Int)) :: (Value.int .i64 a.2) :: flat t)[j * 2]? = _ ∧ ((Value.int .u64 (a.1 : Int)) :: (Value.int .i64 a.2) :: flat t)[j * 2 + 1]? = _
    cases j with
    | zero => simp at h; subst h; simp
    | succ j =>
      rw [show (j + 1) * 2 = j * 2 + 1 + 1 by omega]
      simpa using ih j x (by simpa using h)
theorem flat_of {L : List (Nat × Int)} {i : Nat} {u : Value} (h : (flat L)[i]? = some u) : ∃ x, L[i / 2]? = some x ∧ ((i % 2 = 0 ∧ u = .int .u64 (x.1 : Int)) ∨ (i % 2 = 1 ∧ u = .int .i64 x.2)) := by
  have hi : i < L.length * 2 := by
    rw [← flat_len]; exact (List.getElem?_eq_some_iff.1 h).1
  have hx := List.getElem?_eq_getElem (l := L) (i := i / 2) (by omega)
  refine ⟨_, hx, ?_⟩
  obtain ⟨a, b⟩ := flat_at L _ _ hx
  rcases (show i % 2 = 0 ∨ i % 2 = 1 by omega) with c | c
  · rw [show i / 2 * 2 = i by omega, h] at a; exact Or.inl ⟨c, by injection a⟩
  · rw [show i / 2 * 2 + 1 = i by omega, h] at b; exact Or.inr ⟨c, by injection b⟩
theorem flat_one (L : List (Nat × Int)) : ∀ u ∈ flat L, u.oneCell' = true := by
  intro u hu
  obtain ⟨i, hi⟩ := List.mem_iff_getElem?.1 hu
  obtain ⟨x, _, h | h⟩ := flat_of hi
  · rw [h.2]; rfl
  · rw [h.2]; rfl
end Go.Proofs.Ytjilnmpajhifcaa
