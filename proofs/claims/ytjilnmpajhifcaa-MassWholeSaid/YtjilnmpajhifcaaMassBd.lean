/- Bodies as numbers; their masses and the middle of them: bounds. No program here. -/
import Derived.Test.YtjilnmpajhifcaaMassNum
namespace Go.Proofs.Ytjilnmpajhifcaa
/-- A body. -/
structure Bod where
  m : Int
  r : Int
  x : Int
  y : Int
  px : Int
  py : Int
  fu : Int
  ra : Int
  ex : Int
  th : Int
  he : Int
/-- Its mass and its place are as they may be. -/
def Mb (b : Bod) : Prop := 0 < b.m ∧ b.m ≤ 19342813113834066795298816 ∧ -19807040628566084398385987584 ≤ b.x ∧ b.x ≤ 19807040628566084398385987584 ∧ -19807040628566084398385987584 ≤ b.y ∧ b.y ≤ 19807040628566084398385987584
/-- All mass; all masses by places. -/
def sM (L : List Bod) : Int := (L.map Bod.m).sum
def sD (f : Bod → Int) (L : List Bod) : Int := (L.map fun b => mulr b.m (f b)).sum
theorem sM_app (L M : List Bod) : sM (L ++ M) = sM L + sM M := by unfold sM; rw [List.map_append, List.sum_append]
theorem sD_app (f : Bod → Int) (L M : List Bod) : sD f (L ++ M) = sD f L + sD f M := by unfold sD; rw [List.map_append, List.sum_append]
theorem take_snoc' {α : Type} {L : List α} {i : Nat} {x : α} (h : L[i]? = some x) : L.take (i + 1) = L.take i ++ [x] := by
  have hl := List.getElem?_eq_some_iff.1 h
  rw [List.take_succ_eq_append_getElem hl.1, hl.2]
theorem sM_next {L : List Bod} {i : Nat} {b : Bod} (h : L[i]? = some b) : sM (L.take (i + 1)) = sM (L.take i) + b.m := by
  rw [take_snoc' h, sM_app]; show _ + (b.m + 0) = _; omega
theorem sD_next {f : Bod → Int} {L : List Bod} {i : Nat} {b : Bod} (h : L[i]? = some b) : sD f (L.take (i + 1)) = sD f (L.take i) + mulr b.m (f b) := by
  rw [take_snoc' h, sD_app]; show _ + (mulr b.m (f b) + 0) = _; omega
theorem mulr_near {m x : Int} (hm : 0 < m) (h1 : -19807040628566084398385987584 ≤ x) (h2 : x ≤ 19807040628566084398385987584) : -(m * 1073741824) ≤ mulr m x ∧ mulr m x ≤ m * 1073741824 := by
  unfold mulr
  obtain ⟨k, hk⟩ : ∃ k : Nat, k = (m.natAbs * x.natAbs + 9223372036854775808) / 18446744073709551616 := ⟨_, rfl⟩
  have hx : x.natAbs ≤ 19807040628566084398385987584 := by omega
  have hp := Nat.mul_le_mul_left m.natAbs hx
  have h : k ≤ m.natAbs * 1073741824 := by
    rw [hk]
    have : m.natAbs * 19807040628566084398385987584 = m.natAbs * 1073741824 * 18446744073709551616 := by rw [Nat.mul_assoc]
    omega
  rw [← hk]
  have hz : (k : Int) ≤ m * 1073741824 := by omega
  unfold sg
  split <;> omega
theorem divr_near {s M : Int} (hM : 0 < M) (h1 : -(M * 1073741824) ≤ s) (h2 : s ≤ M * 1073741824) : -19807040628566084398385987584 ≤ divr s M ∧ divr s M ≤ 19807040628566084398385987584 := by
  unfold divr
  obtain ⟨k, hk⟩ : ∃ k : Nat, k = (s.natAbs * 36893488147419103232 + M.natAbs) / (2 * M.natAbs) := ⟨_, rfl⟩
  have h : k < 19807040628566084398385987584 + 1 := by
    rw [hk, Nat.div_lt_iff_lt_mul (by omega)]
    have hs : s.natAbs ≤ M.natAbs * 1073741824 := by omega
    have := Nat.mul_le_mul_right 36893488147419103232 hs
    rw [Nat.mul_assoc] at this
    have e : (19807040628566084398385987584 + 1) * (2 * M.natAbs) = M.natAbs * (1073741824 * 36893488147419103232) + 2 * M.natAbs := by omega
    omega
  rw [← hk]
  unfold sg
  split <;> omega
theorem sM_near : ∀ {L : List Bod}, (∀ b ∈ L, Mb b) → 0 ≤ sM L ∧ sM L ≤ (L.length : Int) * 19342813113834066795298816 ∧ (L ≠ [] → 0 < sM L) := by
  intro L
  induction L with
  | nil => intro _; exact ⟨Int.le_refl _, by show (0 : Int) ≤ 0 * _; omega, fun h => absurd rfl h⟩
  | cons b t ih =>
    intro h
    obtain ⟨k1, k2, _⟩ := ih fun c hc => h c (List.mem_cons_of_mem _ hc)
    obtain ⟨h1, h2, _⟩ := h b List.mem_cons_self
    have e : sM (b :: t) = b.m + sM t := rfl
    rw [e, List.length_cons]
    refine ⟨by omega, by omega, fun _ => by omega⟩
theorem sD_near {f : Bod → Int} : ∀ {L : List Bod}, (∀ b ∈ L, Mb b ∧ -19807040628566084398385987584 ≤ f b ∧ f b ≤ 19807040628566084398385987584) → -(sM L * 1073741824) ≤ sD f L ∧ sD f L ≤ sM L * 1073741824 := by
  intro L
  induction L with
  | nil => intro _; exact ⟨by show -((0 : Int) * _) ≤ 0; omega, by show (0 : Int) ≤ 0 * _; omega⟩
  | cons b t ih =>
    intro h
    have k := ih fun c hc => h c (List.mem_cons_of_mem _ hc)
    obtain ⟨h1, h2, h3⟩ := h b List.mem_cons_self
    have q := mulr_near h1.1 h2 h3
    have e : sM (b :: t) = b.m + sM t := rfl
    have e' : sD f (b :: t) = mulr b.m (f b) + sD f t := rfl
    rw [e, e']; omega
/-- Few bodies: each sum may be. -/
theorem few_M {L : List Bod} (h : ∀ b ∈ L, Mb b) (hl : L.length ≤ 64) (i : Nat) : My (sM (L.take i)) := by
  obtain ⟨a, b, _⟩ := sM_near (L := L.take i) fun c hc => h c (List.mem_of_mem_take hc)
  have hl' : (L.take i).length ≤ 64 := by rw [List.length_take]; omega
  have : ((L.take i).length : Int) * 19342813113834066795298816 ≤ 64 * 19342813113834066795298816 := Int.mul_le_mul_of_nonneg_right (by omega) (by omega)
  unfold My; omega
theorem few_D {f : Bod → Int} {L : List Bod} (h : ∀ b ∈ L, Mb b ∧ -19807040628566084398385987584 ≤ f b ∧ f b ≤ 19807040628566084398385987584) (hl : L.length ≤ 64) (i : Nat) : My (sD f (L.take i)) := by
  have q := sD_near (f := f) (L := L.take i) fun c hc => h c (List.mem_of_mem_take hc)
  obtain ⟨a, b, _⟩ := sM_near (L := L.take i) fun c hc => (h c (List.mem_of_mem_take hc)).1
  have hl' : (L.take i).length ≤ 64 := by rw [List.length_take]; omega
  have : ((L.take i).length : Int) * 19342813113834066795298816 ≤ 64 * 19342813113834066795298816 := Int.mul_le_mul_of_nonneg_right (by omega) (by omega)
  unfold My; omega
/-- Where the middle is, on one axis. -/
def mid (f : Bod → Int) (L : List Bod) : Int := divr (sD f L) (sM L)
theorem mid_near {f : Bod → Int} {L : List Bod} (h : ∀ b ∈ L, Mb b ∧ -19807040628566084398385987584 ≤ f b ∧ f b ≤ 19807040628566084398385987584) (hn : L ≠ []) : -19807040628566084398385987584 ≤ mid f L ∧ mid f L ≤ 19807040628566084398385987584 := by
  obtain ⟨a, b⟩ := sD_near h
  exact divr_near ((sM_near fun c hc => (h c hc).1).2.2 hn) a b
theorem Mb.x_ {L : List Bod} (h : ∀ b ∈ L, Mb b) : ∀ b ∈ L, Mb b ∧ -19807040628566084398385987584 ≤ Bod.x b ∧ Bod.x b ≤ 19807040628566084398385987584 := fun b hb => by
  have q := h b hb
  exact ⟨q, q.2.2.1, q.2.2.2.1⟩
theorem Mb.y_ {L : List Bod} (h : ∀ b ∈ L, Mb b) : ∀ b ∈ L, Mb b ∧ -19807040628566084398385987584 ≤ Bod.y b ∧ Bod.y b ≤ 19807040628566084398385987584 := fun b hb => by
  have q := h b hb
  exact ⟨q, q.2.2.2.2.1, q.2.2.2.2.2⟩
end Go.Proofs.Ytjilnmpajhifcaa
