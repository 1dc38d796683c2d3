/- What is no number's text. -/
import Derived.Test.YtgiamnehncbihaaHexAwake
namespace Go.Proofs.Ytgiamnehncbihaa
open Go.RowKit

/-- Every text: maybe a sign, some digits, the point, sixteen digits. -/
theorem txt_form (x : Int) (_hx : My x) : ∃ (p l r : List UInt8), txt x = p ++ l ++ 46 :: r ∧ (p = [] ∨ p = [45]) ∧ l ≠ [] ∧ r.length = 16 ∧ (∀ b ∈ l, b ≠ 45 ∧ b ≠ 46) ∧ (∀ b ∈ r, b ≠ 45 ∧ b ≠ 46) := by
  obtain ⟨A, hA⟩ : ∃ A, x.natAbs / 18446744073709551616 = A := ⟨_, rfl⟩
  obtain ⟨L, hL⟩ : ∃ L, x.natAbs % 18446744073709551616 = L := ⟨_, rfl⟩
  have hne : hexB A (hexc A) ≠ [] := by
    intro h
    have := hexB_length A (hexc A); rw [h] at this; have := hexc_pos A; simp at *; omega
  by_cases c : x < 0
  · exact ⟨[45], _, _, by rw [txt_neg x A L hA hL c]; rfl, Or.inr rfl, hne, hexB_length L 16, fun b hb => hexB_mem _ _ b hb, fun b hb => hexB_mem _ _ b hb⟩
  · exact ⟨[], _, _, by rw [txt_pos x A L hA hL c]; rfl, Or.inl rfl, hne, hexB_length L 16, fun b hb => hexB_mem _ _ b hb, fun b hb => hexB_mem _ _ b hb⟩
/-- How many bytes stand behind the last point. -/
def tail46 (l : List UInt8) : Nat := (l.reverse.takeWhile (· != 46)).length
theorem takeWhile_no {l r : List UInt8} (h : ∀ b ∈ l, b ≠ 46) : (l ++ 46 :: r).takeWhile (· != 46) = l := by
  induction l with
  | nil => simp
  | cons a l ih =>
    have ha := h a (by simp)
    rw [List.cons_append, List.takeWhile_cons, ih (fun b hb => h b (by simp [hb]))]
    simp [ha]
theorem tail46_at (l r : List UInt8) (h : ∀ b ∈ r, b ≠ 46) : tail46 (l ++ 46 :: r) = r.length := by
  unfold tail46
  rw [List.reverse_append, List.reverse_cons, List.append_assoc]
  show ((r.reverse ++ 46 :: l.reverse).takeWhile _).length = _
  rw [takeWhile_no (fun b hb => h b (by simpa using hb)), List.length_reverse]
/-- Sixteen bytes stand behind a text's point. -/
theorem txt_tail (x : Int) (hx : My x) : tail46 (txt x) = 16 := by
  obtain ⟨p, l, r, e, _, _, hr, _, h⟩ := txt_form x hx
  rw [e, tail46_at _ _ (fun b hb => (h b hb).2), hr]
theorem hexb_byte : ∀ x : Nat, x < 16 → hexb x ≠ 43 ∧ hexb x ≠ 32 ∧ hexb x ≠ 120 ∧ hexb x ≠ 44 ∧ hexb x ≠ 65 := by decide
theorem hexB_byte (w n : Nat) (b : UInt8) (h : b ∈ hexB w n) : b ≠ 43 ∧ b ≠ 32 ∧ b ≠ 120 ∧ b ≠ 44 ∧ b ≠ 65 := by
  induction n with
  | zero => simp [hexB] at h
  | succ n ih =>
    rcases List.mem_cons.1 h with rfl | h
    · exact hexb_byte _ (Nat.mod_lt _ (by decide))
    · exact ih h
/-- No text has a plus, a blank, an x or a comma. -/
theorem txt_byte (x : Int) (b : UInt8) (h : b ∈ txt x) : b ≠ 43 ∧ b ≠ 32 ∧ b ≠ 120 ∧ b ≠ 44 ∧ b ≠ 65 := by
  unfold txt at h
  simp only [List.mem_append] at h
  rcases h with ((h | h) | h) | h
  · split at h
    · simp at h; subst h; decide
    · simp at h
  · exact hexB_byte _ _ b h
  · simp at h; subst h; decide
  · exact hexB_byte _ _ b h
theorem no_byte (s : List UInt8) (b : UInt8) (hb : b = 43 ∨ b = 32 ∨ b = 120 ∨ b = 44 ∨ b = 65) (h : b ∈ s) : ∀ x, My x → s ≠ txt x := by
  intro x _ e
  rw [e] at h
  have := txt_byte x b h
  rcases hb with rfl | rfl | rfl | rfl | rfl <;> simp at this
theorem no_tail (s : List UInt8) (h : tail46 s ≠ 16) : ∀ x, My x → s ≠ txt x := by
  intro x hx e
  rw [e] at h
  exact h (txt_tail x hx)
/-- A written-out string: what it reads as has another text. -/
theorem no_const (s : List UInt8) (h : (txtF (pnum s) == s) = false) : ∀ x, My x → s ≠ txt x := by
  intro x hx e
  rw [(parse_is s).2 ⟨x, hx, e⟩] at h
  exact absurd h (by decide)
theorem no_num (s : List UInt8) (v : Int) (h : pnum s = v) (hv : ¬ My v) : ∀ x, My x → s ≠ txt x := by
  intro x hx e
  rw [e, pnum_txt x hx] at h
  rw [h] at hx
  exact hv hx
theorem txt_zero : txt 0 = 48 :: 46 :: List.replicate 16 48 := by
  rw [txt_pos 0 0 0 (by decide) (by decide) (by decide), hexc_1 0 (by decide)]
  decide
theorem no_minus : ∀ x, My x → ([45, 48, 46, 48, 48, 48, 48, 48, 48, 48, 48, 48, 48, 48, 48, 48, 48, 48, 48] : List UInt8) ≠ txt x := by
  intro x hx e
  have h : pnum [45, 48, 46, 48, 48, 48, 48, 48, 48, 48, 48, 48, 48, 48, 48, 48, 48, 48, 48] = 0 := by decide
  rw [e, pnum_txt x hx] at h
  rw [h, txt_zero] at e
  exact absurd e (by decide)
theorem not_my_top : ¬ My (-170141183460469231731687303715884105728) := by unfold My; omega
theorem no_top : ∀ x, My x → ([56, 48, 48, 48, 48, 48, 48, 48, 48, 48, 48, 48, 48, 48, 48, 48, 46, 48, 48, 48, 48, 48, 48, 48, 48, 48, 48, 48, 48, 48, 48, 48, 48] : List UInt8) ≠ txt x :=
  no_num _ (-170141183460469231731687303715884105728) (by decide) not_my_top
theorem no_nil : ∀ x, My x → ([] : List UInt8) ≠ txt x := no_tail _ (by decide)
theorem no_sign : ∀ x, My x → ([45] : List UInt8) ≠ txt x := no_tail _ (by decide)
theorem no_dot : ∀ x, My x → ([46] : List UInt8) ≠ txt x := no_tail _ (by decide)
theorem no_upper : ∀ x, My x → ([65, 46, 48, 48, 48, 48, 48, 48, 48, 48, 48, 48, 48, 48, 48, 48, 48, 48] : List UInt8) ≠ txt x := no_byte _ 65 (by simp) (by simp)
theorem tail46_none (l : List UInt8) (h : ∀ b ∈ l, b ≠ 46) : tail46 l = l.length := by
  unfold tail46
  have e : l.reverse.takeWhile (· != 46) = l.reverse := by
    have h2 : ∀ b ∈ l.reverse, b ≠ 46 := fun b hb => h b (by simpa using hb)
    generalize l.reverse = m at *
    induction m with
    | nil => rfl
    | cons a m ih =>
      have ha := h2 a (by simp)
      rw [List.takeWhile_cons, ih (fun b hb => h2 b (by simp [hb]))]
      simp [ha]
  rw [e, List.length_reverse]
/-- A text as what stands ahead of its point and what stands behind it. -/
theorem txt_cut (x : Int) (hx : My x) : ∃ (l r : List UInt8), txt x = l ++ 46 :: r ∧ 0 < l.length ∧ r.length = 16 ∧ (∀ b ∈ l, b ≠ 46) ∧ (∀ b ∈ r, b ≠ 46) := by
  obtain ⟨p, l, r, e, hp, hl, hr, h1, h2⟩ := txt_form x hx
  refine ⟨p ++ l, r, e, ?_, hr, fun b hb => ?_, fun b hb => (h2 b hb).2⟩
  · have := List.length_pos_iff.2 hl; simp; omega
  · rcases List.mem_append.1 hb with hb | hb
    · rcases hp with rfl | rfl
      · simp at hb
      · simp at hb; subst hb; decide
    · exact (h1 b hb).2
/-- A text without its last digit; without its point. -/
theorem no_last (y : Int) (hy : My y) : ∀ x, My x → (txt y).take ((txt y).length - 1) ≠ txt x := by
  refine no_tail _ ?_
  obtain ⟨l, r, e, _, hr, _, h⟩ := txt_cut y hy
  have e2 : (txt y).take ((txt y).length - 1) = l ++ 46 :: r.take 15 := by
    rw [e, List.take_append, List.take_of_length_le (by simp)]
    congr 1
    rw [show (l ++ 46 :: r).length - 1 - l.length = 15 + 1 by simp; omega]
    rfl
  rw [e2, tail46_at _ _ (fun b hb => h b (List.mem_of_mem_take hb)), List.length_take, hr]
  decide
theorem no_point (y : Int) (hy : My y) : ∀ x, My x → (txt y).take ((txt y).length - 17) ++ (txt y).drop ((txt y).length - 16) ≠ txt x := by
  refine no_tail _ ?_
  obtain ⟨l, r, e, hl, hr, h1, h2⟩ := txt_cut y hy
  have e2 : (txt y).take ((txt y).length - 17) ++ (txt y).drop ((txt y).length - 16) = l ++ r := by
    rw [e, show (l ++ 46 :: r).length - 17 = l.length by simp; omega, show (l ++ 46 :: r).length - 16 = l.length + 1 by simp; omega, List.take_left' rfl, List.drop_append]
    simp
  rw [e2, tail46_none _ (fun b hb => by rcases List.mem_append.1 hb with hb | hb; exact h1 b hb; exact h2 b hb), List.length_append]
  omega
theorem txt_size (y : Int) (hy : My y) : 18 ≤ (txt y).length := by
  obtain ⟨l, r, e, hl, hr, _, _⟩ := txt_cut y hy
  rw [e]; simp; omega
end Go.Proofs.Ytgiamnehncbihaa
