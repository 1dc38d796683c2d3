/- PairNone, from what the program's Pull comes to. -/
import Derived.Test.YtmmlekgojblopaaPairEnd3
import Derived.Test.YtmmlekgojblopaaPairNoneW
namespace Go.Proofs.Ytmmlekgojblopaa
open Go.RowKit
theorem pairNone_any (C : PulT) (a b d wh : Int) (a1 : 0 ≤ a) (a2 : a < 65536) (b1 : 0 ≤ b) (b2 : b < 65536) (d1 : 0 ≤ d) (d2 : d < 65536) (w1 : 0 ≤ wh) (w2 : wh < 256) (w : World) :
    Calls Try.prog 6 #[.int .u16 a, .int .u16 b, .int .u16 d, .int .u8 wh] w fun e w' => e = .returned (.bool true) ∧ Below w.heap.size w w' := by
  obtain ⟨A, eA⟩ := Int.eq_ofNat_of_zero_le a1
  obtain ⟨B, eB⟩ := Int.eq_ofNat_of_zero_le b1
  obtain ⟨D, eD⟩ := Int.eq_ofNat_of_zero_le (show 0 ≤ 1 + d by omega)
  have i1 := rint_any 1; have iA := rint_any a; have iB := rint_any b; have iD := rint_any (1 + d)
  rw [show (1 : Int) = ((1 : Nat) : Int) from rfl, intr_nat 1 (by decide)] at i1
  rw [show intr a = ((A * 18446744073709551616 : Nat) : Int) by rw [eA]; exact intr_nat A (by omega)] at iA
  rw [show intr b = ((B * 18446744073709551616 : Nat) : Int) by rw [eB]; exact intr_nat B (by omega)] at iB
  rw [show intr (1 + d) = ((D * 18446744073709551616 : Nat) : Int) by rw [eD]; exact intr_nat D (by omega)] at iD
  have hA : A ≤ 65535 := by omega
  have hB : B ≤ 65535 := by omega
  have hD : D ≤ 65536 := by omega
  -- nothing, where one of them is nought
  have p1 : ∀ G X Y H : Nat, G ≤ 1 → X ≤ 65535 → Y ≤ 65535 → H ≤ 1 → G * (X * Y) * H = 0 → ∀ W, _ := fun G X Y H hG hX hY hH hz W => by
    have k := line_pull C (G := G) (A := X) (B := Y) (D := D) (e := 1) (H := H) hG hX hY hH hD (by decide) (by omega) W
    rw [hz, kk_zero (by omega), Nat.mul_zero, show ((0 : Nat) : Int) = 0 from rfl, zero_words.1, zero_words.2] at k
    exact k
  have p2 := line_pull C (G := 1) (A := A) (B := B) (D := 0) (e := 1) (H := 1) (by decide) hA hB (by decide) (by decide) (by decide) (by decide)
  rw [Nat.zero_mul, Nat.zero_mul, show ((0 : Nat) : Int) = 0 from rfl, zero_words.1, zero_words.2] at p2
  have z : ((0 * 18446744073709551616 : Nat) : Int) = 0 := by decide
  have F := fun mh ml ph pl qh ql th tl c5 hs => pairNone_core a b d wh _ _ _ _ _ _ _ _ mh ml ph pl qh ql th tl ⟨a1, a2⟩ ⟨b1, b2⟩ ⟨d1, d2⟩ ⟨w1, w2⟩ hs w i1 iA iB iD c5 p2 (num_any 0) (pawake_any C)
  have h4 : wh % 4 = 0 ∨ wh % 4 = 1 ∨ wh % 4 = 2 ∨ wh % 4 = 3 := by omega
  rcases h4 with h | h | h | h
  · have c := p1 1 0 B 1 (by decide) (by decide) hB (by decide) (by simp)
    rw [z] at c; simp only [fxv, zero_words.1, zero_words.2] at c
    exact F _ _ _ _ _ _ _ _ c (Or.inl ⟨h, rfl, rfl, rfl, rfl, rfl, rfl, rfl, rfl⟩)
  · have c := p1 1 A 0 1 (by decide) hA (by decide) (by decide) (by simp)
    rw [z] at c; simp only [fxv, zero_words.1, zero_words.2] at c
    exact F _ _ _ _ _ _ _ _ c (Or.inr (Or.inl ⟨h, rfl, rfl, rfl, rfl, rfl, rfl, rfl, rfl⟩))
  · have c := p1 0 A B 1 (by decide) hA hB (by decide) (by simp)
    rw [z] at c; simp only [fxv, zero_words.1, zero_words.2] at c
    exact F _ _ _ _ _ _ _ _ c (Or.inr (Or.inr (Or.inl ⟨h, rfl, rfl, rfl, rfl, rfl, rfl, rfl, rfl⟩)))
  · have c := p1 1 A B 0 (by decide) hA hB (by decide) (by simp)
    rw [z] at c; simp only [fxv, zero_words.1, zero_words.2] at c
    exact F _ _ _ _ _ _ _ _ c (Or.inr (Or.inr (Or.inr ⟨h, rfl, rfl, rfl, rfl, rfl, rfl, rfl, rfl⟩)))
end Go.Proofs.Ytmmlekgojblopaa
