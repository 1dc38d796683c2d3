/- Lists by numbers whose keys a word turns. -/
import Derived.Test.YtnedljclkhpdpaaSortMake
import Derived.Test.YtnedljclkhpdpaaSortIds
import Derived.Laws.Bits64
namespace Go.Proofs.Ytnedljclkhpdpaa
open Go.RowKit
/-- One of the list, as the law turns it. -/
def xk (H : Nat) (x : Nat × Int) : Nat × Int := (x.1 ^^^ H, x.2)
theorem xk_at {H i : Nat} {L : List (Nat × Int)} {x : Nat × Int} (hx : L[i]? = some x) : ((L.take i).map (xk H) ++ L.drop i)[i]? = some x := by
  have hl := List.getElem?_eq_some_iff.1 hx
  have h1 := hl.1
  rw [List.getElem?_append_right (by simp; omega)]
  simp only [List.length_map, List.length_take, List.getElem?_drop]
  rw [show i + (i - min i L.length) = i by omega]; exact hx
theorem xk_set {H i : Nat} {L : List (Nat × Int)} {x : Nat × Int} (hx : L[i]? = some x) : ((L.take i).map (xk H) ++ L.drop i).set i (xk H x) = (L.take (i + 1)).map (xk H) ++ L.drop (i + 1) := by
  have hl := List.getElem?_eq_some_iff.1 hx
  have h1 := hl.1
  have e : L.drop i = x :: L.drop (i + 1) := by rw [List.drop_eq_getElem_cons hl.1, hl.2]
  rw [take_snoc_at hx, e, List.map_append, List.set_append_right _ _ (by simp; omega)]
  simp only [List.length_map, List.length_take]
  rw [show i - min i L.length = 0 by omega]
  simp
/-- The list while it is turned, nil let in. -/
def Xm (w : World) (A : Option Addr) (b c i H : Nat) (L : List (Nat × Int)) (W : World) : Prop :=
  ((A = none ∧ b = 0) ∨ ∃ g, A = some ⟨g, 0, none⟩ ∧ w.heap.size ≤ g ∧ Kr W g c ((L.take i).map (xk H) ++ L.drop i)) ∧ L.length = b ∧ Below w.heap.size w W
theorem Xm.start {w W : World} {A : Option Addr} {b c H : Nat} {L : List (Nat × Int)} (h : W.ownsRow w.heap.size 36 2 (.slice A b c) b (flat L)) (hb : Below w.heap.size w W) : Xm w A b c 0 H L W := by
  have hl : L.length = b := by have := h.1; rw [flat_len] at this; omega
  refine ⟨?_, hl, hb⟩
  by_cases hv : Value.slice A b c = .slice none 0 0
  · simp only [Value.slice.injEq] at hv; exact Or.inl ⟨hv.1, hv.2.1⟩
  · obtain ⟨g, cap, e, hg, _, _, hK⟩ := Kr.of_own h hv
    simp only [Value.slice.injEq, true_and] at e
    obtain ⟨rfl, rfl⟩ := e
    exact Or.inr ⟨g, rfl, hg, by simpa using hK⟩
theorem Xm.step {w : World} {g b cap i H : Nat} {L : List (Nat × Int)} {W : World} (h : Xm w (some ⟨g, 0, none⟩) b cap i H L W) {x : Nat × Int} (hx : L[i]? = some x) :
    Xm w (some ⟨g, 0, none⟩) b cap (i + 1) H L (W.setCell ⟨g, i * 2, none⟩ (.int .u64 ((x.1 ^^^ H : Nat) : Int))) := by
  obtain ⟨h1, h2, h3⟩ := h
  rcases h1 with ⟨e, _⟩ | ⟨g', e, hg, hK⟩
  · cases e
  · obtain rfl : g = g' := by simpa using e
    refine ⟨Or.inr ⟨g, rfl, hg, ?_⟩, h2, Below.setCell h3 hg _⟩
    have k := hK.putK (xk_at (H := H) hx) (x.1 ^^^ H)
    rw [← xk_set hx]; exact k
theorem Xm.done {w W : World} {A : Option Addr} {b c H : Nat} {L : List (Nat × Int)} (h : Xm w A b c b H L W) : Ks W A b (L.map (xk H)) := by
  obtain ⟨h1, h2, h3⟩ := h
  rcases h1 with ⟨rfl, rfl⟩ | ⟨g, rfl, hg, hK⟩
  · rw [List.length_eq_zero_iff.1 h2]; exact ⟨rfl, fun h => by omega⟩
  · rw [List.take_of_length_le (by omega), List.drop_of_length_le (by omega), List.append_nil] at hK
    have := hK.slice
    rw [List.length_map, h2] at this; exact this
theorem xk_64 {H : Nat} (hH : H < 18446744073709551616) {L : List (Nat × Int)} (h : Ok64 L) : Ok64 (L.map (xk H)) := fun x hx => by
  obtain ⟨y, hy, rfl⟩ := List.mem_map.1 hx
  exact Nat.xor_lt_two_pow (n := 64) (h y hy) hH
end Go.Proofs.Ytnedljclkhpdpaa
