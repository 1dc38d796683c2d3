/- For the statements' walks: variables that lie in memory, behind a call. -/
import Derived.Test.YtmelipbanbihdaaOpen
namespace Go.Proofs.Ytmelipbanbihdaa
open Go.RowKit

/-- Block B holds these cells, one behind the other. -/
def Has (B : Nat) (l : List Value) (W : World) : Prop := B < W.heap.size ∧ ∀ (j : Nat) (x : Value), l[j]? = some x → W.cell? ⟨B, j, none⟩ = some x
theorem Has.step {B : Nat} {l : List Value} {W W' : World} (h : Has B l W) (g : Below W.heap.size W W') : Has B l W' :=
  ⟨Nat.lt_of_lt_of_le h.1 g.size, fun j x hx => by rw [(bcell g).1 _ _ h.1]; exact h.2 j x hx⟩
theorem Has.up {B : Nat} {l : List Value} {w0 W W' : World} (h : Has B l w0) (g : Below w0.heap.size w0 W) (k : Below W.heap.size W W') : Has B l W' := (h.step g).step k
theorem Has.mk2 {B : Nat} {x y : Value} {W : World} (h : B < W.heap.size) (h0 : W.cell? ⟨B, 0, none⟩ = some x) (h1 : W.cell? ⟨B, 1, none⟩ = some y) : Has B [x, y] W := by
  refine ⟨h, fun j v hv => ?_⟩
  match j, hv with
  | 0, hv => simp at hv; subst hv; exact h0
  | 1, hv => simp at hv; subst hv; exact h1
theorem Has.mk4 {B : Nat} {x y z t : Value} {W : World} (h : B < W.heap.size) (h0 : W.cell? ⟨B, 0, none⟩ = some x) (h1 : W.cell? ⟨B, 1, none⟩ = some y) (h2 : W.cell? ⟨B, 2, none⟩ = some z) (h3 : W.cell? ⟨B, 3, none⟩ = some t) : Has B [x, y, z, t] W := by
  refine ⟨h, fun j v hv => ?_⟩
  match j, hv with
  | 0, hv => simp at hv; subst hv; exact h0
  | 1, hv => simp at hv; subst hv; exact h1
  | 2, hv => simp at hv; subst hv; exact h2
  | 3, hv => simp at hv; subst hv; exact h3
theorem back_wd1 {a b : Nat} (_ : a < 340282366920938463463374607431768211456) (hb : b < 340282366920938463463374607431768211456) : wd ((a + b) % 340282366920938463463374607431768211456 + (340282366920938463463374607431768211456 - b)) 1 = wd a 1 := by
  rw [wd1, wd1]; omega
theorem back_wd0 {a b : Nat} (_ : a < 340282366920938463463374607431768211456) (hb : b < 340282366920938463463374607431768211456) : wd ((a + b) % 340282366920938463463374607431768211456 + (340282366920938463463374607431768211456 - b)) 0 = wd a 0 := by
  rw [wd0, wd0]; omega
end Go.Proofs.Ytmelipbanbihdaa
