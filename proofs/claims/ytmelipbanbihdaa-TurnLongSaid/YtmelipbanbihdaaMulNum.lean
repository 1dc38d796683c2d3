/- Products by halves: the arithmetic. No program here. -/
import Derived.Test.YtmelipbanbihdaaDivNum
namespace Go.Proofs.Ytmelipbanbihdaa

theorem half_prod {a b : Int} (ha : Hf a) (hb : Hf b) : 0 ≤ a * b ∧ a * b ≤ 18446744065119617025 := by
  obtain ⟨t0, t1⟩ := ha; obtain ⟨v0, v1⟩ := hb
  have p1 : 0 ≤ a * b := Int.mul_nonneg t0 v0
  have p2 : a * b ≤ a * 4294967295 := Int.mul_le_mul_of_nonneg_left (by omega) t0
  exact ⟨p1, by omega⟩
/-- One row of the product: what four halves, and what is carried, come to. -/
theorem row_sum {f g0 g1 g2 g3 p0 p1 p2 p3 r0 r1 r2 r3 o1 o2 o3 o4 : Int} (e0 : f * g0 + p0 = r0 + 4294967296 * o1) (e1 : f * g1 + p1 + o1 = r1 + 4294967296 * o2) (e2 : f * g2 + p2 + o2 = r2 + 4294967296 * o3) (e3 : f * g3 + p3 + o3 = r3 + 4294967296 * o4) :
    hv4 r0 r1 r2 r3 + o4 * 340282366920938463463374607431768211456 = hv4 p0 p1 p2 p3 + f * hv4 g0 g1 g2 g3 := by
  have e : f * hv4 g0 g1 g2 g3 = f * g0 + f * g1 * 4294967296 + f * g2 * 18446744073709551616 + f * g3 * 79228162514264337593543950336 := by
    unfold hv4; rw [Int.mul_add, Int.mul_add, Int.mul_add, Int.mul_assoc, Int.mul_assoc, Int.mul_assoc]
  rw [e]; unfold hv4; omega
/-- Four rows. -/
theorem rows_sum {x0 x1 x2 x3 Y r0 r1 r2 r3 r4 r5 r6 r7 a1 a2 a3 a4 b1 b2 b3 b4 c1 c2 c3 c4 : Int} (h0 : hv4 r0 a1 a2 a3 + a4 * 340282366920938463463374607431768211456 = hv4 0 0 0 0 + x0 * Y) (h1 : hv4 r1 b1 b2 b3 + b4 * 340282366920938463463374607431768211456 = hv4 a1 a2 a3 a4 + x1 * Y)
    (h2 : hv4 r2 c1 c2 c3 + c4 * 340282366920938463463374607431768211456 = hv4 b1 b2 b3 b4 + x2 * Y) (h3 : hv4 r3 r4 r5 r6 + r7 * 340282366920938463463374607431768211456 = hv4 c1 c2 c3 c4 + x3 * Y) :
    hv4 r0 r1 r2 r3 + hv4 r4 r5 r6 r7 * 340282366920938463463374607431768211456 = hv4 x0 x1 x2 x3 * Y := by
  have e : hv4 x0 x1 x2 x3 * Y = x0 * Y + x1 * Y * 4294967296 + x2 * Y * 18446744073709551616 + x3 * Y * 79228162514264337593543950336 := by
    unfold hv4; rw [Int.add_mul, Int.add_mul, Int.add_mul, Int.mul_right_comm, Int.mul_right_comm x2, Int.mul_right_comm x3]
  rw [e]
  generalize x0 * Y = p0 at *; generalize x1 * Y = p1 at *; generalize x2 * Y = p2 at *; generalize x3 * Y = p3 at *
  unfold hv4 at *; omega
theorem mul_words {r0 r1 r2 r3 r4 r5 r6 r7 : Int} (h0 : Hf r0) (h1 : Hf r1) (h2 : Hf r2) (h3 : Hf r3) (h4 : Hf r4) (h5 : Hf r5) (h6 : Hf r6) (h7 : Hf r7) {n : Nat} (e : hv4 r0 r1 r2 r3 + hv4 r4 r5 r6 r7 * 340282366920938463463374607431768211456 = (n : Int)) :
    r7 * 4294967296 + r6 = wd n 3 ∧ r5 * 4294967296 + r4 = wd n 2 ∧ r3 * 4294967296 + r2 = wd n 1 ∧ r1 * 4294967296 + r0 = wd n 0 := by
  obtain ⟨_, _⟩ := h0; obtain ⟨_, _⟩ := h1; obtain ⟨_, _⟩ := h2; obtain ⟨_, _⟩ := h3; obtain ⟨_, _⟩ := h4; obtain ⟨_, _⟩ := h5; obtain ⟨_, _⟩ := h6; obtain ⟨_, _⟩ := h7
  unfold hv4 at e
  rw [wd3, wd2, wd1, wd0]
  refine ⟨?_, ?_, ?_, ?_⟩ <;> omega
end Go.Proofs.Ytmelipbanbihdaa
