/- The document's product of two words. -/
import Derived.Test.YtmelipbanbihdaaMulAny
import Derived.Test.YtmelipbanbihdaaLaw
import Derived.Handy
namespace Go.Proofs.Ytmelipbanbihdaa
open Go.RowKit

set_option maxRecDepth 20000 in
set_option maxHeartbeats 4000000 in
theorem product_core (a b x0 x1 y0 y1 l m1 l1 X m2 X0 Y m3 Xh h Yh H S l0 L : Int) (e1 : bits .and .u64 a 4294967295 = x0) (e2 : a / 4294967296 = x1) (e3 : bits .and .u64 b 4294967295 = y0) (e4 : b / 4294967296 = y1) (e5 : IntKind.u64.wrap (x0 * y0) = l) (e6 : IntKind.u64.wrap (x1 * y0) = m1) (e7 : l / 4294967296 = l1) (e8 : IntKind.u64.wrap (m1 + l1) = X) (e9 : IntKind.u64.wrap (x0 * y1) = m2) (e10 : bits .and .u64 X 4294967295 = X0) (e11 : IntKind.u64.wrap (m2 + X0) = Y) (e12 : IntKind.u64.wrap (x1 * y1) = m3) (e13 : X / 4294967296 = Xh) (e14 : IntKind.u64.wrap (m3 + Xh) = h) (e15 : Y / 4294967296 = Yh) (e16 : IntKind.u64.wrap (h + Yh) = H) (e17 : IntKind.u64.wrap (Y * 4294967296) = S) (e18 : bits .and .u64 l 4294967295 = l0) (e19 : bits .or .u64 S l0 = L) (w : World) :
    Calls Try.prog 57 #[.int .u64 a, .int .u64 b] w fun e w' => e = .returned (.agg #[.int .u64 H, .int .u64 L]) ∧ Below w.heap.size w w' := by
  go_enter Try.func57, Try.ntmps57
  go_wp2_with fail
  go_returns
  exact ⟨rfl, by repeat (first | with_reducible exact Below.refl _ _ | with_reducible exact Hid.out (by assumption) | with_reducible refine Below.setCell ?_ (by first | (simp; done) | omega | (simp <;> omega)) _ | with_reducible refine bl_al ?_ _ | with_reducible apply Below.drew)⟩
theorem u64_low (x : Int) (h : Wd x) : bits .and .u64 x 4294967295 = x % 4294967296 := bits_mask .u64 64 (by decide) (fun n h0 h1 => IntWalk.u64_in n (by omega)) 32 (by decide) x h.1 h.2
theorem prod_nat {a0 a1 b0 b1 : Nat} (h0 : a0 < 4294967296) (h1 : a1 < 4294967296) (h2 : b0 < 4294967296) (h3 : b1 < 4294967296) :
    (a1 * 4294967296 + a0) * (b1 * 4294967296 + b0) = a1 * b1 * 18446744073709551616 + (a1 * b0 + a0 * b1) * 4294967296 + a0 * b0 ∧ a0 * b0 ≤ 18446744065119617025 ∧ a1 * b0 ≤ 18446744065119617025 ∧ a0 * b1 ≤ 18446744065119617025 ∧ a1 * b1 ≤ 18446744065119617025 := by
  have k : ∀ {x y : Nat}, x < 4294967296 → y < 4294967296 → x * y ≤ 18446744065119617025 := fun hx hy => Nat.le_trans (Nat.mul_le_mul (show _ ≤ 4294967295 by omega) (show _ ≤ 4294967295 by omega)) (by decide)
  refine ⟨?_, k h0 h2, k h1 h2, k h0 h3, k h1 h3⟩
  rw [Nat.add_mul, Nat.mul_add, Nat.mul_add, Nat.add_mul, Nat.mul_right_comm a1 4294967296 (b1 * 4294967296), ← Nat.mul_assoc a1 b1, Nat.mul_assoc (a1 * b1), Nat.mul_right_comm a1 4294967296 b0, ← Nat.mul_assoc a0 b1]
  omega
theorem product_any (a b : Int) (ha : Wd a) (hb : Wd b) (w : World) :
    Calls Try.prog 57 #[.int .u64 a, .int .u64 b] w fun e w' => e = .returned (.agg #[.int .u64 (wd (a.toNat * b.toNat) 1), .int .u64 (wd (a.toNat * b.toNat) 0)]) ∧ Below w.heap.size w w' := by
  obtain ⟨A, rfl⟩ := Int.eq_ofNat_of_zero_le ha.1
  obtain ⟨B, rfl⟩ := Int.eq_ofNat_of_zero_le hb.1
  have hA := ha.2; have hB := hb.2
  rw [Int.toNat_natCast, Int.toNat_natCast]
  have hp := prod_nat (a0 := A % 4294967296) (a1 := A / 4294967296) (b0 := B % 4294967296) (b1 := B / 4294967296) (by omega) (by omega) (by omega) (by omega)
  rw [show A / 4294967296 * 4294967296 + A % 4294967296 = A by omega, show B / 4294967296 * 4294967296 + B % 4294967296 = B by omega] at hp
  obtain ⟨hs, b00, b10, b01, b11⟩ := hp
  have c00 : ((A : Int) % 4294967296) * ((B : Int) % 4294967296) = ((A % 4294967296 * (B % 4294967296) : Nat) : Int) := by simp
  have c10 : ((A : Int) / 4294967296) * ((B : Int) % 4294967296) = ((A / 4294967296 * (B % 4294967296) : Nat) : Int) := by simp
  have c01 : ((A : Int) % 4294967296) * ((B : Int) / 4294967296) = ((A % 4294967296 * (B / 4294967296) : Nat) : Int) := by simp
  have c11 : ((A : Int) / 4294967296) * ((B : Int) / 4294967296) = ((A / 4294967296 * (B / 4294967296) : Nat) : Int) := by simp
  generalize A % 4294967296 * (B % 4294967296) = p00 at *
  generalize A / 4294967296 * (B % 4294967296) = p10 at *
  generalize A % 4294967296 * (B / 4294967296) = p01 at *
  generalize A / 4294967296 * (B / 4294967296) = p11 at *
  have W : ∀ n : Nat, n < 18446744073709551616 → IntKind.u64.wrap (n : Int) = n := fun n hn => IntWalk.u64_in _ (by omega)
  have L : ∀ n : Nat, n < 18446744073709551616 → bits .and .u64 (n : Int) 4294967295 = ((n % 4294967296 : Nat) : Int) := fun n hn => by rw [u64_low _ ⟨by omega, by omega⟩]; omega
  have o1 : wd (A * B) 1 = ((p11 + (p10 + p00 / 4294967296) / 4294967296 + (p01 + (p10 + p00 / 4294967296) % 4294967296) / 4294967296 : Nat) : Int) := by rw [wd1, hs]; omega
  have o0 : wd (A * B) 0 = (((p01 + (p10 + p00 / 4294967296) % 4294967296) % 4294967296 * 4294967296 + p00 % 4294967296 : Nat) : Int) := by rw [wd0, hs]; omega
  rw [o1, o0]
  refine product_core _ _ ((A : Int) % 4294967296) ((A : Int) / 4294967296) ((B : Int) % 4294967296) ((B : Int) / 4294967296) p00 p10 ((p00 / 4294967296 : Nat) : Int) ((p10 + p00 / 4294967296 : Nat) : Int) p01 (((p10 + p00 / 4294967296) % 4294967296 : Nat) : Int) ((p01 + (p10 + p00 / 4294967296) % 4294967296 : Nat) : Int) p11 (((p10 + p00 / 4294967296) / 4294967296 : Nat) : Int) ((p11 + (p10 + p00 / 4294967296) / 4294967296 : Nat) : Int) (((p01 + (p10 + p00 / 4294967296) % 4294967296) / 4294967296 : Nat) : Int) _ (((p01 + (p10 + p00 / 4294967296) % 4294967296) % 4294967296 * 4294967296 : Nat) : Int) ((p00 % 4294967296 : Nat) : Int) _ ?_ rfl ?_ rfl ?_ ?_ ?_ ?_ ?_ ?_ ?_ ?_ ?_ ?_ ?_ ?_ ?_ ?_ ?_ w
  · exact u64_low _ ha
  · exact u64_low _ hb
  · rw [c00]; exact W _ (by omega)
  · rw [c10]; exact W _ (by omega)
  · omega
  · rw [← Int.natCast_add]; exact W _ (by omega)
  · rw [c01]; exact W _ (by omega)
  · exact L _ (by omega)
  · rw [← Int.natCast_add]; exact W _ (by omega)
  · rw [c11]; exact W _ (by omega)
  · omega
  · rw [← Int.natCast_add]; exact W _ (by omega)
  · omega
  · rw [← Int.natCast_add]; exact W _ (by omega)
  · rw [wrap_u64]; generalize p01 + (p10 + p00 / 4294967296) % 4294967296 = Y; omega
  · exact L _ (by omega)
  · have j := bits_join .u64 64 (by decide) (fun n h0 h1 => IntWalk.u64_in n (by omega)) 32 (((p01 + (p10 + p00 / 4294967296) % 4294967296) % 4294967296 * 4294967296 : Nat) : Int) ((p00 % 4294967296 : Nat) : Int) (by omega) (by omega) (by omega) (by omega) (by omega) (by omega)
    rw [Int.natCast_add]; exact j
end Go.Proofs.Ytmelipbanbihdaa
