/- MassWhole, from what Centre comes to. -/
import Derived.Test.YtjilnmpajhifcaaMassWholeC
import Derived.Test.YtjilnmpajhifcaaMassRef
import Derived.Test.YtjilnmpajhifcaaZzFixA
namespace Go.Proofs.Ytjilnmpajhifcaa
open Go.RowKit
theorem mid_two {f : Bod → Int} {X Y : Bod} {K : Nat} (hK : 0 < K) (hX : X.m = (K : Int) * 18446744073709551616) (hY : Y.m = (K : Int) * 18446744073709551616) : mid f [X, Y] = halfr (f X + f Y) := by
  have e1 : sM [X, Y] = ((2 * K : Nat) : Int) * 18446744073709551616 := by show X.m + (Y.m + 0) = _; rw [hX, hY]; omega
  have e2 : sD f [X, Y] = (K : Int) * (f X + f Y) := by
    show mulr X.m (f X) + (mulr Y.m (f Y) + 0) = _
    rw [hX, hY, mulr_whole (by omega), mulr_whole (by omega), Int.mul_add]; omega
  unfold mid
  rw [e1, e2, divr_two hK]
theorem massWhole_any (C : CenT) (CN : CenNT) (m a b c d : Int) (m0 : 0 ≤ m) (m1 : m < 256) (a0 : -32768 ≤ a) (a1 : a < 32768) (b0 : -32768 ≤ b) (b1 : b < 32768) (c0 : -32768 ≤ c) (c1 : c < 32768) (d0 : -32768 ≤ d) (d1 : d < 32768) (w : World) :
    Calls Try.prog 4 #[.int .u8 m, .int .i16 a, .int .i16 b, .int .i16 c, .int .i16 d] w fun e w' => e = .returned (.bool true) ∧ Below w.heap.size w w' := by
  obtain ⟨K, hK⟩ : ∃ K : Nat, (K : Int) = 1 + m := ⟨(1 + m).toNat, by omega⟩
  have ek : intr (1 + m) = (K : Int) * 18446744073709551616 := by rw [intr_in (by omega), hK]
  have ea : intr a = a * 18446744073709551616 := intr_in (by omega)
  have eb : intr b = b * 18446744073709551616 := intr_in (by omega)
  have ec : intr c = c * 18446744073709551616 := intr_in (by omega)
  have ed : intr d = d * 18446744073709551616 := intr_in (by omega)
  have es : intr (a + c) = intr a + intr c := by rw [intr_in (by omega), ea, ec]; omega
  have et : intr (b + d) = intr b + intr d := by rw [intr_in (by omega), eb, ed]; omega
  obtain ⟨X, hX⟩ : ∃ X : Bod, X = ⟨intr (1 + m), 0, intr a, intr b, 0, 0, 0, 0, 0, 0, 0⟩ := ⟨_, rfl⟩
  obtain ⟨Y, hY⟩ : ∃ Y : Bod, Y = ⟨intr (1 + m), 0, intr c, intr d, 0, 0, 0, 0, 0, 0, 0⟩ := ⟨_, rfl⟩
  have xm : X.m = (K : Int) * 18446744073709551616 := by rw [hX]; exact ek
  have ym : Y.m = (K : Int) * 18446744073709551616 := by rw [hY]; exact ek
  have bX : Mb X := by rw [hX]; unfold Mb; dsimp only; omega
  have bY : Mb Y := by rw [hY]; unfold Mb; dsimp only; omega
  have k0 : 0 < K := by omega
  have px : mid Bod.x [X, Y] = halfr (intr (a + c)) := by rw [mid_two k0 xm ym, es, hX, hY]
  have py : mid Bod.y [X, Y] = halfr (intr (b + d)) := by rw [mid_two k0 xm ym, et, hX, hY]
  have ps : sM [X, Y] = intr (1 + m) + intr (1 + m) := by show X.m + (Y.m + 0) = _; rw [xm, ym, ek]; omega
  refine massWhole_core (num_any 0) (num_any 1) m a b c d m0 m1 a0 a1 b0 b1 c0 c1 d0 d1 _ _ _ _ _ (rint_any _) (rint_any _) (rint_any _) (rint_any _) (rint_any _) X Y hX hY (intr (1 + m) + intr (1 + m)) (halfr (intr (a + c))) (halfr (intr (b + d))) (intr (a + c)) (intr (b + d)) ?_ ?_ CN (rint_any _) (rint_any _)
    (rhalf_any _ (by rw [es]; unfold My; omega)) (rhalf_any _ (by rw [et]; unfold My; omega)) (radd_prog _ _ (by rw [ek]; unfold My; omega) (by rw [ek]; unfold My; omega) (by rw [ek]; unfold My; omega)) (mawake_any C (num_any 0)) w
  · intro A c' W h
    have k := C A 2 c' [X, Y] (by decide) (by decide) (fun z hz => by simp at hz; rcases hz with rfl | rfl <;> assumption) W h
    rw [ps, px, py] at k
    exact k
  · intro A c' W h
    have k := C A 1 c' [X] (by decide) (by decide) (fun z hz => by simp at hz; subst hz; exact bX) W h
    obtain ⟨q1, q2⟩ := mid_one (f := Bod.x) k0 xm
    obtain ⟨_, q3⟩ := mid_one (f := Bod.y) k0 xm
    rw [q1, q2, q3, hX] at k
    exact k
end Go.Proofs.Ytjilnmpajhifcaa
