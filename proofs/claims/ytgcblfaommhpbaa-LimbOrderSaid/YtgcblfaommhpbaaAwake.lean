/- The examples that every statement looks at. -/
import Derived.Test.YtgcblfaommhpbaaSqrt
namespace Go.Proofs.Ytgcblfaommhpbaa
open Go.RowKit

theorem div_17_5 (w : World) : Calls Try.prog 14 #[.agg #[.int .u64 0, .int .u64 0, .int .u64 0, .int .u64 17], .agg #[.int .u64 0, .int .u64 5]] w fun e w' =>
    e = .returned (.tuple #[.agg #[.int .u64 0, .int .u64 0, .int .u64 0, .int .u64 3], .agg #[.int .u64 0, .int .u64 2], .bool true]) ∧ Below w.heap.size w w' := by
  have hz : Wd (0 : Int) := ⟨by decide, by decide⟩
  have h := div_any 0 0 0 17 0 5 hz hz hz ⟨by decide, by decide⟩ hz ⟨by decide, by decide⟩ (by decide) w
  rw [show v4 0 0 0 17 / v2 0 5 = 3 by decide, show v4 0 0 0 17 % v2 0 5 = 2 by decide] at h
  rw [show wd 3 3 = 0 by decide, show wd 3 2 = 0 by decide, show wd 3 1 = 0 by decide, show wd 3 0 = 3 by decide, show wd 2 1 = 0 by decide, show wd 2 0 = 2 by decide] at h
  exact h
theorem sqrt_99 (w : World) : Calls Try.prog 27 #[.agg #[.int .u64 0, .int .u64 0, .int .u64 0, .int .u64 99]] w fun e w' =>
    e = .returned (.agg #[.int .u64 0, .int .u64 9]) ∧ Below w.heap.size w w' := by
  have h := sqrt_small 99 ⟨by decide, by decide⟩ w
  rw [show isq (99 : Int).toNat = 9 from isq_of (by decide) (by decide)] at h
  exact h
theorem awake_true (w : World) : Calls Try.prog 18 #[] w fun e w' => e = .returned (.bool true) ∧ Below w.heap.size w w' := by
  go_enter Try.func18, Try.ntmps18
  go_wp2_with fail
  refine (div_17_5 _).mono ?_
  rintro e w1 ⟨rfl, hb⟩
  have HB := Lib.hid hb
  clear hb
  go_wp2_with fail
  refine (sqrt_99 _).mono ?_
  rintro e w2 ⟨rfl, hb⟩
  have hB : Below w1.heap.size w1 w2 := bl_trans (by repeat (first | exact Below.refl _ _ | with_reducible refine bl_al ?_ _ | with_reducible apply Below.drew)) hb
  have HB2 := Lib.hid (bl_trans HB.out hB)
  have c0 : w2.cell? ⟨w1.heap.size, 3, none⟩ = some (.int .u64 3) := by rw [(bcell hb).1 _ _ (by simp; omega)]; simp [go_sem]
  have c1 : w2.cell? ⟨w1.heap.size + 1, 1, none⟩ = some (.int .u64 2) := by rw [(bcell hb).1 _ _ (by simp)]; simp [go_sem]
  clear hb hB
  go_wp2_with fail
  go_returns
  exact ⟨rfl, HB2.out⟩
end Go.Proofs.Ytgcblfaommhpbaa
