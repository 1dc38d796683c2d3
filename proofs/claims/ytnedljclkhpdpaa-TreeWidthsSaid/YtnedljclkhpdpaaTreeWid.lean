/- The document's Width. -/
import Derived.Test.YtnedljclkhpdpaaZzRefA
namespace Go.Proofs.Ytnedljclkhpdpaa
open Go.RowKit
/-- A level, within its bounds. -/
def wlev (z : Int) : Nat := if z < 0 then 0 else if 32 < z then 32 else z.toNat
def wid (z : Int) : Value := .agg #[.int .i64 ((2 ^ (32 - wlev z) : Nat) : Int), .int .u64 0]
set_option maxRecDepth 20000 in
set_option maxHeartbeats 8000000 in
theorem rwidth_0 (z : Int) (c : z ≤ 0) (w : World) (C1 : Ct 19 #[.int .i64 4294967296] (.agg #[.int .i64 4294967296, .int .u64 0])) :
    Calls Try.prog 16 #[.int .i64 z] w fun e w' => e = .returned (.agg #[.int .i64 4294967296, .int .u64 0]) ∧ Below w.heap.size w w' := by
  have K1 := Lib.hid C1
  clear C1
  have c1 : ¬ 32 < z := by omega
  have c2 : z < 32 := by omega
  have c3 : ¬ 0 < z := by omega
  go_enter Try.func16, Try.ntmps16
  go_wp2_with fail
  (with_reducible refine cm (K1.out _) fun w1 hclw1 hfrw1 hb => ?_); obtain ⟨zw1_a, yw1_a, yyw1_a⟩ := sz3 (B := w.heap.size) hb; have sxw1_0 := sz1 (b := w.heap.size + 1) hb; have HBw1 := hbw (a := w) hb; clear hb
  go_wp2_with fail
  refine bodyPost_ret (by simp [results, Try.results16, go_sem, *]; try rfl) rfl ?_
  exact ⟨rfl, bb⟩
set_option maxRecDepth 20000 in
set_option maxHeartbeats 8000000 in
theorem rwidth_2 (z : Int) (c : 32 < z) (w : World) (C1 : Ct 19 #[.int .i64 1] (.agg #[.int .i64 1, .int .u64 0])) :
    Calls Try.prog 16 #[.int .i64 z] w fun e w' => e = .returned (.agg #[.int .i64 1, .int .u64 0]) ∧ Below w.heap.size w w' := by
  have K1 := Lib.hid C1
  clear C1
  have c1 : ¬ z < 32 := by omega
  have c2 : ¬ z < 0 := by omega
  have c3 : 0 < z := by omega
  go_enter Try.func16, Try.ntmps16
  go_wp2_with fail
  (with_reducible refine cm (K1.out _) fun w1 hclw1 hfrw1 hb => ?_); obtain ⟨zw1_a, yw1_a, yyw1_a⟩ := sz3 (B := w.heap.size) hb; have sxw1_0 := sz1 (b := w.heap.size + 1) hb; have HBw1 := hbw (a := w) hb; clear hb
  go_wp2_with fail
  refine bodyPost_ret (by simp [results, Try.results16, go_sem, *]; try rfl) rfl ?_
  exact ⟨rfl, bb⟩
set_option maxRecDepth 20000 in
set_option maxHeartbeats 8000000 in
theorem rwidth_3 (z : Int) (c : z = 32) (w : World) (C1 : Ct 19 #[.int .i64 1] (.agg #[.int .i64 1, .int .u64 0])) :
    Calls Try.prog 16 #[.int .i64 z] w fun e w' => e = .returned (.agg #[.int .i64 1, .int .u64 0]) ∧ Below w.heap.size w w' := by
  have K1 := Lib.hid C1
  clear C1
  subst c
  go_enter Try.func16, Try.ntmps16
  go_wp2_with fail
  (with_reducible refine cm (K1.out _) fun w1 hclw1 hfrw1 hb => ?_); obtain ⟨zw1_a, yw1_a, yyw1_a⟩ := sz3 (B := w.heap.size) hb; have sxw1_0 := sz1 (b := w.heap.size + 1) hb; have HBw1 := hbw (a := w) hb; clear hb
  go_wp2_with fail
  refine bodyPost_ret (by simp [results, Try.results16, go_sem, *]; try rfl) rfl ?_
  exact ⟨rfl, bb⟩
set_option maxRecDepth 20000 in
set_option maxHeartbeats 8000000 in
theorem rwidth_1 (z n : Int) (j : Nat) (c : 0 < z) (d : z < 32) (e1 : IntKind.i64.wrap (32 - z) = (j : Int)) (e2 : (j : Int) < 64) (e4 : IntKind.i64.wrap (2 ^ j) = n) (w : World) (C1 : Ct 19 #[.int .i64 n] (.agg #[.int .i64 n, .int .u64 0])) :
    Calls Try.prog 16 #[.int .i64 z] w fun e w' => e = .returned (.agg #[.int .i64 n, .int .u64 0]) ∧ Below w.heap.size w w' := by
  have K1 := Lib.hid C1
  clear C1
  have c1 : ¬ z < 0 := by omega
  have c2 : ¬ 32 < z := by omega
  go_enter Try.func16, Try.ntmps16
  go_wp2_with fail
  (with_reducible refine cm (K1.out _) fun w1 hclw1 hfrw1 hb => ?_); obtain ⟨zw1_a, yw1_a, yyw1_a⟩ := sz3 (B := w.heap.size) hb; have sxw1_0 := sz1 (b := w.heap.size + 1) hb; have HBw1 := hbw (a := w) hb; clear hb
  go_wp2_with fail
  refine bodyPost_ret (by simp [results, Try.results16, go_sem, *]; try rfl) rfl ?_
  exact ⟨rfl, bb⟩
theorem rwidth_any (z : Int) (w : World) : Calls Try.prog 16 #[.int .i64 z] w fun e w' => e = .returned (wid z) ∧ Below w.heap.size w w' := by
  by_cases c0 : z ≤ 0
  · have e : wid z = .agg #[.int .i64 4294967296, .int .u64 0] := by
      have : wlev z = 0 := by unfold wlev; split; rfl; rw [if_neg (by omega)]; omega
      unfold wid; rw [this]; rfl
    rw [e]; exact rwidth_0 z c0 w (rint_hi _ (by omega))
  · by_cases c1 : 32 < z
    · have e : wid z = .agg #[.int .i64 1, .int .u64 0] := by
        have : wlev z = 32 := by unfold wlev; rw [if_neg (by omega), if_pos c1]
        unfold wid; rw [this]; rfl
      rw [e]; exact rwidth_2 z c1 w (rint_hi _ (by omega))
    · by_cases c2 : z = 32
      · have e : wid z = .agg #[.int .i64 1, .int .u64 0] := by subst c2; rfl
        rw [e]; exact rwidth_3 z c2 w (rint_hi _ (by omega))
      · have hl : wlev z = z.toNat := by unfold wlev; rw [if_neg (by omega), if_neg c1]
        have e1 : IntKind.i64.wrap (32 - z) = ((32 - wlev z : Nat) : Int) := by rw [IntWalk.i64_in _ (by omega)]; omega
        unfold wid
        have hj : 32 - wlev z ≤ 32 := by omega
        have hp : 2 ^ (32 - wlev z) ≤ 4294967296 := by have := Nat.pow_le_pow_right (n := 2) (by decide) hj; simpa using this
        have e4 : IntKind.i64.wrap (2 ^ (32 - wlev z)) = ((2 ^ (32 - wlev z) : Nat) : Int) := by
          have e : ((2 : Int) ^ (32 - wlev z)) = ((2 ^ (32 - wlev z) : Nat) : Int) := by simp
          rw [e]; generalize 2 ^ (32 - wlev z) = x at *; exact IntWalk.i64_in _ (by omega)
        exact rwidth_1 z _ _ (by omega) (by omega) e1 (by omega) e4 w (rint_hi _ (by have := Int.natCast_nonneg (2 ^ (32 - wlev z)); omega))
end Go.Proofs.Ytnedljclkhpdpaa
