/- The leaves of package fix: bits, signs, sizes. -/
import Derived.Test.YtmelipbanbihdaaLimb
import Derived.Test.YtmelipbanbihdaaFixNum
import Derived.Handy
namespace Go.Proofs.Ytmelipbanbihdaa
open Go.RowKit

theorem bits_any (x : Int) (w : World) :
    Calls Try.prog 52 #[.agg #[.int .i64 (fh x), .int .u64 (fl x)]] w fun e w' => e = .returned (.agg #[.int .u64 (wd (ub x) 1), .int .u64 (wd (ub x) 0)]) ∧ Below w.heap.size w w' := by
  have E1 := Lib.hid (@ub_1 x)
  have E0 := Lib.hid (ub_0 x)
  go_enter Try.func52, Try.ntmps52
  go_wp2
  go_returns
  exact ⟨ret_agg2 E1.out E0.out, by go_grown⟩
theorem ret_fix {a b a' b' : Int} (h : a = a') (g : b = b') : Ending.returned (.agg #[.int .i64 a, .int .u64 b]) = .returned (.agg #[.int .i64 a', .int .u64 b']) := by rw [h, g]
theorem ofBits_any (x : Int) (n : Nat) (hx : Fx x) (e : (n : Int) % 340282366920938463463374607431768211456 = x % 340282366920938463463374607431768211456) (w : World) :
    Calls Try.prog 50 #[.agg #[.int .u64 (wd n 1), .int .u64 (wd n 0)]] w fun e w' => e = .returned (.agg #[.int .i64 (fh x), .int .u64 (fl x)]) ∧ Below w.heap.size w w' := by
  have E := Lib.hid (of_ub hx e)
  clear e
  go_enter Try.func50, Try.ntmps50
  go_wp2
  go_returns
  exact ⟨ret_fix (by unfold wrap64; exact E.out.1) E.out.2, by go_grown⟩
theorem sign_word {x : Int} (hx : Fx x) : IntKind.u64.wrap (fh x / 9223372036854775808) = sw (decide (x < 0)) := by
  obtain ⟨_, _⟩ := hx
  rw [wrap_u64]; unfold fh sw
  by_cases c : x < 0 <;> simp [c] <;> omega
theorem sign_core (h l S : Int) (E : IntKind.u64.wrap (h / 9223372036854775808) = S) (w : World) :
    Calls Try.prog 62 #[.agg #[.int .i64 h, .int .u64 l]] w fun e w' => e = .returned (.int .u64 S) ∧ Below w.heap.size w w' := by
  go_enter Try.func62, Try.ntmps62
  go_wp2_with fail
  go_returns
  exact ⟨rfl, by go_grown⟩
theorem sign_any (x : Int) (hx : Fx x) (w : World) :
    Calls Try.prog 62 #[.agg #[.int .i64 (fh x), .int .u64 (fl x)]] w fun e w' => e = .returned (.int .u64 (sw (decide (x < 0)))) ∧ Below w.heap.size w w' :=
  sign_core _ _ _ (sign_word hx) w
/-- Turned about in two's complement, or left. -/
def tn (s : Bool) (n : Nat) : Nat := if s then 340282366920938463463374607431768211456 - n else n
theorem tn_false (n : Nat) : tn false n = n := rfl
theorem tn_true (n : Nat) : tn true n = 340282366920938463463374607431768211456 - n := rfl
theorem sw_false : sw false = 0 := rfl
theorem sw_true : sw true = 18446744073709551615 := rfl
theorem v2_zero : v2 0 0 = 0 := rfl
theorem v2_ones : v2 18446744073709551615 18446744073709551615 = 340282366920938463463374607431768211455 := by unfold v2; omega
theorem turn_words {t1 t0 : Int} (h1 : Wd t1) (h0 : Wd t0) (s : Bool) (i : Nat) (hi : i = 0 ∨ i = 1) :
    wd (v2 (bits .xor .u64 t1 (sw s)) (bits .xor .u64 t0 (sw s)) + (340282366920938463463374607431768211456 - v2 (sw s) (sw s))) i = wd (tn s (v2 t1 t0)) i := by
  cases s with
  | false =>
    rw [sw_false, xor_zero h1, xor_zero h0, v2_zero, tn_false]
    rcases hi with rfl | rfl
    · rw [wd0, wd0]; omega
    · rw [wd1, wd1]; omega
  | true =>
    have k : v2 (18446744073709551615 - t1) (18446744073709551615 - t0) + (340282366920938463463374607431768211456 - 340282366920938463463374607431768211455) = 340282366920938463463374607431768211456 - v2 t1 t0 := by
      obtain ⟨_, _⟩ := h1; obtain ⟨_, _⟩ := h0
      unfold v2; omega
    rw [sw_true, xor_ones h1, xor_ones h0, v2_ones, k, tn_true]
theorem turn_any (t1 t0 : Int) (s : Bool) (h1 : Wd t1) (h0 : Wd t0) (w : World) :
    Calls Try.prog 51 #[.agg #[.int .u64 t1, .int .u64 t0], .int .u64 (sw s)] w fun e w' => e = .returned (.agg #[.int .u64 (wd (tn s (v2 t1 t0)) 1), .int .u64 (wd (tn s (v2 t1 t0)) 0)]) ∧ Below w.heap.size w w' := by
  have E1 := Lib.hid (turn_words h1 h0 s 1 (Or.inr rfl))
  have E0 := Lib.hid (turn_words h1 h0 s 0 (Or.inl rfl))
  have C := Lib.hid (sub_any (bits .xor .u64 t1 (sw s)) (bits .xor .u64 t0 (sw s)) (sw s) (sw s) (bits_wd _ _ _) (bits_wd _ _ _) (sw_wd s) (sw_wd s))
  generalize sw s = S at *
  go_enter Try.func51, Try.ntmps51
  go_wp2_with fail
  refine (C.out _).mono ?_
  rintro e w1 ⟨rfl, hb⟩
  obtain ⟨hcl, hfr⟩ := bcell hb
  have z1 : w.heap.size < w1.heap.size := by have := hb.size; simp at this; omega
  have z2 : w.heap.size + 1 < w1.heap.size := by have := hb.size; simp at this; omega
  have c0 : w1.cell? ⟨w.heap.size, 0, none⟩ = some (.int .u64 t1) := by rw [hcl _ _ (by simp <;> omega)]; simp [go_sem]
  have c1 : w1.cell? ⟨w.heap.size, 1, none⟩ = some (.int .u64 t0) := by rw [hcl _ _ (by simp <;> omega)]; simp [go_sem]
  have c2 : w1.cell? ⟨w.heap.size + 1, 0, none⟩ = some (.int .u64 0) := by rw [hcl _ _ (by simp <;> omega)]; simp [go_sem]
  have c3 : w1.cell? ⟨w.heap.size + 1, 1, none⟩ = some (.int .u64 0) := by rw [hcl _ _ (by simp <;> omega)]; simp [go_sem]
  have f0 : ∀ j, w1.frozen? ⟨w.heap.size, j, none⟩ = false := fun j => by rw [hfr _ _ (by simp <;> omega)]; first | (simp [go_sem]; done) | (simp [frozen?_alloc_cells, World.frozen?]; done)
  have f1 : ∀ j, w1.frozen? ⟨w.heap.size + 1, j, none⟩ = false := fun j => by rw [hfr _ _ (by simp <;> omega)]; first | (simp [go_sem]; done) | (simp [frozen?_alloc_cells, World.frozen?]; done)
  have HB : Hid (Below w.heap.size w w1) := bl_trans (by repeat (first | exact Below.refl _ _ | with_reducible refine bl_al ?_ _ | with_reducible apply Below.drew)) hb
  clear hb hcl hfr
  go_wp2_with fail
  refine bodyPost_ret (by simp [results, Try.results51, go_sem, *]; try rfl) rfl ?_
  refine ⟨ret_agg2 E1.out E0.out, ?_⟩
  exact Below.setCell (Below.setCell (Below.setCell (Below.setCell HB.out (by simp) _) (by simp) _) (by simp) _) (by simp) _
end Go.Proofs.Ytmelipbanbihdaa
