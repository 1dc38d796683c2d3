/- The nearest; sums. -/
import Derived.Test.YtnedljclkhpdpaaZzLimA
import Derived.Test.YtnedljclkhpdpaaZzLimC
import Derived.Deep.RegionHeld3
import Derived.Deep.DeepCutAuto
namespace Go.Proofs.Ytnedljclkhpdpaa
open Go.RowKit

theorem tn_abs {x : Int} (h : Fx x) : tn (decide (x < 0)) (ub x) = x.natAbs := by
  obtain ⟨_, _⟩ := h
  by_cases c : x < 0
  · rw [decide_eq_true c, tn_true]; unfold ub; omega
  · rw [decide_eq_false c, tn_false]; unfold ub; omega
theorem may_word (x : Int) : (!decide (fh x = -9223372036854775808 ∧ fl x = 0)) = decide (x ≠ -170141183460469231731687303715884105728) := by
  rw [Bool.eq_iff_iff]; simp only [Bool.not_eq_true', decide_eq_false_iff_not, decide_eq_true_eq]; unfold fh fl; omega
theorem int_word (n : Int) : fh (intr n) = (if n < -9223372036854775807 then -9223372036854775807 else n) ∧ fl (intr n) = 0 := by
  unfold fh fl intr; split <;> constructor <;> omega
end Go.Proofs.Ytnedljclkhpdpaa
namespace Go.Proofs.Ytnedljclkhpdpaa
open Go.ChangeShapes Go.WideShapes Go.ChangeAt Go.RowKit Go.Joins

theorem cells_i64 : Try.prog.cellsOf 2 = 1 := by kernel_rfl
theorem cells_fix : Try.prog.cellsOf 30 = 2 := by kernel_rfl
theorem hd_of_wf {x : Int} (h : (Lit.int .i64 x).wf = true) : Hd x := by
  simp [Lit.wf, IntKind.min, IntKind.max, IntKind.signed, IntKind.bits] at h
  exact ⟨by omega, by omega⟩
theorem wf_of_hd {x : Int} (h : Hd x) : (Lit.int .i64 x).wf = true := by
  obtain ⟨h0, h1⟩ := h
  simp [Lit.wf, IntKind.min, IntKind.max, IntKind.signed, IntKind.bits]
  exact ⟨by omega, by omega⟩
section
variable {H : Type} {enc : TypeId × Value → H} {w : World} {base : Nat} {spare : Nat → Bool} {held : Bool}
set_option maxRecDepth 20000 in
theorem trod_fix {n : Nat} {c0 c1 : Value} {y : DataW H × List MemPlace} (h : DataW.trod enc Try.prog w base spare held n 30 [c0, c1] = some y) :
    ∃ a1 a0 : Int, c0 = .int .i64 a1 ∧ c1 = .int .u64 a0 ∧ y = (.agg [.lit (.int .i64 a1), .lit (.int .u64 a0)], []) ∧ Hd a1 ∧ Wd a0 := by
  obtain ⟨y0, y1, m, rfl, _, h0, h1⟩ := trod_struct2 Try.underlying30 h
  obtain ⟨a, e0, rfl, wa⟩ := DataW.trod_int Try.underlying2 h0
  obtain ⟨b, e1, rfl, wb⟩ := DataW.trod_int Try.underlying28 h1
  simp [cells_i64, cells22] at e0 e1
  subst e0 e1
  exact ⟨a, b, rfl, rfl, rfl, hd_of_wf wa, wd_of_wf wb⟩
set_option maxRecDepth 20000 in
theorem trod_fix_mk (n : Nat) {a1 a0 : Int} (h1 : Hd a1) (h0 : Wd a0) : DataW.trod enc Try.prog w base spare held (n + 2) 30 [.int .i64 a1, .int .u64 a0] = some (.agg [.lit (.int .i64 a1), .lit (.int .u64 a0)], []) := by
  have := trod_struct2_mk (enc := enc) (w := w) (base := base) (spare := spare) (held := held) (n := n + 1) (cs := [.int .i64 a1, .int .u64 a0]) (y0 := (.lit (.int .i64 a1), [])) (y1 := (.lit (.int .u64 a0), [])) Try.underlying30 (by simp [cells_fix])
    (by simpa [cells_i64] using trod_int_mk n Try.underlying2 (wf_of_hd h1)) (by simpa [cells22] using trod_int_mk n Try.underlying28 (wf_of_wd h0))
  simpa using this
set_option maxRecDepth 20000 in
theorem open_fix {r : Reach} {b0 : Nat} {v : Value} {d : DataW H} {p : List MemPlace} (hv : Value.okWide Try.prog w r b0 30 v) (h : DataW.Trod enc Try.prog w base spare held 30 v d p) :
    ∃ x : Int, v = .agg #[.int .i64 (fh x), .int .u64 (fl x)] ∧ d = .agg [.lit (.int .i64 (fh x)), .lit (.int .u64 (fl x))] ∧ p = [] ∧ Fx x := by
  obtain ⟨cs, rfl, hsz⟩ := okWide_struct Try.underlying30 hv
  obtain ⟨c0, c1, rfl⟩ := array2 (hsz.trans cells_fix)
  obtain ⟨fuel, hf⟩ := h
  obtain ⟨a1, a0, rfl, rfl, e, k1, k0⟩ := trod_fix (by simpa [Value.cells] using hf)
  simp only [Prod.mk.injEq] at e
  refine ⟨fx a1 a0, ?_, ?_, e.2, fx_Fx k1 k0⟩
  · rw [fh_fx k0, fl_fx k0]
  · rw [fh_fx k0, fl_fx k0]; exact e.1
set_option maxRecDepth 20000 in
theorem shut_fix {x : Int} (h : Fx x) : DataW.Trod enc Try.prog w base spare held 30 (.agg #[.int .i64 (fh x), .int .u64 (fl x)]) (.agg [.lit (.int .i64 (fh x)), .lit (.int .u64 (fl x))]) [] :=
  ⟨2, by simpa [Value.cells] using trod_fix_mk 0 (fh_hd h) (fl_wd x)⟩
end
theorem eq_fix (a1 a0 b1 b0 : Int) (W : World) : (Go.binOp .eql 30 (.agg #[.int .i64 a1, .int .u64 a0]) (.agg #[.int .i64 b1, .int .u64 b0])).run Try.prog W = .ok (.bool (decide (a1 = b1 ∧ a0 = b0))) W := by
  by_cases c : a1 = b1 <;> by_cases d : a0 = b0 <;> simp [go_sem, *]
theorem eq_fix_true (a1 a0 : Int) : ∀ W, (Go.binOp .eql 30 (.agg #[.int .i64 a1, .int .u64 a0]) (.agg #[.int .i64 a1, .int .u64 a0])).run Try.prog W = .ok (.bool true) W := fun W => by
  rw [eq_fix]; simp
theorem ne_fix (a1 a0 b1 b0 : Int) (W : World) : (Go.binOp .neq 30 (.agg #[.int .i64 a1, .int .u64 a0]) (.agg #[.int .i64 b1, .int .u64 b0])).run Try.prog W = .ok (.bool (!decide (a1 = b1 ∧ a0 = b0))) W := by
  by_cases c : a1 = b1 <;> by_cases d : a0 = b0 <;> simp [go_sem, *]
theorem ne_fix_false (a1 a0 : Int) : ∀ W, (Go.binOp .neq 30 (.agg #[.int .i64 a1, .int .u64 a0]) (.agg #[.int .i64 a1, .int .u64 a0])).run Try.prog W = .ok (.bool false) W := fun W => by
  rw [ne_fix]; simp
end Go.Proofs.Ytnedljclkhpdpaa
namespace Go.Proofs.Ytnedljclkhpdpaa
open Go.RowKit

theorem ne_two (a1 a0 b1 b0 : Int) (W : World) : (Go.binOp .neq 52 (.agg #[.int .u64 a1, .int .u64 a0]) (.agg #[.int .u64 b1, .int .u64 b0])).run Try.prog W = .ok (.bool (!decide (a1 = b1 ∧ a0 = b0))) W := by
  by_cases c : a1 = b1 <;> by_cases d : a0 = b0 <;> simp [go_sem, *]
theorem sg_small {s : Bool} {n : Nat} (h : n < 170141183460469231731687303715884105728) : My (sg s n) := by
  unfold sg My; cases s <;> simp <;> omega
theorem sg_big {s : Bool} {n : Nat} (h : 170141183460469231731687303715884105728 ≤ n) : ¬ My (sg s n) := by
  unfold sg My; cases s <;> simp <;> omega
theorem tn_sg {s : Bool} {n : Nat} (h : n < 170141183460469231731687303715884105728) : ((tn s n : Nat) : Int) % 340282366920938463463374607431768211456 = sg s n % 340282366920938463463374607431768211456 := by
  cases s
  · rw [tn_false]; rfl
  · rw [tn_true]; unfold sg; simp; omega
theorem fh_zero : fh 0 = 0 := rfl
theorem fl_zero : fl 0 = 0 := rfl
end Go.Proofs.Ytnedljclkhpdpaa
