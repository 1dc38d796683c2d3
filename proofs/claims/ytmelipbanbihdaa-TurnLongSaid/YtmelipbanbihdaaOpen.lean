/- Wide numbers as arguments: opened to their words, and shut. -/
import Derived.Test.YtmelipbanbihdaaSqrt
import Derived.ProofKit
import Derived.Lib.SmallJoins
namespace Go.Proofs.Ytmelipbanbihdaa
open Go.ChangeShapes Go.WideShapes Go.ChangeAt Go.RowKit Go.Joins

theorem Try.own : ownKnob Try.prog.godebug = none := by kernel_rfl
theorem cells22 : Try.prog.cellsOf 22 = 1 := by kernel_rfl
theorem cells24 : Try.prog.cellsOf 51 = 2 := by kernel_rfl
theorem cells33 : Try.prog.cellsOf 70 = 4 := by kernel_rfl
theorem wd_of_wf {x : Int} (h : (Lit.int .u64 x).wf = true) : Wd x := by
  simp [Lit.wf, IntKind.min, IntKind.max, IntKind.signed, IntKind.bits] at h
  exact ⟨by omega, by omega⟩
theorem wf_of_wd {x : Int} (h : Wd x) : (Lit.int .u64 x).wf = true := by
  obtain ⟨h0, h1⟩ := h
  simp [Lit.wf, IntKind.min, IntKind.max, IntKind.signed, IntKind.bits]
  exact ⟨by omega, by omega⟩
section
variable {H : Type} {enc : TypeId × Value → H} {w : World} {base : Nat} {spare : Nat → Bool} {held : Bool}
set_option maxRecDepth 20000 in
theorem trod_two {n : Nat} {c0 c1 : Value} {y : DataW H × List MemPlace} (h : DataW.trod enc Try.prog w base spare held n 51 [c0, c1] = some y) :
    ∃ a1 a0 : Int, c0 = .int .u64 a1 ∧ c1 = .int .u64 a0 ∧ y = (.agg [.lit (.int .u64 a1), .lit (.int .u64 a0)], []) ∧ Wd a1 ∧ Wd a0 := by
  obtain ⟨y0, y1, m, rfl, _, h0, h1⟩ := trod_struct2 Try.underlying51 h
  obtain ⟨a, e0, rfl, wa⟩ := DataW.trod_int Try.underlying22 h0
  obtain ⟨b, e1, rfl, wb⟩ := DataW.trod_int Try.underlying22 h1
  simp [cells22] at e0 e1
  subst e0 e1
  exact ⟨a, b, rfl, rfl, rfl, wd_of_wf wa, wd_of_wf wb⟩
set_option maxRecDepth 20000 in
theorem trod_two_mk (n : Nat) {a1 a0 : Int} (h1 : Wd a1) (h0 : Wd a0) : DataW.trod enc Try.prog w base spare held (n + 2) 51 [.int .u64 a1, .int .u64 a0] = some (.agg [.lit (.int .u64 a1), .lit (.int .u64 a0)], []) := by
  have := trod_struct2_mk (enc := enc) (w := w) (base := base) (spare := spare) (held := held) (n := n + 1) (cs := [.int .u64 a1, .int .u64 a0]) (y0 := (.lit (.int .u64 a1), [])) (y1 := (.lit (.int .u64 a0), [])) Try.underlying51 (by simp [cells24])
    (by simpa [cells22] using trod_int_mk n Try.underlying22 (wf_of_wd h1)) (by simpa [cells22] using trod_int_mk n Try.underlying22 (wf_of_wd h0))
  simpa using this
set_option maxRecDepth 20000 in
theorem open_two {r : Reach} {b0 : Nat} {v : Value} {d : DataW H} {p : List MemPlace} (hv : Value.okWide Try.prog w r b0 51 v) (h : DataW.Trod enc Try.prog w base spare held 51 v d p) :
    ∃ a1 a0 : Int, v = .agg #[.int .u64 a1, .int .u64 a0] ∧ d = .agg [.lit (.int .u64 a1), .lit (.int .u64 a0)] ∧ p = [] ∧ Wd a1 ∧ Wd a0 := by
  obtain ⟨cs, rfl, hsz⟩ := okWide_struct Try.underlying51 hv
  obtain ⟨c0, c1, rfl⟩ := array2 (hsz.trans cells24)
  obtain ⟨fuel, hf⟩ := h
  obtain ⟨a1, a0, rfl, rfl, e, k1, k0⟩ := trod_two (by simpa [Value.cells] using hf)
  simp only [Prod.mk.injEq] at e
  exact ⟨a1, a0, rfl, e.1, e.2, k1, k0⟩
set_option maxRecDepth 20000 in
theorem shut_two {a1 a0 : Int} (h1 : Wd a1) (h0 : Wd a0) : DataW.Trod enc Try.prog w base spare held 51 (.agg #[.int .u64 a1, .int .u64 a0]) (.agg [.lit (.int .u64 a1), .lit (.int .u64 a0)]) [] :=
  ⟨2, by simpa [Value.cells] using trod_two_mk 0 h1 h0⟩
set_option maxRecDepth 20000 in
theorem open_four {r : Reach} {b0 : Nat} {v : Value} {d : DataW H} {p : List MemPlace} (hv : Value.okWide Try.prog w r b0 70 v) (h : DataW.Trod enc Try.prog w base spare held 70 v d p) :
    ∃ a3 a2 a1 a0 : Int, v = .agg #[.int .u64 a3, .int .u64 a2, .int .u64 a1, .int .u64 a0] ∧ d = .agg [.agg [.lit (.int .u64 a3), .lit (.int .u64 a2)], .agg [.lit (.int .u64 a1), .lit (.int .u64 a0)]] ∧ p = [] ∧ Wd a3 ∧ Wd a2 ∧ Wd a1 ∧ Wd a0 := by
  obtain ⟨cs, rfl, hsz⟩ := okWide_struct Try.underlying70 hv
  obtain ⟨c0, c1, c2, c3, rfl⟩ := array4 (hsz.trans cells33)
  obtain ⟨fuel, hf⟩ := h
  obtain ⟨y0, y1, m, e, _, g0, g1⟩ := trod_struct2 Try.underlying70 hf
  simp [Value.cells, cells24] at g0 g1
  obtain ⟨a3, a2, rfl, rfl, rfl, k3, k2⟩ := trod_two g0
  obtain ⟨a1, a0, rfl, rfl, rfl, k1, k0⟩ := trod_two g1
  simp only [Prod.mk.injEq] at e
  exact ⟨a3, a2, a1, a0, rfl, e.1, by simpa using e.2, k3, k2, k1, k0⟩
set_option maxRecDepth 20000 in
theorem shut_four {a3 a2 a1 a0 : Int} (h3 : Wd a3) (h2 : Wd a2) (h1 : Wd a1) (h0 : Wd a0) : DataW.Trod enc Try.prog w base spare held 70 (.agg #[.int .u64 a3, .int .u64 a2, .int .u64 a1, .int .u64 a0]) (.agg [.agg [.lit (.int .u64 a3), .lit (.int .u64 a2)], .agg [.lit (.int .u64 a1), .lit (.int .u64 a0)]]) [] := by
  have := trod_struct2_mk (enc := enc) (w := w) (base := base) (spare := spare) (held := held) (n := 2) (cs := [.int .u64 a3, .int .u64 a2, .int .u64 a1, .int .u64 a0]) (y0 := (.agg [.lit (.int .u64 a3), .lit (.int .u64 a2)], [])) (y1 := (.agg [.lit (.int .u64 a1), .lit (.int .u64 a0)], [])) Try.underlying70 (by simp [cells33])
    (by simpa [cells24] using trod_two_mk 0 h3 h2) (by simpa [cells24] using trod_two_mk 0 h1 h0)
  exact ⟨3, by simpa [Value.cells] using this⟩
end
/-- Whether two numbers are one: what the comparison of structs comes to. -/
theorem eq_two (a1 a0 b1 b0 : Int) (W : World) : (Go.binOp .eql 51 (.agg #[.int .u64 a1, .int .u64 a0]) (.agg #[.int .u64 b1, .int .u64 b0])).run Try.prog W = .ok (.bool (decide (a1 = b1 ∧ a0 = b0))) W := by
  by_cases c : a1 = b1 <;> by_cases d : a0 = b0 <;> simp [go_sem, *]
theorem eq_two_true (a1 a0 : Int) : ∀ W, (Go.binOp .eql 51 (.agg #[.int .u64 a1, .int .u64 a0]) (.agg #[.int .u64 a1, .int .u64 a0])).run Try.prog W = .ok (.bool true) W := fun W => by
  rw [eq_two]; simp
end Go.Proofs.Ytmelipbanbihdaa
