/- The laws of layer 10 from what the program's Pull comes to: PairAll, PairTurned, PairAcross. -/
import Derived.Test.YtmmlekgojblopaaPairAny
import Derived.Test.YtmmlekgojblopaaPairAllW
import Derived.Test.YtmmlekgojblopaaPairTurnW
import Derived.Test.YtmmlekgojblopaaPairCrossW
import Derived.Test.YtmmlekgojblopaaZzVecA
namespace Go.Proofs.Ytmmlekgojblopaa
open Go.RowKit
/-- What the program's Pull comes to. -/
def pv (t : Int × Int × Int) : Value := .tuple #[.agg #[.int .i64 (fh t.1), .int .u64 (fl t.1), .int .i64 (fh t.2.1), .int .u64 (fl t.2.1)], .int .i64 t.2.2]
def PulT : Prop := ∀ g a b dx dy ep h : Int, My g → My a → My b → My dx → My dy → My ep → My h → ∀ W : World, Calls Try.prog 11 #[fxv g, fxv a, fxv b, .agg #[.int .i64 (fh dx), .int .u64 (fl dx), .int .i64 (fh dy), .int .u64 (fl dy)], fxv ep, fxv h] W fun e w' => e = .returned (pv (pul g a b dx dy ep h)) ∧ Below W.heap.size W w'
set_option maxRecDepth 100000 in
theorem pul_aw0 : pul 18446744073709551616 18446744073709551616 18446744073709551616 0 0 0 18446744073709551616 = (0, 0, 2) := by decide +kernel
theorem pul_aw1 : pul 18446744073709551616 18446744073709551616 18446744073709551616 18446744073709551616 0 0 18446744073709551616 = (18446744073709551616, 0, 0) := by
  have k := pul_line (G := 1) (A := 1) (B := 1) (D := 1) (e := 0) (H := 1) (by decide) (by decide) (by decide) (by decide) (by decide) (by decide) (by decide)
  have q := kk_exact (M := 1) (r := 1) (q := 18446744073709551616) (by decide) (by decide)
  simp only [Nat.one_mul, Nat.mul_one, Nat.zero_mul, Nat.add_zero, q] at k
  exact k
theorem pawake_any (C : PulT) (w : World) : Calls Try.prog 10 #[] w fun e w' => e = .returned (.bool true) ∧ Below w.heap.size w w' := by
  have i1 : intr 1 = 18446744073709551616 := by unfold intr; decide
  have K := rint_any 1
  rw [i1] at K
  have m1 : My 18446744073709551616 := by unfold My; omega
  have m0 : My 0 := by unfold My; omega
  have c1 := C _ _ _ _ _ _ _ m1 m1 m1 m0 m0 m0 m1
  rw [pul_aw0] at c1
  have c2 := C _ _ _ _ _ _ _ m1 m1 m1 m1 m0 m0 m1
  rw [pul_aw1] at c2
  exact pawake_core _ _ w K c1 c2 (num_any 2) (num_any 0)
theorem may_b (x : Int) (hx : Fx x) : ∃ q : Bool, (q = true ↔ My x) ∧ ∀ W, Calls Try.prog 19 #[fxv x] W fun e w' => e = .returned (.bool q) ∧ Below W.heap.size W w' := by
  by_cases h : My x
  · exact ⟨true, by simp [h], fun W => rmay_true h W⟩
  · exact ⟨false, by simp [h], fun W => rmay_false hx h W⟩
theorem mayv_b (x y : Int) (hx : Fx x) (hy : Fx y) : ∃ q : Bool, (q = true ↔ My x ∧ My y) ∧ ∀ W, Calls Try.prog 20 #[.agg #[.int .i64 (fh x), .int .u64 (fl x), .int .i64 (fh y), .int .u64 (fl y)]] W fun e w' => e = .returned (.bool q) ∧ Below W.heap.size W w' := by
  by_cases h : My x ∧ My y
  · exact ⟨true, by simp [h], fun W => rmv_true h.1 h.2 W⟩
  · exact ⟨false, by simp [h], fun W => rmv_false hx hy h W⟩
theorem pmay_any (g a b dx dy ep h : Int) (hg : Fx g) (ha : Fx a) (hb : Fx b) (hdx : Fx dx) (hdy : Fx dy) (hep : Fx ep) (hh : Fx h) :
    ∃ q : Bool, (q = true ↔ My g ∧ My a ∧ My b ∧ My dx ∧ My dy ∧ My ep ∧ My h) ∧ ∀ W, Calls Try.prog 9 #[fxv g, fxv a, fxv b, .agg #[.int .i64 (fh dx), .int .u64 (fl dx), .int .i64 (fh dy), .int .u64 (fl dy)], fxv ep, fxv h] W fun e w' => e = .returned (.bool q) ∧ Below W.heap.size W w' := by
  obtain ⟨q1, e1, c1⟩ := may_b g hg
  obtain ⟨q2, e2, c2⟩ := may_b a ha
  obtain ⟨q3, e3, c3⟩ := may_b b hb
  obtain ⟨q4, e4, c4⟩ := mayv_b dx dy hdx hdy
  obtain ⟨q5, e5, c5⟩ := may_b ep hep
  obtain ⟨q6, e6, c6⟩ := may_b h hh
  refine ⟨_, ?_, fun W => pmay_core _ _ _ _ _ _ _ _ _ _ _ _ _ _ q1 q2 q3 q4 q5 q6 W c1 c2 c3 c4 c5 c6⟩
  simp only [Bool.and_eq_true, e1, e2, e3, e4, e5, e6, and_assoc]
theorem pairAll_any (C : PulT) (g a b dx dy ep h : Int) (hg : Fx g) (ha : Fx a) (hb : Fx b) (hdx : Fx dx) (hdy : Fx dy) (hep : Fx ep) (hh : Fx h) (w : World) :
    Calls Try.prog 3 #[fxv g, fxv a, fxv b, vec dx dy, fxv ep, fxv h] w fun e w' => e = .returned (.bool true) ∧ Below w.heap.size w w' := by
  obtain ⟨q, e, c⟩ := pmay_any g a b dx dy ep h hg ha hb hdx hdy hep hh
  cases q
  · exact pairAll_no _ _ _ _ _ _ _ _ _ _ _ _ _ _ w c (pawake_any C)
  · obtain ⟨m1, m2, m3, m4, m5, m6, m7⟩ := e.1 rfl
    exact pairAll_yes _ _ _ _ _ _ _ _ _ _ _ _ _ _ _ _ _ _ _ w c (C g a b dx dy ep h m1 m2 m3 m4 m5 m6 m7) (rpull_any g a b dx dy ep h m1 m2 m3 m4 m5 m6 m7) (num_any _) (pawake_any C)
end Go.Proofs.Ytmmlekgojblopaa
