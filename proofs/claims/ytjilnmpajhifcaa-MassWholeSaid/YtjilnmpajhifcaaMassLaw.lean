/- What the laws of layer 9 want of the program: what Centre, Keyed, Cells come to. -/
import Derived.Test.YtjilnmpajhifcaaMassAwake
import Derived.Test.YtjilnmpajhifcaaMassKey
import Derived.Test.YtjilnmpajhifcaaZzRefA
namespace Go.Proofs.Ytjilnmpajhifcaa
open Go.RowKit
/-- What the program's Centre comes to: of some bodies, of none. -/
def CenT : Prop := ∀ (A : Option Addr) (n c : Nat) (L : List Bod), 0 < n → n ≤ 64 → (∀ b ∈ L, Mb b) → ∀ W : World, Bds W A n L → Calls Try.prog 7 #[.slice A n c] W fun e w' => e = .returned (.tuple #[.agg #[.int .i64 (fh (sM L)), .int .u64 (fl (sM L))], .agg #[.int .i64 (fh (mid Bod.x L)), .int .u64 (fl (mid Bod.x L)), .int .i64 (fh (mid Bod.y L)), .int .u64 (fl (mid Bod.y L))], .int .i64 0]) ∧ Below W.heap.size W w'
def CenNT : Prop := ∀ (A : Option Addr) (c : Nat) (W : World), Calls Try.prog 7 #[.slice A 0 c] W fun e w' => e = .returned (.tuple #[.agg #[.int .i64 0, .int .u64 0], .agg #[.int .i64 0, .int .u64 0, .int .i64 0, .int .u64 0], .int .i64 1]) ∧ Below W.heap.size W w'
/-- One body of a whole mass: its middle is where it is. -/
theorem mid_one {f : Bod → Int} {b : Bod} {K : Nat} (hK : 0 < K) (hb : b.m = (K : Int) * 18446744073709551616) : sM [b] = b.m ∧ mid f [b] = f b := by
  have e1 : sM [b] = b.m := by show b.m + 0 = b.m; omega
  have e2 : sD f [b] = (K : Int) * f b := by
    show mulr b.m (f b) + 0 = _
    rw [hb, mulr_whole (by omega)]; omega
  refine ⟨e1, ?_⟩
  unfold mid
  rw [e1, e2, hb, divr_one hK]
theorem intr_in {n : Int} (h : -9223372036854775807 ≤ n) : intr n = n * 18446744073709551616 := by unfold intr; rw [if_neg (by omega)]
theorem mawake_any (C : CenT) (CN : Ct 11 #[.int .i64 0] (.int .i64 0)) (w : World) : Calls Try.prog 6 #[] w fun e w' => e = .returned (.bool true) ∧ Below w.heap.size w w' := by
  refine mawake_core _ _ _ _ (rint_any 1) (rint_any 3) CN (fun W A hS => ?_) w
  obtain ⟨b, hb⟩ : ∃ b : Bod, b = ⟨intr 1, 0, intr 3, 0, 0, 0, 0, 0, 0, 0, 0⟩ := ⟨_, rfl⟩
  have h1 : intr 1 = ((1 : Nat) : Int) * 18446744073709551616 := intr_in (by decide)
  have hm : b.m = ((1 : Nat) : Int) * 18446744073709551616 := by rw [hb]; exact h1
  obtain ⟨e1, e2⟩ := mid_one (f := Bod.x) (by decide) hm
  obtain ⟨_, e3⟩ := mid_one (f := Bod.y) (by decide) hm
  have k := C A 1 1 [b] (by decide) (by decide) (fun c hc => by
    simp at hc; subst hc
    have h3 : intr 3 = 3 * 18446744073709551616 := intr_in (by decide)
    subst hb
    unfold Mb
    refine ⟨?_, ?_, ?_, ?_, ?_, ?_⟩ <;> dsimp only <;> omega) W (by
      unfold Bds
      subst hb
      exact hS)
  rw [e1, e2, e3] at k
  subst hb
  exact k
end Go.Proofs.Ytjilnmpajhifcaa
