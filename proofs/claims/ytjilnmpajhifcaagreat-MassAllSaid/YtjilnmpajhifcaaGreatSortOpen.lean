/- Lists as arguments: bodies by their keys, bytes; opened, and as they were behind the call. -/
import Derived.Test.YtjilnmpajhifcaaGreatZzSrtA
import Derived.Test.YtjilnmpajhifcaaGreatZzLimC
import Derived.Deep.SlicePairs
import Derived.Carry
import Derived.ProofKit
namespace Go.Proofs.YtjilnmpajhifcaaGreat
open Go.ChangeShapes Go.WideShapes Go.ChangeAt Go.RowKit Go.Joins
theorem slaidOut : laidOutB Tryz.prog = true := by kernel_rfl
theorem kd_off : (Tryz.prog.underlying 68).isSome = true := by kernel_rfl
section
variable {H : Type} {enc : TypeId × Value → H} {w : World} {base : Nat} {spare : Nat → Bool} {held : Bool}
set_option maxRecDepth 20000 in
theorem open_kds {r : Reach} {b0 : Nat} {v : Value} {d : DataW H} {p : List MemPlace} (hv : Value.okWide Tryz.prog w r b0 36 v) (h : DataW.Trod enc Tryz.prog w base spare held 36 v d p) :
    ∃ (A : Option Addr) (n c : Nat) (L : List (Nat × Int)), v = .slice A n c ∧ (A = none → n = 0 ∧ c = 0) ∧ Ks w A n L ∧ n ≤ maxLen ∧ Ok64 L := by
  obtain ⟨A, n, c, rfl⟩ := okWide_slice Tryz.underlying36 hv
  obtain ⟨fuel, hf⟩ := h
  have hf : DataW.trod enc Tryz.prog w base spare held fuel 36 [.slice A n c] = some (d, p) := by simpa [Value.cells] using hf
  rcases Go.Deep.open_slice_pairs Tryz.underlying36 Tryz.underlying68 kd_cells rfl rfl (by kernel_rfl) (by kernel_rfl) hf with ⟨e, _⟩ | ⟨a, len, cap, m, k, V0, V1, D0, D1, P0, P1, e, hb, hl, hm, hmm, _, hx⟩
  · simp only [List.cons.injEq, Value.slice.injEq, and_true] at e
    obtain ⟨rfl, rfl, rfl⟩ := e
    exact ⟨none, 0, 0, [], rfl, fun _ => ⟨rfl, rfl⟩, ⟨rfl, fun h => by omega⟩, Nat.zero_le _, fun x hx => by cases hx⟩
  · simp only [List.cons.injEq, Value.slice.injEq, and_true] at e
    obtain ⟨rfl, rfl, rfl⟩ := e
    have hlm : n ≤ m := by rw [hmm]; split <;> omega
    have hx' := hx
    refine ⟨some a, n, c, (List.range n).map fun i => ((intOf (V0 i)).toNat, intOf (V1 i)), rfl, by simp, ⟨by simp, fun hn => ?_⟩, by omega, fun x hx => ?_⟩
    · obtain ⟨h0, _, _, _⟩ := hx 0 (by omega)
      have hs : a.spot = none := by simpa [Addr.add] using World.cell?_spot h0
      have hlt := World.block_lt_of_cell? _ _ h0
      obtain ⟨B, o, s⟩ := a
      obtain rfl : s = none := hs
      refine ⟨B, o, rfl, by rw [block_of_add] at hlt; exact hlt, fun j x hxj => ?_⟩
      have hj : j < n := by have := (List.getElem?_eq_some_iff.1 hxj).1; simpa using this
      rw [List.getElem?_map, List.getElem?_range hj] at hxj
      obtain rfl : ((intOf (V0 j)).toNat, intOf (V1 j)) = x := by simpa using hxj
      obtain ⟨g0, g1, t0, t1⟩ := hx j (by omega)
      obtain ⟨z0, e0, _, w0⟩ := DataW.trod_int Tryz.underlying25 t0
      obtain ⟨z1, e1, _, w1⟩ := DataW.trod_int Tryz.underlying3 t1
      simp only [List.cons.injEq, and_true] at e0 e1
      rw [add_plain] at g0 g1
      rw [show o + (j * 2 + 1) = o + j * 2 + 1 by omega] at g1
      have hz := wd_of_wf w0
      rw [g0, g1, e0, e1]
      refine ⟨?_, rfl⟩
      show some (Value.int .u64 z0) = some (.int .u64 ((z0.toNat : Nat) : Int))
      rw [Int.toNat_of_nonneg hz.1]
    · obtain ⟨j, hj, rfl⟩ := List.mem_map.1 hx
      obtain ⟨_, _, t0, _⟩ := hx' j (by have := List.mem_range.1 hj; omega)
      obtain ⟨z0, e0, _, w0⟩ := DataW.trod_int Tryz.underlying25 t0
      simp only [List.cons.injEq, and_true] at e0
      have hz := wd_of_wf w0
      rw [e0]; show z0.toNat < _; have := hz.2; omega
end
end Go.Proofs.YtjilnmpajhifcaaGreat
