/- Some cells of one block are written; all else is as it was. -/
import Derived.Test.YtmelipbanbihdaaLimb
import Derived.Test.YtmelipbanbihdaaDivNum
namespace Go.Proofs.Ytmelipbanbihdaa
open Go.RowKit

/-- Of what was there, w' has other cells than w in block B alone, from o on, n of them. -/
structure Wrote (B o n : Nat) (w w' : World) : Prop where
  os : w'.os = w.os
  tape : w'.tape = w.tape
  output : w'.output = w.output
  size : w.heap.size ≤ w'.heap.size
  block : ∀ k, k < w.heap.size → k ≠ B → w'.heap[k]? = w.heap[k]?
  cells : ∀ j, (j < o ∨ o + n ≤ j) → w'.cell? ⟨B, j, none⟩ = w.cell? ⟨B, j, none⟩
  frozen : ∀ j, w'.frozen? ⟨B, j, none⟩ = w.frozen? ⟨B, j, none⟩
theorem Wrote.refl (B o n : Nat) (w : World) : Wrote B o n w w := ⟨rfl, rfl, rfl, Nat.le_refl _, fun _ _ _ => rfl, fun _ _ => rfl, fun _ => rfl⟩
theorem Wrote.trans {B o n : Nat} {a b c : World} (h : Wrote B o n a b) (k : Wrote B o n b c) : Wrote B o n a c :=
  ⟨k.os.trans h.os, k.tape.trans h.tape, k.output.trans h.output, Nat.le_trans h.size k.size, fun i hi hB => (k.block i (Nat.lt_of_lt_of_le hi h.size) hB).trans (h.block i hi hB), fun j hj => (k.cells j hj).trans (h.cells j hj), fun j => (k.frozen j).trans (h.frozen j)⟩
theorem Wrote.of_below {B o n : Nat} {w w' : World} (hB : B < w.heap.size) (h : Below w.heap.size w w') : Wrote B o n w w' :=
  ⟨h.os, h.tape, h.output, h.size, fun k hk _ => h.block k hk, fun j _ => h.cell (p := ⟨B, j, none⟩) hB, fun j => h.frozen (p := ⟨B, j, none⟩) hB⟩
theorem Wrote.alloc {B o n : Nat} {a w : World} (h : Wrote B o n a w) (hB : B < a.heap.size) (x : Obj) : Wrote B o n a (w.alloc x) :=
  h.trans (Wrote.of_below (Nat.lt_of_lt_of_le hB h.size) (bl_al (Below.refl _ _) x))
theorem Wrote.drew {B o n : Nat} {a w : World} (h : Wrote B o n a w) : Wrote B o n a w.drew := ⟨h.os, h.tape, h.output, h.size, h.block, h.cells, h.frozen⟩
theorem Wrote.call {B o n : Nat} {a w w' : World} (h : Wrote B o n a w) (hB : B < a.heap.size) (g : Below w.heap.size w w') : Wrote B o n a w' :=
  h.trans (Wrote.of_below (Nat.lt_of_lt_of_le hB h.size) g)
theorem Wrote.setCell {B o n j : Nat} {a w : World} (h : Wrote B o n a w) (h1 : o ≤ j) (h2 : j < o + n) (x : Value) : Wrote B o n a (w.setCell ⟨B, j, none⟩ x) := by
  refine h.trans ⟨rfl, rfl, rfl, by simp [World.setCell], fun k _ hk => Below.heap_setCell _ _ _ _ hk, fun i hi => ?_, fun i => World.frozen?_setCell _ _ _ _⟩
  refine World.cell?_setCell_other _ _ _ _ ?_
  intro e
  simp only [Addr.mk.injEq] at e
  omega
theorem Wrote.below {B o n B0 : Nat} {w w' : World} (h : Wrote B o n w w') (hB : B0 ≤ B) (hs : B0 ≤ w.heap.size) : Below B0 w w' :=
  ⟨h.os, h.tape, h.output, h.size, fun k hk => h.block k (by omega) (by omega)⟩
theorem Wrote.wide {B o n o' n' : Nat} {w w' : World} (h : Wrote B o n w w') (h1 : o' ≤ o) (h2 : o + n ≤ o' + n') : Wrote B o' n' w w' :=
  ⟨h.os, h.tape, h.output, h.size, h.block, fun j hj => h.cells j (by omega), h.frozen⟩

def Split (x : Int) (w : World) (e : Ending) (w' : World) : Prop := ∃ lo hi : Int, e = .returned (.tuple #[.int .u32 lo, .int .u32 hi]) ∧ Hf lo ∧ Hf hi ∧ Hid (x = lo + 4294967296 * hi) ∧ w = w'
theorem split_ex (x : Int) (hx : Wd x) (w : World) : Calls Try.prog 83 #[.int .u64 x] w (Split x w) := by
  have h := split_any x hx w
  obtain ⟨h0, h1⟩ := hx
  exact h.mono fun e w' ⟨he, hw⟩ => ⟨_, _, he, ⟨by omega, by omega⟩, ⟨by omega, by omega⟩, by show _ = _; omega, hw⟩
def Subbed (a b c : Int) (w : World) (e : Ending) (w' : World) : Prop := ∃ y u : Int, e = .returned (.tuple #[.int .u32 y, .int .u32 u]) ∧ Hf y ∧ 0 ≤ u ∧ u ≤ 1 ∧ Hid (a - b - c = y - 4294967296 * u) ∧ w = w'
theorem subHalf_ex (a b c : Int) (ha : Hf a) (hb : Hf b) (h0 : 0 ≤ c) (h1 : c ≤ 1) (w : World) : Calls Try.prog 96 #[.int .u32 a, .int .u32 b, .int .u32 c] w (Subbed a b c w) := by
  have h := subHalf_any a b c ha hb h0 h1 w
  obtain ⟨a0, a1⟩ := ha; obtain ⟨b0, b1⟩ := hb
  exact h.mono fun e w' ⟨he, hw⟩ => ⟨_, _, he, ⟨by omega, by omega⟩, by omega, by omega, by show _ = _; omega, hw⟩
end Go.Proofs.Ytmelipbanbihdaa
