/- LimbOrder: products of sums are sums of products, where there is room; the order of two makes no difference. For any three numbers of two words, without conditions. -/
import Derived.Test.YtgcblfaommhpbaaRefSum
import Derived.Test.YtgcblfaommhpbaaAwake
import Derived.Test.YtgcblfaommhpbaaInv
import Derived.Test.YtgcblfaommhpbaaTakeOut
import Derived.Test.YtgcblfaommhpbaaMulAny
namespace Go.Proofs.Ytgcblfaommhpbaa
open Go.ChangeShapes Go.WideShapes Go.ChangeAt Go.RowKit Go.Joins

/-- A block that an operation may have laid, and another may have filled. -/
def Dk (l : Bool) (t : Value) (m : Bool) (cs zs : List Value) (R w : World) : Prop := l = true → ∃ b : Nat, t = .pointer (some ⟨b, 0, none⟩) ∧ R.heap.size ≤ b ∧ Has b (if m = true then cs else zs) w ∧ Clear b w
theorem Dk.step {l m : Bool} {t : Value} {cs zs : List Value} {R w w' : World} (h : Dk l t m cs zs R w) (g : Below w.heap.size w w') : Dk l t m cs zs R w' := fun e => by
  obtain ⟨b, e1, e2, e3, e4⟩ := h e
  exact ⟨b, e1, e2, e3.step g, fun j => by rw [(bcell g).2 _ _ e3.1]; exact e4 j⟩
theorem Dk.wrote {l m : Bool} {t : Value} {cs zs : List Value} {R w w' : World} {B : Nat} (h : Dk l t m cs zs R w) (g : Wrote B 0 4 w w') (n : l = true → t ≠ .pointer (some ⟨B, 0, none⟩)) : Dk l t m cs zs R w' := fun e => by
  obtain ⟨b, e1, e2, e3, e4⟩ := h e
  have hb : b ≠ B := fun h => n e (by rw [e1, h])
  exact ⟨b, e1, e2, ⟨Nat.lt_of_lt_of_le e3.1 g.size, fun j x hj => by rw [g.other e3.1 hb]; exact e3.2 j x hj⟩, fun j => by rw [World.frozen?_of_block (a := ⟨b, j, none⟩) (g.block b e3.1 hb)]; exact e4 j⟩
/-- Two blocks are not one. -/
def Ap (l m : Bool) (t u : Value) : Prop := l = true → m = true → t ≠ u
theorem Dk.far {l m : Bool} {t : Value} {cs zs : List Value} {R w : World} (h : Dk l t m cs zs R w) : l = true → t ≠ .pointer (some ⟨w.heap.size, 0, none⟩) := fun e => by
  obtain ⟨b, e1, e2, e3, e4⟩ := h e
  rw [e1]
  intro k
  simp at k
  have := e3.1
  omega
theorem frozen_order {W : World} {B j : Nat} (h : W.heap.size ≤ B) : W.frozen? ⟨B, j, none⟩ = false := by simp [World.frozen?, Array.getElem?_eq_none h]
theorem Dk.laid {w R : World} {cs : List Value} {x y z v : Value} {T : TypeId} (h : R.heap.size ≤ w.heap.size) : Dk true (.pointer (some ⟨w.heap.size, 0, none⟩)) false cs [x, y, z, v] R (w.alloc (.cells #[x, y, z, v] T)) := fun _ =>
  ⟨w.heap.size, rfl, h, Has.mk4 (by simp) (by simp [go_sem]) (by simp [go_sem]) (by simp [go_sem]) (by simp [go_sem]), fun j => by rw [frozen?_alloc_cells]; exact frozen_order (Nat.le_refl _)⟩
theorem ne_four_false (a3 a2 a1 a0 : Int) : ∀ W, (Go.binOp .neq 26 (.agg #[.int .u64 a3, .int .u64 a2, .int .u64 a1, .int .u64 a0]) (.agg #[.int .u64 a3, .int .u64 a2, .int .u64 a1, .int .u64 a0])).run Try.prog W = .ok (.bool false) W := fun W => by
  simp [go_sem]
theorem eq_four_true (a3 a2 a1 a0 : Int) : ∀ W, (Go.binOp .eql 26 (.agg #[.int .u64 a3, .int .u64 a2, .int .u64 a1, .int .u64 a0]) (.agg #[.int .u64 a3, .int .u64 a2, .int .u64 a1, .int .u64 a0])).run Try.prog W = .ok (.bool true) W := fun W => by
  simp [go_sem]
end Go.Proofs.Ytgcblfaommhpbaa
