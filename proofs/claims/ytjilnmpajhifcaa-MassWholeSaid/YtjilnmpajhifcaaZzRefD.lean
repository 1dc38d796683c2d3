/- The document's division: the walk. -/
import Derived.Test.YtjilnmpajhifcaaZzRefA
import Derived.Test.YtjilnmpajhifcaaZzRefB
import Derived.Test.YtjilnmpajhifcaaZzLimA
import Derived.Test.YtjilnmpajhifcaaZzRefC
namespace Go.Proofs.Ytjilnmpajhifcaa
open Go.RowKit

theorem frozen_late {W : World} {B j : Nat} (h : W.heap.size ≤ B) : W.frozen? ⟨B, j, none⟩ = false := by simp [World.frozen?, Array.getElem?_eq_none h]
/-- Both numbers, room for the answer, the rest so far, the quotient's words so far. -/
structure Dv (w : World) (a3 a2 a1 a0 b1 b0 r1 r0 : Int) (Q : Nat) (X : World) : Prop where
  a : Has (w.heap.size) [.int .u64 a3, .int .u64 a2, .int .u64 a1, .int .u64 a0] X
  b : Has (w.heap.size + 1) [.int .u64 b1, .int .u64 b0] X
  res : Has (w.heap.size + 1 + 1) [.int .u64 0, .int .u64 0, .int .u64 0, .int .u64 0, .int .u64 0, .int .u64 0, .bool false] X
  out : Has (w.heap.size + 1 + 1 + 1) [.int .u64 0, .int .u64 0, .int .u64 0, .int .u64 0, .int .u64 r1, .int .u64 r0, .bool true] X
  size : w.heap.size + 1 + 1 + 1 + 1 < X.heap.size
  q : ∀ j, j < 4 → X.cell? ⟨w.heap.size + 1 + 1 + 1 + 1, j, none⟩ = some (.int .u64 (wd Q j))
  zr : Clear (w.heap.size + 1 + 1) X
  zo : Clear (w.heap.size + 1 + 1 + 1) X
  zq : Clear (w.heap.size + 1 + 1 + 1 + 1) X
  below : Below w.heap.size w X
section
variable {w : World} {a3 a2 a1 a0 b1 b0 r1 r0 : Int} {Q : Nat} {X Y : World}
theorem Dv.step (h : Dv w a3 a2 a1 a0 b1 b0 r1 r0 Q X) (g : Below X.heap.size X Y) : Dv w a3 a2 a1 a0 b1 b0 r1 r0 Q Y :=
  ⟨h.a.step g, h.b.step g, h.res.step g, h.out.step g, Nat.lt_of_lt_of_le h.size g.size, fun j hj => by rw [(bcell g).1 _ _ h.size]; exact h.q j hj, fun j => by rw [(bcell g).2 _ _ h.res.1]; exact h.zr j, fun j => by rw [(bcell g).2 _ _ h.out.1]; exact h.zo j, fun j => by rw [(bcell g).2 _ _ h.size]; exact h.zq j, bl_trans h.below g⟩
theorem Has.mk7 {B : Nat} {x0 x1 x2 x3 x4 x5 x6 : Value} {W : World} (h : B < W.heap.size) (h0 : W.cell? ⟨B, 0, none⟩ = some x0) (h1 : W.cell? ⟨B, 1, none⟩ = some x1) (h2 : W.cell? ⟨B, 2, none⟩ = some x2) (h3 : W.cell? ⟨B, 3, none⟩ = some x3) (h4 : W.cell? ⟨B, 4, none⟩ = some x4) (h5 : W.cell? ⟨B, 5, none⟩ = some x5) (h6 : W.cell? ⟨B, 6, none⟩ = some x6) : Has B [x0, x1, x2, x3, x4, x5, x6] W := by
  refine ⟨h, fun j x e => ?_⟩
  rcases (show j = 0 ∨ j = 1 ∨ j = 2 ∨ j = 3 ∨ j = 4 ∨ j = 5 ∨ j = 6 ∨ 7 ≤ j by omega) with rfl | rfl | rfl | rfl | rfl | rfl | rfl | g
  · simp at e; subst e; exact h0
  · simp at e; subst e; exact h1
  · simp at e; subst e; exact h2
  · simp at e; subst e; exact h3
  · simp at e; subst e; exact h4
  · simp at e; subst e; exact h5
  · simp at e; subst e; exact h6
  · rw [List.getElem?_eq_none (by simpa using g)] at e; cases e
theorem Dv.rest (h : Dv w a3 a2 a1 a0 b1 b0 r1 r0 Q X) (n1 n0 : Int) : Dv w a3 a2 a1 a0 b1 b0 n1 n0 Q ((X.setCell ⟨w.heap.size + 1 + 1 + 1, 4, none⟩ (.int .u64 n1)).setCell ⟨w.heap.size + 1 + 1 + 1, 5, none⟩ (.int .u64 n0)) := by
  have hW : Wrote (w.heap.size + 1 + 1 + 1) 4 2 X ((X.setCell ⟨w.heap.size + 1 + 1 + 1, 4, none⟩ (.int .u64 n1)).setCell ⟨w.heap.size + 1 + 1 + 1, 5, none⟩ (.int .u64 n0)) :=
    Wrote.setCell (Wrote.setCell (Wrote.refl _ _ _ _) (by decide) (by decide) _) (by decide) (by decide) _
  have o0 := h.out.2 0 _ rfl; have o1 := h.out.2 1 _ rfl; have o2 := h.out.2 2 _ rfl; have o3 := h.out.2 3 _ rfl; have o4 := h.out.2 4 _ rfl; have o5 := h.out.2 5 _ rfl; have o6 := h.out.2 6 _ rfl
  refine ⟨⟨Nat.lt_of_lt_of_le h.a.1 hW.size, fun j x e => ?_⟩, ⟨Nat.lt_of_lt_of_le h.b.1 hW.size, fun j x e => ?_⟩, ⟨Nat.lt_of_lt_of_le h.res.1 hW.size, fun j x e => ?_⟩,
    Has.mk7 (Nat.lt_of_lt_of_le h.out.1 hW.size) (by rw [hW.cells 0 (Or.inl (by decide))]; exact o0) (by rw [hW.cells 1 (Or.inl (by decide))]; exact o1) (by rw [hW.cells 2 (Or.inl (by decide))]; exact o2) (by rw [hW.cells 3 (Or.inl (by decide))]; exact o3) (by simp [go_sem, *]) (by simp [go_sem, *]) (by rw [hW.cells 6 (Or.inr (by decide))]; exact o6),
    Nat.lt_of_lt_of_le h.size hW.size, fun j hj => ?_, fun j => ?_, fun j => ?_, fun j => ?_, ?_⟩
  · rw [hW.other h.a.1 (by omega)]; exact h.a.2 j x e
  · rw [hW.other h.b.1 (by omega)]; exact h.b.2 j x e
  · rw [hW.other h.res.1 (by omega)]; exact h.res.2 j x e
  · rw [hW.other h.size (by omega)]; exact h.q j hj
  · rw [World.frozen?_of_block (a := ⟨w.heap.size + 1 + 1, j, none⟩) (hW.block (w.heap.size + 1 + 1) h.res.1 (by omega))]; exact h.zr j
  · rw [hW.frozen]; exact h.zo j
  · rw [World.frozen?_of_block (a := ⟨w.heap.size + 1 + 1 + 1 + 1, j, none⟩) (hW.block (w.heap.size + 1 + 1 + 1 + 1) h.size (by omega))]; exact h.zq j
  · exact h.below.trans (hW.below (B0 := w.heap.size) (by omega) (by have := h.below.size; omega))
theorem Dv.quot (h : Dv w a3 a2 a1 a0 b1 b0 r1 r0 Q X) {Q' m : Nat} {x : Int} (hx : x = wd Q' m) (ho : ∀ j, j ≠ m → wd Q' j = wd Q j) (hm : m < 4) : Dv w a3 a2 a1 a0 b1 b0 r1 r0 Q' (X.setCell ⟨w.heap.size + 1 + 1 + 1 + 1, m, none⟩ (.int .u64 x)) := by
  have hW : Wrote (w.heap.size + 1 + 1 + 1 + 1) m 1 X (X.setCell ⟨w.heap.size + 1 + 1 + 1 + 1, m, none⟩ (.int .u64 x)) := Wrote.setCell (Wrote.refl _ _ _ _) (Nat.le_refl _) (Nat.lt_succ_self _) _
  have hq := h.q m hm
  refine ⟨⟨Nat.lt_of_lt_of_le h.a.1 hW.size, fun j x e => ?_⟩, ⟨Nat.lt_of_lt_of_le h.b.1 hW.size, fun j x e => ?_⟩, ⟨Nat.lt_of_lt_of_le h.res.1 hW.size, fun j x e => ?_⟩, ⟨Nat.lt_of_lt_of_le h.out.1 hW.size, fun j x e => ?_⟩,
    Nat.lt_of_lt_of_le h.size hW.size, fun j hj => ?_, fun j => ?_, fun j => ?_, fun j => ?_, ?_⟩
  · rw [hW.other h.a.1 (by omega)]; exact h.a.2 j x e
  · rw [hW.other h.b.1 (by omega)]; exact h.b.2 j x e
  · rw [hW.other h.res.1 (by omega)]; exact h.res.2 j x e
  · rw [hW.other h.out.1 (by omega)]; exact h.out.2 j x e
  · rcases Nat.lt_trichotomy j m with c | c | c
    · rw [hW.cells j (Or.inl c), ho j (by omega)]; exact h.q j hj
    · subst c; rw [← hx]; simp [go_sem, *]
    · rw [hW.cells j (Or.inr (by omega)), ho j (by omega)]; exact h.q j hj
  · rw [World.frozen?_of_block (a := ⟨w.heap.size + 1 + 1, j, none⟩) (hW.block (w.heap.size + 1 + 1) h.res.1 (by omega))]; exact h.zr j
  · rw [World.frozen?_of_block (a := ⟨w.heap.size + 1 + 1 + 1, j, none⟩) (hW.block (w.heap.size + 1 + 1 + 1) h.out.1 (by omega))]; exact h.zo j
  · rw [hW.frozen]; exact h.zq j
  · exact h.below.trans (hW.below (B0 := w.heap.size) (by omega) (by have := h.below.size; omega))
end
end Go.Proofs.Ytjilnmpajhifcaa
namespace Go.Proofs.Ytjilnmpajhifcaa
open Go.RowKit

end Go.Proofs.Ytjilnmpajhifcaa
namespace Go.Proofs.Ytjilnmpajhifcaa
open Go.RowKit

theorem field_rsum (x0 x1 x2 : Value) (w : World) : (Instr.field 56 (.agg #[x0, x1, x2]) 0).run Try.prog w = .ok (.agg #[x0, x1]) w := by kernel_rfl
end Go.Proofs.Ytjilnmpajhifcaa
