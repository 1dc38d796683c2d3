/- The document's By: one body at a time laid in among those ahead of it. -/
import Derived.Test.YtjilnmpajhifcaaSortDoc1
namespace Go.Proofs.Ytjilnmpajhifcaa
open Go.RowKit
theorem info_parts {t : TypeId} {q : Nat} {z : Value} (h : (Try.prog.info? t).map (fun i => (i.zero, i.size, i.bytes)) = some (some z, q, 16)) : ∃ i, Try.prog.info? t = some i ∧ i.zero = some z ∧ i.size = q ∧ i.bytes = 16 := by
  cases hi : Try.prog.info? t with
  | none => rw [hi] at h; cases h
  | some i => rw [hi] at h; simp only [Option.map_some, Option.some.injEq, Prod.mk.injEq] at h; exact ⟨i, rfl, h.1, h.2.1, h.2.2⟩
theorem Ks.asFlat {w : World} {a : Addr} {n : Nat} {L : List (Nat × Int)} (h : Ks w (some a) n L) (j : Nat) (u : Value) (hu : (flat L)[j]? = some u) : a.block < w.heap.size ∧ w.cell? (a.add j) = some u := by
  obtain ⟨x, hx, hc⟩ := flat_of hu
  have hl := (List.getElem?_eq_some_iff.1 hx).1
  obtain ⟨B, o, e, hb, hcell⟩ := h.2 (by have := h.1; omega)
  obtain rfl : a = ⟨B, o, none⟩ := by injection e
  obtain ⟨c0, c1⟩ := hcell _ x hx
  refine ⟨hb, ?_⟩
  rw [WideShapes.add_plain]
  rcases hc with ⟨hm, rfl⟩ | ⟨hm, rfl⟩
  · rw [show o + j = o + j / 2 * 2 by omega]; exact c0
  · rw [show o + j = o + j / 2 * 2 + 1 by omega]; exact c1
theorem own_none (w : World) (e : TypeId) : (w.alloc (.cells #[] e)).ownsRow w.heap.size e 2 (.slice (some ⟨w.heap.size, 0, none⟩) 0 0) 0 [] :=
  ⟨rfl, .inr ⟨w.heap.size, 0, #[], rfl, Nat.le_refl _, heap_alloc_new w _, Nat.le_refl _, Nat.zero_le _, rfl, rfl⟩⟩
theorem set_mid {α : Type} (P T : List α) (x y z : α) : ((P ++ y :: x :: T).set (P.length + 1) y).set P.length z = P ++ z :: y :: T := by
  induction P with
  | nil => rfl
  | cons a t ih => simp
end Go.Proofs.Ytjilnmpajhifcaa
