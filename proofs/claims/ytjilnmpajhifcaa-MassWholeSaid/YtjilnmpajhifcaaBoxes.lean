/- A slice of two things of several cells each, made at once; a whole box stored in a region that draws; what a box holds as a range. -/
import Derived.Test.YtjilnmpajhifcaaBox
import Derived.Great.BuildSlice
namespace Go.Proofs.Ytjilnmpajhifcaa
open Go.RowKit
/-- Cells laid one by one, from a place on. -/
theorem fold_off : ∀ (l : List Value) (k off : Nat) (z : Array Value), off + k + l.length ≤ z.size → (l.zipIdx k).foldl (fun (cs : Array Value) (x : Value × Nat) => cs.setIfInBounds (off + x.2) x.1) z = (z.toList.take (off + k) ++ l ++ z.toList.drop (off + k + l.length)).toArray := by
  intro l
  induction l with
  | nil => intro k off z _; simp
  | cons a t ih =>
    intro k off z h
    rw [List.length_cons] at h
    rw [List.zipIdx_cons, List.foldl_cons, ih (k + 1) off (z.setIfInBounds (off + k) a) (by simp; omega)]
    congr 1
    have hk : off + k < z.toList.length := by simp; omega
    rw [Array.toList_setIfInBounds, ← Nat.add_assoc, List.take_succ_eq_append_getElem (by simp; omega), List.take_set_of_le (Nat.le_refl _), List.getElem_set_self, List.drop_set_of_lt (by omega), List.length_cons]
    simp [Nat.add_assoc, Nat.add_comm 1]
theorem fill_two (s : Nat) (X Y : List Value) (z : Array Value) (hX : X.length = s) (hY : Y.length = s) (hz : z.size = 2 * s) :
    Instr.fill (fun i => some (i * s, s)) z [(0, .agg X.toArray), (1, .agg Y.toArray)] = some (X ++ Y).toArray := by
  have f1 := fold_off X 0 0 z (by omega)
  have f2 := fold_off Y 0 s (X ++ z.toList.drop s).toArray (by simp; omega)
  have e1 : ((Value.agg X.toArray).cells.zipIdx.foldl (fun cs (c, j) => cs.setIfInBounds (0 * s + j) c) z) = (X ++ z.toList.drop s).toArray := by
    rw [← Array.foldl_toList, Array.toList_zipIdx]
    simp only [Value.cells]
    simp only [Nat.zero_mul]
    rw [f1]; simp [hX]
  have e2 : ((Value.agg Y.toArray).cells.zipIdx.foldl (fun cs (c, j) => cs.setIfInBounds (1 * s + j) c) (X ++ z.toList.drop s).toArray) = (X ++ Y).toArray := by
    rw [← Array.foldl_toList, Array.toList_zipIdx]
    simp only [Value.cells]
    simp only [Nat.one_mul]
    rw [f2]
    have ht : List.take s (X ++ List.drop s z.toList) = X := by rw [List.take_append_of_le_length (by omega), List.take_of_length_le (by omega)]
    have hd : List.drop (s + s) (X ++ List.drop s z.toList) = [] := List.drop_eq_nil_of_le (by simp; omega)
    simp [hY, ht, hd]
  unfold Instr.fill
  dsimp only
  rw [if_neg (by simp [Value.cells, hX, hz]; omega), e1]
  unfold Instr.fill
  dsimp only
  rw [if_neg (by simp [Value.cells, hX, hY, hz]; omega), e2]
  rfl
theorem wpList_build_two {t e : TypeId} {s b : Nat} (hT : RowT t e s b) (hs : 2 * s ≤ 16777216) {ops : Array Oper} {rest : List Oper} {o : Oper} {a : Act} {w : World} {Q : Exit → Act → World → Prop} (hg : o.guard = none) (x y : Operand) (ho : o.op = .buildSlice t 2 #[(0, x), (1, y)])
    (X Y : List Value) (hx : a.eval x = .agg X.toArray) (hy : a.eval y = .agg Y.toArray) (lX : X.length = s) (lY : Y.length = s)
    (h : wpList Try.prog ops Q rest (a.put o.dst (.slice (some ⟨w.heap.size, 0, none⟩) 2 2)) (w.alloc (.cells (X ++ Y).toArray e))) : wpList Try.prog ops Q (o :: rest) a w := by
  obtain ⟨i, z, hi, hz, hsz, _, hzs⟩ := hT.inf
  have hp := hT.pos
  refine wpList_buildSlice hg t e 2 _ ho _ i z hT.und hi hz (by rw [hsz]; omega) (by rw [hsz]; omega) ?_ h
  rw [hsz]
  have e : ((#[(0, x), (1, y)] : Array (Nat × Operand)).map fun (i, x) => (i, a.eval x)).toList = [(0, .agg X.toArray), (1, .agg Y.toArray)] := by simp [hx, hy]
  rw [e]
  exact fill_two s X Y _ lX lY (by simp)
theorem Bx.range_ {t : TypeId} {w : World} {g : Nat} {cs : List Value} (h : Bx t w g cs) : w.rangeAt g 0 cs := fun j v hj => by rw [Nat.zero_add]; exact h.cell hj
/-- A row of two, new. -/
theorem two_new (w : World) {t : TypeId} {s : Nat} {X Y : List Value} (lX : X.length = s) (lY : Y.length = s) : S0 s (w.alloc (.cells (X ++ Y).toArray t)) (some ⟨w.heap.size, 0, none⟩) 2 [X, Y] :=
  (R0.new (s := s) w t (C := [X, Y]) (cs := (X ++ Y).toArray) (by intro c hc; simp at hc; rcases hc with rfl | rfl <;> assumption) (by simp)).slice
end Go.Proofs.Ytjilnmpajhifcaa
