/- Rows of whole numbers in blocks of one's own. -/
import Derived.Test.YtnedljclkhpdpaaSortMem
import Derived.Laws.MakeOwn
namespace Go.Proofs.Ytnedljclkhpdpaa
open Go.RowKit
/-- A block of n whole numbers. -/
def Ir (t : TypeId) (w : World) (g n : Nat) (F : Nat → Int) : Prop :=
  ∃ cur : Array Value, w.heap[g]? = some (.cells cur t (0, 0)) ∧ cur.size = n ∧ ∀ j, j < n → cur[j]? = some (.int .i64 (F j))
section
variable {t : TypeId} {w w' : World} {g n : Nat} {F : Nat → Int}
theorem Ir.lt (h : Ir t w g n F) : g < w.heap.size := by
  obtain ⟨cur, hh, _⟩ := h
  rcases Nat.lt_or_ge g w.heap.size with hlt | hge
  · exact hlt
  · rw [Array.getElem?_eq_none hge] at hh; cases hh
theorem Ir.frz (h : Ir t w g n F) (j : Nat) : w.frozen? ⟨g, j, none⟩ = false := by
  obtain ⟨cur, hh, _⟩ := h
  simp [World.frozen?, hh]
theorem Ir.cell (h : Ir t w g n F) {j : Nat} (hj : j < n) : w.cell? ⟨g, j, none⟩ = some (.int .i64 (F j)) := by
  obtain ⟨cur, hh, _, hc⟩ := h
  rw [cell_of_row w g _ cur _ (0, 0) hh]
  exact hc j hj
theorem Ir.block (h : Ir t w g n F) (e : w'.heap[g]? = w.heap[g]?) : Ir t w' g n F := by
  obtain ⟨cur, hh, r⟩ := h; exact ⟨cur, e.trans hh, r⟩
theorem Ir.below (h : Ir t w g n F) (k : Below w.heap.size w w') : Ir t w' g n F := h.block (k.block g h.lt)
theorem Ir.drew (h : Ir t w g n F) : Ir t w.drew g n F := h
theorem Ir.alloc (h : Ir t w g n F) (o : Obj) : Ir t (w.alloc o) g n F := h.block (Below.heap_alloc w o g h.lt)
theorem Ir.far (h : Ir t w g n F) {p : Addr} (hp : g ≠ p.block) (v : Value) : Ir t (w.setCell p v) g n F := h.block (Below.heap_setCell w p v g hp)
theorem Ir.put (h : Ir t w g n F) {j : Nat} (hj : j < n) (x : Int) : Ir t (w.setCell ⟨g, j, none⟩ (.int .i64 x)) g n (fun i => if i = j then x else F i) := by
  obtain ⟨cur, hh, hs, hc⟩ := h
  refine ⟨cur.setIfInBounds j (.int .i64 x), ?_, by simpa using hs, fun i hi => ?_⟩
  · simp [World.setCell, Array.getElem?_modify, hh]
  show _ = some (Value.int .i64 (if i = j then x else F i))
  by_cases c : i = j
  · subst c; rw [if_pos rfl, Array.getElem?_setIfInBounds_self_of_lt (by omega)]
  · rw [if_neg c, Array.getElem?_setIfInBounds_ne (by omega)]; exact hc i hi
theorem Ir.congr (h : Ir t w g n F) {G : Nat → Int} (e : ∀ j, j < n → F j = G j) : Ir t w g n G := by
  obtain ⟨cur, hh, hs, hc⟩ := h
  exact ⟨cur, hh, hs, fun j hj => by rw [← e j hj]; exact hc j hj⟩
end
theorem Ir.of_cells {t : TypeId} (w : World) {cs : Array Value} {n : Nat} (h : cs.size = n) (z : ∀ j, j < n → cs[j]? = some (.int .i64 0)) : Ir t (w.alloc (.cells cs t)) w.heap.size n (fun _ => 0) :=
  ⟨cs, heap_alloc_new w _, h, z⟩
end Go.Proofs.Ytnedljclkhpdpaa
