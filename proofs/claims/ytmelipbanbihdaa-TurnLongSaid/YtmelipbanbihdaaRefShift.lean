/- The document's shifts: what stands between the rounds. -/
import Derived.Test.YtmelipbanbihdaaRefWords
import Derived.Test.YtmelipbanbihdaaTakeOut
namespace Go.Proofs.Ytmelipbanbihdaa
open Go.RowKit

theorem frozen_new {W : World} {B j : Nat} (h : W.heap.size ≤ B) : W.frozen? ⟨B, j, none⟩ = false := by simp [World.frozen?, Array.getElem?_eq_none h]
/-- The words of M up to k, and noughts. -/
def upto (M k j : Nat) : Int := if j < k then wd M j else 0
theorem upto_all (M j : Nat) (h : j < 4) : upto M 4 j = wd M j := if_pos h
theorem upto_none (M j : Nat) : upto M 0 j = 0 := if_neg (by omega)
theorem upto_at (M k : Nat) : upto M k k = 0 := if_neg (by omega)
/-- Room for the answer, the number's words, the answer's words up to k. -/
structure Sh (w : World) (W O : Nat) (a3 a2 a1 a0 : Int) (M k : Nat) (X : World) : Prop where
  r : Has (w.heap.size + 1) [.int .u64 0, .int .u64 0, .int .u64 0, .int .u64 0] X
  a : Has W [.int .u64 a0, .int .u64 a1, .int .u64 a2, .int .u64 a3] X
  size : O < X.heap.size
  o : ∀ j, j < 4 → X.cell? ⟨O, j, none⟩ = some (.int .u64 (upto M k j))
  zr : Clear (w.heap.size + 1) X
  zo : Clear O X
  below : Below w.heap.size w X
theorem Sh.step {w : World} {W O : Nat} {a3 a2 a1 a0 : Int} {M k : Nat} {X Y : World} (h : Sh w W O a3 a2 a1 a0 M k X) (g : Below X.heap.size X Y) : Sh w W O a3 a2 a1 a0 M k Y :=
  ⟨h.r.step g, h.a.step g, Nat.lt_of_lt_of_le h.size g.size, fun j hj => by rw [(bcell g).1 _ _ h.size]; exact h.o j hj, fun j => by rw [(bcell g).2 _ _ h.r.1]; exact h.zr j, fun j => by rw [(bcell g).2 _ _ h.size]; exact h.zo j, bl_trans h.below g⟩
theorem Sh.kept {w : World} {W O : Nat} {a3 a2 a1 a0 : Int} {M k : Nat} {X : World} (h : Sh w W O a3 a2 a1 a0 M k X) (e : wd M k = 0) : Sh w W O a3 a2 a1 a0 M (k + 1) X := by
  refine ⟨h.r, h.a, h.size, fun j hj => ?_, h.zr, h.zo, h.below⟩
  rw [h.o j hj]
  congr 2
  unfold upto
  rcases Nat.lt_trichotomy j k with c | c | c
  · rw [if_pos c, if_pos (by omega)]
  · subst c; rw [if_neg (by omega), if_pos (by omega), e]
  · rw [if_neg (by omega), if_neg (by omega)]
theorem Sh.wrote {w : World} {W O : Nat} {a3 a2 a1 a0 : Int} {M k : Nat} {X Y : World} (h : Sh w W O a3 a2 a1 a0 M k X) (hW : Wrote O k 1 X Y) (nr : w.heap.size + 1 ≠ O) (nw : W ≠ O) (hO : w.heap.size ≤ O) (e : Y.cell? ⟨O, k, none⟩ = some (.int .u64 (wd M k))) :
    Sh w W O a3 a2 a1 a0 M (k + 1) Y := by
  refine ⟨⟨Nat.lt_of_lt_of_le h.r.1 hW.size, fun j x g => ?_⟩, ⟨Nat.lt_of_lt_of_le h.a.1 hW.size, fun j x g => ?_⟩, Nat.lt_of_lt_of_le h.size hW.size, fun j hj => ?_, fun j => ?_, fun j => ?_, ?_⟩
  · rw [hW.other h.r.1 nr]; exact h.r.2 j x g
  · rw [hW.other h.a.1 nw]; exact h.a.2 j x g
  · unfold upto
    rcases Nat.lt_trichotomy j k with c | c | c
    · rw [hW.cells j (Or.inl c), h.o j hj]; unfold upto; rw [if_pos c, if_pos (by omega)]
    · subst c; rw [if_pos (by omega)]; exact e
    · rw [hW.cells j (Or.inr (by omega)), h.o j hj]; unfold upto; rw [if_neg (by omega), if_neg (by omega)]
  · rw [World.frozen?_of_block (a := ⟨w.heap.size + 1, j, none⟩) (hW.block (w.heap.size + 1) h.r.1 nr)]; exact h.zr j
  · rw [hW.frozen]; exact h.zo j
  · exact h.below.trans (hW.below (B0 := w.heap.size) hO (by have := h.below.size; omega))
end Go.Proofs.Ytmelipbanbihdaa
