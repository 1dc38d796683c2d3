/- The document's Shr. -/
import Derived.Test.YtnedljclkhpdpaaZzRefA
import Derived.Test.YtnedljclkhpdpaaZzLimC
import Derived.Test.YtnedljclkhpdpaaZzLimA
import Derived.Deep.LoopGhost
import Derived.Test.YtnedljclkhpdpaaZzLimB
namespace Go.Proofs.Ytnedljclkhpdpaa
open Go.RowKit

theorem frozen_past {W : World} {B j : Nat} (h : W.heap.size ≤ B) : W.frozen? ⟨B, j, none⟩ = false := by simp [World.frozen?, Array.getElem?_eq_none h]
/-- What stands between the steps: both numbers, room for the answer, what has come so far. -/
structure Mt (w : World) (O : Nat) (a1 a0 b1 b0 o3 o2 o1 o0 : Int) (X : World) : Prop where
  a : Has w.heap.size [.int .u64 a1, .int .u64 a0] X
  b : Has (w.heap.size + 1) [.int .u64 b1, .int .u64 b0] X
  r : Has (w.heap.size + 1 + 1) [.int .u64 0, .int .u64 0, .int .u64 0, .int .u64 0] X
  o : Has O [.int .u64 o3, .int .u64 o2, .int .u64 o1, .int .u64 o0] X
  zr : Clear (w.heap.size + 1 + 1) X
  zo : Clear O X
  below : Below w.heap.size w X
theorem Mt.stored {w : World} {O : Nat} {a1 a0 b1 b0 o3 o2 o1 o0 : Int} {R y : World} (h : Mt w O a1 a0 b1 b0 o3 o2 o1 o0 R) (g : Below R.heap.size R y) (n : w.heap.size + 1 + 1 < O) (m3 m2 m1 m0 : Int) :
    Mt w O a1 a0 b1 b0 m3 m2 m1 m0 ((((y.setCell ⟨O, 0, none⟩ (.int .u64 m3)).setCell ⟨O, 1, none⟩ (.int .u64 m2)).setCell ⟨O, 2, none⟩ (.int .u64 m1)).setCell ⟨O, 3, none⟩ (.int .u64 m0)) := by
  have hW : Wrote O 0 4 y ((((y.setCell ⟨O, 0, none⟩ (.int .u64 m3)).setCell ⟨O, 1, none⟩ (.int .u64 m2)).setCell ⟨O, 2, none⟩ (.int .u64 m1)).setCell ⟨O, 3, none⟩ (.int .u64 m0)) :=
    Wrote.setCell (Wrote.setCell (Wrote.setCell (Wrote.setCell (Wrote.refl _ _ _ _) (by decide) (by decide) _) (by decide) (by decide) _) (by decide) (by decide) _) (by decide) (by decide) _
  have hs := g.size
  have ha := h.a.step g; have hb := h.b.step g; have hr := h.r.step g; have ho := h.o.step g
  have co0 := ho.2 0 _ rfl; have co1 := ho.2 1 _ rfl; have co2 := ho.2 2 _ rfl; have co3 := ho.2 3 _ rfl
  refine ⟨⟨Nat.lt_of_lt_of_le ha.1 hW.size, fun j x e => ?_⟩, ⟨Nat.lt_of_lt_of_le hb.1 hW.size, fun j x e => ?_⟩, ⟨Nat.lt_of_lt_of_le hr.1 hW.size, fun j x e => ?_⟩,
    Has.mk4 (Nat.lt_of_lt_of_le ho.1 hW.size) (by simp [go_sem, *]) (by simp [go_sem, *]) (by simp [go_sem, *]) (by simp [go_sem, *]), fun j => ?_, fun j => ?_, ?_⟩
  · rw [hW.other ha.1 (by omega)]; exact ha.2 j x e
  · rw [hW.other hb.1 (by omega)]; exact hb.2 j x e
  · rw [hW.other hr.1 (by omega)]; exact hr.2 j x e
  · rw [World.frozen?_of_block (a := ⟨w.heap.size + 1 + 1, j, none⟩) (hW.block (w.heap.size + 1 + 1) hr.1 (by omega)), (bcell g).2 _ _ h.r.1]; exact h.zr j
  · rw [hW.frozen, (bcell g).2 _ _ h.o.1]; exact h.zo j
  · exact (bl_trans h.below g).trans (hW.below (B0 := w.heap.size) (by omega) (by have := ha.1; omega))
end Go.Proofs.Ytnedljclkhpdpaa
namespace Go.Proofs.Ytnedljclkhpdpaa
open Go.RowKit

theorem ret_four {a b c d a' b' c' d' : Int} (h1 : a = a') (h2 : b = b') (h3 : c = c') (h4 : d = d') :
    Ending.returned (.agg #[.int .u64 a, .int .u64 b, .int .u64 c, .int .u64 d]) = .returned (.agg #[.int .u64 a', .int .u64 b', .int .u64 c', .int .u64 d']) := by rw [h1, h2, h3, h4]
/-- What the document's words leave: a slice of four new cells. -/
def Worded (a3 a2 a1 a0 : Int) (w : World) (e : Ending) (w' : World) : Prop :=
  e = .returned (.slice (some ⟨w.heap.size + 1, 0, none⟩) 4 4) ∧ Has (w.heap.size + 1) [.int .u64 a0, .int .u64 a1, .int .u64 a2, .int .u64 a3] w' ∧ Below w.heap.size w w'
theorem four_at {a3 a2 a1 a0 : Int} (h3 : Wd a3) (h2 : Wd a2) (h1 : Wd a1) (h0 : Wd a0) {q : Nat} (hq : q < 4) :
    ([.int .u64 a0, .int .u64 a1, .int .u64 a2, .int .u64 a3] : List Value)[q]? = some (.int .u64 (wd (v4 a3 a2 a1 a0) q)) := by
  rcases (show q = 0 ∨ q = 1 ∨ q = 2 ∨ q = 3 by omega) with rfl | rfl | rfl | rfl
  · rw [wd_v4_0 h3 h2 h1 h0]; rfl
  · rw [wd_v4_1 h3 h2 h1 h0]; rfl
  · rw [wd_v4_2 h3 h2 h1 h0]; rfl
  · rw [wd_v4_3 h3 h2 h1 h0]; rfl
theorem cmp_less {A B k : Nat} (hA : A < 115792089237316195423570985008687907853269984665640564039457584007913129639936) (hB : B < 115792089237316195423570985008687907853269984665640564039457584007913129639936) (hk : k < 4) (h : ∀ j, k < j → j < 4 → wd A j = wd B j) (g : wd A k < wd B k) : A < B := by
  rcases (show k = 0 ∨ k = 1 ∨ k = 2 ∨ k = 3 by omega) with rfl | rfl | rfl | rfl
  · have h1 := h 1 (by decide) (by decide); have h2 := h 2 (by decide) (by decide); have h3 := h 3 (by decide) (by decide)
    rw [wd1, wd1] at h1; rw [wd2, wd2] at h2; rw [wd3, wd3] at h3; rw [wd0, wd0] at g; omega
  · have h2 := h 2 (by decide) (by decide); have h3 := h 3 (by decide) (by decide)
    rw [wd2, wd2] at h2; rw [wd3, wd3] at h3; rw [wd1, wd1] at g; omega
  · have h3 := h 3 (by decide) (by decide)
    rw [wd3, wd3] at h3; rw [wd2, wd2] at g; omega
  · rw [wd3, wd3] at g; omega
theorem cmp_same {A B : Nat} (hA : A < 115792089237316195423570985008687907853269984665640564039457584007913129639936) (hB : B < 115792089237316195423570985008687907853269984665640564039457584007913129639936) (h : ∀ j, 0 ≤ j → j < 4 → wd A j = wd B j) : A = B := by
  have h0 := h 0 (by decide) (by decide); have h1 := h 1 (by decide) (by decide); have h2 := h 2 (by decide) (by decide); have h3 := h 3 (by decide) (by decide)
  rw [wd0, wd0] at h0; rw [wd1, wd1] at h1; rw [wd2, wd2] at h2; rw [wd3, wd3] at h3; omega
end Go.Proofs.Ytnedljclkhpdpaa
namespace Go.Proofs.Ytnedljclkhpdpaa
open Go.RowKit

theorem rt_room {N k : Nat} (h : isq N < 340282366920938463463374607431768211456) (hk : k < 128) : rt N (k + 1) + 2 ^ k < 340282366920938463463374607431768211456 := by
  unfold rt
  have e : (340282366920938463463374607431768211456 : Nat) = 2 ^ (127 - k) * 2 ^ (k + 1) := by
    rw [← Nat.pow_add, show 127 - k + (k + 1) = 128 by omega]
  have hp := Nat.two_pow_pos k
  have h1 : isq N / 2 ^ (k + 1) < 2 ^ (127 - k) := by rw [Nat.div_lt_iff_lt_mul (Nat.two_pow_pos _), ← e]; exact h
  have h2 := Nat.mul_le_mul_right (2 ^ (k + 1)) (show isq N / 2 ^ (k + 1) + 1 ≤ 2 ^ (127 - k) from h1)
  rw [← e, Nat.add_mul, Nat.one_mul] at h2
  have h3 : (2 : Nat) ^ (k + 1) = 2 ^ k * 2 := Nat.pow_succ 2 k
  omega
/-- What stands at a round's head: the number, room for the answer, the root's bits that have come. -/
structure Rh (w : World) (a3 a2 a1 a0 s1 s0 : Int) (X : World) : Prop where
  a : Has w.heap.size [.int .u64 a3, .int .u64 a2, .int .u64 a1, .int .u64 a0] X
  r : Has (w.heap.size + 1) [.int .u64 0, .int .u64 0] X
  s : Has (w.heap.size + 1 + 1) [.int .u64 s1, .int .u64 s0] X
  zr : Clear (w.heap.size + 1) X
  zs : Clear (w.heap.size + 1 + 1) X
  below : Below w.heap.size w X
theorem Rh.step {w : World} {a3 a2 a1 a0 s1 s0 : Int} {X Y : World} (h : Rh w a3 a2 a1 a0 s1 s0 X) (g : Below X.heap.size X Y) : Rh w a3 a2 a1 a0 s1 s0 Y :=
  ⟨h.a.step g, h.r.step g, h.s.step g, fun j => by rw [(bcell g).2 _ _ h.r.1]; exact h.zr j, fun j => by rw [(bcell g).2 _ _ h.s.1]; exact h.zs j, bl_trans h.below g⟩
theorem Rh.stored {w : World} {a3 a2 a1 a0 s1 s0 : Int} {X : World} (h : Rh w a3 a2 a1 a0 s1 s0 X) (t1 t0 : Int) :
    Rh w a3 a2 a1 a0 t1 t0 ((X.setCell ⟨w.heap.size + 1 + 1, 0, none⟩ (.int .u64 t1)).setCell ⟨w.heap.size + 1 + 1, 1, none⟩ (.int .u64 t0)) := by
  have hW : Wrote (w.heap.size + 1 + 1) 0 2 X ((X.setCell ⟨w.heap.size + 1 + 1, 0, none⟩ (.int .u64 t1)).setCell ⟨w.heap.size + 1 + 1, 1, none⟩ (.int .u64 t0)) :=
    Wrote.setCell (Wrote.setCell (Wrote.refl _ _ _ _) (by decide) (by decide) _) (by decide) (by decide) _
  have hs := h.s
  have cs0 := hs.2 0 _ rfl; have cs1 := hs.2 1 _ rfl
  refine ⟨⟨Nat.lt_of_lt_of_le h.a.1 hW.size, fun j x e => ?_⟩, ⟨Nat.lt_of_lt_of_le h.r.1 hW.size, fun j x e => ?_⟩, Has.mk2 (Nat.lt_of_lt_of_le hs.1 hW.size) (by simp [go_sem, *]) (by simp [go_sem, *]), fun j => ?_, fun j => ?_, ?_⟩
  · rw [hW.other h.a.1 (by omega)]; exact h.a.2 j x e
  · rw [hW.other h.r.1 (by omega)]; exact h.r.2 j x e
  · rw [World.frozen?_of_block (a := ⟨w.heap.size + 1, j, none⟩) (hW.block (w.heap.size + 1) h.r.1 (by omega))]; exact h.zr j
  · rw [hW.frozen]; exact h.zs j
  · exact h.below.trans (hW.below (B0 := w.heap.size) (by omega) (by have := h.a.1; omega))
end Go.Proofs.Ytnedljclkhpdpaa
namespace Go.Proofs.Ytnedljclkhpdpaa
open Go.RowKit

theorem frozen_new {W : World} {B j : Nat} (h : W.heap.size ≤ B) : W.frozen? ⟨B, j, none⟩ = false := by simp [World.frozen?, Array.getElem?_eq_none h]
/-- The words of M up to k, and noughts. -/
def upto (M k j : Nat) : Int := if j < k then wd M j else 0
theorem upto_all (M j : Nat) (h : j < 4) : upto M 4 j = wd M j := if_pos h
theorem upto_none (M j : Nat) : upto M 0 j = 0 := if_neg (by omega)
theorem upto_at (M k : Nat) : upto M k k = 0 := if_neg (by omega)
/-- Room for the answer, the number's words, the answer's words up to k. -/
structure Sh (w : World) (W O : Nat) (a3 a2 a1 a0 : Int) (M k : Nat) (X : World) : Prop where
  r : Has (w.heap.size + 1) [.int .u64 0, .int .u64 0, .int .u64 0, .int .u64 0] X
  a : Has W [.int .u64 a0, .int .u64 a1, .int .u64 a2, .int .u64 a3] X
  size : O < X.heap.size
  o : ∀ j, j < 4 → X.cell? ⟨O, j, none⟩ = some (.int .u64 (upto M k j))
  zr : Clear (w.heap.size + 1) X
  zo : Clear O X
  below : Below w.heap.size w X
theorem Sh.step {w : World} {W O : Nat} {a3 a2 a1 a0 : Int} {M k : Nat} {X Y : World} (h : Sh w W O a3 a2 a1 a0 M k X) (g : Below X.heap.size X Y) : Sh w W O a3 a2 a1 a0 M k Y :=
  ⟨h.r.step g, h.a.step g, Nat.lt_of_lt_of_le h.size g.size, fun j hj => by rw [(bcell g).1 _ _ h.size]; exact h.o j hj, fun j => by rw [(bcell g).2 _ _ h.r.1]; exact h.zr j, fun j => by rw [(bcell g).2 _ _ h.size]; exact h.zo j, bl_trans h.below g⟩
theorem Sh.kept {w : World} {W O : Nat} {a3 a2 a1 a0 : Int} {M k : Nat} {X : World} (h : Sh w W O a3 a2 a1 a0 M k X) (e : wd M k = 0) : Sh w W O a3 a2 a1 a0 M (k + 1) X := by
  refine ⟨h.r, h.a, h.size, fun j hj => ?_, h.zr, h.zo, h.below⟩
  rw [h.o j hj]
  congr 2
  unfold upto
  rcases Nat.lt_trichotomy j k with c | c | c
  · rw [if_pos c, if_pos (by omega)]
  · subst c; rw [if_neg (by omega), if_pos (by omega), e]
  · rw [if_neg (by omega), if_neg (by omega)]
theorem Sh.wrote {w : World} {W O : Nat} {a3 a2 a1 a0 : Int} {M k : Nat} {X Y : World} (h : Sh w W O a3 a2 a1 a0 M k X) (hW : Wrote O k 1 X Y) (nr : w.heap.size + 1 ≠ O) (nw : W ≠ O) (hO : w.heap.size ≤ O) (e : Y.cell? ⟨O, k, none⟩ = some (.int .u64 (wd M k))) :
    Sh w W O a3 a2 a1 a0 M (k + 1) Y := by
  refine ⟨⟨Nat.lt_of_lt_of_le h.r.1 hW.size, fun j x g => ?_⟩, ⟨Nat.lt_of_lt_of_le h.a.1 hW.size, fun j x g => ?_⟩, Nat.lt_of_lt_of_le h.size hW.size, fun j hj => ?_, fun j => ?_, fun j => ?_, ?_⟩
  · rw [hW.other h.r.1 nr]; exact h.r.2 j x g
  · rw [hW.other h.a.1 nw]; exact h.a.2 j x g
  · unfold upto
    rcases Nat.lt_trichotomy j k with c | c | c
    · rw [hW.cells j (Or.inl c), h.o j hj]; unfold upto; rw [if_pos c, if_pos (by omega)]
    · subst c; rw [if_pos (by omega)]; exact e
    · rw [hW.cells j (Or.inr (by omega)), h.o j hj]; unfold upto; rw [if_neg (by omega), if_neg (by omega)]
  · rw [World.frozen?_of_block (a := ⟨w.heap.size + 1, j, none⟩) (hW.block (w.heap.size + 1) h.r.1 nr)]; exact h.zr j
  · rw [hW.frozen]; exact h.zo j
  · exact h.below.trans (hW.below (B0 := w.heap.size) hO (by have := h.below.size; omega))
end Go.Proofs.Ytnedljclkhpdpaa
namespace Go.Proofs.Ytnedljclkhpdpaa
open Go.RowKit

end Go.Proofs.Ytnedljclkhpdpaa
namespace Go.Proofs.Ytnedljclkhpdpaa
open Go.RowKit

end Go.Proofs.Ytnedljclkhpdpaa
