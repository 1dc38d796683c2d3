/- Div: the greatest quotient, and the rest. -/
import Derived.Test.YtnedljclkhpdpaaZzLimA
import Derived.Laws.IdiomCopy
namespace Go.Proofs.Ytnedljclkhpdpaa
open Go.RowKit

/-- Five cells of a block from o on. -/
def Five (B o : Nat) (y0 y1 y2 y3 y4 : Int) (w : World) : Prop := w.cell? ⟨B, o, none⟩ = some (.int .u32 y0) ∧ w.cell? ⟨B, o + 1, none⟩ = some (.int .u32 y1) ∧ w.cell? ⟨B, o + 2, none⟩ = some (.int .u32 y2) ∧ w.cell? ⟨B, o + 3, none⟩ = some (.int .u32 y3) ∧ w.cell? ⟨B, o + 4, none⟩ = some (.int .u32 y4)
def Taken (B o : Nat) (R V t : Int) (w : World) (e : Ending) (w' : World) : Prop := ∃ y0 y1 y2 y3 y4 u : Int, e = .returned (.bool (u != 0)) ∧ Hf y0 ∧ Hf y1 ∧ Hf y2 ∧ Hf y3 ∧ Hf y4 ∧ 0 ≤ u ∧ u ≤ 1 ∧
  hv5 y0 y1 y2 y3 y4 = R - t * V + u * 1461501637330902918203684832716283019655932542976 ∧ Wrote B o 5 w w' ∧ Five B o y0 y1 y2 y3 y4 w'
def Given (B o : Nat) (R V : Int) (w : World) (e : Ending) (w' : World) : Prop := ∃ y0 y1 y2 y3 y4 u : Int, e = .returned (.tuple #[]) ∧ Hf y0 ∧ Hf y1 ∧ Hf y2 ∧ Hf y3 ∧ Hf y4 ∧ 0 ≤ u ∧ u ≤ 1 ∧
  hv5 y0 y1 y2 y3 y4 = R + V - u * 1461501637330902918203684832716283019655932542976 ∧ Wrote B o 5 w w' ∧ Five B o y0 y1 y2 y3 y4 w'
theorem half_mul {t v : Int} (ht : Hf t) (hv : Hf v) : 0 ≤ t * v ∧ t * v ≤ 18446744065119617025 := by
  obtain ⟨t0, t1⟩ := ht; obtain ⟨v0, v1⟩ := hv
  have p1 : 0 ≤ t * v := Int.mul_nonneg t0 v0
  have p2 : t * v ≤ t * 4294967295 := Int.mul_le_mul_of_nonneg_left (by omega) t0
  exact ⟨p1, by omega⟩
end Go.Proofs.Ytnedljclkhpdpaa
namespace Go.Proofs.Ytnedljclkhpdpaa
open Go.RowKit

theorem hv5_lt {a b c d e : Int} (h0 : Hf a) (h1 : Hf b) (h2 : Hf c) (h3 : Hf d) (h4 : Hf e) : 0 ≤ hv5 a b c d e ∧ hv5 a b c d e < 1461501637330902918203684832716283019655932542976 := by
  obtain ⟨_, _⟩ := h0; obtain ⟨_, _⟩ := h1; obtain ⟨_, _⟩ := h2; obtain ⟨_, _⟩ := h3; obtain ⟨_, _⟩ := h4
  unfold hv5 hv4; omega
theorem hv4_lt {a b c d : Int} (h0 : Hf a) (h1 : Hf b) (h2 : Hf c) (h3 : Hf d) : 0 ≤ hv4 a b c d ∧ hv4 a b c d < 340282366920938463463374607431768211456 := by
  obtain ⟨_, _⟩ := h0; obtain ⟨_, _⟩ := h1; obtain ⟨_, _⟩ := h2; obtain ⟨_, _⟩ := h3
  unfold hv4; omega
theorem Wrote.other {B o n b j : Nat} {w w' : World} (h : Wrote B o n w w') (hb : b < w.heap.size) (hn : b ≠ B) : w'.cell? ⟨b, j, none⟩ = w.cell? ⟨b, j, none⟩ := World.cell?_of_block (h.block b hb hn)
def TookOut (B o : Nat) (R V : Int) (w : World) (e : Ending) (w' : World) : Prop := ∃ y0 y1 y2 y3 y4 q : Int, e = .returned (.int .u32 q) ∧ Hf q ∧ Hf y0 ∧ Hf y1 ∧ Hf y2 ∧ Hf y3 ∧ Hf y4 ∧
  hv5 y0 y1 y2 y3 y4 = R - q * V ∧ hv5 y0 y1 y2 y3 y4 < V ∧ Wrote B o 5 w w' ∧ Five B o y0 y1 y2 y3 y4 w'
end Go.Proofs.Ytnedljclkhpdpaa
namespace Go.Proofs.Ytnedljclkhpdpaa
open Go.RowKit
end Go.Proofs.Ytnedljclkhpdpaa
namespace Go.Proofs.Ytnedljclkhpdpaa
open Go.RowKit
theorem big_pow {n : Nat} (h : 256 ≤ n) : 115792089237316195423570985008687907853269984665640564039457584007913129639936 ≤ 2 ^ n := by
  rw [show (115792089237316195423570985008687907853269984665640564039457584007913129639936 : Nat) = 2 ^ 256 by decide]
  exact Nat.pow_le_pow_right (by decide) h
end Go.Proofs.Ytnedljclkhpdpaa
namespace Go.Proofs.Ytnedljclkhpdpaa
open Go.RowKit

/-- Twelve cells of a block. -/
def Twelve (B : Nat) (x0 x1 x2 x3 x4 x5 x6 x7 x8 x9 x10 x11 : Int) (w : World) : Prop := w.cell? ⟨B, 0, none⟩ = some (.int .u32 x0) ∧ w.cell? ⟨B, 1, none⟩ = some (.int .u32 x1) ∧ w.cell? ⟨B, 2, none⟩ = some (.int .u32 x2) ∧ w.cell? ⟨B, 3, none⟩ = some (.int .u32 x3) ∧ w.cell? ⟨B, 4, none⟩ = some (.int .u32 x4) ∧ w.cell? ⟨B, 5, none⟩ = some (.int .u32 x5) ∧ w.cell? ⟨B, 6, none⟩ = some (.int .u32 x6) ∧ w.cell? ⟨B, 7, none⟩ = some (.int .u32 x7) ∧ w.cell? ⟨B, 8, none⟩ = some (.int .u32 x8) ∧ w.cell? ⟨B, 9, none⟩ = some (.int .u32 x9) ∧ w.cell? ⟨B, 10, none⟩ = some (.int .u32 x10) ∧ w.cell? ⟨B, 11, none⟩ = some (.int .u32 x11)
/-- A block that is not frozen anywhere. -/
def Clear (B : Nat) (w : World) : Prop := ∀ j, w.frozen? ⟨B, j, none⟩ = false
theorem rounds_gen {P : Program} {c : Code} {Q : Exit → Act → World → Prop} {n : Nat} {a : Act} {W : World} (φ : World → Prop) (h : φ W) (k : ∀ w, φ w → Code.rounds P c Q n a w) : Code.rounds P c Q n a W := k W h
theorem field_four (x0 x1 x2 x3 : Value) (w : World) : (Instr.field 59 (.agg #[x0, x1, x2, x3]) 0).run Try.prog w = .ok (.agg #[x0, x1]) w ∧ (Instr.field 59 (.agg #[x0, x1, x2, x3]) 1).run Try.prog w = .ok (.agg #[x2, x3]) w :=
  ⟨by kernel_rfl, by kernel_rfl⟩
end Go.Proofs.Ytnedljclkhpdpaa
namespace Go.Proofs.Ytnedljclkhpdpaa
open Go.RowKit

theorem calls_gen {P : Program} {f : FuncId} {args : Array Value} {W : World} {Q : Ending → World → Prop} (φ : World → Prop) (h : φ W) (k : ∀ w, φ w → Calls P f args w Q) : Calls P f args W Q := k W h
def Eight (B : Nat) (x0 x1 x2 x3 x4 x5 x6 x7 : Int) (w : World) : Prop := w.cell? ⟨B, 0, none⟩ = some (.int .u32 x0) ∧ w.cell? ⟨B, 1, none⟩ = some (.int .u32 x1) ∧ w.cell? ⟨B, 2, none⟩ = some (.int .u32 x2) ∧ w.cell? ⟨B, 3, none⟩ = some (.int .u32 x3) ∧ w.cell? ⟨B, 4, none⟩ = some (.int .u32 x4) ∧ w.cell? ⟨B, 5, none⟩ = some (.int .u32 x5) ∧ w.cell? ⟨B, 6, none⟩ = some (.int .u32 x6) ∧ w.cell? ⟨B, 7, none⟩ = some (.int .u32 x7)
def Quad (B : Nat) (x0 x1 x2 x3 : Int) (w : World) : Prop := w.cell? ⟨B, 0, none⟩ = some (.int .u32 x0) ∧ w.cell? ⟨B, 1, none⟩ = some (.int .u32 x1) ∧ w.cell? ⟨B, 2, none⟩ = some (.int .u32 x2) ∧ w.cell? ⟨B, 3, none⟩ = some (.int .u32 x3)
theorem Quad.other {B o n b : Nat} {x0 x1 x2 x3 : Int} {w w' : World} (h : Quad b x0 x1 x2 x3 w) (hw : Wrote B o n w w') (hb : b < w.heap.size) (hn : b ≠ B) : Quad b x0 x1 x2 x3 w' := by
  obtain ⟨c0, c1, c2, c3⟩ := h
  refine ⟨?_, ?_, ?_, ?_⟩ <;> (rw [hw.other hb hn]; assumption)
theorem Eight.other {B o n b : Nat} {x0 x1 x2 x3 x4 x5 x6 x7 : Int} {w w' : World} (h : Eight b x0 x1 x2 x3 x4 x5 x6 x7 w) (hw : Wrote B o n w w') (hb : b < w.heap.size) (hn : b ≠ B) : Eight b x0 x1 x2 x3 x4 x5 x6 x7 w' := by
  obtain ⟨c0, c1, c2, c3, c4, c5, c6, c7⟩ := h
  refine ⟨?_, ?_, ?_, ?_, ?_, ?_, ?_, ?_⟩ <;> (rw [hw.other hb hn]; assumption)
theorem Clear.other {B o n b : Nat} {w w' : World} (h : Clear b w) (hw : Wrote B o n w w') (hb : b < w.heap.size) (hn : b ≠ B) : Clear b w' := fun j => by
  rw [World.frozen?_of_block (hw.block b hb hn)]; exact h j
theorem Clear.wrote {B o n : Nat} {w w' : World} (h : Clear B w) (hw : Wrote B o n w w') : Clear B w' := fun j => by rw [hw.frozen]; exact h j
theorem Twelve.win0 {B : Nat} {x0 x1 x2 x3 x4 x5 x6 x7 x8 x9 x10 x11 y0 y1 y2 y3 y4 : Int} {w w' : World} (h : Twelve B x0 x1 x2 x3 x4 x5 x6 x7 x8 x9 x10 x11 w) (hw : Wrote B 0 5 w w') (hF : Five B 0 y0 y1 y2 y3 y4 w') : Twelve B y0 y1 y2 y3 y4 x5 x6 x7 x8 x9 x10 x11 w' := by
  obtain ⟨D0, D1, D2, D3, D4, D5, D6, D7, D8, D9, D10, D11⟩ := h
  obtain ⟨F0, F1, F2, F3, F4⟩ := hF
  exact ⟨F0, F1, F2, F3, F4, (by rw [hw.cells 5 (by omega)]; exact D5), (by rw [hw.cells 6 (by omega)]; exact D6), (by rw [hw.cells 7 (by omega)]; exact D7), (by rw [hw.cells 8 (by omega)]; exact D8), (by rw [hw.cells 9 (by omega)]; exact D9), (by rw [hw.cells 10 (by omega)]; exact D10), (by rw [hw.cells 11 (by omega)]; exact D11)⟩
theorem Twelve.win1 {B : Nat} {x0 x1 x2 x3 x4 x5 x6 x7 x8 x9 x10 x11 y0 y1 y2 y3 y4 : Int} {w w' : World} (h : Twelve B x0 x1 x2 x3 x4 x5 x6 x7 x8 x9 x10 x11 w) (hw : Wrote B 1 5 w w') (hF : Five B 1 y0 y1 y2 y3 y4 w') : Twelve B x0 y0 y1 y2 y3 y4 x6 x7 x8 x9 x10 x11 w' := by
  obtain ⟨D0, D1, D2, D3, D4, D5, D6, D7, D8, D9, D10, D11⟩ := h
  obtain ⟨F0, F1, F2, F3, F4⟩ := hF
  exact ⟨(by rw [hw.cells 0 (by omega)]; exact D0), F0, F1, F2, F3, F4, (by rw [hw.cells 6 (by omega)]; exact D6), (by rw [hw.cells 7 (by omega)]; exact D7), (by rw [hw.cells 8 (by omega)]; exact D8), (by rw [hw.cells 9 (by omega)]; exact D9), (by rw [hw.cells 10 (by omega)]; exact D10), (by rw [hw.cells 11 (by omega)]; exact D11)⟩
theorem Twelve.win2 {B : Nat} {x0 x1 x2 x3 x4 x5 x6 x7 x8 x9 x10 x11 y0 y1 y2 y3 y4 : Int} {w w' : World} (h : Twelve B x0 x1 x2 x3 x4 x5 x6 x7 x8 x9 x10 x11 w) (hw : Wrote B 2 5 w w') (hF : Five B 2 y0 y1 y2 y3 y4 w') : Twelve B x0 x1 y0 y1 y2 y3 y4 x7 x8 x9 x10 x11 w' := by
  obtain ⟨D0, D1, D2, D3, D4, D5, D6, D7, D8, D9, D10, D11⟩ := h
  obtain ⟨F0, F1, F2, F3, F4⟩ := hF
  exact ⟨(by rw [hw.cells 0 (by omega)]; exact D0), (by rw [hw.cells 1 (by omega)]; exact D1), F0, F1, F2, F3, F4, (by rw [hw.cells 7 (by omega)]; exact D7), (by rw [hw.cells 8 (by omega)]; exact D8), (by rw [hw.cells 9 (by omega)]; exact D9), (by rw [hw.cells 10 (by omega)]; exact D10), (by rw [hw.cells 11 (by omega)]; exact D11)⟩
theorem Twelve.win3 {B : Nat} {x0 x1 x2 x3 x4 x5 x6 x7 x8 x9 x10 x11 y0 y1 y2 y3 y4 : Int} {w w' : World} (h : Twelve B x0 x1 x2 x3 x4 x5 x6 x7 x8 x9 x10 x11 w) (hw : Wrote B 3 5 w w') (hF : Five B 3 y0 y1 y2 y3 y4 w') : Twelve B x0 x1 x2 y0 y1 y2 y3 y4 x8 x9 x10 x11 w' := by
  obtain ⟨D0, D1, D2, D3, D4, D5, D6, D7, D8, D9, D10, D11⟩ := h
  obtain ⟨F0, F1, F2, F3, F4⟩ := hF
  exact ⟨(by rw [hw.cells 0 (by omega)]; exact D0), (by rw [hw.cells 1 (by omega)]; exact D1), (by rw [hw.cells 2 (by omega)]; exact D2), F0, F1, F2, F3, F4, (by rw [hw.cells 8 (by omega)]; exact D8), (by rw [hw.cells 9 (by omega)]; exact D9), (by rw [hw.cells 10 (by omega)]; exact D10), (by rw [hw.cells 11 (by omega)]; exact D11)⟩
theorem Twelve.win4 {B : Nat} {x0 x1 x2 x3 x4 x5 x6 x7 x8 x9 x10 x11 y0 y1 y2 y3 y4 : Int} {w w' : World} (h : Twelve B x0 x1 x2 x3 x4 x5 x6 x7 x8 x9 x10 x11 w) (hw : Wrote B 4 5 w w') (hF : Five B 4 y0 y1 y2 y3 y4 w') : Twelve B x0 x1 x2 x3 y0 y1 y2 y3 y4 x9 x10 x11 w' := by
  obtain ⟨D0, D1, D2, D3, D4, D5, D6, D7, D8, D9, D10, D11⟩ := h
  obtain ⟨F0, F1, F2, F3, F4⟩ := hF
  exact ⟨(by rw [hw.cells 0 (by omega)]; exact D0), (by rw [hw.cells 1 (by omega)]; exact D1), (by rw [hw.cells 2 (by omega)]; exact D2), (by rw [hw.cells 3 (by omega)]; exact D3), F0, F1, F2, F3, F4, (by rw [hw.cells 9 (by omega)]; exact D9), (by rw [hw.cells 10 (by omega)]; exact D10), (by rw [hw.cells 11 (by omega)]; exact D11)⟩
theorem Twelve.win5 {B : Nat} {x0 x1 x2 x3 x4 x5 x6 x7 x8 x9 x10 x11 y0 y1 y2 y3 y4 : Int} {w w' : World} (h : Twelve B x0 x1 x2 x3 x4 x5 x6 x7 x8 x9 x10 x11 w) (hw : Wrote B 5 5 w w') (hF : Five B 5 y0 y1 y2 y3 y4 w') : Twelve B x0 x1 x2 x3 x4 y0 y1 y2 y3 y4 x10 x11 w' := by
  obtain ⟨D0, D1, D2, D3, D4, D5, D6, D7, D8, D9, D10, D11⟩ := h
  obtain ⟨F0, F1, F2, F3, F4⟩ := hF
  exact ⟨(by rw [hw.cells 0 (by omega)]; exact D0), (by rw [hw.cells 1 (by omega)]; exact D1), (by rw [hw.cells 2 (by omega)]; exact D2), (by rw [hw.cells 3 (by omega)]; exact D3), (by rw [hw.cells 4 (by omega)]; exact D4), F0, F1, F2, F3, F4, (by rw [hw.cells 10 (by omega)]; exact D10), (by rw [hw.cells 11 (by omega)]; exact D11)⟩
theorem Twelve.win6 {B : Nat} {x0 x1 x2 x3 x4 x5 x6 x7 x8 x9 x10 x11 y0 y1 y2 y3 y4 : Int} {w w' : World} (h : Twelve B x0 x1 x2 x3 x4 x5 x6 x7 x8 x9 x10 x11 w) (hw : Wrote B 6 5 w w') (hF : Five B 6 y0 y1 y2 y3 y4 w') : Twelve B x0 x1 x2 x3 x4 x5 y0 y1 y2 y3 y4 x11 w' := by
  obtain ⟨D0, D1, D2, D3, D4, D5, D6, D7, D8, D9, D10, D11⟩ := h
  obtain ⟨F0, F1, F2, F3, F4⟩ := hF
  exact ⟨(by rw [hw.cells 0 (by omega)]; exact D0), (by rw [hw.cells 1 (by omega)]; exact D1), (by rw [hw.cells 2 (by omega)]; exact D2), (by rw [hw.cells 3 (by omega)]; exact D3), (by rw [hw.cells 4 (by omega)]; exact D4), (by rw [hw.cells 5 (by omega)]; exact D5), F0, F1, F2, F3, F4, (by rw [hw.cells 11 (by omega)]; exact D11)⟩
theorem Twelve.win7 {B : Nat} {x0 x1 x2 x3 x4 x5 x6 x7 x8 x9 x10 x11 y0 y1 y2 y3 y4 : Int} {w w' : World} (h : Twelve B x0 x1 x2 x3 x4 x5 x6 x7 x8 x9 x10 x11 w) (hw : Wrote B 7 5 w w') (hF : Five B 7 y0 y1 y2 y3 y4 w') : Twelve B x0 x1 x2 x3 x4 x5 x6 y0 y1 y2 y3 y4 w' := by
  obtain ⟨D0, D1, D2, D3, D4, D5, D6, D7, D8, D9, D10, D11⟩ := h
  obtain ⟨F0, F1, F2, F3, F4⟩ := hF
  exact ⟨(by rw [hw.cells 0 (by omega)]; exact D0), (by rw [hw.cells 1 (by omega)]; exact D1), (by rw [hw.cells 2 (by omega)]; exact D2), (by rw [hw.cells 3 (by omega)]; exact D3), (by rw [hw.cells 4 (by omega)]; exact D4), (by rw [hw.cells 5 (by omega)]; exact D5), (by rw [hw.cells 6 (by omega)]; exact D6), F0, F1, F2, F3, F4⟩
/-- What Div has laid ahead of its first call. -/
structure DivPro (w : World) (a3 a2 a1 a0 b1 b0 : Int) (W : World) : Prop where
  size : w.heap.size + 3 < W.heap.size
  below : Below w.heap.size w W
  ca0 : W.cell? ⟨w.heap.size, 0, none⟩ = some (.int .u64 a3)
  ca1 : W.cell? ⟨w.heap.size, 1, none⟩ = some (.int .u64 a2)
  ca2 : W.cell? ⟨w.heap.size, 2, none⟩ = some (.int .u64 a1)
  ca3 : W.cell? ⟨w.heap.size, 3, none⟩ = some (.int .u64 a0)
  cb0 : W.cell? ⟨w.heap.size + 1, 0, none⟩ = some (.int .u64 b1)
  cb1 : W.cell? ⟨w.heap.size + 1, 1, none⟩ = some (.int .u64 b0)
  cq0 : W.cell? ⟨w.heap.size + 2, 0, none⟩ = some (.int .u64 0)
  cq1 : W.cell? ⟨w.heap.size + 2, 1, none⟩ = some (.int .u64 0)
  cq2 : W.cell? ⟨w.heap.size + 2, 2, none⟩ = some (.int .u64 0)
  cq3 : W.cell? ⟨w.heap.size + 2, 3, none⟩ = some (.int .u64 0)
  cr0 : W.cell? ⟨w.heap.size + 3, 0, none⟩ = some (.int .u64 0)
  cr1 : W.cell? ⟨w.heap.size + 3, 1, none⟩ = some (.int .u64 0)
  zq : Clear (w.heap.size + 2) W
  zr : Clear (w.heap.size + 3) W
theorem DivPro.step {w : World} {a3 a2 a1 a0 b1 b0 : Int} {W W' : World} (h : DivPro w a3 a2 a1 a0 b1 b0 W) (g : Below W.heap.size W W') : DivPro w a3 a2 a1 a0 b1 b0 W' := by
  have hs := h.size
  have c := (bcell g).1
  refine ⟨Nat.lt_of_lt_of_le h.size g.size, bl_trans h.below g, ?_, ?_, ?_, ?_, ?_, ?_, ?_, ?_, ?_, ?_, ?_, ?_, fun j => ?_, fun j => ?_⟩
  · rw [c _ _ (by omega)]; exact h.ca0
  · rw [c _ _ (by omega)]; exact h.ca1
  · rw [c _ _ (by omega)]; exact h.ca2
  · rw [c _ _ (by omega)]; exact h.ca3
  · rw [c _ _ (by omega)]; exact h.cb0
  · rw [c _ _ (by omega)]; exact h.cb1
  · rw [c _ _ (by omega)]; exact h.cq0
  · rw [c _ _ (by omega)]; exact h.cq1
  · rw [c _ _ (by omega)]; exact h.cq2
  · rw [c _ _ (by omega)]; exact h.cq3
  · rw [c _ _ (by omega)]; exact h.cr0
  · rw [c _ _ (by omega)]; exact h.cr1
  · rw [(bcell g).2 _ _ (by omega)]; exact h.zq j
  · rw [(bcell g).2 _ _ (by omega)]; exact h.zr j

end Go.Proofs.Ytnedljclkhpdpaa
