/- Div: the greatest quotient, and the rest. -/
import Derived.Test.YtmelipbanbihdaaTakeOut
import Derived.Test.YtmelipbanbihdaaDvd
import Derived.Test.YtmelipbanbihdaaDivEnd
namespace Go.Proofs.Ytmelipbanbihdaa
open Go.RowKit

theorem calls_gen {P : Program} {f : FuncId} {args : Array Value} {W : World} {Q : Ending → World → Prop} (φ : World → Prop) (h : φ W) (k : ∀ w, φ w → Calls P f args w Q) : Calls P f args W Q := k W h
def Eight (B : Nat) (x0 x1 x2 x3 x4 x5 x6 x7 : Int) (w : World) : Prop := w.cell? ⟨B, 0, none⟩ = some (.int .u32 x0) ∧ w.cell? ⟨B, 1, none⟩ = some (.int .u32 x1) ∧ w.cell? ⟨B, 2, none⟩ = some (.int .u32 x2) ∧ w.cell? ⟨B, 3, none⟩ = some (.int .u32 x3) ∧ w.cell? ⟨B, 4, none⟩ = some (.int .u32 x4) ∧ w.cell? ⟨B, 5, none⟩ = some (.int .u32 x5) ∧ w.cell? ⟨B, 6, none⟩ = some (.int .u32 x6) ∧ w.cell? ⟨B, 7, none⟩ = some (.int .u32 x7)
def Quad (B : Nat) (x0 x1 x2 x3 : Int) (w : World) : Prop := w.cell? ⟨B, 0, none⟩ = some (.int .u32 x0) ∧ w.cell? ⟨B, 1, none⟩ = some (.int .u32 x1) ∧ w.cell? ⟨B, 2, none⟩ = some (.int .u32 x2) ∧ w.cell? ⟨B, 3, none⟩ = some (.int .u32 x3)
theorem Quad.other {B o n b : Nat} {x0 x1 x2 x3 : Int} {w w' : World} (h : Quad b x0 x1 x2 x3 w) (hw : Wrote B o n w w') (hb : b < w.heap.size) (hn : b ≠ B) : Quad b x0 x1 x2 x3 w' := by
  obtain ⟨c0, c1, c2, c3⟩ := h
  refine ⟨?_, ?_, ?_, ?_⟩ <;> (rw [hw.other hb hn]; assumption)
theorem Eight.other {B o n b : Nat} {x0 x1 x2 x3 x4 x5 x6 x7 : Int} {w w' : World} (h : Eight b x0 x1 x2 x3 x4 x5 x6 x7 w) (hw : Wrote B o n w w') (hb : b < w.heap.size) (hn : b ≠ B) : Eight b x0 x1 x2 x3 x4 x5 x6 x7 w' := by
  obtain ⟨c0, c1, c2, c3, c4, c5, c6, c7⟩ := h
  refine ⟨?_, ?_, ?_, ?_, ?_, ?_, ?_, ?_⟩ <;> (rw [hw.other hb hn]; assumption)
theorem Clear.other {B o n b : Nat} {w w' : World} (h : Clear b w) (hw : Wrote B o n w w') (hb : b < w.heap.size) (hn : b ≠ B) : Clear b w' := fun j => by
  rw [World.frozen?_of_block (hw.block b hb hn)]; exact h j
theorem Clear.wrote {B o n : Nat} {w w' : World} (h : Clear B w) (hw : Wrote B o n w w') : Clear B w' := fun j => by rw [hw.frozen]; exact h j
theorem Twelve.win0 {B : Nat} {x0 x1 x2 x3 x4 x5 x6 x7 x8 x9 x10 x11 y0 y1 y2 y3 y4 : Int} {w w' : World} (h : Twelve B x0 x1 x2 x3 x4 x5 x6 x7 x8 x9 x10 x11 w) (hw : Wrote B 0 5 w w') (hF : Five B 0 y0 y1 y2 y3 y4 w') : Twelve B y0 y1 y2 y3 y4 x5 x6 x7 x8 x9 x10 x11 w' := by
  obtain ⟨D0, D1, D2, D3, D4, D5, D6, D7, D8, D9, D10, D11⟩ := h
  obtain ⟨F0, F1, F2, F3, F4⟩ := hF
  exact ⟨F0, F1, F2, F3, F4, (by rw [hw.cells 5 (by omega)]; exact D5), (by rw [hw.cells 6 (by omega)]; exact D6), (by rw [hw.cells 7 (by omega)]; exact D7), (by rw [hw.cells 8 (by omega)]; exact D8), (by rw [hw.cells 9 (by omega)]; exact D9), (by rw [hw.cells 10 (by omega)]; exact D10), (by rw [hw.cells 11 (by omega)]; exact D11)⟩
theorem Twelve.win1 {B : Nat} {x0 x1 x2 x3 x4 x5 x6 x7 x8 x9 x10 x11 y0 y1 y2 y3 y4 : Int} {w w' : World} (h : Twelve B x0 x1 x2 x3 x4 x5 x6 x7 x8 x9 x10 x11 w) (hw : Wrote B 1 5 w w') (hF : Five B 1 y0 y1 y2 y3 y4 w') : Twelve B x0 y0 y1 y2 y3 y4 x6 x7 x8 x9 x10 x11 w' := by
  obtain ⟨D0, D1, D2, D3, D4, D5, D6, D7, D8, D9, D10, D11⟩ := h
  obtain ⟨F0, F1, F2, F3, F4⟩ := hF
  exact ⟨(by rw [hw.cells 0 (by omega)]; exact D0), F0, F1, F2, F3, F4, (by rw [hw.cells 6 (by omega)]; exact D6), (by rw [hw.cells 7 (by omega)]; exact D7), (by rw [hw.cells 8 (by omega)]; exact D8), (by rw [hw.cells 9 (by omega)]; exact D9), (by rw [hw.cells 10 (by omega)]; exact D10), (by rw [hw.cells 11 (by omega)]; exact D11)⟩
theorem Twelve.win2 {B : Nat} {x0 x1 x2 x3 x4 x5 x6 x7 x8 x9 x10 x11 y0 y1 y2 y3 y4 : Int} {w w' : World} (h : Twelve B x0 x1 x2 x3 x4 x5 x6 x7 x8 x9 x10 x11 w) (hw : Wrote B 2 5 w w') (hF : Five B 2 y0 y1 y2 y3 y4 w') : Twelve B x0 x1 y0 y1 y2 y3 y4 x7 x8 x9 x10 x11 w' := by
  obtain ⟨D0, D1, D2, D3, D4, D5, D6, D7, D8, D9, D10, D11⟩ := h
  obtain ⟨F0, F1, F2, F3, F4⟩ := hF
  exact ⟨(by rw [hw.cells 0 (by omega)]; exact D0), (by rw [hw.cells 1 (by omega)]; exact D1), F0, F1, F2, F3, F4, (by rw [hw.cells 7 (by omega)]; exact D7), (by rw [hw.cells 8 (by omega)]; exact D8), (by rw [hw.cells 9 (by omega)]; exact D9), (by rw [hw.cells 10 (by omega)]; exact D10), (by rw [hw.cells 11 (by omega)]; exact D11)⟩
theorem Twelve.win3 {B : Nat} {x0 x1 x2 x3 x4 x5 x6 x7 x8 x9 x10 x11 y0 y1 y2 y3 y4 : Int} {w w' : World} (h : Twelve B x0 x1 x2 x3 x4 x5 x6 x7 x8 x9 x10 x11 w) (hw : Wrote B 3 5 w w') (hF : Five B 3 y0 y1 y2 y3 y4 w') : Twelve B x0 x1 x2 y0 y1 y2 y3 y4 x8 x9 x10 x11 w' := by
  obtain ⟨D0, D1, D2, D3, D4, D5, D6, D7, D8, D9, D10, D11⟩ := h
  obtain ⟨F0, F1, F2, F3, F4⟩ := hF
  exact ⟨(by rw [hw.cells 0 (by omega)]; exact D0), (by rw [hw.cells 1 (by omega)]; exact D1), (by rw [hw.cells 2 (by omega)]; exact D2), F0, F1, F2, F3, F4, (by rw [hw.cells 8 (by omega)]; exact D8), (by rw [hw.cells 9 (by omega)]; exact D9), (by rw [hw.cells 10 (by omega)]; exact D10), (by rw [hw.cells 11 (by omega)]; exact D11)⟩
theorem Twelve.win4 {B : Nat} {x0 x1 x2 x3 x4 x5 x6 x7 x8 x9 x10 x11 y0 y1 y2 y3 y4 : Int} {w w' : World} (h : Twelve B x0 x1 x2 x3 x4 x5 x6 x7 x8 x9 x10 x11 w) (hw : Wrote B 4 5 w w') (hF : Five B 4 y0 y1 y2 y3 y4 w') : Twelve B x0 x1 x2 x3 y0 y1 y2 y3 y4 x9 x10 x11 w' := by
  obtain ⟨D0, D1, D2, D3, D4, D5, D6, D7, D8, D9, D10, D11⟩ := h
  obtain ⟨F0, F1, F2, F3, F4⟩ := hF
  exact ⟨(by rw [hw.cells 0 (by omega)]; exact D0), (by rw [hw.cells 1 (by omega)]; exact D1), (by rw [hw.cells 2 (by omega)]; exact D2), (by rw [hw.cells 3 (by omega)]; exact D3), F0, F1, F2, F3, F4, (by rw [hw.cells 9 (by omega)]; exact D9), (by rw [hw.cells 10 (by omega)]; exact D10), (by rw [hw.cells 11 (by omega)]; exact D11)⟩
theorem Twelve.win5 {B : Nat} {x0 x1 x2 x3 x4 x5 x6 x7 x8 x9 x10 x11 y0 y1 y2 y3 y4 : Int} {w w' : World} (h : Twelve B x0 x1 x2 x3 x4 x5 x6 x7 x8 x9 x10 x11 w) (hw : Wrote B 5 5 w w') (hF : Five B 5 y0 y1 y2 y3 y4 w') : Twelve B x0 x1 x2 x3 x4 y0 y1 y2 y3 y4 x10 x11 w' := by
  obtain ⟨D0, D1, D2, D3, D4, D5, D6, D7, D8, D9, D10, D11⟩ := h
  obtain ⟨F0, F1, F2, F3, F4⟩ := hF
  exact ⟨(by rw [hw.cells 0 (by omega)]; exact D0), (by rw [hw.cells 1 (by omega)]; exact D1), (by rw [hw.cells 2 (by omega)]; exact D2), (by rw [hw.cells 3 (by omega)]; exact D3), (by rw [hw.cells 4 (by omega)]; exact D4), F0, F1, F2, F3, F4, (by rw [hw.cells 10 (by omega)]; exact D10), (by rw [hw.cells 11 (by omega)]; exact D11)⟩
theorem Twelve.win6 {B : Nat} {x0 x1 x2 x3 x4 x5 x6 x7 x8 x9 x10 x11 y0 y1 y2 y3 y4 : Int} {w w' : World} (h : Twelve B x0 x1 x2 x3 x4 x5 x6 x7 x8 x9 x10 x11 w) (hw : Wrote B 6 5 w w') (hF : Five B 6 y0 y1 y2 y3 y4 w') : Twelve B x0 x1 x2 x3 x4 x5 y0 y1 y2 y3 y4 x11 w' := by
  obtain ⟨D0, D1, D2, D3, D4, D5, D6, D7, D8, D9, D10, D11⟩ := h
  obtain ⟨F0, F1, F2, F3, F4⟩ := hF
  exact ⟨(by rw [hw.cells 0 (by omega)]; exact D0), (by rw [hw.cells 1 (by omega)]; exact D1), (by rw [hw.cells 2 (by omega)]; exact D2), (by rw [hw.cells 3 (by omega)]; exact D3), (by rw [hw.cells 4 (by omega)]; exact D4), (by rw [hw.cells 5 (by omega)]; exact D5), F0, F1, F2, F3, F4, (by rw [hw.cells 11 (by omega)]; exact D11)⟩
theorem Twelve.win7 {B : Nat} {x0 x1 x2 x3 x4 x5 x6 x7 x8 x9 x10 x11 y0 y1 y2 y3 y4 : Int} {w w' : World} (h : Twelve B x0 x1 x2 x3 x4 x5 x6 x7 x8 x9 x10 x11 w) (hw : Wrote B 7 5 w w') (hF : Five B 7 y0 y1 y2 y3 y4 w') : Twelve B x0 x1 x2 x3 x4 x5 x6 y0 y1 y2 y3 y4 w' := by
  obtain ⟨D0, D1, D2, D3, D4, D5, D6, D7, D8, D9, D10, D11⟩ := h
  obtain ⟨F0, F1, F2, F3, F4⟩ := hF
  exact ⟨(by rw [hw.cells 0 (by omega)]; exact D0), (by rw [hw.cells 1 (by omega)]; exact D1), (by rw [hw.cells 2 (by omega)]; exact D2), (by rw [hw.cells 3 (by omega)]; exact D3), (by rw [hw.cells 4 (by omega)]; exact D4), (by rw [hw.cells 5 (by omega)]; exact D5), (by rw [hw.cells 6 (by omega)]; exact D6), F0, F1, F2, F3, F4⟩
theorem div_zero (a3 a2 a1 a0 : Int) (w : World) :
    Calls Try.prog 77 #[.agg #[.int .u64 a3, .int .u64 a2, .int .u64 a1, .int .u64 a0], .agg #[.int .u64 0, .int .u64 0]] w fun e w' =>
      e = .returned (.tuple #[.agg #[.int .u64 0, .int .u64 0, .int .u64 0, .int .u64 0], .agg #[.int .u64 0, .int .u64 0], .bool false]) ∧ Below w.heap.size w w' := by
  go_enter Try.func77, Try.ntmps77
  go_wp2
  go_returns
  exact ⟨rfl, by go_grown⟩
/-- What Div has laid ahead of its first call. -/
structure DivPro (w : World) (a3 a2 a1 a0 b1 b0 : Int) (W : World) : Prop where
  size : w.heap.size + 3 < W.heap.size
  below : Below w.heap.size w W
  ca0 : W.cell? ⟨w.heap.size, 0, none⟩ = some (.int .u64 a3)
  ca1 : W.cell? ⟨w.heap.size, 1, none⟩ = some (.int .u64 a2)
  ca2 : W.cell? ⟨w.heap.size, 2, none⟩ = some (.int .u64 a1)
  ca3 : W.cell? ⟨w.heap.size, 3, none⟩ = some (.int .u64 a0)
  cb0 : W.cell? ⟨w.heap.size + 1, 0, none⟩ = some (.int .u64 b1)
  cb1 : W.cell? ⟨w.heap.size + 1, 1, none⟩ = some (.int .u64 b0)
  cq0 : W.cell? ⟨w.heap.size + 2, 0, none⟩ = some (.int .u64 0)
  cq1 : W.cell? ⟨w.heap.size + 2, 1, none⟩ = some (.int .u64 0)
  cq2 : W.cell? ⟨w.heap.size + 2, 2, none⟩ = some (.int .u64 0)
  cq3 : W.cell? ⟨w.heap.size + 2, 3, none⟩ = some (.int .u64 0)
  cr0 : W.cell? ⟨w.heap.size + 3, 0, none⟩ = some (.int .u64 0)
  cr1 : W.cell? ⟨w.heap.size + 3, 1, none⟩ = some (.int .u64 0)
  zq : Clear (w.heap.size + 2) W
  zr : Clear (w.heap.size + 3) W
theorem DivPro.step {w : World} {a3 a2 a1 a0 b1 b0 : Int} {W W' : World} (h : DivPro w a3 a2 a1 a0 b1 b0 W) (g : Below W.heap.size W W') : DivPro w a3 a2 a1 a0 b1 b0 W' := by
  have hs := h.size
  have c := (bcell g).1
  refine ⟨Nat.lt_of_lt_of_le h.size g.size, bl_trans h.below g, ?_, ?_, ?_, ?_, ?_, ?_, ?_, ?_, ?_, ?_, ?_, ?_, fun j => ?_, fun j => ?_⟩
  · rw [c _ _ (by omega)]; exact h.ca0
  · rw [c _ _ (by omega)]; exact h.ca1
  · rw [c _ _ (by omega)]; exact h.ca2
  · rw [c _ _ (by omega)]; exact h.ca3
  · rw [c _ _ (by omega)]; exact h.cb0
  · rw [c _ _ (by omega)]; exact h.cb1
  · rw [c _ _ (by omega)]; exact h.cq0
  · rw [c _ _ (by omega)]; exact h.cq1
  · rw [c _ _ (by omega)]; exact h.cq2
  · rw [c _ _ (by omega)]; exact h.cq3
  · rw [c _ _ (by omega)]; exact h.cr0
  · rw [c _ _ (by omega)]; exact h.cr1
  · rw [(bcell g).2 _ _ (by omega)]; exact h.zq j
  · rw [(bcell g).2 _ _ (by omega)]; exact h.zr j

end Go.Proofs.Ytmelipbanbihdaa
