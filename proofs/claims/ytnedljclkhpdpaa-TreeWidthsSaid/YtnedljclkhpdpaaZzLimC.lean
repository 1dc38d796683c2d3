/- The document's product of two words. -/
import Derived.Test.YtnedljclkhpdpaaZzLimB
import Derived.Test.YtnedljclkhpdpaaZzLimA
import Derived.Deep.LoopGhost
import Derived.ProofKit
import Derived.Lib.SmallJoins
import Derived.Deep.DeepCutAuto
import Derived.Handy
import Derived.Deep.RegionHeld3
namespace Go.Proofs.Ytnedljclkhpdpaa
open Go.RowKit

theorem Wrote.undrew {B o n : Nat} {w w' : World} (h : Wrote B o n w.drew w') : Wrote B o n w w' := ⟨h.os, h.tape, h.output, h.size, h.block, h.cells, h.frozen⟩
theorem Twelve.other {B o n b : Nat} {x0 x1 x2 x3 x4 x5 x6 x7 x8 x9 x10 x11 : Int} {w w' : World} (h : Twelve b x0 x1 x2 x3 x4 x5 x6 x7 x8 x9 x10 x11 w) (hw : Wrote B o n w w') (hb : b < w.heap.size) (hn : b ≠ B) : Twelve b x0 x1 x2 x3 x4 x5 x6 x7 x8 x9 x10 x11 w' := by
  obtain ⟨c0, c1, c2, c3, c4, c5, c6, c7, c8, c9, c10, c11⟩ := h
  refine ⟨?_, ?_, ?_, ?_, ?_, ?_, ?_, ?_, ?_, ?_, ?_, ?_⟩ <;> (rw [hw.other hb hn]; assumption)
theorem DivPro.wrote {w : World} {a3 a2 a1 a0 b1 b0 : Int} {B o n : Nat} {W W' : World} (h : DivPro w a3 a2 a1 a0 b1 b0 W) (g : Wrote B o n W W') (hB : w.heap.size + 3 < B) : DivPro w a3 a2 a1 a0 b1 b0 W' := by
  have hs := h.size
  have c := fun b j (hb : b < W.heap.size) (hn : b ≠ B) => g.other (j := j) hb hn
  have f := fun b j (hb : b < W.heap.size) (hn : b ≠ B) => World.frozen?_of_block (a := ⟨b, j, none⟩) (g.block b hb hn)
  refine ⟨Nat.lt_of_lt_of_le h.size g.size, h.below.trans (g.below (by omega) (by omega)), ?_, ?_, ?_, ?_, ?_, ?_, ?_, ?_, ?_, ?_, ?_, ?_, fun j => ?_, fun j => ?_⟩
  · rw [c _ _ (by omega) (by omega)]; exact h.ca0
  · rw [c _ _ (by omega) (by omega)]; exact h.ca1
  · rw [c _ _ (by omega) (by omega)]; exact h.ca2
  · rw [c _ _ (by omega) (by omega)]; exact h.ca3
  · rw [c _ _ (by omega) (by omega)]; exact h.cb0
  · rw [c _ _ (by omega) (by omega)]; exact h.cb1
  · rw [c _ _ (by omega) (by omega)]; exact h.cq0
  · rw [c _ _ (by omega) (by omega)]; exact h.cq1
  · rw [c _ _ (by omega) (by omega)]; exact h.cq2
  · rw [c _ _ (by omega) (by omega)]; exact h.cq3
  · rw [c _ _ (by omega) (by omega)]; exact h.cr0
  · rw [c _ _ (by omega) (by omega)]; exact h.cr1
  · rw [f _ _ (by omega) (by omega)]; exact h.zq j
  · rw [f _ _ (by omega) (by omega)]; exact h.zr j
theorem Eight.set0 {B : Nat} {x0 x1 x2 x3 x4 x5 x6 x7 q : Int} {w : World} (h : Eight B x0 x1 x2 x3 x4 x5 x6 x7 w) : Eight B q x1 x2 x3 x4 x5 x6 x7 (w.setCell ⟨B, 0, none⟩ (.int .u32 q)) := by
  obtain ⟨c0, c1, c2, c3, c4, c5, c6, c7⟩ := h
  exact ⟨World.cell?_setCell_same _ _ _ c0, (World.cell?_setCell_other _ _ _ _ (by simp)).trans c1, (World.cell?_setCell_other _ _ _ _ (by simp)).trans c2, (World.cell?_setCell_other _ _ _ _ (by simp)).trans c3, (World.cell?_setCell_other _ _ _ _ (by simp)).trans c4, (World.cell?_setCell_other _ _ _ _ (by simp)).trans c5, (World.cell?_setCell_other _ _ _ _ (by simp)).trans c6, (World.cell?_setCell_other _ _ _ _ (by simp)).trans c7⟩
theorem Eight.set1 {B : Nat} {x0 x1 x2 x3 x4 x5 x6 x7 q : Int} {w : World} (h : Eight B x0 x1 x2 x3 x4 x5 x6 x7 w) : Eight B x0 q x2 x3 x4 x5 x6 x7 (w.setCell ⟨B, 1, none⟩ (.int .u32 q)) := by
  obtain ⟨c0, c1, c2, c3, c4, c5, c6, c7⟩ := h
  exact ⟨(World.cell?_setCell_other _ _ _ _ (by simp)).trans c0, World.cell?_setCell_same _ _ _ c1, (World.cell?_setCell_other _ _ _ _ (by simp)).trans c2, (World.cell?_setCell_other _ _ _ _ (by simp)).trans c3, (World.cell?_setCell_other _ _ _ _ (by simp)).trans c4, (World.cell?_setCell_other _ _ _ _ (by simp)).trans c5, (World.cell?_setCell_other _ _ _ _ (by simp)).trans c6, (World.cell?_setCell_other _ _ _ _ (by simp)).trans c7⟩
theorem Eight.set2 {B : Nat} {x0 x1 x2 x3 x4 x5 x6 x7 q : Int} {w : World} (h : Eight B x0 x1 x2 x3 x4 x5 x6 x7 w) : Eight B x0 x1 q x3 x4 x5 x6 x7 (w.setCell ⟨B, 2, none⟩ (.int .u32 q)) := by
  obtain ⟨c0, c1, c2, c3, c4, c5, c6, c7⟩ := h
  exact ⟨(World.cell?_setCell_other _ _ _ _ (by simp)).trans c0, (World.cell?_setCell_other _ _ _ _ (by simp)).trans c1, World.cell?_setCell_same _ _ _ c2, (World.cell?_setCell_other _ _ _ _ (by simp)).trans c3, (World.cell?_setCell_other _ _ _ _ (by simp)).trans c4, (World.cell?_setCell_other _ _ _ _ (by simp)).trans c5, (World.cell?_setCell_other _ _ _ _ (by simp)).trans c6, (World.cell?_setCell_other _ _ _ _ (by simp)).trans c7⟩
theorem Eight.set3 {B : Nat} {x0 x1 x2 x3 x4 x5 x6 x7 q : Int} {w : World} (h : Eight B x0 x1 x2 x3 x4 x5 x6 x7 w) : Eight B x0 x1 x2 q x4 x5 x6 x7 (w.setCell ⟨B, 3, none⟩ (.int .u32 q)) := by
  obtain ⟨c0, c1, c2, c3, c4, c5, c6, c7⟩ := h
  exact ⟨(World.cell?_setCell_other _ _ _ _ (by simp)).trans c0, (World.cell?_setCell_other _ _ _ _ (by simp)).trans c1, (World.cell?_setCell_other _ _ _ _ (by simp)).trans c2, World.cell?_setCell_same _ _ _ c3, (World.cell?_setCell_other _ _ _ _ (by simp)).trans c4, (World.cell?_setCell_other _ _ _ _ (by simp)).trans c5, (World.cell?_setCell_other _ _ _ _ (by simp)).trans c6, (World.cell?_setCell_other _ _ _ _ (by simp)).trans c7⟩
theorem Eight.set4 {B : Nat} {x0 x1 x2 x3 x4 x5 x6 x7 q : Int} {w : World} (h : Eight B x0 x1 x2 x3 x4 x5 x6 x7 w) : Eight B x0 x1 x2 x3 q x5 x6 x7 (w.setCell ⟨B, 4, none⟩ (.int .u32 q)) := by
  obtain ⟨c0, c1, c2, c3, c4, c5, c6, c7⟩ := h
  exact ⟨(World.cell?_setCell_other _ _ _ _ (by simp)).trans c0, (World.cell?_setCell_other _ _ _ _ (by simp)).trans c1, (World.cell?_setCell_other _ _ _ _ (by simp)).trans c2, (World.cell?_setCell_other _ _ _ _ (by simp)).trans c3, World.cell?_setCell_same _ _ _ c4, (World.cell?_setCell_other _ _ _ _ (by simp)).trans c5, (World.cell?_setCell_other _ _ _ _ (by simp)).trans c6, (World.cell?_setCell_other _ _ _ _ (by simp)).trans c7⟩
theorem Eight.set5 {B : Nat} {x0 x1 x2 x3 x4 x5 x6 x7 q : Int} {w : World} (h : Eight B x0 x1 x2 x3 x4 x5 x6 x7 w) : Eight B x0 x1 x2 x3 x4 q x6 x7 (w.setCell ⟨B, 5, none⟩ (.int .u32 q)) := by
  obtain ⟨c0, c1, c2, c3, c4, c5, c6, c7⟩ := h
  exact ⟨(World.cell?_setCell_other _ _ _ _ (by simp)).trans c0, (World.cell?_setCell_other _ _ _ _ (by simp)).trans c1, (World.cell?_setCell_other _ _ _ _ (by simp)).trans c2, (World.cell?_setCell_other _ _ _ _ (by simp)).trans c3, (World.cell?_setCell_other _ _ _ _ (by simp)).trans c4, World.cell?_setCell_same _ _ _ c5, (World.cell?_setCell_other _ _ _ _ (by simp)).trans c6, (World.cell?_setCell_other _ _ _ _ (by simp)).trans c7⟩
theorem Eight.set6 {B : Nat} {x0 x1 x2 x3 x4 x5 x6 x7 q : Int} {w : World} (h : Eight B x0 x1 x2 x3 x4 x5 x6 x7 w) : Eight B x0 x1 x2 x3 x4 x5 q x7 (w.setCell ⟨B, 6, none⟩ (.int .u32 q)) := by
  obtain ⟨c0, c1, c2, c3, c4, c5, c6, c7⟩ := h
  exact ⟨(World.cell?_setCell_other _ _ _ _ (by simp)).trans c0, (World.cell?_setCell_other _ _ _ _ (by simp)).trans c1, (World.cell?_setCell_other _ _ _ _ (by simp)).trans c2, (World.cell?_setCell_other _ _ _ _ (by simp)).trans c3, (World.cell?_setCell_other _ _ _ _ (by simp)).trans c4, (World.cell?_setCell_other _ _ _ _ (by simp)).trans c5, World.cell?_setCell_same _ _ _ c6, (World.cell?_setCell_other _ _ _ _ (by simp)).trans c7⟩
theorem Eight.set7 {B : Nat} {x0 x1 x2 x3 x4 x5 x6 x7 q : Int} {w : World} (h : Eight B x0 x1 x2 x3 x4 x5 x6 x7 w) : Eight B x0 x1 x2 x3 x4 x5 x6 q (w.setCell ⟨B, 7, none⟩ (.int .u32 q)) := by
  obtain ⟨c0, c1, c2, c3, c4, c5, c6, c7⟩ := h
  exact ⟨(World.cell?_setCell_other _ _ _ _ (by simp)).trans c0, (World.cell?_setCell_other _ _ _ _ (by simp)).trans c1, (World.cell?_setCell_other _ _ _ _ (by simp)).trans c2, (World.cell?_setCell_other _ _ _ _ (by simp)).trans c3, (World.cell?_setCell_other _ _ _ _ (by simp)).trans c4, (World.cell?_setCell_other _ _ _ _ (by simp)).trans c5, (World.cell?_setCell_other _ _ _ _ (by simp)).trans c6, World.cell?_setCell_same _ _ _ c7⟩
/-- What Div comes to, of halves. -/
def DivGot (x0 x1 x2 x3 x4 x5 x6 x7 x8 x9 x10 x11 v0 v1 v2 v3 L : Int) (w : World) (e : Ending) (w' : World) : Prop := ∃ q0 q1 q2 q3 q4 q5 q6 q7 y0 y1 y2 y3 : Int, Hf q0 ∧ Hf q1 ∧ Hf q2 ∧ Hf q3 ∧ Hf q4 ∧ Hf q5 ∧ Hf q6 ∧ Hf q7 ∧ Hf y0 ∧ Hf y1 ∧ Hf y2 ∧ Hf y3 ∧
  hv4 x0 x1 x2 x3 + hv4 x4 x5 x6 x7 * 340282366920938463463374607431768211456 + hv4 x8 x9 x10 x11 * 115792089237316195423570985008687907853269984665640564039457584007913129639936 = quo q0 q1 q2 q3 q4 q5 q6 q7 * hv4 v0 v1 v2 v3 + hv4 y0 y1 y2 y3 ∧
  hv4 y0 y1 y2 y3 < hv4 v0 v1 v2 v3 ∧
  e = .returned (.tuple #[.agg #[.int .u64 (q7 * 4294967296 + q6), .int .u64 (q5 * 4294967296 + q4), .int .u64 (q3 * 4294967296 + q2), .int .u64 (q1 * 4294967296 + q0)],
    .agg #[.int .u64 (wd (v4 0 0 (y3 * 4294967296 + y2) (y1 * 4294967296 + y0) / 2 ^ (128 - L).toNat) 1), .int .u64 (wd (v4 0 0 (y3 * 4294967296 + y2) (y1 * 4294967296 + y0) / 2 ^ (128 - L).toNat) 0)], .bool true]) ∧
  Below w.heap.size w w'
end Go.Proofs.Ytnedljclkhpdpaa
namespace Go.Proofs.Ytnedljclkhpdpaa
open Go.RowKit

theorem ret_div {a b c d e f a' b' c' d' e' f' : Int} (h1 : a = a') (h2 : b = b') (h3 : c = c') (h4 : d = d') (h5 : e = e') (h6 : f = f') :
    Ending.returned (.tuple #[.agg #[.int .u64 a, .int .u64 b, .int .u64 c, .int .u64 d], .agg #[.int .u64 e, .int .u64 f], .bool true]) = .returned (.tuple #[.agg #[.int .u64 a', .int .u64 b', .int .u64 c', .int .u64 d'], .agg #[.int .u64 e', .int .u64 f'], .bool true]) := by
  rw [h1, h2, h3, h4, h5, h6]
end Go.Proofs.Ytnedljclkhpdpaa
namespace Go.Proofs.Ytnedljclkhpdpaa
open Go.RowKit

end Go.Proofs.Ytnedljclkhpdpaa
namespace Go.Proofs.Ytnedljclkhpdpaa
open Go.RowKit

/-- What has been laid ahead of the first call. -/
structure SqPro (w : World) (a3 a2 a1 a0 : Int) (W : World) : Prop where
  size : w.heap.size + 1 < W.heap.size
  below : Below w.heap.size w W
  ca0 : W.cell? ⟨w.heap.size, 0, none⟩ = some (.int .u64 a3)
  ca1 : W.cell? ⟨w.heap.size, 1, none⟩ = some (.int .u64 a2)
  ca2 : W.cell? ⟨w.heap.size, 2, none⟩ = some (.int .u64 a1)
  ca3 : W.cell? ⟨w.heap.size, 3, none⟩ = some (.int .u64 a0)
  cr0 : W.cell? ⟨w.heap.size + 1, 0, none⟩ = some (.int .u64 0)
  cr1 : W.cell? ⟨w.heap.size + 1, 1, none⟩ = some (.int .u64 0)
  zr : Clear (w.heap.size + 1) W
theorem SqPro.step {w : World} {a3 a2 a1 a0 : Int} {W W' : World} (h : SqPro w a3 a2 a1 a0 W) (g : Below W.heap.size W W') : SqPro w a3 a2 a1 a0 W' := by
  have hs := h.size
  have c := (bcell g).1
  refine ⟨Nat.lt_of_lt_of_le h.size g.size, bl_trans h.below g, ?_, ?_, ?_, ?_, ?_, ?_, fun j => ?_⟩
  · rw [c _ _ (by omega)]; exact h.ca0
  · rw [c _ _ (by omega)]; exact h.ca1
  · rw [c _ _ (by omega)]; exact h.ca2
  · rw [c _ _ (by omega)]; exact h.ca3
  · rw [c _ _ (by omega)]; exact h.cr0
  · rw [c _ _ (by omega)]; exact h.cr1
  · rw [(bcell g).2 _ _ (by omega)]; exact h.zr j
theorem SqPro.other {w : World} {a3 a2 a1 a0 : Int} {B o n : Nat} {W W' : World} (h : SqPro w a3 a2 a1 a0 W) (g : Wrote B o n W W') (hB : w.heap.size + 1 < B) : SqPro w a3 a2 a1 a0 W' := by
  have hs := h.size
  have c := fun b j (hb : b < W.heap.size) (hn : b ≠ B) => g.other (j := j) hb hn
  refine ⟨Nat.lt_of_lt_of_le h.size g.size, h.below.trans (g.below (B0 := w.heap.size) (by omega) (by omega)), ?_, ?_, ?_, ?_, ?_, ?_, fun j => ?_⟩
  · rw [c _ _ (by omega) (by omega)]; exact h.ca0
  · rw [c _ _ (by omega) (by omega)]; exact h.ca1
  · rw [c _ _ (by omega) (by omega)]; exact h.ca2
  · rw [c _ _ (by omega) (by omega)]; exact h.ca3
  · rw [c _ _ (by omega) (by omega)]; exact h.cr0
  · rw [c _ _ (by omega) (by omega)]; exact h.cr1
  · rw [World.frozen?_of_block (a := ⟨w.heap.size + 1, j, none⟩) (g.block (w.heap.size + 1) (by omega) (by omega))]; exact h.zr j

theorem ret_two_words {a b a' b' : Int} (h : a = a') (g : b = b') : Ending.returned (.agg #[.int .u64 a, .int .u64 b]) = .returned (.agg #[.int .u64 a', .int .u64 b']) := by rw [h, g]
theorem v4_low (x y : Int) : v4 0 0 x y = v2 x y := by unfold v4; rw [show v2 0 0 = 0 from rfl, Nat.zero_mul, Nat.zero_add]
/-- What stands at each round's head: a number that is not below the root. -/
def SqHead (S : Nat) (w : World) (a3 a2 a1 a0 : Int) (k : Nat) (wr : World) : Prop := ∃ x1 x0 : Int, Wd x1 ∧ Wd x0 ∧ v2 x1 x0 ≤ k ∧ isq (v4 a3 a2 a1 a0) ≤ v2 x1 x0 ∧ v2 x1 x0 ≠ 0 ∧ SqPro w a3 a2 a1 a0 wr ∧
  wr.cell? ⟨S, 0, none⟩ = some (.int .u64 x1) ∧ wr.cell? ⟨S, 1, none⟩ = some (.int .u64 x0) ∧ Clear S wr ∧ S < wr.heap.size
theorem isq_pos {n : Nat} (h : n ≠ 0) : isq n ≠ 0 := by
  intro e
  have := (isq_spec n).2
  rw [e] at this
  omega
end Go.Proofs.Ytnedljclkhpdpaa
namespace Go.Proofs.Ytnedljclkhpdpaa
open Go.ChangeShapes Go.WideShapes Go.ChangeAt Go.RowKit Go.Joins

theorem Try.own : ownKnob Try.prog.godebug = none := by kernel_rfl
theorem cells22 : Try.prog.cellsOf 28 = 1 := by kernel_rfl
theorem cells24 : Try.prog.cellsOf 52 = 2 := by kernel_rfl
theorem cells33 : Try.prog.cellsOf 59 = 4 := by kernel_rfl
theorem wd_of_wf {x : Int} (h : (Lit.int .u64 x).wf = true) : Wd x := by
  simp [Lit.wf, IntKind.min, IntKind.max, IntKind.signed, IntKind.bits] at h
  exact ⟨by omega, by omega⟩
theorem wf_of_wd {x : Int} (h : Wd x) : (Lit.int .u64 x).wf = true := by
  obtain ⟨h0, h1⟩ := h
  simp [Lit.wf, IntKind.min, IntKind.max, IntKind.signed, IntKind.bits]
  exact ⟨by omega, by omega⟩
section
variable {H : Type} {enc : TypeId × Value → H} {w : World} {base : Nat} {spare : Nat → Bool} {held : Bool}
set_option maxRecDepth 20000 in
theorem trod_two {n : Nat} {c0 c1 : Value} {y : DataW H × List MemPlace} (h : DataW.trod enc Try.prog w base spare held n 52 [c0, c1] = some y) :
    ∃ a1 a0 : Int, c0 = .int .u64 a1 ∧ c1 = .int .u64 a0 ∧ y = (.agg [.lit (.int .u64 a1), .lit (.int .u64 a0)], []) ∧ Wd a1 ∧ Wd a0 := by
  obtain ⟨y0, y1, m, rfl, _, h0, h1⟩ := trod_struct2 Try.underlying52 h
  obtain ⟨a, e0, rfl, wa⟩ := DataW.trod_int Try.underlying28 h0
  obtain ⟨b, e1, rfl, wb⟩ := DataW.trod_int Try.underlying28 h1
  simp [cells22] at e0 e1
  subst e0 e1
  exact ⟨a, b, rfl, rfl, rfl, wd_of_wf wa, wd_of_wf wb⟩
set_option maxRecDepth 20000 in
theorem trod_two_mk (n : Nat) {a1 a0 : Int} (h1 : Wd a1) (h0 : Wd a0) : DataW.trod enc Try.prog w base spare held (n + 2) 52 [.int .u64 a1, .int .u64 a0] = some (.agg [.lit (.int .u64 a1), .lit (.int .u64 a0)], []) := by
  have := trod_struct2_mk (enc := enc) (w := w) (base := base) (spare := spare) (held := held) (n := n + 1) (cs := [.int .u64 a1, .int .u64 a0]) (y0 := (.lit (.int .u64 a1), [])) (y1 := (.lit (.int .u64 a0), [])) Try.underlying52 (by simp [cells24])
    (by simpa [cells22] using trod_int_mk n Try.underlying28 (wf_of_wd h1)) (by simpa [cells22] using trod_int_mk n Try.underlying28 (wf_of_wd h0))
  simpa using this
set_option maxRecDepth 20000 in
theorem open_two {r : Reach} {b0 : Nat} {v : Value} {d : DataW H} {p : List MemPlace} (hv : Value.okWide Try.prog w r b0 52 v) (h : DataW.Trod enc Try.prog w base spare held 52 v d p) :
    ∃ a1 a0 : Int, v = .agg #[.int .u64 a1, .int .u64 a0] ∧ d = .agg [.lit (.int .u64 a1), .lit (.int .u64 a0)] ∧ p = [] ∧ Wd a1 ∧ Wd a0 := by
  obtain ⟨cs, rfl, hsz⟩ := okWide_struct Try.underlying52 hv
  obtain ⟨c0, c1, rfl⟩ := array2 (hsz.trans cells24)
  obtain ⟨fuel, hf⟩ := h
  obtain ⟨a1, a0, rfl, rfl, e, k1, k0⟩ := trod_two (by simpa [Value.cells] using hf)
  simp only [Prod.mk.injEq] at e
  exact ⟨a1, a0, rfl, e.1, e.2, k1, k0⟩
set_option maxRecDepth 20000 in
theorem shut_two {a1 a0 : Int} (h1 : Wd a1) (h0 : Wd a0) : DataW.Trod enc Try.prog w base spare held 52 (.agg #[.int .u64 a1, .int .u64 a0]) (.agg [.lit (.int .u64 a1), .lit (.int .u64 a0)]) [] :=
  ⟨2, by simpa [Value.cells] using trod_two_mk 0 h1 h0⟩
set_option maxRecDepth 20000 in
theorem open_four {r : Reach} {b0 : Nat} {v : Value} {d : DataW H} {p : List MemPlace} (hv : Value.okWide Try.prog w r b0 59 v) (h : DataW.Trod enc Try.prog w base spare held 59 v d p) :
    ∃ a3 a2 a1 a0 : Int, v = .agg #[.int .u64 a3, .int .u64 a2, .int .u64 a1, .int .u64 a0] ∧ d = .agg [.agg [.lit (.int .u64 a3), .lit (.int .u64 a2)], .agg [.lit (.int .u64 a1), .lit (.int .u64 a0)]] ∧ p = [] ∧ Wd a3 ∧ Wd a2 ∧ Wd a1 ∧ Wd a0 := by
  obtain ⟨cs, rfl, hsz⟩ := okWide_struct Try.underlying59 hv
  obtain ⟨c0, c1, c2, c3, rfl⟩ := array4 (hsz.trans cells33)
  obtain ⟨fuel, hf⟩ := h
  obtain ⟨y0, y1, m, e, _, g0, g1⟩ := trod_struct2 Try.underlying59 hf
  simp [Value.cells, cells24] at g0 g1
  obtain ⟨a3, a2, rfl, rfl, rfl, k3, k2⟩ := trod_two g0
  obtain ⟨a1, a0, rfl, rfl, rfl, k1, k0⟩ := trod_two g1
  simp only [Prod.mk.injEq] at e
  exact ⟨a3, a2, a1, a0, rfl, e.1, by simpa using e.2, k3, k2, k1, k0⟩
set_option maxRecDepth 20000 in
theorem shut_four {a3 a2 a1 a0 : Int} (h3 : Wd a3) (h2 : Wd a2) (h1 : Wd a1) (h0 : Wd a0) : DataW.Trod enc Try.prog w base spare held 59 (.agg #[.int .u64 a3, .int .u64 a2, .int .u64 a1, .int .u64 a0]) (.agg [.agg [.lit (.int .u64 a3), .lit (.int .u64 a2)], .agg [.lit (.int .u64 a1), .lit (.int .u64 a0)]]) [] := by
  have := trod_struct2_mk (enc := enc) (w := w) (base := base) (spare := spare) (held := held) (n := 2) (cs := [.int .u64 a3, .int .u64 a2, .int .u64 a1, .int .u64 a0]) (y0 := (.agg [.lit (.int .u64 a3), .lit (.int .u64 a2)], [])) (y1 := (.agg [.lit (.int .u64 a1), .lit (.int .u64 a0)], [])) Try.underlying59 (by simp [cells33])
    (by simpa [cells24] using trod_two_mk 0 h3 h2) (by simpa [cells24] using trod_two_mk 0 h1 h0)
  exact ⟨3, by simpa [Value.cells] using this⟩
end
/-- Whether two numbers are one: what the comparison of structs comes to. -/
theorem eq_two (a1 a0 b1 b0 : Int) (W : World) : (Go.binOp .eql 52 (.agg #[.int .u64 a1, .int .u64 a0]) (.agg #[.int .u64 b1, .int .u64 b0])).run Try.prog W = .ok (.bool (decide (a1 = b1 ∧ a0 = b0))) W := by
  by_cases c : a1 = b1 <;> by_cases d : a0 = b0 <;> simp [go_sem, *]
theorem eq_two_true (a1 a0 : Int) : ∀ W, (Go.binOp .eql 52 (.agg #[.int .u64 a1, .int .u64 a0]) (.agg #[.int .u64 a1, .int .u64 a0])).run Try.prog W = .ok (.bool true) W := fun W => by
  rw [eq_two]; simp
end Go.Proofs.Ytnedljclkhpdpaa
namespace Go.Proofs.Ytnedljclkhpdpaa
open Go.RowKit

/-- Block B holds these cells, one behind the other. -/
def Has (B : Nat) (l : List Value) (W : World) : Prop := B < W.heap.size ∧ ∀ (j : Nat) (x : Value), l[j]? = some x → W.cell? ⟨B, j, none⟩ = some x
theorem Has.step {B : Nat} {l : List Value} {W W' : World} (h : Has B l W) (g : Below W.heap.size W W') : Has B l W' :=
  ⟨Nat.lt_of_lt_of_le h.1 g.size, fun j x hx => by rw [(bcell g).1 _ _ h.1]; exact h.2 j x hx⟩
theorem Has.up {B : Nat} {l : List Value} {w0 W W' : World} (h : Has B l w0) (g : Below w0.heap.size w0 W) (k : Below W.heap.size W W') : Has B l W' := (h.step g).step k
theorem Has.mk2 {B : Nat} {x y : Value} {W : World} (h : B < W.heap.size) (h0 : W.cell? ⟨B, 0, none⟩ = some x) (h1 : W.cell? ⟨B, 1, none⟩ = some y) : Has B [x, y] W := by
  refine ⟨h, fun j v hv => ?_⟩
  match j, hv with
  | 0, hv => simp at hv; subst hv; exact h0
  | 1, hv => simp at hv; subst hv; exact h1
theorem Has.mk4 {B : Nat} {x y z t : Value} {W : World} (h : B < W.heap.size) (h0 : W.cell? ⟨B, 0, none⟩ = some x) (h1 : W.cell? ⟨B, 1, none⟩ = some y) (h2 : W.cell? ⟨B, 2, none⟩ = some z) (h3 : W.cell? ⟨B, 3, none⟩ = some t) : Has B [x, y, z, t] W := by
  refine ⟨h, fun j v hv => ?_⟩
  match j, hv with
  | 0, hv => simp at hv; subst hv; exact h0
  | 1, hv => simp at hv; subst hv; exact h1
  | 2, hv => simp at hv; subst hv; exact h2
  | 3, hv => simp at hv; subst hv; exact h3
theorem back_wd1 {a b : Nat} (_ : a < 340282366920938463463374607431768211456) (hb : b < 340282366920938463463374607431768211456) : wd ((a + b) % 340282366920938463463374607431768211456 + (340282366920938463463374607431768211456 - b)) 1 = wd a 1 := by
  rw [wd1, wd1]; omega
theorem back_wd0 {a b : Nat} (_ : a < 340282366920938463463374607431768211456) (hb : b < 340282366920938463463374607431768211456) : wd ((a + b) % 340282366920938463463374607431768211456 + (340282366920938463463374607431768211456 - b)) 0 = wd a 0 := by
  rw [wd0, wd0]; omega
end Go.Proofs.Ytnedljclkhpdpaa
namespace Go.Proofs.Ytnedljclkhpdpaa
open Go.RowKit

theorem frozen?_drew (w : World) (a : Addr) : w.drew.frozen? a = w.frozen? a := rfl
/-- What Mul has laid ahead of its first call. -/
structure MulPro (w : World) (a1 a0 b1 b0 : Int) (W : World) : Prop where
  size : w.heap.size + 2 < W.heap.size
  below : Below w.heap.size w W
  ca0 : W.cell? ⟨w.heap.size, 0, none⟩ = some (.int .u64 a1)
  ca1 : W.cell? ⟨w.heap.size, 1, none⟩ = some (.int .u64 a0)
  cb0 : W.cell? ⟨w.heap.size + 1, 0, none⟩ = some (.int .u64 b1)
  cb1 : W.cell? ⟨w.heap.size + 1, 1, none⟩ = some (.int .u64 b0)
  cq0 : W.cell? ⟨w.heap.size + 2, 0, none⟩ = some (.int .u64 0)
  cq1 : W.cell? ⟨w.heap.size + 2, 1, none⟩ = some (.int .u64 0)
  cq2 : W.cell? ⟨w.heap.size + 2, 2, none⟩ = some (.int .u64 0)
  cq3 : W.cell? ⟨w.heap.size + 2, 3, none⟩ = some (.int .u64 0)
  zq : Clear (w.heap.size + 2) W
theorem MulPro.step {w : World} {a1 a0 b1 b0 : Int} {W W' : World} (h : MulPro w a1 a0 b1 b0 W) (g : Below W.heap.size W W') : MulPro w a1 a0 b1 b0 W' := by
  have hs := h.size
  have c := (bcell g).1
  refine ⟨Nat.lt_of_lt_of_le h.size g.size, bl_trans h.below g, ?_, ?_, ?_, ?_, ?_, ?_, ?_, ?_, fun j => ?_⟩
  · rw [c _ _ (by omega)]; exact h.ca0
  · rw [c _ _ (by omega)]; exact h.ca1
  · rw [c _ _ (by omega)]; exact h.cb0
  · rw [c _ _ (by omega)]; exact h.cb1
  · rw [c _ _ (by omega)]; exact h.cq0
  · rw [c _ _ (by omega)]; exact h.cq1
  · rw [c _ _ (by omega)]; exact h.cq2
  · rw [c _ _ (by omega)]; exact h.cq3
  · rw [(bcell g).2 _ _ (by omega)]; exact h.zq j
theorem MulPro.wrote {w : World} {a1 a0 b1 b0 : Int} {B o n : Nat} {W W' : World} (h : MulPro w a1 a0 b1 b0 W) (g : Wrote B o n W W') (hB : w.heap.size + 2 < B) : MulPro w a1 a0 b1 b0 W' := by
  have hs := h.size
  have c := fun b j (hb : b < W.heap.size) (hn : b ≠ B) => g.other (j := j) hb hn
  refine ⟨Nat.lt_of_lt_of_le h.size g.size, h.below.trans (g.below (B0 := w.heap.size) (by omega) (by omega)), ?_, ?_, ?_, ?_, ?_, ?_, ?_, ?_, fun j => ?_⟩
  · rw [c _ _ (by omega) (by omega)]; exact h.ca0
  · rw [c _ _ (by omega) (by omega)]; exact h.ca1
  · rw [c _ _ (by omega) (by omega)]; exact h.cb0
  · rw [c _ _ (by omega) (by omega)]; exact h.cb1
  · rw [c _ _ (by omega) (by omega)]; exact h.cq0
  · rw [c _ _ (by omega) (by omega)]; exact h.cq1
  · rw [c _ _ (by omega) (by omega)]; exact h.cq2
  · rw [c _ _ (by omega) (by omega)]; exact h.cq3
  · rw [World.frozen?_of_block (a := ⟨w.heap.size + 2, j, none⟩) (g.block (w.heap.size + 2) (by omega) (by omega))]; exact h.zq j
theorem MulPro.upto {w : World} {a1 a0 b1 b0 : Int} {W W' : World} (h : MulPro w a1 a0 b1 b0 W) (g : Below (w.heap.size + 3) W W') : MulPro w a1 a0 b1 b0 W' := by
  have c := fun j b (hb : b < w.heap.size + 3) => g.cell (p := ⟨b, j, none⟩) hb
  refine ⟨Nat.lt_of_lt_of_le h.size g.size, h.below.trans (g.mono (by omega)), ?_, ?_, ?_, ?_, ?_, ?_, ?_, ?_, fun j => ?_⟩
  · rw [c _ _ (by omega)]; exact h.ca0
  · rw [c _ _ (by omega)]; exact h.ca1
  · rw [c _ _ (by omega)]; exact h.cb0
  · rw [c _ _ (by omega)]; exact h.cb1
  · rw [c _ _ (by omega)]; exact h.cq0
  · rw [c _ _ (by omega)]; exact h.cq1
  · rw [c _ _ (by omega)]; exact h.cq2
  · rw [c _ _ (by omega)]; exact h.cq3
  · rw [g.frozen (p := ⟨w.heap.size + 2, j, none⟩) (by show w.heap.size + 2 < w.heap.size + 3; omega)]; exact h.zq j
def MulGot (V : Int) (w : World) (e : Ending) (w' : World) : Prop := ∃ r0 r1 r2 r3 r4 r5 r6 r7 : Int, Hf r0 ∧ Hf r1 ∧ Hf r2 ∧ Hf r3 ∧ Hf r4 ∧ Hf r5 ∧ Hf r6 ∧ Hf r7 ∧ hv4 r0 r1 r2 r3 + hv4 r4 r5 r6 r7 * 340282366920938463463374607431768211456 = V ∧
  e = .returned (.agg #[.int .u64 (r7 * 4294967296 + r6), .int .u64 (r5 * 4294967296 + r4), .int .u64 (r3 * 4294967296 + r2), .int .u64 (r1 * 4294967296 + r0)]) ∧ Below w.heap.size w w'
end Go.Proofs.Ytnedljclkhpdpaa
namespace Go.Proofs.Ytnedljclkhpdpaa
open Go.RowKit

theorem mul_lt {a1 a0 b1 b0 : Int} (ha1 : Wd a1) (ha0 : Wd a0) (hb1 : Wd b1) (hb0 : Wd b0) : v2 a1 a0 * v2 b1 b0 < 115792089237316195423570985008687907853269984665640564039457584007913129639936 :=
  Nat.mul_lt_mul'' (c := 340282366920938463463374607431768211456) (d := 340282366920938463463374607431768211456) (v2_lt ha1 ha0) (v2_lt hb1 hb0)
theorem v4_small {n : Nat} (h : n < 115792089237316195423570985008687907853269984665640564039457584007913129639936) : v4 (wd n 3) (wd n 2) (wd n 1) (wd n 0) = n := by rw [v4_wd]; exact Nat.mod_eq_of_lt h
end Go.Proofs.Ytnedljclkhpdpaa
namespace Go.Proofs.Ytnedljclkhpdpaa
open Go.RowKit

theorem bcell_drew {W w1 : World} (hb : Below W.drew.heap.size W.drew w1) : (∀ b o, b < W.heap.size → w1.cell? ⟨b, o, none⟩ = W.cell? ⟨b, o, none⟩) ∧ (∀ b o, b < W.heap.size → w1.frozen? ⟨b, o, none⟩ = W.frozen? ⟨b, o, none⟩) :=
  ⟨fun b o h => hb.cell (p := ⟨b, o, none⟩) h, fun b o h => hb.frozen (p := ⟨b, o, none⟩) h⟩
theorem ret_sum {a b a' b' : Int} {c c' : Bool} (h : a = a') (g : b = b') (k : c = c') : Ending.returned (.agg #[.int .u64 a, .int .u64 b, .bool c]) = .returned (.agg #[.int .u64 a', .int .u64 b', .bool c']) := by rw [h, g, k]
theorem name_world {P : World → Prop} (W : World) (h : ∀ W', W' = W → P W') : P W := h W rfl
theorem Has.mk3 {B : Nat} {x y z : Value} {W : World} (h : B < W.heap.size) (h0 : W.cell? ⟨B, 0, none⟩ = some x) (h1 : W.cell? ⟨B, 1, none⟩ = some y) (h2 : W.cell? ⟨B, 2, none⟩ = some z) : Has B [x, y, z] W := by
  refine ⟨h, fun j v hv => ?_⟩
  match j, hv with
  | 0, hv => simp at hv; subst hv; exact h0
  | 1, hv => simp at hv; subst hv; exact h1
  | 2, hv => simp at hv; subst hv; exact h2
set_option maxRecDepth 20000 in
set_option maxHeartbeats 4000000 in
theorem addTwo_0t (a1 a0 b1 b0 x y z : Int) (e1 : IntKind.u64.wrap (a0 + b0) = x) (hc : ¬ x < a0) (e2 : IntKind.u64.wrap (a1 + b1) = y) (ho : y < a1) (e3 : IntKind.u64.wrap y = z) (w : World) :
    Calls Try.prog 26 #[.agg #[.int .u64 a1, .int .u64 a0], .agg #[.int .u64 b1, .int .u64 b0]] w fun e w' => e = .returned (.agg #[.int .u64 z, .int .u64 x, .bool true]) ∧ Below w.heap.size w w' := by
  have d1 : decide (x < a0) = false := by simpa using hc
  have d2 : decide (y < a1) = true := by simpa using ho
  go_enter Try.func26, Try.ntmps26
  go_wp2_with fail
  go_returns
  exact ⟨rfl, bb⟩
set_option maxRecDepth 20000 in
set_option maxHeartbeats 4000000 in
theorem addTwo_0f (a1 a0 b1 b0 x y z : Int) (e1 : IntKind.u64.wrap (a0 + b0) = x) (hc : ¬ x < a0) (e2 : IntKind.u64.wrap (a1 + b1) = y) (ho : ¬ y < a1) (e3 : IntKind.u64.wrap y = z) (w : World) :
    Calls Try.prog 26 #[.agg #[.int .u64 a1, .int .u64 a0], .agg #[.int .u64 b1, .int .u64 b0]] w fun e w' => e = .returned (.agg #[.int .u64 z, .int .u64 x, .bool false]) ∧ Below w.heap.size w w' := by
  have d1 : decide (x < a0) = false := by simpa using hc
  have d2 : decide (y < a1) = false := by simpa using ho
  go_enter Try.func26, Try.ntmps26
  go_wp2_with fail
  go_returns
  exact ⟨rfl, bb⟩
set_option maxRecDepth 20000 in
set_option maxHeartbeats 4000000 in
theorem addTwo_1t (a1 a0 b1 b0 x y z : Int) (e1 : IntKind.u64.wrap (a0 + b0) = x) (hc : x < a0) (e2 : IntKind.u64.wrap (a1 + b1) = y) (ho : y < a1) (e3 : IntKind.u64.wrap (y + 1) = z) (w : World) :
    Calls Try.prog 26 #[.agg #[.int .u64 a1, .int .u64 a0], .agg #[.int .u64 b1, .int .u64 b0]] w fun e w' => e = .returned (.agg #[.int .u64 z, .int .u64 x, .bool true]) ∧ Below w.heap.size w w' := by
  have d1 : decide (x < a0) = true := by simpa using hc
  have d2 : decide (y < a1) = true := by simpa using ho
  go_enter Try.func26, Try.ntmps26
  go_wp2_with fail
  go_returns
  exact ⟨rfl, bb⟩
set_option maxRecDepth 20000 in
set_option maxHeartbeats 4000000 in
theorem addTwo_1f (a1 a0 b1 b0 x y z : Int) (q : Bool) (e1 : IntKind.u64.wrap (a0 + b0) = x) (hc : x < a0) (e2 : IntKind.u64.wrap (a1 + b1) = y) (ho : ¬ y < a1) (e3 : IntKind.u64.wrap (y + 1) = z) (e4 : (z == 0) = q) (w : World) :
    Calls Try.prog 26 #[.agg #[.int .u64 a1, .int .u64 a0], .agg #[.int .u64 b1, .int .u64 b0]] w fun e w' => e = .returned (.agg #[.int .u64 z, .int .u64 x, .bool q]) ∧ Below w.heap.size w w' := by
  have d1 : decide (x < a0) = true := by simpa using hc
  have d2 : decide (y < a1) = false := by simpa using ho
  go_enter Try.func26, Try.ntmps26
  go_wp2_with fail
  go_returns
  exact ⟨rfl, bb⟩
theorem addTwo_any (a1 a0 b1 b0 : Int) (ha1 : Wd a1) (ha0 : Wd a0) (hb1 : Wd b1) (hb0 : Wd b0) (w : World) :
    Calls Try.prog 26 #[.agg #[.int .u64 a1, .int .u64 a0], .agg #[.int .u64 b1, .int .u64 b0]] w fun e w' =>
      e = .returned (.agg #[.int .u64 (wd (v2 a1 a0 + v2 b1 b0) 1), .int .u64 (wd (v2 a1 a0 + v2 b1 b0) 0), .bool (decide (340282366920938463463374607431768211456 ≤ v2 a1 a0 + v2 b1 b0))]) ∧ Below w.heap.size w w' := by
  obtain ⟨p0, p1⟩ := ha1; obtain ⟨p2, p3⟩ := ha0; obtain ⟨p4, p5⟩ := hb1; obtain ⟨p6, p7⟩ := hb0
  have r0 : wd (v2 a1 a0 + v2 b1 b0) 0 = IntKind.u64.wrap (a0 + b0) := by rw [wrap_u64, wd0]; unfold v2; omega
  by_cases c : IntKind.u64.wrap (a0 + b0) < a0
  · have r1 : wd (v2 a1 a0 + v2 b1 b0) 1 = IntKind.u64.wrap (IntKind.u64.wrap (a1 + b1) + 1) := by rw [wrap_u64] at c; rw [wrap_u64, wrap_u64, wd1]; unfold v2; omega
    by_cases o : IntKind.u64.wrap (a1 + b1) < a1
    · rw [r0, r1, decide_eq_true (by rw [wrap_u64] at c o; unfold v2; omega)]
      exact addTwo_1t _ _ _ _ _ _ _ rfl c rfl o rfl w
    · rw [r0, r1, show decide (340282366920938463463374607431768211456 ≤ v2 a1 a0 + v2 b1 b0) = (IntKind.u64.wrap (IntKind.u64.wrap (a1 + b1) + 1) == 0) by
        rw [Bool.eq_iff_iff, decide_eq_true_eq, beq_iff_eq]; rw [wrap_u64] at c o; rw [wrap_u64, wrap_u64]; unfold v2; omega]
      exact addTwo_1f _ _ _ _ _ _ _ _ rfl c rfl o rfl rfl w
  · have r1 : wd (v2 a1 a0 + v2 b1 b0) 1 = IntKind.u64.wrap (IntKind.u64.wrap (a1 + b1)) := by rw [wrap_u64] at c; rw [wrap_u64, wrap_u64, wd1]; unfold v2; omega
    by_cases o : IntKind.u64.wrap (a1 + b1) < a1
    · rw [r0, r1, decide_eq_true (by rw [wrap_u64] at c o; unfold v2; omega)]
      exact addTwo_0t _ _ _ _ _ _ _ rfl c rfl o rfl w
    · rw [r0, r1, decide_eq_false (by rw [wrap_u64] at c o; unfold v2; omega)]
      exact addTwo_0f _ _ _ _ _ _ _ rfl c rfl o rfl w
set_option maxRecDepth 20000 in
set_option maxHeartbeats 4000000 in
theorem less_lt (a1 a0 b1 b0 : Int) (h : a1 < b1) (w : World) :
    Calls Try.prog 27 #[.agg #[.int .u64 a1, .int .u64 a0], .agg #[.int .u64 b1, .int .u64 b0]] w fun e w' => e = .returned (.bool true) ∧ Below w.heap.size w w' := by
  have d1 : decide (a1 < b1) = true := by simpa using h
  go_enter Try.func27, Try.ntmps27
  go_wp2_with fail
  go_returns
  exact ⟨rfl, bb⟩
set_option maxRecDepth 20000 in
set_option maxHeartbeats 4000000 in
theorem less_eq (a1 a0 b1 b0 : Int) (q : Bool) (h : a1 = b1) (e : decide (a0 < b0) = q) (w : World) :
    Calls Try.prog 27 #[.agg #[.int .u64 a1, .int .u64 a0], .agg #[.int .u64 b1, .int .u64 b0]] w fun e w' => e = .returned (.bool q) ∧ Below w.heap.size w w' := by
  subst h
  have d1 : decide (a1 < a1) = false := by simp
  go_enter Try.func27, Try.ntmps27
  go_wp2_with fail
  go_returns
  exact ⟨rfl, bb⟩
set_option maxRecDepth 20000 in
set_option maxHeartbeats 4000000 in
theorem less_gt (a1 a0 b1 b0 : Int) (h : b1 < a1) (w : World) :
    Calls Try.prog 27 #[.agg #[.int .u64 a1, .int .u64 a0], .agg #[.int .u64 b1, .int .u64 b0]] w fun e w' => e = .returned (.bool false) ∧ Below w.heap.size w w' := by
  have d1 : decide (a1 < b1) = false := by simp; omega
  have d2 : (a1 == b1) = false := by simp; omega
  go_enter Try.func27, Try.ntmps27
  go_wp2_with fail
  go_returns
  exact ⟨rfl, bb⟩
theorem less_any (a1 a0 b1 b0 : Int) (ha1 : Wd a1) (ha0 : Wd a0) (hb1 : Wd b1) (hb0 : Wd b0) (w : World) :
    Calls Try.prog 27 #[.agg #[.int .u64 a1, .int .u64 a0], .agg #[.int .u64 b1, .int .u64 b0]] w fun e w' => e = .returned (.bool (decide (v2 a1 a0 < v2 b1 b0))) ∧ Below w.heap.size w w' := by
  obtain ⟨p0, p1⟩ := ha1; obtain ⟨p2, p3⟩ := ha0; obtain ⟨p4, p5⟩ := hb1; obtain ⟨p6, p7⟩ := hb0
  rcases (show a1 < b1 ∨ a1 = b1 ∨ b1 < a1 by omega) with h | h | h
  · rw [decide_eq_true (show v2 a1 a0 < v2 b1 b0 by unfold v2; omega)]; exact less_lt _ _ _ _ h w
  · rw [show decide (v2 a1 a0 < v2 b1 b0) = decide (a0 < b0) by rw [decide_eq_decide]; unfold v2; omega]; exact less_eq _ _ _ _ _ h rfl w
  · rw [decide_eq_false (show ¬ v2 a1 a0 < v2 b1 b0 by unfold v2; omega)]; exact less_gt _ _ _ _ h w
set_option maxRecDepth 20000 in
set_option maxHeartbeats 4000000 in
theorem subTwo_0 (a1 a0 b1 b0 x y z : Int) (q : Bool) (hc : ¬ a0 < b0) (e1 : IntKind.u64.wrap (a1 - b1) = x) (e2 : IntKind.u64.wrap x = y) (e3 : IntKind.u64.wrap (a0 - b0) = z) (w : World)
    (C1 : Ct 27 #[.agg #[.int .u64 a1, .int .u64 a0], .agg #[.int .u64 b1, .int .u64 b0]] (.bool q)) :
    Calls Try.prog 28 #[.agg #[.int .u64 a1, .int .u64 a0], .agg #[.int .u64 b1, .int .u64 b0]] w fun e w' => e = .returned (.agg #[.int .u64 y, .int .u64 z, .bool q]) ∧ Below w.heap.size w w' := by
  have K1 := Lib.hid C1
  clear C1
  have d1 : decide (a0 < b0) = false := by simpa using hc
  clear hc
  go_enter Try.func28, Try.ntmps28
  go_upto_region 4 with fail
  go_region_held3 (fun w' => w'.cell? ⟨w.heap.size, 0, none⟩ = some (.int .u64 a1) ∧ w'.cell? ⟨w.heap.size, 1, none⟩ = some (.int .u64 a0) ∧ w'.cell? ⟨w.heap.size + 1, 0, none⟩ = some (.int .u64 b1) ∧ w'.cell? ⟨w.heap.size + 1, 1, none⟩ = some (.int .u64 b0)) (first | (simp [*, go_sem]; done) | (simp [*, go_sem, World.cell?_alloc_past]; done))
    (first
      | (go_at_call 27; (with_reducible refine (K1.out _).mono ?_); rintro e w1 ⟨rfl, hb⟩; (first | (with_reducible (obtain ⟨hclw1, hfrw1⟩ := bcell_drew hb)) | (obtain ⟨hclw1, hfrw1⟩ := bcell hb)); obtain ⟨zw1_a, yw1_a, yyw1_a⟩ := sz3 (B := w.heap.size) hb; obtain ⟨zw1_b, yw1_b, yyw1_b⟩ := sz3 (B := w.heap.size + 1) hb; obtain ⟨zw1_r, yw1_r, yyw1_r⟩ := sz3 (B := w.heap.size + 1 + 1) hb; (try have sw1_0 := sz (B := w.heap.size + 1 + 1 + 1) hb); (try have stw1_0 := sz (B := w.heap.size + 1 + 1 + 1 + 1) hb); obtain ⟨sxw1_0, syw1_0⟩ := szx (b := w.heap.size + 1 + 1 + 1) hb; have HBw1 := hbw (a := w) hb; clear hb; clear K1))
  rename_i hHeld
  clear hHeld
  go_wp2_with fail
  refine bodyPost_ret (by simp [results, Try.results28, go_sem, *]; try rfl) rfl ?_
  exact ⟨rfl, bb⟩
set_option maxRecDepth 20000 in
set_option maxHeartbeats 4000000 in
theorem subTwo_1 (a1 a0 b1 b0 x y z : Int) (q : Bool) (hc : a0 < b0) (e1 : IntKind.u64.wrap (a1 - b1) = x) (e2 : IntKind.u64.wrap (x - 1) = y) (e3 : IntKind.u64.wrap (a0 - b0) = z) (w : World)
    (C1 : Ct 27 #[.agg #[.int .u64 a1, .int .u64 a0], .agg #[.int .u64 b1, .int .u64 b0]] (.bool q)) :
    Calls Try.prog 28 #[.agg #[.int .u64 a1, .int .u64 a0], .agg #[.int .u64 b1, .int .u64 b0]] w fun e w' => e = .returned (.agg #[.int .u64 y, .int .u64 z, .bool q]) ∧ Below w.heap.size w w' := by
  have K1 := Lib.hid C1
  clear C1
  have d1 : decide (a0 < b0) = true := by simpa using hc
  clear hc
  go_enter Try.func28, Try.ntmps28
  go_upto_region 4 with fail
  go_region_held3 (fun w' => w'.cell? ⟨w.heap.size, 0, none⟩ = some (.int .u64 a1) ∧ w'.cell? ⟨w.heap.size, 1, none⟩ = some (.int .u64 a0) ∧ w'.cell? ⟨w.heap.size + 1, 0, none⟩ = some (.int .u64 b1) ∧ w'.cell? ⟨w.heap.size + 1, 1, none⟩ = some (.int .u64 b0)) (first | (simp [*, go_sem]; done) | (simp [*, go_sem, World.cell?_alloc_past]; done))
    (first
      | (go_at_call 27; (with_reducible refine (K1.out _).mono ?_); rintro e w1 ⟨rfl, hb⟩; (first | (with_reducible (obtain ⟨hclw1, hfrw1⟩ := bcell_drew hb)) | (obtain ⟨hclw1, hfrw1⟩ := bcell hb)); obtain ⟨zw1_a, yw1_a, yyw1_a⟩ := sz3 (B := w.heap.size) hb; obtain ⟨zw1_b, yw1_b, yyw1_b⟩ := sz3 (B := w.heap.size + 1) hb; obtain ⟨zw1_r, yw1_r, yyw1_r⟩ := sz3 (B := w.heap.size + 1 + 1) hb; (try have sw1_0 := sz (B := w.heap.size + 1 + 1 + 1) hb); (try have stw1_0 := sz (B := w.heap.size + 1 + 1 + 1 + 1) hb); obtain ⟨sxw1_0, syw1_0⟩ := szx (b := w.heap.size + 1 + 1 + 1) hb; have HBw1 := hbw (a := w) hb; clear hb; clear K1))
  rename_i hHeld
  clear hHeld
  go_wp2_with fail
  refine bodyPost_ret (by simp [results, Try.results28, go_sem, *]; try rfl) rfl ?_
  exact ⟨rfl, bb⟩
theorem subTwo_any (a1 a0 b1 b0 : Int) (ha1 : Wd a1) (ha0 : Wd a0) (hb1 : Wd b1) (hb0 : Wd b0) (w : World) :
    Calls Try.prog 28 #[.agg #[.int .u64 a1, .int .u64 a0], .agg #[.int .u64 b1, .int .u64 b0]] w fun e w' =>
      e = .returned (.agg #[.int .u64 (wd (v2 a1 a0 + (340282366920938463463374607431768211456 - v2 b1 b0)) 1), .int .u64 (wd (v2 a1 a0 + (340282366920938463463374607431768211456 - v2 b1 b0)) 0), .bool (decide (v2 a1 a0 < v2 b1 b0))]) ∧ Below w.heap.size w w' := by
  have L := less_any a1 a0 b1 b0 ha1 ha0 hb1 hb0
  have hv := v2_lt hb1 hb0
  obtain ⟨p0, p1⟩ := ha1; obtain ⟨p2, p3⟩ := ha0; obtain ⟨p4, p5⟩ := hb1; obtain ⟨p6, p7⟩ := hb0
  have r0 : wd (v2 a1 a0 + (340282366920938463463374607431768211456 - v2 b1 b0)) 0 = IntKind.u64.wrap (a0 - b0) := by rw [wrap_u64, wd0]; unfold v2 at *; omega
  by_cases c : a0 < b0
  · have r1 : wd (v2 a1 a0 + (340282366920938463463374607431768211456 - v2 b1 b0)) 1 = IntKind.u64.wrap (IntKind.u64.wrap (a1 - b1) - 1) := by rw [wrap_u64, wrap_u64, wd1]; unfold v2 at *; omega
    rw [r0, r1]
    exact subTwo_1 _ _ _ _ _ _ _ _ c rfl rfl rfl w L
  · have r1 : wd (v2 a1 a0 + (340282366920938463463374607431768211456 - v2 b1 b0)) 1 = IntKind.u64.wrap (IntKind.u64.wrap (a1 - b1)) := by rw [wrap_u64, wrap_u64, wd1]; unfold v2 at *; omega
    rw [r0, r1]
    exact subTwo_0 _ _ _ _ _ _ _ _ c rfl rfl rfl w L
end Go.Proofs.Ytnedljclkhpdpaa
namespace Go.Proofs.Ytnedljclkhpdpaa
open Go.RowKit

theorem u64_low (x : Int) (h : Wd x) : bits .and .u64 x 4294967295 = x % 4294967296 := bits_mask .u64 64 (by decide) (fun n h0 h1 => IntWalk.u64_in n (by omega)) 32 (by decide) x h.1 h.2
theorem prod_nat {a0 a1 b0 b1 : Nat} (h0 : a0 < 4294967296) (h1 : a1 < 4294967296) (h2 : b0 < 4294967296) (h3 : b1 < 4294967296) :
    (a1 * 4294967296 + a0) * (b1 * 4294967296 + b0) = a1 * b1 * 18446744073709551616 + (a1 * b0 + a0 * b1) * 4294967296 + a0 * b0 ∧ a0 * b0 ≤ 18446744065119617025 ∧ a1 * b0 ≤ 18446744065119617025 ∧ a0 * b1 ≤ 18446744065119617025 ∧ a1 * b1 ≤ 18446744065119617025 := by
  have k : ∀ {x y : Nat}, x < 4294967296 → y < 4294967296 → x * y ≤ 18446744065119617025 := fun hx hy => Nat.le_trans (Nat.mul_le_mul (show _ ≤ 4294967295 by omega) (show _ ≤ 4294967295 by omega)) (by decide)
  refine ⟨?_, k h0 h2, k h1 h2, k h0 h3, k h1 h3⟩
  rw [Nat.add_mul, Nat.mul_add, Nat.mul_add, Nat.add_mul, Nat.mul_right_comm a1 4294967296 (b1 * 4294967296), ← Nat.mul_assoc a1 b1, Nat.mul_assoc (a1 * b1), Nat.mul_right_comm a1 4294967296 b0, ← Nat.mul_assoc a0 b1]
  omega
end Go.Proofs.Ytnedljclkhpdpaa
