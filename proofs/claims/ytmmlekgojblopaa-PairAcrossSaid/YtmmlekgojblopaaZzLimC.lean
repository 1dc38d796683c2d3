/- The document's product of two words. -/
import Derived.Test.YtmmlekgojblopaaZzLimB
import Derived.Test.YtmmlekgojblopaaZzLimA
import Derived.Deep.LoopGhost
import Derived.ProofKit
import Derived.Lib.SmallJoins
import Derived.Deep.DeepCutAuto
import Derived.Handy
import Derived.Deep.RegionHeld3
namespace Go.Proofs.Ytmmlekgojblopaa
open Go.RowKit

theorem Wrote.undrew {B o n : Nat} {w w' : World} (h : Wrote B o n w.drew w') : Wrote B o n w w' := ⟨h.os, h.tape, h.output, h.size, h.block, h.cells, h.frozen⟩
theorem Twelve.other {B o n b : Nat} {x0 x1 x2 x3 x4 x5 x6 x7 x8 x9 x10 x11 : Int} {w w' : World} (h : Twelve b x0 x1 x2 x3 x4 x5 x6 x7 x8 x9 x10 x11 w) (hw : Wrote B o n w w') (hb : b < w.heap.size) (hn : b ≠ B) : Twelve b x0 x1 x2 x3 x4 x5 x6 x7 x8 x9 x10 x11 w' := by
  obtain ⟨c0, c1, c2, c3, c4, c5, c6, c7, c8, c9, c10, c11⟩ := h
  refine ⟨?_, ?_, ?_, ?_, ?_, ?_, ?_, ?_, ?_, ?_, ?_, ?_⟩ <;> (rw [hw.other hb hn]; assumption)
theorem DivPro.wrote {w : World} {a3 a2 a1 a0 b1 b0 : Int} {B o n : Nat} {W W' : World} (h : DivPro w a3 a2 a1 a0 b1 b0 W) (g : Wrote B o n W W') (hB : w.heap.size + 3 < B) : DivPro w a3 a2 a1 a0 b1 b0 W' := by
  have hs := h.size
  have c := fun b j (hb : b < W.heap.size) (hn : b ≠ B) => g.other (j := j) hb hn
  have f := fun b j (hb : b < W.heap.size) (hn : b ≠ B) => World.frozen?_of_block (a := ⟨b, j, none⟩) (g.block b hb hn)
  refine ⟨Nat.lt_of_lt_of_le h.size g.size, h.below.trans (g.below (by omega) (by omega)), ?_, ?_, ?_, ?_, ?_, ?_, ?_, ?_, ?_, ?_, ?_, ?_, fun j => ?_, fun j => ?_⟩
  · rw [c _ _ (by omega) (by omega)]; exact h.ca0
  · rw [c _ _ (by omega) (by omega)]; exact h.ca1
  · rw [c _ _ (by omega) (by omega)]; exact h.ca2
  · rw [c _ _ (by omega) (by omega)]; exact h.ca3
  · rw [c _ _ (by omega) (by omega)]; exact h.cb0
  · rw [c _ _ (by omega) (by omega)]; exact h.cb1
  · rw [c _ _ (by omega) (by omega)]; exact h.cq0
  · rw [c _ _ (by omega) (by omega)]; exact h.cq1
  · rw [c _ _ (by omega) (by omega)]; exact h.cq2
  · rw [c _ _ (by omega) (by omega)]; exact h.cq3
  · rw [c _ _ (by omega) (by omega)]; exact h.cr0
  · rw [c _ _ (by omega) (by omega)]; exact h.cr1
  · rw [f _ _ (by omega) (by omega)]; exact h.zq j
  · rw [f _ _ (by omega) (by omega)]; exact h.zr j
theorem Eight.set0 {B : Nat} {x0 x1 x2 x3 x4 x5 x6 x7 q : Int} {w : World} (h : Eight B x0 x1 x2 x3 x4 x5 x6 x7 w) : Eight B q x1 x2 x3 x4 x5 x6 x7 (w.setCell ⟨B, 0, none⟩ (.int .u32 q)) := by
  obtain ⟨c0, c1, c2, c3, c4, c5, c6, c7⟩ := h
  exact ⟨World.cell?_setCell_same _ _ _ c0, (World.cell?_setCell_other _ _ _ _ (by simp)).trans c1, (World.cell?_setCell_other _ _ _ _ (by simp)).trans c2, (World.cell?_setCell_other _ _ _ _ (by simp)).trans c3, (World.cell?_setCell_other _ _ _ _ (by simp)).trans c4, (World.cell?_setCell_other _ _ _ _ (by simp)).trans c5, (World.cell?_setCell_other _ _ _ _ (by simp)).trans c6, (World.cell?_setCell_other _ _ _ _ (by simp)).trans c7⟩
theorem Eight.set1 {B : Nat} {x0 x1 x2 x3 x4 x5 x6 x7 q : Int} {w : World} (h : Eight B x0 x1 x2 x3 x4 x5 x6 x7 w) : Eight B x0 q x2 x3 x4 x5 x6 x7 (w.setCell ⟨B, 1, none⟩ (.int .u32 q)) := by
  obtain ⟨c0, c1, c2, c3, c4, c5, c6, c7⟩ := h
  exact ⟨(World.cell?_setCell_other _ _ _ _ (by simp)).trans c0, World.cell?_setCell_same _ _ _ c1, (World.cell?_setCell_other _ _ _ _ (by simp)).trans c2, (World.cell?_setCell_other _ _ _ _ (by simp)).trans c3, (World.cell?_setCell_other _ _ _ _ (by simp)).trans c4, (World.cell?_setCell_other _ _ _ _ (by simp)).trans c5, (World.cell?_setCell_other _ _ _ _ (by simp)).trans c6, (World.cell?_setCell_other _ _ _ _ (by simp)).trans c7⟩
theorem Eight.set2 {B : Nat} {x0 x1 x2 x3 x4 x5 x6 x7 q : Int} {w : World} (h : Eight B x0 x1 x2 x3 x4 x5 x6 x7 w) : Eight B x0 x1 q x3 x4 x5 x6 x7 (w.setCell ⟨B, 2, none⟩ (.int .u32 q)) := by
  obtain ⟨c0, c1, c2, c3, c4, c5, c6, c7⟩ := h
  exact ⟨(World.cell?_setCell_other _ _ _ _ (by simp)).trans c0, (World.cell?_setCell_other _ _ _ _ (by simp)).trans c1, World.cell?_setCell_same _ _ _ c2, (World.cell?_setCell_other _ _ _ _ (by simp)).trans c3, (World.cell?_setCell_other _ _ _ _ (by simp)).trans c4, (World.cell?_setCell_other _ _ _ _ (by simp)).trans c5, (World.cell?_setCell_other _ _ _ _ (by simp)).trans c6, (World.cell?_setCell_other _ _ _ _ (by simp)).trans c7⟩
theorem Eight.set3 {B : Nat} {x0 x1 x2 x3 x4 x5 x6 x7 q : Int} {w : World} (h : Eight B x0 x1 x2 x3 x4 x5 x6 x7 w) : Eight B x0 x1 x2 q x4 x5 x6 x7 (w.setCell ⟨B, 3, none⟩ (.int .u32 q)) := by
  obtain ⟨c0, c1, c2, c3, c4, c5, c6, c7⟩ := h
  exact ⟨(World.cell?_setCell_other _ _ _ _ (by simp)).trans c0, (World.cell?_setCell_other _ _ _ _ (by simp)).trans c1, (World.cell?_setCell_other _ _ _ _ (by simp)).trans c2, World.cell?_setCell_same _ _ _ c3, (World.cell?_setCell_other _ _ _ _ (by simp)).trans c4, (World.cell?_setCell_other _ _ _ _ (by simp)).trans c5, (World.cell?_setCell_other _ _ _ _ (by simp)).trans c6, (World.cell?_setCell_other _ _ _ _ (by simp)).trans c7⟩
theorem Eight.set4 {B : Nat} {x0 x1 x2 x3 x4 x5 x6 x7 q : Int} {w : World} (h : Eight B x0 x1 x2 x3 x4 x5 x6 x7 w) : Eight B x0 x1 x2 x3 q x5 x6 x7 (w.setCell ⟨B, 4, none⟩ (.int .u32 q)) := by
  obtain ⟨c0, c1, c2, c3, c4, c5, c6, c7⟩ := h
  exact ⟨(World.cell?_setCell_other _ _ _ _ (by simp)).trans c0, (World.cell?_setCell_other _ _ _ _ (by simp)).trans c1, (World.cell?_setCell_other _ _ _ _ (by simp)).trans c2, (World.cell?_setCell_other _ _ _ _ (by simp)).trans c3, World.cell?_setCell_same _ _ _ c4, (World.cell?_setCell_other _ _ _ _ (by simp)).trans c5, (World.cell?_setCell_other _ _ _ _ (by simp)).trans c6, (World.cell?_setCell_other _ _ _ _ (by simp)).trans c7⟩
theorem Eight.set5 {B : Nat} {x0 x1 x2 x3 x4 x5 x6 x7 q : Int} {w : World} (h : Eight B x0 x1 x2 x3 x4 x5 x6 x7 w) : Eight B x0 x1 x2 x3 x4 q x6 x7 (w.setCell ⟨B, 5, none⟩ (.int .u32 q)) := by
  obtain ⟨c0, c1, c2, c3, c4, c5, c6, c7⟩ := h
  exact ⟨(World.cell?_setCell_other _ _ _ _ (by simp)).trans c0, (World.cell?_setCell_other _ _ _ _ (by simp)).trans c1, (World.cell?_setCell_other _ _ _ _ (by simp)).trans c2, (World.cell?_setCell_other _ _ _ _ (by simp)).trans c3, (World.cell?_setCell_other _ _ _ _ (by simp)).trans c4, World.cell?_setCell_same _ _ _ c5, (World.cell?_setCell_other _ _ _ _ (by simp)).trans c6, (World.cell?_setCell_other _ _ _ _ (by simp)).trans c7⟩
theorem Eight.set6 {B : Nat} {x0 x1 x2 x3 x4 x5 x6 x7 q : Int} {w : World} (h : Eight B x0 x1 x2 x3 x4 x5 x6 x7 w) : Eight B x0 x1 x2 x3 x4 x5 q x7 (w.setCell ⟨B, 6, none⟩ (.int .u32 q)) := by
  obtain ⟨c0, c1, c2, c3, c4, c5, c6, c7⟩ := h
  exact ⟨(World.cell?_setCell_other _ _ _ _ (by simp)).trans c0, (World.cell?_setCell_other _ _ _ _ (by simp)).trans c1, (World.cell?_setCell_other _ _ _ _ (by simp)).trans c2, (World.cell?_setCell_other _ _ _ _ (by simp)).trans c3, (World.cell?_setCell_other _ _ _ _ (by simp)).trans c4, (World.cell?_setCell_other _ _ _ _ (by simp)).trans c5, World.cell?_setCell_same _ _ _ c6, (World.cell?_setCell_other _ _ _ _ (by simp)).trans c7⟩
theorem Eight.set7 {B : Nat} {x0 x1 x2 x3 x4 x5 x6 x7 q : Int} {w : World} (h : Eight B x0 x1 x2 x3 x4 x5 x6 x7 w) : Eight B x0 x1 x2 x3 x4 x5 x6 q (w.setCell ⟨B, 7, none⟩ (.int .u32 q)) := by
  obtain ⟨c0, c1, c2, c3, c4, c5, c6, c7⟩ := h
  exact ⟨(World.cell?_setCell_other _ _ _ _ (by simp)).trans c0, (World.cell?_setCell_other _ _ _ _ (by simp)).trans c1, (World.cell?_setCell_other _ _ _ _ (by simp)).trans c2, (World.cell?_setCell_other _ _ _ _ (by simp)).trans c3, (World.cell?_setCell_other _ _ _ _ (by simp)).trans c4, (World.cell?_setCell_other _ _ _ _ (by simp)).trans c5, (World.cell?_setCell_other _ _ _ _ (by simp)).trans c6, World.cell?_setCell_same _ _ _ c7⟩
/-- What Div comes to, of halves. -/
def DivGot (x0 x1 x2 x3 x4 x5 x6 x7 x8 x9 x10 x11 v0 v1 v2 v3 L : Int) (w : World) (e : Ending) (w' : World) : Prop := ∃ q0 q1 q2 q3 q4 q5 q6 q7 y0 y1 y2 y3 : Int, Hf q0 ∧ Hf q1 ∧ Hf q2 ∧ Hf q3 ∧ Hf q4 ∧ Hf q5 ∧ Hf q6 ∧ Hf q7 ∧ Hf y0 ∧ Hf y1 ∧ Hf y2 ∧ Hf y3 ∧
  hv4 x0 x1 x2 x3 + hv4 x4 x5 x6 x7 * 340282366920938463463374607431768211456 + hv4 x8 x9 x10 x11 * 115792089237316195423570985008687907853269984665640564039457584007913129639936 = quo q0 q1 q2 q3 q4 q5 q6 q7 * hv4 v0 v1 v2 v3 + hv4 y0 y1 y2 y3 ∧
  hv4 y0 y1 y2 y3 < hv4 v0 v1 v2 v3 ∧
  e = .returned (.tuple #[.agg #[.int .u64 (q7 * 4294967296 + q6), .int .u64 (q5 * 4294967296 + q4), .int .u64 (q3 * 4294967296 + q2), .int .u64 (q1 * 4294967296 + q0)],
    .agg #[.int .u64 (wd (v4 0 0 (y3 * 4294967296 + y2) (y1 * 4294967296 + y0) / 2 ^ (128 - L).toNat) 1), .int .u64 (wd (v4 0 0 (y3 * 4294967296 + y2) (y1 * 4294967296 + y0) / 2 ^ (128 - L).toNat) 0)], .bool true]) ∧
  Below w.heap.size w w'
set_option maxHeartbeats 8000000 in
theorem div_walk (a3 a2 a1 a0 b1 b0 L s3 s2 s1 s0 v0 v1 v2 v3 x0 x1 x2 x3 x4 x5 x6 x7 x8 x9 x10 x11 : Int) (hx0 : Hf x0) (hx1 : Hf x1) (hx2 : Hf x2) (hx3 : Hf x3) (hx4 : Hf x4) (hx5 : Hf x5) (hx6 : Hf x6) (hx7 : Hf x7) (hx8 : Hf x8) (hx9 : Hf x9) (hx10 : Hf x10) (hx11 : Hf x11) (hv0 : Hf v0) (hv1 : Hf v1) (hv2 : Hf v2) (hv3 : Hf v3) (hT : 2147483648 ≤ v3) (hlt : hv4 x8 x9 x10 x11 < hv4 v0 v1 v2 v3) (hL0 : 0 ≤ L) (hL1 : L ≤ 128) (hne : ¬(b1 = 0 ∧ b0 = 0)) (w : World)
    (C1 : ∀ W, Calls Try.prog 66 #[.agg #[.int .u64 0, .int .u64 0, .int .u64 b1, .int .u64 b0]] W fun e w' => e = .returned (.int .i64 L) ∧ Below W.heap.size W w')
    (C2 : ∀ W, Calls Try.prog 43 #[.agg #[.int .u64 0, .int .u64 0, .int .u64 b1, .int .u64 b0], .int .i64 (128 - L)] W fun e w' => e = .returned (.agg #[.int .u64 s3, .int .u64 s2, .int .u64 s1, .int .u64 s0]) ∧ Below W.heap.size W w')
    (C3 : ∀ W, Calls Try.prog 67 #[.agg #[.int .u64 s1, .int .u64 s0]] W fun e w' => e = .returned (.agg #[.int .u32 v0, .int .u32 v1, .int .u32 v2, .int .u32 v3]) ∧ Below W.heap.size W w')
    (C4 : ∀ W, Calls Try.prog 68 #[.agg #[.int .u64 a3, .int .u64 a2, .int .u64 a1, .int .u64 a0], .int .i64 (128 - L)] W fun e w' => e = .returned (.agg #[.int .u32 x0, .int .u32 x1, .int .u32 x2, .int .u32 x3, .int .u32 x4, .int .u32 x5, .int .u32 x6, .int .u32 x7, .int .u32 x8, .int .u32 x9, .int .u32 x10, .int .u32 x11]) ∧ Below W.heap.size W w') :
    Calls Try.prog 42 #[.agg #[.int .u64 a3, .int .u64 a2, .int .u64 a1, .int .u64 a0], .agg #[.int .u64 b1, .int .u64 b0]] w (DivGot x0 x1 x2 x3 x4 x5 x6 x7 x8 x9 x10 x11 v0 v1 v2 v3 L w) := by
  have H1 := Lib.hid C1; have H2 := Lib.hid C2; have H3 := Lib.hid C3; have H4 := Lib.hid C4
  clear C1 C2 C3 C4
  have heq : ∀ W, (Go.binOp .eql 62 (.agg #[.int .u64 b1, .int .u64 b0]) (.agg #[.int .u64 0, .int .u64 0])).run Try.prog W = .ok (.bool false) W := by
    intro W
    by_cases c : b1 = 0
    · have d : (b0 == 0) = false := by rw [beq_eq_false_iff_ne]; exact fun d => hne ⟨c, d⟩
      subst c
      simp [go_sem, *]
    · have d : (b1 == 0) = false := by rw [beq_eq_false_iff_ne]; exact c
      simp [go_sem, *]
  have fl := fun x0 x1 x2 x3 w => (field_four x0 x1 x2 x3 w).2
  have wr : IntKind.i64.wrap (128 - L) = 128 - L := IntWalk.i64_in _ (by omega)
  go_enter Try.func42, Try.ntmps42
  go_wp2_with fail
  clear heq
  refine calls_gen (DivPro w a3 a2 a1 a0 b1 b0) ?_ ?_
  · refine ⟨by simp, by go_grown, ?_, ?_, ?_, ?_, ?_, ?_, ?_, ?_, ?_, ?_, ?_, ?_, fun j => ?_, fun j => ?_⟩
    all_goals first | (simp [go_sem]; done) | (simp [frozen?_alloc_cells, World.frozen?]; done)
  intro W0 P0
  have z0 := P0.size
  have cb0 := P0.cb0; have cb1 := P0.cb1
  refine (H1.out _).mono ?_
  rintro e w1 ⟨rfl, hb⟩
  have HP1 := Lib.hid (P0.step hb)
  clear cb0 cb1 hb P0 z0
  have cb0 := HP1.out.cb0; have cb1 := HP1.out.cb1
  go_wp2_with fail
  refine (H2.out _).mono ?_
  rintro e w2 ⟨rfl, hb⟩
  have HP2 := Lib.hid (HP1.out.step hb)
  clear cb0 cb1 hb HP1
  go_wp2_with fail
  refine (H3.out _).mono ?_
  rintro e w3 ⟨rfl, hb⟩
  have HP3 := Lib.hid (HP2.out.step hb)
  clear hb HP2
  have ca0 := HP3.out.ca0; have ca1 := HP3.out.ca1; have ca2 := HP3.out.ca2; have ca3 := HP3.out.ca3
  have zz : w.heap.size ≠ w3.heap.size := by have := HP3.out.size; omega
  have zy : w.heap.size < w3.heap.size := by have := HP3.out.size; omega
  go_wp2_with fail
  refine (H4.out _).mono ?_
  rintro e w4 ⟨rfl, hb⟩
  have hB := bl_trans (bl_al (Below.refl w3.heap.size w3) (.cells #[.int .u32 v0, .int .u32 v1, .int .u32 v2, .int .u32 v3] 105)) hb
  have HP4 := Lib.hid (HP3.out.step hB)
  have HQ4 : Hid (Quad w3.heap.size v0 v1 v2 v3 w4) := by
    refine ⟨?_, ?_, ?_, ?_⟩ <;> (rw [(bcell hb).1 _ _ (by simp)]; simp [go_sem])
  have hs4 : w3.heap.size < w4.heap.size := by have h := hb.size; simp at h; omega
  have hs3 := HP3.out.size
  clear hb hB ca0 ca1 ca2 ca3 HP3 zz zy
  go_wp2_with fail
  refine wp_loop_rounds 9 ?_
  have g1 : Twelve w4.heap.size x0 x1 x2 x3 x4 x5 x6 x7 x8 x9 x10 x11 ((w4.alloc (.cells #[.int .u32 x0, .int .u32 x1, .int .u32 x2, .int .u32 x3, .int .u32 x4, .int .u32 x5, .int .u32 x6, .int .u32 x7, .int .u32 x8, .int .u32 x9, .int .u32 x10, .int .u32 x11] 107)).alloc (.cells #[.int .u32 0, .int .u32 0, .int .u32 0, .int .u32 0, .int .u32 0, .int .u32 0, .int .u32 0, .int .u32 0] 109)) := by
    unfold Twelve; simp [go_sem]
  have g2 : Clear w4.heap.size ((w4.alloc (.cells #[.int .u32 x0, .int .u32 x1, .int .u32 x2, .int .u32 x3, .int .u32 x4, .int .u32 x5, .int .u32 x6, .int .u32 x7, .int .u32 x8, .int .u32 x9, .int .u32 x10, .int .u32 x11] 107)).alloc (.cells #[.int .u32 0, .int .u32 0, .int .u32 0, .int .u32 0, .int .u32 0, .int .u32 0, .int .u32 0, .int .u32 0] 109)) := fun j => by
    rw [frozen?_alloc_cells, frozen?_alloc_cells]; simp [World.frozen?]
  have g3 : Quad w3.heap.size v0 v1 v2 v3 ((w4.alloc (.cells #[.int .u32 x0, .int .u32 x1, .int .u32 x2, .int .u32 x3, .int .u32 x4, .int .u32 x5, .int .u32 x6, .int .u32 x7, .int .u32 x8, .int .u32 x9, .int .u32 x10, .int .u32 x11] 107)).alloc (.cells #[.int .u32 0, .int .u32 0, .int .u32 0, .int .u32 0, .int .u32 0, .int .u32 0, .int .u32 0, .int .u32 0] 109)) := by
    obtain ⟨c0, c1, c2, c3⟩ := HQ4.out
    have hB := bl_al (bl_al (Below.refl w4.heap.size w4) (.cells #[.int .u32 x0, .int .u32 x1, .int .u32 x2, .int .u32 x3, .int .u32 x4, .int .u32 x5, .int .u32 x6, .int .u32 x7, .int .u32 x8, .int .u32 x9, .int .u32 x10, .int .u32 x11] 107)) (.cells #[.int .u32 0, .int .u32 0, .int .u32 0, .int .u32 0, .int .u32 0, .int .u32 0, .int .u32 0, .int .u32 0] 109)
    refine ⟨?_, ?_, ?_, ?_⟩ <;> (rw [(bcell hB).1 _ _ hs4]; assumption)
  have g4 : Eight (w4.heap.size + 1) 0 0 0 0 0 0 0 0 ((w4.alloc (.cells #[.int .u32 x0, .int .u32 x1, .int .u32 x2, .int .u32 x3, .int .u32 x4, .int .u32 x5, .int .u32 x6, .int .u32 x7, .int .u32 x8, .int .u32 x9, .int .u32 x10, .int .u32 x11] 107)).alloc (.cells #[.int .u32 0, .int .u32 0, .int .u32 0, .int .u32 0, .int .u32 0, .int .u32 0, .int .u32 0, .int .u32 0] 109)) := by
    unfold Eight; simp [go_sem]
  have g5 : Clear (w4.heap.size + 1) ((w4.alloc (.cells #[.int .u32 x0, .int .u32 x1, .int .u32 x2, .int .u32 x3, .int .u32 x4, .int .u32 x5, .int .u32 x6, .int .u32 x7, .int .u32 x8, .int .u32 x9, .int .u32 x10, .int .u32 x11] 107)).alloc (.cells #[.int .u32 0, .int .u32 0, .int .u32 0, .int .u32 0, .int .u32 0, .int .u32 0, .int .u32 0, .int .u32 0] 109)) := fun j => by
    rw [frozen?_alloc_cells, frozen?_alloc_cells]; simp [World.frozen?]
  have g6 : DivPro w a3 a2 a1 a0 b1 b0 ((w4.alloc (.cells #[.int .u32 x0, .int .u32 x1, .int .u32 x2, .int .u32 x3, .int .u32 x4, .int .u32 x5, .int .u32 x6, .int .u32 x7, .int .u32 x8, .int .u32 x9, .int .u32 x10, .int .u32 x11] 107)).alloc (.cells #[.int .u32 0, .int .u32 0, .int .u32 0, .int .u32 0, .int .u32 0, .int .u32 0, .int .u32 0, .int .u32 0] 109)) :=
    HP4.out.step (bl_al (bl_al (Below.refl w4.heap.size w4) _) _)
  refine rounds_gen (fun w' => Hid (Twelve w4.heap.size x0 x1 x2 x3 x4 x5 x6 x7 x8 x9 x10 x11 w') ∧ Hid (Clear w4.heap.size w') ∧ Hid (Quad w3.heap.size v0 v1 v2 v3 w') ∧ Hid (Eight (w4.heap.size + 1) 0 0 0 0 0 0 0 0 w') ∧ Hid (Clear (w4.heap.size + 1) w') ∧ Hid (DivPro w a3 a2 a1 a0 b1 b0 w') ∧ w4.heap.size < w'.heap.size ∧ w3.heap.size < w'.heap.size ∧ w4.heap.size + 1 < w'.heap.size) ?_ ?_
  · exact ⟨g1, g2, g3, g4, g5, g6, by simp; omega, by simp; omega, by simp⟩
  clear g1 g2 g3 g4 g5 g6 HQ4 HP4 H1 H2 H3 H4
  have n1 : w3.heap.size ≠ w4.heap.size := by omega
  have n2 : w3.heap.size ≠ w4.heap.size + 1 := by omega
  have n3 : w4.heap.size ≠ w4.heap.size + 1 := by omega
  have n4 : w.heap.size + 3 < w4.heap.size := by omega
  have n5 : w.heap.size + 3 < w4.heap.size + 1 := by omega
  clear hs4
  generalize w4.heap.size + 1 = Q at *
  generalize w4.heap.size = R at *
  generalize w3.heap.size = D at *
  clear w4 w3 w2 w1
  have hVV := hv4_lt hv0 hv1 hv2 hv3
  have HVV := Lib.hid hVV.2
  clear hVV
  have wr12 : IntKind.i64.wrap 12 = 12 := rfl
  have wr11 : IntKind.i64.wrap 11 = 11 := rfl
  have wr10 : IntKind.i64.wrap 10 = 10 := rfl
  have wr9 : IntKind.i64.wrap 9 = 9 := rfl
  have wr8 : IntKind.i64.wrap 8 = 8 := rfl
  have wr7 : IntKind.i64.wrap 7 = 7 := rfl
  have wr6 : IntKind.i64.wrap 6 = 6 := rfl
  have wr5 : IntKind.i64.wrap 5 = 5 := rfl
  rintro w5 ⟨HT, HC, HQ, HE, HCQ, HP, sR, sD, sQ⟩
  rw [rounds_succ]; go_wp2_with fail
  obtain ⟨V0, V1, V2, V3⟩ := HQ.out
  obtain ⟨D0, D1, D2, D3, D4, D5, D6, D7, D8, D9, D10, D11⟩ := HT.out
  go_region_held3 (fun w' => w'.cell? ⟨D, 0, none⟩ = some (.int .u32 v0) ∧ w'.cell? ⟨D, 1, none⟩ = some (.int .u32 v1) ∧ w'.cell? ⟨D, 2, none⟩ = some (.int .u32 v2) ∧ w'.cell? ⟨D, 3, none⟩ = some (.int .u32 v3)) (simp [*, go_sem])
    (first
      | (go_at_call 69; refine (takeOut_any R 7 5 x7 x8 x9 x10 x11 v0 v1 v2 v3 hx7 hx8 hx9 hx10 hx11 hv0 hv1 hv2 hv3 hT hlt w5.drew sR (by simpa [go_sem] using D7) (by simpa [go_sem] using D8) (by simpa [go_sem] using D9) (by simpa [go_sem] using D10) (by simpa [go_sem] using D11) (by simpa [go_sem] using HC.out 7) (by simpa [go_sem] using HC.out 8) (by simpa [go_sem] using HC.out 9) (by simpa [go_sem] using HC.out 10) (by simpa [go_sem] using HC.out 11)).mono ?_; rintro e w6 ⟨y7_0, y7_1, y7_2, y7_3, y7_4, q7, rfl, hq7, hy7_0, hy7_1, hy7_2, hy7_3, hy7_4, hE, hle, hW, hF⟩; have HS7 := Lib.hid (step_of hy7_0 hy7_1 hy7_2 hy7_3 hy7_4 HVV.out hE hle); have HW : Hid (Wrote R 7 5 w5 w6) := hW.undrew; have HF := Lib.hid hF; obtain ⟨V0', V1', V2', V3'⟩ := HQ.out.other HW.out sD n1; obtain ⟨e0, e1, e2, e3, e4, e5, e6, e7⟩ := HE.out.other HW.out sQ (Ne.symm n3); have fz := fun j => HCQ.out.other HW.out sQ (Ne.symm n3) j; clear hE hle hW hF))
  rename_i hHeld
  clear hHeld V0 V1 V2 V3 D0 D1 D2 D3 D4 D5 D6 D7 D8 D9 D10 D11 V0' V1' V2' V3'
  go_wp2_with fail
  clear e0 e1 e2 e3 e4 e5 e6 e7 fz
  have l7 : hv4 y7_0 y7_1 y7_2 y7_3 < hv4 v0 v1 v2 v3 := HS7.out.2.2
  have HL7 := Lib.hid l7
  clear l7
  have hS : Wrote Q 7 1 w6 (w6.setCell ⟨Q, 7, none⟩ (.int .u32 q7)) := Wrote.setCell (Wrote.refl _ _ _ _) (Nat.le_refl _) (by decide) _
  have hT1 := (HT.out.win7 HW.out HF.out).other hS (Nat.lt_of_lt_of_le sR HW.out.size) n3
  have hC1 : Clear R (w6.setCell ⟨Q, 7, none⟩ (.int .u32 q7)) := Clear.other (HC.out.wrote HW.out) hS (Nat.lt_of_lt_of_le sR HW.out.size) n3
  have hQ1 := (HQ.out.other HW.out sD n1).other hS (Nat.lt_of_lt_of_le sD HW.out.size) n2
  have hE1 := Eight.set7 (q := q7) (HE.out.other HW.out sQ (Ne.symm n3))
  have hCQ1 : Clear Q (w6.setCell ⟨Q, 7, none⟩ (.int .u32 q7)) := Clear.wrote (HCQ.out.other HW.out sQ (Ne.symm n3)) hS
  have hP1 := (HP.out.wrote HW.out n4).wrote hS n5
  have hZ := Nat.le_trans HW.out.size hS.size
  refine rounds_gen (fun w' => Hid (Twelve R x0 x1 x2 x3 x4 x5 x6 y7_0 y7_1 y7_2 y7_3 y7_4 w') ∧ Hid (Clear R w') ∧ Hid (Quad D v0 v1 v2 v3 w') ∧ Hid (Eight Q 0 0 0 0 0 0 0 q7 w') ∧ Hid (Clear Q w') ∧ Hid (DivPro w a3 a2 a1 a0 b1 b0 w') ∧ R < w'.heap.size ∧ D < w'.heap.size ∧ Q < w'.heap.size) ?_ ?_
  · exact ⟨hT1, hC1, hQ1, hE1, hCQ1, hP1, Nat.lt_of_lt_of_le sR hZ, Nat.lt_of_lt_of_le sD hZ, Nat.lt_of_lt_of_le sQ hZ⟩
  clear HT HC HQ HE HCQ HP sR sD sQ HW HF hS hT1 hC1 hQ1 hE1 hCQ1 hP1 hZ
  clear w6 w5
  rintro w7 ⟨HT, HC, HQ, HE, HCQ, HP, sR, sD, sQ⟩
  rw [rounds_succ]; go_wp2_with fail
  obtain ⟨V0, V1, V2, V3⟩ := HQ.out
  obtain ⟨D0, D1, D2, D3, D4, D5, D6, D7, D8, D9, D10, D11⟩ := HT.out
  go_region_held3 (fun w' => w'.cell? ⟨D, 0, none⟩ = some (.int .u32 v0) ∧ w'.cell? ⟨D, 1, none⟩ = some (.int .u32 v1) ∧ w'.cell? ⟨D, 2, none⟩ = some (.int .u32 v2) ∧ w'.cell? ⟨D, 3, none⟩ = some (.int .u32 v3)) (simp [*, go_sem])
    (first
      | (go_at_call 69; refine (takeOut_any R 6 6 x6 y7_0 y7_1 y7_2 y7_3 v0 v1 v2 v3 hx6 hy7_0 hy7_1 hy7_2 hy7_3 hv0 hv1 hv2 hv3 hT HL7.out w7.drew sR (by simpa [go_sem] using D6) (by simpa [go_sem] using D7) (by simpa [go_sem] using D8) (by simpa [go_sem] using D9) (by simpa [go_sem] using D10) (by simpa [go_sem] using HC.out 6) (by simpa [go_sem] using HC.out 7) (by simpa [go_sem] using HC.out 8) (by simpa [go_sem] using HC.out 9) (by simpa [go_sem] using HC.out 10)).mono ?_; rintro e w8 ⟨y6_0, y6_1, y6_2, y6_3, y6_4, q6, rfl, hq6, hy6_0, hy6_1, hy6_2, hy6_3, hy6_4, hE, hle, hW, hF⟩; have HS6 := Lib.hid (step_of hy6_0 hy6_1 hy6_2 hy6_3 hy6_4 HVV.out hE hle); have HW : Hid (Wrote R 6 5 w7 w8) := hW.undrew; have HF := Lib.hid hF; obtain ⟨V0', V1', V2', V3'⟩ := HQ.out.other HW.out sD n1; obtain ⟨e0, e1, e2, e3, e4, e5, e6, e7⟩ := HE.out.other HW.out sQ (Ne.symm n3); have fz := fun j => HCQ.out.other HW.out sQ (Ne.symm n3) j; clear hE hle hW hF))
  rename_i hHeld
  clear hHeld V0 V1 V2 V3 D0 D1 D2 D3 D4 D5 D6 D7 D8 D9 D10 D11 V0' V1' V2' V3'
  go_wp2_with fail
  clear e0 e1 e2 e3 e4 e5 e6 e7 fz
  have l6 : hv4 y6_0 y6_1 y6_2 y6_3 < hv4 v0 v1 v2 v3 := HS6.out.2.2
  have HL6 := Lib.hid l6
  clear l6
  have hS : Wrote Q 6 1 w8 (w8.setCell ⟨Q, 6, none⟩ (.int .u32 q6)) := Wrote.setCell (Wrote.refl _ _ _ _) (Nat.le_refl _) (by decide) _
  have hT1 := (HT.out.win6 HW.out HF.out).other hS (Nat.lt_of_lt_of_le sR HW.out.size) n3
  have hC1 : Clear R (w8.setCell ⟨Q, 6, none⟩ (.int .u32 q6)) := Clear.other (HC.out.wrote HW.out) hS (Nat.lt_of_lt_of_le sR HW.out.size) n3
  have hQ1 := (HQ.out.other HW.out sD n1).other hS (Nat.lt_of_lt_of_le sD HW.out.size) n2
  have hE1 := Eight.set6 (q := q6) (HE.out.other HW.out sQ (Ne.symm n3))
  have hCQ1 : Clear Q (w8.setCell ⟨Q, 6, none⟩ (.int .u32 q6)) := Clear.wrote (HCQ.out.other HW.out sQ (Ne.symm n3)) hS
  have hP1 := (HP.out.wrote HW.out n4).wrote hS n5
  have hZ := Nat.le_trans HW.out.size hS.size
  refine rounds_gen (fun w' => Hid (Twelve R x0 x1 x2 x3 x4 x5 y6_0 y6_1 y6_2 y6_3 y6_4 y7_4 w') ∧ Hid (Clear R w') ∧ Hid (Quad D v0 v1 v2 v3 w') ∧ Hid (Eight Q 0 0 0 0 0 0 q6 q7 w') ∧ Hid (Clear Q w') ∧ Hid (DivPro w a3 a2 a1 a0 b1 b0 w') ∧ R < w'.heap.size ∧ D < w'.heap.size ∧ Q < w'.heap.size) ?_ ?_
  · exact ⟨hT1, hC1, hQ1, hE1, hCQ1, hP1, Nat.lt_of_lt_of_le sR hZ, Nat.lt_of_lt_of_le sD hZ, Nat.lt_of_lt_of_le sQ hZ⟩
  clear HT HC HQ HE HCQ HP sR sD sQ HW HF hS hT1 hC1 hQ1 hE1 hCQ1 hP1 hZ
  clear w8 w7
  rintro w9 ⟨HT, HC, HQ, HE, HCQ, HP, sR, sD, sQ⟩
  rw [rounds_succ]; go_wp2_with fail
  obtain ⟨V0, V1, V2, V3⟩ := HQ.out
  obtain ⟨D0, D1, D2, D3, D4, D5, D6, D7, D8, D9, D10, D11⟩ := HT.out
  go_region_held3 (fun w' => w'.cell? ⟨D, 0, none⟩ = some (.int .u32 v0) ∧ w'.cell? ⟨D, 1, none⟩ = some (.int .u32 v1) ∧ w'.cell? ⟨D, 2, none⟩ = some (.int .u32 v2) ∧ w'.cell? ⟨D, 3, none⟩ = some (.int .u32 v3)) (simp [*, go_sem])
    (first
      | (go_at_call 69; refine (takeOut_any R 5 7 x5 y6_0 y6_1 y6_2 y6_3 v0 v1 v2 v3 hx5 hy6_0 hy6_1 hy6_2 hy6_3 hv0 hv1 hv2 hv3 hT HL6.out w9.drew sR (by simpa [go_sem] using D5) (by simpa [go_sem] using D6) (by simpa [go_sem] using D7) (by simpa [go_sem] using D8) (by simpa [go_sem] using D9) (by simpa [go_sem] using HC.out 5) (by simpa [go_sem] using HC.out 6) (by simpa [go_sem] using HC.out 7) (by simpa [go_sem] using HC.out 8) (by simpa [go_sem] using HC.out 9)).mono ?_; rintro e w10 ⟨y5_0, y5_1, y5_2, y5_3, y5_4, q5, rfl, hq5, hy5_0, hy5_1, hy5_2, hy5_3, hy5_4, hE, hle, hW, hF⟩; have HS5 := Lib.hid (step_of hy5_0 hy5_1 hy5_2 hy5_3 hy5_4 HVV.out hE hle); have HW : Hid (Wrote R 5 5 w9 w10) := hW.undrew; have HF := Lib.hid hF; obtain ⟨V0', V1', V2', V3'⟩ := HQ.out.other HW.out sD n1; obtain ⟨e0, e1, e2, e3, e4, e5, e6, e7⟩ := HE.out.other HW.out sQ (Ne.symm n3); have fz := fun j => HCQ.out.other HW.out sQ (Ne.symm n3) j; clear hE hle hW hF))
  rename_i hHeld
  clear hHeld V0 V1 V2 V3 D0 D1 D2 D3 D4 D5 D6 D7 D8 D9 D10 D11 V0' V1' V2' V3'
  go_wp2_with fail
  clear e0 e1 e2 e3 e4 e5 e6 e7 fz
  have l5 : hv4 y5_0 y5_1 y5_2 y5_3 < hv4 v0 v1 v2 v3 := HS5.out.2.2
  have HL5 := Lib.hid l5
  clear l5
  have hS : Wrote Q 5 1 w10 (w10.setCell ⟨Q, 5, none⟩ (.int .u32 q5)) := Wrote.setCell (Wrote.refl _ _ _ _) (Nat.le_refl _) (by decide) _
  have hT1 := (HT.out.win5 HW.out HF.out).other hS (Nat.lt_of_lt_of_le sR HW.out.size) n3
  have hC1 : Clear R (w10.setCell ⟨Q, 5, none⟩ (.int .u32 q5)) := Clear.other (HC.out.wrote HW.out) hS (Nat.lt_of_lt_of_le sR HW.out.size) n3
  have hQ1 := (HQ.out.other HW.out sD n1).other hS (Nat.lt_of_lt_of_le sD HW.out.size) n2
  have hE1 := Eight.set5 (q := q5) (HE.out.other HW.out sQ (Ne.symm n3))
  have hCQ1 : Clear Q (w10.setCell ⟨Q, 5, none⟩ (.int .u32 q5)) := Clear.wrote (HCQ.out.other HW.out sQ (Ne.symm n3)) hS
  have hP1 := (HP.out.wrote HW.out n4).wrote hS n5
  have hZ := Nat.le_trans HW.out.size hS.size
  refine rounds_gen (fun w' => Hid (Twelve R x0 x1 x2 x3 x4 y5_0 y5_1 y5_2 y5_3 y5_4 y6_4 y7_4 w') ∧ Hid (Clear R w') ∧ Hid (Quad D v0 v1 v2 v3 w') ∧ Hid (Eight Q 0 0 0 0 0 q5 q6 q7 w') ∧ Hid (Clear Q w') ∧ Hid (DivPro w a3 a2 a1 a0 b1 b0 w') ∧ R < w'.heap.size ∧ D < w'.heap.size ∧ Q < w'.heap.size) ?_ ?_
  · exact ⟨hT1, hC1, hQ1, hE1, hCQ1, hP1, Nat.lt_of_lt_of_le sR hZ, Nat.lt_of_lt_of_le sD hZ, Nat.lt_of_lt_of_le sQ hZ⟩
  clear HT HC HQ HE HCQ HP sR sD sQ HW HF hS hT1 hC1 hQ1 hE1 hCQ1 hP1 hZ
  clear w10 w9
  rintro w11 ⟨HT, HC, HQ, HE, HCQ, HP, sR, sD, sQ⟩
  rw [rounds_succ]; go_wp2_with fail
  obtain ⟨V0, V1, V2, V3⟩ := HQ.out
  obtain ⟨D0, D1, D2, D3, D4, D5, D6, D7, D8, D9, D10, D11⟩ := HT.out
  go_region_held3 (fun w' => w'.cell? ⟨D, 0, none⟩ = some (.int .u32 v0) ∧ w'.cell? ⟨D, 1, none⟩ = some (.int .u32 v1) ∧ w'.cell? ⟨D, 2, none⟩ = some (.int .u32 v2) ∧ w'.cell? ⟨D, 3, none⟩ = some (.int .u32 v3)) (simp [*, go_sem])
    (first
      | (go_at_call 69; refine (takeOut_any R 4 8 x4 y5_0 y5_1 y5_2 y5_3 v0 v1 v2 v3 hx4 hy5_0 hy5_1 hy5_2 hy5_3 hv0 hv1 hv2 hv3 hT HL5.out w11.drew sR (by simpa [go_sem] using D4) (by simpa [go_sem] using D5) (by simpa [go_sem] using D6) (by simpa [go_sem] using D7) (by simpa [go_sem] using D8) (by simpa [go_sem] using HC.out 4) (by simpa [go_sem] using HC.out 5) (by simpa [go_sem] using HC.out 6) (by simpa [go_sem] using HC.out 7) (by simpa [go_sem] using HC.out 8)).mono ?_; rintro e w12 ⟨y4_0, y4_1, y4_2, y4_3, y4_4, q4, rfl, hq4, hy4_0, hy4_1, hy4_2, hy4_3, hy4_4, hE, hle, hW, hF⟩; have HS4 := Lib.hid (step_of hy4_0 hy4_1 hy4_2 hy4_3 hy4_4 HVV.out hE hle); have HW : Hid (Wrote R 4 5 w11 w12) := hW.undrew; have HF := Lib.hid hF; obtain ⟨V0', V1', V2', V3'⟩ := HQ.out.other HW.out sD n1; obtain ⟨e0, e1, e2, e3, e4, e5, e6, e7⟩ := HE.out.other HW.out sQ (Ne.symm n3); have fz := fun j => HCQ.out.other HW.out sQ (Ne.symm n3) j; clear hE hle hW hF))
  rename_i hHeld
  clear hHeld V0 V1 V2 V3 D0 D1 D2 D3 D4 D5 D6 D7 D8 D9 D10 D11 V0' V1' V2' V3'
  go_wp2_with fail
  clear e0 e1 e2 e3 e4 e5 e6 e7 fz
  have l4 : hv4 y4_0 y4_1 y4_2 y4_3 < hv4 v0 v1 v2 v3 := HS4.out.2.2
  have HL4 := Lib.hid l4
  clear l4
  have hS : Wrote Q 4 1 w12 (w12.setCell ⟨Q, 4, none⟩ (.int .u32 q4)) := Wrote.setCell (Wrote.refl _ _ _ _) (Nat.le_refl _) (by decide) _
  have hT1 := (HT.out.win4 HW.out HF.out).other hS (Nat.lt_of_lt_of_le sR HW.out.size) n3
  have hC1 : Clear R (w12.setCell ⟨Q, 4, none⟩ (.int .u32 q4)) := Clear.other (HC.out.wrote HW.out) hS (Nat.lt_of_lt_of_le sR HW.out.size) n3
  have hQ1 := (HQ.out.other HW.out sD n1).other hS (Nat.lt_of_lt_of_le sD HW.out.size) n2
  have hE1 := Eight.set4 (q := q4) (HE.out.other HW.out sQ (Ne.symm n3))
  have hCQ1 : Clear Q (w12.setCell ⟨Q, 4, none⟩ (.int .u32 q4)) := Clear.wrote (HCQ.out.other HW.out sQ (Ne.symm n3)) hS
  have hP1 := (HP.out.wrote HW.out n4).wrote hS n5
  have hZ := Nat.le_trans HW.out.size hS.size
  refine rounds_gen (fun w' => Hid (Twelve R x0 x1 x2 x3 y4_0 y4_1 y4_2 y4_3 y4_4 y5_4 y6_4 y7_4 w') ∧ Hid (Clear R w') ∧ Hid (Quad D v0 v1 v2 v3 w') ∧ Hid (Eight Q 0 0 0 0 q4 q5 q6 q7 w') ∧ Hid (Clear Q w') ∧ Hid (DivPro w a3 a2 a1 a0 b1 b0 w') ∧ R < w'.heap.size ∧ D < w'.heap.size ∧ Q < w'.heap.size) ?_ ?_
  · exact ⟨hT1, hC1, hQ1, hE1, hCQ1, hP1, Nat.lt_of_lt_of_le sR hZ, Nat.lt_of_lt_of_le sD hZ, Nat.lt_of_lt_of_le sQ hZ⟩
  clear HT HC HQ HE HCQ HP sR sD sQ HW HF hS hT1 hC1 hQ1 hE1 hCQ1 hP1 hZ
  clear w12 w11
  rintro w13 ⟨HT, HC, HQ, HE, HCQ, HP, sR, sD, sQ⟩
  rw [rounds_succ]; go_wp2_with fail
  obtain ⟨V0, V1, V2, V3⟩ := HQ.out
  obtain ⟨D0, D1, D2, D3, D4, D5, D6, D7, D8, D9, D10, D11⟩ := HT.out
  go_region_held3 (fun w' => w'.cell? ⟨D, 0, none⟩ = some (.int .u32 v0) ∧ w'.cell? ⟨D, 1, none⟩ = some (.int .u32 v1) ∧ w'.cell? ⟨D, 2, none⟩ = some (.int .u32 v2) ∧ w'.cell? ⟨D, 3, none⟩ = some (.int .u32 v3)) (simp [*, go_sem])
    (first
      | (go_at_call 69; refine (takeOut_any R 3 9 x3 y4_0 y4_1 y4_2 y4_3 v0 v1 v2 v3 hx3 hy4_0 hy4_1 hy4_2 hy4_3 hv0 hv1 hv2 hv3 hT HL4.out w13.drew sR (by simpa [go_sem] using D3) (by simpa [go_sem] using D4) (by simpa [go_sem] using D5) (by simpa [go_sem] using D6) (by simpa [go_sem] using D7) (by simpa [go_sem] using HC.out 3) (by simpa [go_sem] using HC.out 4) (by simpa [go_sem] using HC.out 5) (by simpa [go_sem] using HC.out 6) (by simpa [go_sem] using HC.out 7)).mono ?_; rintro e w14 ⟨y3_0, y3_1, y3_2, y3_3, y3_4, q3, rfl, hq3, hy3_0, hy3_1, hy3_2, hy3_3, hy3_4, hE, hle, hW, hF⟩; have HS3 := Lib.hid (step_of hy3_0 hy3_1 hy3_2 hy3_3 hy3_4 HVV.out hE hle); have HW : Hid (Wrote R 3 5 w13 w14) := hW.undrew; have HF := Lib.hid hF; obtain ⟨V0', V1', V2', V3'⟩ := HQ.out.other HW.out sD n1; obtain ⟨e0, e1, e2, e3, e4, e5, e6, e7⟩ := HE.out.other HW.out sQ (Ne.symm n3); have fz := fun j => HCQ.out.other HW.out sQ (Ne.symm n3) j; clear hE hle hW hF))
  rename_i hHeld
  clear hHeld V0 V1 V2 V3 D0 D1 D2 D3 D4 D5 D6 D7 D8 D9 D10 D11 V0' V1' V2' V3'
  go_wp2_with fail
  clear e0 e1 e2 e3 e4 e5 e6 e7 fz
  have l3 : hv4 y3_0 y3_1 y3_2 y3_3 < hv4 v0 v1 v2 v3 := HS3.out.2.2
  have HL3 := Lib.hid l3
  clear l3
  have hS : Wrote Q 3 1 w14 (w14.setCell ⟨Q, 3, none⟩ (.int .u32 q3)) := Wrote.setCell (Wrote.refl _ _ _ _) (Nat.le_refl _) (by decide) _
  have hT1 := (HT.out.win3 HW.out HF.out).other hS (Nat.lt_of_lt_of_le sR HW.out.size) n3
  have hC1 : Clear R (w14.setCell ⟨Q, 3, none⟩ (.int .u32 q3)) := Clear.other (HC.out.wrote HW.out) hS (Nat.lt_of_lt_of_le sR HW.out.size) n3
  have hQ1 := (HQ.out.other HW.out sD n1).other hS (Nat.lt_of_lt_of_le sD HW.out.size) n2
  have hE1 := Eight.set3 (q := q3) (HE.out.other HW.out sQ (Ne.symm n3))
  have hCQ1 : Clear Q (w14.setCell ⟨Q, 3, none⟩ (.int .u32 q3)) := Clear.wrote (HCQ.out.other HW.out sQ (Ne.symm n3)) hS
  have hP1 := (HP.out.wrote HW.out n4).wrote hS n5
  have hZ := Nat.le_trans HW.out.size hS.size
  refine rounds_gen (fun w' => Hid (Twelve R x0 x1 x2 y3_0 y3_1 y3_2 y3_3 y3_4 y4_4 y5_4 y6_4 y7_4 w') ∧ Hid (Clear R w') ∧ Hid (Quad D v0 v1 v2 v3 w') ∧ Hid (Eight Q 0 0 0 q3 q4 q5 q6 q7 w') ∧ Hid (Clear Q w') ∧ Hid (DivPro w a3 a2 a1 a0 b1 b0 w') ∧ R < w'.heap.size ∧ D < w'.heap.size ∧ Q < w'.heap.size) ?_ ?_
  · exact ⟨hT1, hC1, hQ1, hE1, hCQ1, hP1, Nat.lt_of_lt_of_le sR hZ, Nat.lt_of_lt_of_le sD hZ, Nat.lt_of_lt_of_le sQ hZ⟩
  clear HT HC HQ HE HCQ HP sR sD sQ HW HF hS hT1 hC1 hQ1 hE1 hCQ1 hP1 hZ
  clear w14 w13
  rintro w15 ⟨HT, HC, HQ, HE, HCQ, HP, sR, sD, sQ⟩
  rw [rounds_succ]; go_wp2_with fail
  obtain ⟨V0, V1, V2, V3⟩ := HQ.out
  obtain ⟨D0, D1, D2, D3, D4, D5, D6, D7, D8, D9, D10, D11⟩ := HT.out
  go_region_held3 (fun w' => w'.cell? ⟨D, 0, none⟩ = some (.int .u32 v0) ∧ w'.cell? ⟨D, 1, none⟩ = some (.int .u32 v1) ∧ w'.cell? ⟨D, 2, none⟩ = some (.int .u32 v2) ∧ w'.cell? ⟨D, 3, none⟩ = some (.int .u32 v3)) (simp [*, go_sem])
    (first
      | (go_at_call 69; refine (takeOut_any R 2 10 x2 y3_0 y3_1 y3_2 y3_3 v0 v1 v2 v3 hx2 hy3_0 hy3_1 hy3_2 hy3_3 hv0 hv1 hv2 hv3 hT HL3.out w15.drew sR (by simpa [go_sem] using D2) (by simpa [go_sem] using D3) (by simpa [go_sem] using D4) (by simpa [go_sem] using D5) (by simpa [go_sem] using D6) (by simpa [go_sem] using HC.out 2) (by simpa [go_sem] using HC.out 3) (by simpa [go_sem] using HC.out 4) (by simpa [go_sem] using HC.out 5) (by simpa [go_sem] using HC.out 6)).mono ?_; rintro e w16 ⟨y2_0, y2_1, y2_2, y2_3, y2_4, q2, rfl, hq2, hy2_0, hy2_1, hy2_2, hy2_3, hy2_4, hE, hle, hW, hF⟩; have HS2 := Lib.hid (step_of hy2_0 hy2_1 hy2_2 hy2_3 hy2_4 HVV.out hE hle); have HW : Hid (Wrote R 2 5 w15 w16) := hW.undrew; have HF := Lib.hid hF; obtain ⟨V0', V1', V2', V3'⟩ := HQ.out.other HW.out sD n1; obtain ⟨e0, e1, e2, e3, e4, e5, e6, e7⟩ := HE.out.other HW.out sQ (Ne.symm n3); have fz := fun j => HCQ.out.other HW.out sQ (Ne.symm n3) j; clear hE hle hW hF))
  rename_i hHeld
  clear hHeld V0 V1 V2 V3 D0 D1 D2 D3 D4 D5 D6 D7 D8 D9 D10 D11 V0' V1' V2' V3'
  go_wp2_with fail
  clear e0 e1 e2 e3 e4 e5 e6 e7 fz
  have l2 : hv4 y2_0 y2_1 y2_2 y2_3 < hv4 v0 v1 v2 v3 := HS2.out.2.2
  have HL2 := Lib.hid l2
  clear l2
  have hS : Wrote Q 2 1 w16 (w16.setCell ⟨Q, 2, none⟩ (.int .u32 q2)) := Wrote.setCell (Wrote.refl _ _ _ _) (Nat.le_refl _) (by decide) _
  have hT1 := (HT.out.win2 HW.out HF.out).other hS (Nat.lt_of_lt_of_le sR HW.out.size) n3
  have hC1 : Clear R (w16.setCell ⟨Q, 2, none⟩ (.int .u32 q2)) := Clear.other (HC.out.wrote HW.out) hS (Nat.lt_of_lt_of_le sR HW.out.size) n3
  have hQ1 := (HQ.out.other HW.out sD n1).other hS (Nat.lt_of_lt_of_le sD HW.out.size) n2
  have hE1 := Eight.set2 (q := q2) (HE.out.other HW.out sQ (Ne.symm n3))
  have hCQ1 : Clear Q (w16.setCell ⟨Q, 2, none⟩ (.int .u32 q2)) := Clear.wrote (HCQ.out.other HW.out sQ (Ne.symm n3)) hS
  have hP1 := (HP.out.wrote HW.out n4).wrote hS n5
  have hZ := Nat.le_trans HW.out.size hS.size
  refine rounds_gen (fun w' => Hid (Twelve R x0 x1 y2_0 y2_1 y2_2 y2_3 y2_4 y3_4 y4_4 y5_4 y6_4 y7_4 w') ∧ Hid (Clear R w') ∧ Hid (Quad D v0 v1 v2 v3 w') ∧ Hid (Eight Q 0 0 q2 q3 q4 q5 q6 q7 w') ∧ Hid (Clear Q w') ∧ Hid (DivPro w a3 a2 a1 a0 b1 b0 w') ∧ R < w'.heap.size ∧ D < w'.heap.size ∧ Q < w'.heap.size) ?_ ?_
  · exact ⟨hT1, hC1, hQ1, hE1, hCQ1, hP1, Nat.lt_of_lt_of_le sR hZ, Nat.lt_of_lt_of_le sD hZ, Nat.lt_of_lt_of_le sQ hZ⟩
  clear HT HC HQ HE HCQ HP sR sD sQ HW HF hS hT1 hC1 hQ1 hE1 hCQ1 hP1 hZ
  clear w16 w15
  rintro w17 ⟨HT, HC, HQ, HE, HCQ, HP, sR, sD, sQ⟩
  rw [rounds_succ]; go_wp2_with fail
  obtain ⟨V0, V1, V2, V3⟩ := HQ.out
  obtain ⟨D0, D1, D2, D3, D4, D5, D6, D7, D8, D9, D10, D11⟩ := HT.out
  go_region_held3 (fun w' => w'.cell? ⟨D, 0, none⟩ = some (.int .u32 v0) ∧ w'.cell? ⟨D, 1, none⟩ = some (.int .u32 v1) ∧ w'.cell? ⟨D, 2, none⟩ = some (.int .u32 v2) ∧ w'.cell? ⟨D, 3, none⟩ = some (.int .u32 v3)) (simp [*, go_sem])
    (first
      | (go_at_call 69; refine (takeOut_any R 1 11 x1 y2_0 y2_1 y2_2 y2_3 v0 v1 v2 v3 hx1 hy2_0 hy2_1 hy2_2 hy2_3 hv0 hv1 hv2 hv3 hT HL2.out w17.drew sR (by simpa [go_sem] using D1) (by simpa [go_sem] using D2) (by simpa [go_sem] using D3) (by simpa [go_sem] using D4) (by simpa [go_sem] using D5) (by simpa [go_sem] using HC.out 1) (by simpa [go_sem] using HC.out 2) (by simpa [go_sem] using HC.out 3) (by simpa [go_sem] using HC.out 4) (by simpa [go_sem] using HC.out 5)).mono ?_; rintro e w18 ⟨y1_0, y1_1, y1_2, y1_3, y1_4, q1, rfl, hq1, hy1_0, hy1_1, hy1_2, hy1_3, hy1_4, hE, hle, hW, hF⟩; have HS1 := Lib.hid (step_of hy1_0 hy1_1 hy1_2 hy1_3 hy1_4 HVV.out hE hle); have HW : Hid (Wrote R 1 5 w17 w18) := hW.undrew; have HF := Lib.hid hF; obtain ⟨V0', V1', V2', V3'⟩ := HQ.out.other HW.out sD n1; obtain ⟨e0, e1, e2, e3, e4, e5, e6, e7⟩ := HE.out.other HW.out sQ (Ne.symm n3); have fz := fun j => HCQ.out.other HW.out sQ (Ne.symm n3) j; clear hE hle hW hF))
  rename_i hHeld
  clear hHeld V0 V1 V2 V3 D0 D1 D2 D3 D4 D5 D6 D7 D8 D9 D10 D11 V0' V1' V2' V3'
  go_wp2_with fail
  clear e0 e1 e2 e3 e4 e5 e6 e7 fz
  have l1 : hv4 y1_0 y1_1 y1_2 y1_3 < hv4 v0 v1 v2 v3 := HS1.out.2.2
  have HL1 := Lib.hid l1
  clear l1
  have hS : Wrote Q 1 1 w18 (w18.setCell ⟨Q, 1, none⟩ (.int .u32 q1)) := Wrote.setCell (Wrote.refl _ _ _ _) (Nat.le_refl _) (by decide) _
  have hT1 := (HT.out.win1 HW.out HF.out).other hS (Nat.lt_of_lt_of_le sR HW.out.size) n3
  have hC1 : Clear R (w18.setCell ⟨Q, 1, none⟩ (.int .u32 q1)) := Clear.other (HC.out.wrote HW.out) hS (Nat.lt_of_lt_of_le sR HW.out.size) n3
  have hQ1 := (HQ.out.other HW.out sD n1).other hS (Nat.lt_of_lt_of_le sD HW.out.size) n2
  have hE1 := Eight.set1 (q := q1) (HE.out.other HW.out sQ (Ne.symm n3))
  have hCQ1 : Clear Q (w18.setCell ⟨Q, 1, none⟩ (.int .u32 q1)) := Clear.wrote (HCQ.out.other HW.out sQ (Ne.symm n3)) hS
  have hP1 := (HP.out.wrote HW.out n4).wrote hS n5
  have hZ := Nat.le_trans HW.out.size hS.size
  refine rounds_gen (fun w' => Hid (Twelve R x0 y1_0 y1_1 y1_2 y1_3 y1_4 y2_4 y3_4 y4_4 y5_4 y6_4 y7_4 w') ∧ Hid (Clear R w') ∧ Hid (Quad D v0 v1 v2 v3 w') ∧ Hid (Eight Q 0 q1 q2 q3 q4 q5 q6 q7 w') ∧ Hid (Clear Q w') ∧ Hid (DivPro w a3 a2 a1 a0 b1 b0 w') ∧ R < w'.heap.size ∧ D < w'.heap.size ∧ Q < w'.heap.size) ?_ ?_
  · exact ⟨hT1, hC1, hQ1, hE1, hCQ1, hP1, Nat.lt_of_lt_of_le sR hZ, Nat.lt_of_lt_of_le sD hZ, Nat.lt_of_lt_of_le sQ hZ⟩
  clear HT HC HQ HE HCQ HP sR sD sQ HW HF hS hT1 hC1 hQ1 hE1 hCQ1 hP1 hZ
  clear w18 w17
  rintro w19 ⟨HT, HC, HQ, HE, HCQ, HP, sR, sD, sQ⟩
  rw [rounds_succ]; go_wp2_with fail
  obtain ⟨V0, V1, V2, V3⟩ := HQ.out
  obtain ⟨D0, D1, D2, D3, D4, D5, D6, D7, D8, D9, D10, D11⟩ := HT.out
  go_region_held3 (fun w' => w'.cell? ⟨D, 0, none⟩ = some (.int .u32 v0) ∧ w'.cell? ⟨D, 1, none⟩ = some (.int .u32 v1) ∧ w'.cell? ⟨D, 2, none⟩ = some (.int .u32 v2) ∧ w'.cell? ⟨D, 3, none⟩ = some (.int .u32 v3)) (simp [*, go_sem])
    (first
      | (go_at_call 69; refine (takeOut_any R 0 12 x0 y1_0 y1_1 y1_2 y1_3 v0 v1 v2 v3 hx0 hy1_0 hy1_1 hy1_2 hy1_3 hv0 hv1 hv2 hv3 hT HL1.out w19.drew sR (by simpa [go_sem] using D0) (by simpa [go_sem] using D1) (by simpa [go_sem] using D2) (by simpa [go_sem] using D3) (by simpa [go_sem] using D4) (by simpa [go_sem] using HC.out 0) (by simpa [go_sem] using HC.out 1) (by simpa [go_sem] using HC.out 2) (by simpa [go_sem] using HC.out 3) (by simpa [go_sem] using HC.out 4)).mono ?_; rintro e w20 ⟨y0_0, y0_1, y0_2, y0_3, y0_4, q0, rfl, hq0, hy0_0, hy0_1, hy0_2, hy0_3, hy0_4, hE, hle, hW, hF⟩; have HS0 := Lib.hid (step_of hy0_0 hy0_1 hy0_2 hy0_3 hy0_4 HVV.out hE hle); have HW : Hid (Wrote R 0 5 w19 w20) := hW.undrew; have HF := Lib.hid hF; obtain ⟨V0', V1', V2', V3'⟩ := HQ.out.other HW.out sD n1; obtain ⟨e0, e1, e2, e3, e4, e5, e6, e7⟩ := HE.out.other HW.out sQ (Ne.symm n3); have fz := fun j => HCQ.out.other HW.out sQ (Ne.symm n3) j; clear hE hle hW hF))
  rename_i hHeld
  clear hHeld V0 V1 V2 V3 D0 D1 D2 D3 D4 D5 D6 D7 D8 D9 D10 D11 V0' V1' V2' V3'
  go_wp2_with fail
  clear e0 e1 e2 e3 e4 e5 e6 e7 fz
  have l0 : hv4 y0_0 y0_1 y0_2 y0_3 < hv4 v0 v1 v2 v3 := HS0.out.2.2
  have HL0 := Lib.hid l0
  clear l0
  have hS : Wrote Q 0 1 w20 (w20.setCell ⟨Q, 0, none⟩ (.int .u32 q0)) := Wrote.setCell (Wrote.refl _ _ _ _) (Nat.le_refl _) (by decide) _
  have hT1 := (HT.out.win0 HW.out HF.out).other hS (Nat.lt_of_lt_of_le sR HW.out.size) n3
  have hC1 : Clear R (w20.setCell ⟨Q, 0, none⟩ (.int .u32 q0)) := Clear.other (HC.out.wrote HW.out) hS (Nat.lt_of_lt_of_le sR HW.out.size) n3
  have hQ1 := (HQ.out.other HW.out sD n1).other hS (Nat.lt_of_lt_of_le sD HW.out.size) n2
  have hE1 := Eight.set0 (q := q0) (HE.out.other HW.out sQ (Ne.symm n3))
  have hCQ1 : Clear Q (w20.setCell ⟨Q, 0, none⟩ (.int .u32 q0)) := Clear.wrote (HCQ.out.other HW.out sQ (Ne.symm n3)) hS
  have hP1 := (HP.out.wrote HW.out n4).wrote hS n5
  have hZ := Nat.le_trans HW.out.size hS.size
  refine rounds_gen (fun w' => Hid (Twelve R y0_0 y0_1 y0_2 y0_3 y0_4 y1_4 y2_4 y3_4 y4_4 y5_4 y6_4 y7_4 w') ∧ Hid (Clear R w') ∧ Hid (Quad D v0 v1 v2 v3 w') ∧ Hid (Eight Q q0 q1 q2 q3 q4 q5 q6 q7 w') ∧ Hid (Clear Q w') ∧ Hid (DivPro w a3 a2 a1 a0 b1 b0 w') ∧ R < w'.heap.size ∧ D < w'.heap.size ∧ Q < w'.heap.size) ?_ ?_
  · exact ⟨hT1, hC1, hQ1, hE1, hCQ1, hP1, Nat.lt_of_lt_of_le sR hZ, Nat.lt_of_lt_of_le sD hZ, Nat.lt_of_lt_of_le sQ hZ⟩
  clear HT HC HQ HE HCQ HP sR sD sQ HW HF hS hT1 hC1 hQ1 hE1 hCQ1 hP1 hZ
  clear w20 w19
  rintro w5 ⟨HT, HC, HQ, HE, HCQ, HP, sR, sD, sQ⟩
  obtain ⟨D0, D1, D2, D3, -, -, -, -, -, -, -, -⟩ := HT.out
  rw [rounds_succ]; go_wp2_with fail
  refine (twoOf_any y0_0 y0_1 y0_2 y0_3 hy0_0 hy0_1 hy0_2 hy0_3 w5).mono ?_
  rintro e w6 ⟨rfl, hb⟩
  have HP6 := Lib.hid (HP.out.step hb)
  have hs6 : Q < w6.heap.size := Nat.lt_of_lt_of_le sQ hb.size
  obtain ⟨e0, e1, e2, e3, e4, e5, e6, e7⟩ : Eight Q q0 q1 q2 q3 q4 q5 q6 q7 w6 := by
    obtain ⟨e0, e1, e2, e3, e4, e5, e6, e7⟩ := HE.out
    refine ⟨?_, ?_, ?_, ?_, ?_, ?_, ?_, ?_⟩ <;> (rw [(bcell hb).1 _ _ sQ]; assumption)
  have hQ6 : Q ≠ w6.heap.size := Nat.ne_of_lt hs6
  clear hb HT HC HQ HE HCQ HP sR sD sQ D0 D1 D2 D3
  have hw1 := hf_word hy0_2 hy0_3
  have hw0 := hf_word hy0_0 hy0_1
  have hwd : Wd (0 : Int) := ⟨by decide, by decide⟩
  have H5 := Lib.hid (shr_any 0 0 (y0_3 * 4294967296 + y0_2) (y0_1 * 4294967296 + y0_0) (128 - L) hwd hwd hw1 hw0 (by omega))
  have HR := Lib.hid (steps_sum HS7.out.2.1 HS6.out.2.1 HS5.out.2.1 HS4.out.2.1 HS3.out.2.1 HS2.out.2.1 HS1.out.2.1 HS0.out.2.1)
  clear HS7 HS6 HS5 HS4 HS3 HS2 HS1 HL7 HL6 HL5 HL4 HL3 HL2 HL1
  go_wp2_with fail
  go_region_held3 (fun w' => w'.cell? ⟨Q, 0, none⟩ = some (.int .u32 q0) ∧ w'.cell? ⟨Q, 1, none⟩ = some (.int .u32 q1) ∧ w'.cell? ⟨Q, 2, none⟩ = some (.int .u32 q2) ∧ w'.cell? ⟨Q, 3, none⟩ = some (.int .u32 q3) ∧ w'.cell? ⟨Q, 4, none⟩ = some (.int .u32 q4) ∧ w'.cell? ⟨Q, 5, none⟩ = some (.int .u32 q5) ∧ w'.cell? ⟨Q, 6, none⟩ = some (.int .u32 q6) ∧ w'.cell? ⟨Q, 7, none⟩ = some (.int .u32 q7) ∧ w'.cell? ⟨w6.heap.size, 0, none⟩ = some (.int .u64 (y0_3 * 4294967296 + y0_2)) ∧ w'.cell? ⟨w6.heap.size, 1, none⟩ = some (.int .u64 (y0_1 * 4294967296 + y0_0))) (simp [*, go_sem])
    (first
      | (go_at_call 71; refine (fourOf_any q0 q1 q2 q3 q4 q5 q6 q7 hq0 hq1 hq2 hq3 hq4 hq5 hq6 hq7 _).mono ?_; rintro e w7 ⟨rfl, hb⟩; have HP7 := Lib.hid (HP6.out.step (bl_trans (by repeat (first | exact Below.refl _ _ | with_reducible refine bl_al ?_ _ | with_reducible apply Below.drew)) hb)); obtain ⟨hcl, hfr⟩ := bcell hb; have hs7 : w6.heap.size < w7.heap.size := (by have hz := hb.size; simp at hz; omega); have hs7' : Q < w7.heap.size := (Nat.lt_trans hs6 hs7); have hs7'' : Q < w6.heap.size + 1 := (Nat.lt_succ_of_lt hs6); clear hb)
      | (go_at_call 59; refine (H5.out _).mono ?_; rintro e w8 ⟨rfl, hb⟩; have HP8 := Lib.hid (HP7.out.step hb); obtain ⟨hcl8, hfr8⟩ := bcell hb; have p0 := HP8.out.cq0; have p1 := HP8.out.cq1; have p2 := HP8.out.cq2; have p3 := HP8.out.cq3; have p4 := HP8.out.cr0; have p5 := HP8.out.cr1; have z2 := fun j => HP8.out.zq j; have z3 := fun j => HP8.out.zr j; clear hb))
  rename_i hHeld
  clear hHeld
  go_step
  go_step
  go_step
  refine bodyPost_ret (by simp [results, Try.results42, go_sem, *]; try rfl) rfl ?_
  refine ⟨q0, q1, q2, q3, q4, q5, q6, q7, y0_0, y0_1, y0_2, y0_3, hq0, hq1, hq2, hq3, hq4, hq5, hq6, hq7, hy0_0, hy0_1, hy0_2, hy0_3, HR.out, HS0.out.2.2, rfl, ?_⟩
  exact Below.setCell (Below.setCell (Below.setCell (Below.setCell (Below.setCell (Below.setCell HP8.out.below (by simp; omega) _) (by simp; omega) _) (by simp; omega) _) (by simp; omega) _) (by simp; omega) _) (by simp; omega) _
end Go.Proofs.Ytmmlekgojblopaa
namespace Go.Proofs.Ytmmlekgojblopaa
open Go.RowKit

theorem ret_div {a b c d e f a' b' c' d' e' f' : Int} (h1 : a = a') (h2 : b = b') (h3 : c = c') (h4 : d = d') (h5 : e = e') (h6 : f = f') :
    Ending.returned (.tuple #[.agg #[.int .u64 a, .int .u64 b, .int .u64 c, .int .u64 d], .agg #[.int .u64 e, .int .u64 f], .bool true]) = .returned (.tuple #[.agg #[.int .u64 a', .int .u64 b', .int .u64 c', .int .u64 d'], .agg #[.int .u64 e', .int .u64 f'], .bool true]) := by
  rw [h1, h2, h3, h4, h5, h6]
theorem div_any (a3 a2 a1 a0 b1 b0 : Int) (h3 : Wd a3) (h2 : Wd a2) (h1 : Wd a1) (h0 : Wd a0) (k1 : Wd b1) (k0 : Wd b0) (hb : v2 b1 b0 ≠ 0) (w : World) :
    Calls Try.prog 42 #[.agg #[.int .u64 a3, .int .u64 a2, .int .u64 a1, .int .u64 a0], .agg #[.int .u64 b1, .int .u64 b0]] w fun e w' =>
      e = .returned (.tuple #[.agg #[.int .u64 (wd (v4 a3 a2 a1 a0 / v2 b1 b0) 3), .int .u64 (wd (v4 a3 a2 a1 a0 / v2 b1 b0) 2), .int .u64 (wd (v4 a3 a2 a1 a0 / v2 b1 b0) 1), .int .u64 (wd (v4 a3 a2 a1 a0 / v2 b1 b0) 0)],
        .agg #[.int .u64 (wd (v4 a3 a2 a1 a0 % v2 b1 b0) 1), .int .u64 (wd (v4 a3 a2 a1 a0 % v2 b1 b0) 0)], .bool true]) ∧ Below w.heap.size w w' := by
  have hB := v2_lt k1 k0
  have hA := v4_lt h3 h2 h1 h0
  have hl : blen (v2 b1 b0) ≤ 128 := blen_le (by rw [show (2 : Nat) ^ 128 = 340282366920938463463374607431768211456 by decide]; exact hB)
  have hg := (blen_ge hb).1
  have ht := top_set hb hB
  have hz : Wd (0 : Int) := ⟨by decide, by decide⟩
  have ev : v4 0 0 b1 b0 = v2 b1 b0 := by unfold v4; rw [show v2 0 0 = 0 from rfl, Nat.zero_mul, Nat.zero_add]
  have eu : (128 - ((blen (v2 b1 b0) : Nat) : Int)).toNat = 128 - blen (v2 b1 b0) := by omega
  have C1 := len_any 0 0 b1 b0 hz hz k1 k0
  have C2 := shl_any 0 0 b1 b0 (128 - ((blen (v2 b1 b0) : Nat) : Int)) hz hz k1 k0 (by omega)
  rw [ev] at C1 C2
  rw [eu] at C2
  have C3 := halves_any _ _ (wd_wd (v2 b1 b0 * 2 ^ (128 - blen (v2 b1 b0))) 1) (wd_wd (v2 b1 b0 * 2 ^ (128 - blen (v2 b1 b0))) 0)
  have C4 := fun W => dividend_raw a3 a2 a1 a0 (128 - ((blen (v2 b1 b0) : Nat) : Int)) h3 h2 h1 h0 (by omega) (by omega) W _ _ _ _ _ _ rfl rfl rfl rfl rfl rfl
  rw [eu, show (256 - (128 - ((blen (v2 b1 b0) : Nat) : Int))).toNat = 256 - (128 - blen (v2 b1 b0)) by omega] at C4
  have hV := hv4_two (wd_wd (v2 b1 b0 * 2 ^ (128 - blen (v2 b1 b0))) 1) (wd_wd (v2 b1 b0 * 2 ^ (128 - blen (v2 b1 b0))) 0)
  rw [v2_small ht.1] at hV
  have hX1 := hv4_two (wd_wd (v4 a3 a2 a1 a0 * 2 ^ (128 - blen (v2 b1 b0))) 1) (wd_wd (v4 a3 a2 a1 a0 * 2 ^ (128 - blen (v2 b1 b0))) 0)
  have hX2 := hv4_two (wd_wd (v4 a3 a2 a1 a0 * 2 ^ (128 - blen (v2 b1 b0))) 3) (wd_wd (v4 a3 a2 a1 a0 * 2 ^ (128 - blen (v2 b1 b0))) 2)
  have hX3 := hv4_two (wd_wd (v4 a3 a2 a1 a0 / 2 ^ (256 - (128 - blen (v2 b1 b0)))) 1) (wd_wd (v4 a3 a2 a1 a0 / 2 ^ (256 - (128 - blen (v2 b1 b0)))) 0)
  have hS := twelve_sum hA (show 128 - blen (v2 b1 b0) ≤ 128 by omega)
  have hU := upper_less hA (show 128 - blen (v2 b1 b0) ≤ 127 by omega) ht.2
  have hU2 : v4 a3 a2 a1 a0 / 2 ^ (256 - (128 - blen (v2 b1 b0))) < 340282366920938463463374607431768211456 := Nat.lt_trans hU ht.1
  have hT : (2147483648 : Int) ≤ wd (v2 b1 b0 * 2 ^ (128 - blen (v2 b1 b0))) 1 / 4294967296 := by
    have := ht.1; have := ht.2
    rw [wd1]; omega
  refine (div_walk a3 a2 a1 a0 b1 b0 _ _ _ _ _ _ _ _ _ _ _ _ _ _ _ _ _ _ _ _ _ (hf_lo (wd_wd _ _)) (hf_hi (wd_wd _ _)) (hf_lo (wd_wd _ _)) (hf_hi (wd_wd _ _)) (hf_lo (wd_wd _ _)) (hf_hi (wd_wd _ _)) (hf_lo (wd_wd _ _)) (hf_hi (wd_wd _ _)) (hf_lo (wd_wd _ _)) (hf_hi (wd_wd _ _)) (hf_lo (wd_wd _ _)) (hf_hi (wd_wd _ _)) (hf_lo (wd_wd _ _)) (hf_hi (wd_wd _ _)) (hf_lo (wd_wd _ _)) (hf_hi (wd_wd _ _))
    hT ?_ (Int.natCast_nonneg _) (by omega) (fun h => hb (by rw [h.1, h.2]; rfl)) w C1 C2 C3 C4).mono ?_
  · rw [hX3, hV, v2_small hU2]; exact_mod_cast hU
  rintro e w' ⟨q0, q1, q2, q3, q4, q5, q6, q7, y0, y1, y2, y3, hq0, hq1, hq2, hq3, hq4, hq5, hq6, hq7, hy0, hy1, hy2, hy3, hsum, hlt, rfl, hbl⟩
  refine ⟨?_, hbl⟩
  rw [hX1, hX2, hX3, hV] at hsum
  rw [hV] at hlt
  have hS' : (((v2 (wd (v4 a3 a2 a1 a0 * 2 ^ (128 - blen (v2 b1 b0))) 1) (wd (v4 a3 a2 a1 a0 * 2 ^ (128 - blen (v2 b1 b0))) 0) : Nat) : Int) + ((v2 (wd (v4 a3 a2 a1 a0 * 2 ^ (128 - blen (v2 b1 b0))) 3) (wd (v4 a3 a2 a1 a0 * 2 ^ (128 - blen (v2 b1 b0))) 2) : Nat) : Int) * 340282366920938463463374607431768211456) = ((v4 (wd (v4 a3 a2 a1 a0 * 2 ^ (128 - blen (v2 b1 b0))) 3) (wd (v4 a3 a2 a1 a0 * 2 ^ (128 - blen (v2 b1 b0))) 2) (wd (v4 a3 a2 a1 a0 * 2 ^ (128 - blen (v2 b1 b0))) 1) (wd (v4 a3 a2 a1 a0 * 2 ^ (128 - blen (v2 b1 b0))) 0) : Nat) : Int) := by
    unfold v4; omega
  rw [hS', hS] at hsum
  have hr := hv4_lt hy0 hy1 hy2 hy3
  have hQ := quo_nonneg hq0 hq1 hq2 hq3 hq4 hq5 hq6 hq7
  have hend := div_end hb hQ.1 hsum hr.1 hlt
  have hw := quo_words hq0 hq1 hq2 hq3 hq4 hq5 hq6 hq7 hend.1
  rw [rest_word hy0 hy1 hy2 hy3, eu, hend.2]
  exact ret_div hw.1 hw.2.1 hw.2.2.1 hw.2.2.2 rfl rfl
end Go.Proofs.Ytmmlekgojblopaa
namespace Go.Proofs.Ytmmlekgojblopaa
open Go.RowKit

theorem rootOfWord_any (a : Int) (ha : Wd a) (w : World) :
    Calls Try.prog 82 #[.int .u64 a] w fun e w' => e = .returned (.int .u64 ((isq a.toNat : Nat) : Int)) ∧ w = w' := by
  have hn : a.toNat < 18446744073709551616 := by have := ha.1; have := ha.2; omega
  have hst := RW_start hn
  rw [show ((a.toNat : Nat) : Int) = a by have := ha.1; omega] at hst
  go_enter Try.func82, Try.ntmps82
  go_wp2
  go_loop [0, 3, 4] (fun x r b => ∃ W R B : Int, x = .int .u64 W ∧ r = .int .u64 R ∧ b = .int .u64 B ∧ RW a.toNat W R B ∧ 0 ≤ B ∧ B < 18446744073709551616) (fun _ _ b => (intOf b).toNat)
  case atStart => exact ⟨a, 0, 4611686018427387904, rfl, rfl, rfl, hst, by decide, by decide⟩
  case round =>
    obtain ⟨W, R, B, rfl, rfl, rfl, hrw, hB0, hB1⟩ := hrel
    clear hst
    by_cases hz : B = 0
    · subst hz
      have he := Lib.hid (RW_end hrw)
      go_wp2
      go_returns
      exact ⟨ret_int he.out, rfl⟩
    · have t1 : (B != 0) = true := by rw [bne_iff_ne]; exact hz
      obtain ⟨f1, f2, f3, f4, f5, f6, f7, f8, f9⟩ := RW_bits hn hrw hz
      have F8 := Lib.hid f8
      have F9 := Lib.hid f9
      clear f8 f9
      by_cases hc : R + B ≤ W
      · go_wp2
        go_round
        case rel => exact ⟨_, _, _, rfl, rfl, rfl, F8.out hc, by omega, by omega⟩
        case measure => simp [intOf]; omega
      · go_wp2
        go_round
        case rel => exact ⟨_, _, _, rfl, rfl, rfl, F9.out (by omega), by omega, by omega⟩
        case measure => simp [intOf]; omega
set_option maxHeartbeats 1000000 in
theorem mean_any (a1 a0 b1 b0 : Int) (ha1 : Wd a1) (ha0 : Wd a0) (hb1 : Wd b1) (hb0 : Wd b0) (w : World) :
    Calls Try.prog 84 #[.agg #[.int .u64 a1, .int .u64 a0], .agg #[.int .u64 b1, .int .u64 b0]] w fun e w' =>
      e = .returned (.agg #[.int .u64 (wd ((v2 a1 a0 + v2 b1 b0) / 2) 1), .int .u64 (wd ((v2 a1 a0 + v2 b1 b0) / 2) 0)]) ∧ Below w.heap.size w w' := by
  have fl := fun x0 x1 x2 x3 w => (field_four x0 x1 x2 x3 w).2
  have hs : Wd (wd (v2 a1 a0 + v2 b1 b0) 1) := wd_wd _ _
  have hs0 : Wd (wd (v2 a1 a0 + v2 b1 b0) 0) := wd_wd _ _
  have hz : Wd (0 : Int) := ⟨by decide, by decide⟩
  have H1 := Lib.hid (add_any a1 a0 b1 b0 ha1 ha0 hb1 hb0)
  have H2 := Lib.hid (shr_any 0 0 (wd (v2 a1 a0 + v2 b1 b0) 1) (wd (v2 a1 a0 + v2 b1 b0) 0) 1 hz hz hs hs0 (by decide))
  have ev : v4 0 0 (wd (v2 a1 a0 + v2 b1 b0) 1) (wd (v2 a1 a0 + v2 b1 b0) 0) = (v2 a1 a0 + v2 b1 b0) % 340282366920938463463374607431768211456 := by
    unfold v4; rw [show v2 0 0 = 0 from rfl, Nat.zero_mul, Nat.zero_add, v2_wd]
  have h2 : (2 : Nat) ^ (1 : Int).toNat = 2 := rfl
  rw [ev, h2] at H2
  have HA := Lib.hid (v2_lt ha1 ha0)
  have HB := Lib.hid (v2_lt hb1 hb0)
  clear ev h2 hs hs0 hz
  by_cases hc : 340282366920938463463374607431768211456 ≤ v2 a1 a0 + v2 b1 b0
  · have e1 : Hid (wd ((v2 a1 a0 + v2 b1 b0) / 2) 0 = wd ((v2 a1 a0 + v2 b1 b0) % 340282366920938463463374607431768211456 / 2) 0) := by
      have := HA.out; have := HB.out
      show _ = _; rw [wd0, wd0]; omega
    have e2 : Hid (bits .or .u64 (wd ((v2 a1 a0 + v2 b1 b0) % 340282366920938463463374607431768211456 / 2) 1) 9223372036854775808 = wd ((v2 a1 a0 + v2 b1 b0) / 2) 1) := by
      have := HA.out; have := HB.out
      show _ = _
      rw [show bits .or .u64 (wd ((v2 a1 a0 + v2 b1 b0) % 340282366920938463463374607431768211456 / 2) 1) 9223372036854775808 = bits .or .u64 9223372036854775808 (wd ((v2 a1 a0 + v2 b1 b0) % 340282366920938463463374607431768211456 / 2) 1) by simp only [bits, BitVec.or_comm]]
      rw [bits_join .u64 64 (by decide) (fun n h0 h1 => IntWalk.u64_in n (by omega)) 63 _ _ (by decide) (by decide) (by decide) (by rw [wd1]; omega) (by rw [wd1]; omega) (by rw [wd1]; omega), wd1, wd1]
      omega
    have t1 : decide (340282366920938463463374607431768211456 ≤ v2 a1 a0 + v2 b1 b0) = true := decide_eq_true hc
    rw [t1] at H1
    clear t1 hc
    generalize v2 a1 a0 + v2 b1 b0 = S at *
    generalize wd (S % 340282366920938463463374607431768211456 / 2) 1 = p1 at *
    generalize wd (S % 340282366920938463463374607431768211456 / 2) 0 = p0 at *
    generalize wd (S % 340282366920938463463374607431768211456 / 2) 2 = p2 at *
    generalize wd (S % 340282366920938463463374607431768211456 / 2) 3 = p3 at *
    go_enter Try.func84, Try.ntmps84
    go_wp2_with fail
    refine (H1.out _).mono ?_
    rintro e w1 ⟨rfl, hb⟩
    have hz1 : w.heap.size + 2 < w1.heap.size := by have h := hb.size; simp at h; omega
    have HB1 : Hid (Below w.heap.size w w1) := bl_trans (bl_al (bl_al (bl_al (Below.refl _ _) _) _) _) hb
    have c0 : w1.cell? ⟨w.heap.size + 2, 0, none⟩ = some (.int .u64 0) := by rw [(bcell hb).1 _ _ (by simp)]; simp [go_sem]
    have c1 : w1.cell? ⟨w.heap.size + 2, 1, none⟩ = some (.int .u64 0) := by rw [(bcell hb).1 _ _ (by simp)]; simp [go_sem]
    have z : ∀ j, w1.frozen? ⟨w.heap.size + 2, j, none⟩ = false := fun j => by rw [(bcell hb).2 _ _ (by simp), frozen?_alloc_cells, frozen?_alloc_cells, frozen?_alloc_cells]; simp [World.frozen?]
    clear hb
    go_wp2_with fail
    refine (H2.out _).mono ?_
    rintro e w2 ⟨rfl, hb⟩
    have hB : Below w1.heap.size w1 w2 := bl_trans (bl_al (Below.refl _ _) _) hb
    have hz2 : w.heap.size + 2 < w2.heap.size := Nat.lt_of_lt_of_le hz1 hB.size
    have hz3 : w.heap.size + 2 ≠ w2.heap.size := Nat.ne_of_lt hz2
    have HB2 : Hid (Below w.heap.size w w2) := bl_trans HB1.out hB
    have d0 : w2.cell? ⟨w.heap.size + 2, 0, none⟩ = some (.int .u64 0) := by rw [(bcell hB).1 _ _ hz1]; exact c0
    have d1 : w2.cell? ⟨w.heap.size + 2, 1, none⟩ = some (.int .u64 0) := by rw [(bcell hB).1 _ _ hz1]; exact c1
    have z2 : ∀ j, w2.frozen? ⟨w.heap.size + 2, j, none⟩ = false := fun j => by rw [(bcell hB).2 _ _ hz1]; exact z j
    clear hb hB c0 c1 z
    go_wp2_with fail
    refine bodyPost_ret (by simp [results, Try.results84, go_sem, *]; try rfl) rfl ?_
    refine ⟨ret_agg2 e2.out e1.out.symm, ?_⟩
    exact bl_al (Below.setCell (Below.setCell HB2.out (by simp; omega) _) (by simp; omega) _) _
  · have e1 : Hid (wd ((v2 a1 a0 + v2 b1 b0) / 2) 0 = wd ((v2 a1 a0 + v2 b1 b0) % 340282366920938463463374607431768211456 / 2) 0) := by
      show _ = _; rw [Nat.mod_eq_of_lt (by omega)]
    have e2 : Hid (wd ((v2 a1 a0 + v2 b1 b0) / 2) 1 = wd ((v2 a1 a0 + v2 b1 b0) % 340282366920938463463374607431768211456 / 2) 1) := by
      show _ = _; rw [Nat.mod_eq_of_lt (by omega)]
    have t1 : decide (340282366920938463463374607431768211456 ≤ v2 a1 a0 + v2 b1 b0) = false := decide_eq_false hc
    rw [t1] at H1
    clear t1 hc
    generalize v2 a1 a0 + v2 b1 b0 = S at *
    generalize wd (S % 340282366920938463463374607431768211456 / 2) 1 = p1 at *
    generalize wd (S % 340282366920938463463374607431768211456 / 2) 0 = p0 at *
    generalize wd (S % 340282366920938463463374607431768211456 / 2) 2 = p2 at *
    generalize wd (S % 340282366920938463463374607431768211456 / 2) 3 = p3 at *
    go_enter Try.func84, Try.ntmps84
    go_wp2_with fail
    refine (H1.out _).mono ?_
    rintro e w1 ⟨rfl, hb⟩
    have hz1 : w.heap.size + 2 < w1.heap.size := by have h := hb.size; simp at h; omega
    have HB1 : Hid (Below w.heap.size w w1) := bl_trans (bl_al (bl_al (bl_al (Below.refl _ _) _) _) _) hb
    have c0 : w1.cell? ⟨w.heap.size + 2, 0, none⟩ = some (.int .u64 0) := by rw [(bcell hb).1 _ _ (by simp)]; simp [go_sem]
    have c1 : w1.cell? ⟨w.heap.size + 2, 1, none⟩ = some (.int .u64 0) := by rw [(bcell hb).1 _ _ (by simp)]; simp [go_sem]
    have z : ∀ j, w1.frozen? ⟨w.heap.size + 2, j, none⟩ = false := fun j => by rw [(bcell hb).2 _ _ (by simp), frozen?_alloc_cells, frozen?_alloc_cells, frozen?_alloc_cells]; simp [World.frozen?]
    clear hb
    go_wp2_with fail
    refine (H2.out _).mono ?_
    rintro e w2 ⟨rfl, hb⟩
    have hB : Below w1.heap.size w1 w2 := bl_trans (bl_al (Below.refl _ _) _) hb
    have hz2 : w.heap.size + 2 < w2.heap.size := Nat.lt_of_lt_of_le hz1 hB.size
    have hz3 : w.heap.size + 2 ≠ w2.heap.size := Nat.ne_of_lt hz2
    have HB2 : Hid (Below w.heap.size w w2) := bl_trans HB1.out hB
    have d0 : w2.cell? ⟨w.heap.size + 2, 0, none⟩ = some (.int .u64 0) := by rw [(bcell hB).1 _ _ hz1]; exact c0
    have d1 : w2.cell? ⟨w.heap.size + 2, 1, none⟩ = some (.int .u64 0) := by rw [(bcell hB).1 _ _ hz1]; exact c1
    have z2 : ∀ j, w2.frozen? ⟨w.heap.size + 2, j, none⟩ = false := fun j => by rw [(bcell hB).2 _ _ hz1]; exact z j
    clear hb hB c0 c1 z
    go_wp2_with fail
    refine bodyPost_ret (by simp [results, Try.results84, go_sem, *]; try rfl) rfl ?_
    refine ⟨ret_agg2 e2.out.symm e1.out.symm, ?_⟩
    exact bl_al (Below.setCell (Below.setCell HB2.out (by simp; omega) _) (by simp; omega) _) _
end Go.Proofs.Ytmmlekgojblopaa
namespace Go.Proofs.Ytmmlekgojblopaa
open Go.RowKit

/-- What has been laid ahead of the first call. -/
structure SqPro (w : World) (a3 a2 a1 a0 : Int) (W : World) : Prop where
  size : w.heap.size + 1 < W.heap.size
  below : Below w.heap.size w W
  ca0 : W.cell? ⟨w.heap.size, 0, none⟩ = some (.int .u64 a3)
  ca1 : W.cell? ⟨w.heap.size, 1, none⟩ = some (.int .u64 a2)
  ca2 : W.cell? ⟨w.heap.size, 2, none⟩ = some (.int .u64 a1)
  ca3 : W.cell? ⟨w.heap.size, 3, none⟩ = some (.int .u64 a0)
  cr0 : W.cell? ⟨w.heap.size + 1, 0, none⟩ = some (.int .u64 0)
  cr1 : W.cell? ⟨w.heap.size + 1, 1, none⟩ = some (.int .u64 0)
  zr : Clear (w.heap.size + 1) W
theorem SqPro.step {w : World} {a3 a2 a1 a0 : Int} {W W' : World} (h : SqPro w a3 a2 a1 a0 W) (g : Below W.heap.size W W') : SqPro w a3 a2 a1 a0 W' := by
  have hs := h.size
  have c := (bcell g).1
  refine ⟨Nat.lt_of_lt_of_le h.size g.size, bl_trans h.below g, ?_, ?_, ?_, ?_, ?_, ?_, fun j => ?_⟩
  · rw [c _ _ (by omega)]; exact h.ca0
  · rw [c _ _ (by omega)]; exact h.ca1
  · rw [c _ _ (by omega)]; exact h.ca2
  · rw [c _ _ (by omega)]; exact h.ca3
  · rw [c _ _ (by omega)]; exact h.cr0
  · rw [c _ _ (by omega)]; exact h.cr1
  · rw [(bcell g).2 _ _ (by omega)]; exact h.zr j
theorem SqPro.other {w : World} {a3 a2 a1 a0 : Int} {B o n : Nat} {W W' : World} (h : SqPro w a3 a2 a1 a0 W) (g : Wrote B o n W W') (hB : w.heap.size + 1 < B) : SqPro w a3 a2 a1 a0 W' := by
  have hs := h.size
  have c := fun b j (hb : b < W.heap.size) (hn : b ≠ B) => g.other (j := j) hb hn
  refine ⟨Nat.lt_of_lt_of_le h.size g.size, h.below.trans (g.below (B0 := w.heap.size) (by omega) (by omega)), ?_, ?_, ?_, ?_, ?_, ?_, fun j => ?_⟩
  · rw [c _ _ (by omega) (by omega)]; exact h.ca0
  · rw [c _ _ (by omega) (by omega)]; exact h.ca1
  · rw [c _ _ (by omega) (by omega)]; exact h.ca2
  · rw [c _ _ (by omega) (by omega)]; exact h.ca3
  · rw [c _ _ (by omega) (by omega)]; exact h.cr0
  · rw [c _ _ (by omega) (by omega)]; exact h.cr1
  · rw [World.frozen?_of_block (a := ⟨w.heap.size + 1, j, none⟩) (g.block (w.heap.size + 1) (by omega) (by omega))]; exact h.zr j

/-- Of a number of one word. -/
theorem sqrt_small (a0 : Int) (h0 : Wd a0) (w : World) :
    Calls Try.prog 64 #[.agg #[.int .u64 0, .int .u64 0, .int .u64 0, .int .u64 a0]] w fun e w' =>
      e = .returned (.agg #[.int .u64 0, .int .u64 ((isq a0.toNat : Nat) : Int)]) ∧ Below w.heap.size w w' := by
  have hz : Wd (0 : Int) := ⟨by decide, by decide⟩
  have H1 := len_any 0 0 0 a0 hz hz hz h0
  rw [show v4 0 0 0 a0 = a0.toNat by unfold v4 v2; simp] at H1
  have hl : blen a0.toNat ≤ 64 := blen_le (by have := h0.1; have := h0.2; omega)
  have hl2 : ((blen a0.toNat : Nat) : Int) ≤ 64 := by omega
  generalize ((blen a0.toNat : Nat) : Int) = L at *
  have H := Lib.hid H1
  clear H1
  go_enter Try.func64, Try.ntmps64
  go_wp2_with fail
  refine calls_gen (SqPro w 0 0 0 a0) ?_ ?_
  · refine ⟨by simp, by go_grown, ?_, ?_, ?_, ?_, ?_, ?_, fun j => ?_⟩
    all_goals first | (simp [go_sem]; done) | (simp [frozen?_alloc_cells, World.frozen?]; done)
  intro W0 P0
  refine (H.out _).mono ?_
  rintro e w1 ⟨rfl, hb⟩
  have HP := Lib.hid (P0.step hb)
  have c3 := HP.out.ca3
  clear hb P0
  go_wp2_with (go_at_call 82; refine (rootOfWord_any _ h0 _).mono ?_; rintro e w' ⟨rfl, rfl⟩; have r0 := HP.out.cr0; have r1 := HP.out.cr1; have z := fun j => HP.out.zr j)
  refine bodyPost_ret (by simp [results, Try.results64, go_sem, *]; try rfl) rfl ?_
  exact ⟨rfl, Below.setCell (Below.setCell HP.out.below (by simp) _) (by simp) _⟩

theorem ret_two_words {a b a' b' : Int} (h : a = a') (g : b = b') : Ending.returned (.agg #[.int .u64 a, .int .u64 b]) = .returned (.agg #[.int .u64 a', .int .u64 b']) := by rw [h, g]
theorem abv_walk (a3 a2 a1 a0 L c3 c2 c1 c0 r1 r0 t1 t0 u3 u2 u1 u0 x1 x0 : Int) (b : Bool) (hL0 : 0 ≤ L) (hL1 : L ≤ 256)
    (hx : (u3 = 0 ∧ u2 = 0 ∧ x1 = u1 ∧ x0 = u0) ∨ (¬(u3 = 0 ∧ u2 = 0) ∧ x1 = 18446744073709551615 ∧ x0 = 18446744073709551615)) (w : World)
    (C1 : Ct 66 #[.agg #[.int .u64 a3, .int .u64 a2, .int .u64 a1, .int .u64 a0]] (.int .i64 L))
    (C2 : Ct 59 #[.agg #[.int .u64 a3, .int .u64 a2, .int .u64 a1, .int .u64 a0], .int .i64 (2 * (L / 4))] (.agg #[.int .u64 c3, .int .u64 c2, .int .u64 c1, .int .u64 c0]))
    (C3 : Ct 64 #[.agg #[.int .u64 c3, .int .u64 c2, .int .u64 c1, .int .u64 c0]] (.agg #[.int .u64 r1, .int .u64 r0]))
    (C4 : Ct 60 #[.agg #[.int .u64 r1, .int .u64 r0], .agg #[.int .u64 0, .int .u64 1]] (.tuple #[.agg #[.int .u64 t1, .int .u64 t0], .bool b]))
    (C5 : Ct 43 #[.agg #[.int .u64 0, .int .u64 0, .int .u64 t1, .int .u64 t0], .int .i64 (L / 4)] (.agg #[.int .u64 u3, .int .u64 u2, .int .u64 u1, .int .u64 u0])) :
    Calls Try.prog 83 #[.agg #[.int .u64 a3, .int .u64 a2, .int .u64 a1, .int .u64 a0]] w fun e w' => e = .returned (.agg #[.int .u64 x1, .int .u64 x0]) ∧ Below w.heap.size w w' := by
  have H1 := Lib.hid C1; have H2 := Lib.hid C2; have H3 := Lib.hid C3; have H4 := Lib.hid C4; have H5 := Lib.hid C5
  clear C1 C2 C3 C4 C5
  have hneq : ∀ W, (Go.binOp .neq 62 (.agg #[.int .u64 u3, .int .u64 u2]) (.agg #[.int .u64 0, .int .u64 0])).run Try.prog W = .ok (.bool (!(decide (u3 = 0 ∧ u2 = 0)))) W := by
    intro W
    by_cases c : u3 = 0 <;> by_cases d : u2 = 0 <;> simp [go_sem, *]
  have HX := Lib.hid hx
  have hq0 : 0 ≤ L / 4 := by omega
  go_enter Try.func83, Try.ntmps83
  go_wp2_with fail
  refine calls_gen (SqPro w a3 a2 a1 a0) ?_ ?_
  · refine ⟨by simp, by go_grown, ?_, ?_, ?_, ?_, ?_, ?_, fun j => ?_⟩
    all_goals first | (simp [go_sem]; done) | (simp [frozen?_alloc_cells, World.frozen?]; done)
  intro W0 P0
  refine (H1.out _).mono ?_
  rintro e w1 ⟨rfl, hb⟩
  have HP1 := Lib.hid (P0.step hb)
  have c0' := HP1.out.ca0; have c1' := HP1.out.ca1; have c2' := HP1.out.ca2; have c3' := HP1.out.ca3
  clear hb P0
  go_wp2_with fail
  refine (H2.out _).mono ?_
  rintro e w2 ⟨rfl, hb⟩
  have HP2 := Lib.hid (HP1.out.step hb)
  clear hb HP1 c0' c1' c2' c3'
  go_wp2_with fail
  refine (H3.out _).mono ?_
  rintro e w3 ⟨rfl, hb⟩
  have HP3 := Lib.hid (HP2.out.step hb)
  clear hb HP2
  go_wp2_with fail
  refine (H4.out _).mono ?_
  rintro e w4 ⟨rfl, hb⟩
  have HP4 := Lib.hid (HP3.out.step hb)
  clear hb HP3
  go_wp2_with fail
  refine (H5.out _).mono ?_
  rintro e w5 ⟨rfl, hb⟩
  have hB := bl_trans (bl_al (Below.refl w4.heap.size w4) (.cells #[.int .u64 t1, .int .u64 t0] 62)) hb
  have HP5 := Lib.hid (HP4.out.step hB)
  have r0' := HP5.out.cr0; have r1' := HP5.out.cr1; have z := fun j => HP5.out.zr j
  have hs := HP5.out.size
  have hs2 : w.heap.size + 1 ≠ w5.heap.size := Nat.ne_of_lt hs
  clear hb hB HP4 hx
  rcases HX.out with ⟨rfl, rfl, rfl, rfl⟩ | ⟨hn, rfl, rfl⟩
  · clear HX
    go_wp2_with fail
    refine bodyPost_ret (by simp [results, Try.results83, go_sem, *]; try rfl) rfl ?_
    exact ⟨rfl, bl_al (Below.setCell (Below.setCell HP5.out.below (by simp) _) (by simp) _) _⟩
  · clear HX
    rw [decide_eq_false hn] at hneq
    go_wp2_with fail
    refine bodyPost_ret (by simp [results, Try.results83, go_sem, *]; try rfl) rfl ?_
    exact ⟨rfl, bl_al (Below.setCell (Below.setCell HP5.out.below (by simp) _) (by simp) _) _⟩

theorem v4_low (x y : Int) : v4 0 0 x y = v2 x y := by unfold v4; rw [show v2 0 0 = 0 from rfl, Nat.zero_mul, Nat.zero_add]
theorem above_any (a3 a2 a1 a0 : Int) (h3 : Wd a3) (h2 : Wd a2) (h1 : Wd a1) (h0 : Wd a0) (hl : 64 < blen (v4 a3 a2 a1 a0))
    (IH : ∀ c3 c2 c1 c0 : Int, Wd c3 → Wd c2 → Wd c1 → Wd c0 → v4 c3 c2 c1 c0 < v4 a3 a2 a1 a0 → ∀ W, Calls Try.prog 64 #[.agg #[.int .u64 c3, .int .u64 c2, .int .u64 c1, .int .u64 c0]] W fun e w' =>
      e = .returned (.agg #[.int .u64 (wd (isq (v4 c3 c2 c1 c0)) 1), .int .u64 (wd (isq (v4 c3 c2 c1 c0)) 0)]) ∧ Below W.heap.size W w') (w : World) :
    Calls Try.prog 83 #[.agg #[.int .u64 a3, .int .u64 a2, .int .u64 a1, .int .u64 a0]] w fun e w' =>
      e = .returned (.agg #[.int .u64 (wd (abv (v4 a3 a2 a1 a0)) 1), .int .u64 (wd (abv (v4 a3 a2 a1 a0)) 0)]) ∧ Below w.heap.size w w' := by
  have hA := v4_lt h3 h2 h1 h0
  have hz : Wd (0 : Int) := ⟨by decide, by decide⟩
  have hr := up_room hA hl
  have hb := blen_le (n := v4 a3 a2 a1 a0) (k := 256) (by rw [show (2 : Nat) ^ 256 = 115792089237316195423570985008687907853269984665640564039457584007913129639936 by decide]; exact hA)
  have C1 := len_any a3 a2 a1 a0 h3 h2 h1 h0
  have C2 := shr_any a3 a2 a1 a0 (2 * (((blen (v4 a3 a2 a1 a0) : Nat) : Int) / 4)) h3 h2 h1 h0 (by omega)
  rw [show (2 * (((blen (v4 a3 a2 a1 a0) : Nat) : Int) / 4)).toNat = 2 * (blen (v4 a3 a2 a1 a0) / 4) by omega] at C2
  have hM : v4 a3 a2 a1 a0 / 2 ^ (2 * (blen (v4 a3 a2 a1 a0) / 4)) < 115792089237316195423570985008687907853269984665640564039457584007913129639936 := Nat.lt_trans hr.2 hA
  have eM := v4_wd (v4 a3 a2 a1 a0 / 2 ^ (2 * (blen (v4 a3 a2 a1 a0) / 4)))
  rw [Nat.mod_eq_of_lt hM] at eM
  have C3 := IH _ _ _ _ (wd_wd (v4 a3 a2 a1 a0 / 2 ^ (2 * (blen (v4 a3 a2 a1 a0) / 4))) 3) (wd_wd (v4 a3 a2 a1 a0 / 2 ^ (2 * (blen (v4 a3 a2 a1 a0) / 4))) 2) (wd_wd (v4 a3 a2 a1 a0 / 2 ^ (2 * (blen (v4 a3 a2 a1 a0) / 4))) 1) (wd_wd (v4 a3 a2 a1 a0 / 2 ^ (2 * (blen (v4 a3 a2 a1 a0) / 4))) 0) (by rw [eM]; exact hr.2)
  rw [eM] at C3
  have C4 := add_any (wd (isq (v4 a3 a2 a1 a0 / 2 ^ (2 * (blen (v4 a3 a2 a1 a0) / 4)))) 1) (wd (isq (v4 a3 a2 a1 a0 / 2 ^ (2 * (blen (v4 a3 a2 a1 a0) / 4)))) 0) 0 1 (wd_wd _ _) (wd_wd _ _) hz ⟨by decide, by decide⟩
  rw [v2_wd, Nat.mod_eq_of_lt (by omega), show v2 0 1 = 1 from rfl] at C4
  have C5 := shl_any 0 0 (wd (isq (v4 a3 a2 a1 a0 / 2 ^ (2 * (blen (v4 a3 a2 a1 a0) / 4))) + 1) 1) (wd (isq (v4 a3 a2 a1 a0 / 2 ^ (2 * (blen (v4 a3 a2 a1 a0) / 4))) + 1) 0) (((blen (v4 a3 a2 a1 a0) : Nat) : Int) / 4) hz hz (wd_wd _ _) (wd_wd _ _) (by omega)
  rw [show (((blen (v4 a3 a2 a1 a0) : Nat) : Int) / 4).toNat = blen (v4 a3 a2 a1 a0) / 4 by omega,
    show v4 0 0 (wd (isq (v4 a3 a2 a1 a0 / 2 ^ (2 * (blen (v4 a3 a2 a1 a0) / 4))) + 1) 1) (wd (isq (v4 a3 a2 a1 a0 / 2 ^ (2 * (blen (v4 a3 a2 a1 a0) / 4))) + 1) 0) = isq (v4 a3 a2 a1 a0 / 2 ^ (2 * (blen (v4 a3 a2 a1 a0) / 4))) + 1 by
      rw [v4_low, v2_wd, Nat.mod_eq_of_lt hr.1]] at C5
  have hup : isq (v4 a3 a2 a1 a0 / 2 ^ (2 * (blen (v4 a3 a2 a1 a0) / 4))) + 1 < 340282366920938463463374607431768211456 := hr.1
  have hbig : (isq (v4 a3 a2 a1 a0 / 2 ^ (2 * (blen (v4 a3 a2 a1 a0) / 4))) + 1) * 2 ^ (blen (v4 a3 a2 a1 a0) / 4) < 115792089237316195423570985008687907853269984665640564039457584007913129639936 := by
    have hp : 2 ^ (blen (v4 a3 a2 a1 a0) / 4) ≤ 2 ^ 64 := Nat.pow_le_pow_right (by decide) (by omega)
    have := Nat.mul_le_mul (Nat.le_of_lt hup) hp
    omega
  refine abv_walk a3 a2 a1 a0 _ _ _ _ _ _ _ _ _ _ _ _ _ _ _ _ (Int.natCast_nonneg _) (by omega) ?_ w C1 C2 C3 C4 C5
  unfold abv
  by_cases c : (isq (v4 a3 a2 a1 a0 / 2 ^ (2 * (blen (v4 a3 a2 a1 a0) / 4))) + 1) * 2 ^ (blen (v4 a3 a2 a1 a0) / 4) < 340282366920938463463374607431768211456
  · rw [if_pos c]
    refine Or.inl ⟨?_, ?_, rfl, rfl⟩
    · rw [wd3]; omega
    · rw [wd2]; omega
  · rw [if_neg c]
    refine Or.inr ⟨?_, by rw [wd1]; rfl, by rw [wd0]; rfl⟩
    rw [wd3, wd2]; omega

/-- What stands at each round's head: a number that is not below the root. -/
def SqHead (S : Nat) (w : World) (a3 a2 a1 a0 : Int) (k : Nat) (wr : World) : Prop := ∃ x1 x0 : Int, Wd x1 ∧ Wd x0 ∧ v2 x1 x0 ≤ k ∧ isq (v4 a3 a2 a1 a0) ≤ v2 x1 x0 ∧ v2 x1 x0 ≠ 0 ∧ SqPro w a3 a2 a1 a0 wr ∧
  wr.cell? ⟨S, 0, none⟩ = some (.int .u64 x1) ∧ wr.cell? ⟨S, 1, none⟩ = some (.int .u64 x0) ∧ Clear S wr ∧ S < wr.heap.size
set_option maxHeartbeats 4000000 in
theorem sqrt_walk (a3 a2 a1 a0 L s1 s0 : Int) (h3 : Wd a3) (h2 : Wd a2) (h1 : Wd a1) (h0 : Wd a0) (hL : 64 < L) (k1 : Wd s1) (k0 : Wd s0) (hs : isq (v4 a3 a2 a1 a0) ≤ v2 s1 s0) (hne : v2 s1 s0 ≠ 0) (hp : isq (v4 a3 a2 a1 a0) ≠ 0) (w : World)
    (C1 : Ct 66 #[.agg #[.int .u64 a3, .int .u64 a2, .int .u64 a1, .int .u64 a0]] (.int .i64 L))
    (C2 : Ct 83 #[.agg #[.int .u64 a3, .int .u64 a2, .int .u64 a1, .int .u64 a0]] (.agg #[.int .u64 s1, .int .u64 s0])) :
    Calls Try.prog 64 #[.agg #[.int .u64 a3, .int .u64 a2, .int .u64 a1, .int .u64 a0]] w fun e w' =>
      e = .returned (.agg #[.int .u64 (wd (isq (v4 a3 a2 a1 a0)) 1), .int .u64 (wd (isq (v4 a3 a2 a1 a0)) 0)]) ∧ Below w.heap.size w w' := by
  have H1 := Lib.hid C1; have H2 := Lib.hid C2
  clear C1 C2
  have hA := Lib.hid (v4_lt h3 h2 h1 h0)
  have HPos := Lib.hid hp
  clear hp
  go_enter Try.func64, Try.ntmps64
  go_wp2_with fail
  refine calls_gen (SqPro w a3 a2 a1 a0) ?_ ?_
  · refine ⟨by simp, by go_grown, ?_, ?_, ?_, ?_, ?_, ?_, fun j => ?_⟩
    all_goals first | (simp [go_sem]; done) | (simp [frozen?_alloc_cells, World.frozen?]; done)
  intro W0 P0
  refine (H1.out _).mono ?_
  rintro e w1 ⟨rfl, hb⟩
  have HP1 := Lib.hid (P0.step hb)
  have c0' := HP1.out.ca0; have c1' := HP1.out.ca1; have c2' := HP1.out.ca2; have c3' := HP1.out.ca3
  clear hb P0
  go_wp2_with fail
  refine (H2.out _).mono ?_
  rintro e w2 ⟨rfl, hb⟩
  have HP2 := Lib.hid (HP1.out.step hb)
  have hsz := HP2.out.size
  clear hb HP1 c0' c1' c2' c3' H1 H2
  go_wp2_with fail
  have g1 : SqHead w2.heap.size w a3 a2 a1 a0 (v2 s1 s0) (w2.alloc (.cells #[.int .u64 s1, .int .u64 s0] 62)) := by
    refine ⟨s1, s0, k1, k0, Nat.le_refl _, hs, hne, HP2.out.step (bl_al (Below.refl _ _) _), by simp [go_sem], by simp [go_sem], fun j => ?_, by simp⟩
    rw [frozen?_alloc_cells]; simp [World.frozen?]
  have G1 := Lib.hid g1
  clear g1
  go_loopg [6] (v2 s1 s0) (fun k v wr => SqHead w2.heap.size w a3 a2 a1 a0 k wr)
  case atStart => exact G1.out
  case round =>
    obtain ⟨x1, x0, j1, j0, hk, hi, hn, P, d1, d0, hC, hS⟩ := hrel
    clear G1 HP2
    generalize w2.heap.size = S at *
    have HP := Lib.hid P
    have HC := Lib.hid hC
    have HK := Lib.hid hk
    have HI := Lib.hid hi
    have HN := Lib.hid hn
    have c0' := P.ca0; have c1' := P.ca1; have c2' := P.ca2; have c3' := P.ca3
    clear P hC hk hi hn hs hne
    have HQ : Hid (v4 a3 a2 a1 a0 / v2 x1 x0 < 115792089237316195423570985008687907853269984665640564039457584007913129639936) := Nat.lt_of_le_of_lt (Nat.div_le_self _ _) hA.out
    have D := div_any a3 a2 a1 a0 x1 x0 h3 h2 h1 h0 j1 j0 HN.out
    have q0' := wd_wd (v4 a3 a2 a1 a0 / v2 x1 x0) 0
    have q1' := wd_wd (v4 a3 a2 a1 a0 / v2 x1 x0) 1
    have q2' := wd_wd (v4 a3 a2 a1 a0 / v2 x1 x0) 2
    have q3' := wd_wd (v4 a3 a2 a1 a0 / v2 x1 x0) 3
    have hz : Wd (0 : Int) := ⟨by decide, by decide⟩
    have C := cmp_any _ _ _ _ 0 0 x1 x0 q3' q2' q1' q0' hz hz j1 j0
    have M := mean_any x1 x0 _ _ j1 j0 q1' q0'
    rw [v4_wd, Nat.mod_eq_of_lt HQ.out, v4_low] at C
    rw [v2_wd] at M
    have HX : Hid (∀ y1 y0 : Int, y1 = wd ((v2 x1 x0 + v4 a3 a2 a1 a0 / v2 x1 x0 % 340282366920938463463374607431768211456) / 2) 1 → y0 = wd ((v2 x1 x0 + v4 a3 a2 a1 a0 / v2 x1 x0 % 340282366920938463463374607431768211456) / 2) 0 → v4 a3 a2 a1 a0 / v2 x1 x0 < v2 x1 x0 → v2 y1 y0 < v2 x1 x0 ∧ isq (v4 a3 a2 a1 a0) ≤ v2 y1 y0 ∧ v2 y1 y0 ≠ 0) := by
      intro y1 y0 e1 e0 hlt
      have hx := v2_lt j1 j0
      have hm := mean_ge (n := v4 a3 a2 a1 a0) HN.out
      rw [Nat.mod_eq_of_lt (Nat.lt_trans hlt hx)] at e1 e0
      have hI := HI.out
      have hpos := HPos.out
      rw [e1, e0, v2_wd]
      have hn := HN.out
      generalize v4 a3 a2 a1 a0 / v2 x1 x0 = Q at *
      generalize v2 x1 x0 = s at *
      generalize isq (v4 a3 a2 a1 a0) = r at *
      have h1 : (s + Q) / 2 < s := by omega
      rw [Nat.mod_eq_of_lt (by omega)]
      exact ⟨h1, hm, by omega⟩
    have hcase : Hid ((v2 x1 x0 ≤ v4 a3 a2 a1 a0 / v2 x1 x0 ∧ 0 ≤ icmp ((v4 a3 a2 a1 a0 / v2 x1 x0 : Nat) : Int) ((v2 x1 x0 : Nat) : Int)) ∨ (v4 a3 a2 a1 a0 / v2 x1 x0 < v2 x1 x0 ∧ icmp ((v4 a3 a2 a1 a0 / v2 x1 x0 : Nat) : Int) ((v2 x1 x0 : Nat) : Int) < 0)) := by
      show _ ∨ _
      unfold icmp
      rcases Nat.lt_or_ge (v4 a3 a2 a1 a0 / v2 x1 x0) (v2 x1 x0) with h | h
      · right; rw [if_pos (by omega)]; exact ⟨h, by decide⟩
      · left; rw [if_neg (by omega)]; refine ⟨h, ?_⟩; split <;> decide
    have HD := Lib.hid D
    have HCm := Lib.hid C
    have HM := Lib.hid M
    have hy1' := wd_wd ((v2 x1 x0 + v4 a3 a2 a1 a0 / v2 x1 x0 % 340282366920938463463374607431768211456) / 2) 1
    have hy0' := wd_wd ((v2 x1 x0 + v4 a3 a2 a1 a0 / v2 x1 x0 % 340282366920938463463374607431768211456) / 2) 0
    clear D C M HQ q0' q1' q2' q3' hz
    generalize icmp ((v4 a3 a2 a1 a0 / v2 x1 x0 : Nat) : Int) ((v2 x1 x0 : Nat) : Int) = c at *
    generalize hy1 : wd ((v2 x1 x0 + v4 a3 a2 a1 a0 / v2 x1 x0 % 340282366920938463463374607431768211456) / 2) 1 = y1 at *
    generalize hy0 : wd ((v2 x1 x0 + v4 a3 a2 a1 a0 / v2 x1 x0 % 340282366920938463463374607431768211456) / 2) 0 = y0 at *
    have HY := Lib.hid (HX.out y1 y0 rfl rfl)
    clear hy1 hy0 HX
    have HRT : Hid (v2 x1 x0 ≤ v4 a3 a2 a1 a0 / v2 x1 x0 → isq (v4 a3 a2 a1 a0) = v2 x1 x0) := root_there HN.out HI.out
    generalize wd (v4 a3 a2 a1 a0 / v2 x1 x0) 0 = q0 at *
    generalize wd (v4 a3 a2 a1 a0 / v2 x1 x0) 1 = q1 at *
    generalize wd (v4 a3 a2 a1 a0 / v2 x1 x0) 2 = q2 at *
    generalize wd (v4 a3 a2 a1 a0 / v2 x1 x0) 3 = q3 at *
    generalize wd (v4 a3 a2 a1 a0 % v2 x1 x0) 0 = m0 at *
    generalize wd (v4 a3 a2 a1 a0 % v2 x1 x0) 1 = m1 at *
    go_wp2_with fail
    refine (HD.out _).mono ?_
    rintro e w3 ⟨rfl, hb⟩
    have HP3 := Lib.hid (HP.out.step hb)
    have e1 : w3.cell? ⟨S, 0, none⟩ = some (.int .u64 x1) := by rw [(bcell hb).1 _ _ hS]; exact d1
    have e0 : w3.cell? ⟨S, 1, none⟩ = some (.int .u64 x0) := by rw [(bcell hb).1 _ _ hS]; exact d0
    have HC3 : Hid (Clear S w3) := fun j => by rw [(bcell hb).2 _ _ hS]; exact HC.out j
    have hS3 : S < w3.heap.size := Nat.lt_of_lt_of_le hS hb.size
    have hn3 : S ≠ w3.heap.size := Nat.ne_of_lt hS3
    have hn4 : S ≠ w3.heap.size + 1 := by omega
    clear hb d1 d0 HC hS HP c0' c1' c2' c3' HD
    go_wp2_with fail
    refine (HCm.out _).mono ?_
    rintro e w4 ⟨rfl, hb⟩
    have hB : Below w3.heap.size w3 w4 := bl_trans (by repeat (first | exact Below.refl _ _ | with_reducible refine bl_al ?_ _ | with_reducible apply Below.drew)) hb
    have HP4 := Lib.hid (HP3.out.step hB)
    have f1 : w4.cell? ⟨S, 0, none⟩ = some (.int .u64 x1) := by rw [(bcell hB).1 _ _ hS3]; exact e1
    have f0 : w4.cell? ⟨S, 1, none⟩ = some (.int .u64 x0) := by rw [(bcell hB).1 _ _ hS3]; exact e0
    have HC4 : Hid (Clear S w4) := fun j => by rw [(bcell hB).2 _ _ hS3]; exact HC3.out j
    have hS4 : S < w4.heap.size := Nat.lt_of_lt_of_le hS3 hB.size
    have p2 : w4.cell? ⟨w3.heap.size, 2, none⟩ = some (.int .u64 q1) := by rw [(bcell hb).1 _ _ (by simp; omega)]; simp [go_sem]
    have p3 : w4.cell? ⟨w3.heap.size, 3, none⟩ = some (.int .u64 q0) := by rw [(bcell hb).1 _ _ (by simp; omega)]; simp [go_sem]
    clear hb hB e1 e0 HC3 hS3 hn3 hn4 HP3 HCm
    rcases hcase.out with ⟨hle, hc⟩ | ⟨hlt, hc⟩
    · have r0' := HP4.out.cr0; have r1' := HP4.out.cr1; have z := fun j => HP4.out.zr j
      have hr := Lib.hid (HRT.out hle)
      clear hcase hle HY HRT
      go_wp2_with fail
      refine bodyPost_ret (by simp [results, Try.results64, go_sem, *]; try rfl) rfl ?_
      refine ⟨?_, Below.setCell (Below.setCell HP4.out.below (by simp) _) (by simp) _⟩
      rw [hr.out, wd_v2_1 j1 j0, wd_v2_0 j1 j0]
    · have HT := Lib.hid (HY.out hlt)
      clear hcase hlt HY HRT
      go_wp2_with fail
      refine (HM.out _).mono ?_
      rintro e w5 ⟨rfl, hb⟩
      have HP5 := Lib.hid (HP4.out.step hb)
      have g1 : w5.cell? ⟨S, 0, none⟩ = some (.int .u64 x1) := by rw [(bcell hb).1 _ _ hS4]; exact f1
      have g0 : w5.cell? ⟨S, 1, none⟩ = some (.int .u64 x0) := by rw [(bcell hb).1 _ _ hS4]; exact f0
      have HC5 : Clear S w5 := fun j => by rw [(bcell hb).2 _ _ hS4]; exact HC4.out j
      have hS5 : S < w5.heap.size := Nat.lt_of_lt_of_le hS4 hb.size
      unfold Clear at HC5
      clear hb f1 f0 HC4 hS4 HP4 HM p2 p3
      go_wp2_with fail
      go_roundg (v2 y1 y0)
      case measure => exact Nat.lt_of_lt_of_le HT.out.1 HK.out
      case rel =>
        have hW : Wrote S 0 2 w5 ((w5.setCell ⟨S, 0, none⟩ (.int .u64 y1)).setCell ⟨S, 1, none⟩ (.int .u64 y0)) := Wrote.setCell (Wrote.setCell (Wrote.refl _ _ _ _) (by decide) (by decide) _) (by decide) (by decide) _
        refine ⟨y1, y0, hy1', hy0', Nat.le_refl _, HT.out.2.1, HT.out.2.2, HP5.out.other hW hsz, by simp [go_sem, *], by simp [go_sem, *], fun j => by rw [hW.frozen]; exact HC5 j, Nat.lt_of_lt_of_le hS5 hW.size⟩

theorem isq_pos {n : Nat} (h : n ≠ 0) : isq n ≠ 0 := by
  intro e
  have := (isq_spec n).2
  rw [e] at this
  omega
theorem sqrt_upto (N : Nat) : ∀ a3 a2 a1 a0 : Int, Wd a3 → Wd a2 → Wd a1 → Wd a0 → v4 a3 a2 a1 a0 < N → ∀ W, Calls Try.prog 64 #[.agg #[.int .u64 a3, .int .u64 a2, .int .u64 a1, .int .u64 a0]] W fun e w' =>
      e = .returned (.agg #[.int .u64 (wd (isq (v4 a3 a2 a1 a0)) 1), .int .u64 (wd (isq (v4 a3 a2 a1 a0)) 0)]) ∧ Below W.heap.size W w' := by
  induction N with
  | zero => intro _ _ _ _ _ _ _ _ h; omega
  | succ N ih =>
    intro a3 a2 a1 a0 h3 h2 h1 h0 hN W
    have hA := v4_lt h3 h2 h1 h0
    by_cases hl : 64 < blen (v4 a3 a2 a1 a0)
    · have ha := abv_ok hA
      have hn : v4 a3 a2 a1 a0 ≠ 0 := fun e => by rw [e] at hl; simp [blen] at hl
      have ev := v2_wd (abv (v4 a3 a2 a1 a0))
      rw [Nat.mod_eq_of_lt ha.2.2] at ev
      exact sqrt_walk a3 a2 a1 a0 _ _ _ h3 h2 h1 h0 (by omega) (wd_wd _ 1) (wd_wd _ 0) (by rw [ev]; exact ha.1) (by rw [ev]; exact ha.2.1) (isq_pos hn) W
        (len_any a3 a2 a1 a0 h3 h2 h1 h0)
        (above_any a3 a2 a1 a0 h3 h2 h1 h0 hl (fun c3 c2 c1 c0 g3 g2 g1 g0 hc W' => ih c3 c2 c1 c0 g3 g2 g1 g0 (by omega) W'))
    · have hlt : v4 a3 a2 a1 a0 < 2 ^ 64 := Nat.lt_of_lt_of_le (blen_lt _) (Nat.pow_le_pow_right (by decide) (by omega))
      obtain ⟨_, _⟩ := h3; obtain ⟨_, _⟩ := h2; obtain ⟨_, _⟩ := h1
      have hlt2 := hlt
      unfold v4 v2 at hlt2
      obtain rfl : a3 = 0 := by omega
      obtain rfl : a2 = 0 := by omega
      obtain rfl : a1 = 0 := by omega
      have e : v4 0 0 0 a0 = a0.toNat := by unfold v4 v2; simp
      have hr : isq a0.toNat < 4294967296 := isq_lt (n := a0.toNat) (k := 4294967296) (by have := h0.1; have := h0.2; clear hlt hlt2 e ih hN hA; omega)
      rw [e, wd1, wd0, show isq a0.toNat / 18446744073709551616 % 18446744073709551616 = 0 by omega, show isq a0.toNat % 18446744073709551616 = isq a0.toNat by omega]
      exact sqrt_small a0 h0 W
theorem sqrt_any (a3 a2 a1 a0 : Int) (h3 : Wd a3) (h2 : Wd a2) (h1 : Wd a1) (h0 : Wd a0) (w : World) :
    Calls Try.prog 64 #[.agg #[.int .u64 a3, .int .u64 a2, .int .u64 a1, .int .u64 a0]] w fun e w' =>
      e = .returned (.agg #[.int .u64 (wd (isq (v4 a3 a2 a1 a0)) 1), .int .u64 (wd (isq (v4 a3 a2 a1 a0)) 0)]) ∧ Below w.heap.size w w' :=
  sqrt_upto _ a3 a2 a1 a0 h3 h2 h1 h0 (Nat.lt_succ_self _) w
end Go.Proofs.Ytmmlekgojblopaa
namespace Go.Proofs.Ytmmlekgojblopaa
open Go.ChangeShapes Go.WideShapes Go.ChangeAt Go.RowKit Go.Joins

theorem Try.own : ownKnob Try.prog.godebug = none := by kernel_rfl
theorem cells22 : Try.prog.cellsOf 22 = 1 := by kernel_rfl
theorem cells24 : Try.prog.cellsOf 62 = 2 := by kernel_rfl
theorem cells33 : Try.prog.cellsOf 67 = 4 := by kernel_rfl
theorem wd_of_wf {x : Int} (h : (Lit.int .u64 x).wf = true) : Wd x := by
  simp [Lit.wf, IntKind.min, IntKind.max, IntKind.signed, IntKind.bits] at h
  exact ⟨by omega, by omega⟩
theorem wf_of_wd {x : Int} (h : Wd x) : (Lit.int .u64 x).wf = true := by
  obtain ⟨h0, h1⟩ := h
  simp [Lit.wf, IntKind.min, IntKind.max, IntKind.signed, IntKind.bits]
  exact ⟨by omega, by omega⟩
section
variable {H : Type} {enc : TypeId × Value → H} {w : World} {base : Nat} {spare : Nat → Bool} {held : Bool}
set_option maxRecDepth 20000 in
theorem trod_two {n : Nat} {c0 c1 : Value} {y : DataW H × List MemPlace} (h : DataW.trod enc Try.prog w base spare held n 62 [c0, c1] = some y) :
    ∃ a1 a0 : Int, c0 = .int .u64 a1 ∧ c1 = .int .u64 a0 ∧ y = (.agg [.lit (.int .u64 a1), .lit (.int .u64 a0)], []) ∧ Wd a1 ∧ Wd a0 := by
  obtain ⟨y0, y1, m, rfl, _, h0, h1⟩ := trod_struct2 Try.underlying62 h
  obtain ⟨a, e0, rfl, wa⟩ := DataW.trod_int Try.underlying22 h0
  obtain ⟨b, e1, rfl, wb⟩ := DataW.trod_int Try.underlying22 h1
  simp [cells22] at e0 e1
  subst e0 e1
  exact ⟨a, b, rfl, rfl, rfl, wd_of_wf wa, wd_of_wf wb⟩
set_option maxRecDepth 20000 in
theorem trod_two_mk (n : Nat) {a1 a0 : Int} (h1 : Wd a1) (h0 : Wd a0) : DataW.trod enc Try.prog w base spare held (n + 2) 62 [.int .u64 a1, .int .u64 a0] = some (.agg [.lit (.int .u64 a1), .lit (.int .u64 a0)], []) := by
  have := trod_struct2_mk (enc := enc) (w := w) (base := base) (spare := spare) (held := held) (n := n + 1) (cs := [.int .u64 a1, .int .u64 a0]) (y0 := (.lit (.int .u64 a1), [])) (y1 := (.lit (.int .u64 a0), [])) Try.underlying62 (by simp [cells24])
    (by simpa [cells22] using trod_int_mk n Try.underlying22 (wf_of_wd h1)) (by simpa [cells22] using trod_int_mk n Try.underlying22 (wf_of_wd h0))
  simpa using this
set_option maxRecDepth 20000 in
theorem open_two {r : Reach} {b0 : Nat} {v : Value} {d : DataW H} {p : List MemPlace} (hv : Value.okWide Try.prog w r b0 62 v) (h : DataW.Trod enc Try.prog w base spare held 62 v d p) :
    ∃ a1 a0 : Int, v = .agg #[.int .u64 a1, .int .u64 a0] ∧ d = .agg [.lit (.int .u64 a1), .lit (.int .u64 a0)] ∧ p = [] ∧ Wd a1 ∧ Wd a0 := by
  obtain ⟨cs, rfl, hsz⟩ := okWide_struct Try.underlying62 hv
  obtain ⟨c0, c1, rfl⟩ := array2 (hsz.trans cells24)
  obtain ⟨fuel, hf⟩ := h
  obtain ⟨a1, a0, rfl, rfl, e, k1, k0⟩ := trod_two (by simpa [Value.cells] using hf)
  simp only [Prod.mk.injEq] at e
  exact ⟨a1, a0, rfl, e.1, e.2, k1, k0⟩
set_option maxRecDepth 20000 in
theorem shut_two {a1 a0 : Int} (h1 : Wd a1) (h0 : Wd a0) : DataW.Trod enc Try.prog w base spare held 62 (.agg #[.int .u64 a1, .int .u64 a0]) (.agg [.lit (.int .u64 a1), .lit (.int .u64 a0)]) [] :=
  ⟨2, by simpa [Value.cells] using trod_two_mk 0 h1 h0⟩
set_option maxRecDepth 20000 in
theorem open_four {r : Reach} {b0 : Nat} {v : Value} {d : DataW H} {p : List MemPlace} (hv : Value.okWide Try.prog w r b0 67 v) (h : DataW.Trod enc Try.prog w base spare held 67 v d p) :
    ∃ a3 a2 a1 a0 : Int, v = .agg #[.int .u64 a3, .int .u64 a2, .int .u64 a1, .int .u64 a0] ∧ d = .agg [.agg [.lit (.int .u64 a3), .lit (.int .u64 a2)], .agg [.lit (.int .u64 a1), .lit (.int .u64 a0)]] ∧ p = [] ∧ Wd a3 ∧ Wd a2 ∧ Wd a1 ∧ Wd a0 := by
  obtain ⟨cs, rfl, hsz⟩ := okWide_struct Try.underlying67 hv
  obtain ⟨c0, c1, c2, c3, rfl⟩ := array4 (hsz.trans cells33)
  obtain ⟨fuel, hf⟩ := h
  obtain ⟨y0, y1, m, e, _, g0, g1⟩ := trod_struct2 Try.underlying67 hf
  simp [Value.cells, cells24] at g0 g1
  obtain ⟨a3, a2, rfl, rfl, rfl, k3, k2⟩ := trod_two g0
  obtain ⟨a1, a0, rfl, rfl, rfl, k1, k0⟩ := trod_two g1
  simp only [Prod.mk.injEq] at e
  exact ⟨a3, a2, a1, a0, rfl, e.1, by simpa using e.2, k3, k2, k1, k0⟩
set_option maxRecDepth 20000 in
theorem shut_four {a3 a2 a1 a0 : Int} (h3 : Wd a3) (h2 : Wd a2) (h1 : Wd a1) (h0 : Wd a0) : DataW.Trod enc Try.prog w base spare held 67 (.agg #[.int .u64 a3, .int .u64 a2, .int .u64 a1, .int .u64 a0]) (.agg [.agg [.lit (.int .u64 a3), .lit (.int .u64 a2)], .agg [.lit (.int .u64 a1), .lit (.int .u64 a0)]]) [] := by
  have := trod_struct2_mk (enc := enc) (w := w) (base := base) (spare := spare) (held := held) (n := 2) (cs := [.int .u64 a3, .int .u64 a2, .int .u64 a1, .int .u64 a0]) (y0 := (.agg [.lit (.int .u64 a3), .lit (.int .u64 a2)], [])) (y1 := (.agg [.lit (.int .u64 a1), .lit (.int .u64 a0)], [])) Try.underlying67 (by simp [cells33])
    (by simpa [cells24] using trod_two_mk 0 h3 h2) (by simpa [cells24] using trod_two_mk 0 h1 h0)
  exact ⟨3, by simpa [Value.cells] using this⟩
end
/-- Whether two numbers are one: what the comparison of structs comes to. -/
theorem eq_two (a1 a0 b1 b0 : Int) (W : World) : (Go.binOp .eql 62 (.agg #[.int .u64 a1, .int .u64 a0]) (.agg #[.int .u64 b1, .int .u64 b0])).run Try.prog W = .ok (.bool (decide (a1 = b1 ∧ a0 = b0))) W := by
  by_cases c : a1 = b1 <;> by_cases d : a0 = b0 <;> simp [go_sem, *]
theorem eq_two_true (a1 a0 : Int) : ∀ W, (Go.binOp .eql 62 (.agg #[.int .u64 a1, .int .u64 a0]) (.agg #[.int .u64 a1, .int .u64 a0])).run Try.prog W = .ok (.bool true) W := fun W => by
  rw [eq_two]; simp
end Go.Proofs.Ytmmlekgojblopaa
namespace Go.Proofs.Ytmmlekgojblopaa
open Go.RowKit

/-- Block B holds these cells, one behind the other. -/
def Has (B : Nat) (l : List Value) (W : World) : Prop := B < W.heap.size ∧ ∀ (j : Nat) (x : Value), l[j]? = some x → W.cell? ⟨B, j, none⟩ = some x
theorem Has.step {B : Nat} {l : List Value} {W W' : World} (h : Has B l W) (g : Below W.heap.size W W') : Has B l W' :=
  ⟨Nat.lt_of_lt_of_le h.1 g.size, fun j x hx => by rw [(bcell g).1 _ _ h.1]; exact h.2 j x hx⟩
theorem Has.up {B : Nat} {l : List Value} {w0 W W' : World} (h : Has B l w0) (g : Below w0.heap.size w0 W) (k : Below W.heap.size W W') : Has B l W' := (h.step g).step k
theorem Has.mk2 {B : Nat} {x y : Value} {W : World} (h : B < W.heap.size) (h0 : W.cell? ⟨B, 0, none⟩ = some x) (h1 : W.cell? ⟨B, 1, none⟩ = some y) : Has B [x, y] W := by
  refine ⟨h, fun j v hv => ?_⟩
  match j, hv with
  | 0, hv => simp at hv; subst hv; exact h0
  | 1, hv => simp at hv; subst hv; exact h1
theorem Has.mk4 {B : Nat} {x y z t : Value} {W : World} (h : B < W.heap.size) (h0 : W.cell? ⟨B, 0, none⟩ = some x) (h1 : W.cell? ⟨B, 1, none⟩ = some y) (h2 : W.cell? ⟨B, 2, none⟩ = some z) (h3 : W.cell? ⟨B, 3, none⟩ = some t) : Has B [x, y, z, t] W := by
  refine ⟨h, fun j v hv => ?_⟩
  match j, hv with
  | 0, hv => simp at hv; subst hv; exact h0
  | 1, hv => simp at hv; subst hv; exact h1
  | 2, hv => simp at hv; subst hv; exact h2
  | 3, hv => simp at hv; subst hv; exact h3
theorem back_wd1 {a b : Nat} (_ : a < 340282366920938463463374607431768211456) (hb : b < 340282366920938463463374607431768211456) : wd ((a + b) % 340282366920938463463374607431768211456 + (340282366920938463463374607431768211456 - b)) 1 = wd a 1 := by
  rw [wd1, wd1]; omega
theorem back_wd0 {a b : Nat} (_ : a < 340282366920938463463374607431768211456) (hb : b < 340282366920938463463374607431768211456) : wd ((a + b) % 340282366920938463463374607431768211456 + (340282366920938463463374607431768211456 - b)) 0 = wd a 0 := by
  rw [wd0, wd0]; omega
end Go.Proofs.Ytmmlekgojblopaa
namespace Go.Proofs.Ytmmlekgojblopaa
open Go.RowKit

/-- Split, of the sum that stands there. -/
theorem split_at (x y : Int) (hx : Wd x) (e : x = y) (w : World) : Calls Try.prog 80 #[.int .u64 x] w (Split y w) := by rw [← e]; exact split_ex x hx w
theorem frozen?_drew (w : World) (a : Addr) : w.drew.frozen? a = w.frozen? a := rfl
/-- What Mul has laid ahead of its first call. -/
structure MulPro (w : World) (a1 a0 b1 b0 : Int) (W : World) : Prop where
  size : w.heap.size + 2 < W.heap.size
  below : Below w.heap.size w W
  ca0 : W.cell? ⟨w.heap.size, 0, none⟩ = some (.int .u64 a1)
  ca1 : W.cell? ⟨w.heap.size, 1, none⟩ = some (.int .u64 a0)
  cb0 : W.cell? ⟨w.heap.size + 1, 0, none⟩ = some (.int .u64 b1)
  cb1 : W.cell? ⟨w.heap.size + 1, 1, none⟩ = some (.int .u64 b0)
  cq0 : W.cell? ⟨w.heap.size + 2, 0, none⟩ = some (.int .u64 0)
  cq1 : W.cell? ⟨w.heap.size + 2, 1, none⟩ = some (.int .u64 0)
  cq2 : W.cell? ⟨w.heap.size + 2, 2, none⟩ = some (.int .u64 0)
  cq3 : W.cell? ⟨w.heap.size + 2, 3, none⟩ = some (.int .u64 0)
  zq : Clear (w.heap.size + 2) W
theorem MulPro.step {w : World} {a1 a0 b1 b0 : Int} {W W' : World} (h : MulPro w a1 a0 b1 b0 W) (g : Below W.heap.size W W') : MulPro w a1 a0 b1 b0 W' := by
  have hs := h.size
  have c := (bcell g).1
  refine ⟨Nat.lt_of_lt_of_le h.size g.size, bl_trans h.below g, ?_, ?_, ?_, ?_, ?_, ?_, ?_, ?_, fun j => ?_⟩
  · rw [c _ _ (by omega)]; exact h.ca0
  · rw [c _ _ (by omega)]; exact h.ca1
  · rw [c _ _ (by omega)]; exact h.cb0
  · rw [c _ _ (by omega)]; exact h.cb1
  · rw [c _ _ (by omega)]; exact h.cq0
  · rw [c _ _ (by omega)]; exact h.cq1
  · rw [c _ _ (by omega)]; exact h.cq2
  · rw [c _ _ (by omega)]; exact h.cq3
  · rw [(bcell g).2 _ _ (by omega)]; exact h.zq j
theorem MulPro.wrote {w : World} {a1 a0 b1 b0 : Int} {B o n : Nat} {W W' : World} (h : MulPro w a1 a0 b1 b0 W) (g : Wrote B o n W W') (hB : w.heap.size + 2 < B) : MulPro w a1 a0 b1 b0 W' := by
  have hs := h.size
  have c := fun b j (hb : b < W.heap.size) (hn : b ≠ B) => g.other (j := j) hb hn
  refine ⟨Nat.lt_of_lt_of_le h.size g.size, h.below.trans (g.below (B0 := w.heap.size) (by omega) (by omega)), ?_, ?_, ?_, ?_, ?_, ?_, ?_, ?_, fun j => ?_⟩
  · rw [c _ _ (by omega) (by omega)]; exact h.ca0
  · rw [c _ _ (by omega) (by omega)]; exact h.ca1
  · rw [c _ _ (by omega) (by omega)]; exact h.cb0
  · rw [c _ _ (by omega) (by omega)]; exact h.cb1
  · rw [c _ _ (by omega) (by omega)]; exact h.cq0
  · rw [c _ _ (by omega) (by omega)]; exact h.cq1
  · rw [c _ _ (by omega) (by omega)]; exact h.cq2
  · rw [c _ _ (by omega) (by omega)]; exact h.cq3
  · rw [World.frozen?_of_block (a := ⟨w.heap.size + 2, j, none⟩) (g.block (w.heap.size + 2) (by omega) (by omega))]; exact h.zq j
theorem MulPro.upto {w : World} {a1 a0 b1 b0 : Int} {W W' : World} (h : MulPro w a1 a0 b1 b0 W) (g : Below (w.heap.size + 3) W W') : MulPro w a1 a0 b1 b0 W' := by
  have c := fun j b (hb : b < w.heap.size + 3) => g.cell (p := ⟨b, j, none⟩) hb
  refine ⟨Nat.lt_of_lt_of_le h.size g.size, h.below.trans (g.mono (by omega)), ?_, ?_, ?_, ?_, ?_, ?_, ?_, ?_, fun j => ?_⟩
  · rw [c _ _ (by omega)]; exact h.ca0
  · rw [c _ _ (by omega)]; exact h.ca1
  · rw [c _ _ (by omega)]; exact h.cb0
  · rw [c _ _ (by omega)]; exact h.cb1
  · rw [c _ _ (by omega)]; exact h.cq0
  · rw [c _ _ (by omega)]; exact h.cq1
  · rw [c _ _ (by omega)]; exact h.cq2
  · rw [c _ _ (by omega)]; exact h.cq3
  · rw [g.frozen (p := ⟨w.heap.size + 2, j, none⟩) (by show w.heap.size + 2 < w.heap.size + 3; omega)]; exact h.zq j
def MulGot (V : Int) (w : World) (e : Ending) (w' : World) : Prop := ∃ r0 r1 r2 r3 r4 r5 r6 r7 : Int, Hf r0 ∧ Hf r1 ∧ Hf r2 ∧ Hf r3 ∧ Hf r4 ∧ Hf r5 ∧ Hf r6 ∧ Hf r7 ∧ hv4 r0 r1 r2 r3 + hv4 r4 r5 r6 r7 * 340282366920938463463374607431768211456 = V ∧
  e = .returned (.agg #[.int .u64 (r7 * 4294967296 + r6), .int .u64 (r5 * 4294967296 + r4), .int .u64 (r3 * 4294967296 + r2), .int .u64 (r1 * 4294967296 + r0)]) ∧ Below w.heap.size w w'
set_option maxHeartbeats 8000000 in
theorem mul_walk (a1 a0 b1 b0 x0 x1 x2 x3 y0 y1 y2 y3 : Int) (hx0 : Hf x0) (hx1 : Hf x1) (hx2 : Hf x2) (hx3 : Hf x3) (hy0 : Hf y0) (hy1 : Hf y1) (hy2 : Hf y2) (hy3 : Hf y3) (w : World)
    (C1 : ∀ W, Calls Try.prog 67 #[.agg #[.int .u64 a1, .int .u64 a0]] W fun e w' => e = .returned (.agg #[.int .u32 x0, .int .u32 x1, .int .u32 x2, .int .u32 x3]) ∧ Below W.heap.size W w')
    (C2 : ∀ W, Calls Try.prog 67 #[.agg #[.int .u64 b1, .int .u64 b0]] W fun e w' => e = .returned (.agg #[.int .u32 y0, .int .u32 y1, .int .u32 y2, .int .u32 y3]) ∧ Below W.heap.size W w') :
    Calls Try.prog 58 #[.agg #[.int .u64 a1, .int .u64 a0], .agg #[.int .u64 b1, .int .u64 b0]] w (MulGot (hv4 x0 x1 x2 x3 * hv4 y0 y1 y2 y3) w) := by
  have H1 := Lib.hid C1; have H2 := Lib.hid C2
  clear C1 C2
  obtain ⟨i0, i1, i2, i3⟩ := index4 (.int .u32 x0) (.int .u32 x1) (.int .u32 x2) (.int .u32 x3)
  obtain ⟨j0, j1, j2, j3⟩ := index4 (.int .u32 y0) (.int .u32 y1) (.int .u32 y2) (.int .u32 y3)
  go_enter Try.func58, Try.ntmps58
  go_wp2_with fail
  have P0 : MulPro w a1 a0 b1 b0 (((w.alloc (.cells #[.int .u64 a1, .int .u64 a0] 62)).alloc (.cells #[.int .u64 b1, .int .u64 b0] 62)).alloc (.cells #[.int .u64 0, .int .u64 0, .int .u64 0, .int .u64 0] 67)) := by
    refine ⟨by simp, by go_grown, ?_, ?_, ?_, ?_, ?_, ?_, ?_, ?_, fun j => ?_⟩
    all_goals first | (simp [go_sem]; done) | (simp [frozen?_alloc_cells, World.frozen?]; done)
  have HP0 := Lib.hid P0
  clear P0
  have l2 : ∀ n : Nat, n < n + 1 + 1 := fun n => by omega
  go_upto_region 1 with fail
  go_cut [5, 6] (fun s5 s6 wx => ∃ bx cx : Nat, s5 = .pointer (some ⟨bx, 0, none⟩) ∧ s6 = .pointer (some ⟨cx, 0, none⟩) ∧ Quad bx x0 x1 x2 x3 wx ∧ Quad cx y0 y1 y2 y3 wx ∧ MulPro w a1 a0 b1 b0 wx ∧ bx < wx.heap.size ∧ cx < wx.heap.size)
  case first =>
    go_region_held3 (fun w' => w'.cell? ⟨w.heap.size, 0, none⟩ = some (.int .u64 a1) ∧ w'.cell? ⟨w.heap.size, 1, none⟩ = some (.int .u64 a0) ∧ w'.cell? ⟨w.heap.size + 1, 0, none⟩ = some (.int .u64 b1) ∧ w'.cell? ⟨w.heap.size + 1, 1, none⟩ = some (.int .u64 b0)) (simp [*, go_sem])
      (first
        | (go_at_call 67; (with_reducible refine (H1.out _).mono ?_); rintro e w1 ⟨rfl, hb⟩; have HP1 := Lib.hid (HP0.out.step (bl_trans (by repeat (first | exact Below.refl _ _ | with_reducible refine bl_al ?_ _ | with_reducible apply Below.drew)) hb)); obtain ⟨hcl, hfr⟩ := bcell hb; have hsz := hb.size; (try simp at hsz); have c0 := HP1.out.ca0; have c1 := HP1.out.ca1; have c2 := HP1.out.cb0; have c3 := HP1.out.cb1; have s1 := HP1.out.size; have s2 : w.heap.size < w1.heap.size := (by omega); have s3 : w.heap.size + 1 < w1.heap.size := (by omega); have s4 : w.heap.size ≤ w1.heap.size := (by omega); (try have s5 : w.heap.size + 1 + 1 + 1 < w1.heap.size := (by omega)); (try have s6 : w.heap.size + 1 + 1 + 1 + 1 < w1.heap.size := (by omega)); clear hb)
        | (go_at_call 67; (with_reducible refine (H2.out _).mono ?_); rintro e w2 ⟨rfl, hb⟩; have HP2 := Lib.hid (HP1.out.step (bl_trans (by repeat (first | exact Below.refl _ _ | with_reducible refine bl_al ?_ _ | with_reducible apply Below.drew)) hb)); obtain ⟨hcl2, hfr2⟩ := bcell hb; have hsz2 := hb.size; (try simp at hsz2); have d0 := HP2.out.ca0; have d1 := HP2.out.ca1; have d2 := HP2.out.cb0; have d3 := HP2.out.cb1; have d4 := HP2.out.size; have d5 : w.heap.size < w2.heap.size := (by omega); have d6 : w.heap.size + 1 < w2.heap.size := (by omega); have d7 : w.heap.size ≤ w2.heap.size := (by omega); have d8 : w1.heap.size ≤ w2.heap.size := (by omega); (try have d9 : w1.heap.size < w2.heap.size := (by omega)); (try have d10 : w1.heap.size + 1 < w2.heap.size := (by omega)); (try have d11 : w.heap.size + 1 + 1 + 1 < w2.heap.size := (by omega)); (try have d12 : w.heap.size + 1 + 1 + 1 + 1 < w2.heap.size := (by omega)); clear hb))
    all_goals (rename_i hHeld; clear hHeld; go_wp2_with fail; go_meet; refine ⟨_, _, rfl, rfl, ?_, ?_, HP2.out.upto (by go_grown), by simp <;> omega, by simp <;> omega⟩ <;> (unfold Quad; simp [go_sem, *]))
  case rest =>
    obtain ⟨bx, cx, rfl, rfl, ⟨qx0, qx1, qx2, qx3⟩, ⟨qy0, qy1, qy2, qy3⟩, P, sx, sy⟩ := hcut
    have HP2 := Lib.hid P
    clear P HP0 H1 H2 l2
    have b_x0 := hx0.1; have b_x0' := hx0.2
    have b_x1 := hx1.1; have b_x1' := hx1.2
    have b_x2 := hx2.1; have b_x2' := hx2.2
    have b_x3 := hx3.1; have b_x3' := hx3.2
    have b_y0 := hy0.1; have b_y0' := hy0.2
    have b_y1 := hy1.1; have b_y1' := hy1.2
    have b_y2 := hy2.1; have b_y2' := hy2.2
    have b_y3 := hy3.1; have b_y3' := hy3.2
    have m00 := half_prod hx0 hy0; have m00' := m00.1; have m00'' := m00.2; have f00 : IntKind.u64.wrap (x0 * y0) = x0 * y0 := IntWalk.u64_in _ (by omega); clear m00
    have m01 := half_prod hx0 hy1; have m01' := m01.1; have m01'' := m01.2; have f01 : IntKind.u64.wrap (x0 * y1) = x0 * y1 := IntWalk.u64_in _ (by omega); clear m01
    have m02 := half_prod hx0 hy2; have m02' := m02.1; have m02'' := m02.2; have f02 : IntKind.u64.wrap (x0 * y2) = x0 * y2 := IntWalk.u64_in _ (by omega); clear m02
    have m03 := half_prod hx0 hy3; have m03' := m03.1; have m03'' := m03.2; have f03 : IntKind.u64.wrap (x0 * y3) = x0 * y3 := IntWalk.u64_in _ (by omega); clear m03
    have m10 := half_prod hx1 hy0; have m10' := m10.1; have m10'' := m10.2; have f10 : IntKind.u64.wrap (x1 * y0) = x1 * y0 := IntWalk.u64_in _ (by omega); clear m10
    have m11 := half_prod hx1 hy1; have m11' := m11.1; have m11'' := m11.2; have f11 : IntKind.u64.wrap (x1 * y1) = x1 * y1 := IntWalk.u64_in _ (by omega); clear m11
    have m12 := half_prod hx1 hy2; have m12' := m12.1; have m12'' := m12.2; have f12 : IntKind.u64.wrap (x1 * y2) = x1 * y2 := IntWalk.u64_in _ (by omega); clear m12
    have m13 := half_prod hx1 hy3; have m13' := m13.1; have m13'' := m13.2; have f13 : IntKind.u64.wrap (x1 * y3) = x1 * y3 := IntWalk.u64_in _ (by omega); clear m13
    have m20 := half_prod hx2 hy0; have m20' := m20.1; have m20'' := m20.2; have f20 : IntKind.u64.wrap (x2 * y0) = x2 * y0 := IntWalk.u64_in _ (by omega); clear m20
    have m21 := half_prod hx2 hy1; have m21' := m21.1; have m21'' := m21.2; have f21 : IntKind.u64.wrap (x2 * y1) = x2 * y1 := IntWalk.u64_in _ (by omega); clear m21
    have m22 := half_prod hx2 hy2; have m22' := m22.1; have m22'' := m22.2; have f22 : IntKind.u64.wrap (x2 * y2) = x2 * y2 := IntWalk.u64_in _ (by omega); clear m22
    have m23 := half_prod hx2 hy3; have m23' := m23.1; have m23'' := m23.2; have f23 : IntKind.u64.wrap (x2 * y3) = x2 * y3 := IntWalk.u64_in _ (by omega); clear m23
    have m30 := half_prod hx3 hy0; have m30' := m30.1; have m30'' := m30.2; have f30 : IntKind.u64.wrap (x3 * y0) = x3 * y0 := IntWalk.u64_in _ (by omega); clear m30
    have m31 := half_prod hx3 hy1; have m31' := m31.1; have m31'' := m31.2; have f31 : IntKind.u64.wrap (x3 * y1) = x3 * y1 := IntWalk.u64_in _ (by omega); clear m31
    have m32 := half_prod hx3 hy2; have m32' := m32.1; have m32'' := m32.2; have f32 : IntKind.u64.wrap (x3 * y2) = x3 * y2 := IntWalk.u64_in _ (by omega); clear m32
    have m33 := half_prod hx3 hy3; have m33' := m33.1; have m33'' := m33.2; have f33 : IntKind.u64.wrap (x3 * y3) = x3 * y3 := IntWalk.u64_in _ (by omega); clear m33
    go_wp2_with fail
    refine wp_loop_rounds 5 ?_
    rw [rounds_succ]; go_wp2_with fail
    refine wp_loop_rounds 5 ?_
    rw [rounds_succ]; go_wp2_with fail
    refine (split_ex _ ⟨by omega, by omega⟩ _).mono ?_
    rintro e wz ⟨r00, o00, rfl, hr00, ho00, E00, rfl⟩
    have lr00 := hr00.1; have ur00 := hr00.2; have lo00 := ho00.1; have uo00 := ho00.2
    go_wp2_with fail
    rw [rounds_succ]; go_wp2_with fail
    refine (split_ex _ ⟨by omega, by omega⟩ _).mono ?_
    rintro e wz ⟨r01, o01, rfl, hr01, ho01, E01, rfl⟩
    have lr01 := hr01.1; have ur01 := hr01.2; have lo01 := ho01.1; have uo01 := ho01.2
    clear lo00 uo00
    go_wp2_with fail
    rw [rounds_succ]; go_wp2_with fail
    refine (split_ex _ ⟨by omega, by omega⟩ _).mono ?_
    rintro e wz ⟨r02, o02, rfl, hr02, ho02, E02, rfl⟩
    have lr02 := hr02.1; have ur02 := hr02.2; have lo02 := ho02.1; have uo02 := ho02.2
    clear lo01 uo01
    go_wp2_with fail
    rw [rounds_succ]; go_wp2_with fail
    refine (split_ex _ ⟨by omega, by omega⟩ _).mono ?_
    rintro e wz ⟨r03, o03, rfl, hr03, ho03, E03, rfl⟩
    have lr03 := hr03.1; have ur03 := hr03.2; have lo03 := ho03.1; have uo03 := ho03.2
    clear lo02 uo02
    go_wp2_with fail
    rw [rounds_succ]; go_wp2_with fail
    rw [rounds_succ]; go_wp2_with fail
    refine wp_loop_rounds 5 ?_
    rw [rounds_succ]; go_wp2_with fail
    refine (split_ex _ ⟨by omega, by omega⟩ _).mono ?_
    rintro e wz ⟨r10, o10, rfl, hr10, ho10, E10, rfl⟩
    have lr10 := hr10.1; have ur10 := hr10.2; have lo10 := ho10.1; have uo10 := ho10.2
    clear lr01 ur01
    go_wp2_with fail
    rw [rounds_succ]; go_wp2_with fail
    refine (split_ex _ ⟨by omega, by omega⟩ _).mono ?_
    rintro e wz ⟨r11, o11, rfl, hr11, ho11, E11, rfl⟩
    have lr11 := hr11.1; have ur11 := hr11.2; have lo11 := ho11.1; have uo11 := ho11.2
    clear lr02 ur02
    clear lo10 uo10
    go_wp2_with fail
    rw [rounds_succ]; go_wp2_with fail
    refine (split_ex _ ⟨by omega, by omega⟩ _).mono ?_
    rintro e wz ⟨r12, o12, rfl, hr12, ho12, E12, rfl⟩
    have lr12 := hr12.1; have ur12 := hr12.2; have lo12 := ho12.1; have uo12 := ho12.2
    clear lr03 ur03
    clear lo11 uo11
    go_wp2_with fail
    rw [rounds_succ]; go_wp2_with fail
    refine (split_ex _ ⟨by omega, by omega⟩ _).mono ?_
    rintro e wz ⟨r13, o13, rfl, hr13, ho13, E13, rfl⟩
    have lr13 := hr13.1; have ur13 := hr13.2; have lo13 := ho13.1; have uo13 := ho13.2
    clear lo03 uo03
    clear lo12 uo12
    go_wp2_with fail
    rw [rounds_succ]; go_wp2_with fail
    rw [rounds_succ]; go_wp2_with fail
    refine wp_loop_rounds 5 ?_
    rw [rounds_succ]; go_wp2_with fail
    refine (split_ex _ ⟨by omega, by omega⟩ _).mono ?_
    rintro e wz ⟨r20, o20, rfl, hr20, ho20, E20, rfl⟩
    have lr20 := hr20.1; have ur20 := hr20.2; have lo20 := ho20.1; have uo20 := ho20.2
    clear lr11 ur11
    go_wp2_with fail
    rw [rounds_succ]; go_wp2_with fail
    refine (split_ex _ ⟨by omega, by omega⟩ _).mono ?_
    rintro e wz ⟨r21, o21, rfl, hr21, ho21, E21, rfl⟩
    have lr21 := hr21.1; have ur21 := hr21.2; have lo21 := ho21.1; have uo21 := ho21.2
    clear lr12 ur12
    clear lo20 uo20
    go_wp2_with fail
    rw [rounds_succ]; go_wp2_with fail
    refine (split_ex _ ⟨by omega, by omega⟩ _).mono ?_
    rintro e wz ⟨r22, o22, rfl, hr22, ho22, E22, rfl⟩
    have lr22 := hr22.1; have ur22 := hr22.2; have lo22 := ho22.1; have uo22 := ho22.2
    clear lr13 ur13
    clear lo21 uo21
    go_wp2_with fail
    rw [rounds_succ]; go_wp2_with fail
    refine (split_ex _ ⟨by omega, by omega⟩ _).mono ?_
    rintro e wz ⟨r23, o23, rfl, hr23, ho23, E23, rfl⟩
    have lr23 := hr23.1; have ur23 := hr23.2; have lo23 := ho23.1; have uo23 := ho23.2
    clear lo13 uo13
    clear lo22 uo22
    go_wp2_with fail
    rw [rounds_succ]; go_wp2_with fail
    rw [rounds_succ]; go_wp2_with fail
    refine wp_loop_rounds 5 ?_
    rw [rounds_succ]; go_wp2_with fail
    refine (split_ex _ ⟨by omega, by omega⟩ _).mono ?_
    rintro e wz ⟨r30, o30, rfl, hr30, ho30, E30, rfl⟩
    have lr30 := hr30.1; have ur30 := hr30.2; have lo30 := ho30.1; have uo30 := ho30.2
    clear lr21 ur21
    go_wp2_with fail
    rw [rounds_succ]; go_wp2_with fail
    refine (split_ex _ ⟨by omega, by omega⟩ _).mono ?_
    rintro e wz ⟨r31, o31, rfl, hr31, ho31, E31, rfl⟩
    have lr31 := hr31.1; have ur31 := hr31.2; have lo31 := ho31.1; have uo31 := ho31.2
    clear lr22 ur22
    clear lo30 uo30
    go_wp2_with fail
    rw [rounds_succ]; go_wp2_with fail
    refine (split_ex _ ⟨by omega, by omega⟩ _).mono ?_
    rintro e wz ⟨r32, o32, rfl, hr32, ho32, E32, rfl⟩
    have lr32 := hr32.1; have ur32 := hr32.2; have lo32 := ho32.1; have uo32 := ho32.2
    clear lr23 ur23
    clear lo31 uo31
    go_wp2_with fail
    rw [rounds_succ]; go_wp2_with fail
    refine (split_ex _ ⟨by omega, by omega⟩ _).mono ?_
    rintro e wz ⟨r33, o33, rfl, hr33, ho33, E33, rfl⟩
    have lr33 := hr33.1; have ur33 := hr33.2; have lo33 := ho33.1; have uo33 := ho33.2
    clear lo23 uo23
    clear lo32 uo32
    go_wp2_with fail
    rw [rounds_succ]; go_wp2_with fail
    rw [rounds_succ]; go_wp2_with fail
    refine (fourOf_any r00 r10 r20 r30 r31 r32 r33 o33 hr00 hr10 hr20 hr30 hr31 hr32 hr33 ho33 _).mono ?_
    rintro e w3 ⟨rfl, hb⟩
    have HP3 := Lib.hid (HP2.out.step (bl_trans (by repeat (first | exact Below.refl _ _ | with_reducible refine bl_al ?_ _ | with_reducible apply Below.drew)) hb))
    have t0 := HP3.out.cq0; have t1 := HP3.out.cq1; have t2 := HP3.out.cq2; have t3 := HP3.out.cq3; have tz := fun j => HP3.out.zq j
    clear hb
    clear f00 f01 f02 f03 f10 f11 f12 f13 f20 f21 f22 f23 f30 f31 f32 f33
    have fin := HP3.out.below
    dsimp only
    rename_i hK
    refine hK _ _ ?_
    go_step
    go_step
    go_step
    go_step
    go_step
    go_step
    go_step
    refine bodyPost_ret (by simp [results, Try.results58, go_sem, t0, t1, t2, t3]; try rfl) rfl ?_
    have R0 : hv4 r00 r01 r02 r03 + o03 * 340282366920938463463374607431768211456 = hv4 0 0 0 0 + x0 * hv4 y0 y1 y2 y3 := row_sum (o1 := o00) (o2 := o01) (o3 := o02) (by have := E00.out; omega) (by have := E01.out; omega) (by have := E02.out; omega) (by have := E03.out; omega)
    have R1 := row_sum E10.out E11.out E12.out E13.out
    have R2 := row_sum E20.out E21.out E22.out E23.out
    have R3 := row_sum E30.out E31.out E32.out E33.out
    have RS := rows_sum R0 R1 R2 R3
    have sz := HP3.out.size
    exact ⟨r00, r10, r20, r30, r31, r32, r33, o33, hr00, hr10, hr20, hr30, hr31, hr32, hr33, ho33, RS, rfl, Below.setCell (Below.setCell (Below.setCell (Below.setCell fin (by simp; omega) _) (by simp; omega) _) (by simp; omega) _) (by simp; omega) _⟩
end Go.Proofs.Ytmmlekgojblopaa
namespace Go.Proofs.Ytmmlekgojblopaa
open Go.RowKit

theorem mul_any (a1 a0 b1 b0 : Int) (ha1 : Wd a1) (ha0 : Wd a0) (hb1 : Wd b1) (hb0 : Wd b0) (w : World) :
    Calls Try.prog 58 #[.agg #[.int .u64 a1, .int .u64 a0], .agg #[.int .u64 b1, .int .u64 b0]] w fun e w' =>
      e = .returned (.agg #[.int .u64 (wd (v2 a1 a0 * v2 b1 b0) 3), .int .u64 (wd (v2 a1 a0 * v2 b1 b0) 2), .int .u64 (wd (v2 a1 a0 * v2 b1 b0) 1), .int .u64 (wd (v2 a1 a0 * v2 b1 b0) 0)]) ∧ Below w.heap.size w w' := by
  refine (mul_walk a1 a0 b1 b0 _ _ _ _ _ _ _ _ (hf_lo ha0) (hf_hi ha0) (hf_lo ha1) (hf_hi ha1) (hf_lo hb0) (hf_hi hb0) (hf_lo hb1) (hf_hi hb1) w (halves_any a1 a0 ha1 ha0) (halves_any b1 b0 hb1 hb0)).mono ?_
  rintro e w' ⟨r0, r1, r2, r3, r4, r5, r6, r7, h0, h1, h2, h3, h4, h5, h6, h7, hs, rfl, hb⟩
  rw [hv4_two ha1 ha0, hv4_two hb1 hb0, ← Int.natCast_mul] at hs
  obtain ⟨e3, e2, e1, e0⟩ := mul_words h0 h1 h2 h3 h4 h5 h6 h7 hs
  rw [e3, e2, e1, e0]
  exact ⟨rfl, hb⟩
theorem mul_lt {a1 a0 b1 b0 : Int} (ha1 : Wd a1) (ha0 : Wd a0) (hb1 : Wd b1) (hb0 : Wd b0) : v2 a1 a0 * v2 b1 b0 < 115792089237316195423570985008687907853269984665640564039457584007913129639936 :=
  Nat.mul_lt_mul'' (c := 340282366920938463463374607431768211456) (d := 340282366920938463463374607431768211456) (v2_lt ha1 ha0) (v2_lt hb1 hb0)
theorem v4_small {n : Nat} (h : n < 115792089237316195423570985008687907853269984665640564039457584007913129639936) : v4 (wd n 3) (wd n 2) (wd n 1) (wd n 0) = n := by rw [v4_wd]; exact Nat.mod_eq_of_lt h
end Go.Proofs.Ytmmlekgojblopaa
namespace Go.Proofs.Ytmmlekgojblopaa
open Go.RowKit

theorem bcell_drew {W w1 : World} (hb : Below W.drew.heap.size W.drew w1) : (∀ b o, b < W.heap.size → w1.cell? ⟨b, o, none⟩ = W.cell? ⟨b, o, none⟩) ∧ (∀ b o, b < W.heap.size → w1.frozen? ⟨b, o, none⟩ = W.frozen? ⟨b, o, none⟩) :=
  ⟨fun b o h => hb.cell (p := ⟨b, o, none⟩) h, fun b o h => hb.frozen (p := ⟨b, o, none⟩) h⟩
theorem ret_sum {a b a' b' : Int} {c c' : Bool} (h : a = a') (g : b = b') (k : c = c') : Ending.returned (.agg #[.int .u64 a, .int .u64 b, .bool c]) = .returned (.agg #[.int .u64 a', .int .u64 b', .bool c']) := by rw [h, g, k]
theorem name_world {P : World → Prop} (W : World) (h : ∀ W', W' = W → P W') : P W := h W rfl
theorem Has.mk3 {B : Nat} {x y z : Value} {W : World} (h : B < W.heap.size) (h0 : W.cell? ⟨B, 0, none⟩ = some x) (h1 : W.cell? ⟨B, 1, none⟩ = some y) (h2 : W.cell? ⟨B, 2, none⟩ = some z) : Has B [x, y, z] W := by
  refine ⟨h, fun j v hv => ?_⟩
  match j, hv with
  | 0, hv => simp at hv; subst hv; exact h0
  | 1, hv => simp at hv; subst hv; exact h1
  | 2, hv => simp at hv; subst hv; exact h2
set_option maxRecDepth 20000 in
set_option maxHeartbeats 4000000 in
theorem addTwo_0t (a1 a0 b1 b0 x y z : Int) (e1 : IntKind.u64.wrap (a0 + b0) = x) (hc : ¬ x < a0) (e2 : IntKind.u64.wrap (a1 + b1) = y) (ho : y < a1) (e3 : IntKind.u64.wrap y = z) (w : World) :
    Calls Try.prog 33 #[.agg #[.int .u64 a1, .int .u64 a0], .agg #[.int .u64 b1, .int .u64 b0]] w fun e w' => e = .returned (.agg #[.int .u64 z, .int .u64 x, .bool true]) ∧ Below w.heap.size w w' := by
  have d1 : decide (x < a0) = false := by simpa using hc
  have d2 : decide (y < a1) = true := by simpa using ho
  go_enter Try.func33, Try.ntmps33
  go_wp2_with fail
  go_returns
  exact ⟨rfl, bb⟩
set_option maxRecDepth 20000 in
set_option maxHeartbeats 4000000 in
theorem addTwo_0f (a1 a0 b1 b0 x y z : Int) (e1 : IntKind.u64.wrap (a0 + b0) = x) (hc : ¬ x < a0) (e2 : IntKind.u64.wrap (a1 + b1) = y) (ho : ¬ y < a1) (e3 : IntKind.u64.wrap y = z) (w : World) :
    Calls Try.prog 33 #[.agg #[.int .u64 a1, .int .u64 a0], .agg #[.int .u64 b1, .int .u64 b0]] w fun e w' => e = .returned (.agg #[.int .u64 z, .int .u64 x, .bool false]) ∧ Below w.heap.size w w' := by
  have d1 : decide (x < a0) = false := by simpa using hc
  have d2 : decide (y < a1) = false := by simpa using ho
  go_enter Try.func33, Try.ntmps33
  go_wp2_with fail
  go_returns
  exact ⟨rfl, bb⟩
set_option maxRecDepth 20000 in
set_option maxHeartbeats 4000000 in
theorem addTwo_1t (a1 a0 b1 b0 x y z : Int) (e1 : IntKind.u64.wrap (a0 + b0) = x) (hc : x < a0) (e2 : IntKind.u64.wrap (a1 + b1) = y) (ho : y < a1) (e3 : IntKind.u64.wrap (y + 1) = z) (w : World) :
    Calls Try.prog 33 #[.agg #[.int .u64 a1, .int .u64 a0], .agg #[.int .u64 b1, .int .u64 b0]] w fun e w' => e = .returned (.agg #[.int .u64 z, .int .u64 x, .bool true]) ∧ Below w.heap.size w w' := by
  have d1 : decide (x < a0) = true := by simpa using hc
  have d2 : decide (y < a1) = true := by simpa using ho
  go_enter Try.func33, Try.ntmps33
  go_wp2_with fail
  go_returns
  exact ⟨rfl, bb⟩
set_option maxRecDepth 20000 in
set_option maxHeartbeats 4000000 in
theorem addTwo_1f (a1 a0 b1 b0 x y z : Int) (q : Bool) (e1 : IntKind.u64.wrap (a0 + b0) = x) (hc : x < a0) (e2 : IntKind.u64.wrap (a1 + b1) = y) (ho : ¬ y < a1) (e3 : IntKind.u64.wrap (y + 1) = z) (e4 : (z == 0) = q) (w : World) :
    Calls Try.prog 33 #[.agg #[.int .u64 a1, .int .u64 a0], .agg #[.int .u64 b1, .int .u64 b0]] w fun e w' => e = .returned (.agg #[.int .u64 z, .int .u64 x, .bool q]) ∧ Below w.heap.size w w' := by
  have d1 : decide (x < a0) = true := by simpa using hc
  have d2 : decide (y < a1) = false := by simpa using ho
  go_enter Try.func33, Try.ntmps33
  go_wp2_with fail
  go_returns
  exact ⟨rfl, bb⟩
theorem addTwo_any (a1 a0 b1 b0 : Int) (ha1 : Wd a1) (ha0 : Wd a0) (hb1 : Wd b1) (hb0 : Wd b0) (w : World) :
    Calls Try.prog 33 #[.agg #[.int .u64 a1, .int .u64 a0], .agg #[.int .u64 b1, .int .u64 b0]] w fun e w' =>
      e = .returned (.agg #[.int .u64 (wd (v2 a1 a0 + v2 b1 b0) 1), .int .u64 (wd (v2 a1 a0 + v2 b1 b0) 0), .bool (decide (340282366920938463463374607431768211456 ≤ v2 a1 a0 + v2 b1 b0))]) ∧ Below w.heap.size w w' := by
  obtain ⟨p0, p1⟩ := ha1; obtain ⟨p2, p3⟩ := ha0; obtain ⟨p4, p5⟩ := hb1; obtain ⟨p6, p7⟩ := hb0
  have r0 : wd (v2 a1 a0 + v2 b1 b0) 0 = IntKind.u64.wrap (a0 + b0) := by rw [wrap_u64, wd0]; unfold v2; omega
  by_cases c : IntKind.u64.wrap (a0 + b0) < a0
  · have r1 : wd (v2 a1 a0 + v2 b1 b0) 1 = IntKind.u64.wrap (IntKind.u64.wrap (a1 + b1) + 1) := by rw [wrap_u64] at c; rw [wrap_u64, wrap_u64, wd1]; unfold v2; omega
    by_cases o : IntKind.u64.wrap (a1 + b1) < a1
    · rw [r0, r1, decide_eq_true (by rw [wrap_u64] at c o; unfold v2; omega)]
      exact addTwo_1t _ _ _ _ _ _ _ rfl c rfl o rfl w
    · rw [r0, r1, show decide (340282366920938463463374607431768211456 ≤ v2 a1 a0 + v2 b1 b0) = (IntKind.u64.wrap (IntKind.u64.wrap (a1 + b1) + 1) == 0) by
        rw [Bool.eq_iff_iff, decide_eq_true_eq, beq_iff_eq]; rw [wrap_u64] at c o; rw [wrap_u64, wrap_u64]; unfold v2; omega]
      exact addTwo_1f _ _ _ _ _ _ _ _ rfl c rfl o rfl rfl w
  · have r1 : wd (v2 a1 a0 + v2 b1 b0) 1 = IntKind.u64.wrap (IntKind.u64.wrap (a1 + b1)) := by rw [wrap_u64] at c; rw [wrap_u64, wrap_u64, wd1]; unfold v2; omega
    by_cases o : IntKind.u64.wrap (a1 + b1) < a1
    · rw [r0, r1, decide_eq_true (by rw [wrap_u64] at c o; unfold v2; omega)]
      exact addTwo_0t _ _ _ _ _ _ _ rfl c rfl o rfl w
    · rw [r0, r1, decide_eq_false (by rw [wrap_u64] at c o; unfold v2; omega)]
      exact addTwo_0f _ _ _ _ _ _ _ rfl c rfl o rfl w
set_option maxRecDepth 20000 in
set_option maxHeartbeats 4000000 in
theorem less_lt (a1 a0 b1 b0 : Int) (h : a1 < b1) (w : World) :
    Calls Try.prog 51 #[.agg #[.int .u64 a1, .int .u64 a0], .agg #[.int .u64 b1, .int .u64 b0]] w fun e w' => e = .returned (.bool true) ∧ Below w.heap.size w w' := by
  have d1 : decide (a1 < b1) = true := by simpa using h
  go_enter Try.func51, Try.ntmps51
  go_wp2_with fail
  go_returns
  exact ⟨rfl, bb⟩
set_option maxRecDepth 20000 in
set_option maxHeartbeats 4000000 in
theorem less_eq (a1 a0 b1 b0 : Int) (q : Bool) (h : a1 = b1) (e : decide (a0 < b0) = q) (w : World) :
    Calls Try.prog 51 #[.agg #[.int .u64 a1, .int .u64 a0], .agg #[.int .u64 b1, .int .u64 b0]] w fun e w' => e = .returned (.bool q) ∧ Below w.heap.size w w' := by
  subst h
  have d1 : decide (a1 < a1) = false := by simp
  go_enter Try.func51, Try.ntmps51
  go_wp2_with fail
  go_returns
  exact ⟨rfl, bb⟩
set_option maxRecDepth 20000 in
set_option maxHeartbeats 4000000 in
theorem less_gt (a1 a0 b1 b0 : Int) (h : b1 < a1) (w : World) :
    Calls Try.prog 51 #[.agg #[.int .u64 a1, .int .u64 a0], .agg #[.int .u64 b1, .int .u64 b0]] w fun e w' => e = .returned (.bool false) ∧ Below w.heap.size w w' := by
  have d1 : decide (a1 < b1) = false := by simp; omega
  have d2 : (a1 == b1) = false := by simp; omega
  go_enter Try.func51, Try.ntmps51
  go_wp2_with fail
  go_returns
  exact ⟨rfl, bb⟩
theorem less_any (a1 a0 b1 b0 : Int) (ha1 : Wd a1) (ha0 : Wd a0) (hb1 : Wd b1) (hb0 : Wd b0) (w : World) :
    Calls Try.prog 51 #[.agg #[.int .u64 a1, .int .u64 a0], .agg #[.int .u64 b1, .int .u64 b0]] w fun e w' => e = .returned (.bool (decide (v2 a1 a0 < v2 b1 b0))) ∧ Below w.heap.size w w' := by
  obtain ⟨p0, p1⟩ := ha1; obtain ⟨p2, p3⟩ := ha0; obtain ⟨p4, p5⟩ := hb1; obtain ⟨p6, p7⟩ := hb0
  rcases (show a1 < b1 ∨ a1 = b1 ∨ b1 < a1 by omega) with h | h | h
  · rw [decide_eq_true (show v2 a1 a0 < v2 b1 b0 by unfold v2; omega)]; exact less_lt _ _ _ _ h w
  · rw [show decide (v2 a1 a0 < v2 b1 b0) = decide (a0 < b0) by rw [decide_eq_decide]; unfold v2; omega]; exact less_eq _ _ _ _ _ h rfl w
  · rw [decide_eq_false (show ¬ v2 a1 a0 < v2 b1 b0 by unfold v2; omega)]; exact less_gt _ _ _ _ h w
set_option maxRecDepth 20000 in
set_option maxHeartbeats 4000000 in
theorem subTwo_0 (a1 a0 b1 b0 x y z : Int) (q : Bool) (hc : ¬ a0 < b0) (e1 : IntKind.u64.wrap (a1 - b1) = x) (e2 : IntKind.u64.wrap x = y) (e3 : IntKind.u64.wrap (a0 - b0) = z) (w : World)
    (C1 : Ct 51 #[.agg #[.int .u64 a1, .int .u64 a0], .agg #[.int .u64 b1, .int .u64 b0]] (.bool q)) :
    Calls Try.prog 30 #[.agg #[.int .u64 a1, .int .u64 a0], .agg #[.int .u64 b1, .int .u64 b0]] w fun e w' => e = .returned (.agg #[.int .u64 y, .int .u64 z, .bool q]) ∧ Below w.heap.size w w' := by
  have K1 := Lib.hid C1
  clear C1
  have d1 : decide (a0 < b0) = false := by simpa using hc
  clear hc
  go_enter Try.func30, Try.ntmps30
  go_upto_region 4 with fail
  go_region_held3 (fun w' => w'.cell? ⟨w.heap.size, 0, none⟩ = some (.int .u64 a1) ∧ w'.cell? ⟨w.heap.size, 1, none⟩ = some (.int .u64 a0) ∧ w'.cell? ⟨w.heap.size + 1, 0, none⟩ = some (.int .u64 b1) ∧ w'.cell? ⟨w.heap.size + 1, 1, none⟩ = some (.int .u64 b0)) (first | (simp [*, go_sem]; done) | (simp [*, go_sem, World.cell?_alloc_past]; done))
    (first
      | (go_at_call 51; (with_reducible refine (K1.out _).mono ?_); rintro e w1 ⟨rfl, hb⟩; (first | (with_reducible (obtain ⟨hclw1, hfrw1⟩ := bcell_drew hb)) | (obtain ⟨hclw1, hfrw1⟩ := bcell hb)); obtain ⟨zw1_a, yw1_a, yyw1_a⟩ := sz3 (B := w.heap.size) hb; obtain ⟨zw1_b, yw1_b, yyw1_b⟩ := sz3 (B := w.heap.size + 1) hb; obtain ⟨zw1_r, yw1_r, yyw1_r⟩ := sz3 (B := w.heap.size + 1 + 1) hb; (try have sw1_0 := sz (B := w.heap.size + 1 + 1 + 1) hb); (try have stw1_0 := sz (B := w.heap.size + 1 + 1 + 1 + 1) hb); obtain ⟨sxw1_0, syw1_0⟩ := szx (b := w.heap.size + 1 + 1 + 1) hb; have HBw1 := hbw (a := w) hb; clear hb; clear K1))
  rename_i hHeld
  clear hHeld
  go_wp2_with fail
  refine bodyPost_ret (by simp [results, Try.results30, go_sem, *]; try rfl) rfl ?_
  exact ⟨rfl, bb⟩
set_option maxRecDepth 20000 in
set_option maxHeartbeats 4000000 in
theorem subTwo_1 (a1 a0 b1 b0 x y z : Int) (q : Bool) (hc : a0 < b0) (e1 : IntKind.u64.wrap (a1 - b1) = x) (e2 : IntKind.u64.wrap (x - 1) = y) (e3 : IntKind.u64.wrap (a0 - b0) = z) (w : World)
    (C1 : Ct 51 #[.agg #[.int .u64 a1, .int .u64 a0], .agg #[.int .u64 b1, .int .u64 b0]] (.bool q)) :
    Calls Try.prog 30 #[.agg #[.int .u64 a1, .int .u64 a0], .agg #[.int .u64 b1, .int .u64 b0]] w fun e w' => e = .returned (.agg #[.int .u64 y, .int .u64 z, .bool q]) ∧ Below w.heap.size w w' := by
  have K1 := Lib.hid C1
  clear C1
  have d1 : decide (a0 < b0) = true := by simpa using hc
  clear hc
  go_enter Try.func30, Try.ntmps30
  go_upto_region 4 with fail
  go_region_held3 (fun w' => w'.cell? ⟨w.heap.size, 0, none⟩ = some (.int .u64 a1) ∧ w'.cell? ⟨w.heap.size, 1, none⟩ = some (.int .u64 a0) ∧ w'.cell? ⟨w.heap.size + 1, 0, none⟩ = some (.int .u64 b1) ∧ w'.cell? ⟨w.heap.size + 1, 1, none⟩ = some (.int .u64 b0)) (first | (simp [*, go_sem]; done) | (simp [*, go_sem, World.cell?_alloc_past]; done))
    (first
      | (go_at_call 51; (with_reducible refine (K1.out _).mono ?_); rintro e w1 ⟨rfl, hb⟩; (first | (with_reducible (obtain ⟨hclw1, hfrw1⟩ := bcell_drew hb)) | (obtain ⟨hclw1, hfrw1⟩ := bcell hb)); obtain ⟨zw1_a, yw1_a, yyw1_a⟩ := sz3 (B := w.heap.size) hb; obtain ⟨zw1_b, yw1_b, yyw1_b⟩ := sz3 (B := w.heap.size + 1) hb; obtain ⟨zw1_r, yw1_r, yyw1_r⟩ := sz3 (B := w.heap.size + 1 + 1) hb; (try have sw1_0 := sz (B := w.heap.size + 1 + 1 + 1) hb); (try have stw1_0 := sz (B := w.heap.size + 1 + 1 + 1 + 1) hb); obtain ⟨sxw1_0, syw1_0⟩ := szx (b := w.heap.size + 1 + 1 + 1) hb; have HBw1 := hbw (a := w) hb; clear hb; clear K1))
  rename_i hHeld
  clear hHeld
  go_wp2_with fail
  refine bodyPost_ret (by simp [results, Try.results30, go_sem, *]; try rfl) rfl ?_
  exact ⟨rfl, bb⟩
theorem subTwo_any (a1 a0 b1 b0 : Int) (ha1 : Wd a1) (ha0 : Wd a0) (hb1 : Wd b1) (hb0 : Wd b0) (w : World) :
    Calls Try.prog 30 #[.agg #[.int .u64 a1, .int .u64 a0], .agg #[.int .u64 b1, .int .u64 b0]] w fun e w' =>
      e = .returned (.agg #[.int .u64 (wd (v2 a1 a0 + (340282366920938463463374607431768211456 - v2 b1 b0)) 1), .int .u64 (wd (v2 a1 a0 + (340282366920938463463374607431768211456 - v2 b1 b0)) 0), .bool (decide (v2 a1 a0 < v2 b1 b0))]) ∧ Below w.heap.size w w' := by
  have L := less_any a1 a0 b1 b0 ha1 ha0 hb1 hb0
  have hv := v2_lt hb1 hb0
  obtain ⟨p0, p1⟩ := ha1; obtain ⟨p2, p3⟩ := ha0; obtain ⟨p4, p5⟩ := hb1; obtain ⟨p6, p7⟩ := hb0
  have r0 : wd (v2 a1 a0 + (340282366920938463463374607431768211456 - v2 b1 b0)) 0 = IntKind.u64.wrap (a0 - b0) := by rw [wrap_u64, wd0]; unfold v2 at *; omega
  by_cases c : a0 < b0
  · have r1 : wd (v2 a1 a0 + (340282366920938463463374607431768211456 - v2 b1 b0)) 1 = IntKind.u64.wrap (IntKind.u64.wrap (a1 - b1) - 1) := by rw [wrap_u64, wrap_u64, wd1]; unfold v2 at *; omega
    rw [r0, r1]
    exact subTwo_1 _ _ _ _ _ _ _ _ c rfl rfl rfl w L
  · have r1 : wd (v2 a1 a0 + (340282366920938463463374607431768211456 - v2 b1 b0)) 1 = IntKind.u64.wrap (IntKind.u64.wrap (a1 - b1)) := by rw [wrap_u64, wrap_u64, wd1]; unfold v2 at *; omega
    rw [r0, r1]
    exact subTwo_0 _ _ _ _ _ _ _ _ c rfl rfl rfl w L
end Go.Proofs.Ytmmlekgojblopaa
namespace Go.Proofs.Ytmmlekgojblopaa
open Go.RowKit

set_option maxRecDepth 20000 in
set_option maxHeartbeats 4000000 in
theorem product_core (a b x0 x1 y0 y1 l m1 l1 X m2 X0 Y m3 Xh h Yh H S l0 L : Int) (e1 : bits .and .u64 a 4294967295 = x0) (e2 : a / 4294967296 = x1) (e3 : bits .and .u64 b 4294967295 = y0) (e4 : b / 4294967296 = y1) (e5 : IntKind.u64.wrap (x0 * y0) = l) (e6 : IntKind.u64.wrap (x1 * y0) = m1) (e7 : l / 4294967296 = l1) (e8 : IntKind.u64.wrap (m1 + l1) = X) (e9 : IntKind.u64.wrap (x0 * y1) = m2) (e10 : bits .and .u64 X 4294967295 = X0) (e11 : IntKind.u64.wrap (m2 + X0) = Y) (e12 : IntKind.u64.wrap (x1 * y1) = m3) (e13 : X / 4294967296 = Xh) (e14 : IntKind.u64.wrap (m3 + Xh) = h) (e15 : Y / 4294967296 = Yh) (e16 : IntKind.u64.wrap (h + Yh) = H) (e17 : IntKind.u64.wrap (Y * 4294967296) = S) (e18 : bits .and .u64 l 4294967295 = l0) (e19 : bits .or .u64 S l0 = L) (w : World) :
    Calls Try.prog 76 #[.int .u64 a, .int .u64 b] w fun e w' => e = .returned (.agg #[.int .u64 H, .int .u64 L]) ∧ Below w.heap.size w w' := by
  go_enter Try.func76, Try.ntmps76
  go_wp2_with fail
  go_returns
  exact ⟨rfl, bb⟩
theorem u64_low (x : Int) (h : Wd x) : bits .and .u64 x 4294967295 = x % 4294967296 := bits_mask .u64 64 (by decide) (fun n h0 h1 => IntWalk.u64_in n (by omega)) 32 (by decide) x h.1 h.2
theorem prod_nat {a0 a1 b0 b1 : Nat} (h0 : a0 < 4294967296) (h1 : a1 < 4294967296) (h2 : b0 < 4294967296) (h3 : b1 < 4294967296) :
    (a1 * 4294967296 + a0) * (b1 * 4294967296 + b0) = a1 * b1 * 18446744073709551616 + (a1 * b0 + a0 * b1) * 4294967296 + a0 * b0 ∧ a0 * b0 ≤ 18446744065119617025 ∧ a1 * b0 ≤ 18446744065119617025 ∧ a0 * b1 ≤ 18446744065119617025 ∧ a1 * b1 ≤ 18446744065119617025 := by
  have k : ∀ {x y : Nat}, x < 4294967296 → y < 4294967296 → x * y ≤ 18446744065119617025 := fun hx hy => Nat.le_trans (Nat.mul_le_mul (show _ ≤ 4294967295 by omega) (show _ ≤ 4294967295 by omega)) (by decide)
  refine ⟨?_, k h0 h2, k h1 h2, k h0 h3, k h1 h3⟩
  rw [Nat.add_mul, Nat.mul_add, Nat.mul_add, Nat.add_mul, Nat.mul_right_comm a1 4294967296 (b1 * 4294967296), ← Nat.mul_assoc a1 b1, Nat.mul_assoc (a1 * b1), Nat.mul_right_comm a1 4294967296 b0, ← Nat.mul_assoc a0 b1]
  omega
theorem product_any (a b : Int) (ha : Wd a) (hb : Wd b) (w : World) :
    Calls Try.prog 76 #[.int .u64 a, .int .u64 b] w fun e w' => e = .returned (.agg #[.int .u64 (wd (a.toNat * b.toNat) 1), .int .u64 (wd (a.toNat * b.toNat) 0)]) ∧ Below w.heap.size w w' := by
  obtain ⟨A, rfl⟩ := Int.eq_ofNat_of_zero_le ha.1
  obtain ⟨B, rfl⟩ := Int.eq_ofNat_of_zero_le hb.1
  have hA := ha.2; have hB := hb.2
  rw [Int.toNat_natCast, Int.toNat_natCast]
  have hp := prod_nat (a0 := A % 4294967296) (a1 := A / 4294967296) (b0 := B % 4294967296) (b1 := B / 4294967296) (by omega) (by omega) (by omega) (by omega)
  rw [show A / 4294967296 * 4294967296 + A % 4294967296 = A by omega, show B / 4294967296 * 4294967296 + B % 4294967296 = B by omega] at hp
  obtain ⟨hs, b00, b10, b01, b11⟩ := hp
  have c00 : ((A : Int) % 4294967296) * ((B : Int) % 4294967296) = ((A % 4294967296 * (B % 4294967296) : Nat) : Int) := by simp
  have c10 : ((A : Int) / 4294967296) * ((B : Int) % 4294967296) = ((A / 4294967296 * (B % 4294967296) : Nat) : Int) := by simp
  have c01 : ((A : Int) % 4294967296) * ((B : Int) / 4294967296) = ((A % 4294967296 * (B / 4294967296) : Nat) : Int) := by simp
  have c11 : ((A : Int) / 4294967296) * ((B : Int) / 4294967296) = ((A / 4294967296 * (B / 4294967296) : Nat) : Int) := by simp
  generalize A % 4294967296 * (B % 4294967296) = p00 at *
  generalize A / 4294967296 * (B % 4294967296) = p10 at *
  generalize A % 4294967296 * (B / 4294967296) = p01 at *
  generalize A / 4294967296 * (B / 4294967296) = p11 at *
  have W : ∀ n : Nat, n < 18446744073709551616 → IntKind.u64.wrap (n : Int) = n := fun n hn => IntWalk.u64_in _ (by omega)
  have L : ∀ n : Nat, n < 18446744073709551616 → bits .and .u64 (n : Int) 4294967295 = ((n % 4294967296 : Nat) : Int) := fun n hn => by rw [u64_low _ ⟨by omega, by omega⟩]; omega
  have o1 : wd (A * B) 1 = ((p11 + (p10 + p00 / 4294967296) / 4294967296 + (p01 + (p10 + p00 / 4294967296) % 4294967296) / 4294967296 : Nat) : Int) := by rw [wd1, hs]; omega
  have o0 : wd (A * B) 0 = (((p01 + (p10 + p00 / 4294967296) % 4294967296) % 4294967296 * 4294967296 + p00 % 4294967296 : Nat) : Int) := by rw [wd0, hs]; omega
  rw [o1, o0]
  refine product_core _ _ ((A : Int) % 4294967296) ((A : Int) / 4294967296) ((B : Int) % 4294967296) ((B : Int) / 4294967296) p00 p10 ((p00 / 4294967296 : Nat) : Int) ((p10 + p00 / 4294967296 : Nat) : Int) p01 (((p10 + p00 / 4294967296) % 4294967296 : Nat) : Int) ((p01 + (p10 + p00 / 4294967296) % 4294967296 : Nat) : Int) p11 (((p10 + p00 / 4294967296) / 4294967296 : Nat) : Int) ((p11 + (p10 + p00 / 4294967296) / 4294967296 : Nat) : Int) (((p01 + (p10 + p00 / 4294967296) % 4294967296) / 4294967296 : Nat) : Int) _ (((p01 + (p10 + p00 / 4294967296) % 4294967296) % 4294967296 * 4294967296 : Nat) : Int) ((p00 % 4294967296 : Nat) : Int) _ ?_ rfl ?_ rfl ?_ ?_ ?_ ?_ ?_ ?_ ?_ ?_ ?_ ?_ ?_ ?_ ?_ ?_ ?_ w
  · exact u64_low _ ha
  · exact u64_low _ hb
  · rw [c00]; exact W _ (by omega)
  · rw [c10]; exact W _ (by omega)
  · omega
  · rw [← Int.natCast_add]; exact W _ (by omega)
  · rw [c01]; exact W _ (by omega)
  · exact L _ (by omega)
  · rw [← Int.natCast_add]; exact W _ (by omega)
  · rw [c11]; exact W _ (by omega)
  · omega
  · rw [← Int.natCast_add]; exact W _ (by omega)
  · omega
  · rw [← Int.natCast_add]; exact W _ (by omega)
  · rw [wrap_u64]; generalize p01 + (p10 + p00 / 4294967296) % 4294967296 = Y; omega
  · exact L _ (by omega)
  · have j := bits_join .u64 64 (by decide) (fun n h0 h1 => IntWalk.u64_in n (by omega)) 32 (((p01 + (p10 + p00 / 4294967296) % 4294967296) % 4294967296 * 4294967296 : Nat) : Int) ((p00 % 4294967296 : Nat) : Int) (by omega) (by omega) (by omega) (by omega) (by omega) (by omega)
    rw [Int.natCast_add]; exact j
end Go.Proofs.Ytmmlekgojblopaa
