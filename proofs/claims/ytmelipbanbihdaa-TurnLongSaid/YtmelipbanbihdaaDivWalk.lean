/- Div: its walk. -/
import Derived.Test.YtmelipbanbihdaaDivPre
namespace Go.Proofs.Ytmelipbanbihdaa
open Go.RowKit

theorem Wrote.undrew {B o n : Nat} {w w' : World} (h : Wrote B o n w.drew w') : Wrote B o n w w' := ⟨h.os, h.tape, h.output, h.size, h.block, h.cells, h.frozen⟩
theorem Twelve.other {B o n b : Nat} {x0 x1 x2 x3 x4 x5 x6 x7 x8 x9 x10 x11 : Int} {w w' : World} (h : Twelve b x0 x1 x2 x3 x4 x5 x6 x7 x8 x9 x10 x11 w) (hw : Wrote B o n w w') (hb : b < w.heap.size) (hn : b ≠ B) : Twelve b x0 x1 x2 x3 x4 x5 x6 x7 x8 x9 x10 x11 w' := by
  obtain ⟨c0, c1, c2, c3, c4, c5, c6, c7, c8, c9, c10, c11⟩ := h
  refine ⟨?_, ?_, ?_, ?_, ?_, ?_, ?_, ?_, ?_, ?_, ?_, ?_⟩ <;> (rw [hw.other hb hn]; assumption)
theorem DivPro.wrote {w : World} {a3 a2 a1 a0 b1 b0 : Int} {B o n : Nat} {W W' : World} (h : DivPro w a3 a2 a1 a0 b1 b0 W) (g : Wrote B o n W W') (hB : w.heap.size + 3 < B) : DivPro w a3 a2 a1 a0 b1 b0 W' := by
  have hs := h.size
  have c := fun b j (hb : b < W.heap.size) (hn : b ≠ B) => g.other (j := j) hb hn
  have f := fun b j (hb : b < W.heap.size) (hn : b ≠ B) => World.frozen?_of_block (a := ⟨b, j, none⟩) (g.block b hb hn)
  refine ⟨Nat.lt_of_lt_of_le h.size g.size, h.below.trans (g.below (by omega) (by omega)), ?_, ?_, ?_, ?_, ?_, ?_, ?_, ?_, ?_, ?_, ?_, ?_, fun j => ?_, fun j => ?_⟩
  · rw [c _ _ (by omega) (by omega)]; exact h.ca0
  · rw [c _ _ (by omega) (by omega)]; exact h.ca1
  · rw [c _ _ (by omega) (by omega)]; exact h.ca2
  · rw [c _ _ (by omega) (by omega)]; exact h.ca3
  · rw [c _ _ (by omega) (by omega)]; exact h.cb0
  · rw [c _ _ (by omega) (by omega)]; exact h.cb1
  · rw [c _ _ (by omega) (by omega)]; exact h.cq0
  · rw [c _ _ (by omega) (by omega)]; exact h.cq1
  · rw [c _ _ (by omega) (by omega)]; exact h.cq2
  · rw [c _ _ (by omega) (by omega)]; exact h.cq3
  · rw [c _ _ (by omega) (by omega)]; exact h.cr0
  · rw [c _ _ (by omega) (by omega)]; exact h.cr1
  · rw [f _ _ (by omega) (by omega)]; exact h.zq j
  · rw [f _ _ (by omega) (by omega)]; exact h.zr j
theorem Eight.set0 {B : Nat} {x0 x1 x2 x3 x4 x5 x6 x7 q : Int} {w : World} (h : Eight B x0 x1 x2 x3 x4 x5 x6 x7 w) : Eight B q x1 x2 x3 x4 x5 x6 x7 (w.setCell ⟨B, 0, none⟩ (.int .u32 q)) := by
  obtain ⟨c0, c1, c2, c3, c4, c5, c6, c7⟩ := h
  exact ⟨World.cell?_setCell_same _ _ _ c0, (World.cell?_setCell_other _ _ _ _ (by simp)).trans c1, (World.cell?_setCell_other _ _ _ _ (by simp)).trans c2, (World.cell?_setCell_other _ _ _ _ (by simp)).trans c3, (World.cell?_setCell_other _ _ _ _ (by simp)).trans c4, (World.cell?_setCell_other _ _ _ _ (by simp)).trans c5, (World.cell?_setCell_other _ _ _ _ (by simp)).trans c6, (World.cell?_setCell_other _ _ _ _ (by simp)).trans c7⟩
theorem Eight.set1 {B : Nat} {x0 x1 x2 x3 x4 x5 x6 x7 q : Int} {w : World} (h : Eight B x0 x1 x2 x3 x4 x5 x6 x7 w) : Eight B x0 q x2 x3 x4 x5 x6 x7 (w.setCell ⟨B, 1, none⟩ (.int .u32 q)) := by
  obtain ⟨c0, c1, c2, c3, c4, c5, c6, c7⟩ := h
  exact ⟨(World.cell?_setCell_other _ _ _ _ (by simp)).trans c0, World.cell?_setCell_same _ _ _ c1, (World.cell?_setCell_other _ _ _ _ (by simp)).trans c2, (World.cell?_setCell_other _ _ _ _ (by simp)).trans c3, (World.cell?_setCell_other _ _ _ _ (by simp)).trans c4, (World.cell?_setCell_other _ _ _ _ (by simp)).trans c5, (World.cell?_setCell_other _ _ _ _ (by simp)).trans c6, (World.cell?_setCell_other _ _ _ _ (by simp)).trans c7⟩
theorem Eight.set2 {B : Nat} {x0 x1 x2 x3 x4 x5 x6 x7 q : Int} {w : World} (h : Eight B x0 x1 x2 x3 x4 x5 x6 x7 w) : Eight B x0 x1 q x3 x4 x5 x6 x7 (w.setCell ⟨B, 2, none⟩ (.int .u32 q)) := by
  obtain ⟨c0, c1, c2, c3, c4, c5, c6, c7⟩ := h
  exact ⟨(World.cell?_setCell_other _ _ _ _ (by simp)).trans c0, (World.cell?_setCell_other _ _ _ _ (by simp)).trans c1, World.cell?_setCell_same _ _ _ c2, (World.cell?_setCell_other _ _ _ _ (by simp)).trans c3, (World.cell?_setCell_other _ _ _ _ (by simp)).trans c4, (World.cell?_setCell_other _ _ _ _ (by simp)).trans c5, (World.cell?_setCell_other _ _ _ _ (by simp)).trans c6, (World.cell?_setCell_other _ _ _ _ (by simp)).trans c7⟩
theorem Eight.set3 {B : Nat} {x0 x1 x2 x3 x4 x5 x6 x7 q : Int} {w : World} (h : Eight B x0 x1 x2 x3 x4 x5 x6 x7 w) : Eight B x0 x1 x2 q x4 x5 x6 x7 (w.setCell ⟨B, 3, none⟩ (.int .u32 q)) := by
  obtain ⟨c0, c1, c2, c3, c4, c5, c6, c7⟩ := h
  exact ⟨(World.cell?_setCell_other _ _ _ _ (by simp)).trans c0, (World.cell?_setCell_other _ _ _ _ (by simp)).trans c1, (World.cell?_setCell_other _ _ _ _ (by simp)).trans c2, World.cell?_setCell_same _ _ _ c3, (World.cell?_setCell_other _ _ _ _ (by simp)).trans c4, (World.cell?_setCell_other _ _ _ _ (by simp)).trans c5, (World.cell?_setCell_other _ _ _ _ (by simp)).trans c6, (World.cell?_setCell_other _ _ _ _ (by simp)).trans c7⟩
theorem Eight.set4 {B : Nat} {x0 x1 x2 x3 x4 x5 x6 x7 q : Int} {w : World} (h : Eight B x0 x1 x2 x3 x4 x5 x6 x7 w) : Eight B x0 x1 x2 x3 q x5 x6 x7 (w.setCell ⟨B, 4, none⟩ (.int .u32 q)) := by
  obtain ⟨c0, c1, c2, c3, c4, c5, c6, c7⟩ := h
  exact ⟨(World.cell?_setCell_other _ _ _ _ (by simp)).trans c0, (World.cell?_setCell_other _ _ _ _ (by simp)).trans c1, (World.cell?_setCell_other _ _ _ _ (by simp)).trans c2, (World.cell?_setCell_other _ _ _ _ (by simp)).trans c3, World.cell?_setCell_same _ _ _ c4, (World.cell?_setCell_other _ _ _ _ (by simp)).trans c5, (World.cell?_setCell_other _ _ _ _ (by simp)).trans c6, (World.cell?_setCell_other _ _ _ _ (by simp)).trans c7⟩
theorem Eight.set5 {B : Nat} {x0 x1 x2 x3 x4 x5 x6 x7 q : Int} {w : World} (h : Eight B x0 x1 x2 x3 x4 x5 x6 x7 w) : Eight B x0 x1 x2 x3 x4 q x6 x7 (w.setCell ⟨B, 5, none⟩ (.int .u32 q)) := by
  obtain ⟨c0, c1, c2, c3, c4, c5, c6, c7⟩ := h
  exact ⟨(World.cell?_setCell_other _ _ _ _ (by simp)).trans c0, (World.cell?_setCell_other _ _ _ _ (by simp)).trans c1, (World.cell?_setCell_other _ _ _ _ (by simp)).trans c2, (World.cell?_setCell_other _ _ _ _ (by simp)).trans c3, (World.cell?_setCell_other _ _ _ _ (by simp)).trans c4, World.cell?_setCell_same _ _ _ c5, (World.cell?_setCell_other _ _ _ _ (by simp)).trans c6, (World.cell?_setCell_other _ _ _ _ (by simp)).trans c7⟩
theorem Eight.set6 {B : Nat} {x0 x1 x2 x3 x4 x5 x6 x7 q : Int} {w : World} (h : Eight B x0 x1 x2 x3 x4 x5 x6 x7 w) : Eight B x0 x1 x2 x3 x4 x5 q x7 (w.setCell ⟨B, 6, none⟩ (.int .u32 q)) := by
  obtain ⟨c0, c1, c2, c3, c4, c5, c6, c7⟩ := h
  exact ⟨(World.cell?_setCell_other _ _ _ _ (by simp)).trans c0, (World.cell?_setCell_other _ _ _ _ (by simp)).trans c1, (World.cell?_setCell_other _ _ _ _ (by simp)).trans c2, (World.cell?_setCell_other _ _ _ _ (by simp)).trans c3, (World.cell?_setCell_other _ _ _ _ (by simp)).trans c4, (World.cell?_setCell_other _ _ _ _ (by simp)).trans c5, World.cell?_setCell_same _ _ _ c6, (World.cell?_setCell_other _ _ _ _ (by simp)).trans c7⟩
theorem Eight.set7 {B : Nat} {x0 x1 x2 x3 x4 x5 x6 x7 q : Int} {w : World} (h : Eight B x0 x1 x2 x3 x4 x5 x6 x7 w) : Eight B x0 x1 x2 x3 x4 x5 x6 q (w.setCell ⟨B, 7, none⟩ (.int .u32 q)) := by
  obtain ⟨c0, c1, c2, c3, c4, c5, c6, c7⟩ := h
  exact ⟨(World.cell?_setCell_other _ _ _ _ (by simp)).trans c0, (World.cell?_setCell_other _ _ _ _ (by simp)).trans c1, (World.cell?_setCell_other _ _ _ _ (by simp)).trans c2, (World.cell?_setCell_other _ _ _ _ (by simp)).trans c3, (World.cell?_setCell_other _ _ _ _ (by simp)).trans c4, (World.cell?_setCell_other _ _ _ _ (by simp)).trans c5, (World.cell?_setCell_other _ _ _ _ (by simp)).trans c6, World.cell?_setCell_same _ _ _ c7⟩
/-- What Div comes to, of halves. -/
def DivGot (x0 x1 x2 x3 x4 x5 x6 x7 x8 x9 x10 x11 v0 v1 v2 v3 L : Int) (w : World) (e : Ending) (w' : World) : Prop := ∃ q0 q1 q2 q3 q4 q5 q6 q7 y0 y1 y2 y3 : Int, Hf q0 ∧ Hf q1 ∧ Hf q2 ∧ Hf q3 ∧ Hf q4 ∧ Hf q5 ∧ Hf q6 ∧ Hf q7 ∧ Hf y0 ∧ Hf y1 ∧ Hf y2 ∧ Hf y3 ∧
  hv4 x0 x1 x2 x3 + hv4 x4 x5 x6 x7 * 340282366920938463463374607431768211456 + hv4 x8 x9 x10 x11 * 115792089237316195423570985008687907853269984665640564039457584007913129639936 = quo q0 q1 q2 q3 q4 q5 q6 q7 * hv4 v0 v1 v2 v3 + hv4 y0 y1 y2 y3 ∧
  hv4 y0 y1 y2 y3 < hv4 v0 v1 v2 v3 ∧
  e = .returned (.tuple #[.agg #[.int .u64 (q7 * 4294967296 + q6), .int .u64 (q5 * 4294967296 + q4), .int .u64 (q3 * 4294967296 + q2), .int .u64 (q1 * 4294967296 + q0)],
    .agg #[.int .u64 (wd (v4 0 0 (y3 * 4294967296 + y2) (y1 * 4294967296 + y0) / 2 ^ (128 - L).toNat) 1), .int .u64 (wd (v4 0 0 (y3 * 4294967296 + y2) (y1 * 4294967296 + y0) / 2 ^ (128 - L).toNat) 0)], .bool true]) ∧
  Below w.heap.size w w'
set_option maxHeartbeats 8000000 in
theorem div_walk (a3 a2 a1 a0 b1 b0 L s3 s2 s1 s0 v0 v1 v2 v3 x0 x1 x2 x3 x4 x5 x6 x7 x8 x9 x10 x11 : Int) (hx0 : Hf x0) (hx1 : Hf x1) (hx2 : Hf x2) (hx3 : Hf x3) (hx4 : Hf x4) (hx5 : Hf x5) (hx6 : Hf x6) (hx7 : Hf x7) (hx8 : Hf x8) (hx9 : Hf x9) (hx10 : Hf x10) (hx11 : Hf x11) (hv0 : Hf v0) (hv1 : Hf v1) (hv2 : Hf v2) (hv3 : Hf v3) (hT : 2147483648 ≤ v3) (hlt : hv4 x8 x9 x10 x11 < hv4 v0 v1 v2 v3) (hL0 : 0 ≤ L) (hL1 : L ≤ 128) (hne : ¬(b1 = 0 ∧ b0 = 0)) (w : World)
    (C1 : ∀ W, Calls Try.prog 74 #[.agg #[.int .u64 0, .int .u64 0, .int .u64 b1, .int .u64 b0]] W fun e w' => e = .returned (.int .i64 L) ∧ Below W.heap.size W w')
    (C2 : ∀ W, Calls Try.prog 66 #[.agg #[.int .u64 0, .int .u64 0, .int .u64 b1, .int .u64 b0], .int .i64 (128 - L)] W fun e w' => e = .returned (.agg #[.int .u64 s3, .int .u64 s2, .int .u64 s1, .int .u64 s0]) ∧ Below W.heap.size W w')
    (C3 : ∀ W, Calls Try.prog 82 #[.agg #[.int .u64 s1, .int .u64 s0]] W fun e w' => e = .returned (.agg #[.int .u32 v0, .int .u32 v1, .int .u32 v2, .int .u32 v3]) ∧ Below W.heap.size W w')
    (C4 : ∀ W, Calls Try.prog 86 #[.agg #[.int .u64 a3, .int .u64 a2, .int .u64 a1, .int .u64 a0], .int .i64 (128 - L)] W fun e w' => e = .returned (.agg #[.int .u32 x0, .int .u32 x1, .int .u32 x2, .int .u32 x3, .int .u32 x4, .int .u32 x5, .int .u32 x6, .int .u32 x7, .int .u32 x8, .int .u32 x9, .int .u32 x10, .int .u32 x11]) ∧ Below W.heap.size W w') :
    Calls Try.prog 77 #[.agg #[.int .u64 a3, .int .u64 a2, .int .u64 a1, .int .u64 a0], .agg #[.int .u64 b1, .int .u64 b0]] w (DivGot x0 x1 x2 x3 x4 x5 x6 x7 x8 x9 x10 x11 v0 v1 v2 v3 L w) := by
  have H1 := Lib.hid C1; have H2 := Lib.hid C2; have H3 := Lib.hid C3; have H4 := Lib.hid C4
  clear C1 C2 C3 C4
  have heq : ∀ W, (Go.binOp .eql 51 (.agg #[.int .u64 b1, .int .u64 b0]) (.agg #[.int .u64 0, .int .u64 0])).run Try.prog W = .ok (.bool false) W := by
    intro W
    by_cases c : b1 = 0
    · have d : (b0 == 0) = false := by rw [beq_eq_false_iff_ne]; exact fun d => hne ⟨c, d⟩
      subst c
      simp [go_sem, *]
    · have d : (b1 == 0) = false := by rw [beq_eq_false_iff_ne]; exact c
      simp [go_sem, *]
  have fl := fun x0 x1 x2 x3 w => (field_four x0 x1 x2 x3 w).2
  have wr : IntKind.i64.wrap (128 - L) = 128 - L := IntWalk.i64_in _ (by omega)
  go_enter Try.func77, Try.ntmps77
  go_wp2_with fail
  clear heq
  refine calls_gen (DivPro w a3 a2 a1 a0 b1 b0) ?_ ?_
  · refine ⟨by simp, by go_grown, ?_, ?_, ?_, ?_, ?_, ?_, ?_, ?_, ?_, ?_, ?_, ?_, fun j => ?_, fun j => ?_⟩
    all_goals first | (simp [go_sem]; done) | (simp [frozen?_alloc_cells, World.frozen?]; done)
  intro W0 P0
  have z0 := P0.size
  have cb0 := P0.cb0; have cb1 := P0.cb1
  refine (H1.out _).mono ?_
  rintro e w1 ⟨rfl, hb⟩
  have HP1 := Lib.hid (P0.step hb)
  clear cb0 cb1 hb P0 z0
  have cb0 := HP1.out.cb0; have cb1 := HP1.out.cb1
  go_wp2_with fail
  refine (H2.out _).mono ?_
  rintro e w2 ⟨rfl, hb⟩
  have HP2 := Lib.hid (HP1.out.step hb)
  clear cb0 cb1 hb HP1
  go_wp2_with fail
  refine (H3.out _).mono ?_
  rintro e w3 ⟨rfl, hb⟩
  have HP3 := Lib.hid (HP2.out.step hb)
  clear hb HP2
  have ca0 := HP3.out.ca0; have ca1 := HP3.out.ca1; have ca2 := HP3.out.ca2; have ca3 := HP3.out.ca3
  have zz : w.heap.size ≠ w3.heap.size := by have := HP3.out.size; omega
  have zy : w.heap.size < w3.heap.size := by have := HP3.out.size; omega
  go_wp2_with fail
  refine (H4.out _).mono ?_
  rintro e w4 ⟨rfl, hb⟩
  have hB := bl_trans (bl_al (Below.refl w3.heap.size w3) (.cells #[.int .u32 v0, .int .u32 v1, .int .u32 v2, .int .u32 v3] 105)) hb
  have HP4 := Lib.hid (HP3.out.step hB)
  have HQ4 : Hid (Quad w3.heap.size v0 v1 v2 v3 w4) := by
    refine ⟨?_, ?_, ?_, ?_⟩ <;> (rw [(bcell hb).1 _ _ (by simp)]; simp [go_sem])
  have hs4 : w3.heap.size < w4.heap.size := by have h := hb.size; simp at h; omega
  have hs3 := HP3.out.size
  clear hb hB ca0 ca1 ca2 ca3 HP3 zz zy
  go_wp2_with fail
  refine wp_loop_rounds 9 ?_
  have g1 : Twelve w4.heap.size x0 x1 x2 x3 x4 x5 x6 x7 x8 x9 x10 x11 ((w4.alloc (.cells #[.int .u32 x0, .int .u32 x1, .int .u32 x2, .int .u32 x3, .int .u32 x4, .int .u32 x5, .int .u32 x6, .int .u32 x7, .int .u32 x8, .int .u32 x9, .int .u32 x10, .int .u32 x11] 112)).alloc (.cells #[.int .u32 0, .int .u32 0, .int .u32 0, .int .u32 0, .int .u32 0, .int .u32 0, .int .u32 0, .int .u32 0] 107)) := by
    unfold Twelve; simp [go_sem]
  have g2 : Clear w4.heap.size ((w4.alloc (.cells #[.int .u32 x0, .int .u32 x1, .int .u32 x2, .int .u32 x3, .int .u32 x4, .int .u32 x5, .int .u32 x6, .int .u32 x7, .int .u32 x8, .int .u32 x9, .int .u32 x10, .int .u32 x11] 112)).alloc (.cells #[.int .u32 0, .int .u32 0, .int .u32 0, .int .u32 0, .int .u32 0, .int .u32 0, .int .u32 0, .int .u32 0] 107)) := fun j => by
    rw [frozen?_alloc_cells, frozen?_alloc_cells]; simp [World.frozen?]
  have g3 : Quad w3.heap.size v0 v1 v2 v3 ((w4.alloc (.cells #[.int .u32 x0, .int .u32 x1, .int .u32 x2, .int .u32 x3, .int .u32 x4, .int .u32 x5, .int .u32 x6, .int .u32 x7, .int .u32 x8, .int .u32 x9, .int .u32 x10, .int .u32 x11] 112)).alloc (.cells #[.int .u32 0, .int .u32 0, .int .u32 0, .int .u32 0, .int .u32 0, .int .u32 0, .int .u32 0, .int .u32 0] 107)) := by
    obtain ⟨c0, c1, c2, c3⟩ := HQ4.out
    have hB := bl_al (bl_al (Below.refl w4.heap.size w4) (.cells #[.int .u32 x0, .int .u32 x1, .int .u32 x2, .int .u32 x3, .int .u32 x4, .int .u32 x5, .int .u32 x6, .int .u32 x7, .int .u32 x8, .int .u32 x9, .int .u32 x10, .int .u32 x11] 112)) (.cells #[.int .u32 0, .int .u32 0, .int .u32 0, .int .u32 0, .int .u32 0, .int .u32 0, .int .u32 0, .int .u32 0] 107)
    refine ⟨?_, ?_, ?_, ?_⟩ <;> (rw [(bcell hB).1 _ _ hs4]; assumption)
  have g4 : Eight (w4.heap.size + 1) 0 0 0 0 0 0 0 0 ((w4.alloc (.cells #[.int .u32 x0, .int .u32 x1, .int .u32 x2, .int .u32 x3, .int .u32 x4, .int .u32 x5, .int .u32 x6, .int .u32 x7, .int .u32 x8, .int .u32 x9, .int .u32 x10, .int .u32 x11] 112)).alloc (.cells #[.int .u32 0, .int .u32 0, .int .u32 0, .int .u32 0, .int .u32 0, .int .u32 0, .int .u32 0, .int .u32 0] 107)) := by
    unfold Eight; simp [go_sem]
  have g5 : Clear (w4.heap.size + 1) ((w4.alloc (.cells #[.int .u32 x0, .int .u32 x1, .int .u32 x2, .int .u32 x3, .int .u32 x4, .int .u32 x5, .int .u32 x6, .int .u32 x7, .int .u32 x8, .int .u32 x9, .int .u32 x10, .int .u32 x11] 112)).alloc (.cells #[.int .u32 0, .int .u32 0, .int .u32 0, .int .u32 0, .int .u32 0, .int .u32 0, .int .u32 0, .int .u32 0] 107)) := fun j => by
    rw [frozen?_alloc_cells, frozen?_alloc_cells]; simp [World.frozen?]
  have g6 : DivPro w a3 a2 a1 a0 b1 b0 ((w4.alloc (.cells #[.int .u32 x0, .int .u32 x1, .int .u32 x2, .int .u32 x3, .int .u32 x4, .int .u32 x5, .int .u32 x6, .int .u32 x7, .int .u32 x8, .int .u32 x9, .int .u32 x10, .int .u32 x11] 112)).alloc (.cells #[.int .u32 0, .int .u32 0, .int .u32 0, .int .u32 0, .int .u32 0, .int .u32 0, .int .u32 0, .int .u32 0] 107)) :=
    HP4.out.step (bl_al (bl_al (Below.refl w4.heap.size w4) _) _)
  refine rounds_gen (fun w' => Hid (Twelve w4.heap.size x0 x1 x2 x3 x4 x5 x6 x7 x8 x9 x10 x11 w') ∧ Hid (Clear w4.heap.size w') ∧ Hid (Quad w3.heap.size v0 v1 v2 v3 w') ∧ Hid (Eight (w4.heap.size + 1) 0 0 0 0 0 0 0 0 w') ∧ Hid (Clear (w4.heap.size + 1) w') ∧ Hid (DivPro w a3 a2 a1 a0 b1 b0 w') ∧ w4.heap.size < w'.heap.size ∧ w3.heap.size < w'.heap.size ∧ w4.heap.size + 1 < w'.heap.size) ?_ ?_
  · exact ⟨g1, g2, g3, g4, g5, g6, by simp; omega, by simp; omega, by simp⟩
  clear g1 g2 g3 g4 g5 g6 HQ4 HP4 H1 H2 H3 H4
  have n1 : w3.heap.size ≠ w4.heap.size := by omega
  have n2 : w3.heap.size ≠ w4.heap.size + 1 := by omega
  have n3 : w4.heap.size ≠ w4.heap.size + 1 := by omega
  have n4 : w.heap.size + 3 < w4.heap.size := by omega
  have n5 : w.heap.size + 3 < w4.heap.size + 1 := by omega
  clear hs4
  generalize w4.heap.size + 1 = Q at *
  generalize w4.heap.size = R at *
  generalize w3.heap.size = D at *
  clear w4 w3 w2 w1
  have hVV := hv4_lt hv0 hv1 hv2 hv3
  have HVV := Lib.hid hVV.2
  clear hVV
  have wr12 : IntKind.i64.wrap 12 = 12 := rfl
  have wr11 : IntKind.i64.wrap 11 = 11 := rfl
  have wr10 : IntKind.i64.wrap 10 = 10 := rfl
  have wr9 : IntKind.i64.wrap 9 = 9 := rfl
  have wr8 : IntKind.i64.wrap 8 = 8 := rfl
  have wr7 : IntKind.i64.wrap 7 = 7 := rfl
  have wr6 : IntKind.i64.wrap 6 = 6 := rfl
  have wr5 : IntKind.i64.wrap 5 = 5 := rfl
  rintro w5 ⟨HT, HC, HQ, HE, HCQ, HP, sR, sD, sQ⟩
  rw [rounds_succ]; go_wp2_with fail
  obtain ⟨V0, V1, V2, V3⟩ := HQ.out
  obtain ⟨D0, D1, D2, D3, D4, D5, D6, D7, D8, D9, D10, D11⟩ := HT.out
  go_region_held3 (fun w' => w'.cell? ⟨D, 0, none⟩ = some (.int .u32 v0) ∧ w'.cell? ⟨D, 1, none⟩ = some (.int .u32 v1) ∧ w'.cell? ⟨D, 2, none⟩ = some (.int .u32 v2) ∧ w'.cell? ⟨D, 3, none⟩ = some (.int .u32 v3)) (simp [*, go_sem])
    (first
      | (go_at_call 87; refine (takeOut_any R 7 5 x7 x8 x9 x10 x11 v0 v1 v2 v3 hx7 hx8 hx9 hx10 hx11 hv0 hv1 hv2 hv3 hT hlt w5.drew sR (by simpa [go_sem] using D7) (by simpa [go_sem] using D8) (by simpa [go_sem] using D9) (by simpa [go_sem] using D10) (by simpa [go_sem] using D11) (by simpa [go_sem] using HC.out 7) (by simpa [go_sem] using HC.out 8) (by simpa [go_sem] using HC.out 9) (by simpa [go_sem] using HC.out 10) (by simpa [go_sem] using HC.out 11)).mono ?_; rintro e w6 ⟨y7_0, y7_1, y7_2, y7_3, y7_4, q7, rfl, hq7, hy7_0, hy7_1, hy7_2, hy7_3, hy7_4, hE, hle, hW, hF⟩; have HS7 := Lib.hid (step_of hy7_0 hy7_1 hy7_2 hy7_3 hy7_4 HVV.out hE hle); have HW : Hid (Wrote R 7 5 w5 w6) := hW.undrew; have HF := Lib.hid hF; obtain ⟨V0', V1', V2', V3'⟩ := HQ.out.other HW.out sD n1; obtain ⟨e0, e1, e2, e3, e4, e5, e6, e7⟩ := HE.out.other HW.out sQ (Ne.symm n3); have fz := fun j => HCQ.out.other HW.out sQ (Ne.symm n3) j; clear hE hle hW hF))
  rename_i hHeld
  clear hHeld V0 V1 V2 V3 D0 D1 D2 D3 D4 D5 D6 D7 D8 D9 D10 D11 V0' V1' V2' V3'
  go_wp2_with fail
  clear e0 e1 e2 e3 e4 e5 e6 e7 fz
  have l7 : hv4 y7_0 y7_1 y7_2 y7_3 < hv4 v0 v1 v2 v3 := HS7.out.2.2
  have HL7 := Lib.hid l7
  clear l7
  have hS : Wrote Q 7 1 w6 (w6.setCell ⟨Q, 7, none⟩ (.int .u32 q7)) := Wrote.setCell (Wrote.refl _ _ _ _) (Nat.le_refl _) (by decide) _
  have hT1 := (HT.out.win7 HW.out HF.out).other hS (Nat.lt_of_lt_of_le sR HW.out.size) n3
  have hC1 : Clear R (w6.setCell ⟨Q, 7, none⟩ (.int .u32 q7)) := Clear.other (HC.out.wrote HW.out) hS (Nat.lt_of_lt_of_le sR HW.out.size) n3
  have hQ1 := (HQ.out.other HW.out sD n1).other hS (Nat.lt_of_lt_of_le sD HW.out.size) n2
  have hE1 := Eight.set7 (q := q7) (HE.out.other HW.out sQ (Ne.symm n3))
  have hCQ1 : Clear Q (w6.setCell ⟨Q, 7, none⟩ (.int .u32 q7)) := Clear.wrote (HCQ.out.other HW.out sQ (Ne.symm n3)) hS
  have hP1 := (HP.out.wrote HW.out n4).wrote hS n5
  have hZ := Nat.le_trans HW.out.size hS.size
  refine rounds_gen (fun w' => Hid (Twelve R x0 x1 x2 x3 x4 x5 x6 y7_0 y7_1 y7_2 y7_3 y7_4 w') ∧ Hid (Clear R w') ∧ Hid (Quad D v0 v1 v2 v3 w') ∧ Hid (Eight Q 0 0 0 0 0 0 0 q7 w') ∧ Hid (Clear Q w') ∧ Hid (DivPro w a3 a2 a1 a0 b1 b0 w') ∧ R < w'.heap.size ∧ D < w'.heap.size ∧ Q < w'.heap.size) ?_ ?_
  · exact ⟨hT1, hC1, hQ1, hE1, hCQ1, hP1, Nat.lt_of_lt_of_le sR hZ, Nat.lt_of_lt_of_le sD hZ, Nat.lt_of_lt_of_le sQ hZ⟩
  clear HT HC HQ HE HCQ HP sR sD sQ HW HF hS hT1 hC1 hQ1 hE1 hCQ1 hP1 hZ
  clear w6 w5
  rintro w7 ⟨HT, HC, HQ, HE, HCQ, HP, sR, sD, sQ⟩
  rw [rounds_succ]; go_wp2_with fail
  obtain ⟨V0, V1, V2, V3⟩ := HQ.out
  obtain ⟨D0, D1, D2, D3, D4, D5, D6, D7, D8, D9, D10, D11⟩ := HT.out
  go_region_held3 (fun w' => w'.cell? ⟨D, 0, none⟩ = some (.int .u32 v0) ∧ w'.cell? ⟨D, 1, none⟩ = some (.int .u32 v1) ∧ w'.cell? ⟨D, 2, none⟩ = some (.int .u32 v2) ∧ w'.cell? ⟨D, 3, none⟩ = some (.int .u32 v3)) (simp [*, go_sem])
    (first
      | (go_at_call 87; refine (takeOut_any R 6 6 x6 y7_0 y7_1 y7_2 y7_3 v0 v1 v2 v3 hx6 hy7_0 hy7_1 hy7_2 hy7_3 hv0 hv1 hv2 hv3 hT HL7.out w7.drew sR (by simpa [go_sem] using D6) (by simpa [go_sem] using D7) (by simpa [go_sem] using D8) (by simpa [go_sem] using D9) (by simpa [go_sem] using D10) (by simpa [go_sem] using HC.out 6) (by simpa [go_sem] using HC.out 7) (by simpa [go_sem] using HC.out 8) (by simpa [go_sem] using HC.out 9) (by simpa [go_sem] using HC.out 10)).mono ?_; rintro e w8 ⟨y6_0, y6_1, y6_2, y6_3, y6_4, q6, rfl, hq6, hy6_0, hy6_1, hy6_2, hy6_3, hy6_4, hE, hle, hW, hF⟩; have HS6 := Lib.hid (step_of hy6_0 hy6_1 hy6_2 hy6_3 hy6_4 HVV.out hE hle); have HW : Hid (Wrote R 6 5 w7 w8) := hW.undrew; have HF := Lib.hid hF; obtain ⟨V0', V1', V2', V3'⟩ := HQ.out.other HW.out sD n1; obtain ⟨e0, e1, e2, e3, e4, e5, e6, e7⟩ := HE.out.other HW.out sQ (Ne.symm n3); have fz := fun j => HCQ.out.other HW.out sQ (Ne.symm n3) j; clear hE hle hW hF))
  rename_i hHeld
  clear hHeld V0 V1 V2 V3 D0 D1 D2 D3 D4 D5 D6 D7 D8 D9 D10 D11 V0' V1' V2' V3'
  go_wp2_with fail
  clear e0 e1 e2 e3 e4 e5 e6 e7 fz
  have l6 : hv4 y6_0 y6_1 y6_2 y6_3 < hv4 v0 v1 v2 v3 := HS6.out.2.2
  have HL6 := Lib.hid l6
  clear l6
  have hS : Wrote Q 6 1 w8 (w8.setCell ⟨Q, 6, none⟩ (.int .u32 q6)) := Wrote.setCell (Wrote.refl _ _ _ _) (Nat.le_refl _) (by decide) _
  have hT1 := (HT.out.win6 HW.out HF.out).other hS (Nat.lt_of_lt_of_le sR HW.out.size) n3
  have hC1 : Clear R (w8.setCell ⟨Q, 6, none⟩ (.int .u32 q6)) := Clear.other (HC.out.wrote HW.out) hS (Nat.lt_of_lt_of_le sR HW.out.size) n3
  have hQ1 := (HQ.out.other HW.out sD n1).other hS (Nat.lt_of_lt_of_le sD HW.out.size) n2
  have hE1 := Eight.set6 (q := q6) (HE.out.other HW.out sQ (Ne.symm n3))
  have hCQ1 : Clear Q (w8.setCell ⟨Q, 6, none⟩ (.int .u32 q6)) := Clear.wrote (HCQ.out.other HW.out sQ (Ne.symm n3)) hS
  have hP1 := (HP.out.wrote HW.out n4).wrote hS n5
  have hZ := Nat.le_trans HW.out.size hS.size
  refine rounds_gen (fun w' => Hid (Twelve R x0 x1 x2 x3 x4 x5 y6_0 y6_1 y6_2 y6_3 y6_4 y7_4 w') ∧ Hid (Clear R w') ∧ Hid (Quad D v0 v1 v2 v3 w') ∧ Hid (Eight Q 0 0 0 0 0 0 q6 q7 w') ∧ Hid (Clear Q w') ∧ Hid (DivPro w a3 a2 a1 a0 b1 b0 w') ∧ R < w'.heap.size ∧ D < w'.heap.size ∧ Q < w'.heap.size) ?_ ?_
  · exact ⟨hT1, hC1, hQ1, hE1, hCQ1, hP1, Nat.lt_of_lt_of_le sR hZ, Nat.lt_of_lt_of_le sD hZ, Nat.lt_of_lt_of_le sQ hZ⟩
  clear HT HC HQ HE HCQ HP sR sD sQ HW HF hS hT1 hC1 hQ1 hE1 hCQ1 hP1 hZ
  clear w8 w7
  rintro w9 ⟨HT, HC, HQ, HE, HCQ, HP, sR, sD, sQ⟩
  rw [rounds_succ]; go_wp2_with fail
  obtain ⟨V0, V1, V2, V3⟩ := HQ.out
  obtain ⟨D0, D1, D2, D3, D4, D5, D6, D7, D8, D9, D10, D11⟩ := HT.out
  go_region_held3 (fun w' => w'.cell? ⟨D, 0, none⟩ = some (.int .u32 v0) ∧ w'.cell? ⟨D, 1, none⟩ = some (.int .u32 v1) ∧ w'.cell? ⟨D, 2, none⟩ = some (.int .u32 v2) ∧ w'.cell? ⟨D, 3, none⟩ = some (.int .u32 v3)) (simp [*, go_sem])
    (first
      | (go_at_call 87; refine (takeOut_any R 5 7 x5 y6_0 y6_1 y6_2 y6_3 v0 v1 v2 v3 hx5 hy6_0 hy6_1 hy6_2 hy6_3 hv0 hv1 hv2 hv3 hT HL6.out w9.drew sR (by simpa [go_sem] using D5) (by simpa [go_sem] using D6) (by simpa [go_sem] using D7) (by simpa [go_sem] using D8) (by simpa [go_sem] using D9) (by simpa [go_sem] using HC.out 5) (by simpa [go_sem] using HC.out 6) (by simpa [go_sem] using HC.out 7) (by simpa [go_sem] using HC.out 8) (by simpa [go_sem] using HC.out 9)).mono ?_; rintro e w10 ⟨y5_0, y5_1, y5_2, y5_3, y5_4, q5, rfl, hq5, hy5_0, hy5_1, hy5_2, hy5_3, hy5_4, hE, hle, hW, hF⟩; have HS5 := Lib.hid (step_of hy5_0 hy5_1 hy5_2 hy5_3 hy5_4 HVV.out hE hle); have HW : Hid (Wrote R 5 5 w9 w10) := hW.undrew; have HF := Lib.hid hF; obtain ⟨V0', V1', V2', V3'⟩ := HQ.out.other HW.out sD n1; obtain ⟨e0, e1, e2, e3, e4, e5, e6, e7⟩ := HE.out.other HW.out sQ (Ne.symm n3); have fz := fun j => HCQ.out.other HW.out sQ (Ne.symm n3) j; clear hE hle hW hF))
  rename_i hHeld
  clear hHeld V0 V1 V2 V3 D0 D1 D2 D3 D4 D5 D6 D7 D8 D9 D10 D11 V0' V1' V2' V3'
  go_wp2_with fail
  clear e0 e1 e2 e3 e4 e5 e6 e7 fz
  have l5 : hv4 y5_0 y5_1 y5_2 y5_3 < hv4 v0 v1 v2 v3 := HS5.out.2.2
  have HL5 := Lib.hid l5
  clear l5
  have hS : Wrote Q 5 1 w10 (w10.setCell ⟨Q, 5, none⟩ (.int .u32 q5)) := Wrote.setCell (Wrote.refl _ _ _ _) (Nat.le_refl _) (by decide) _
  have hT1 := (HT.out.win5 HW.out HF.out).other hS (Nat.lt_of_lt_of_le sR HW.out.size) n3
  have hC1 : Clear R (w10.setCell ⟨Q, 5, none⟩ (.int .u32 q5)) := Clear.other (HC.out.wrote HW.out) hS (Nat.lt_of_lt_of_le sR HW.out.size) n3
  have hQ1 := (HQ.out.other HW.out sD n1).other hS (Nat.lt_of_lt_of_le sD HW.out.size) n2
  have hE1 := Eight.set5 (q := q5) (HE.out.other HW.out sQ (Ne.symm n3))
  have hCQ1 : Clear Q (w10.setCell ⟨Q, 5, none⟩ (.int .u32 q5)) := Clear.wrote (HCQ.out.other HW.out sQ (Ne.symm n3)) hS
  have hP1 := (HP.out.wrote HW.out n4).wrote hS n5
  have hZ := Nat.le_trans HW.out.size hS.size
  refine rounds_gen (fun w' => Hid (Twelve R x0 x1 x2 x3 x4 y5_0 y5_1 y5_2 y5_3 y5_4 y6_4 y7_4 w') ∧ Hid (Clear R w') ∧ Hid (Quad D v0 v1 v2 v3 w') ∧ Hid (Eight Q 0 0 0 0 0 q5 q6 q7 w') ∧ Hid (Clear Q w') ∧ Hid (DivPro w a3 a2 a1 a0 b1 b0 w') ∧ R < w'.heap.size ∧ D < w'.heap.size ∧ Q < w'.heap.size) ?_ ?_
  · exact ⟨hT1, hC1, hQ1, hE1, hCQ1, hP1, Nat.lt_of_lt_of_le sR hZ, Nat.lt_of_lt_of_le sD hZ, Nat.lt_of_lt_of_le sQ hZ⟩
  clear HT HC HQ HE HCQ HP sR sD sQ HW HF hS hT1 hC1 hQ1 hE1 hCQ1 hP1 hZ
  clear w10 w9
  rintro w11 ⟨HT, HC, HQ, HE, HCQ, HP, sR, sD, sQ⟩
  rw [rounds_succ]; go_wp2_with fail
  obtain ⟨V0, V1, V2, V3⟩ := HQ.out
  obtain ⟨D0, D1, D2, D3, D4, D5, D6, D7, D8, D9, D10, D11⟩ := HT.out
  go_region_held3 (fun w' => w'.cell? ⟨D, 0, none⟩ = some (.int .u32 v0) ∧ w'.cell? ⟨D, 1, none⟩ = some (.int .u32 v1) ∧ w'.cell? ⟨D, 2, none⟩ = some (.int .u32 v2) ∧ w'.cell? ⟨D, 3, none⟩ = some (.int .u32 v3)) (simp [*, go_sem])
    (first
      | (go_at_call 87; refine (takeOut_any R 4 8 x4 y5_0 y5_1 y5_2 y5_3 v0 v1 v2 v3 hx4 hy5_0 hy5_1 hy5_2 hy5_3 hv0 hv1 hv2 hv3 hT HL5.out w11.drew sR (by simpa [go_sem] using D4) (by simpa [go_sem] using D5) (by simpa [go_sem] using D6) (by simpa [go_sem] using D7) (by simpa [go_sem] using D8) (by simpa [go_sem] using HC.out 4) (by simpa [go_sem] using HC.out 5) (by simpa [go_sem] using HC.out 6) (by simpa [go_sem] using HC.out 7) (by simpa [go_sem] using HC.out 8)).mono ?_; rintro e w12 ⟨y4_0, y4_1, y4_2, y4_3, y4_4, q4, rfl, hq4, hy4_0, hy4_1, hy4_2, hy4_3, hy4_4, hE, hle, hW, hF⟩; have HS4 := Lib.hid (step_of hy4_0 hy4_1 hy4_2 hy4_3 hy4_4 HVV.out hE hle); have HW : Hid (Wrote R 4 5 w11 w12) := hW.undrew; have HF := Lib.hid hF; obtain ⟨V0', V1', V2', V3'⟩ := HQ.out.other HW.out sD n1; obtain ⟨e0, e1, e2, e3, e4, e5, e6, e7⟩ := HE.out.other HW.out sQ (Ne.symm n3); have fz := fun j => HCQ.out.other HW.out sQ (Ne.symm n3) j; clear hE hle hW hF))
  rename_i hHeld
  clear hHeld V0 V1 V2 V3 D0 D1 D2 D3 D4 D5 D6 D7 D8 D9 D10 D11 V0' V1' V2' V3'
  go_wp2_with fail
  clear e0 e1 e2 e3 e4 e5 e6 e7 fz
  have l4 : hv4 y4_0 y4_1 y4_2 y4_3 < hv4 v0 v1 v2 v3 := HS4.out.2.2
  have HL4 := Lib.hid l4
  clear l4
  have hS : Wrote Q 4 1 w12 (w12.setCell ⟨Q, 4, none⟩ (.int .u32 q4)) := Wrote.setCell (Wrote.refl _ _ _ _) (Nat.le_refl _) (by decide) _
  have hT1 := (HT.out.win4 HW.out HF.out).other hS (Nat.lt_of_lt_of_le sR HW.out.size) n3
  have hC1 : Clear R (w12.setCell ⟨Q, 4, none⟩ (.int .u32 q4)) := Clear.other (HC.out.wrote HW.out) hS (Nat.lt_of_lt_of_le sR HW.out.size) n3
  have hQ1 := (HQ.out.other HW.out sD n1).other hS (Nat.lt_of_lt_of_le sD HW.out.size) n2
  have hE1 := Eight.set4 (q := q4) (HE.out.other HW.out sQ (Ne.symm n3))
  have hCQ1 : Clear Q (w12.setCell ⟨Q, 4, none⟩ (.int .u32 q4)) := Clear.wrote (HCQ.out.other HW.out sQ (Ne.symm n3)) hS
  have hP1 := (HP.out.wrote HW.out n4).wrote hS n5
  have hZ := Nat.le_trans HW.out.size hS.size
  refine rounds_gen (fun w' => Hid (Twelve R x0 x1 x2 x3 y4_0 y4_1 y4_2 y4_3 y4_4 y5_4 y6_4 y7_4 w') ∧ Hid (Clear R w') ∧ Hid (Quad D v0 v1 v2 v3 w') ∧ Hid (Eight Q 0 0 0 0 q4 q5 q6 q7 w') ∧ Hid (Clear Q w') ∧ Hid (DivPro w a3 a2 a1 a0 b1 b0 w') ∧ R < w'.heap.size ∧ D < w'.heap.size ∧ Q < w'.heap.size) ?_ ?_
  · exact ⟨hT1, hC1, hQ1, hE1, hCQ1, hP1, Nat.lt_of_lt_of_le sR hZ, Nat.lt_of_lt_of_le sD hZ, Nat.lt_of_lt_of_le sQ hZ⟩
  clear HT HC HQ HE HCQ HP sR sD sQ HW HF hS hT1 hC1 hQ1 hE1 hCQ1 hP1 hZ
  clear w12 w11
  rintro w13 ⟨HT, HC, HQ, HE, HCQ, HP, sR, sD, sQ⟩
  rw [rounds_succ]; go_wp2_with fail
  obtain ⟨V0, V1, V2, V3⟩ := HQ.out
  obtain ⟨D0, D1, D2, D3, D4, D5, D6, D7, D8, D9, D10, D11⟩ := HT.out
  go_region_held3 (fun w' => w'.cell? ⟨D, 0, none⟩ = some (.int .u32 v0) ∧ w'.cell? ⟨D, 1, none⟩ = some (.int .u32 v1) ∧ w'.cell? ⟨D, 2, none⟩ = some (.int .u32 v2) ∧ w'.cell? ⟨D, 3, none⟩ = some (.int .u32 v3)) (simp [*, go_sem])
    (first
      | (go_at_call 87; refine (takeOut_any R 3 9 x3 y4_0 y4_1 y4_2 y4_3 v0 v1 v2 v3 hx3 hy4_0 hy4_1 hy4_2 hy4_3 hv0 hv1 hv2 hv3 hT HL4.out w13.drew sR (by simpa [go_sem] using D3) (by simpa [go_sem] using D4) (by simpa [go_sem] using D5) (by simpa [go_sem] using D6) (by simpa [go_sem] using D7) (by simpa [go_sem] using HC.out 3) (by simpa [go_sem] using HC.out 4) (by simpa [go_sem] using HC.out 5) (by simpa [go_sem] using HC.out 6) (by simpa [go_sem] using HC.out 7)).mono ?_; rintro e w14 ⟨y3_0, y3_1, y3_2, y3_3, y3_4, q3, rfl, hq3, hy3_0, hy3_1, hy3_2, hy3_3, hy3_4, hE, hle, hW, hF⟩; have HS3 := Lib.hid (step_of hy3_0 hy3_1 hy3_2 hy3_3 hy3_4 HVV.out hE hle); have HW : Hid (Wrote R 3 5 w13 w14) := hW.undrew; have HF := Lib.hid hF; obtain ⟨V0', V1', V2', V3'⟩ := HQ.out.other HW.out sD n1; obtain ⟨e0, e1, e2, e3, e4, e5, e6, e7⟩ := HE.out.other HW.out sQ (Ne.symm n3); have fz := fun j => HCQ.out.other HW.out sQ (Ne.symm n3) j; clear hE hle hW hF))
  rename_i hHeld
  clear hHeld V0 V1 V2 V3 D0 D1 D2 D3 D4 D5 D6 D7 D8 D9 D10 D11 V0' V1' V2' V3'
  go_wp2_with fail
  clear e0 e1 e2 e3 e4 e5 e6 e7 fz
  have l3 : hv4 y3_0 y3_1 y3_2 y3_3 < hv4 v0 v1 v2 v3 := HS3.out.2.2
  have HL3 := Lib.hid l3
  clear l3
  have hS : Wrote Q 3 1 w14 (w14.setCell ⟨Q, 3, none⟩ (.int .u32 q3)) := Wrote.setCell (Wrote.refl _ _ _ _) (Nat.le_refl _) (by decide) _
  have hT1 := (HT.out.win3 HW.out HF.out).other hS (Nat.lt_of_lt_of_le sR HW.out.size) n3
  have hC1 : Clear R (w14.setCell ⟨Q, 3, none⟩ (.int .u32 q3)) := Clear.other (HC.out.wrote HW.out) hS (Nat.lt_of_lt_of_le sR HW.out.size) n3
  have hQ1 := (HQ.out.other HW.out sD n1).other hS (Nat.lt_of_lt_of_le sD HW.out.size) n2
  have hE1 := Eight.set3 (q := q3) (HE.out.other HW.out sQ (Ne.symm n3))
  have hCQ1 : Clear Q (w14.setCell ⟨Q, 3, none⟩ (.int .u32 q3)) := Clear.wrote (HCQ.out.other HW.out sQ (Ne.symm n3)) hS
  have hP1 := (HP.out.wrote HW.out n4).wrote hS n5
  have hZ := Nat.le_trans HW.out.size hS.size
  refine rounds_gen (fun w' => Hid (Twelve R x0 x1 x2 y3_0 y3_1 y3_2 y3_3 y3_4 y4_4 y5_4 y6_4 y7_4 w') ∧ Hid (Clear R w') ∧ Hid (Quad D v0 v1 v2 v3 w') ∧ Hid (Eight Q 0 0 0 q3 q4 q5 q6 q7 w') ∧ Hid (Clear Q w') ∧ Hid (DivPro w a3 a2 a1 a0 b1 b0 w') ∧ R < w'.heap.size ∧ D < w'.heap.size ∧ Q < w'.heap.size) ?_ ?_
  · exact ⟨hT1, hC1, hQ1, hE1, hCQ1, hP1, Nat.lt_of_lt_of_le sR hZ, Nat.lt_of_lt_of_le sD hZ, Nat.lt_of_lt_of_le sQ hZ⟩
  clear HT HC HQ HE HCQ HP sR sD sQ HW HF hS hT1 hC1 hQ1 hE1 hCQ1 hP1 hZ
  clear w14 w13
  rintro w15 ⟨HT, HC, HQ, HE, HCQ, HP, sR, sD, sQ⟩
  rw [rounds_succ]; go_wp2_with fail
  obtain ⟨V0, V1, V2, V3⟩ := HQ.out
  obtain ⟨D0, D1, D2, D3, D4, D5, D6, D7, D8, D9, D10, D11⟩ := HT.out
  go_region_held3 (fun w' => w'.cell? ⟨D, 0, none⟩ = some (.int .u32 v0) ∧ w'.cell? ⟨D, 1, none⟩ = some (.int .u32 v1) ∧ w'.cell? ⟨D, 2, none⟩ = some (.int .u32 v2) ∧ w'.cell? ⟨D, 3, none⟩ = some (.int .u32 v3)) (simp [*, go_sem])
    (first
      | (go_at_call 87; refine (takeOut_any R 2 10 x2 y3_0 y3_1 y3_2 y3_3 v0 v1 v2 v3 hx2 hy3_0 hy3_1 hy3_2 hy3_3 hv0 hv1 hv2 hv3 hT HL3.out w15.drew sR (by simpa [go_sem] using D2) (by simpa [go_sem] using D3) (by simpa [go_sem] using D4) (by simpa [go_sem] using D5) (by simpa [go_sem] using D6) (by simpa [go_sem] using HC.out 2) (by simpa [go_sem] using HC.out 3) (by simpa [go_sem] using HC.out 4) (by simpa [go_sem] using HC.out 5) (by simpa [go_sem] using HC.out 6)).mono ?_; rintro e w16 ⟨y2_0, y2_1, y2_2, y2_3, y2_4, q2, rfl, hq2, hy2_0, hy2_1, hy2_2, hy2_3, hy2_4, hE, hle, hW, hF⟩; have HS2 := Lib.hid (step_of hy2_0 hy2_1 hy2_2 hy2_3 hy2_4 HVV.out hE hle); have HW : Hid (Wrote R 2 5 w15 w16) := hW.undrew; have HF := Lib.hid hF; obtain ⟨V0', V1', V2', V3'⟩ := HQ.out.other HW.out sD n1; obtain ⟨e0, e1, e2, e3, e4, e5, e6, e7⟩ := HE.out.other HW.out sQ (Ne.symm n3); have fz := fun j => HCQ.out.other HW.out sQ (Ne.symm n3) j; clear hE hle hW hF))
  rename_i hHeld
  clear hHeld V0 V1 V2 V3 D0 D1 D2 D3 D4 D5 D6 D7 D8 D9 D10 D11 V0' V1' V2' V3'
  go_wp2_with fail
  clear e0 e1 e2 e3 e4 e5 e6 e7 fz
  have l2 : hv4 y2_0 y2_1 y2_2 y2_3 < hv4 v0 v1 v2 v3 := HS2.out.2.2
  have HL2 := Lib.hid l2
  clear l2
  have hS : Wrote Q 2 1 w16 (w16.setCell ⟨Q, 2, none⟩ (.int .u32 q2)) := Wrote.setCell (Wrote.refl _ _ _ _) (Nat.le_refl _) (by decide) _
  have hT1 := (HT.out.win2 HW.out HF.out).other hS (Nat.lt_of_lt_of_le sR HW.out.size) n3
  have hC1 : Clear R (w16.setCell ⟨Q, 2, none⟩ (.int .u32 q2)) := Clear.other (HC.out.wrote HW.out) hS (Nat.lt_of_lt_of_le sR HW.out.size) n3
  have hQ1 := (HQ.out.other HW.out sD n1).other hS (Nat.lt_of_lt_of_le sD HW.out.size) n2
  have hE1 := Eight.set2 (q := q2) (HE.out.other HW.out sQ (Ne.symm n3))
  have hCQ1 : Clear Q (w16.setCell ⟨Q, 2, none⟩ (.int .u32 q2)) := Clear.wrote (HCQ.out.other HW.out sQ (Ne.symm n3)) hS
  have hP1 := (HP.out.wrote HW.out n4).wrote hS n5
  have hZ := Nat.le_trans HW.out.size hS.size
  refine rounds_gen (fun w' => Hid (Twelve R x0 x1 y2_0 y2_1 y2_2 y2_3 y2_4 y3_4 y4_4 y5_4 y6_4 y7_4 w') ∧ Hid (Clear R w') ∧ Hid (Quad D v0 v1 v2 v3 w') ∧ Hid (Eight Q 0 0 q2 q3 q4 q5 q6 q7 w') ∧ Hid (Clear Q w') ∧ Hid (DivPro w a3 a2 a1 a0 b1 b0 w') ∧ R < w'.heap.size ∧ D < w'.heap.size ∧ Q < w'.heap.size) ?_ ?_
  · exact ⟨hT1, hC1, hQ1, hE1, hCQ1, hP1, Nat.lt_of_lt_of_le sR hZ, Nat.lt_of_lt_of_le sD hZ, Nat.lt_of_lt_of_le sQ hZ⟩
  clear HT HC HQ HE HCQ HP sR sD sQ HW HF hS hT1 hC1 hQ1 hE1 hCQ1 hP1 hZ
  clear w16 w15
  rintro w17 ⟨HT, HC, HQ, HE, HCQ, HP, sR, sD, sQ⟩
  rw [rounds_succ]; go_wp2_with fail
  obtain ⟨V0, V1, V2, V3⟩ := HQ.out
  obtain ⟨D0, D1, D2, D3, D4, D5, D6, D7, D8, D9, D10, D11⟩ := HT.out
  go_region_held3 (fun w' => w'.cell? ⟨D, 0, none⟩ = some (.int .u32 v0) ∧ w'.cell? ⟨D, 1, none⟩ = some (.int .u32 v1) ∧ w'.cell? ⟨D, 2, none⟩ = some (.int .u32 v2) ∧ w'.cell? ⟨D, 3, none⟩ = some (.int .u32 v3)) (simp [*, go_sem])
    (first
      | (go_at_call 87; refine (takeOut_any R 1 11 x1 y2_0 y2_1 y2_2 y2_3 v0 v1 v2 v3 hx1 hy2_0 hy2_1 hy2_2 hy2_3 hv0 hv1 hv2 hv3 hT HL2.out w17.drew sR (by simpa [go_sem] using D1) (by simpa [go_sem] using D2) (by simpa [go_sem] using D3) (by simpa [go_sem] using D4) (by simpa [go_sem] using D5) (by simpa [go_sem] using HC.out 1) (by simpa [go_sem] using HC.out 2) (by simpa [go_sem] using HC.out 3) (by simpa [go_sem] using HC.out 4) (by simpa [go_sem] using HC.out 5)).mono ?_; rintro e w18 ⟨y1_0, y1_1, y1_2, y1_3, y1_4, q1, rfl, hq1, hy1_0, hy1_1, hy1_2, hy1_3, hy1_4, hE, hle, hW, hF⟩; have HS1 := Lib.hid (step_of hy1_0 hy1_1 hy1_2 hy1_3 hy1_4 HVV.out hE hle); have HW : Hid (Wrote R 1 5 w17 w18) := hW.undrew; have HF := Lib.hid hF; obtain ⟨V0', V1', V2', V3'⟩ := HQ.out.other HW.out sD n1; obtain ⟨e0, e1, e2, e3, e4, e5, e6, e7⟩ := HE.out.other HW.out sQ (Ne.symm n3); have fz := fun j => HCQ.out.other HW.out sQ (Ne.symm n3) j; clear hE hle hW hF))
  rename_i hHeld
  clear hHeld V0 V1 V2 V3 D0 D1 D2 D3 D4 D5 D6 D7 D8 D9 D10 D11 V0' V1' V2' V3'
  go_wp2_with fail
  clear e0 e1 e2 e3 e4 e5 e6 e7 fz
  have l1 : hv4 y1_0 y1_1 y1_2 y1_3 < hv4 v0 v1 v2 v3 := HS1.out.2.2
  have HL1 := Lib.hid l1
  clear l1
  have hS : Wrote Q 1 1 w18 (w18.setCell ⟨Q, 1, none⟩ (.int .u32 q1)) := Wrote.setCell (Wrote.refl _ _ _ _) (Nat.le_refl _) (by decide) _
  have hT1 := (HT.out.win1 HW.out HF.out).other hS (Nat.lt_of_lt_of_le sR HW.out.size) n3
  have hC1 : Clear R (w18.setCell ⟨Q, 1, none⟩ (.int .u32 q1)) := Clear.other (HC.out.wrote HW.out) hS (Nat.lt_of_lt_of_le sR HW.out.size) n3
  have hQ1 := (HQ.out.other HW.out sD n1).other hS (Nat.lt_of_lt_of_le sD HW.out.size) n2
  have hE1 := Eight.set1 (q := q1) (HE.out.other HW.out sQ (Ne.symm n3))
  have hCQ1 : Clear Q (w18.setCell ⟨Q, 1, none⟩ (.int .u32 q1)) := Clear.wrote (HCQ.out.other HW.out sQ (Ne.symm n3)) hS
  have hP1 := (HP.out.wrote HW.out n4).wrote hS n5
  have hZ := Nat.le_trans HW.out.size hS.size
  refine rounds_gen (fun w' => Hid (Twelve R x0 y1_0 y1_1 y1_2 y1_3 y1_4 y2_4 y3_4 y4_4 y5_4 y6_4 y7_4 w') ∧ Hid (Clear R w') ∧ Hid (Quad D v0 v1 v2 v3 w') ∧ Hid (Eight Q 0 q1 q2 q3 q4 q5 q6 q7 w') ∧ Hid (Clear Q w') ∧ Hid (DivPro w a3 a2 a1 a0 b1 b0 w') ∧ R < w'.heap.size ∧ D < w'.heap.size ∧ Q < w'.heap.size) ?_ ?_
  · exact ⟨hT1, hC1, hQ1, hE1, hCQ1, hP1, Nat.lt_of_lt_of_le sR hZ, Nat.lt_of_lt_of_le sD hZ, Nat.lt_of_lt_of_le sQ hZ⟩
  clear HT HC HQ HE HCQ HP sR sD sQ HW HF hS hT1 hC1 hQ1 hE1 hCQ1 hP1 hZ
  clear w18 w17
  rintro w19 ⟨HT, HC, HQ, HE, HCQ, HP, sR, sD, sQ⟩
  rw [rounds_succ]; go_wp2_with fail
  obtain ⟨V0, V1, V2, V3⟩ := HQ.out
  obtain ⟨D0, D1, D2, D3, D4, D5, D6, D7, D8, D9, D10, D11⟩ := HT.out
  go_region_held3 (fun w' => w'.cell? ⟨D, 0, none⟩ = some (.int .u32 v0) ∧ w'.cell? ⟨D, 1, none⟩ = some (.int .u32 v1) ∧ w'.cell? ⟨D, 2, none⟩ = some (.int .u32 v2) ∧ w'.cell? ⟨D, 3, none⟩ = some (.int .u32 v3)) (simp [*, go_sem])
    (first
      | (go_at_call 87; refine (takeOut_any R 0 12 x0 y1_0 y1_1 y1_2 y1_3 v0 v1 v2 v3 hx0 hy1_0 hy1_1 hy1_2 hy1_3 hv0 hv1 hv2 hv3 hT HL1.out w19.drew sR (by simpa [go_sem] using D0) (by simpa [go_sem] using D1) (by simpa [go_sem] using D2) (by simpa [go_sem] using D3) (by simpa [go_sem] using D4) (by simpa [go_sem] using HC.out 0) (by simpa [go_sem] using HC.out 1) (by simpa [go_sem] using HC.out 2) (by simpa [go_sem] using HC.out 3) (by simpa [go_sem] using HC.out 4)).mono ?_; rintro e w20 ⟨y0_0, y0_1, y0_2, y0_3, y0_4, q0, rfl, hq0, hy0_0, hy0_1, hy0_2, hy0_3, hy0_4, hE, hle, hW, hF⟩; have HS0 := Lib.hid (step_of hy0_0 hy0_1 hy0_2 hy0_3 hy0_4 HVV.out hE hle); have HW : Hid (Wrote R 0 5 w19 w20) := hW.undrew; have HF := Lib.hid hF; obtain ⟨V0', V1', V2', V3'⟩ := HQ.out.other HW.out sD n1; obtain ⟨e0, e1, e2, e3, e4, e5, e6, e7⟩ := HE.out.other HW.out sQ (Ne.symm n3); have fz := fun j => HCQ.out.other HW.out sQ (Ne.symm n3) j; clear hE hle hW hF))
  rename_i hHeld
  clear hHeld V0 V1 V2 V3 D0 D1 D2 D3 D4 D5 D6 D7 D8 D9 D10 D11 V0' V1' V2' V3'
  go_wp2_with fail
  clear e0 e1 e2 e3 e4 e5 e6 e7 fz
  have l0 : hv4 y0_0 y0_1 y0_2 y0_3 < hv4 v0 v1 v2 v3 := HS0.out.2.2
  have HL0 := Lib.hid l0
  clear l0
  have hS : Wrote Q 0 1 w20 (w20.setCell ⟨Q, 0, none⟩ (.int .u32 q0)) := Wrote.setCell (Wrote.refl _ _ _ _) (Nat.le_refl _) (by decide) _
  have hT1 := (HT.out.win0 HW.out HF.out).other hS (Nat.lt_of_lt_of_le sR HW.out.size) n3
  have hC1 : Clear R (w20.setCell ⟨Q, 0, none⟩ (.int .u32 q0)) := Clear.other (HC.out.wrote HW.out) hS (Nat.lt_of_lt_of_le sR HW.out.size) n3
  have hQ1 := (HQ.out.other HW.out sD n1).other hS (Nat.lt_of_lt_of_le sD HW.out.size) n2
  have hE1 := Eight.set0 (q := q0) (HE.out.other HW.out sQ (Ne.symm n3))
  have hCQ1 : Clear Q (w20.setCell ⟨Q, 0, none⟩ (.int .u32 q0)) := Clear.wrote (HCQ.out.other HW.out sQ (Ne.symm n3)) hS
  have hP1 := (HP.out.wrote HW.out n4).wrote hS n5
  have hZ := Nat.le_trans HW.out.size hS.size
  refine rounds_gen (fun w' => Hid (Twelve R y0_0 y0_1 y0_2 y0_3 y0_4 y1_4 y2_4 y3_4 y4_4 y5_4 y6_4 y7_4 w') ∧ Hid (Clear R w') ∧ Hid (Quad D v0 v1 v2 v3 w') ∧ Hid (Eight Q q0 q1 q2 q3 q4 q5 q6 q7 w') ∧ Hid (Clear Q w') ∧ Hid (DivPro w a3 a2 a1 a0 b1 b0 w') ∧ R < w'.heap.size ∧ D < w'.heap.size ∧ Q < w'.heap.size) ?_ ?_
  · exact ⟨hT1, hC1, hQ1, hE1, hCQ1, hP1, Nat.lt_of_lt_of_le sR hZ, Nat.lt_of_lt_of_le sD hZ, Nat.lt_of_lt_of_le sQ hZ⟩
  clear HT HC HQ HE HCQ HP sR sD sQ HW HF hS hT1 hC1 hQ1 hE1 hCQ1 hP1 hZ
  clear w20 w19
  rintro w5 ⟨HT, HC, HQ, HE, HCQ, HP, sR, sD, sQ⟩
  obtain ⟨D0, D1, D2, D3, -, -, -, -, -, -, -, -⟩ := HT.out
  rw [rounds_succ]; go_wp2_with fail
  refine (twoOf_any y0_0 y0_1 y0_2 y0_3 hy0_0 hy0_1 hy0_2 hy0_3 w5).mono ?_
  rintro e w6 ⟨rfl, hb⟩
  have HP6 := Lib.hid (HP.out.step hb)
  have hs6 : Q < w6.heap.size := Nat.lt_of_lt_of_le sQ hb.size
  obtain ⟨e0, e1, e2, e3, e4, e5, e6, e7⟩ : Eight Q q0 q1 q2 q3 q4 q5 q6 q7 w6 := by
    obtain ⟨e0, e1, e2, e3, e4, e5, e6, e7⟩ := HE.out
    refine ⟨?_, ?_, ?_, ?_, ?_, ?_, ?_, ?_⟩ <;> (rw [(bcell hb).1 _ _ sQ]; assumption)
  have hQ6 : Q ≠ w6.heap.size := Nat.ne_of_lt hs6
  clear hb HT HC HQ HE HCQ HP sR sD sQ D0 D1 D2 D3
  have hw1 := hf_word hy0_2 hy0_3
  have hw0 := hf_word hy0_0 hy0_1
  have hwd : Wd (0 : Int) := ⟨by decide, by decide⟩
  have H5 := Lib.hid (shr_any 0 0 (y0_3 * 4294967296 + y0_2) (y0_1 * 4294967296 + y0_0) (128 - L) hwd hwd hw1 hw0 (by omega))
  have HR := Lib.hid (steps_sum HS7.out.2.1 HS6.out.2.1 HS5.out.2.1 HS4.out.2.1 HS3.out.2.1 HS2.out.2.1 HS1.out.2.1 HS0.out.2.1)
  clear HS7 HS6 HS5 HS4 HS3 HS2 HS1 HL7 HL6 HL5 HL4 HL3 HL2 HL1
  go_wp2_with fail
  go_region_held3 (fun w' => w'.cell? ⟨Q, 0, none⟩ = some (.int .u32 q0) ∧ w'.cell? ⟨Q, 1, none⟩ = some (.int .u32 q1) ∧ w'.cell? ⟨Q, 2, none⟩ = some (.int .u32 q2) ∧ w'.cell? ⟨Q, 3, none⟩ = some (.int .u32 q3) ∧ w'.cell? ⟨Q, 4, none⟩ = some (.int .u32 q4) ∧ w'.cell? ⟨Q, 5, none⟩ = some (.int .u32 q5) ∧ w'.cell? ⟨Q, 6, none⟩ = some (.int .u32 q6) ∧ w'.cell? ⟨Q, 7, none⟩ = some (.int .u32 q7) ∧ w'.cell? ⟨w6.heap.size, 0, none⟩ = some (.int .u64 (y0_3 * 4294967296 + y0_2)) ∧ w'.cell? ⟨w6.heap.size, 1, none⟩ = some (.int .u64 (y0_1 * 4294967296 + y0_0))) (simp [*, go_sem])
    (first
      | (go_at_call 84; refine (fourOf_any q0 q1 q2 q3 q4 q5 q6 q7 hq0 hq1 hq2 hq3 hq4 hq5 hq6 hq7 _).mono ?_; rintro e w7 ⟨rfl, hb⟩; have HP7 := Lib.hid (HP6.out.step (bl_trans (by repeat (first | exact Below.refl _ _ | with_reducible refine bl_al ?_ _ | with_reducible apply Below.drew)) hb)); obtain ⟨hcl, hfr⟩ := bcell hb; have hs7 : w6.heap.size < w7.heap.size := (by have hz := hb.size; simp at hz; omega); have hs7' : Q < w7.heap.size := (Nat.lt_trans hs6 hs7); have hs7'' : Q < w6.heap.size + 1 := (Nat.lt_succ_of_lt hs6); clear hb)
      | (go_at_call 68; refine (H5.out _).mono ?_; rintro e w8 ⟨rfl, hb⟩; have HP8 := Lib.hid (HP7.out.step hb); obtain ⟨hcl8, hfr8⟩ := bcell hb; have p0 := HP8.out.cq0; have p1 := HP8.out.cq1; have p2 := HP8.out.cq2; have p3 := HP8.out.cq3; have p4 := HP8.out.cr0; have p5 := HP8.out.cr1; have z2 := fun j => HP8.out.zq j; have z3 := fun j => HP8.out.zr j; clear hb))
  rename_i hHeld
  clear hHeld
  go_step
  go_step
  go_step
  refine bodyPost_ret (by simp [results, Try.results77, go_sem, *]; try rfl) rfl ?_
  refine ⟨q0, q1, q2, q3, q4, q5, q6, q7, y0_0, y0_1, y0_2, y0_3, hq0, hq1, hq2, hq3, hq4, hq5, hq6, hq7, hy0_0, hy0_1, hy0_2, hy0_3, HR.out, HS0.out.2.2, rfl, ?_⟩
  exact Below.setCell (Below.setCell (Below.setCell (Below.setCell (Below.setCell (Below.setCell HP8.out.below (by simp; omega) _) (by simp; omega) _) (by simp; omega) _) (by simp; omega) _) (by simp; omega) _) (by simp; omega) _
end Go.Proofs.Ytmelipbanbihdaa
