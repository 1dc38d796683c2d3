/- Mul: its walk. -/
import Derived.Test.YtmelipbanbihdaaDivPre
import Derived.Test.YtmelipbanbihdaaMulNum
import Derived.Deep.DeepCutAuto
namespace Go.Proofs.Ytmelipbanbihdaa
open Go.RowKit

/-- Split, of the sum that stands there. -/
theorem split_at (x y : Int) (hx : Wd x) (e : x = y) (w : World) : Calls Try.prog 83 #[.int .u64 x] w (Split y w) := by rw [← e]; exact split_ex x hx w
theorem frozen?_drew (w : World) (a : Addr) : w.drew.frozen? a = w.frozen? a := rfl
/-- What Mul has laid ahead of its first call. -/
structure MulPro (w : World) (a1 a0 b1 b0 : Int) (W : World) : Prop where
  size : w.heap.size + 2 < W.heap.size
  below : Below w.heap.size w W
  ca0 : W.cell? ⟨w.heap.size, 0, none⟩ = some (.int .u64 a1)
  ca1 : W.cell? ⟨w.heap.size, 1, none⟩ = some (.int .u64 a0)
  cb0 : W.cell? ⟨w.heap.size + 1, 0, none⟩ = some (.int .u64 b1)
  cb1 : W.cell? ⟨w.heap.size + 1, 1, none⟩ = some (.int .u64 b0)
  cq0 : W.cell? ⟨w.heap.size + 2, 0, none⟩ = some (.int .u64 0)
  cq1 : W.cell? ⟨w.heap.size + 2, 1, none⟩ = some (.int .u64 0)
  cq2 : W.cell? ⟨w.heap.size + 2, 2, none⟩ = some (.int .u64 0)
  cq3 : W.cell? ⟨w.heap.size + 2, 3, none⟩ = some (.int .u64 0)
  zq : Clear (w.heap.size + 2) W
theorem MulPro.step {w : World} {a1 a0 b1 b0 : Int} {W W' : World} (h : MulPro w a1 a0 b1 b0 W) (g : Below W.heap.size W W') : MulPro w a1 a0 b1 b0 W' := by
  have hs := h.size
  have c := (bcell g).1
  refine ⟨Nat.lt_of_lt_of_le h.size g.size, bl_trans h.below g, ?_, ?_, ?_, ?_, ?_, ?_, ?_, ?_, fun j => ?_⟩
  · rw [c _ _ (by omega)]; exact h.ca0
  · rw [c _ _ (by omega)]; exact h.ca1
  · rw [c _ _ (by omega)]; exact h.cb0
  · rw [c _ _ (by omega)]; exact h.cb1
  · rw [c _ _ (by omega)]; exact h.cq0
  · rw [c _ _ (by omega)]; exact h.cq1
  · rw [c _ _ (by omega)]; exact h.cq2
  · rw [c _ _ (by omega)]; exact h.cq3
  · rw [(bcell g).2 _ _ (by omega)]; exact h.zq j
theorem MulPro.wrote {w : World} {a1 a0 b1 b0 : Int} {B o n : Nat} {W W' : World} (h : MulPro w a1 a0 b1 b0 W) (g : Wrote B o n W W') (hB : w.heap.size + 2 < B) : MulPro w a1 a0 b1 b0 W' := by
  have hs := h.size
  have c := fun b j (hb : b < W.heap.size) (hn : b ≠ B) => g.other (j := j) hb hn
  refine ⟨Nat.lt_of_lt_of_le h.size g.size, h.below.trans (g.below (B0 := w.heap.size) (by omega) (by omega)), ?_, ?_, ?_, ?_, ?_, ?_, ?_, ?_, fun j => ?_⟩
  · rw [c _ _ (by omega) (by omega)]; exact h.ca0
  · rw [c _ _ (by omega) (by omega)]; exact h.ca1
  · rw [c _ _ (by omega) (by omega)]; exact h.cb0
  · rw [c _ _ (by omega) (by omega)]; exact h.cb1
  · rw [c _ _ (by omega) (by omega)]; exact h.cq0
  · rw [c _ _ (by omega) (by omega)]; exact h.cq1
  · rw [c _ _ (by omega) (by omega)]; exact h.cq2
  · rw [c _ _ (by omega) (by omega)]; exact h.cq3
  · rw [World.frozen?_of_block (a := ⟨w.heap.size + 2, j, none⟩) (g.block (w.heap.size + 2) (by omega) (by omega))]; exact h.zq j
theorem MulPro.upto {w : World} {a1 a0 b1 b0 : Int} {W W' : World} (h : MulPro w a1 a0 b1 b0 W) (g : Below (w.heap.size + 3) W W') : MulPro w a1 a0 b1 b0 W' := by
  have c := fun j b (hb : b < w.heap.size + 3) => g.cell (p := ⟨b, j, none⟩) hb
  refine ⟨Nat.lt_of_lt_of_le h.size g.size, h.below.trans (g.mono (by omega)), ?_, ?_, ?_, ?_, ?_, ?_, ?_, ?_, fun j => ?_⟩
  · rw [c _ _ (by omega)]; exact h.ca0
  · rw [c _ _ (by omega)]; exact h.ca1
  · rw [c _ _ (by omega)]; exact h.cb0
  · rw [c _ _ (by omega)]; exact h.cb1
  · rw [c _ _ (by omega)]; exact h.cq0
  · rw [c _ _ (by omega)]; exact h.cq1
  · rw [c _ _ (by omega)]; exact h.cq2
  · rw [c _ _ (by omega)]; exact h.cq3
  · rw [g.frozen (p := ⟨w.heap.size + 2, j, none⟩) (by show w.heap.size + 2 < w.heap.size + 3; omega)]; exact h.zq j
def MulGot (V : Int) (w : World) (e : Ending) (w' : World) : Prop := ∃ r0 r1 r2 r3 r4 r5 r6 r7 : Int, Hf r0 ∧ Hf r1 ∧ Hf r2 ∧ Hf r3 ∧ Hf r4 ∧ Hf r5 ∧ Hf r6 ∧ Hf r7 ∧ hv4 r0 r1 r2 r3 + hv4 r4 r5 r6 r7 * 340282366920938463463374607431768211456 = V ∧
  e = .returned (.agg #[.int .u64 (r7 * 4294967296 + r6), .int .u64 (r5 * 4294967296 + r4), .int .u64 (r3 * 4294967296 + r2), .int .u64 (r1 * 4294967296 + r0)]) ∧ Below w.heap.size w w'
set_option maxHeartbeats 8000000 in
theorem mul_walk (a1 a0 b1 b0 x0 x1 x2 x3 y0 y1 y2 y3 : Int) (hx0 : Hf x0) (hx1 : Hf x1) (hx2 : Hf x2) (hx3 : Hf x3) (hy0 : Hf y0) (hy1 : Hf y1) (hy2 : Hf y2) (hy3 : Hf y3) (w : World)
    (C1 : ∀ W, Calls Try.prog 82 #[.agg #[.int .u64 a1, .int .u64 a0]] W fun e w' => e = .returned (.agg #[.int .u32 x0, .int .u32 x1, .int .u32 x2, .int .u32 x3]) ∧ Below W.heap.size W w')
    (C2 : ∀ W, Calls Try.prog 82 #[.agg #[.int .u64 b1, .int .u64 b0]] W fun e w' => e = .returned (.agg #[.int .u32 y0, .int .u32 y1, .int .u32 y2, .int .u32 y3]) ∧ Below W.heap.size W w') :
    Calls Try.prog 69 #[.agg #[.int .u64 a1, .int .u64 a0], .agg #[.int .u64 b1, .int .u64 b0]] w (MulGot (hv4 x0 x1 x2 x3 * hv4 y0 y1 y2 y3) w) := by
  have H1 := Lib.hid C1; have H2 := Lib.hid C2
  clear C1 C2
  obtain ⟨i0, i1, i2, i3⟩ := index4 (.int .u32 x0) (.int .u32 x1) (.int .u32 x2) (.int .u32 x3)
  obtain ⟨j0, j1, j2, j3⟩ := index4 (.int .u32 y0) (.int .u32 y1) (.int .u32 y2) (.int .u32 y3)
  go_enter Try.func69, Try.ntmps69
  go_wp2_with fail
  have P0 : MulPro w a1 a0 b1 b0 (((w.alloc (.cells #[.int .u64 a1, .int .u64 a0] 51)).alloc (.cells #[.int .u64 b1, .int .u64 b0] 51)).alloc (.cells #[.int .u64 0, .int .u64 0, .int .u64 0, .int .u64 0] 70)) := by
    refine ⟨by simp, by go_grown, ?_, ?_, ?_, ?_, ?_, ?_, ?_, ?_, fun j => ?_⟩
    all_goals first | (simp [go_sem]; done) | (simp [frozen?_alloc_cells, World.frozen?]; done)
  have HP0 := Lib.hid P0
  clear P0
  have l2 : ∀ n : Nat, n < n + 1 + 1 := fun n => by omega
  go_upto_region 1 with fail
  go_cut [5, 6] (fun s5 s6 wx => ∃ bx cx : Nat, s5 = .pointer (some ⟨bx, 0, none⟩) ∧ s6 = .pointer (some ⟨cx, 0, none⟩) ∧ Quad bx x0 x1 x2 x3 wx ∧ Quad cx y0 y1 y2 y3 wx ∧ MulPro w a1 a0 b1 b0 wx ∧ bx < wx.heap.size ∧ cx < wx.heap.size)
  case first =>
    go_region_held3 (fun w' => w'.cell? ⟨w.heap.size, 0, none⟩ = some (.int .u64 a1) ∧ w'.cell? ⟨w.heap.size, 1, none⟩ = some (.int .u64 a0) ∧ w'.cell? ⟨w.heap.size + 1, 0, none⟩ = some (.int .u64 b1) ∧ w'.cell? ⟨w.heap.size + 1, 1, none⟩ = some (.int .u64 b0)) (simp [*, go_sem])
      (first
        | (go_at_call 82; (with_reducible refine (H1.out _).mono ?_); rintro e w1 ⟨rfl, hb⟩; have HP1 := Lib.hid (HP0.out.step (bl_trans (by repeat (first | exact Below.refl _ _ | with_reducible refine bl_al ?_ _ | with_reducible apply Below.drew)) hb)); obtain ⟨hcl, hfr⟩ := bcell hb; have hsz := hb.size; (try simp at hsz); have c0 := HP1.out.ca0; have c1 := HP1.out.ca1; have c2 := HP1.out.cb0; have c3 := HP1.out.cb1; have s1 := HP1.out.size; have s2 : w.heap.size < w1.heap.size := (by omega); have s3 : w.heap.size + 1 < w1.heap.size := (by omega); have s4 : w.heap.size ≤ w1.heap.size := (by omega); (try have s5 : w.heap.size + 1 + 1 + 1 < w1.heap.size := (by omega)); (try have s6 : w.heap.size + 1 + 1 + 1 + 1 < w1.heap.size := (by omega)); clear hb)
        | (go_at_call 82; (with_reducible refine (H2.out _).mono ?_); rintro e w2 ⟨rfl, hb⟩; have HP2 := Lib.hid (HP1.out.step (bl_trans (by repeat (first | exact Below.refl _ _ | with_reducible refine bl_al ?_ _ | with_reducible apply Below.drew)) hb)); obtain ⟨hcl2, hfr2⟩ := bcell hb; have hsz2 := hb.size; (try simp at hsz2); have d0 := HP2.out.ca0; have d1 := HP2.out.ca1; have d2 := HP2.out.cb0; have d3 := HP2.out.cb1; have d4 := HP2.out.size; have d5 : w.heap.size < w2.heap.size := (by omega); have d6 : w.heap.size + 1 < w2.heap.size := (by omega); have d7 : w.heap.size ≤ w2.heap.size := (by omega); have d8 : w1.heap.size ≤ w2.heap.size := (by omega); (try have d9 : w1.heap.size < w2.heap.size := (by omega)); (try have d10 : w1.heap.size + 1 < w2.heap.size := (by omega)); (try have d11 : w.heap.size + 1 + 1 + 1 < w2.heap.size := (by omega)); (try have d12 : w.heap.size + 1 + 1 + 1 + 1 < w2.heap.size := (by omega)); clear hb))
    all_goals (rename_i hHeld; clear hHeld; go_wp2_with fail; go_meet; refine ⟨_, _, rfl, rfl, ?_, ?_, HP2.out.upto (by go_grown), by simp <;> omega, by simp <;> omega⟩ <;> (unfold Quad; simp [go_sem, *]))
  case rest =>
    obtain ⟨bx, cx, rfl, rfl, ⟨qx0, qx1, qx2, qx3⟩, ⟨qy0, qy1, qy2, qy3⟩, P, sx, sy⟩ := hcut
    have HP2 := Lib.hid P
    clear P HP0 H1 H2 l2
    have b_x0 := hx0.1; have b_x0' := hx0.2
    have b_x1 := hx1.1; have b_x1' := hx1.2
    have b_x2 := hx2.1; have b_x2' := hx2.2
    have b_x3 := hx3.1; have b_x3' := hx3.2
    have b_y0 := hy0.1; have b_y0' := hy0.2
    have b_y1 := hy1.1; have b_y1' := hy1.2
    have b_y2 := hy2.1; have b_y2' := hy2.2
    have b_y3 := hy3.1; have b_y3' := hy3.2
    have m00 := half_prod hx0 hy0; have m00' := m00.1; have m00'' := m00.2; have f00 : IntKind.u64.wrap (x0 * y0) = x0 * y0 := IntWalk.u64_in _ (by omega); clear m00
    have m01 := half_prod hx0 hy1; have m01' := m01.1; have m01'' := m01.2; have f01 : IntKind.u64.wrap (x0 * y1) = x0 * y1 := IntWalk.u64_in _ (by omega); clear m01
    have m02 := half_prod hx0 hy2; have m02' := m02.1; have m02'' := m02.2; have f02 : IntKind.u64.wrap (x0 * y2) = x0 * y2 := IntWalk.u64_in _ (by omega); clear m02
    have m03 := half_prod hx0 hy3; have m03' := m03.1; have m03'' := m03.2; have f03 : IntKind.u64.wrap (x0 * y3) = x0 * y3 := IntWalk.u64_in _ (by omega); clear m03
    have m10 := half_prod hx1 hy0; have m10' := m10.1; have m10'' := m10.2; have f10 : IntKind.u64.wrap (x1 * y0) = x1 * y0 := IntWalk.u64_in _ (by omega); clear m10
    have m11 := half_prod hx1 hy1; have m11' := m11.1; have m11'' := m11.2; have f11 : IntKind.u64.wrap (x1 * y1) = x1 * y1 := IntWalk.u64_in _ (by omega); clear m11
    have m12 := half_prod hx1 hy2; have m12' := m12.1; have m12'' := m12.2; have f12 : IntKind.u64.wrap (x1 * y2) = x1 * y2 := IntWalk.u64_in _ (by omega); clear m12
    have m13 := half_prod hx1 hy3; have m13' := m13.1; have m13'' := m13.2; have f13 : IntKind.u64.wrap (x1 * y3) = x1 * y3 := IntWalk.u64_in _ (by omega); clear m13
    have m20 := half_prod hx2 hy0; have m20' := m20.1; have m20'' := m20.2; have f20 : IntKind.u64.wrap (x2 * y0) = x2 * y0 := IntWalk.u64_in _ (by omega); clear m20
    have m21 := half_prod hx2 hy1; have m21' := m21.1; have m21'' := m21.2; have f21 : IntKind.u64.wrap (x2 * y1) = x2 * y1 := IntWalk.u64_in _ (by omega); clear m21
    have m22 := half_prod hx2 hy2; have m22' := m22.1; have m22'' := m22.2; have f22 : IntKind.u64.wrap (x2 * y2) = x2 * y2 := IntWalk.u64_in _ (by omega); clear m22
    have m23 := half_prod hx2 hy3; have m23' := m23.1; have m23'' := m23.2; have f23 : IntKind.u64.wrap (x2 * y3) = x2 * y3 := IntWalk.u64_in _ (by omega); clear m23
    have m30 := half_prod hx3 hy0; have m30' := m30.1; have m30'' := m30.2; have f30 : IntKind.u64.wrap (x3 * y0) = x3 * y0 := IntWalk.u64_in _ (by omega); clear m30
    have m31 := half_prod hx3 hy1; have m31' := m31.1; have m31'' := m31.2; have f31 : IntKind.u64.wrap (x3 * y1) = x3 * y1 := IntWalk.u64_in _ (by omega); clear m31
    have m32 := half_prod hx3 hy2; have m32' := m32.1; have m32'' := m32.2; have f32 : IntKind.u64.wrap (x3 * y2) = x3 * y2 := IntWalk.u64_in _ (by omega); clear m32
    have m33 := half_prod hx3 hy3; have m33' := m33.1; have m33'' := m33.2; have f33 : IntKind.u64.wrap (x3 * y3) = x3 * y3 := IntWalk.u64_in _ (by omega); clear m33
    go_wp2_with fail
    refine wp_loop_rounds 5 ?_
    rw [rounds_succ]; go_wp2_with fail
    refine wp_loop_rounds 5 ?_
    rw [rounds_succ]; go_wp2_with fail
    refine (split_ex _ ⟨by omega, by omega⟩ _).mono ?_
    rintro e wz ⟨r00, o00, rfl, hr00, ho00, E00, rfl⟩
    have lr00 := hr00.1; have ur00 := hr00.2; have lo00 := ho00.1; have uo00 := ho00.2
    go_wp2_with fail
    rw [rounds_succ]; go_wp2_with fail
    refine (split_ex _ ⟨by omega, by omega⟩ _).mono ?_
    rintro e wz ⟨r01, o01, rfl, hr01, ho01, E01, rfl⟩
    have lr01 := hr01.1; have ur01 := hr01.2; have lo01 := ho01.1; have uo01 := ho01.2
    clear lo00 uo00
    go_wp2_with fail
    rw [rounds_succ]; go_wp2_with fail
    refine (split_ex _ ⟨by omega, by omega⟩ _).mono ?_
    rintro e wz ⟨r02, o02, rfl, hr02, ho02, E02, rfl⟩
    have lr02 := hr02.1; have ur02 := hr02.2; have lo02 := ho02.1; have uo02 := ho02.2
    clear lo01 uo01
    go_wp2_with fail
    rw [rounds_succ]; go_wp2_with fail
    refine (split_ex _ ⟨by omega, by omega⟩ _).mono ?_
    rintro e wz ⟨r03, o03, rfl, hr03, ho03, E03, rfl⟩
    have lr03 := hr03.1; have ur03 := hr03.2; have lo03 := ho03.1; have uo03 := ho03.2
    clear lo02 uo02
    go_wp2_with fail
    rw [rounds_succ]; go_wp2_with fail
    rw [rounds_succ]; go_wp2_with fail
    refine wp_loop_rounds 5 ?_
    rw [rounds_succ]; go_wp2_with fail
    refine (split_ex _ ⟨by omega, by omega⟩ _).mono ?_
    rintro e wz ⟨r10, o10, rfl, hr10, ho10, E10, rfl⟩
    have lr10 := hr10.1; have ur10 := hr10.2; have lo10 := ho10.1; have uo10 := ho10.2
    clear lr01 ur01
    go_wp2_with fail
    rw [rounds_succ]; go_wp2_with fail
    refine (split_ex _ ⟨by omega, by omega⟩ _).mono ?_
    rintro e wz ⟨r11, o11, rfl, hr11, ho11, E11, rfl⟩
    have lr11 := hr11.1; have ur11 := hr11.2; have lo11 := ho11.1; have uo11 := ho11.2
    clear lr02 ur02
    clear lo10 uo10
    go_wp2_with fail
    rw [rounds_succ]; go_wp2_with fail
    refine (split_ex _ ⟨by omega, by omega⟩ _).mono ?_
    rintro e wz ⟨r12, o12, rfl, hr12, ho12, E12, rfl⟩
    have lr12 := hr12.1; have ur12 := hr12.2; have lo12 := ho12.1; have uo12 := ho12.2
    clear lr03 ur03
    clear lo11 uo11
    go_wp2_with fail
    rw [rounds_succ]; go_wp2_with fail
    refine (split_ex _ ⟨by omega, by omega⟩ _).mono ?_
    rintro e wz ⟨r13, o13, rfl, hr13, ho13, E13, rfl⟩
    have lr13 := hr13.1; have ur13 := hr13.2; have lo13 := ho13.1; have uo13 := ho13.2
    clear lo03 uo03
    clear lo12 uo12
    go_wp2_with fail
    rw [rounds_succ]; go_wp2_with fail
    rw [rounds_succ]; go_wp2_with fail
    refine wp_loop_rounds 5 ?_
    rw [rounds_succ]; go_wp2_with fail
    refine (split_ex _ ⟨by omega, by omega⟩ _).mono ?_
    rintro e wz ⟨r20, o20, rfl, hr20, ho20, E20, rfl⟩
    have lr20 := hr20.1; have ur20 := hr20.2; have lo20 := ho20.1; have uo20 := ho20.2
    clear lr11 ur11
    go_wp2_with fail
    rw [rounds_succ]; go_wp2_with fail
    refine (split_ex _ ⟨by omega, by omega⟩ _).mono ?_
    rintro e wz ⟨r21, o21, rfl, hr21, ho21, E21, rfl⟩
    have lr21 := hr21.1; have ur21 := hr21.2; have lo21 := ho21.1; have uo21 := ho21.2
    clear lr12 ur12
    clear lo20 uo20
    go_wp2_with fail
    rw [rounds_succ]; go_wp2_with fail
    refine (split_ex _ ⟨by omega, by omega⟩ _).mono ?_
    rintro e wz ⟨r22, o22, rfl, hr22, ho22, E22, rfl⟩
    have lr22 := hr22.1; have ur22 := hr22.2; have lo22 := ho22.1; have uo22 := ho22.2
    clear lr13 ur13
    clear lo21 uo21
    go_wp2_with fail
    rw [rounds_succ]; go_wp2_with fail
    refine (split_ex _ ⟨by omega, by omega⟩ _).mono ?_
    rintro e wz ⟨r23, o23, rfl, hr23, ho23, E23, rfl⟩
    have lr23 := hr23.1; have ur23 := hr23.2; have lo23 := ho23.1; have uo23 := ho23.2
    clear lo13 uo13
    clear lo22 uo22
    go_wp2_with fail
    rw [rounds_succ]; go_wp2_with fail
    rw [rounds_succ]; go_wp2_with fail
    refine wp_loop_rounds 5 ?_
    rw [rounds_succ]; go_wp2_with fail
    refine (split_ex _ ⟨by omega, by omega⟩ _).mono ?_
    rintro e wz ⟨r30, o30, rfl, hr30, ho30, E30, rfl⟩
    have lr30 := hr30.1; have ur30 := hr30.2; have lo30 := ho30.1; have uo30 := ho30.2
    clear lr21 ur21
    go_wp2_with fail
    rw [rounds_succ]; go_wp2_with fail
    refine (split_ex _ ⟨by omega, by omega⟩ _).mono ?_
    rintro e wz ⟨r31, o31, rfl, hr31, ho31, E31, rfl⟩
    have lr31 := hr31.1; have ur31 := hr31.2; have lo31 := ho31.1; have uo31 := ho31.2
    clear lr22 ur22
    clear lo30 uo30
    go_wp2_with fail
    rw [rounds_succ]; go_wp2_with fail
    refine (split_ex _ ⟨by omega, by omega⟩ _).mono ?_
    rintro e wz ⟨r32, o32, rfl, hr32, ho32, E32, rfl⟩
    have lr32 := hr32.1; have ur32 := hr32.2; have lo32 := ho32.1; have uo32 := ho32.2
    clear lr23 ur23
    clear lo31 uo31
    go_wp2_with fail
    rw [rounds_succ]; go_wp2_with fail
    refine (split_ex _ ⟨by omega, by omega⟩ _).mono ?_
    rintro e wz ⟨r33, o33, rfl, hr33, ho33, E33, rfl⟩
    have lr33 := hr33.1; have ur33 := hr33.2; have lo33 := ho33.1; have uo33 := ho33.2
    clear lo23 uo23
    clear lo32 uo32
    go_wp2_with fail
    rw [rounds_succ]; go_wp2_with fail
    rw [rounds_succ]; go_wp2_with fail
    refine (fourOf_any r00 r10 r20 r30 r31 r32 r33 o33 hr00 hr10 hr20 hr30 hr31 hr32 hr33 ho33 _).mono ?_
    rintro e w3 ⟨rfl, hb⟩
    have HP3 := Lib.hid (HP2.out.step (bl_trans (by repeat (first | exact Below.refl _ _ | with_reducible refine bl_al ?_ _ | with_reducible apply Below.drew)) hb))
    have t0 := HP3.out.cq0; have t1 := HP3.out.cq1; have t2 := HP3.out.cq2; have t3 := HP3.out.cq3; have tz := fun j => HP3.out.zq j
    clear hb
    clear f00 f01 f02 f03 f10 f11 f12 f13 f20 f21 f22 f23 f30 f31 f32 f33
    have fin := HP3.out.below
    dsimp only
    rename_i hK
    refine hK _ _ ?_
    go_step
    go_step
    go_step
    go_step
    go_step
    go_step
    go_step
    refine bodyPost_ret (by simp [results, Try.results69, go_sem, t0, t1, t2, t3]; try rfl) rfl ?_
    have R0 : hv4 r00 r01 r02 r03 + o03 * 340282366920938463463374607431768211456 = hv4 0 0 0 0 + x0 * hv4 y0 y1 y2 y3 := row_sum (o1 := o00) (o2 := o01) (o3 := o02) (by have := E00.out; omega) (by have := E01.out; omega) (by have := E02.out; omega) (by have := E03.out; omega)
    have R1 := row_sum E10.out E11.out E12.out E13.out
    have R2 := row_sum E20.out E21.out E22.out E23.out
    have R3 := row_sum E30.out E31.out E32.out E33.out
    have RS := rows_sum R0 R1 R2 R3
    have sz := HP3.out.size
    exact ⟨r00, r10, r20, r30, r31, r32, r33, o33, hr00, hr10, hr20, hr30, hr31, hr32, hr33, ho33, RS, rfl, Below.setCell (Below.setCell (Below.setCell (Below.setCell fin (by simp; omega) _) (by simp; omega) _) (by simp; omega) _) (by simp; omega) _⟩
end Go.Proofs.Ytmelipbanbihdaa
