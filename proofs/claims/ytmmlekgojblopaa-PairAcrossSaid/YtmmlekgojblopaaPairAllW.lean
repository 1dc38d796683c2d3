/- PairAll, as walks. -/
import Derived.Test.YtmmlekgojblopaaPairLaw
namespace Go.Proofs.Ytmmlekgojblopaa
open Go.RowKit
set_option maxRecDepth 20000 in
set_option maxHeartbeats 8000000 in
theorem pairAll_no (gh gl ah al bh bl dxh dxl dyh dyl eph epl th tl : Int) (w : World)
    (C1 : Ct 9 #[.agg #[.int .i64 gh, .int .u64 gl], .agg #[.int .i64 ah, .int .u64 al], .agg #[.int .i64 bh, .int .u64 bl], .agg #[.int .i64 dxh, .int .u64 dxl, .int .i64 dyh, .int .u64 dyl], .agg #[.int .i64 eph, .int .u64 epl], .agg #[.int .i64 th, .int .u64 tl]] (.bool false))
    (C2 : Ct 10 #[] (.bool true)) :
    Calls Try.prog 3 #[.agg #[.int .i64 gh, .int .u64 gl], .agg #[.int .i64 ah, .int .u64 al], .agg #[.int .i64 bh, .int .u64 bl], .agg #[.int .i64 dxh, .int .u64 dxl, .int .i64 dyh, .int .u64 dyl], .agg #[.int .i64 eph, .int .u64 epl], .agg #[.int .i64 th, .int .u64 tl]] w fun e w' => e = .returned (.bool true) ∧ Below w.heap.size w w' := by
  have K1 := Lib.hid C1; have K2 := Lib.hid C2
  clear C1 C2
  go_enter Try.func3, Try.ntmps3
  go_upto_region 1 with fail
  refine nw _ fun y0 hy => ?_
  have cg : Bx 24 y0 (w.heap.size) [.int .i64 gh, .int .u64 gl] := by
    have k := Bx.new w 24 #[.int .i64 gh, .int .u64 gl]
    rw [hy]; exact (((((k.alloc _).alloc _).alloc _).alloc _).alloc _)
  have ca : Bx 24 y0 (w.heap.size + 1) [.int .i64 ah, .int .u64 al] := by
    have k := Bx.new (w.alloc (.cells #[.int .i64 gh, .int .u64 gl] 24)) 24 #[.int .i64 ah, .int .u64 al]
    simp only [World.size_alloc] at k
    rw [hy]; exact ((((k.alloc _).alloc _).alloc _).alloc _)
  have cb : Bx 24 y0 (w.heap.size + 1 + 1) [.int .i64 bh, .int .u64 bl] := by
    have k := Bx.new ((w.alloc (.cells #[.int .i64 gh, .int .u64 gl] 24)).alloc (.cells #[.int .i64 ah, .int .u64 al] 24)) 24 #[.int .i64 bh, .int .u64 bl]
    simp only [World.size_alloc] at k
    rw [hy]; exact (((k.alloc _).alloc _).alloc _)
  have cd : Bx 26 y0 (w.heap.size + 1 + 1 + 1) [.int .i64 dxh, .int .u64 dxl, .int .i64 dyh, .int .u64 dyl] := by
    have k := Bx.new (((w.alloc (.cells #[.int .i64 gh, .int .u64 gl] 24)).alloc (.cells #[.int .i64 ah, .int .u64 al] 24)).alloc (.cells #[.int .i64 bh, .int .u64 bl] 24)) 26 #[.int .i64 dxh, .int .u64 dxl, .int .i64 dyh, .int .u64 dyl]
    simp only [World.size_alloc] at k
    rw [hy]; exact ((k.alloc _).alloc _)
  have cep : Bx 24 y0 (w.heap.size + 1 + 1 + 1 + 1) [.int .i64 eph, .int .u64 epl] := by
    have k := Bx.new ((((w.alloc (.cells #[.int .i64 gh, .int .u64 gl] 24)).alloc (.cells #[.int .i64 ah, .int .u64 al] 24)).alloc (.cells #[.int .i64 bh, .int .u64 bl] 24)).alloc (.cells #[.int .i64 dxh, .int .u64 dxl, .int .i64 dyh, .int .u64 dyl] 26)) 24 #[.int .i64 eph, .int .u64 epl]
    simp only [World.size_alloc] at k
    rw [hy]; exact (k.alloc _)
  have ct : Bx 24 y0 (w.heap.size + 1 + 1 + 1 + 1 + 1) [.int .i64 th, .int .u64 tl] := by
    have k := Bx.new (((((w.alloc (.cells #[.int .i64 gh, .int .u64 gl] 24)).alloc (.cells #[.int .i64 ah, .int .u64 al] 24)).alloc (.cells #[.int .i64 bh, .int .u64 bl] 24)).alloc (.cells #[.int .i64 dxh, .int .u64 dxl, .int .i64 dyh, .int .u64 dyl] 26)).alloc (.cells #[.int .i64 eph, .int .u64 epl] 24)) 24 #[.int .i64 th, .int .u64 tl]
    simp only [World.size_alloc] at k
    rw [hy]; exact k
  have H0 : Hid (Below w.heap.size w y0) := by rw [hy]; exact bl_al (bl_al (bl_al (bl_al (bl_al (bl_al (Below.refl _ _) _) _) _) _) _) _
  have Y0 : Hid (Below y0.heap.size y0 y0) := Below.refl _ _
  have pg0 := Lib.hid (stays (cg.cell (j := 0) rfl) cg.lt); have pg1 := Lib.hid (stays (cg.cell (j := 1) rfl) cg.lt)
  have pa0 := Lib.hid (stays (ca.cell (j := 0) rfl) ca.lt); have pa1 := Lib.hid (stays (ca.cell (j := 1) rfl) ca.lt)
  have pb0 := Lib.hid (stays (cb.cell (j := 0) rfl) cb.lt); have pb1 := Lib.hid (stays (cb.cell (j := 1) rfl) cb.lt)
  have pd0 := Lib.hid (stays (cd.cell (j := 0) rfl) cd.lt); have pd1 := Lib.hid (stays (cd.cell (j := 1) rfl) cd.lt); have pd2 := Lib.hid (stays (cd.cell (j := 2) rfl) cd.lt); have pd3 := Lib.hid (stays (cd.cell (j := 3) rfl) cd.lt)
  have pep0 := Lib.hid (stays (cep.cell (j := 0) rfl) cep.lt); have pep1 := Lib.hid (stays (cep.cell (j := 1) rfl) cep.lt)
  have pt0 := Lib.hid (stays (ct.cell (j := 0) rfl) ct.lt); have pt1 := Lib.hid (stays (ct.cell (j := 1) rfl) ct.lt)
  clear hy cg ca cb cd cep ct
  have g_0 := pg0.out y0 Y0.out; have g_1 := pg1.out y0 Y0.out; have a_0 := pa0.out y0 Y0.out; have a_1 := pa1.out y0 Y0.out; have b_0 := pb0.out y0 Y0.out; have b_1 := pb1.out y0 Y0.out; have d_0 := pd0.out y0 Y0.out; have d_1 := pd1.out y0 Y0.out; have d_2 := pd2.out y0 Y0.out; have d_3 := pd3.out y0 Y0.out; have ep_0 := pep0.out y0 Y0.out; have ep_1 := pep1.out y0 Y0.out; have t_0 := pt0.out y0 Y0.out; have t_1 := pt1.out y0 Y0.out
  go_wp2_with fail
  refine (K1.out _).mono ?_
  rintro e w1 ⟨rfl, hb⟩
  have Y1 := Lib.hid (bl_trans Y0.out hb)
  clear hb g_0 g_1 a_0 a_1 b_0 b_1 d_0 d_1 d_2 d_3 ep_0 ep_1 t_0 t_1
  go_wp2_with fail
  refine (K2.out _).mono ?_
  rintro e w2 ⟨rfl, hb⟩
  have Y2 := bl_trans Y1.out hb
  clear hb
  go_wp2_with fail
  go_returns
  exact ⟨rfl, bl_trans H0.out Y2⟩
set_option maxRecDepth 20000 in
set_option maxHeartbeats 8000000 in
theorem pairAll_yes (gh gl ah al bh bl dxh dxl dyh dyl eph epl th tl xxh xxl xyh xyl ee : Int) (w : World)
    (C1 : Ct 9 #[.agg #[.int .i64 gh, .int .u64 gl], .agg #[.int .i64 ah, .int .u64 al], .agg #[.int .i64 bh, .int .u64 bl], .agg #[.int .i64 dxh, .int .u64 dxl, .int .i64 dyh, .int .u64 dyl], .agg #[.int .i64 eph, .int .u64 epl], .agg #[.int .i64 th, .int .u64 tl]] (.bool true))
    (C2 : Ct 11 #[.agg #[.int .i64 gh, .int .u64 gl], .agg #[.int .i64 ah, .int .u64 al], .agg #[.int .i64 bh, .int .u64 bl], .agg #[.int .i64 dxh, .int .u64 dxl, .int .i64 dyh, .int .u64 dyl], .agg #[.int .i64 eph, .int .u64 epl], .agg #[.int .i64 th, .int .u64 tl]] (.tuple #[.agg #[.int .i64 xxh, .int .u64 xxl, .int .i64 xyh, .int .u64 xyl], .int .i64 ee]))
    (C3 : Ct 12 #[.agg #[.int .i64 gh, .int .u64 gl], .agg #[.int .i64 ah, .int .u64 al], .agg #[.int .i64 bh, .int .u64 bl], .agg #[.int .i64 dxh, .int .u64 dxl, .int .i64 dyh, .int .u64 dyl], .agg #[.int .i64 eph, .int .u64 epl], .agg #[.int .i64 th, .int .u64 tl]] (.agg #[.int .i64 xxh, .int .u64 xxl, .int .i64 xyh, .int .u64 xyl, .int .i64 ee]))
    (C4 : Ct 13 #[.int .i64 ee] (.int .i64 ee))
    (C5 : Ct 10 #[] (.bool true)) :
    Calls Try.prog 3 #[.agg #[.int .i64 gh, .int .u64 gl], .agg #[.int .i64 ah, .int .u64 al], .agg #[.int .i64 bh, .int .u64 bl], .agg #[.int .i64 dxh, .int .u64 dxl, .int .i64 dyh, .int .u64 dyl], .agg #[.int .i64 eph, .int .u64 epl], .agg #[.int .i64 th, .int .u64 tl]] w fun e w' => e = .returned (.bool true) ∧ Below w.heap.size w w' := by
  have K1 := Lib.hid C1; have K2 := Lib.hid C2; have K3 := Lib.hid C3; have K4 := Lib.hid C4; have K5 := Lib.hid C5
  clear C1 C2 C3 C4 C5
  go_enter Try.func3, Try.ntmps3
  go_upto_region 1 with fail
  refine nw _ fun y0 hy => ?_
  have cg : Bx 24 y0 (w.heap.size) [.int .i64 gh, .int .u64 gl] := by
    have k := Bx.new w 24 #[.int .i64 gh, .int .u64 gl]
    rw [hy]; exact (((((k.alloc _).alloc _).alloc _).alloc _).alloc _)
  have ca : Bx 24 y0 (w.heap.size + 1) [.int .i64 ah, .int .u64 al] := by
    have k := Bx.new (w.alloc (.cells #[.int .i64 gh, .int .u64 gl] 24)) 24 #[.int .i64 ah, .int .u64 al]
    simp only [World.size_alloc] at k
    rw [hy]; exact ((((k.alloc _).alloc _).alloc _).alloc _)
  have cb : Bx 24 y0 (w.heap.size + 1 + 1) [.int .i64 bh, .int .u64 bl] := by
    have k := Bx.new ((w.alloc (.cells #[.int .i64 gh, .int .u64 gl] 24)).alloc (.cells #[.int .i64 ah, .int .u64 al] 24)) 24 #[.int .i64 bh, .int .u64 bl]
    simp only [World.size_alloc] at k
    rw [hy]; exact (((k.alloc _).alloc _).alloc _)
  have cd : Bx 26 y0 (w.heap.size + 1 + 1 + 1) [.int .i64 dxh, .int .u64 dxl, .int .i64 dyh, .int .u64 dyl] := by
    have k := Bx.new (((w.alloc (.cells #[.int .i64 gh, .int .u64 gl] 24)).alloc (.cells #[.int .i64 ah, .int .u64 al] 24)).alloc (.cells #[.int .i64 bh, .int .u64 bl] 24)) 26 #[.int .i64 dxh, .int .u64 dxl, .int .i64 dyh, .int .u64 dyl]
    simp only [World.size_alloc] at k
    rw [hy]; exact ((k.alloc _).alloc _)
  have cep : Bx 24 y0 (w.heap.size + 1 + 1 + 1 + 1) [.int .i64 eph, .int .u64 epl] := by
    have k := Bx.new ((((w.alloc (.cells #[.int .i64 gh, .int .u64 gl] 24)).alloc (.cells #[.int .i64 ah, .int .u64 al] 24)).alloc (.cells #[.int .i64 bh, .int .u64 bl] 24)).alloc (.cells #[.int .i64 dxh, .int .u64 dxl, .int .i64 dyh, .int .u64 dyl] 26)) 24 #[.int .i64 eph, .int .u64 epl]
    simp only [World.size_alloc] at k
    rw [hy]; exact (k.alloc _)
  have ct : Bx 24 y0 (w.heap.size + 1 + 1 + 1 + 1 + 1) [.int .i64 th, .int .u64 tl] := by
    have k := Bx.new (((((w.alloc (.cells #[.int .i64 gh, .int .u64 gl] 24)).alloc (.cells #[.int .i64 ah, .int .u64 al] 24)).alloc (.cells #[.int .i64 bh, .int .u64 bl] 24)).alloc (.cells #[.int .i64 dxh, .int .u64 dxl, .int .i64 dyh, .int .u64 dyl] 26)).alloc (.cells #[.int .i64 eph, .int .u64 epl] 24)) 24 #[.int .i64 th, .int .u64 tl]
    simp only [World.size_alloc] at k
    rw [hy]; exact k
  have H0 : Hid (Below w.heap.size w y0) := by rw [hy]; exact bl_al (bl_al (bl_al (bl_al (bl_al (bl_al (Below.refl _ _) _) _) _) _) _) _
  have Y0 : Hid (Below y0.heap.size y0 y0) := Below.refl _ _
  have pg0 := Lib.hid (stays (cg.cell (j := 0) rfl) cg.lt); have pg1 := Lib.hid (stays (cg.cell (j := 1) rfl) cg.lt)
  have pa0 := Lib.hid (stays (ca.cell (j := 0) rfl) ca.lt); have pa1 := Lib.hid (stays (ca.cell (j := 1) rfl) ca.lt)
  have pb0 := Lib.hid (stays (cb.cell (j := 0) rfl) cb.lt); have pb1 := Lib.hid (stays (cb.cell (j := 1) rfl) cb.lt)
  have pd0 := Lib.hid (stays (cd.cell (j := 0) rfl) cd.lt); have pd1 := Lib.hid (stays (cd.cell (j := 1) rfl) cd.lt); have pd2 := Lib.hid (stays (cd.cell (j := 2) rfl) cd.lt); have pd3 := Lib.hid (stays (cd.cell (j := 3) rfl) cd.lt)
  have pep0 := Lib.hid (stays (cep.cell (j := 0) rfl) cep.lt); have pep1 := Lib.hid (stays (cep.cell (j := 1) rfl) cep.lt)
  have pt0 := Lib.hid (stays (ct.cell (j := 0) rfl) ct.lt); have pt1 := Lib.hid (stays (ct.cell (j := 1) rfl) ct.lt)
  clear hy cg ca cb cd cep ct
  have g_0 := pg0.out y0 Y0.out; have g_1 := pg1.out y0 Y0.out; have a_0 := pa0.out y0 Y0.out; have a_1 := pa1.out y0 Y0.out; have b_0 := pb0.out y0 Y0.out; have b_1 := pb1.out y0 Y0.out; have d_0 := pd0.out y0 Y0.out; have d_1 := pd1.out y0 Y0.out; have d_2 := pd2.out y0 Y0.out; have d_3 := pd3.out y0 Y0.out; have ep_0 := pep0.out y0 Y0.out; have ep_1 := pep1.out y0 Y0.out; have t_0 := pt0.out y0 Y0.out; have t_1 := pt1.out y0 Y0.out
  have qv := eq_vec_same xxh xxl xyh xyl
  go_wp2_with fail
  refine (K1.out _).mono ?_
  rintro e w1 ⟨rfl, hb⟩
  have Y1 := Lib.hid (bl_trans Y0.out hb)
  clear hb g_0 g_1 a_0 a_1 b_0 b_1 d_0 d_1 d_2 d_3 ep_0 ep_1 t_0 t_1
  have g_0 := pg0.out w1 Y1.out; have g_1 := pg1.out w1 Y1.out; have a_0 := pa0.out w1 Y1.out; have a_1 := pa1.out w1 Y1.out; have b_0 := pb0.out w1 Y1.out; have b_1 := pb1.out w1 Y1.out; have d_0 := pd0.out w1 Y1.out; have d_1 := pd1.out w1 Y1.out; have d_2 := pd2.out w1 Y1.out; have d_3 := pd3.out w1 Y1.out; have ep_0 := pep0.out w1 Y1.out; have ep_1 := pep1.out w1 Y1.out; have t_0 := pt0.out w1 Y1.out; have t_1 := pt1.out w1 Y1.out
  go_upto_region 4 with (first | (go_at_call 11; (with_reducible refine (K2.out _).mono ?_); rintro e w2 ⟨rfl, hb⟩) | fail)
  refine nw _ fun y2 hy => ?_
  have jx : Hid (Bx 26 y2 w2.heap.size [.int .i64 xxh, .int .u64 xxl, .int .i64 xyh, .int .u64 xyl]) := by rw [hy]; exact Bx.new _ _ _
  have Y2 : Hid (Below y0.heap.size y0 y2) := by rw [hy]; exact bl_al (bl_trans Y1.out hb) _
  clear hy hb Y1 g_0 g_1 a_0 a_1 b_0 b_1 d_0 d_1 d_2 d_3 ep_0 ep_1 t_0 t_1
  generalize w2.heap.size = n at *
  have g_0 := pg0.out y2 Y2.out; have g_1 := pg1.out y2 Y2.out; have a_0 := pa0.out y2 Y2.out; have a_1 := pa1.out y2 Y2.out; have b_0 := pb0.out y2 Y2.out; have b_1 := pb1.out y2 Y2.out; have d_0 := pd0.out y2 Y2.out; have d_1 := pd1.out y2 Y2.out; have d_2 := pd2.out y2 Y2.out; have d_3 := pd3.out y2 Y2.out; have ep_0 := pep0.out y2 Y2.out; have ep_1 := pep1.out y2 Y2.out; have t_0 := pt0.out y2 Y2.out; have t_1 := pt1.out y2 Y2.out
  go_upto_region 5 with (first | (go_at_call 12; (with_reducible refine (K3.out _).mono ?_); rintro e w3 ⟨rfl, hb⟩) | fail)
  refine nw _ fun y3 hy => ?_
  have HW : Below y2.heap.size y2 y3 := by rw [hy]; exact bl_al hb _
  have xx : Bx 33 y3 w3.heap.size [.int .i64 xxh, .int .u64 xxl, .int .i64 xyh, .int .u64 xyl, .int .i64 ee] := by rw [hy]; exact Bx.new _ _ _
  have jy := jx.out.below HW
  have H3 := Lib.hid (bl_trans (bl_trans H0.out Y2.out) HW)
  have j0 := stays (jy.cell (j := 0) rfl) jy.lt; have j1 := stays (jy.cell (j := 1) rfl) jy.lt; have j2 := stays (jy.cell (j := 2) rfl) jy.lt; have j3 := stays (jy.cell (j := 3) rfl) jy.lt
  have x0 := stays (xx.cell (j := 0) rfl) xx.lt; have x1 := stays (xx.cell (j := 1) rfl) xx.lt; have x2 := stays (xx.cell (j := 2) rfl) xx.lt; have x3 := stays (xx.cell (j := 3) rfl) xx.lt; have x4 := stays (xx.cell (j := 4) rfl) xx.lt
  clear hy hb jx jy xx HW Y2 g_0 g_1 a_0 a_1 b_0 b_1 d_0 d_1 d_2 d_3 ep_0 ep_1 t_0 t_1 pg0 pg1 pa0 pa1 pb0 pb1 pd0 pd1 pd2 pd3 pep0 pep1 pt0 pt1 H0 Y0
  generalize w3.heap.size = m at *
  go_region_held3 (fun w' => Below y3.heap.size y3 w') (exact bs) (first
    | (go_at_call 13; (with_reducible refine (K4.out _).mono ?_); rintro e w4 ⟨rfl, hb4⟩)
    | (go_at_call 10; (with_reducible refine (K5.out _).mono ?_); rintro e w5 ⟨rfl, hb5⟩))
  rename_i hHeld
  have W0 := hHeld
  clear hHeld
  go_wp2_with fail
  go_returns
  exact ⟨rfl, bl_trans H3.out W0⟩
end Go.Proofs.Ytmmlekgojblopaa
