/- PairTurned, as walks. -/
import Derived.Test.YtmmlekgojblopaaPairLaw
namespace Go.Proofs.Ytmmlekgojblopaa
open Go.RowKit
theorem stay {w : World} {g j : Nat} {v : Value} (h : w.cell? ⟨g, j, none⟩ = some v) : ∀ w' : World, Below w.heap.size w w' → w'.cell? ⟨g, j, none⟩ = some v := stays h (World.block_lt_of_cell? _ _ h)
set_option maxRecDepth 20000 in
set_option maxHeartbeats 8000000 in
theorem pairTurned_no (gh gl ah al bh bl dxh dxl dyh dyl eph epl th tl : Int) (w : World)
    (C1 : Ct 9 #[.agg #[.int .i64 gh, .int .u64 gl], .agg #[.int .i64 ah, .int .u64 al], .agg #[.int .i64 bh, .int .u64 bl], .agg #[.int .i64 dxh, .int .u64 dxl, .int .i64 dyh, .int .u64 dyl], .agg #[.int .i64 eph, .int .u64 epl], .agg #[.int .i64 th, .int .u64 tl]] (.bool false))
    (C2 : Ct 10 #[] (.bool true)) :
    Calls Try.prog 4 #[.agg #[.int .i64 gh, .int .u64 gl], .agg #[.int .i64 ah, .int .u64 al], .agg #[.int .i64 bh, .int .u64 bl], .agg #[.int .i64 dxh, .int .u64 dxl, .int .i64 dyh, .int .u64 dyl], .agg #[.int .i64 eph, .int .u64 epl], .agg #[.int .i64 th, .int .u64 tl]] w fun e w' => e = .returned (.bool true) ∧ Below w.heap.size w w' := by
  have K1 := Lib.hid C1; have K2 := Lib.hid C2
  clear C1 C2
  go_enter Try.func4, Try.ntmps4
  go_upto_region 1 with fail
  refine nw _ fun y0 hy => ?_
  have cg : Bx 24 y0 (w.heap.size) [.int .i64 gh, .int .u64 gl] := by
    have k := Bx.new w 24 #[.int .i64 gh, .int .u64 gl]
    rw [hy]; exact (((((k.alloc _).alloc _).alloc _).alloc _).alloc _)
  have ca : Bx 24 y0 (w.heap.size + 1) [.int .i64 ah, .int .u64 al] := by
    have k := Bx.new (w.alloc (.cells #[.int .i64 gh, .int .u64 gl] 24)) 24 #[.int .i64 ah, .int .u64 al]
    simp only [World.size_alloc] at k
    rw [hy]; exact ((((k.alloc _).alloc _).alloc _).alloc _)
  have cb : Bx 24 y0 (w.heap.size + 1 + 1) [.int .i64 bh, .int .u64 bl] := by
    have k := Bx.new ((w.alloc (.cells #[.int .i64 gh, .int .u64 gl] 24)).alloc (.cells #[.int .i64 ah, .int .u64 al] 24)) 24 #[.int .i64 bh, .int .u64 bl]
    simp only [World.size_alloc] at k
    rw [hy]; exact (((k.alloc _).alloc _).alloc _)
  have cd : Bx 26 y0 (w.heap.size + 1 + 1 + 1) [.int .i64 dxh, .int .u64 dxl, .int .i64 dyh, .int .u64 dyl] := by
    have k := Bx.new (((w.alloc (.cells #[.int .i64 gh, .int .u64 gl] 24)).alloc (.cells #[.int .i64 ah, .int .u64 al] 24)).alloc (.cells #[.int .i64 bh, .int .u64 bl] 24)) 26 #[.int .i64 dxh, .int .u64 dxl, .int .i64 dyh, .int .u64 dyl]
    simp only [World.size_alloc] at k
    rw [hy]; exact ((k.alloc _).alloc _)
  have cep : Bx 24 y0 (w.heap.size + 1 + 1 + 1 + 1) [.int .i64 eph, .int .u64 epl] := by
    have k := Bx.new ((((w.alloc (.cells #[.int .i64 gh, .int .u64 gl] 24)).alloc (.cells #[.int .i64 ah, .int .u64 al] 24)).alloc (.cells #[.int .i64 bh, .int .u64 bl] 24)).alloc (.cells #[.int .i64 dxh, .int .u64 dxl, .int .i64 dyh, .int .u64 dyl] 26)) 24 #[.int .i64 eph, .int .u64 epl]
    simp only [World.size_alloc] at k
    rw [hy]; exact (k.alloc _)
  have ct : Bx 24 y0 (w.heap.size + 1 + 1 + 1 + 1 + 1) [.int .i64 th, .int .u64 tl] := by
    have k := Bx.new (((((w.alloc (.cells #[.int .i64 gh, .int .u64 gl] 24)).alloc (.cells #[.int .i64 ah, .int .u64 al] 24)).alloc (.cells #[.int .i64 bh, .int .u64 bl] 24)).alloc (.cells #[.int .i64 dxh, .int .u64 dxl, .int .i64 dyh, .int .u64 dyl] 26)).alloc (.cells #[.int .i64 eph, .int .u64 epl] 24)) 24 #[.int .i64 th, .int .u64 tl]
    simp only [World.size_alloc] at k
    rw [hy]; exact k
  have H0 : Hid (Below w.heap.size w y0) := by rw [hy]; exact bl_al (bl_al (bl_al (bl_al (bl_al (bl_al (Below.refl _ _) _) _) _) _) _) _
  have Y0 : Hid (Below y0.heap.size y0 y0) := Below.refl _ _
  have pg0 := Lib.hid (stays (cg.cell (j := 0) rfl) cg.lt); have pg1 := Lib.hid (stays (cg.cell (j := 1) rfl) cg.lt)
  have pa0 := Lib.hid (stays (ca.cell (j := 0) rfl) ca.lt); have pa1 := Lib.hid (stays (ca.cell (j := 1) rfl) ca.lt)
  have pb0 := Lib.hid (stays (cb.cell (j := 0) rfl) cb.lt); have pb1 := Lib.hid (stays (cb.cell (j := 1) rfl) cb.lt)
  have pd0 := Lib.hid (stays (cd.cell (j := 0) rfl) cd.lt); have pd1 := Lib.hid (stays (cd.cell (j := 1) rfl) cd.lt); have pd2 := Lib.hid (stays (cd.cell (j := 2) rfl) cd.lt); have pd3 := Lib.hid (stays (cd.cell (j := 3) rfl) cd.lt)
  have pep0 := Lib.hid (stays (cep.cell (j := 0) rfl) cep.lt); have pep1 := Lib.hid (stays (cep.cell (j := 1) rfl) cep.lt)
  have pt0 := Lib.hid (stays (ct.cell (j := 0) rfl) ct.lt); have pt1 := Lib.hid (stays (ct.cell (j := 1) rfl) ct.lt)
  clear hy cg ca cb cd cep ct
  have g_0 := pg0.out y0 Y0.out; have g_1 := pg1.out y0 Y0.out; have a_0 := pa0.out y0 Y0.out; have a_1 := pa1.out y0 Y0.out; have b_0 := pb0.out y0 Y0.out; have b_1 := pb1.out y0 Y0.out; have d_0 := pd0.out y0 Y0.out; have d_1 := pd1.out y0 Y0.out; have d_2 := pd2.out y0 Y0.out; have d_3 := pd3.out y0 Y0.out; have ep_0 := pep0.out y0 Y0.out; have ep_1 := pep1.out y0 Y0.out; have t_0 := pt0.out y0 Y0.out; have t_1 := pt1.out y0 Y0.out
  go_wp2_with fail
  refine (K1.out _).mono ?_
  rintro e w1 ⟨rfl, hb⟩
  have Y1 := Lib.hid (bl_trans Y0.out hb)
  clear hb g_0 g_1 a_0 a_1 b_0 b_1 d_0 d_1 d_2 d_3 ep_0 ep_1 t_0 t_1
  go_wp2_with fail
  refine (K2.out _).mono ?_
  rintro e w2 ⟨rfl, hb⟩
  have Y2 := bl_trans Y1.out hb
  clear hb
  go_wp2_with fail
  go_returns
  exact ⟨rfl, bl_trans H0.out Y2⟩
set_option maxRecDepth 20000 in
set_option maxHeartbeats 8000000 in
theorem pairTurned_yes (gh gl ah al bh bl dxh dxl dyh dyl eph epl th tl xxh xxl xyh xyl ee mxh mxl myh myl nxh nxl nyh nyl uh ul : Int) (w : World)
    (C1 : Ct 9 #[.agg #[.int .i64 gh, .int .u64 gl], .agg #[.int .i64 ah, .int .u64 al], .agg #[.int .i64 bh, .int .u64 bl], .agg #[.int .i64 dxh, .int .u64 dxl, .int .i64 dyh, .int .u64 dyl], .agg #[.int .i64 eph, .int .u64 epl], .agg #[.int .i64 th, .int .u64 tl]] (.bool true))
    (C2 : Ct 11 #[.agg #[.int .i64 gh, .int .u64 gl], .agg #[.int .i64 ah, .int .u64 al], .agg #[.int .i64 bh, .int .u64 bl], .agg #[.int .i64 dxh, .int .u64 dxl, .int .i64 dyh, .int .u64 dyl], .agg #[.int .i64 eph, .int .u64 epl], .agg #[.int .i64 th, .int .u64 tl]] (.tuple #[.agg #[.int .i64 xxh, .int .u64 xxl, .int .i64 xyh, .int .u64 xyl], .int .i64 ee]))
    (C3 : Ct 14 #[.agg #[.int .i64 dxh, .int .u64 dxl, .int .i64 dyh, .int .u64 dyl]] (.agg #[.int .i64 mxh, .int .u64 mxl, .int .i64 myh, .int .u64 myl]))
    (C4 : Ct 11 #[.agg #[.int .i64 gh, .int .u64 gl], .agg #[.int .i64 ah, .int .u64 al], .agg #[.int .i64 bh, .int .u64 bl], .agg #[.int .i64 mxh, .int .u64 mxl, .int .i64 myh, .int .u64 myl], .agg #[.int .i64 eph, .int .u64 epl], .agg #[.int .i64 th, .int .u64 tl]] (.tuple #[.agg #[.int .i64 nxh, .int .u64 nxl, .int .i64 nyh, .int .u64 nyl], .int .i64 ee]))
    (C5 : Ct 15 #[.agg #[.int .i64 th, .int .u64 tl]] (.agg #[.int .i64 uh, .int .u64 ul]))
    (C6 : Ct 11 #[.agg #[.int .i64 gh, .int .u64 gl], .agg #[.int .i64 ah, .int .u64 al], .agg #[.int .i64 bh, .int .u64 bl], .agg #[.int .i64 dxh, .int .u64 dxl, .int .i64 dyh, .int .u64 dyl], .agg #[.int .i64 eph, .int .u64 epl], .agg #[.int .i64 uh, .int .u64 ul]] (.tuple #[.agg #[.int .i64 nxh, .int .u64 nxl, .int .i64 nyh, .int .u64 nyl], .int .i64 ee]))
    (C7 : Ct 11 #[.agg #[.int .i64 gh, .int .u64 gl], .agg #[.int .i64 bh, .int .u64 bl], .agg #[.int .i64 ah, .int .u64 al], .agg #[.int .i64 dxh, .int .u64 dxl, .int .i64 dyh, .int .u64 dyl], .agg #[.int .i64 eph, .int .u64 epl], .agg #[.int .i64 th, .int .u64 tl]] (.tuple #[.agg #[.int .i64 xxh, .int .u64 xxl, .int .i64 xyh, .int .u64 xyl], .int .i64 ee]))
    (C8 : Ct 14 #[.agg #[.int .i64 xxh, .int .u64 xxl, .int .i64 xyh, .int .u64 xyl]] (.agg #[.int .i64 nxh, .int .u64 nxl, .int .i64 nyh, .int .u64 nyl]))
    (C9 : Ct 10 #[] (.bool true)) :
    Calls Try.prog 4 #[.agg #[.int .i64 gh, .int .u64 gl], .agg #[.int .i64 ah, .int .u64 al], .agg #[.int .i64 bh, .int .u64 bl], .agg #[.int .i64 dxh, .int .u64 dxl, .int .i64 dyh, .int .u64 dyl], .agg #[.int .i64 eph, .int .u64 epl], .agg #[.int .i64 th, .int .u64 tl]] w fun e w' => e = .returned (.bool true) ∧ Below w.heap.size w w' := by
  have K1 := Lib.hid C1; have K2 := Lib.hid C2; have K3 := Lib.hid C3; have K4 := Lib.hid C4; have K5 := Lib.hid C5; have K6 := Lib.hid C6; have K7 := Lib.hid C7; have K8 := Lib.hid C8; have K9 := Lib.hid C9
  clear C1 C2 C3 C4 C5 C6 C7 C8 C9
  go_enter Try.func4, Try.ntmps4
  go_upto_region 1 with fail
  refine nw _ fun y0 hy => ?_
  have cg : Bx 24 y0 (w.heap.size) [.int .i64 gh, .int .u64 gl] := by
    have k := Bx.new w 24 #[.int .i64 gh, .int .u64 gl]
    rw [hy]; exact (((((k.alloc _).alloc _).alloc _).alloc _).alloc _)
  have ca : Bx 24 y0 (w.heap.size + 1) [.int .i64 ah, .int .u64 al] := by
    have k := Bx.new (w.alloc (.cells #[.int .i64 gh, .int .u64 gl] 24)) 24 #[.int .i64 ah, .int .u64 al]
    simp only [World.size_alloc] at k
    rw [hy]; exact ((((k.alloc _).alloc _).alloc _).alloc _)
  have cb : Bx 24 y0 (w.heap.size + 1 + 1) [.int .i64 bh, .int .u64 bl] := by
    have k := Bx.new ((w.alloc (.cells #[.int .i64 gh, .int .u64 gl] 24)).alloc (.cells #[.int .i64 ah, .int .u64 al] 24)) 24 #[.int .i64 bh, .int .u64 bl]
    simp only [World.size_alloc] at k
    rw [hy]; exact (((k.alloc _).alloc _).alloc _)
  have cd : Bx 26 y0 (w.heap.size + 1 + 1 + 1) [.int .i64 dxh, .int .u64 dxl, .int .i64 dyh, .int .u64 dyl] := by
    have k := Bx.new (((w.alloc (.cells #[.int .i64 gh, .int .u64 gl] 24)).alloc (.cells #[.int .i64 ah, .int .u64 al] 24)).alloc (.cells #[.int .i64 bh, .int .u64 bl] 24)) 26 #[.int .i64 dxh, .int .u64 dxl, .int .i64 dyh, .int .u64 dyl]
    simp only [World.size_alloc] at k
    rw [hy]; exact ((k.alloc _).alloc _)
  have cep : Bx 24 y0 (w.heap.size + 1 + 1 + 1 + 1) [.int .i64 eph, .int .u64 epl] := by
    have k := Bx.new ((((w.alloc (.cells #[.int .i64 gh, .int .u64 gl] 24)).alloc (.cells #[.int .i64 ah, .int .u64 al] 24)).alloc (.cells #[.int .i64 bh, .int .u64 bl] 24)).alloc (.cells #[.int .i64 dxh, .int .u64 dxl, .int .i64 dyh, .int .u64 dyl] 26)) 24 #[.int .i64 eph, .int .u64 epl]
    simp only [World.size_alloc] at k
    rw [hy]; exact (k.alloc _)
  have ct : Bx 24 y0 (w.heap.size + 1 + 1 + 1 + 1 + 1) [.int .i64 th, .int .u64 tl] := by
    have k := Bx.new (((((w.alloc (.cells #[.int .i64 gh, .int .u64 gl] 24)).alloc (.cells #[.int .i64 ah, .int .u64 al] 24)).alloc (.cells #[.int .i64 bh, .int .u64 bl] 24)).alloc (.cells #[.int .i64 dxh, .int .u64 dxl, .int .i64 dyh, .int .u64 dyl] 26)).alloc (.cells #[.int .i64 eph, .int .u64 epl] 24)) 24 #[.int .i64 th, .int .u64 tl]
    simp only [World.size_alloc] at k
    rw [hy]; exact k
  have H0 : Hid (Below w.heap.size w y0) := by rw [hy]; exact bl_al (bl_al (bl_al (bl_al (bl_al (bl_al (Below.refl _ _) _) _) _) _) _) _
  have Y0 : Hid (Below y0.heap.size y0 y0) := Below.refl _ _
  have pg0 := Lib.hid (stays (cg.cell (j := 0) rfl) cg.lt); have pg1 := Lib.hid (stays (cg.cell (j := 1) rfl) cg.lt)
  have pa0 := Lib.hid (stays (ca.cell (j := 0) rfl) ca.lt); have pa1 := Lib.hid (stays (ca.cell (j := 1) rfl) ca.lt)
  have pb0 := Lib.hid (stays (cb.cell (j := 0) rfl) cb.lt); have pb1 := Lib.hid (stays (cb.cell (j := 1) rfl) cb.lt)
  have pd0 := Lib.hid (stays (cd.cell (j := 0) rfl) cd.lt); have pd1 := Lib.hid (stays (cd.cell (j := 1) rfl) cd.lt); have pd2 := Lib.hid (stays (cd.cell (j := 2) rfl) cd.lt); have pd3 := Lib.hid (stays (cd.cell (j := 3) rfl) cd.lt)
  have pep0 := Lib.hid (stays (cep.cell (j := 0) rfl) cep.lt); have pep1 := Lib.hid (stays (cep.cell (j := 1) rfl) cep.lt)
  have pt0 := Lib.hid (stays (ct.cell (j := 0) rfl) ct.lt); have pt1 := Lib.hid (stays (ct.cell (j := 1) rfl) ct.lt)
  clear hy cg ca cb cd cep ct
  have g_0 := pg0.out y0 Y0.out; have g_1 := pg1.out y0 Y0.out; have a_0 := pa0.out y0 Y0.out; have a_1 := pa1.out y0 Y0.out; have b_0 := pb0.out y0 Y0.out; have b_1 := pb1.out y0 Y0.out; have d_0 := pd0.out y0 Y0.out; have d_1 := pd1.out y0 Y0.out; have d_2 := pd2.out y0 Y0.out; have d_3 := pd3.out y0 Y0.out; have ep_0 := pep0.out y0 Y0.out; have ep_1 := pep1.out y0 Y0.out; have t_0 := pt0.out y0 Y0.out; have t_1 := pt1.out y0 Y0.out
  have qv := eq_vec_same xxh xxl xyh xyl; have qn := eq_vec_same nxh nxl nyh nyl
  go_wp2_with fail
  refine (K1.out _).mono ?_
  rintro e w1 ⟨rfl, hb⟩
  have Y1 := Lib.hid (bl_trans Y0.out hb)
  clear hb g_0 g_1 a_0 a_1 b_0 b_1 d_0 d_1 d_2 d_3 ep_0 ep_1 t_0 t_1
  have g_0 := pg0.out w1 Y1.out; have g_1 := pg1.out w1 Y1.out; have a_0 := pa0.out w1 Y1.out; have a_1 := pa1.out w1 Y1.out; have b_0 := pb0.out w1 Y1.out; have b_1 := pb1.out w1 Y1.out; have d_0 := pd0.out w1 Y1.out; have d_1 := pd1.out w1 Y1.out; have d_2 := pd2.out w1 Y1.out; have d_3 := pd3.out w1 Y1.out; have ep_0 := pep0.out w1 Y1.out; have ep_1 := pep1.out w1 Y1.out; have t_0 := pt0.out w1 Y1.out; have t_1 := pt1.out w1 Y1.out
  go_upto_region 4 with (first | (go_at_call 11; (with_reducible refine (K2.out _).mono ?_); rintro e w2 ⟨rfl, hb⟩) | fail)
  refine nw _ fun y2 hy => ?_
  have jj : Hid (Bx 26 y2 w2.heap.size [.int .i64 xxh, .int .u64 xxl, .int .i64 xyh, .int .u64 xyl]) := by rw [hy]; exact Bx.new _ _ _
  have HW := bl_al hb (.cells #[.int .i64 xxh, .int .u64 xxl, .int .i64 xyh, .int .u64 xyl] 26)
  rw [← hy] at HW
  have Yy2 : Hid (Below y0.heap.size y0 y2) := bl_trans Y1.out HW
  clear hy hb HW Y1  g_0 g_1 a_0 a_1 b_0 b_1 d_0 d_1 d_2 d_3 ep_0 ep_1 t_0 t_1
  generalize w2.heap.size = Njj at *
  have g_0 := pg0.out y2 Yy2.out; have g_1 := pg1.out y2 Yy2.out; have a_0 := pa0.out y2 Yy2.out; have a_1 := pa1.out y2 Yy2.out; have b_0 := pb0.out y2 Yy2.out; have b_1 := pb1.out y2 Yy2.out; have d_0 := pd0.out y2 Yy2.out; have d_1 := pd1.out y2 Yy2.out; have d_2 := pd2.out y2 Yy2.out; have d_3 := pd3.out y2 Yy2.out; have ep_0 := pep0.out y2 Yy2.out; have ep_1 := pep1.out y2 Yy2.out; have t_0 := pt0.out y2 Yy2.out; have t_1 := pt1.out y2 Yy2.out
  have qg_0 := stay g_0; have qg_1 := stay g_1; have qa_0 := stay a_0; have qa_1 := stay a_1; have qb_0 := stay b_0; have qb_1 := stay b_1; have qd_0 := stay d_0; have qd_1 := stay d_1; have qd_2 := stay d_2; have qd_3 := stay d_3; have qep_0 := stay ep_0; have qep_1 := stay ep_1; have qt_0 := stay t_0; have qt_1 := stay t_1
  clear g_0 g_1 a_0 a_1 b_0 b_1 d_0 d_1 d_2 d_3 ep_0 ep_1 t_0 t_1
  go_cut [15, 16] (fun s0 s1 wz => (∃ g, s0 = .pointer (some ⟨g, 0, none⟩) ∧ Bx 26 wz g [.int .i64 nxh, .int .u64 nxl, .int .i64 nyh, .int .u64 nyl]) ∧ s1 = .int .i64 ee ∧ Below y2.heap.size y2 wz)
  case first =>
    clear pg0 pg1 pa0 pa1 pb0 pb1 pd0 pd1 pd2 pd3 pep0 pep1 pt0 pt1 H0 Yy2 jj
    go_region_held3 (fun w' => Below y2.heap.size y2 w') (exact bs) (first
      | (go_at_call 14; (with_reducible refine (K3.out _).mono ?_); rintro e v0 ⟨rfl, hb0⟩; obtain ⟨hc0, hf0⟩ := bcell hb0; have s0 : y2.heap.size ≤ v0.heap.size := (by have q := hb0.size; (try simp at q); omega); (try have z0 : y2.heap.size < v0.heap.size := by have q := hb0.size; simp at q; omega))
      | (go_at_call 11; (with_reducible refine (K4.out _).mono ?_); rintro e v1 ⟨rfl, hb1⟩; obtain ⟨hc1, hf1⟩ := bcell hb1; have s1 : y2.heap.size ≤ v1.heap.size := (by have q := hb1.size; (try simp at q); omega); (try have z1 : y2.heap.size < v1.heap.size := by have q := hb1.size; simp at q; omega); (try have zz1 : v0.heap.size < v1.heap.size := by have q := hb1.size; simp at q; omega)))
    · rename_i hHeld; have HH := Lib.hid hHeld; clear hHeld; go_wp2_with fail; go_meet; exact ⟨⟨_, rfl, Bx.new _ _ _⟩, rfl, HH.out⟩
    · rename_i hHeld; have HH := Lib.hid hHeld; clear hHeld; go_wp2_with fail; go_meet; exact ⟨⟨_, rfl, ((((bx_put hb1).put 0 _).put 1 _).put 2 _).put 3 _⟩, rfl, HH.out⟩
    · rename_i hHeld; have HH := Lib.hid hHeld; clear hHeld; go_wp2_with fail; go_meet; exact ⟨⟨_, rfl, (((((bx_putd hb0).below hb1).put 0 _).put 1 _).put 2 _).put 3 _⟩, rfl, HH.out⟩
  case rest =>
  obtain ⟨⟨Nkk_, rfl, bx⟩, rfl, hb⟩ := hcut
  obtain ⟨y3, hy⟩ : ∃ x : World, x = wc := ⟨wc, rfl⟩
  rw [← hy] at bx hb ⊢
  clear hy
  have kk_ := Lib.hid bx; have Yy3 := Lib.hid (bl_trans Yy2.out hb)
  have jj' := Lib.hid (jj.out.below hb)
  clear bx hb Yy2 jj qg_0 qg_1 qa_0 qa_1 qb_0 qb_1 qd_0 qd_1 qd_2 qd_3 qep_0 qep_1 qt_0 qt_1 K3 K4
  have jj := jj'; clear jj'
  go_upto_region 5 with fail
  have g_0 := pg0.out y3 Yy3.out; have g_1 := pg1.out y3 Yy3.out; have a_0 := pa0.out y3 Yy3.out; have a_1 := pa1.out y3 Yy3.out; have b_0 := pb0.out y3 Yy3.out; have b_1 := pb1.out y3 Yy3.out; have d_0 := pd0.out y3 Yy3.out; have d_1 := pd1.out y3 Yy3.out; have d_2 := pd2.out y3 Yy3.out; have d_3 := pd3.out y3 Yy3.out; have ep_0 := pep0.out y3 Yy3.out; have ep_1 := pep1.out y3 Yy3.out; have t_0 := pt0.out y3 Yy3.out; have t_1 := pt1.out y3 Yy3.out
  have qg_0 := stay g_0; have qg_1 := stay g_1; have qa_0 := stay a_0; have qa_1 := stay a_1; have qb_0 := stay b_0; have qb_1 := stay b_1; have qd_0 := stay d_0; have qd_1 := stay d_1; have qd_2 := stay d_2; have qd_3 := stay d_3; have qep_0 := stay ep_0; have qep_1 := stay ep_1; have qt_0 := stay t_0; have qt_1 := stay t_1
  clear g_0 g_1 a_0 a_1 b_0 b_1 d_0 d_1 d_2 d_3 ep_0 ep_1 t_0 t_1
  go_cut [17, 18] (fun s0 s1 wz => (∃ g, s0 = .pointer (some ⟨g, 0, none⟩) ∧ Bx 26 wz g [.int .i64 nxh, .int .u64 nxl, .int .i64 nyh, .int .u64 nyl]) ∧ s1 = .int .i64 ee ∧ Below y3.heap.size y3 wz)
  case first =>
    clear pg0 pg1 pa0 pa1 pb0 pb1 pd0 pd1 pd2 pd3 pep0 pep1 pt0 pt1 H0 Yy3 jj kk_
    go_region_held3 (fun w' => Below y3.heap.size y3 w') (exact bs) (first
      | (go_at_call 15; (with_reducible refine (K5.out _).mono ?_); rintro e v0 ⟨rfl, hb0⟩; obtain ⟨hc0, hf0⟩ := bcell hb0; have s0 : y3.heap.size ≤ v0.heap.size := (by have q := hb0.size; (try simp at q); omega); (try have z0 : y3.heap.size < v0.heap.size := by have q := hb0.size; simp at q; omega))
      | (go_at_call 11; (with_reducible refine (K6.out _).mono ?_); rintro e v1 ⟨rfl, hb1⟩; obtain ⟨hc1, hf1⟩ := bcell hb1; have s1 : y3.heap.size ≤ v1.heap.size := (by have q := hb1.size; (try simp at q); omega); (try have z1 : y3.heap.size < v1.heap.size := by have q := hb1.size; simp at q; omega); (try have zz1 : v0.heap.size < v1.heap.size := by have q := hb1.size; simp at q; omega)))
    · rename_i hHeld; have HH := Lib.hid hHeld; clear hHeld; go_wp2_with fail; go_meet; exact ⟨⟨_, rfl, Bx.new _ _ _⟩, rfl, HH.out⟩
    · rename_i hHeld; have HH := Lib.hid hHeld; clear hHeld; go_wp2_with fail; go_meet; exact ⟨⟨_, rfl, ((((bx_put hb1).put 0 _).put 1 _).put 2 _).put 3 _⟩, rfl, HH.out⟩
    · rename_i hHeld; have HH := Lib.hid hHeld; clear hHeld; go_wp2_with fail; go_meet; exact ⟨⟨_, rfl, (((((bx_putd hb0).below hb1).put 0 _).put 1 _).put 2 _).put 3 _⟩, rfl, HH.out⟩
  case rest =>
  obtain ⟨⟨Nll, rfl, bx⟩, rfl, hb⟩ := hcut
  obtain ⟨y4, hy⟩ : ∃ x : World, x = wc := ⟨wc, rfl⟩
  rw [← hy] at bx hb ⊢
  clear hy
  have ll := Lib.hid bx; have Yy4 := Lib.hid (bl_trans Yy3.out hb)
  have jj' := Lib.hid (jj.out.below hb)
  have kk_' := Lib.hid (kk_.out.below hb)
  clear bx hb Yy3 jj kk_ qg_0 qg_1 qa_0 qa_1 qb_0 qb_1 qd_0 qd_1 qd_2 qd_3 qep_0 qep_1 qt_0 qt_1 K5 K6
  have jj := jj'; clear jj'
  have kk_ := kk_'; clear kk_'
  go_upto_region 6 with fail
  have g_0 := pg0.out y4 Yy4.out; have g_1 := pg1.out y4 Yy4.out; have a_0 := pa0.out y4 Yy4.out; have a_1 := pa1.out y4 Yy4.out; have b_0 := pb0.out y4 Yy4.out; have b_1 := pb1.out y4 Yy4.out; have d_0 := pd0.out y4 Yy4.out; have d_1 := pd1.out y4 Yy4.out; have d_2 := pd2.out y4 Yy4.out; have d_3 := pd3.out y4 Yy4.out; have ep_0 := pep0.out y4 Yy4.out; have ep_1 := pep1.out y4 Yy4.out; have t_0 := pt0.out y4 Yy4.out; have t_1 := pt1.out y4 Yy4.out
  go_upto_region 7 with (first | (go_at_call 11; (with_reducible refine (K7.out _).mono ?_); rintro e w7 ⟨rfl, hb⟩) | fail)
  refine nw _ fun y5 hy => ?_
  have mm : Hid (Bx 26 y5 w7.heap.size [.int .i64 xxh, .int .u64 xxl, .int .i64 xyh, .int .u64 xyl]) := by rw [hy]; exact Bx.new _ _ _
  have HW := bl_al hb (.cells #[.int .i64 xxh, .int .u64 xxl, .int .i64 xyh, .int .u64 xyl] 26)
  rw [← hy] at HW
  have Yy5 : Hid (Below y0.heap.size y0 y5) := bl_trans Yy4.out HW
  have jj' := Lib.hid (jj.out.below HW)
  have kk_' := Lib.hid (kk_.out.below HW)
  have ll' := Lib.hid (ll.out.below HW)
  clear hy hb HW Yy4 jj kk_ ll g_0 g_1 a_0 a_1 b_0 b_1 d_0 d_1 d_2 d_3 ep_0 ep_1 t_0 t_1
  generalize w7.heap.size = Nmm at *
  have jj := jj'; clear jj'
  have kk_ := kk_'; clear kk_'
  have ll := ll'; clear ll'
  have g_0 := pg0.out y5 Yy5.out; have g_1 := pg1.out y5 Yy5.out; have a_0 := pa0.out y5 Yy5.out; have a_1 := pa1.out y5 Yy5.out; have b_0 := pb0.out y5 Yy5.out; have b_1 := pb1.out y5 Yy5.out; have d_0 := pd0.out y5 Yy5.out; have d_1 := pd1.out y5 Yy5.out; have d_2 := pd2.out y5 Yy5.out; have d_3 := pd3.out y5 Yy5.out; have ep_0 := pep0.out y5 Yy5.out; have ep_1 := pep1.out y5 Yy5.out; have t_0 := pt0.out y5 Yy5.out; have t_1 := pt1.out y5 Yy5.out
  have HF := Lib.hid (bl_trans H0.out Yy5.out)
  clear g_0 g_1 a_0 a_1 b_0 b_1 d_0 d_1 d_2 d_3 ep_0 ep_1 t_0 t_1 pg0 pg1 pa0 pa1 pb0 pb1 pd0 pd1 pd2 pd3 pep0 pep1 pt0 pt1 H0 Yy5
  have jj0 := stays (jj.out.cell (j := 0) rfl) jj.out.lt; have jj1 := stays (jj.out.cell (j := 1) rfl) jj.out.lt; have jj2 := stays (jj.out.cell (j := 2) rfl) jj.out.lt; have jj3 := stays (jj.out.cell (j := 3) rfl) jj.out.lt
  have kk_0 := stays (kk_.out.cell (j := 0) rfl) kk_.out.lt; have kk_1 := stays (kk_.out.cell (j := 1) rfl) kk_.out.lt; have kk_2 := stays (kk_.out.cell (j := 2) rfl) kk_.out.lt; have kk_3 := stays (kk_.out.cell (j := 3) rfl) kk_.out.lt
  have ll0 := stays (ll.out.cell (j := 0) rfl) ll.out.lt; have ll1 := stays (ll.out.cell (j := 1) rfl) ll.out.lt; have ll2 := stays (ll.out.cell (j := 2) rfl) ll.out.lt; have ll3 := stays (ll.out.cell (j := 3) rfl) ll.out.lt
  have mm0 := stays (mm.out.cell (j := 0) rfl) mm.out.lt; have mm1 := stays (mm.out.cell (j := 1) rfl) mm.out.lt; have mm2 := stays (mm.out.cell (j := 2) rfl) mm.out.lt; have mm3 := stays (mm.out.cell (j := 3) rfl) mm.out.lt
  clear jj kk_ ll mm
  go_region_held3 (fun w' => Below y5.heap.size y5 w') (exact bs) (first
    | (go_at_call 14; (with_reducible refine (K8.out _).mono ?_); rintro e w8 ⟨rfl, hb8⟩)
    | (go_at_call 10; (with_reducible refine (K9.out _).mono ?_); rintro e w9 ⟨rfl, hb9⟩))
  rename_i hHeld
  have W0 := hHeld
  clear hHeld
  go_wp2_with fail
  go_returns
  exact ⟨rfl, bl_trans HF.out W0⟩
end Go.Proofs.Ytmmlekgojblopaa
