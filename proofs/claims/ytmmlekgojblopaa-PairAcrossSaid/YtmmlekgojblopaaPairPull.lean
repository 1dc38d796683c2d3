/- What a body gets of another one: the program's Pull. -/
import Derived.Test.YtmmlekgojblopaaPairStr
namespace Go.Proofs.Ytmmlekgojblopaa
open Go.RowKit
set_option maxRecDepth 20000 in
set_option maxHeartbeats 8000000 in
theorem pull_core (gh gl ah al bh bl dxh dxl dyh dyl eph epl th tl qh ql rh rl ae mh ml me kh kl ke jh jl je xh xl yh yl ee : Int) (w : World)
    (C1 : Ct 21 #[.agg #[.int .i64 dxh, .int .u64 dxl, .int .i64 dyh, .int .u64 dyl], .agg #[.int .i64 eph, .int .u64 epl]] (.tuple #[.agg #[.int .i64 qh, .int .u64 ql], .agg #[.int .i64 rh, .int .u64 rl], .int .i64 ae]))
    (C2 : Ct 22 #[.agg #[.int .i64 gh, .int .u64 gl], .agg #[.int .i64 ah, .int .u64 al], .agg #[.int .i64 bh, .int .u64 bl], .agg #[.int .i64 th, .int .u64 tl]] (.tuple #[.agg #[.int .i64 mh, .int .u64 ml], .int .i64 me]))
    (C3 : Ct 23 #[.agg #[.int .i64 mh, .int .u64 ml], .agg #[.int .i64 qh, .int .u64 ql]] (.tuple #[.agg #[.int .i64 kh, .int .u64 kl], .int .i64 ke]))
    (C4 : Ct 23 #[.agg #[.int .i64 kh, .int .u64 kl], .agg #[.int .i64 rh, .int .u64 rl]] (.tuple #[.agg #[.int .i64 jh, .int .u64 jl], .int .i64 je]))
    (C5 : Ct 24 #[.agg #[.int .i64 dxh, .int .u64 dxl, .int .i64 dyh, .int .u64 dyl], .agg #[.int .i64 jh, .int .u64 jl]] (.tuple #[.agg #[.int .i64 xh, .int .u64 xl, .int .i64 yh, .int .u64 yl], .int .i64 ee])) :
    Calls Try.prog 11 #[.agg #[.int .i64 gh, .int .u64 gl], .agg #[.int .i64 ah, .int .u64 al], .agg #[.int .i64 bh, .int .u64 bl], .agg #[.int .i64 dxh, .int .u64 dxl, .int .i64 dyh, .int .u64 dyl], .agg #[.int .i64 eph, .int .u64 epl], .agg #[.int .i64 th, .int .u64 tl]] w fun e w' => e = .returned (chz zve [ae, me, ke, je] (.tuple #[.agg #[.int .i64 xh, .int .u64 xl, .int .i64 yh, .int .u64 yl], .int .i64 ee])) ∧ Below w.heap.size w w' := by
  have K1 := Lib.hid C1; have K2 := Lib.hid C2; have K3 := Lib.hid C3; have K4 := Lib.hid C4; have K5 := Lib.hid C5
  clear C1 C2 C3 C4 C5
  go_enter Try.func11, Try.ntmps11
  go_upto_region 1 with fail
  refine nw _ fun y0 hy => ?_
  have bG : Bx 24 y0 (w.heap.size) [.int .i64 gh, .int .u64 gl] := by
    have k := Bx.new w 24 #[.int .i64 gh, .int .u64 gl]
    rw [hy]; exact ((((((k.alloc _).alloc _).alloc _).alloc _).alloc _).alloc _)
  have bA : Bx 24 y0 (w.heap.size + 1) [.int .i64 ah, .int .u64 al] := by
    have k := Bx.new (w.alloc (.cells #[.int .i64 gh, .int .u64 gl] 24)) 24 #[.int .i64 ah, .int .u64 al]
    simp only [World.size_alloc] at k
    rw [hy]; exact (((((k.alloc _).alloc _).alloc _).alloc _).alloc _)
  have bB : Bx 24 y0 (w.heap.size + 1 + 1) [.int .i64 bh, .int .u64 bl] := by
    have k := Bx.new ((w.alloc (.cells #[.int .i64 gh, .int .u64 gl] 24)).alloc (.cells #[.int .i64 ah, .int .u64 al] 24)) 24 #[.int .i64 bh, .int .u64 bl]
    simp only [World.size_alloc] at k
    rw [hy]; exact ((((k.alloc _).alloc _).alloc _).alloc _)
  have bD : Bx 26 y0 (w.heap.size + 1 + 1 + 1) [.int .i64 dxh, .int .u64 dxl, .int .i64 dyh, .int .u64 dyl] := by
    have k := Bx.new (((w.alloc (.cells #[.int .i64 gh, .int .u64 gl] 24)).alloc (.cells #[.int .i64 ah, .int .u64 al] 24)).alloc (.cells #[.int .i64 bh, .int .u64 bl] 24)) 26 #[.int .i64 dxh, .int .u64 dxl, .int .i64 dyh, .int .u64 dyl]
    simp only [World.size_alloc] at k
    rw [hy]; exact (((k.alloc _).alloc _).alloc _)
  have bE : Bx 24 y0 (w.heap.size + 1 + 1 + 1 + 1) [.int .i64 eph, .int .u64 epl] := by
    have k := Bx.new ((((w.alloc (.cells #[.int .i64 gh, .int .u64 gl] 24)).alloc (.cells #[.int .i64 ah, .int .u64 al] 24)).alloc (.cells #[.int .i64 bh, .int .u64 bl] 24)).alloc (.cells #[.int .i64 dxh, .int .u64 dxl, .int .i64 dyh, .int .u64 dyl] 26)) 24 #[.int .i64 eph, .int .u64 epl]
    simp only [World.size_alloc] at k
    rw [hy]; exact ((k.alloc _).alloc _)
  have bH : Bx 24 y0 (w.heap.size + 1 + 1 + 1 + 1 + 1) [.int .i64 th, .int .u64 tl] := by
    have k := Bx.new (((((w.alloc (.cells #[.int .i64 gh, .int .u64 gl] 24)).alloc (.cells #[.int .i64 ah, .int .u64 al] 24)).alloc (.cells #[.int .i64 bh, .int .u64 bl] 24)).alloc (.cells #[.int .i64 dxh, .int .u64 dxl, .int .i64 dyh, .int .u64 dyl] 26)).alloc (.cells #[.int .i64 eph, .int .u64 epl] 24)) 24 #[.int .i64 th, .int .u64 tl]
    simp only [World.size_alloc] at k
    rw [hy]; exact (k.alloc _)
  have bR : Bx 26 y0 (w.heap.size + 1 + 1 + 1 + 1 + 1 + 1) [.int .i64 0, .int .u64 0, .int .i64 0, .int .u64 0] := by
    have k := Bx.new ((((((w.alloc (.cells #[.int .i64 gh, .int .u64 gl] 24)).alloc (.cells #[.int .i64 ah, .int .u64 al] 24)).alloc (.cells #[.int .i64 bh, .int .u64 bl] 24)).alloc (.cells #[.int .i64 dxh, .int .u64 dxl, .int .i64 dyh, .int .u64 dyl] 26)).alloc (.cells #[.int .i64 eph, .int .u64 epl] 24)).alloc (.cells #[.int .i64 th, .int .u64 tl] 24)) 26 #[.int .i64 0, .int .u64 0, .int .i64 0, .int .u64 0]
    simp only [World.size_alloc] at k
    rw [hy]; exact k
  have H0 : Hid (Below w.heap.size w y0) := by rw [hy]; exact bl_al (bl_al (bl_al (bl_al (bl_al (bl_al (bl_al (Below.refl _ _) _) _) _) _) _) _) _
  have BG := Lib.hid bG
  have BA := Lib.hid bA
  have BB := Lib.hid bB
  have BD := Lib.hid bD
  have BE := Lib.hid bE
  have BH := Lib.hid bH
  have BR := Lib.hid bR
  clear hy bG bA bB bD bE bH bR
  have d0 := BD.out.cell (j := 0) rfl; have d1 := BD.out.cell (j := 1) rfl; have d2 := BD.out.cell (j := 2) rfl; have d3 := BD.out.cell (j := 3) rfl; have e0 := BE.out.cell (j := 0) rfl; have e1 := BE.out.cell (j := 1) rfl
  go_upto_region 2 with (first | (go_at_call 21; (with_reducible refine (K1.out _).mono ?_); rintro e w1 ⟨rfl, hb⟩) | fail)
  refine nw _ fun y1 hy => ?_
  have HW : Below y0.heap.size y0 y1 := by rw [hy]; exact bl_al (bl_al hb _) _
  have BQ : Hid (Bx 24 y1 w1.heap.size [.int .i64 qh, .int .u64 ql]) := by rw [hy]; exact (Bx.new _ _ _).alloc _
  have BU : Hid (Bx 24 y1 (w1.heap.size + 1) [.int .i64 rh, .int .u64 rl]) := by rw [hy]; exact bx_2nd _ _ _ _
  have BG' := Lib.hid (BG.out.below HW)
  have BA' := Lib.hid (BA.out.below HW)
  have BB' := Lib.hid (BB.out.below HW)
  have BD' := Lib.hid (BD.out.below HW)
  have BH' := Lib.hid (BH.out.below HW)
  have BR' := Lib.hid (BR.out.below HW)
  have H1 := Lib.hid (bl_trans H0.out HW)
  clear hy hb HW H0 BG BA BB BD BE BH BR d0 d1 d2 d3 e0 e1 K1
  have BG := BG'; clear BG'
  have BA := BA'; clear BA'
  have BB := BB'; clear BB'
  have BD := BD'; clear BD'
  have BH := BH'; clear BH'
  have BR := BR'; clear BR'
  generalize w1.heap.size = NQ at *
  rcases Decidable.em (ae = 0) with h | h
  rotate_left
  · have nz : (ae == 0) = false := by rw [beq_eq_false_iff_ne]; exact h
    have r0 := BR.out.cell (j := 0) rfl; have r1 := BR.out.cell (j := 1) rfl; have r2 := BR.out.cell (j := 2) rfl; have r3 := BR.out.cell (j := 3) rfl; have rf := BR.out.frz; have rz := BR.out.lt
    go_wp2_with fail
    refine bodyPost_ret (by simp [results, Try.results11, go_sem, *]; try rfl) rfl ?_
    exact ⟨by simp [chz, zve, h], bb⟩
  subst h
  have g0 := BG.out.cell (j := 0) rfl; have g1 := BG.out.cell (j := 1) rfl; have a0 := BA.out.cell (j := 0) rfl; have a1 := BA.out.cell (j := 1) rfl; have b0 := BB.out.cell (j := 0) rfl; have b1 := BB.out.cell (j := 1) rfl; have h0 := BH.out.cell (j := 0) rfl; have h1 := BH.out.cell (j := 1) rfl
  go_upto_region 5 with (first | (go_at_call 22; (with_reducible refine (K2.out _).mono ?_); rintro e w2 ⟨rfl, hb⟩) | fail)
  refine nw _ fun y2 hy => ?_
  have HW : Below y1.heap.size y1 y2 := by rw [hy]; exact bl_al hb _
  have BK : Hid (Bx 24 y2 w2.heap.size [.int .i64 mh, .int .u64 ml]) := by rw [hy]; exact Bx.new _ _ _
  have BQ' := Lib.hid (BQ.out.below HW)
  have BU' := Lib.hid (BU.out.below HW)
  have BD' := Lib.hid (BD.out.below HW)
  have BR' := Lib.hid (BR.out.below HW)
  have H2 := Lib.hid (bl_trans H1.out HW)
  have hK : w.heap.size ≤ w2.heap.size := Nat.le_trans H1.out.size hb.size
  have nR : w.heap.size + 1 + 1 + 1 + 1 + 1 + 1 ≠ w2.heap.size := Nat.ne_of_lt (BR.out.below hb).lt
  have nD : w.heap.size + 1 + 1 + 1 ≠ w2.heap.size := Nat.ne_of_lt (BD.out.below hb).lt
  clear hy hb HW H1 BG BA BB BH BQ BU BD BR g0 g1 a0 a1 b0 b1 h0 h1 K2
  have BQ := BQ'; clear BQ'
  have BU := BU'; clear BU'
  have BD := BD'; clear BD'
  have BR := BR'; clear BR'
  generalize w2.heap.size = NK at *
  rcases Decidable.em (me = 0) with h | h
  rotate_left
  · have nz : (me == 0) = false := by rw [beq_eq_false_iff_ne]; exact h
    have r0 := BR.out.cell (j := 0) rfl; have r1 := BR.out.cell (j := 1) rfl; have r2 := BR.out.cell (j := 2) rfl; have r3 := BR.out.cell (j := 3) rfl; have rf := BR.out.frz; have rz := BR.out.lt
    go_wp2_with fail
    refine bodyPost_ret (by simp [results, Try.results11, go_sem, *]; try rfl) rfl ?_
    exact ⟨by simp [chz, zve, h], bb⟩
  subst h
  have q0 := BQ.out.cell (j := 0) rfl; have q1 := BQ.out.cell (j := 1) rfl; have u0 := BU.out.cell (j := 0) rfl; have u1 := BU.out.cell (j := 1) rfl
  go_wp2_with fail
  clear BQ BU q0 q1 u0 u1
  have ix0 : ∀ W, (Instr.index 55 (.agg #[.int .i64 qh, .int .u64 ql, .int .i64 rh, .int .u64 rl]) (.int .i64 0)).run Try.prog W = .ok (.agg #[.int .i64 qh, .int .u64 ql]) W := fun W => by simp [Instr.index, asIntOf, go_sem]
  have ix1 : ∀ W, (Instr.index 55 (.agg #[.int .i64 qh, .int .u64 ql, .int .i64 rh, .int .u64 rl]) (.int .i64 1)).run Try.prog W = .ok (.agg #[.int .i64 rh, .int .u64 rl]) W := fun W => by simp [Instr.index, asIntOf, go_sem]
  refine wp_loop_rounds 3 ?_
  rw [rounds_succ]
  go_upto_region 10 with fail
  refine nw _ fun y12 hy => ?_
  have HW : Below y2.heap.size y2 y12 := by rw [hy]; exact bl_al (Below.refl _ _) _
  have BT : Hid (Bx 24 y12 y2.heap.size [.int .i64 qh, .int .u64 ql]) := by rw [hy]; exact Bx.new _ _ _
  have BK' := Lib.hid (BK.out.below HW)
  have BD' := Lib.hid (BD.out.below HW)
  have BR' := Lib.hid (BR.out.below HW)
  have HH' := Lib.hid (bl_trans H2.out HW)
  clear hy HW BK BD BR H2
  have BK := BK'; clear BK'
  have BD := BD'; clear BD'
  have BR := BR'; clear BR'
  have H2 := HH'; clear HH'
  obtain ⟨t0, t1⟩ := BT.out.c2; obtain ⟨k0, k1⟩ := BK.out.c2
  go_upto_region 11 with (first | (go_at_call 23; (with_reducible refine (K3.out _).mono ?_); rintro e w1 ⟨rfl, hb⟩; have bq := BK.out.below hb; have k0 := bq.cell (j := 0) rfl; have k1 := bq.cell (j := 1) rfl; have kf := bq.frz; have kz := bq.lt) | fail)
  refine nw _ fun y13 hy => ?_
  have BK' : Hid (Bx 24 y13 NK [.int .i64 kh, .int .u64 kl]) := by rw [hy]; exact ((bq.putE 0 _ rfl).putE 1 _ rfl)
  have BR' : Hid (Bx 26 y13 (w.heap.size + 1 + 1 + 1 + 1 + 1 + 1) [.int .i64 0, .int .u64 0, .int .i64 0, .int .u64 0]) := by rw [hy]; exact ((BR.out.below hb).far nR _).far nR _
  have BD' : Hid (Bx 26 y13 (w.heap.size + 1 + 1 + 1) [.int .i64 dxh, .int .u64 dxl, .int .i64 dyh, .int .u64 dyl]) := by rw [hy]; exact ((BD.out.below hb).far nD _).far nD _
  have HH' : Hid (Below w.heap.size w y13) := by rw [hy]; exact ((bl_trans H2.out hb).setCell hK _).setCell hK _
  clear hy hb bq k0 k1 kf kz t0 t1 BT BK BR BD H2 K3
  have BK := BK'; clear BK'
  have BD := BD'; clear BD'
  have BR := BR'; clear BR'
  have H2 := HH'; clear HH'
  rcases Decidable.em (ke = 0) with h | h
  rotate_left
  · have nz : (ke == 0) = false := by rw [beq_eq_false_iff_ne]; exact h
    have r0 := BR.out.cell (j := 0) rfl; have r1 := BR.out.cell (j := 1) rfl; have r2 := BR.out.cell (j := 2) rfl; have r3 := BR.out.cell (j := 3) rfl; have rf := BR.out.frz; have rz := BR.out.lt
    go_wp2_with fail
    refine bodyPost_ret (by simp [results, Try.results11, go_sem, *]; try rfl) rfl ?_
    exact ⟨by simp [chz, zve, h], bb⟩
  subst h
  go_wp2_with fail
  rw [rounds_succ]
  go_upto_region 10 with fail
  refine nw _ fun y22 hy => ?_
  have HW : Below y13.heap.size y13 y22 := by rw [hy]; exact bl_al (Below.refl _ _) _
  have BT : Hid (Bx 24 y22 y13.heap.size [.int .i64 rh, .int .u64 rl]) := by rw [hy]; exact Bx.new _ _ _
  have BK' := Lib.hid (BK.out.below HW)
  have BD' := Lib.hid (BD.out.below HW)
  have BR' := Lib.hid (BR.out.below HW)
  have HH' := Lib.hid (bl_trans H2.out HW)
  clear hy HW BK BD BR H2
  have BK := BK'; clear BK'
  have BD := BD'; clear BD'
  have BR := BR'; clear BR'
  have H2 := HH'; clear HH'
  obtain ⟨t0, t1⟩ := BT.out.c2; obtain ⟨k0, k1⟩ := BK.out.c2
  go_upto_region 11 with (first | (go_at_call 23; (with_reducible refine (K4.out _).mono ?_); rintro e w1 ⟨rfl, hb⟩; have bq := BK.out.below hb; have k0 := bq.cell (j := 0) rfl; have k1 := bq.cell (j := 1) rfl; have kf := bq.frz; have kz := bq.lt) | fail)
  refine nw _ fun y23 hy => ?_
  have BK' : Hid (Bx 24 y23 NK [.int .i64 jh, .int .u64 jl]) := by rw [hy]; exact ((bq.putE 0 _ rfl).putE 1 _ rfl)
  have BR' : Hid (Bx 26 y23 (w.heap.size + 1 + 1 + 1 + 1 + 1 + 1) [.int .i64 0, .int .u64 0, .int .i64 0, .int .u64 0]) := by rw [hy]; exact ((BR.out.below hb).far nR _).far nR _
  have BD' : Hid (Bx 26 y23 (w.heap.size + 1 + 1 + 1) [.int .i64 dxh, .int .u64 dxl, .int .i64 dyh, .int .u64 dyl]) := by rw [hy]; exact ((BD.out.below hb).far nD _).far nD _
  have HH' : Hid (Below w.heap.size w y23) := by rw [hy]; exact ((bl_trans H2.out hb).setCell hK _).setCell hK _
  clear hy hb bq k0 k1 kf kz t0 t1 BT BK BR BD H2 K4
  have BK := BK'; clear BK'
  have BD := BD'; clear BD'
  have BR := BR'; clear BR'
  have H2 := HH'; clear HH'
  rcases Decidable.em (je = 0) with h | h
  rotate_left
  · have nz : (je == 0) = false := by rw [beq_eq_false_iff_ne]; exact h
    have r0 := BR.out.cell (j := 0) rfl; have r1 := BR.out.cell (j := 1) rfl; have r2 := BR.out.cell (j := 2) rfl; have r3 := BR.out.cell (j := 3) rfl; have rf := BR.out.frz; have rz := BR.out.lt
    go_wp2_with fail
    refine bodyPost_ret (by simp [results, Try.results11, go_sem, *]; try rfl) rfl ?_
    exact ⟨by simp [chz, zve, h], bb⟩
  subst h
  go_wp2_with fail
  rw [rounds_succ]
  have d0 := BD.out.cell (j := 0) rfl; have d1 := BD.out.cell (j := 1) rfl; have d2 := BD.out.cell (j := 2) rfl; have d3 := BD.out.cell (j := 3) rfl; have k0 := BK.out.cell (j := 0) rfl; have k1 := BK.out.cell (j := 1) rfl
  go_wp2_with fail
  refine (K5.out _).mono ?_
  rintro e w1 ⟨rfl, hb⟩
  have BR' := Lib.hid (BR.out.below hb)
  have HH' := Lib.hid (bl_trans H2.out hb)
  clear hb BR H2 BD BK d0 d1 d2 d3 k0 k1
  have BR := BR'; clear BR'
  have r0 := BR.out.cell (j := 0) rfl; have r1 := BR.out.cell (j := 1) rfl; have r2 := BR.out.cell (j := 2) rfl; have r3 := BR.out.cell (j := 3) rfl; have rf := BR.out.frz; have rz := BR.out.lt
  go_wp2_with fail
  refine bodyPost_ret (by simp [results, Try.results11, go_sem, *]; try rfl) rfl ?_
  exact ⟨rfl, bb⟩
end Go.Proofs.Ytmmlekgojblopaa
