/- The document's Pull. -/
import Derived.Test.YtmmlekgojblopaaZzRow
namespace Go.Proofs.Ytmmlekgojblopaa
open Go.RowKit
/-- The first error of these, or this. -/
def chn : List Int → Value → Value
  | [], v => v
  | e :: t, v => if e = 0 then chn t v else .agg #[.int .i64 0, .int .u64 0, .int .i64 0, .int .u64 0, .int .i64 e]
theorem Bx.putE {t : TypeId} {w : World} {g : Nat} {cs ds : List Value} (h : Bx t w g cs) (j : Nat) (u : Value) (e : cs.set j u = ds) : Bx t (w.setCell ⟨g, j, none⟩ u) g ds := e ▸ h.put j u
set_option maxRecDepth 20000 in
set_option maxHeartbeats 8000000 in
theorem rpull_core (gh gl ah al bh bl dxh dxl dyh dyl eph epl th tl lh ll le sh sl se qh ql qe rh rl re mh ml me nh nl ne oh ol oe kh kl ke jh jl je xh xl yh yl ee : Int) (w : World)
    (C1 : Ct 25 #[.agg #[.int .i64 dxh, .int .u64 dxl, .int .i64 dyh, .int .u64 dyl]] (.agg #[.int .i64 lh, .int .u64 ll, .int .i64 le]))
    (C2 : Ct 26 #[.agg #[.int .i64 eph, .int .u64 epl], .agg #[.int .i64 eph, .int .u64 epl]] (.agg #[.int .i64 sh, .int .u64 sl, .int .i64 se]))
    (C3 : Ct 27 #[.agg #[.int .i64 lh, .int .u64 ll], .agg #[.int .i64 sh, .int .u64 sl]] (.agg #[.int .i64 qh, .int .u64 ql, .int .i64 qe]))
    (C4 : Ct 28 #[.agg #[.int .i64 qh, .int .u64 ql]] (.agg #[.int .i64 rh, .int .u64 rl, .int .i64 re]))
    (C5 : Ct 26 #[.agg #[.int .i64 ah, .int .u64 al], .agg #[.int .i64 bh, .int .u64 bl]] (.agg #[.int .i64 mh, .int .u64 ml, .int .i64 me]))
    (C6 : Ct 26 #[.agg #[.int .i64 gh, .int .u64 gl], .agg #[.int .i64 mh, .int .u64 ml]] (.agg #[.int .i64 nh, .int .u64 nl, .int .i64 ne]))
    (C7 : Ct 26 #[.agg #[.int .i64 nh, .int .u64 nl], .agg #[.int .i64 th, .int .u64 tl]] (.agg #[.int .i64 oh, .int .u64 ol, .int .i64 oe]))
    (C8 : Ct 17 #[.agg #[.int .i64 oh, .int .u64 ol], .agg #[.int .i64 qh, .int .u64 ql]] (.agg #[.int .i64 kh, .int .u64 kl, .int .i64 ke]))
    (C9 : Ct 17 #[.agg #[.int .i64 kh, .int .u64 kl], .agg #[.int .i64 rh, .int .u64 rl]] (.agg #[.int .i64 jh, .int .u64 jl, .int .i64 je]))
    (C10 : Ct 29 #[.agg #[.int .i64 dxh, .int .u64 dxl, .int .i64 dyh, .int .u64 dyl], .agg #[.int .i64 jh, .int .u64 jl]] (.agg #[.int .i64 xh, .int .u64 xl, .int .i64 yh, .int .u64 yl, .int .i64 ee])) :
    Calls Try.prog 12 #[.agg #[.int .i64 gh, .int .u64 gl], .agg #[.int .i64 ah, .int .u64 al], .agg #[.int .i64 bh, .int .u64 bl], .agg #[.int .i64 dxh, .int .u64 dxl, .int .i64 dyh, .int .u64 dyl], .agg #[.int .i64 eph, .int .u64 epl], .agg #[.int .i64 th, .int .u64 tl]] w fun e w' => e = .returned (chn [le, se, qe, re, me, ne, oe, ke, je] (.agg #[.int .i64 xh, .int .u64 xl, .int .i64 yh, .int .u64 yl, .int .i64 ee])) ∧ Below w.heap.size w w' := by
  have K1 := Lib.hid C1; have K2 := Lib.hid C2; have K3 := Lib.hid C3; have K4 := Lib.hid C4; have K5 := Lib.hid C5; have K6 := Lib.hid C6; have K7 := Lib.hid C7; have K8 := Lib.hid C8; have K9 := Lib.hid C9; have K10 := Lib.hid C10
  clear C1 C2 C3 C4 C5 C6 C7 C8 C9 C10
  go_enter Try.func12, Try.ntmps12
  go_upto_region 1 with fail
  refine nw _ fun y0 hy => ?_
  have cg : Bx 24 y0 (w.heap.size) [.int .i64 gh, .int .u64 gl] := by
    have k := Bx.new w 24 #[.int .i64 gh, .int .u64 gl]
    rw [hy]; exact ((((((k.alloc _).alloc _).alloc _).alloc _).alloc _).alloc _)
  have ca : Bx 24 y0 (w.heap.size + 1) [.int .i64 ah, .int .u64 al] := by
    have k := Bx.new (w.alloc (.cells #[.int .i64 gh, .int .u64 gl] 24)) 24 #[.int .i64 ah, .int .u64 al]
    simp only [World.size_alloc] at k
    rw [hy]; exact (((((k.alloc _).alloc _).alloc _).alloc _).alloc _)
  have cb : Bx 24 y0 (w.heap.size + 1 + 1) [.int .i64 bh, .int .u64 bl] := by
    have k := Bx.new ((w.alloc (.cells #[.int .i64 gh, .int .u64 gl] 24)).alloc (.cells #[.int .i64 ah, .int .u64 al] 24)) 24 #[.int .i64 bh, .int .u64 bl]
    simp only [World.size_alloc] at k
    rw [hy]; exact ((((k.alloc _).alloc _).alloc _).alloc _)
  have cd : Bx 26 y0 (w.heap.size + 1 + 1 + 1) [.int .i64 dxh, .int .u64 dxl, .int .i64 dyh, .int .u64 dyl] := by
    have k := Bx.new (((w.alloc (.cells #[.int .i64 gh, .int .u64 gl] 24)).alloc (.cells #[.int .i64 ah, .int .u64 al] 24)).alloc (.cells #[.int .i64 bh, .int .u64 bl] 24)) 26 #[.int .i64 dxh, .int .u64 dxl, .int .i64 dyh, .int .u64 dyl]
    simp only [World.size_alloc] at k
    rw [hy]; exact (((k.alloc _).alloc _).alloc _)
  have cep : Bx 24 y0 (w.heap.size + 1 + 1 + 1 + 1) [.int .i64 eph, .int .u64 epl] := by
    have k := Bx.new ((((w.alloc (.cells #[.int .i64 gh, .int .u64 gl] 24)).alloc (.cells #[.int .i64 ah, .int .u64 al] 24)).alloc (.cells #[.int .i64 bh, .int .u64 bl] 24)).alloc (.cells #[.int .i64 dxh, .int .u64 dxl, .int .i64 dyh, .int .u64 dyl] 26)) 24 #[.int .i64 eph, .int .u64 epl]
    simp only [World.size_alloc] at k
    rw [hy]; exact ((k.alloc _).alloc _)
  have ct : Bx 24 y0 (w.heap.size + 1 + 1 + 1 + 1 + 1) [.int .i64 th, .int .u64 tl] := by
    have k := Bx.new (((((w.alloc (.cells #[.int .i64 gh, .int .u64 gl] 24)).alloc (.cells #[.int .i64 ah, .int .u64 al] 24)).alloc (.cells #[.int .i64 bh, .int .u64 bl] 24)).alloc (.cells #[.int .i64 dxh, .int .u64 dxl, .int .i64 dyh, .int .u64 dyl] 26)).alloc (.cells #[.int .i64 eph, .int .u64 epl] 24)) 24 #[.int .i64 th, .int .u64 tl]
    simp only [World.size_alloc] at k
    rw [hy]; exact (k.alloc _)
  have cR : Bx 33 y0 (w.heap.size + 1 + 1 + 1 + 1 + 1 + 1) [.int .i64 0, .int .u64 0, .int .i64 0, .int .u64 0, .int .i64 0] := by
    have k := Bx.new ((((((w.alloc (.cells #[.int .i64 gh, .int .u64 gl] 24)).alloc (.cells #[.int .i64 ah, .int .u64 al] 24)).alloc (.cells #[.int .i64 bh, .int .u64 bl] 24)).alloc (.cells #[.int .i64 dxh, .int .u64 dxl, .int .i64 dyh, .int .u64 dyl] 26)).alloc (.cells #[.int .i64 eph, .int .u64 epl] 24)).alloc (.cells #[.int .i64 th, .int .u64 tl] 24)) 33 #[.int .i64 0, .int .u64 0, .int .i64 0, .int .u64 0, .int .i64 0]
    simp only [World.size_alloc] at k
    rw [hy]; exact k
  have H0 : Hid (Below w.heap.size w y0) := by rw [hy]; exact bl_al (bl_al (bl_al (bl_al (bl_al (bl_al (bl_al (Below.refl _ _) _) _) _) _) _) _) _
  have Y0 : Hid (Below y0.heap.size y0 y0) := Below.refl _ _
  have R0 := Lib.hid cR
  have pg0 := Lib.hid (stays (cg.cell (j := 0) rfl) cg.lt); have pg1 := Lib.hid (stays (cg.cell (j := 1) rfl) cg.lt)
  have pa0 := Lib.hid (stays (ca.cell (j := 0) rfl) ca.lt); have pa1 := Lib.hid (stays (ca.cell (j := 1) rfl) ca.lt)
  have pb0 := Lib.hid (stays (cb.cell (j := 0) rfl) cb.lt); have pb1 := Lib.hid (stays (cb.cell (j := 1) rfl) cb.lt)
  have pd0 := Lib.hid (stays (cd.cell (j := 0) rfl) cd.lt); have pd1 := Lib.hid (stays (cd.cell (j := 1) rfl) cd.lt); have pd2 := Lib.hid (stays (cd.cell (j := 2) rfl) cd.lt); have pd3 := Lib.hid (stays (cd.cell (j := 3) rfl) cd.lt)
  have pep0 := Lib.hid (stays (cep.cell (j := 0) rfl) cep.lt); have pep1 := Lib.hid (stays (cep.cell (j := 1) rfl) cep.lt)
  have pt0 := Lib.hid (stays (ct.cell (j := 0) rfl) ct.lt); have pt1 := Lib.hid (stays (ct.cell (j := 1) rfl) ct.lt)
  clear hy cg ca cb cd cep ct cR
  have d_0 := pd0.out y0 Y0.out; have d_1 := pd1.out y0 Y0.out; have d_2 := pd2.out y0 Y0.out; have d_3 := pd3.out y0 Y0.out
  go_upto_region 2 with (first | (go_at_call 25; (with_reducible refine (K1.out _).mono ?_); rintro e w1 ⟨rfl, hb⟩) | fail)
  refine nw _ fun y1 hy => ?_
  have HW : Below y0.heap.size y0 y1 := by rw [hy]; exact bl_al hb _
  have Bl : Hid (Bx 40 y1 w1.heap.size [.int .i64 lh, .int .u64 ll, .int .i64 le]) := by rw [hy]; exact Bx.new _ _ _
  have Y1 : Hid (Below y0.heap.size y0 y1) := bl_trans Y0.out HW
  have Pl : y0.heap.size ≤ w1.heap.size := Nat.le_trans Y0.out.size hb.size
  clear hy hb K1 HW Y0 d_0 d_1 d_2 d_3
  generalize w1.heap.size = Nl at *
  have z2 := Bl.out.cell (j := 2) rfl; have ep_0 := pep0.out y1 Y1.out; have ep_1 := pep1.out y1 Y1.out
  rcases Decidable.em (le = 0) with h | h
  rotate_left
  · have nz : (le == 0) = false := by rw [beq_eq_false_iff_ne]; exact h
    have rx := R0.out.below Y1.out; have r0 := rx.cell (j := 0) rfl; have r1 := rx.cell (j := 1) rfl; have r2 := rx.cell (j := 2) rfl; have r3 := rx.cell (j := 3) rfl; have r4 := rx.cell (j := 4) rfl; have rf := rx.frz; have rl := rx.lt; have HF := Lib.hid (bl_trans H0.out Y1.out)
    go_wp2_with fail
    refine bodyPost_ret (by simp [results, Try.results12, go_sem, *]; try rfl) rfl ?_
    exact ⟨by simp [chn, h], bb⟩
  subst h
  go_upto_region 5 with (first | (go_at_call 26; (with_reducible refine (K2.out _).mono ?_); rintro e w2 ⟨rfl, hb⟩) | fail)
  refine nw _ fun y2 hy => ?_
  have HW : Below y1.heap.size y1 y2 := by rw [hy]; exact bl_al hb _
  have Bs : Hid (Bx 40 y2 w2.heap.size [.int .i64 sh, .int .u64 sl, .int .i64 se]) := by rw [hy]; exact Bx.new _ _ _
  have Y2 : Hid (Below y0.heap.size y0 y2) := bl_trans Y1.out HW
  have Bl' := Lib.hid (Bl.out.below HW); have Qsl : Nl ≠ w2.heap.size := Nat.ne_of_lt (Bl.out.below hb).lt
  have Ps : y0.heap.size ≤ w2.heap.size := Nat.le_trans Y1.out.size hb.size
  clear hy hb K2 HW Y1 Bl z2 ep_0 ep_1
  generalize w2.heap.size = Ns at *
  have Bl := Bl'; clear Bl'
  have z2 := Bs.out.cell (j := 2) rfl; have l_0 := Bl.out.cell (j := 0) rfl; have l_1 := Bl.out.cell (j := 1) rfl; have s_0 := Bs.out.cell (j := 0) rfl; have s_1 := Bs.out.cell (j := 1) rfl
  rcases Decidable.em (se = 0) with h | h
  rotate_left
  · have nz : (se == 0) = false := by rw [beq_eq_false_iff_ne]; exact h
    have rx := R0.out.below Y2.out; have r0 := rx.cell (j := 0) rfl; have r1 := rx.cell (j := 1) rfl; have r2 := rx.cell (j := 2) rfl; have r3 := rx.cell (j := 3) rfl; have r4 := rx.cell (j := 4) rfl; have rf := rx.frz; have rl := rx.lt; have HF := Lib.hid (bl_trans H0.out Y2.out)
    go_wp2_with fail
    refine bodyPost_ret (by simp [results, Try.results12, go_sem, *]; try rfl) rfl ?_
    exact ⟨by simp [chn, h], bb⟩
  subst h
  go_upto_region 8 with (first | (go_at_call 27; (with_reducible refine (K3.out _).mono ?_); rintro e w3 ⟨rfl, hb⟩) | fail)
  refine nw _ fun y3 hy => ?_
  have HW : Below y2.heap.size y2 y3 := by rw [hy]; exact bl_al hb _
  have Bq : Hid (Bx 40 y3 w3.heap.size [.int .i64 qh, .int .u64 ql, .int .i64 qe]) := by rw [hy]; exact Bx.new _ _ _
  have Y3 : Hid (Below y0.heap.size y0 y3) := bl_trans Y2.out HW
  have Bl' := Lib.hid (Bl.out.below HW); have Qql : Nl ≠ w3.heap.size := Nat.ne_of_lt (Bl.out.below hb).lt
  have Bs' := Lib.hid (Bs.out.below HW); have Qqs : Ns ≠ w3.heap.size := Nat.ne_of_lt (Bs.out.below hb).lt
  have Pq : y0.heap.size ≤ w3.heap.size := Nat.le_trans Y2.out.size hb.size
  clear hy hb K3 HW Y2 Bl Bs z2 l_0 l_1 s_0 s_1
  generalize w3.heap.size = Nq at *
  have Bl := Bl'; clear Bl'
  have Bs := Bs'; clear Bs'
  clear Bl
  clear Bs
  have z2 := Bq.out.cell (j := 2) rfl; have q_0 := Bq.out.cell (j := 0) rfl; have q_1 := Bq.out.cell (j := 1) rfl
  rcases Decidable.em (qe = 0) with h | h
  rotate_left
  · have nz : (qe == 0) = false := by rw [beq_eq_false_iff_ne]; exact h
    have rx := R0.out.below Y3.out; have r0 := rx.cell (j := 0) rfl; have r1 := rx.cell (j := 1) rfl; have r2 := rx.cell (j := 2) rfl; have r3 := rx.cell (j := 3) rfl; have r4 := rx.cell (j := 4) rfl; have rf := rx.frz; have rl := rx.lt; have HF := Lib.hid (bl_trans H0.out Y3.out)
    go_wp2_with fail
    refine bodyPost_ret (by simp [results, Try.results12, go_sem, *]; try rfl) rfl ?_
    exact ⟨by simp [chn, h], bb⟩
  subst h
  go_upto_region 11 with (first | (go_at_call 28; (with_reducible refine (K4.out _).mono ?_); rintro e w4 ⟨rfl, hb⟩) | fail)
  refine nw _ fun y4 hy => ?_
  have HW : Below y3.heap.size y3 y4 := by rw [hy]; exact bl_al hb _
  have Br : Hid (Bx 40 y4 w4.heap.size [.int .i64 rh, .int .u64 rl, .int .i64 re]) := by rw [hy]; exact Bx.new _ _ _
  have Y4 : Hid (Below y0.heap.size y0 y4) := bl_trans Y3.out HW
  have Bq' := Lib.hid (Bq.out.below HW); have Qrq : Nq ≠ w4.heap.size := Nat.ne_of_lt (Bq.out.below hb).lt
  have Pr : y0.heap.size ≤ w4.heap.size := Nat.le_trans Y3.out.size hb.size
  clear hy hb K4 HW Y3 Bq z2 q_0 q_1
  generalize w4.heap.size = Nr at *
  have Bq := Bq'; clear Bq'
  have z2 := Br.out.cell (j := 2) rfl; have a_0 := pa0.out y4 Y4.out; have a_1 := pa1.out y4 Y4.out; have b_0 := pb0.out y4 Y4.out; have b_1 := pb1.out y4 Y4.out
  rcases Decidable.em (re = 0) with h | h
  rotate_left
  · have nz : (re == 0) = false := by rw [beq_eq_false_iff_ne]; exact h
    have rx := R0.out.below Y4.out; have r0 := rx.cell (j := 0) rfl; have r1 := rx.cell (j := 1) rfl; have r2 := rx.cell (j := 2) rfl; have r3 := rx.cell (j := 3) rfl; have r4 := rx.cell (j := 4) rfl; have rf := rx.frz; have rl := rx.lt; have HF := Lib.hid (bl_trans H0.out Y4.out)
    go_wp2_with fail
    refine bodyPost_ret (by simp [results, Try.results12, go_sem, *]; try rfl) rfl ?_
    exact ⟨by simp [chn, h], bb⟩
  subst h
  go_upto_region 14 with (first | (go_at_call 26; (with_reducible refine (K5.out _).mono ?_); rintro e w5 ⟨rfl, hb⟩) | fail)
  refine nw _ fun y5 hy => ?_
  have HW : Below y4.heap.size y4 y5 := by rw [hy]; exact bl_al hb _
  have Bm : Hid (Bx 40 y5 w5.heap.size [.int .i64 mh, .int .u64 ml, .int .i64 me]) := by rw [hy]; exact Bx.new _ _ _
  have Y5 : Hid (Below y0.heap.size y0 y5) := bl_trans Y4.out HW
  have Bq' := Lib.hid (Bq.out.below HW); have Qmq : Nq ≠ w5.heap.size := Nat.ne_of_lt (Bq.out.below hb).lt
  have Br' := Lib.hid (Br.out.below HW); have Qmr : Nr ≠ w5.heap.size := Nat.ne_of_lt (Br.out.below hb).lt
  have Pm : y0.heap.size ≤ w5.heap.size := Nat.le_trans Y4.out.size hb.size
  clear hy hb K5 HW Y4 Bq Br z2 a_0 a_1 b_0 b_1
  generalize w5.heap.size = Nm at *
  have Bq := Bq'; clear Bq'
  have Br := Br'; clear Br'
  have z2 := Bm.out.cell (j := 2) rfl; have m_0 := Bm.out.cell (j := 0) rfl; have m_1 := Bm.out.cell (j := 1) rfl; have g_0 := pg0.out y5 Y5.out; have g_1 := pg1.out y5 Y5.out
  rcases Decidable.em (me = 0) with h | h
  rotate_left
  · have nz : (me == 0) = false := by rw [beq_eq_false_iff_ne]; exact h
    have rx := R0.out.below Y5.out; have r0 := rx.cell (j := 0) rfl; have r1 := rx.cell (j := 1) rfl; have r2 := rx.cell (j := 2) rfl; have r3 := rx.cell (j := 3) rfl; have r4 := rx.cell (j := 4) rfl; have rf := rx.frz; have rl := rx.lt; have HF := Lib.hid (bl_trans H0.out Y5.out)
    go_wp2_with fail
    refine bodyPost_ret (by simp [results, Try.results12, go_sem, *]; try rfl) rfl ?_
    exact ⟨by simp [chn, h], bb⟩
  subst h
  go_upto_region 17 with (first | (go_at_call 26; (with_reducible refine (K6.out _).mono ?_); rintro e w6 ⟨rfl, hb⟩; have ax := Bm.out.below hb; have a_0 := ax.cell (j := 0) rfl; have a_1 := ax.cell (j := 1) rfl; have a_2 := ax.cell (j := 2) rfl; have a_f := ax.frz; have a_l := ax.lt) | fail)
  refine nw _ fun y6 hy => ?_
  have Bm' : Hid (Bx 40 y6 Nm [.int .i64 nh, .int .u64 nl, .int .i64 ne]) := by rw [hy]; exact (((Bm.out.below hb).putE 0 _ rfl).putE 1 _ rfl).putE 2 _ rfl
  have Y6 : Hid (Below y0.heap.size y0 y6) := by rw [hy]; exact (((bl_trans Y5.out hb).setCell Pm _).setCell Pm _).setCell Pm _
  have Bq' : Hid (Bx 40 y6 Nq [.int .i64 qh, .int .u64 ql, .int .i64 0]) := by rw [hy]; exact (((Bq.out.below hb).far Qmq _).far Qmq _).far Qmq _
  have Br' : Hid (Bx 40 y6 Nr [.int .i64 rh, .int .u64 rl, .int .i64 0]) := by rw [hy]; exact (((Br.out.below hb).far Qmr _).far Qmr _).far Qmr _
  clear hy hb K6 ax a_0 a_1 a_2 a_f a_l Y5 Bq Br Bm z2 m_0 m_1 g_0 g_1
  have Bq := Bq'; clear Bq'
  have Br := Br'; clear Br'
  have Bm := Bm'; clear Bm'
  have z2 := Bm.out.cell (j := 2) rfl; have m_0 := Bm.out.cell (j := 0) rfl; have m_1 := Bm.out.cell (j := 1) rfl; have t_0 := pt0.out y6 Y6.out; have t_1 := pt1.out y6 Y6.out
  rcases Decidable.em (ne = 0) with h | h
  rotate_left
  · have nz : (ne == 0) = false := by rw [beq_eq_false_iff_ne]; exact h
    have rx := R0.out.below Y6.out; have r0 := rx.cell (j := 0) rfl; have r1 := rx.cell (j := 1) rfl; have r2 := rx.cell (j := 2) rfl; have r3 := rx.cell (j := 3) rfl; have r4 := rx.cell (j := 4) rfl; have rf := rx.frz; have rl := rx.lt; have HF := Lib.hid (bl_trans H0.out Y6.out)
    go_wp2_with fail
    refine bodyPost_ret (by simp [results, Try.results12, go_sem, *]; try rfl) rfl ?_
    exact ⟨by simp [chn, h], bb⟩
  subst h
  go_upto_region 20 with (first | (go_at_call 26; (with_reducible refine (K7.out _).mono ?_); rintro e w7 ⟨rfl, hb⟩; have ax := Bm.out.below hb; have a_0 := ax.cell (j := 0) rfl; have a_1 := ax.cell (j := 1) rfl; have a_2 := ax.cell (j := 2) rfl; have a_f := ax.frz; have a_l := ax.lt) | fail)
  refine nw _ fun y7 hy => ?_
  have Bm' : Hid (Bx 40 y7 Nm [.int .i64 oh, .int .u64 ol, .int .i64 oe]) := by rw [hy]; exact (((Bm.out.below hb).putE 0 _ rfl).putE 1 _ rfl).putE 2 _ rfl
  have Y7 : Hid (Below y0.heap.size y0 y7) := by rw [hy]; exact (((bl_trans Y6.out hb).setCell Pm _).setCell Pm _).setCell Pm _
  have Bq' : Hid (Bx 40 y7 Nq [.int .i64 qh, .int .u64 ql, .int .i64 0]) := by rw [hy]; exact (((Bq.out.below hb).far Qmq _).far Qmq _).far Qmq _
  have Br' : Hid (Bx 40 y7 Nr [.int .i64 rh, .int .u64 rl, .int .i64 0]) := by rw [hy]; exact (((Br.out.below hb).far Qmr _).far Qmr _).far Qmr _
  clear hy hb K7 ax a_0 a_1 a_2 a_f a_l Y6 Bq Br Bm z2 m_0 m_1 t_0 t_1
  have Bq := Bq'; clear Bq'
  have Br := Br'; clear Br'
  have Bm := Bm'; clear Bm'
  have z2 := Bm.out.cell (j := 2) rfl; have m_0 := Bm.out.cell (j := 0) rfl; have m_1 := Bm.out.cell (j := 1) rfl; have q_0 := Bq.out.cell (j := 0) rfl; have q_1 := Bq.out.cell (j := 1) rfl
  rcases Decidable.em (oe = 0) with h | h
  rotate_left
  · have nz : (oe == 0) = false := by rw [beq_eq_false_iff_ne]; exact h
    have rx := R0.out.below Y7.out; have r0 := rx.cell (j := 0) rfl; have r1 := rx.cell (j := 1) rfl; have r2 := rx.cell (j := 2) rfl; have r3 := rx.cell (j := 3) rfl; have r4 := rx.cell (j := 4) rfl; have rf := rx.frz; have rl := rx.lt; have HF := Lib.hid (bl_trans H0.out Y7.out)
    go_wp2_with fail
    refine bodyPost_ret (by simp [results, Try.results12, go_sem, *]; try rfl) rfl ?_
    exact ⟨by simp [chn, h], bb⟩
  subst h
  go_upto_region 23 with (first | (go_at_call 17; (with_reducible refine (K8.out _).mono ?_); rintro e w8 ⟨rfl, hb⟩) | fail)
  refine nw _ fun y8 hy => ?_
  have HW : Below y7.heap.size y7 y8 := by rw [hy]; exact bl_al hb _
  have Bk : Hid (Bx 40 y8 w8.heap.size [.int .i64 kh, .int .u64 kl, .int .i64 ke]) := by rw [hy]; exact Bx.new _ _ _
  have Y8 : Hid (Below y0.heap.size y0 y8) := bl_trans Y7.out HW
  have Bq' := Lib.hid (Bq.out.below HW); have Qkq : Nq ≠ w8.heap.size := Nat.ne_of_lt (Bq.out.below hb).lt
  have Br' := Lib.hid (Br.out.below HW); have Qkr : Nr ≠ w8.heap.size := Nat.ne_of_lt (Br.out.below hb).lt
  have Bm' := Lib.hid (Bm.out.below HW); have Qkm : Nm ≠ w8.heap.size := Nat.ne_of_lt (Bm.out.below hb).lt
  have Pk : y0.heap.size ≤ w8.heap.size := Nat.le_trans Y7.out.size hb.size
  clear hy hb K8 HW Y7 Bq Br Bm z2 m_0 m_1 q_0 q_1
  generalize w8.heap.size = Nk at *
  have Bq := Bq'; clear Bq'
  have Br := Br'; clear Br'
  have Bm := Bm'; clear Bm'
  clear Bq
  clear Bm
  have z2 := Bk.out.cell (j := 2) rfl; have k_0 := Bk.out.cell (j := 0) rfl; have k_1 := Bk.out.cell (j := 1) rfl; have r_0 := Br.out.cell (j := 0) rfl; have r_1 := Br.out.cell (j := 1) rfl
  rcases Decidable.em (ke = 0) with h | h
  rotate_left
  · have nz : (ke == 0) = false := by rw [beq_eq_false_iff_ne]; exact h
    have rx := R0.out.below Y8.out; have r0 := rx.cell (j := 0) rfl; have r1 := rx.cell (j := 1) rfl; have r2 := rx.cell (j := 2) rfl; have r3 := rx.cell (j := 3) rfl; have r4 := rx.cell (j := 4) rfl; have rf := rx.frz; have rl := rx.lt; have HF := Lib.hid (bl_trans H0.out Y8.out)
    go_wp2_with fail
    refine bodyPost_ret (by simp [results, Try.results12, go_sem, *]; try rfl) rfl ?_
    exact ⟨by simp [chn, h], bb⟩
  subst h
  go_upto_region 26 with (first | (go_at_call 17; (with_reducible refine (K9.out _).mono ?_); rintro e w9 ⟨rfl, hb⟩; have ax := Bk.out.below hb; have a_0 := ax.cell (j := 0) rfl; have a_1 := ax.cell (j := 1) rfl; have a_2 := ax.cell (j := 2) rfl; have a_f := ax.frz; have a_l := ax.lt) | fail)
  refine nw _ fun y9 hy => ?_
  have Bk' : Hid (Bx 40 y9 Nk [.int .i64 jh, .int .u64 jl, .int .i64 je]) := by rw [hy]; exact (((Bk.out.below hb).putE 0 _ rfl).putE 1 _ rfl).putE 2 _ rfl
  have Y9 : Hid (Below y0.heap.size y0 y9) := by rw [hy]; exact (((bl_trans Y8.out hb).setCell Pk _).setCell Pk _).setCell Pk _
  have Br' : Hid (Bx 40 y9 Nr [.int .i64 rh, .int .u64 rl, .int .i64 0]) := by rw [hy]; exact (((Br.out.below hb).far Qkr _).far Qkr _).far Qkr _
  clear hy hb K9 ax a_0 a_1 a_2 a_f a_l Y8 Br Bk z2 k_0 k_1 r_0 r_1
  have Br := Br'; clear Br'
  have Bk := Bk'; clear Bk'
  clear Br
  have z2 := Bk.out.cell (j := 2) rfl; have k_0 := Bk.out.cell (j := 0) rfl; have k_1 := Bk.out.cell (j := 1) rfl; have d_0 := pd0.out y9 Y9.out; have d_1 := pd1.out y9 Y9.out; have d_2 := pd2.out y9 Y9.out; have d_3 := pd3.out y9 Y9.out
  rcases Decidable.em (je = 0) with h | h
  rotate_left
  · have nz : (je == 0) = false := by rw [beq_eq_false_iff_ne]; exact h
    have rx := R0.out.below Y9.out; have r0 := rx.cell (j := 0) rfl; have r1 := rx.cell (j := 1) rfl; have r2 := rx.cell (j := 2) rfl; have r3 := rx.cell (j := 3) rfl; have r4 := rx.cell (j := 4) rfl; have rf := rx.frz; have rl := rx.lt; have HF := Lib.hid (bl_trans H0.out Y9.out)
    go_wp2_with fail
    refine bodyPost_ret (by simp [results, Try.results12, go_sem, *]; try rfl) rfl ?_
    exact ⟨by simp [chn, h], bb⟩
  subst h
  go_wp2_with fail
  refine (K10.out _).mono ?_
  rintro e wa ⟨rfl, hb⟩
  have Y10 : Hid (Below y0.heap.size y0 wa) := bl_trans Y9.out hb
  clear hb z2 k_0 k_1 d_0 d_1 d_2 d_3
  have rx := R0.out.below Y10.out; have r0 := rx.cell (j := 0) rfl; have r1 := rx.cell (j := 1) rfl; have r2 := rx.cell (j := 2) rfl; have r3 := rx.cell (j := 3) rfl; have r4 := rx.cell (j := 4) rfl; have rf := rx.frz; have rl := rx.lt; have HF := Lib.hid (bl_trans H0.out Y10.out)
  go_wp2_with fail
  refine bodyPost_ret (by simp [results, Try.results12, go_sem, *]; try rfl) rfl ?_
  exact ⟨rfl, bb⟩
end Go.Proofs.Ytmmlekgojblopaa
