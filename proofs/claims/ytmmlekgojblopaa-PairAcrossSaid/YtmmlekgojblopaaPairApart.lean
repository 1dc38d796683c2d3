/- How far apart two bodies count as: the program's. -/
import Derived.Test.YtmmlekgojblopaaPairDoc
namespace Go.Proofs.Ytmmlekgojblopaa
open Go.RowKit
/-- The first error of these, as z tells it, or this. -/
def chz (z : Int → Value) : List Int → Value → Value
  | [], v => v
  | e :: t, v => if e = 0 then chz z t v else z e
/-- Two numbers, one, a way: nought, and an error. -/
def z2e (e : Int) : Value := .tuple #[.agg #[.int .i64 0, .int .u64 0], .agg #[.int .i64 0, .int .u64 0], .int .i64 e]
def z1e (e : Int) : Value := .tuple #[.agg #[.int .i64 0, .int .u64 0], .int .i64 e]
def zve (e : Int) : Value := .tuple #[.agg #[.int .i64 0, .int .u64 0, .int .i64 0, .int .u64 0], .int .i64 e]
set_option maxRecDepth 20000 in
set_option maxHeartbeats 8000000 in
theorem apart_core (dxh dxl dyh dyl eph epl lh ll le sh sl se qh ql qe rh rl re : Int) (w : World)
    (C1 : Ct 36 #[.agg #[.int .i64 dxh, .int .u64 dxl, .int .i64 dyh, .int .u64 dyl]] (.tuple #[.agg #[.int .i64 lh, .int .u64 ll], .int .i64 le]))
    (C2 : Ct 37 #[.agg #[.int .i64 eph, .int .u64 epl], .agg #[.int .i64 eph, .int .u64 epl]] (.tuple #[.agg #[.int .i64 sh, .int .u64 sl], .int .i64 se]))
    (C3 : Ct 38 #[.agg #[.int .i64 lh, .int .u64 ll], .agg #[.int .i64 sh, .int .u64 sl]] (.tuple #[.agg #[.int .i64 qh, .int .u64 ql], .int .i64 qe]))
    (C4 : Ct 39 #[.agg #[.int .i64 qh, .int .u64 ql]] (.tuple #[.agg #[.int .i64 rh, .int .u64 rl], .int .i64 re])) :
    Calls Try.prog 21 #[.agg #[.int .i64 dxh, .int .u64 dxl, .int .i64 dyh, .int .u64 dyl], .agg #[.int .i64 eph, .int .u64 epl]] w fun e w' => e = .returned (chz z2e [le, se, qe] (.tuple #[.agg #[.int .i64 qh, .int .u64 ql], .agg #[.int .i64 rh, .int .u64 rl], .int .i64 re])) ∧ Below w.heap.size w w' := by
  have K1 := Lib.hid C1; have K2 := Lib.hid C2; have K3 := Lib.hid C3; have K4 := Lib.hid C4
  clear C1 C2 C3 C4
  go_enter Try.func21, Try.ntmps21
  go_upto_region 1 with fail
  refine nw _ fun y0 hy => ?_
  have bD : Bx 26 y0 (w.heap.size) [.int .i64 dxh, .int .u64 dxl, .int .i64 dyh, .int .u64 dyl] := by
    have k := Bx.new w 26 #[.int .i64 dxh, .int .u64 dxl, .int .i64 dyh, .int .u64 dyl]
    rw [hy]; exact (((k.alloc _).alloc _).alloc _)
  have bE : Bx 24 y0 (w.heap.size + 1) [.int .i64 eph, .int .u64 epl] := by
    have k := Bx.new (w.alloc (.cells #[.int .i64 dxh, .int .u64 dxl, .int .i64 dyh, .int .u64 dyl] 26)) 24 #[.int .i64 eph, .int .u64 epl]
    simp only [World.size_alloc] at k
    rw [hy]; exact ((k.alloc _).alloc _)
  have bQ : Bx 24 y0 (w.heap.size + 1 + 1) [.int .i64 0, .int .u64 0] := by
    have k := Bx.new ((w.alloc (.cells #[.int .i64 dxh, .int .u64 dxl, .int .i64 dyh, .int .u64 dyl] 26)).alloc (.cells #[.int .i64 eph, .int .u64 epl] 24)) 24 #[.int .i64 0, .int .u64 0]
    simp only [World.size_alloc] at k
    rw [hy]; exact (k.alloc _)
  have bR : Bx 24 y0 (w.heap.size + 1 + 1 + 1) [.int .i64 0, .int .u64 0] := by
    have k := Bx.new (((w.alloc (.cells #[.int .i64 dxh, .int .u64 dxl, .int .i64 dyh, .int .u64 dyl] 26)).alloc (.cells #[.int .i64 eph, .int .u64 epl] 24)).alloc (.cells #[.int .i64 0, .int .u64 0] 24)) 24 #[.int .i64 0, .int .u64 0]
    simp only [World.size_alloc] at k
    rw [hy]; exact k
  have H0 : Hid (Below w.heap.size w y0) := by rw [hy]; exact bl_al (bl_al (bl_al (bl_al (Below.refl _ _) _) _) _) _
  have BD := Lib.hid bD
  have BE := Lib.hid bE
  have BQ := Lib.hid bQ
  have BR := Lib.hid bR
  clear hy bD bE bQ bR
  have d0 := BD.out.cell (j := 0) rfl; have d1 := BD.out.cell (j := 1) rfl; have d2 := BD.out.cell (j := 2) rfl; have d3 := BD.out.cell (j := 3) rfl
  go_upto_region 2 with (first | (go_at_call 36; (with_reducible refine (K1.out _).mono ?_); rintro e w1 ⟨rfl, hb⟩) | fail)
  refine nw _ fun y1 hy => ?_
  have HW : Below y0.heap.size y0 y1 := by rw [hy]; exact bl_al hb _
  have BL : Hid (Bx 24 y1 w1.heap.size [.int .i64 lh, .int .u64 ll]) := by rw [hy]; exact Bx.new _ _ _
  have BE' := Lib.hid (BE.out.below HW)
  have BQ' := Lib.hid (BQ.out.below HW)
  have BR' := Lib.hid (BR.out.below HW)
  have H1 := Lib.hid (bl_trans H0.out HW)
  have QL : w.heap.size + 1 + 1 ≠ w1.heap.size := Nat.ne_of_lt (BQ.out.below hb).lt
  clear hy hb HW H0 BD BE BQ BR d0 d1 d2 d3 K1
  have BE := BE'; clear BE'
  have BQ := BQ'; clear BQ'
  have BR := BR'; clear BR'
  generalize w1.heap.size = NL at *
  rcases Decidable.em (le = 0) with h | h
  rotate_left
  · have nz : (le == 0) = false := by rw [beq_eq_false_iff_ne]; exact h
    have q0 := BQ.out.cell (j := 0) rfl; have q1 := BQ.out.cell (j := 1) rfl; have qf := BQ.out.frz; have qz := BQ.out.lt
    have r0 := BR.out.cell (j := 0) rfl; have r1 := BR.out.cell (j := 1) rfl; have rf := BR.out.frz; have rz := BR.out.lt
    go_wp2_with fail
    refine bodyPost_ret (by simp [results, Try.results21, go_sem, *]; try rfl) rfl ?_
    exact ⟨by simp [chz, z2e, h], bb⟩
  subst h
  have e0 := BE.out.cell (j := 0) rfl; have e1 := BE.out.cell (j := 1) rfl
  go_upto_region 5 with (first | (go_at_call 37; (with_reducible refine (K2.out _).mono ?_); rintro e w2 ⟨rfl, hb⟩) | fail)
  refine nw _ fun y2 hy => ?_
  have HW : Below y1.heap.size y1 y2 := by rw [hy]; exact bl_al hb _
  have BS : Hid (Bx 24 y2 w2.heap.size [.int .i64 sh, .int .u64 sl]) := by rw [hy]; exact Bx.new _ _ _
  have BL' := Lib.hid (BL.out.below HW)
  have BQ' := Lib.hid (BQ.out.below HW)
  have BR' := Lib.hid (BR.out.below HW)
  have H2 := Lib.hid (bl_trans H1.out HW)
  have QS : w.heap.size + 1 + 1 ≠ w2.heap.size := Nat.ne_of_lt (BQ.out.below hb).lt
  clear hy hb HW H1 BE BL BQ BR e0 e1 K2
  have BL := BL'; clear BL'
  have BQ := BQ'; clear BQ'
  have BR := BR'; clear BR'
  generalize w2.heap.size = NS at *
  rcases Decidable.em (se = 0) with h | h
  rotate_left
  · have nz : (se == 0) = false := by rw [beq_eq_false_iff_ne]; exact h
    have q0 := BQ.out.cell (j := 0) rfl; have q1 := BQ.out.cell (j := 1) rfl; have qf := BQ.out.frz; have qz := BQ.out.lt
    have r0 := BR.out.cell (j := 0) rfl; have r1 := BR.out.cell (j := 1) rfl; have rf := BR.out.frz; have rz := BR.out.lt
    go_wp2_with fail
    refine bodyPost_ret (by simp [results, Try.results21, go_sem, *]; try rfl) rfl ?_
    exact ⟨by simp [chz, z2e, h], bb⟩
  subst h
  have l0 := BL.out.cell (j := 0) rfl; have l1 := BL.out.cell (j := 1) rfl; have s0 := BS.out.cell (j := 0) rfl; have s1 := BS.out.cell (j := 1) rfl
  go_upto_region 8 with (first | (go_at_call 38; (with_reducible refine (K3.out _).mono ?_); rintro e w3 ⟨rfl, hb⟩; have bq := BQ.out.below hb; have q0 := bq.cell (j := 0) rfl; have q1 := bq.cell (j := 1) rfl; have qf := bq.frz; have qz := bq.lt) | fail)
  refine nw _ fun y3 hy => ?_
  have BQ' : Hid (Bx 24 y3 (w.heap.size + 1 + 1) [.int .i64 qh, .int .u64 ql]) := by rw [hy]; exact ((bq.putE 0 _ rfl).putE 1 _ rfl)
  have BR' : Hid (Bx 24 y3 (w.heap.size + 1 + 1 + 1) [.int .i64 0, .int .u64 0]) := by rw [hy]; exact ((BR.out.below hb).far (by simp) _).far (by simp) _
  have H3 : Hid (Below w.heap.size w y3) := by rw [hy]; exact ((bl_trans H2.out hb).setCell (by simp; omega) _).setCell (by simp; omega) _
  clear hy hb bq q0 q1 qf qz H2 BL BS BQ BR l0 l1 s0 s1 K3
  have BQ := BQ'; clear BQ'
  have BR := BR'; clear BR'
  rcases Decidable.em (qe = 0) with h | h
  rotate_left
  · have nz : (qe == 0) = false := by rw [beq_eq_false_iff_ne]; exact h
    have q0 := BQ.out.cell (j := 0) rfl; have q1 := BQ.out.cell (j := 1) rfl; have qf := BQ.out.frz; have qz := BQ.out.lt
    have r0 := BR.out.cell (j := 0) rfl; have r1 := BR.out.cell (j := 1) rfl; have rf := BR.out.frz; have rz := BR.out.lt
    go_wp2_with fail
    refine bodyPost_ret (by simp [results, Try.results21, go_sem, *]; try rfl) rfl ?_
    exact ⟨by simp [chz, z2e, h], bb⟩
  subst h
  have q0 := BQ.out.cell (j := 0) rfl; have q1 := BQ.out.cell (j := 1) rfl
  go_upto_region 11 with (first | (go_at_call 39; (with_reducible refine (K4.out _).mono ?_); rintro e w4 ⟨rfl, hb⟩; have bq := BR.out.below hb; have r0 := bq.cell (j := 0) rfl; have r1 := bq.cell (j := 1) rfl; have rf := bq.frz; have rz := bq.lt) | fail)
  refine nw _ fun y4 hy => ?_
  have BR' : Hid (Bx 24 y4 (w.heap.size + 1 + 1 + 1) [.int .i64 rh, .int .u64 rl]) := by rw [hy]; exact ((bq.putE 0 _ rfl).putE 1 _ rfl)
  have BQ' : Hid (Bx 24 y4 (w.heap.size + 1 + 1) [.int .i64 qh, .int .u64 ql]) := by rw [hy]; exact ((BQ.out.below hb).far (by simp) _).far (by simp) _
  have H4 : Hid (Below w.heap.size w y4) := by rw [hy]; exact ((bl_trans H3.out hb).setCell (by simp; omega) _).setCell (by simp; omega) _
  clear hy hb bq r0 r1 rf rz H3 BQ BR q0 q1 K4
  have BQ := BQ'; clear BQ'
  have BR := BR'; clear BR'
  have q0 := BQ.out.cell (j := 0) rfl; have q1 := BQ.out.cell (j := 1) rfl; have qf := BQ.out.frz; have qz := BQ.out.lt
  have r0 := BR.out.cell (j := 0) rfl; have r1 := BR.out.cell (j := 1) rfl; have rf := BR.out.frz; have rz := BR.out.lt
  go_region_with fail
  all_goals
    go_wp2_with fail
    refine bodyPost_ret (by simp [results, Try.results21, go_sem, *]; try rfl) rfl ?_
    exact ⟨rfl, bb⟩
end Go.Proofs.Ytmmlekgojblopaa
