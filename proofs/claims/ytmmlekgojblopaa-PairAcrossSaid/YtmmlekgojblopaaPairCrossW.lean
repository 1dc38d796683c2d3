/- PairAcross, as walks. -/
import Derived.Test.YtmmlekgojblopaaPairLaw
namespace Go.Proofs.Ytmmlekgojblopaa
open Go.RowKit
set_option maxRecDepth 20000 in
set_option maxHeartbeats 8000000 in
theorem pairAcross_no1 (ah al bh bl x y h : Int) (w : World)
    (C1 : Ct 19 #[.agg #[.int .i64 ah, .int .u64 al]] (.bool false))
    (C2 : Ct 10 #[] (.bool true)) :
    Calls Try.prog 8 #[.agg #[.int .i64 ah, .int .u64 al], .agg #[.int .i64 bh, .int .u64 bl], .int .i32 x, .int .i32 y, .int .u64 h] w fun e w' => e = .returned (.bool true) ∧ Below w.heap.size w w' := by
  have K1 := Lib.hid C1; have K2 := Lib.hid C2
  clear C1 C2
  go_enter Try.func8, Try.ntmps8
  go_upto_region 1 with fail
  refine nw _ fun y0 hy => ?_
  have ca : Bx 24 y0 (w.heap.size) [.int .i64 ah, .int .u64 al] := by
    have k := Bx.new w 24 #[.int .i64 ah, .int .u64 al]
    rw [hy]; exact (k.alloc _)
  have cb : Bx 24 y0 (w.heap.size + 1) [.int .i64 bh, .int .u64 bl] := by
    have k := Bx.new (w.alloc (.cells #[.int .i64 ah, .int .u64 al] 24)) 24 #[.int .i64 bh, .int .u64 bl]
    simp only [World.size_alloc] at k
    rw [hy]; exact k
  have H0 : Hid (Below w.heap.size w y0) := by rw [hy]; exact bl_al (bl_al (Below.refl _ _) _) _
  have Y0 : Hid (Below y0.heap.size y0 y0) := Below.refl _ _
  have pa0 := Lib.hid (stays (ca.cell (j := 0) rfl) ca.lt); have pa1 := Lib.hid (stays (ca.cell (j := 1) rfl) ca.lt)
  have pb0 := Lib.hid (stays (cb.cell (j := 0) rfl) cb.lt); have pb1 := Lib.hid (stays (cb.cell (j := 1) rfl) cb.lt)
  clear hy ca cb
  have pa0 := pa0.out; have pa1 := pa1.out; have pb0 := pb0.out; have pb1 := pb1.out
  have W0 := Y0.out
  go_wp2_with (first
    | (go_at_call 19; (with_reducible refine (K1.out _).mono ?_); rintro e wc ⟨rfl, hbc⟩; have W1 := bl_trans W0 hbc; clear W0 hbc; have W0 := W1; clear W1)
    | (go_at_call 10; (with_reducible refine (K2.out _).mono ?_); rintro e wc ⟨rfl, hbc⟩; have W1 := bl_trans W0 hbc; clear W0 hbc; have W0 := W1; clear W1)
    | fail)
  go_returns
  exact ⟨rfl, bl_trans H0.out W0⟩
set_option maxRecDepth 20000 in
set_option maxHeartbeats 8000000 in
theorem pairAcross_no2 (ah al bh bl x y h : Int) (w : World)
    (C1 : Ct 19 #[.agg #[.int .i64 ah, .int .u64 al]] (.bool true))
    (C2 : Ct 19 #[.agg #[.int .i64 bh, .int .u64 bl]] (.bool false))
    (C3 : Ct 10 #[] (.bool true)) :
    Calls Try.prog 8 #[.agg #[.int .i64 ah, .int .u64 al], .agg #[.int .i64 bh, .int .u64 bl], .int .i32 x, .int .i32 y, .int .u64 h] w fun e w' => e = .returned (.bool true) ∧ Below w.heap.size w w' := by
  have K1 := Lib.hid C1; have K2 := Lib.hid C2; have K3 := Lib.hid C3
  clear C1 C2 C3
  go_enter Try.func8, Try.ntmps8
  go_upto_region 1 with fail
  refine nw _ fun y0 hy => ?_
  have ca : Bx 24 y0 (w.heap.size) [.int .i64 ah, .int .u64 al] := by
    have k := Bx.new w 24 #[.int .i64 ah, .int .u64 al]
    rw [hy]; exact (k.alloc _)
  have cb : Bx 24 y0 (w.heap.size + 1) [.int .i64 bh, .int .u64 bl] := by
    have k := Bx.new (w.alloc (.cells #[.int .i64 ah, .int .u64 al] 24)) 24 #[.int .i64 bh, .int .u64 bl]
    simp only [World.size_alloc] at k
    rw [hy]; exact k
  have H0 : Hid (Below w.heap.size w y0) := by rw [hy]; exact bl_al (bl_al (Below.refl _ _) _) _
  have Y0 : Hid (Below y0.heap.size y0 y0) := Below.refl _ _
  have pa0 := Lib.hid (stays (ca.cell (j := 0) rfl) ca.lt); have pa1 := Lib.hid (stays (ca.cell (j := 1) rfl) ca.lt)
  have pb0 := Lib.hid (stays (cb.cell (j := 0) rfl) cb.lt); have pb1 := Lib.hid (stays (cb.cell (j := 1) rfl) cb.lt)
  clear hy ca cb
  have pa0 := pa0.out; have pa1 := pa1.out; have pb0 := pb0.out; have pb1 := pb1.out
  have W0 := Y0.out
  go_wp2_with (first
    | (go_at_call 19; (with_reducible refine (K1.out _).mono ?_); rintro e wc ⟨rfl, hbc⟩; have W1 := bl_trans W0 hbc; clear W0 hbc; have W0 := W1; clear W1)
    | (go_at_call 19; (with_reducible refine (K2.out _).mono ?_); rintro e wc ⟨rfl, hbc⟩; have W1 := bl_trans W0 hbc; clear W0 hbc; have W0 := W1; clear W1)
    | (go_at_call 10; (with_reducible refine (K3.out _).mono ?_); rintro e wc ⟨rfl, hbc⟩; have W1 := bl_trans W0 hbc; clear W0 hbc; have W0 := W1; clear W1)
    | fail)
  go_returns
  exact ⟨rfl, bl_trans H0.out W0⟩
set_option maxRecDepth 20000 in
set_option maxHeartbeats 8000000 in
theorem pairAcross_yes (ah al bh bl x y h dxh dxl dyh dyl oh ol xxh xxl xyh xyl ee : Int) (hx : -2147483648 ≤ x ∧ x < 2147483648) (hy : -2147483648 ≤ y ∧ y < 2147483648) (e1 : x / 256 = dxh) (e2 : IntKind.u64.wrap y = dxl) (e3 : y / 256 = dyh) (e4 : IntKind.u64.wrap x = dyl) (w : World)
    (C1 : Ct 19 #[.agg #[.int .i64 ah, .int .u64 al]] (.bool true))
    (C2 : Ct 19 #[.agg #[.int .i64 bh, .int .u64 bl]] (.bool true))
    (C3 : Ct 16 #[.int .i64 1] (.agg #[.int .i64 oh, .int .u64 ol]))
    (C4 : Ct 11 #[.agg #[.int .i64 oh, .int .u64 ol], .agg #[.int .i64 ah, .int .u64 al], .agg #[.int .i64 bh, .int .u64 bl], .agg #[.int .i64 dxh, .int .u64 dxl, .int .i64 dyh, .int .u64 dyl], .agg #[.int .i64 oh, .int .u64 ol], .agg #[.int .i64 0, .int .u64 h]] (.tuple #[.agg #[.int .i64 xxh, .int .u64 xxl, .int .i64 xyh, .int .u64 xyl], .int .i64 ee]))
    (C5 : Ct 11 #[.agg #[.int .i64 oh, .int .u64 ol], .agg #[.int .i64 ah, .int .u64 al], .agg #[.int .i64 bh, .int .u64 bl], .agg #[.int .i64 dyh, .int .u64 dyl, .int .i64 dxh, .int .u64 dxl], .agg #[.int .i64 oh, .int .u64 ol], .agg #[.int .i64 0, .int .u64 h]] (.tuple #[.agg #[.int .i64 xyh, .int .u64 xyl, .int .i64 xxh, .int .u64 xxl], .int .i64 ee]))
    (C6 : Ct 10 #[] (.bool true)) :
    Calls Try.prog 8 #[.agg #[.int .i64 ah, .int .u64 al], .agg #[.int .i64 bh, .int .u64 bl], .int .i32 x, .int .i32 y, .int .u64 h] w fun e w' => e = .returned (.bool true) ∧ Below w.heap.size w w' := by
  have K1 := Lib.hid C1; have K2 := Lib.hid C2; have K3 := Lib.hid C3; have K4 := Lib.hid C4; have K5 := Lib.hid C5; have K6 := Lib.hid C6
  clear C1 C2 C3 C4 C5 C6
  go_enter Try.func8, Try.ntmps8
  go_upto_region 1 with fail
  refine nw _ fun y0 hy => ?_
  have ca : Bx 24 y0 (w.heap.size) [.int .i64 ah, .int .u64 al] := by
    have k := Bx.new w 24 #[.int .i64 ah, .int .u64 al]
    rw [hy]; exact (k.alloc _)
  have cb : Bx 24 y0 (w.heap.size + 1) [.int .i64 bh, .int .u64 bl] := by
    have k := Bx.new (w.alloc (.cells #[.int .i64 ah, .int .u64 al] 24)) 24 #[.int .i64 bh, .int .u64 bl]
    simp only [World.size_alloc] at k
    rw [hy]; exact k
  have H0 : Hid (Below w.heap.size w y0) := by rw [hy]; exact bl_al (bl_al (Below.refl _ _) _) _
  have Y0 : Hid (Below y0.heap.size y0 y0) := Below.refl _ _
  have pa0 := Lib.hid (stays (ca.cell (j := 0) rfl) ca.lt); have pa1 := Lib.hid (stays (ca.cell (j := 1) rfl) ca.lt)
  have pb0 := Lib.hid (stays (cb.cell (j := 0) rfl) cb.lt); have pb1 := Lib.hid (stays (cb.cell (j := 1) rfl) cb.lt)
  clear hy ca cb
  have qv := eq_vec_same xxh xxl xyh xyl
  have v1 : IntKind.i64.wrap x = x := by rw [IntWalk.i64_in _ (by omega)]
  have v2 : IntKind.i64.wrap y = y := by rw [IntWalk.i64_in _ (by omega)]
  have pa0 := pa0.out; have pa1 := pa1.out; have pb0 := pb0.out; have pb1 := pb1.out
  have W0 := Y0.out
  go_upto_region 4 with (first
    | (go_at_call 19; (with_reducible refine (K1.out _).mono ?_); rintro e wc ⟨rfl, hbc⟩; have W1 := bl_trans W0 hbc; clear W0 hbc; have W0 := W1; clear W1)
    | (go_at_call 19; (with_reducible refine (K2.out _).mono ?_); rintro e wc ⟨rfl, hbc⟩; have W1 := bl_trans W0 hbc; clear W0 hbc; have W0 := W1; clear W1)
    | (go_at_call 16; (with_reducible refine (K3.out _).mono ?_); rintro e wc ⟨rfl, hbc⟩; have W1 := bl_trans W0 hbc; clear W0 hbc; have W0 := W1; clear W1)
    | fail)
  refine nw _ fun y1 hy => ?_
  have ob : Bx 24 y1 wc.heap.size [.int .i64 oh, .int .u64 ol] := by rw [hy]; exact Bx.new _ _ _
  have Y1 : Hid (Below y0.heap.size y0 y1) := by rw [hy]; exact bl_al W0 _
  clear hy W0 K1 K2 K3
  generalize wc.heap.size = no at *
  have o0 := stays (ob.cell (j := 0) rfl) ob.lt; have o1 := stays (ob.cell (j := 1) rfl) ob.lt
  go_upto_region 5 with fail
  refine nw _ fun y2 hy => ?_
  have db : Bx 26 y2 y1.heap.size [.int .i64 dxh, .int .u64 dxl, .int .i64 dyh, .int .u64 dyl] := by rw [hy]; exact Bx.new _ _ _
  have Z2 : Below y1.heap.size y1 y2 := by rw [hy]; exact bl_al (Below.refl _ _) _
  clear hy
  have Y2 := Lib.hid (bl_trans Y1.out Z2)
  have o0' := o0 y2 Z2; have o1' := o1 y2 Z2
  clear o0 o1 ob Y1 Z2
  have d0 := db.cell (j := 0) rfl; have d1 := db.cell (j := 1) rfl; have d2 := db.cell (j := 2) rfl; have d3 := db.cell (j := 3) rfl
  generalize y1.heap.size = nd at *
  have HF2 := Lib.hid (bl_trans H0.out Y2.out)
  have a0 := pa0 y2 Y2.out; have a1 := pa1 y2 Y2.out; have b0 := pb0 y2 Y2.out; have b1 := pb1 y2 Y2.out
  clear pa0 pa1 pb0 pb1 H0 Y0 Y2 db
  have F := fun (n j : Nat) (v : Value) (q : y2.cell? ⟨n, j, none⟩ = some v) => stays q (World.block_lt_of_cell? _ _ q)
  have A0 := Lib.hid (F _ _ _ a0); have A1 := Lib.hid (F _ _ _ a1); have B0 := Lib.hid (F _ _ _ b0); have B1 := Lib.hid (F _ _ _ b1); have O0 := Lib.hid (F _ _ _ o0'); have O1 := Lib.hid (F _ _ _ o1'); have D0 := Lib.hid (F _ _ _ d0); have D1 := Lib.hid (F _ _ _ d1); have D2 := Lib.hid (F _ _ _ d2); have D3 := Lib.hid (F _ _ _ d3)
  clear F
  go_upto_region 6 with (first | (go_at_call 11; (with_reducible refine (K4.out _).mono ?_); rintro e w4 ⟨rfl, hb⟩) | fail)
  refine nw _ fun y3 hy => ?_
  have jb : Hid (Bx 26 y3 w4.heap.size [.int .i64 xxh, .int .u64 xxl, .int .i64 xyh, .int .u64 xyl]) := by rw [hy]; exact Bx.new _ _ _
  have Z3 : Hid (Below y2.heap.size y2 y3) := by rw [hy]; exact bl_al hb _
  clear hy hb a0 a1 b0 b1 o0' o1' d0 d1 d2 d3 K4
  generalize w4.heap.size = nj at *
  have a0 := A0.out y3 Z3.out; have a1 := A1.out y3 Z3.out; have b0 := B0.out y3 Z3.out; have b1 := B1.out y3 Z3.out; have o0' := O0.out y3 Z3.out; have o1' := O1.out y3 Z3.out; have d0 := D0.out y3 Z3.out; have d1 := D1.out y3 Z3.out; have d2 := D2.out y3 Z3.out; have d3 := D3.out y3 Z3.out
  clear A0 A1 B0 B1 O0 O1 D0 D1 D2 D3
  go_upto_region 7 with (first | (go_at_call 11; (with_reducible refine (K5.out _).mono ?_); rintro e w5 ⟨rfl, hb⟩) | fail)
  refine nw _ fun y4 hy => ?_
  have kb : Bx 26 y4 w5.heap.size [.int .i64 xyh, .int .u64 xyl, .int .i64 xxh, .int .u64 xxl] := by rw [hy]; exact Bx.new _ _ _
  have Z4 : Below y3.heap.size y3 y4 := by rw [hy]; exact bl_al hb _
  have HF4 := Lib.hid (bl_trans (bl_trans HF2.out Z3.out) Z4)
  have jc := jb.out.below Z4
  clear hy hb a0 a1 b0 b1 o0' o1' d0 d1 d2 d3 K5 Z3 Z4 HF2 jb
  generalize w5.heap.size = nk at *
  have j0 := jc.cell (j := 0) rfl; have k0 := kb.cell (j := 0) rfl; have j1 := jc.cell (j := 1) rfl; have k1 := kb.cell (j := 1) rfl; have j2 := jc.cell (j := 2) rfl; have k2 := kb.cell (j := 2) rfl; have j3 := jc.cell (j := 3) rfl; have k3 := kb.cell (j := 3) rfl
  clear jc kb
  have W0 := Below.refl y4.heap.size y4
  go_wp2_with (first
    | (go_at_call 10; (with_reducible refine (K6.out _).mono ?_); rintro e wc ⟨rfl, hbc⟩; have W1 := bl_trans W0 hbc; clear W0 hbc; have W0 := W1; clear W1)
    | fail)
  go_returns
  exact ⟨rfl, bl_trans HF4.out W0⟩
end Go.Proofs.Ytmmlekgojblopaa
