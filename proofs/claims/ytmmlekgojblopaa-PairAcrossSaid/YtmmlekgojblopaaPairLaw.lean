/- What the laws of layer 10 want of the program: what Pull comes to; may, awake. -/
import Derived.Test.YtmmlekgojblopaaZzRow
namespace Go.Proofs.Ytmmlekgojblopaa
open Go.RowKit
theorem eq_vec_same (a b c d : Int) (W : World) : (Go.binOp .eql 26 (.agg #[.int .i64 a, .int .u64 b, .int .i64 c, .int .u64 d]) (.agg #[.int .i64 a, .int .u64 b, .int .i64 c, .int .u64 d])).run Try.prog W = .ok (.bool true) W := by
  simp [go_sem]
set_option maxRecDepth 20000 in
set_option maxHeartbeats 8000000 in
theorem pmay_core (gh gl ah al bh bl dxh dxl dyh dyl eph epl th tl : Int) (q1 q2 q3 q4 q5 q6 : Bool) (w : World) (C1 : Ct 19 #[.agg #[.int .i64 gh, .int .u64 gl]] (.bool q1)) (C2 : Ct 19 #[.agg #[.int .i64 ah, .int .u64 al]] (.bool q2)) (C3 : Ct 19 #[.agg #[.int .i64 bh, .int .u64 bl]] (.bool q3)) (C4 : Ct 20 #[.agg #[.int .i64 dxh, .int .u64 dxl, .int .i64 dyh, .int .u64 dyl]] (.bool q4)) (C5 : Ct 19 #[.agg #[.int .i64 eph, .int .u64 epl]] (.bool q5)) (C6 : Ct 19 #[.agg #[.int .i64 th, .int .u64 tl]] (.bool q6)) :
    Calls Try.prog 9 #[.agg #[.int .i64 gh, .int .u64 gl], .agg #[.int .i64 ah, .int .u64 al], .agg #[.int .i64 bh, .int .u64 bl], .agg #[.int .i64 dxh, .int .u64 dxl, .int .i64 dyh, .int .u64 dyl], .agg #[.int .i64 eph, .int .u64 epl], .agg #[.int .i64 th, .int .u64 tl]] w fun e w' => e = .returned (.bool (q1 && q2 && q3 && q4 && q5 && q6)) ∧ Below w.heap.size w w' := by
  have K1 := Lib.hid C1; have K2 := Lib.hid C2; have K3 := Lib.hid C3; have K4 := Lib.hid C4; have K5 := Lib.hid C5; have K6 := Lib.hid C6
  clear C1 C2 C3 C4 C5 C6
  go_enter Try.func9, Try.ntmps9
  go_upto_region 1 with fail
  refine nw _ fun y0 hy => ?_
  have cg : Bx 24 y0 (w.heap.size) [.int .i64 gh, .int .u64 gl] := by
    have k := Bx.new w 24 #[.int .i64 gh, .int .u64 gl]
    rw [hy]; exact (((((k.alloc _).alloc _).alloc _).alloc _).alloc _)
  have ca : Bx 24 y0 (w.heap.size + 1) [.int .i64 ah, .int .u64 al] := by
    have k := Bx.new (w.alloc (.cells #[.int .i64 gh, .int .u64 gl] 24)) 24 #[.int .i64 ah, .int .u64 al]
    simp only [World.size_alloc] at k
    rw [hy]; exact ((((k.alloc _).alloc _).alloc _).alloc _)
  have cb : Bx 24 y0 (w.heap.size + 1 + 1) [.int .i64 bh, .int .u64 bl] := by
    have k := Bx.new ((w.alloc (.cells #[.int .i64 gh, .int .u64 gl] 24)).alloc (.cells #[.int .i64 ah, .int .u64 al] 24)) 24 #[.int .i64 bh, .int .u64 bl]
    simp only [World.size_alloc] at k
    rw [hy]; exact (((k.alloc _).alloc _).alloc _)
  have cd : Bx 26 y0 (w.heap.size + 1 + 1 + 1) [.int .i64 dxh, .int .u64 dxl, .int .i64 dyh, .int .u64 dyl] := by
    have k := Bx.new (((w.alloc (.cells #[.int .i64 gh, .int .u64 gl] 24)).alloc (.cells #[.int .i64 ah, .int .u64 al] 24)).alloc (.cells #[.int .i64 bh, .int .u64 bl] 24)) 26 #[.int .i64 dxh, .int .u64 dxl, .int .i64 dyh, .int .u64 dyl]
    simp only [World.size_alloc] at k
    rw [hy]; exact ((k.alloc _).alloc _)
  have cep : Bx 24 y0 (w.heap.size + 1 + 1 + 1 + 1) [.int .i64 eph, .int .u64 epl] := by
    have k := Bx.new ((((w.alloc (.cells #[.int .i64 gh, .int .u64 gl] 24)).alloc (.cells #[.int .i64 ah, .int .u64 al] 24)).alloc (.cells #[.int .i64 bh, .int .u64 bl] 24)).alloc (.cells #[.int .i64 dxh, .int .u64 dxl, .int .i64 dyh, .int .u64 dyl] 26)) 24 #[.int .i64 eph, .int .u64 epl]
    simp only [World.size_alloc] at k
    rw [hy]; exact (k.alloc _)
  have ct : Bx 24 y0 (w.heap.size + 1 + 1 + 1 + 1 + 1) [.int .i64 th, .int .u64 tl] := by
    have k := Bx.new (((((w.alloc (.cells #[.int .i64 gh, .int .u64 gl] 24)).alloc (.cells #[.int .i64 ah, .int .u64 al] 24)).alloc (.cells #[.int .i64 bh, .int .u64 bl] 24)).alloc (.cells #[.int .i64 dxh, .int .u64 dxl, .int .i64 dyh, .int .u64 dyl] 26)).alloc (.cells #[.int .i64 eph, .int .u64 epl] 24)) 24 #[.int .i64 th, .int .u64 tl]
    simp only [World.size_alloc] at k
    rw [hy]; exact k
  have H0 : Hid (Below w.heap.size w y0) := by rw [hy]; exact bl_al (bl_al (bl_al (bl_al (bl_al (bl_al (Below.refl _ _) _) _) _) _) _) _
  have Y0 : Hid (Below y0.heap.size y0 y0) := Below.refl _ _
  have pg0 := Lib.hid (stays (cg.cell (j := 0) rfl) cg.lt); have pg1 := Lib.hid (stays (cg.cell (j := 1) rfl) cg.lt)
  have pa0 := Lib.hid (stays (ca.cell (j := 0) rfl) ca.lt); have pa1 := Lib.hid (stays (ca.cell (j := 1) rfl) ca.lt)
  have pb0 := Lib.hid (stays (cb.cell (j := 0) rfl) cb.lt); have pb1 := Lib.hid (stays (cb.cell (j := 1) rfl) cb.lt)
  have pd0 := Lib.hid (stays (cd.cell (j := 0) rfl) cd.lt); have pd1 := Lib.hid (stays (cd.cell (j := 1) rfl) cd.lt); have pd2 := Lib.hid (stays (cd.cell (j := 2) rfl) cd.lt); have pd3 := Lib.hid (stays (cd.cell (j := 3) rfl) cd.lt)
  have pep0 := Lib.hid (stays (cep.cell (j := 0) rfl) cep.lt); have pep1 := Lib.hid (stays (cep.cell (j := 1) rfl) cep.lt)
  have pt0 := Lib.hid (stays (ct.cell (j := 0) rfl) ct.lt); have pt1 := Lib.hid (stays (ct.cell (j := 1) rfl) ct.lt)
  clear hy cg ca cb cd cep ct
  have pg0 := pg0.out; have pg1 := pg1.out; have pa0 := pa0.out; have pa1 := pa1.out; have pb0 := pb0.out; have pb1 := pb1.out; have pd0 := pd0.out; have pd1 := pd1.out; have pd2 := pd2.out; have pd3 := pd3.out; have pep0 := pep0.out; have pep1 := pep1.out; have pt0 := pt0.out; have pt1 := pt1.out
  have W0 := Y0.out
  cases q1
  · go_wp2_with (first
      | (go_at_call 19; (with_reducible refine (K1.out _).mono ?_); rintro e wc ⟨rfl, hbc⟩; have W1 := bl_trans W0 hbc; clear W0 hbc; have W0 := W1; clear W1)
      | fail)
    go_returns
    exact ⟨rfl, bl_trans H0.out W0⟩
  · cases q2
    · go_wp2_with (first
        | (go_at_call 19; (with_reducible refine (K1.out _).mono ?_); rintro e wc ⟨rfl, hbc⟩; have W1 := bl_trans W0 hbc; clear W0 hbc; have W0 := W1; clear W1)
        | (go_at_call 19; (with_reducible refine (K2.out _).mono ?_); rintro e wc ⟨rfl, hbc⟩; have W1 := bl_trans W0 hbc; clear W0 hbc; have W0 := W1; clear W1)
        | fail)
      go_returns
      exact ⟨rfl, bl_trans H0.out W0⟩
    · cases q3
      · go_wp2_with (first
          | (go_at_call 19; (with_reducible refine (K1.out _).mono ?_); rintro e wc ⟨rfl, hbc⟩; have W1 := bl_trans W0 hbc; clear W0 hbc; have W0 := W1; clear W1)
          | (go_at_call 19; (with_reducible refine (K2.out _).mono ?_); rintro e wc ⟨rfl, hbc⟩; have W1 := bl_trans W0 hbc; clear W0 hbc; have W0 := W1; clear W1)
          | (go_at_call 19; (with_reducible refine (K3.out _).mono ?_); rintro e wc ⟨rfl, hbc⟩; have W1 := bl_trans W0 hbc; clear W0 hbc; have W0 := W1; clear W1)
          | fail)
        go_returns
        exact ⟨rfl, bl_trans H0.out W0⟩
      · cases q4
        · go_wp2_with (first
            | (go_at_call 19; (with_reducible refine (K1.out _).mono ?_); rintro e wc ⟨rfl, hbc⟩; have W1 := bl_trans W0 hbc; clear W0 hbc; have W0 := W1; clear W1)
            | (go_at_call 19; (with_reducible refine (K2.out _).mono ?_); rintro e wc ⟨rfl, hbc⟩; have W1 := bl_trans W0 hbc; clear W0 hbc; have W0 := W1; clear W1)
            | (go_at_call 19; (with_reducible refine (K3.out _).mono ?_); rintro e wc ⟨rfl, hbc⟩; have W1 := bl_trans W0 hbc; clear W0 hbc; have W0 := W1; clear W1)
            | (go_at_call 20; (with_reducible refine (K4.out _).mono ?_); rintro e wc ⟨rfl, hbc⟩; have W1 := bl_trans W0 hbc; clear W0 hbc; have W0 := W1; clear W1)
            | fail)
          go_returns
          exact ⟨rfl, bl_trans H0.out W0⟩
        · cases q5
          · go_wp2_with (first
              | (go_at_call 19; (with_reducible refine (K1.out _).mono ?_); rintro e wc ⟨rfl, hbc⟩; have W1 := bl_trans W0 hbc; clear W0 hbc; have W0 := W1; clear W1)
              | (go_at_call 19; (with_reducible refine (K2.out _).mono ?_); rintro e wc ⟨rfl, hbc⟩; have W1 := bl_trans W0 hbc; clear W0 hbc; have W0 := W1; clear W1)
              | (go_at_call 19; (with_reducible refine (K3.out _).mono ?_); rintro e wc ⟨rfl, hbc⟩; have W1 := bl_trans W0 hbc; clear W0 hbc; have W0 := W1; clear W1)
              | (go_at_call 20; (with_reducible refine (K4.out _).mono ?_); rintro e wc ⟨rfl, hbc⟩; have W1 := bl_trans W0 hbc; clear W0 hbc; have W0 := W1; clear W1)
              | (go_at_call 19; (with_reducible refine (K5.out _).mono ?_); rintro e wc ⟨rfl, hbc⟩; have W1 := bl_trans W0 hbc; clear W0 hbc; have W0 := W1; clear W1)
              | fail)
            go_returns
            exact ⟨rfl, bl_trans H0.out W0⟩
          · cases q6
            · go_wp2_with (first
                | (go_at_call 19; (with_reducible refine (K1.out _).mono ?_); rintro e wc ⟨rfl, hbc⟩; have W1 := bl_trans W0 hbc; clear W0 hbc; have W0 := W1; clear W1)
                | (go_at_call 19; (with_reducible refine (K2.out _).mono ?_); rintro e wc ⟨rfl, hbc⟩; have W1 := bl_trans W0 hbc; clear W0 hbc; have W0 := W1; clear W1)
                | (go_at_call 19; (with_reducible refine (K3.out _).mono ?_); rintro e wc ⟨rfl, hbc⟩; have W1 := bl_trans W0 hbc; clear W0 hbc; have W0 := W1; clear W1)
                | (go_at_call 20; (with_reducible refine (K4.out _).mono ?_); rintro e wc ⟨rfl, hbc⟩; have W1 := bl_trans W0 hbc; clear W0 hbc; have W0 := W1; clear W1)
                | (go_at_call 19; (with_reducible refine (K5.out _).mono ?_); rintro e wc ⟨rfl, hbc⟩; have W1 := bl_trans W0 hbc; clear W0 hbc; have W0 := W1; clear W1)
                | (go_at_call 19; (with_reducible refine (K6.out _).mono ?_); rintro e wc ⟨rfl, hbc⟩; have W1 := bl_trans W0 hbc; clear W0 hbc; have W0 := W1; clear W1)
                | fail)
              go_returns
              exact ⟨rfl, bl_trans H0.out W0⟩
            · go_wp2_with (first
                | (go_at_call 19; (with_reducible refine (K1.out _).mono ?_); rintro e wc ⟨rfl, hbc⟩; have W1 := bl_trans W0 hbc; clear W0 hbc; have W0 := W1; clear W1)
                | (go_at_call 19; (with_reducible refine (K2.out _).mono ?_); rintro e wc ⟨rfl, hbc⟩; have W1 := bl_trans W0 hbc; clear W0 hbc; have W0 := W1; clear W1)
                | (go_at_call 19; (with_reducible refine (K3.out _).mono ?_); rintro e wc ⟨rfl, hbc⟩; have W1 := bl_trans W0 hbc; clear W0 hbc; have W0 := W1; clear W1)
                | (go_at_call 20; (with_reducible refine (K4.out _).mono ?_); rintro e wc ⟨rfl, hbc⟩; have W1 := bl_trans W0 hbc; clear W0 hbc; have W0 := W1; clear W1)
                | (go_at_call 19; (with_reducible refine (K5.out _).mono ?_); rintro e wc ⟨rfl, hbc⟩; have W1 := bl_trans W0 hbc; clear W0 hbc; have W0 := W1; clear W1)
                | (go_at_call 19; (with_reducible refine (K6.out _).mono ?_); rintro e wc ⟨rfl, hbc⟩; have W1 := bl_trans W0 hbc; clear W0 hbc; have W0 := W1; clear W1)
                | fail)
              go_returns
              exact ⟨rfl, bl_trans H0.out W0⟩
set_option maxRecDepth 20000 in
set_option maxHeartbeats 8000000 in
theorem pawake_core (oh ol : Int) (w : World) (C1 : Ct 16 #[.int .i64 1] (.agg #[.int .i64 oh, .int .u64 ol])) (C2 : Ct 11 #[.agg #[.int .i64 oh, .int .u64 ol], .agg #[.int .i64 oh, .int .u64 ol], .agg #[.int .i64 oh, .int .u64 ol], .agg #[.int .i64 0, .int .u64 0, .int .i64 0, .int .u64 0], .agg #[.int .i64 0, .int .u64 0], .agg #[.int .i64 oh, .int .u64 ol]] (.tuple #[.agg #[.int .i64 0, .int .u64 0, .int .i64 0, .int .u64 0], .int .i64 2])) (C3 : Ct 11 #[.agg #[.int .i64 oh, .int .u64 ol], .agg #[.int .i64 oh, .int .u64 ol], .agg #[.int .i64 oh, .int .u64 ol], .agg #[.int .i64 oh, .int .u64 ol, .int .i64 0, .int .u64 0], .agg #[.int .i64 0, .int .u64 0], .agg #[.int .i64 oh, .int .u64 ol]] (.tuple #[.agg #[.int .i64 oh, .int .u64 ol, .int .i64 0, .int .u64 0], .int .i64 0])) (C4 : Ct 13 #[.int .i64 2] (.int .i64 2)) (C5 : Ct 13 #[.int .i64 0] (.int .i64 0)) :
    Calls Try.prog 10 #[] w fun e w' => e = .returned (.bool true) ∧ Below w.heap.size w w' := by
  have K1 := Lib.hid C1; have K2 := Lib.hid C2; have K3 := Lib.hid C3; have K4 := Lib.hid C4; have K5 := Lib.hid C5
  clear C1 C2 C3 C4 C5
  have qv := eq_vec_same oh ol 0 0
  go_enter Try.func10, Try.ntmps10
  go_upto_region 2 with (first | (go_at_call 16; (with_reducible refine (K1.out _).mono ?_); rintro e w1 ⟨rfl, hb⟩) | fail)
  refine nw _ fun y0 hy => ?_
  have b0 : Bx 24 y0 w1.heap.size [.int .i64 oh, .int .u64 ol] := by rw [hy]; exact Bx.new _ _ _
  have H0 : Hid (Below w.heap.size w y0) := by rw [hy]; exact bl_al hb _
  have p0 := Lib.hid (stays (b0.cell (j := 0) rfl) b0.lt); have p1 := Lib.hid (stays (b0.cell (j := 1) rfl) b0.lt)
  obtain ⟨o0, o1⟩ := b0.c2
  clear hy hb b0
  generalize w1.heap.size = n at *
  go_upto_region 3 with (first | (go_at_call 11; (with_reducible refine (K2.out _).mono ?_); rintro e w2 ⟨rfl, hb⟩) | fail)
  refine nw _ fun y1 hy => ?_
  have Y1 : Hid (Below y0.heap.size y0 y1) := by rw [hy]; exact bl_al hb _
  clear hy hb o0 o1
  have o0 := p0.out y1 Y1.out; have o1 := p1.out y1 Y1.out
  go_upto_region 4 with (first | (go_at_call 11; (with_reducible refine (K3.out _).mono ?_); rintro e w3 ⟨rfl, hb⟩) | fail)
  refine nw _ fun y2 hy => ?_
  have jx : Bx 26 y2 w3.heap.size [.int .i64 oh, .int .u64 ol, .int .i64 0, .int .u64 0] := by rw [hy]; exact Bx.new _ _ _
  have Y2 : Hid (Below y0.heap.size y0 y2) := by rw [hy]; exact bl_al (bl_trans Y1.out hb) _
  have o0' := p0.out y2 Y2.out; have o1' := p1.out y2 Y2.out
  have ol0 : n < y2.heap.size := World.block_lt_of_cell? _ _ o0'
  have k0 := stays o0' ol0; have k1 := stays o1' ol0
  have j0 := stays (jx.cell (j := 0) rfl) jx.lt; have j1 := stays (jx.cell (j := 1) rfl) jx.lt; have j2 := stays (jx.cell (j := 2) rfl) jx.lt; have j3 := stays (jx.cell (j := 3) rfl) jx.lt
  clear hy hb o0 o1 o0' o1' jx Y1
  generalize w3.heap.size = m at *
  have W0 := Below.refl y2.heap.size y2
  go_wp2_with (first
    | (go_at_call 13; (with_reducible refine (K4.out _).mono ?_); rintro e wc ⟨rfl, hbc⟩; have W1 := bl_trans W0 hbc; clear W0 hbc; have W0 := W1; clear W1)
    | (go_at_call 13; (with_reducible refine (K5.out _).mono ?_); rintro e wc ⟨rfl, hbc⟩; have W1 := bl_trans W0 hbc; clear W0 hbc; have W0 := W1; clear W1)
    | fail)
  go_returns
  exact ⟨rfl, bl_trans (bl_trans H0.out Y2.out) W0⟩
end Go.Proofs.Ytmmlekgojblopaa
