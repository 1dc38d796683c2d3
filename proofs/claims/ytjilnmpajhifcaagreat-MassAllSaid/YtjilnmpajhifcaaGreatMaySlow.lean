/- The document's Inside, Speed, Slow. -/
import Derived.Test.YtjilnmpajhifcaaGreatMayFn
import Derived.Test.YtjilnmpajhifcaaGreatZzMasA
namespace Go.Proofs.YtjilnmpajhifcaaGreat
open Go.RowKit
/-- A body's cells, as long as it stands. -/
theorem bod20 {w : World} {g : Nat} {b : Bod} (h : Bx 56 w g (bdc b)) : (∀ w' : World, Below w.heap.size w w' → w'.cell? ⟨g, 0, none⟩ = some (.int .i64 (fh b.m))) ∧ (∀ w' : World, Below w.heap.size w w' → w'.cell? ⟨g, 1, none⟩ = some (.int .u64 (fl b.m))) ∧ (∀ w' : World, Below w.heap.size w w' → w'.cell? ⟨g, 2, none⟩ = some (.int .i64 (fh b.r))) ∧ (∀ w' : World, Below w.heap.size w w' → w'.cell? ⟨g, 3, none⟩ = some (.int .u64 (fl b.r))) ∧ (∀ w' : World, Below w.heap.size w w' → w'.cell? ⟨g, 4, none⟩ = some (.int .i64 (fh b.x))) ∧ (∀ w' : World, Below w.heap.size w w' → w'.cell? ⟨g, 5, none⟩ = some (.int .u64 (fl b.x))) ∧ (∀ w' : World, Below w.heap.size w w' → w'.cell? ⟨g, 6, none⟩ = some (.int .i64 (fh b.y))) ∧ (∀ w' : World, Below w.heap.size w w' → w'.cell? ⟨g, 7, none⟩ = some (.int .u64 (fl b.y))) ∧ (∀ w' : World, Below w.heap.size w w' → w'.cell? ⟨g, 8, none⟩ = some (.int .i64 (fh b.px))) ∧ (∀ w' : World, Below w.heap.size w w' → w'.cell? ⟨g, 9, none⟩ = some (.int .u64 (fl b.px))) ∧ (∀ w' : World, Below w.heap.size w w' → w'.cell? ⟨g, 10, none⟩ = some (.int .i64 (fh b.py))) ∧ (∀ w' : World, Below w.heap.size w w' → w'.cell? ⟨g, 11, none⟩ = some (.int .u64 (fl b.py))) ∧ (∀ w' : World, Below w.heap.size w w' → w'.cell? ⟨g, 12, none⟩ = some (.int .i64 (fh b.fu))) ∧ (∀ w' : World, Below w.heap.size w w' → w'.cell? ⟨g, 13, none⟩ = some (.int .u64 (fl b.fu))) ∧ (∀ w' : World, Below w.heap.size w w' → w'.cell? ⟨g, 14, none⟩ = some (.int .i64 (fh b.ra))) ∧ (∀ w' : World, Below w.heap.size w w' → w'.cell? ⟨g, 15, none⟩ = some (.int .u64 (fl b.ra))) ∧ (∀ w' : World, Below w.heap.size w w' → w'.cell? ⟨g, 16, none⟩ = some (.int .i64 (fh b.ex))) ∧ (∀ w' : World, Below w.heap.size w w' → w'.cell? ⟨g, 17, none⟩ = some (.int .u64 (fl b.ex))) ∧ (∀ w' : World, Below w.heap.size w w' → w'.cell? ⟨g, 18, none⟩ = some (.int .i64 (b.th))) ∧ (∀ w' : World, Below w.heap.size w w' → w'.cell? ⟨g, 19, none⟩ = some (.int .i64 (b.he))) :=
  ⟨stays (h.cell (j := 0) rfl) h.lt, stays (h.cell (j := 1) rfl) h.lt, stays (h.cell (j := 2) rfl) h.lt, stays (h.cell (j := 3) rfl) h.lt, stays (h.cell (j := 4) rfl) h.lt, stays (h.cell (j := 5) rfl) h.lt, stays (h.cell (j := 6) rfl) h.lt, stays (h.cell (j := 7) rfl) h.lt, stays (h.cell (j := 8) rfl) h.lt, stays (h.cell (j := 9) rfl) h.lt, stays (h.cell (j := 10) rfl) h.lt, stays (h.cell (j := 11) rfl) h.lt, stays (h.cell (j := 12) rfl) h.lt, stays (h.cell (j := 13) rfl) h.lt, stays (h.cell (j := 14) rfl) h.lt, stays (h.cell (j := 15) rfl) h.lt, stays (h.cell (j := 16) rfl) h.lt, stays (h.cell (j := 17) rfl) h.lt, stays (h.cell (j := 18) rfl) h.lt, stays (h.cell (j := 19) rfl) h.lt⟩
/-- Is it beyond so many, on either side? -/
def bey (x n : Int) : Bool := decide (intr n < x ∨ x < intr (-n))
theorem bey_any (CM : RCmpT) (x n : Int) (hn : -9223372036854775808 < n ∧ n < 9223372036854775808) (w : World) : Calls Tryz.prog 66 #[.agg #[.int .i64 (fh x), .int .u64 (fl x)], .int .i64 n] w fun e w' => e = .returned (.bool (bey x n)) ∧ Below w.heap.size w w' := beyond_any CM x n hn w
set_option maxRecDepth 20000 in
set_option maxHeartbeats 8000000 in
theorem inside_any (CM : RCmpT) (x y : Int) (w : World) :
    Calls Tryz.prog 42 #[.agg #[.int .i64 (fh x), .int .u64 (fl x), .int .i64 (fh y), .int .u64 (fl y)]] w fun e w' => e = .returned (.bool (!bey x 1073741824 && !bey y 1073741824)) ∧ Below w.heap.size w w' := by
  have K1 := bey_any CM x 1073741824 (by omega)
  have K2 := bey_any CM y 1073741824 (by omega)
  clear CM
  generalize bey x 1073741824 = p at *
  generalize bey y 1073741824 = q at *
  generalize fh x = xh at *
  generalize fl x = xl at *
  generalize fh y = yh at *
  generalize fl y = yl at *
  cases p
  · cases q
    · have K1 := Lib.hid K1; have K2 := Lib.hid K2
      go_enter Tryz.func42, Tryz.ntmps42
      go_upto_region 1 with fail
      refine nw _ fun wx hwx => ?_
      have b0 : Bx 29 wx (w.heap.size) [.int .i64 xh, .int .u64 xl, .int .i64 yh, .int .u64 yl] := by
        have k := Bx.new w 29 #[.int .i64 xh, .int .u64 xl, .int .i64 yh, .int .u64 yl]
        rw [hwx]; exact k
      have BX : Hid (Below w.heap.size w wx) := by rw [hwx]; exact bl_al (Below.refl _ _) _
      have y0 := stays (b0.cell (j := 0) rfl) b0.lt
      have y1 := stays (b0.cell (j := 1) rfl) b0.lt
      have y2 := stays (b0.cell (j := 2) rfl) b0.lt
      have y3 := stays (b0.cell (j := 3) rfl) b0.lt
      clear hwx b0 
      have W0 := Below.refl wx.heap.size wx
      go_wp2_with (first
        | (go_at_call 66; (with_reducible refine (K1.out _).mono ?_); rintro e wc ⟨rfl, hbc⟩; have W1 := bl_trans W0 hbc; clear W0 hbc; have W0 := W1; clear W1)
        | (go_at_call 66; (with_reducible refine (K2.out _).mono ?_); rintro e wc ⟨rfl, hbc⟩; have W1 := bl_trans W0 hbc; clear W0 hbc; have W0 := W1; clear W1)
        | fail)
      go_returns
      exact ⟨rfl, bl_trans BX.out W0⟩
    · have K1 := Lib.hid K1; have K2 := Lib.hid K2
      go_enter Tryz.func42, Tryz.ntmps42
      go_upto_region 1 with fail
      refine nw _ fun wx hwx => ?_
      have b0 : Bx 29 wx (w.heap.size) [.int .i64 xh, .int .u64 xl, .int .i64 yh, .int .u64 yl] := by
        have k := Bx.new w 29 #[.int .i64 xh, .int .u64 xl, .int .i64 yh, .int .u64 yl]
        rw [hwx]; exact k
      have BX : Hid (Below w.heap.size w wx) := by rw [hwx]; exact bl_al (Below.refl _ _) _
      have y0 := stays (b0.cell (j := 0) rfl) b0.lt
      have y1 := stays (b0.cell (j := 1) rfl) b0.lt
      have y2 := stays (b0.cell (j := 2) rfl) b0.lt
      have y3 := stays (b0.cell (j := 3) rfl) b0.lt
      clear hwx b0 
      have W0 := Below.refl wx.heap.size wx
      go_wp2_with (first
        | (go_at_call 66; (with_reducible refine (K1.out _).mono ?_); rintro e wc ⟨rfl, hbc⟩; have W1 := bl_trans W0 hbc; clear W0 hbc; have W0 := W1; clear W1)
        | (go_at_call 66; (with_reducible refine (K2.out _).mono ?_); rintro e wc ⟨rfl, hbc⟩; have W1 := bl_trans W0 hbc; clear W0 hbc; have W0 := W1; clear W1)
        | fail)
      go_returns
      exact ⟨rfl, bl_trans BX.out W0⟩
  · have K1 := Lib.hid K1
    go_enter Tryz.func42, Tryz.ntmps42
    go_upto_region 1 with fail
    refine nw _ fun wx hwx => ?_
    have b0 : Bx 29 wx (w.heap.size) [.int .i64 xh, .int .u64 xl, .int .i64 yh, .int .u64 yl] := by
      have k := Bx.new w 29 #[.int .i64 xh, .int .u64 xl, .int .i64 yh, .int .u64 yl]
      rw [hwx]; exact k
    have BX : Hid (Below w.heap.size w wx) := by rw [hwx]; exact bl_al (Below.refl _ _) _
    have y0 := stays (b0.cell (j := 0) rfl) b0.lt
    have y1 := stays (b0.cell (j := 1) rfl) b0.lt
    have y2 := stays (b0.cell (j := 2) rfl) b0.lt
    have y3 := stays (b0.cell (j := 3) rfl) b0.lt
    clear hwx b0 
    have W0 := Below.refl wx.heap.size wx
    go_wp2_with (first
      | (go_at_call 66; (with_reducible refine (K1.out _).mono ?_); rintro e wc ⟨rfl, hbc⟩; have W1 := bl_trans W0 hbc; clear W0 hbc; have W0 := W1; clear W1)
      | fail)
    go_returns
    exact ⟨rfl, bl_trans BX.out W0⟩
set_option maxRecDepth 20000 in
set_option maxHeartbeats 8000000 in
theorem speed_ok (b : Bod) (vh vl uh ul : Int) (D1 : Ct 23 #[.agg #[.int .i64 (fh b.px), .int .u64 (fl b.px)], .agg #[.int .i64 (fh b.m), .int .u64 (fl b.m)]] (.agg #[.int .i64 vh, .int .u64 vl, .int .i64 0]))
    (D2 : Ct 23 #[.agg #[.int .i64 (fh b.py), .int .u64 (fl b.py)], .agg #[.int .i64 (fh b.m), .int .u64 (fl b.m)]] (.agg #[.int .i64 uh, .int .u64 ul, .int .i64 0])) (w : World) :
    Calls Tryz.prog 65 #[.agg (bdc b).toArray] w fun e w' => e = .returned (.agg #[.int .i64 vh, .int .u64 vl, .int .i64 uh, .int .u64 ul, .int .i64 0]) ∧ Below w.heap.size w w' := by
  have C1 := Lib.hid D1; have C2 := Lib.hid D2
  have hbl := bdc_len b
  go_enter Tryz.func65, Tryz.ntmps65
  go_upto_region 1 with fail
  refine nw _ fun wx hwx => ?_
  have B0 : Hid (Bx 56 wx w.heap.size (bdc b)) := by rw [hwx]; exact (Bx.new w 56 (bdc b).toArray).alloc _
  have B1 : Hid (Bx 122 wx (w.heap.size + 1) [.int .i64 0, .int .u64 0, .int .i64 0, .int .u64 0, .int .i64 0]) := by
    have k := Bx.new (w.alloc (.cells (bdc b).toArray 56)) 122 #[.int .i64 0, .int .u64 0, .int .i64 0, .int .u64 0, .int .i64 0]
    simp only [World.size_alloc] at k
    rw [hwx]; exact k
  have BX : Hid (Below w.heap.size w wx) := by rw [hwx]; exact bl_al (bl_al (Below.refl _ _) _) _
  clear hwx D1 D2 hbl
  have hgb : Hid (w.heap.size < w.heap.size + 1) := Nat.lt_succ_self _
  have m0 : wx.cell? ⟨w.heap.size, 0, none⟩ = some (.int .i64 (fh b.m)) := B0.out.cell (j := 0) rfl
  have m1 : wx.cell? ⟨w.heap.size, 1, none⟩ = some (.int .u64 (fl b.m)) := B0.out.cell (j := 1) rfl
  have p0 : wx.cell? ⟨w.heap.size, 8, none⟩ = some (.int .i64 (fh b.px)) := B0.out.cell (j := 8) rfl
  have p1 : wx.cell? ⟨w.heap.size, 9, none⟩ = some (.int .u64 (fl b.px)) := B0.out.cell (j := 9) rfl
  go_upto_region 2 with (first
    | (go_at_call 23; (with_reducible refine (C1.out _).mono ?_); rintro e w1 ⟨rfl, hb1⟩)
    | fail)
  refine nw _ fun wy hwy => ?_
  have HW : Below wx.heap.size wx wy := by rw [hwy]; exact bl_al hb1 _
  have G1 : Hid (Bx 63 wy w1.heap.size [.int .i64 vh, .int .u64 vl, .int .i64 0]) := by rw [hwy]; exact Bx.new _ _ _
  have B0y := Lib.hid (B0.out.below HW); have B1y := Lib.hid (B1.out.below HW); have BY := Lib.hid (bl_trans BX.out HW)
  have hng : Hid (w.heap.size + 1 ≠ w1.heap.size) := by have := (B1.out.below hb1).lt; show _ ≠ _; omega
  generalize w1.heap.size = n1 at *
  clear HW hwy hb1 m0 m1 p0 p1 B0 B1 BX
  have g0 := G1.out.cell (j := 0) rfl; have g1 := G1.out.cell (j := 1) rfl; have g2 := G1.out.cell (j := 2) rfl
  have r0 := B1y.out.cell (j := 0) rfl; have r1 := B1y.out.cell (j := 1) rfl; have r2 := B1y.out.cell (j := 2) rfl; have r3 := B1y.out.cell (j := 3) rfl; have r4 := B1y.out.cell (j := 4) rfl
  have rf := B1y.out.frz; have rl := B1y.out.lt
  have m0 : wy.cell? ⟨w.heap.size, 0, none⟩ = some (.int .i64 (fh b.m)) := B0y.out.cell (j := 0) rfl
  have m1 : wy.cell? ⟨w.heap.size, 1, none⟩ = some (.int .u64 (fl b.m)) := B0y.out.cell (j := 1) rfl
  have p0 : wy.cell? ⟨w.heap.size, 10, none⟩ = some (.int .i64 (fh b.py)) := B0y.out.cell (j := 10) rfl
  have p1 : wy.cell? ⟨w.heap.size, 11, none⟩ = some (.int .u64 (fl b.py)) := B0y.out.cell (j := 11) rfl
  go_upto_region 5 with (first
    | (go_at_call 23; (with_reducible refine (C2.out _).mono ?_); rintro e w2 ⟨rfl, hb2⟩)
    | fail)
  refine nw _ fun wz hwz => ?_
  have HW : Below wy.heap.size wy wz := by rw [hwz]; exact bl_al hb2 _
  have G2 : Hid (Bx 63 wz w2.heap.size [.int .i64 uh, .int .u64 ul, .int .i64 0]) := by rw [hwz]; exact Bx.new _ _ _
  have G1z := Lib.hid (G1.out.below HW); have B1z := Lib.hid (B1y.out.below HW); have BZ := Lib.hid (bl_trans BY.out HW)
  generalize w2.heap.size = n2 at *
  clear HW hwz hb2 m0 m1 p0 p1 B0y B1y BY G1 g0 g1 g2 r0 r1 r2 r3 r4 rf rl
  have g0 := G1z.out.cell (j := 0) rfl; have g1 := G1z.out.cell (j := 1) rfl; have k0 := G2.out.cell (j := 0) rfl; have k1 := G2.out.cell (j := 1) rfl; have k2 := G2.out.cell (j := 2) rfl
  have r0 := B1z.out.cell (j := 0) rfl; have r1 := B1z.out.cell (j := 1) rfl; have r2 := B1z.out.cell (j := 2) rfl; have r3 := B1z.out.cell (j := 3) rfl; have r4 := B1z.out.cell (j := 4) rfl
  have rf := B1z.out.frz; have rl := B1z.out.lt
  go_wp2_with fail
  refine bodyPost_ret (by simp [results, Tryz.results65, go_sem, *]; try rfl) rfl ?_
  exact ⟨rfl, bb⟩
set_option maxRecDepth 20000 in
set_option maxHeartbeats 8000000 in
theorem speed_x (b : Bod) (vh vl ex : Int) (nx2 : (ex == 0) = false) (D1 : Ct 23 #[.agg #[.int .i64 (fh b.px), .int .u64 (fl b.px)], .agg #[.int .i64 (fh b.m), .int .u64 (fl b.m)]] (.agg #[.int .i64 vh, .int .u64 vl, .int .i64 ex]))
    (w : World) :
    Calls Tryz.prog 65 #[.agg (bdc b).toArray] w fun e w' => e = .returned (.agg #[.int .i64 0, .int .u64 0, .int .i64 0, .int .u64 0, .int .i64 ex]) ∧ Below w.heap.size w w' := by
  have C1 := Lib.hid D1
  have hbl := bdc_len b
  go_enter Tryz.func65, Tryz.ntmps65
  go_upto_region 1 with fail
  refine nw _ fun wx hwx => ?_
  have B0 : Hid (Bx 56 wx w.heap.size (bdc b)) := by rw [hwx]; exact (Bx.new w 56 (bdc b).toArray).alloc _
  have B1 : Hid (Bx 122 wx (w.heap.size + 1) [.int .i64 0, .int .u64 0, .int .i64 0, .int .u64 0, .int .i64 0]) := by
    have k := Bx.new (w.alloc (.cells (bdc b).toArray 56)) 122 #[.int .i64 0, .int .u64 0, .int .i64 0, .int .u64 0, .int .i64 0]
    simp only [World.size_alloc] at k
    rw [hwx]; exact k
  have BX : Hid (Below w.heap.size w wx) := by rw [hwx]; exact bl_al (bl_al (Below.refl _ _) _) _
  clear hwx D1 hbl
  have hgb : Hid (w.heap.size < w.heap.size + 1) := Nat.lt_succ_self _
  have m0 : wx.cell? ⟨w.heap.size, 0, none⟩ = some (.int .i64 (fh b.m)) := B0.out.cell (j := 0) rfl
  have m1 : wx.cell? ⟨w.heap.size, 1, none⟩ = some (.int .u64 (fl b.m)) := B0.out.cell (j := 1) rfl
  have p0 : wx.cell? ⟨w.heap.size, 8, none⟩ = some (.int .i64 (fh b.px)) := B0.out.cell (j := 8) rfl
  have p1 : wx.cell? ⟨w.heap.size, 9, none⟩ = some (.int .u64 (fl b.px)) := B0.out.cell (j := 9) rfl
  go_upto_region 2 with (first
    | (go_at_call 23; (with_reducible refine (C1.out _).mono ?_); rintro e w1 ⟨rfl, hb1⟩)
    | fail)
  refine nw _ fun wy hwy => ?_
  have HW : Below wx.heap.size wx wy := by rw [hwy]; exact bl_al hb1 _
  have G1 : Hid (Bx 63 wy w1.heap.size [.int .i64 vh, .int .u64 vl, .int .i64 ex]) := by rw [hwy]; exact Bx.new _ _ _
  have B0y := Lib.hid (B0.out.below HW); have B1y := Lib.hid (B1.out.below HW); have BY := Lib.hid (bl_trans BX.out HW)
  have hng : Hid (w.heap.size + 1 ≠ w1.heap.size) := by have := (B1.out.below hb1).lt; show _ ≠ _; omega
  generalize w1.heap.size = n1 at *
  clear HW hwy hb1 m0 m1 p0 p1 B0 B1 BX
  have g0 := G1.out.cell (j := 0) rfl; have g1 := G1.out.cell (j := 1) rfl; have g2 := G1.out.cell (j := 2) rfl
  have r0 := B1y.out.cell (j := 0) rfl; have r1 := B1y.out.cell (j := 1) rfl; have r2 := B1y.out.cell (j := 2) rfl; have r3 := B1y.out.cell (j := 3) rfl; have r4 := B1y.out.cell (j := 4) rfl
  have rf := B1y.out.frz; have rl := B1y.out.lt
  go_wp2_with fail
  refine bodyPost_ret (by simp [results, Tryz.results65, go_sem, *]; try rfl) rfl ?_
  exact ⟨rfl, bb⟩
set_option maxRecDepth 20000 in
set_option maxHeartbeats 8000000 in
theorem speed_y (b : Bod) (vh vl uh ul ey : Int) (ny2 : (ey == 0) = false) (D1 : Ct 23 #[.agg #[.int .i64 (fh b.px), .int .u64 (fl b.px)], .agg #[.int .i64 (fh b.m), .int .u64 (fl b.m)]] (.agg #[.int .i64 vh, .int .u64 vl, .int .i64 0]))
    (D2 : Ct 23 #[.agg #[.int .i64 (fh b.py), .int .u64 (fl b.py)], .agg #[.int .i64 (fh b.m), .int .u64 (fl b.m)]] (.agg #[.int .i64 uh, .int .u64 ul, .int .i64 ey])) (w : World) :
    Calls Tryz.prog 65 #[.agg (bdc b).toArray] w fun e w' => e = .returned (.agg #[.int .i64 0, .int .u64 0, .int .i64 0, .int .u64 0, .int .i64 ey]) ∧ Below w.heap.size w w' := by
  have C1 := Lib.hid D1; have C2 := Lib.hid D2
  have hbl := bdc_len b
  go_enter Tryz.func65, Tryz.ntmps65
  go_upto_region 1 with fail
  refine nw _ fun wx hwx => ?_
  have B0 : Hid (Bx 56 wx w.heap.size (bdc b)) := by rw [hwx]; exact (Bx.new w 56 (bdc b).toArray).alloc _
  have B1 : Hid (Bx 122 wx (w.heap.size + 1) [.int .i64 0, .int .u64 0, .int .i64 0, .int .u64 0, .int .i64 0]) := by
    have k := Bx.new (w.alloc (.cells (bdc b).toArray 56)) 122 #[.int .i64 0, .int .u64 0, .int .i64 0, .int .u64 0, .int .i64 0]
    simp only [World.size_alloc] at k
    rw [hwx]; exact k
  have BX : Hid (Below w.heap.size w wx) := by rw [hwx]; exact bl_al (bl_al (Below.refl _ _) _) _
  clear hwx D1 D2 hbl
  have hgb : Hid (w.heap.size < w.heap.size + 1) := Nat.lt_succ_self _
  have m0 : wx.cell? ⟨w.heap.size, 0, none⟩ = some (.int .i64 (fh b.m)) := B0.out.cell (j := 0) rfl
  have m1 : wx.cell? ⟨w.heap.size, 1, none⟩ = some (.int .u64 (fl b.m)) := B0.out.cell (j := 1) rfl
  have p0 : wx.cell? ⟨w.heap.size, 8, none⟩ = some (.int .i64 (fh b.px)) := B0.out.cell (j := 8) rfl
  have p1 : wx.cell? ⟨w.heap.size, 9, none⟩ = some (.int .u64 (fl b.px)) := B0.out.cell (j := 9) rfl
  go_upto_region 2 with (first
    | (go_at_call 23; (with_reducible refine (C1.out _).mono ?_); rintro e w1 ⟨rfl, hb1⟩)
    | fail)
  refine nw _ fun wy hwy => ?_
  have HW : Below wx.heap.size wx wy := by rw [hwy]; exact bl_al hb1 _
  have G1 : Hid (Bx 63 wy w1.heap.size [.int .i64 vh, .int .u64 vl, .int .i64 0]) := by rw [hwy]; exact Bx.new _ _ _
  have B0y := Lib.hid (B0.out.below HW); have B1y := Lib.hid (B1.out.below HW); have BY := Lib.hid (bl_trans BX.out HW)
  have hng : Hid (w.heap.size + 1 ≠ w1.heap.size) := by have := (B1.out.below hb1).lt; show _ ≠ _; omega
  generalize w1.heap.size = n1 at *
  clear HW hwy hb1 m0 m1 p0 p1 B0 B1 BX
  have g0 := G1.out.cell (j := 0) rfl; have g1 := G1.out.cell (j := 1) rfl; have g2 := G1.out.cell (j := 2) rfl
  have r0 := B1y.out.cell (j := 0) rfl; have r1 := B1y.out.cell (j := 1) rfl; have r2 := B1y.out.cell (j := 2) rfl; have r3 := B1y.out.cell (j := 3) rfl; have r4 := B1y.out.cell (j := 4) rfl
  have rf := B1y.out.frz; have rl := B1y.out.lt
  have m0 : wy.cell? ⟨w.heap.size, 0, none⟩ = some (.int .i64 (fh b.m)) := B0y.out.cell (j := 0) rfl
  have m1 : wy.cell? ⟨w.heap.size, 1, none⟩ = some (.int .u64 (fl b.m)) := B0y.out.cell (j := 1) rfl
  have p0 : wy.cell? ⟨w.heap.size, 10, none⟩ = some (.int .i64 (fh b.py)) := B0y.out.cell (j := 10) rfl
  have p1 : wy.cell? ⟨w.heap.size, 11, none⟩ = some (.int .u64 (fl b.py)) := B0y.out.cell (j := 11) rfl
  go_upto_region 5 with (first
    | (go_at_call 23; (with_reducible refine (C2.out _).mono ?_); rintro e w2 ⟨rfl, hb2⟩)
    | fail)
  refine nw _ fun wz hwz => ?_
  have HW : Below wy.heap.size wy wz := by rw [hwz]; exact bl_al hb2 _
  have G2 : Hid (Bx 63 wz w2.heap.size [.int .i64 uh, .int .u64 ul, .int .i64 ey]) := by rw [hwz]; exact Bx.new _ _ _
  have G1z := Lib.hid (G1.out.below HW); have B1z := Lib.hid (B1y.out.below HW); have BZ := Lib.hid (bl_trans BY.out HW)
  generalize w2.heap.size = n2 at *
  clear HW hwz hb2 m0 m1 p0 p1 B0y B1y BY G1 g0 g1 g2 r0 r1 r2 r3 r4 rf rl
  have g0 := G1z.out.cell (j := 0) rfl; have g1 := G1z.out.cell (j := 1) rfl; have k0 := G2.out.cell (j := 0) rfl; have k1 := G2.out.cell (j := 1) rfl; have k2 := G2.out.cell (j := 2) rfl
  have r0 := B1z.out.cell (j := 0) rfl; have r1 := B1z.out.cell (j := 1) rfl; have r2 := B1z.out.cell (j := 2) rfl; have r3 := B1z.out.cell (j := 3) rfl; have r4 := B1z.out.cell (j := 4) rfl
  have rf := B1z.out.frz; have rl := B1z.out.lt
  go_wp2_with fail
  refine bodyPost_ret (by simp [results, Tryz.results65, go_sem, *]; try rfl) rfl ?_
  exact ⟨rfl, bb⟩
set_option maxRecDepth 20000 in
set_option maxHeartbeats 8000000 in
theorem slow_e (b : Bod) (ex : Int) (nx2 : (ex == 0) = false) (D1 : Ct 65 #[.agg (bdc b).toArray] (.agg #[.int .i64 0, .int .u64 0, .int .i64 0, .int .u64 0, .int .i64 ex])) (w : World) :
    Calls Tryz.prog 39 #[.agg (bdc b).toArray] w fun e w' => e = .returned (.agg #[.bool false, .int .i64 ex]) ∧ Below w.heap.size w w' := by
  have C1 := Lib.hid D1
  have hbl := bdc_len b
  go_enter Tryz.func39, Tryz.ntmps39
  go_upto_region 1 with fail
  refine nw _ fun wx hwx => ?_
  have B0 : Hid (Bx 56 wx w.heap.size (bdc b)) := by rw [hwx]; exact (Bx.new w 56 (bdc b).toArray).alloc _
  have B1 : Hid (Bx 87 wx (w.heap.size + 1) [.bool false, .int .i64 0]) := by
    have k := Bx.new (w.alloc (.cells (bdc b).toArray 56)) 87 #[.bool false, .int .i64 0]
    simp only [World.size_alloc] at k
    rw [hwx]; exact k
  have BX : Hid (Below w.heap.size w wx) := by rw [hwx]; exact bl_al (bl_al (Below.refl _ _) _) _
  clear hwx D1 
  have HV := Lib.hid (fun (j : Nat) (v : Value) (hj : (bdc b)[j]? = some v) => (by rw [Nat.zero_add]; exact B0.out.cell hj : wx.cell? ⟨w.heap.size, 0 + j, none⟩ = some v))
  go_upto_region 2 with (first
    | (refine wpList_load_mid rfl 56 _ rfl w.heap.size 0 rfl (bdc b) _ HV.out Tryz.underlying56 rfl (by kernel_rfl) ?_)
    | (go_at_call 65; (with_reducible refine (C1.out _).mono ?_); rintro e w1 ⟨rfl, hb1⟩)
    | fail)
  refine nw _ fun wy hwy => ?_
  have HW : Below wx.heap.size wx wy := by rw [hwy]; exact bl_al hb1 _
  have G1 : Hid (Bx 122 wy w1.heap.size [.int .i64 0, .int .u64 0, .int .i64 0, .int .u64 0, .int .i64 ex]) := by rw [hwy]; exact Bx.new _ _ _
  have B1y := Lib.hid (B1.out.below HW); have BY := Lib.hid (bl_trans BX.out HW)
  generalize w1.heap.size = n1 at *
  clear HW hwy hb1 B0 B1 BX HV hbl
  have g0 := G1.out.cell (j := 0) rfl
  have g1 := G1.out.cell (j := 1) rfl
  have g2 := G1.out.cell (j := 2) rfl
  have g3 := G1.out.cell (j := 3) rfl
  have g4 := G1.out.cell (j := 4) rfl
  have r0 := B1y.out.cell (j := 0) rfl
  have r1 := B1y.out.cell (j := 1) rfl
  have rf := B1y.out.frz; have rl := B1y.out.lt
  go_wp2_with fail
  refine bodyPost_ret (by simp [results, Tryz.results39, go_sem, *]; try rfl) rfl ?_
  exact ⟨rfl, bb⟩
set_option maxRecDepth 20000 in
set_option maxHeartbeats 8000000 in
theorem slow_x (b : Bod) (vh vl uh ul : Int) (D1 : Ct 65 #[.agg (bdc b).toArray] (.agg #[.int .i64 vh, .int .u64 vl, .int .i64 uh, .int .u64 ul, .int .i64 0])) (DP : Ct 66 #[.agg #[.int .i64 vh, .int .u64 vl], .int .i64 65536] (.bool true)) (w : World) :
    Calls Tryz.prog 39 #[.agg (bdc b).toArray] w fun e w' => e = .returned (.agg #[.bool false, .int .i64 0]) ∧ Below w.heap.size w w' := by
  have C1 := Lib.hid D1; have KP := Lib.hid DP
  have hbl := bdc_len b
  go_enter Tryz.func39, Tryz.ntmps39
  go_upto_region 1 with fail
  refine nw _ fun wx hwx => ?_
  have B0 : Hid (Bx 56 wx w.heap.size (bdc b)) := by rw [hwx]; exact (Bx.new w 56 (bdc b).toArray).alloc _
  have B1 : Hid (Bx 87 wx (w.heap.size + 1) [.bool false, .int .i64 0]) := by
    have k := Bx.new (w.alloc (.cells (bdc b).toArray 56)) 87 #[.bool false, .int .i64 0]
    simp only [World.size_alloc] at k
    rw [hwx]; exact k
  have BX : Hid (Below w.heap.size w wx) := by rw [hwx]; exact bl_al (bl_al (Below.refl _ _) _) _
  clear hwx D1 DP
  have HV := Lib.hid (fun (j : Nat) (v : Value) (hj : (bdc b)[j]? = some v) => (by rw [Nat.zero_add]; exact B0.out.cell hj : wx.cell? ⟨w.heap.size, 0 + j, none⟩ = some v))
  go_upto_region 2 with (first
    | (refine wpList_load_mid rfl 56 _ rfl w.heap.size 0 rfl (bdc b) _ HV.out Tryz.underlying56 rfl (by kernel_rfl) ?_)
    | (go_at_call 65; (with_reducible refine (C1.out _).mono ?_); rintro e w1 ⟨rfl, hb1⟩)
    | fail)
  refine nw _ fun wy hwy => ?_
  have HW : Below wx.heap.size wx wy := by rw [hwy]; exact bl_al hb1 _
  have G1 : Hid (Bx 122 wy w1.heap.size [.int .i64 vh, .int .u64 vl, .int .i64 uh, .int .u64 ul, .int .i64 0]) := by rw [hwy]; exact Bx.new _ _ _
  have B1y := Lib.hid (B1.out.below HW); have BY := Lib.hid (bl_trans BX.out HW)
  generalize w1.heap.size = n1 at *
  clear HW hwy hb1 B0 B1 BX HV hbl
  have g0 := stays (G1.out.cell (j := 0) rfl) G1.out.lt
  have g1 := stays (G1.out.cell (j := 1) rfl) G1.out.lt
  have g2 := stays (G1.out.cell (j := 2) rfl) G1.out.lt
  have g3 := stays (G1.out.cell (j := 3) rfl) G1.out.lt
  have g4 := stays (G1.out.cell (j := 4) rfl) G1.out.lt
  have BR := B1y
  clear B1y G1
  have W0 := Below.refl wy.heap.size wy
  have r0 := BR.out.cell (j := 0) rfl
  have r1 := BR.out.cell (j := 1) rfl
  have rf := BR.out.frz; have rl := BR.out.lt
  go_wp2_with (first
    | (go_at_call 66; (with_reducible refine (KP.out _).mono ?_); rintro e wc ⟨rfl, hbc⟩; have W1 := bl_trans W0 hbc; clear W0; have W0 := W1; clear W1; have B2 := Lib.hid (BR.out.below hbc); clear BR hbc r0 r1 rf rl; have BR := B2; clear B2; have r0 := BR.out.cell (j := 0) rfl; have r1 := BR.out.cell (j := 1) rfl; have rf := BR.out.frz; have rl := BR.out.lt)
    | fail)
  refine bodyPost_ret (by simp [results, Tryz.results39, go_sem, *]; try rfl) rfl ?_
  have BQ := Lib.hid (bl_trans BY.out W0)
  exact ⟨rfl, bb⟩
set_option maxRecDepth 20000 in
set_option maxHeartbeats 8000000 in
theorem slow_y (b : Bod) (vh vl uh ul : Int) (D1 : Ct 65 #[.agg (bdc b).toArray] (.agg #[.int .i64 vh, .int .u64 vl, .int .i64 uh, .int .u64 ul, .int .i64 0])) (DP : Ct 66 #[.agg #[.int .i64 vh, .int .u64 vl], .int .i64 65536] (.bool false)) (DQ : Ct 66 #[.agg #[.int .i64 uh, .int .u64 ul], .int .i64 65536] (.bool true)) (w : World) :
    Calls Tryz.prog 39 #[.agg (bdc b).toArray] w fun e w' => e = .returned (.agg #[.bool false, .int .i64 0]) ∧ Below w.heap.size w w' := by
  have C1 := Lib.hid D1; have KP := Lib.hid DP; have KQ := Lib.hid DQ
  have hbl := bdc_len b
  go_enter Tryz.func39, Tryz.ntmps39
  go_upto_region 1 with fail
  refine nw _ fun wx hwx => ?_
  have B0 : Hid (Bx 56 wx w.heap.size (bdc b)) := by rw [hwx]; exact (Bx.new w 56 (bdc b).toArray).alloc _
  have B1 : Hid (Bx 87 wx (w.heap.size + 1) [.bool false, .int .i64 0]) := by
    have k := Bx.new (w.alloc (.cells (bdc b).toArray 56)) 87 #[.bool false, .int .i64 0]
    simp only [World.size_alloc] at k
    rw [hwx]; exact k
  have BX : Hid (Below w.heap.size w wx) := by rw [hwx]; exact bl_al (bl_al (Below.refl _ _) _) _
  clear hwx D1 DP DQ
  have HV := Lib.hid (fun (j : Nat) (v : Value) (hj : (bdc b)[j]? = some v) => (by rw [Nat.zero_add]; exact B0.out.cell hj : wx.cell? ⟨w.heap.size, 0 + j, none⟩ = some v))
  go_upto_region 2 with (first
    | (refine wpList_load_mid rfl 56 _ rfl w.heap.size 0 rfl (bdc b) _ HV.out Tryz.underlying56 rfl (by kernel_rfl) ?_)
    | (go_at_call 65; (with_reducible refine (C1.out _).mono ?_); rintro e w1 ⟨rfl, hb1⟩)
    | fail)
  refine nw _ fun wy hwy => ?_
  have HW : Below wx.heap.size wx wy := by rw [hwy]; exact bl_al hb1 _
  have G1 : Hid (Bx 122 wy w1.heap.size [.int .i64 vh, .int .u64 vl, .int .i64 uh, .int .u64 ul, .int .i64 0]) := by rw [hwy]; exact Bx.new _ _ _
  have B1y := Lib.hid (B1.out.below HW); have BY := Lib.hid (bl_trans BX.out HW)
  generalize w1.heap.size = n1 at *
  clear HW hwy hb1 B0 B1 BX HV hbl
  have g0 := stays (G1.out.cell (j := 0) rfl) G1.out.lt
  have g1 := stays (G1.out.cell (j := 1) rfl) G1.out.lt
  have g2 := stays (G1.out.cell (j := 2) rfl) G1.out.lt
  have g3 := stays (G1.out.cell (j := 3) rfl) G1.out.lt
  have g4 := stays (G1.out.cell (j := 4) rfl) G1.out.lt
  have BR := B1y
  clear B1y G1
  have W0 := Below.refl wy.heap.size wy
  have r0 := BR.out.cell (j := 0) rfl
  have r1 := BR.out.cell (j := 1) rfl
  have rf := BR.out.frz; have rl := BR.out.lt
  go_wp2_with (first
    | (go_at_call 66; (with_reducible refine (KP.out _).mono ?_); rintro e wc ⟨rfl, hbc⟩; have W1 := bl_trans W0 hbc; clear W0; have W0 := W1; clear W1; have B2 := Lib.hid (BR.out.below hbc); clear BR hbc r0 r1 rf rl; have BR := B2; clear B2; have r0 := BR.out.cell (j := 0) rfl; have r1 := BR.out.cell (j := 1) rfl; have rf := BR.out.frz; have rl := BR.out.lt)
    | (go_at_call 66; (with_reducible refine (KQ.out _).mono ?_); rintro e wc ⟨rfl, hbc⟩; have W1 := bl_trans W0 hbc; clear W0; have W0 := W1; clear W1; have B2 := Lib.hid (BR.out.below hbc); clear BR hbc r0 r1 rf rl; have BR := B2; clear B2; have r0 := BR.out.cell (j := 0) rfl; have r1 := BR.out.cell (j := 1) rfl; have rf := BR.out.frz; have rl := BR.out.lt)
    | fail)
  refine bodyPost_ret (by simp [results, Tryz.results39, go_sem, *]; try rfl) rfl ?_
  have BQ := Lib.hid (bl_trans BY.out W0)
  exact ⟨rfl, bb⟩
set_option maxRecDepth 20000 in
set_option maxHeartbeats 8000000 in
theorem slow_ok (b : Bod) (vh vl uh ul : Int) (D1 : Ct 65 #[.agg (bdc b).toArray] (.agg #[.int .i64 vh, .int .u64 vl, .int .i64 uh, .int .u64 ul, .int .i64 0])) (DP : Ct 66 #[.agg #[.int .i64 vh, .int .u64 vl], .int .i64 65536] (.bool false)) (DQ : Ct 66 #[.agg #[.int .i64 uh, .int .u64 ul], .int .i64 65536] (.bool false)) (w : World) :
    Calls Tryz.prog 39 #[.agg (bdc b).toArray] w fun e w' => e = .returned (.agg #[.bool true, .int .i64 0]) ∧ Below w.heap.size w w' := by
  have C1 := Lib.hid D1; have KP := Lib.hid DP; have KQ := Lib.hid DQ
  have hbl := bdc_len b
  go_enter Tryz.func39, Tryz.ntmps39
  go_upto_region 1 with fail
  refine nw _ fun wx hwx => ?_
  have B0 : Hid (Bx 56 wx w.heap.size (bdc b)) := by rw [hwx]; exact (Bx.new w 56 (bdc b).toArray).alloc _
  have B1 : Hid (Bx 87 wx (w.heap.size + 1) [.bool false, .int .i64 0]) := by
    have k := Bx.new (w.alloc (.cells (bdc b).toArray 56)) 87 #[.bool false, .int .i64 0]
    simp only [World.size_alloc] at k
    rw [hwx]; exact k
  have BX : Hid (Below w.heap.size w wx) := by rw [hwx]; exact bl_al (bl_al (Below.refl _ _) _) _
  clear hwx D1 DP DQ
  have HV := Lib.hid (fun (j : Nat) (v : Value) (hj : (bdc b)[j]? = some v) => (by rw [Nat.zero_add]; exact B0.out.cell hj : wx.cell? ⟨w.heap.size, 0 + j, none⟩ = some v))
  go_upto_region 2 with (first
    | (refine wpList_load_mid rfl 56 _ rfl w.heap.size 0 rfl (bdc b) _ HV.out Tryz.underlying56 rfl (by kernel_rfl) ?_)
    | (go_at_call 65; (with_reducible refine (C1.out _).mono ?_); rintro e w1 ⟨rfl, hb1⟩)
    | fail)
  refine nw _ fun wy hwy => ?_
  have HW : Below wx.heap.size wx wy := by rw [hwy]; exact bl_al hb1 _
  have G1 : Hid (Bx 122 wy w1.heap.size [.int .i64 vh, .int .u64 vl, .int .i64 uh, .int .u64 ul, .int .i64 0]) := by rw [hwy]; exact Bx.new _ _ _
  have B1y := Lib.hid (B1.out.below HW); have BY := Lib.hid (bl_trans BX.out HW)
  generalize w1.heap.size = n1 at *
  clear HW hwy hb1 B0 B1 BX HV hbl
  have g0 := stays (G1.out.cell (j := 0) rfl) G1.out.lt
  have g1 := stays (G1.out.cell (j := 1) rfl) G1.out.lt
  have g2 := stays (G1.out.cell (j := 2) rfl) G1.out.lt
  have g3 := stays (G1.out.cell (j := 3) rfl) G1.out.lt
  have g4 := stays (G1.out.cell (j := 4) rfl) G1.out.lt
  have BR := B1y
  clear B1y G1
  have W0 := Below.refl wy.heap.size wy
  have r0 := BR.out.cell (j := 0) rfl
  have r1 := BR.out.cell (j := 1) rfl
  have rf := BR.out.frz; have rl := BR.out.lt
  go_wp2_with (first
    | (go_at_call 66; (with_reducible refine (KP.out _).mono ?_); rintro e wc ⟨rfl, hbc⟩; have W1 := bl_trans W0 hbc; clear W0; have W0 := W1; clear W1; have B2 := Lib.hid (BR.out.below hbc); clear BR hbc r0 r1 rf rl; have BR := B2; clear B2; have r0 := BR.out.cell (j := 0) rfl; have r1 := BR.out.cell (j := 1) rfl; have rf := BR.out.frz; have rl := BR.out.lt)
    | (go_at_call 66; (with_reducible refine (KQ.out _).mono ?_); rintro e wc ⟨rfl, hbc⟩; have W1 := bl_trans W0 hbc; clear W0; have W0 := W1; clear W1; have B2 := Lib.hid (BR.out.below hbc); clear BR hbc r0 r1 rf rl; have BR := B2; clear B2; have r0 := BR.out.cell (j := 0) rfl; have r1 := BR.out.cell (j := 1) rfl; have rf := BR.out.frz; have rl := BR.out.lt)
    | fail)
  refine bodyPost_ret (by simp [results, Tryz.results39, go_sem, *]; try rfl) rfl ?_
  have BQ := Lib.hid (bl_trans BY.out W0)
  exact ⟨rfl, bb⟩
end Go.Proofs.YtjilnmpajhifcaaGreat
