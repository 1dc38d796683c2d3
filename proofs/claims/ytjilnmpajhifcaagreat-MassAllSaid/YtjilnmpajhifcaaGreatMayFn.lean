/- The document's from, to, within, beyond, Inside. -/
import Derived.Test.YtjilnmpajhifcaaGreatRefT
import Derived.Test.YtjilnmpajhifcaaGreatZzFixA
import Derived.Test.YtjilnmpajhifcaaGreatZzRefA
import Derived.Test.YtjilnmpajhifcaaGreatTk
namespace Go.Proofs.YtjilnmpajhifcaaGreat
open Go.RowKit
theorem ic_le2 {x y : Int} (h : ¬ y < x) : icmp x y = -1 ∨ icmp x y = 0 := by unfold icmp; by_cases c : x < y <;> simp [c]; omega
theorem ic_ge2 {x y : Int} (h : ¬ x < y) : icmp x y = 1 ∨ icmp x y = 0 := by unfold icmp; rw [if_neg h]; split <;> simp
set_option maxRecDepth 20000 in
set_option maxHeartbeats 8000000 in
theorem from_any (CM : RCmpT) (x lo hi : Int) (h0 : 0 ≤ lo) (w : World) :
    Calls Tryz.prog 36 #[.agg #[.int .i64 (fh x), .int .u64 (fl x)], .agg #[.int .i64 (fh lo), .int .u64 (fl lo)], .agg #[.int .i64 (fh hi), .int .u64 (fl hi)]] w fun e w' => e = .returned (.bool (decide (lo ≤ x ∧ x ≤ hi))) ∧ Below w.heap.size w w' := by
  have K0 := rmay_any x
  have K1 := CM x lo
  have K2 := CM x hi
  simp only [fxv] at K1 K2
  by_cases hm : x = -170141183460469231731687303715884105728
  · rw [decide_eq_false (by omega)] at K0
    have K0 := Lib.hid K0
    rw [show decide (lo ≤ x ∧ x ≤ hi) = false from decide_eq_false (by omega)]
    clear K1 K2 CM hm h0
    generalize fh x = xh at *
    generalize fl x = xl at *
    generalize fh lo = lh at *
    generalize fl lo = ll at *
    generalize fh hi = hh at *
    generalize fl hi = hl at *
    go_enter Tryz.func36, Tryz.ntmps36
    go_upto_region 1 with fail
    refine nw _ fun wx hwx => ?_
    have b0 : Bx 27 wx (w.heap.size) [.int .i64 xh, .int .u64 xl] := by
      have k := Bx.new w 27 #[.int .i64 xh, .int .u64 xl]
      rw [hwx]; exact ((k.alloc _).alloc _)
    have b1 : Bx 27 wx (w.heap.size + 1) [.int .i64 lh, .int .u64 ll] := by
      have k := Bx.new (w.alloc (.cells #[.int .i64 xh, .int .u64 xl] 27)) 27 #[.int .i64 lh, .int .u64 ll]
      simp only [World.size_alloc] at k
      rw [hwx]; exact (k.alloc _)
    have b2 : Bx 27 wx (w.heap.size + 1 + 1) [.int .i64 hh, .int .u64 hl] := by
      have k := Bx.new ((w.alloc (.cells #[.int .i64 xh, .int .u64 xl] 27)).alloc (.cells #[.int .i64 lh, .int .u64 ll] 27)) 27 #[.int .i64 hh, .int .u64 hl]
      simp only [World.size_alloc] at k
      rw [hwx]; exact k
    have BX : Hid (Below w.heap.size w wx) := by rw [hwx]; exact bl_al (bl_al (bl_al (Below.refl _ _) _) _) _
    have y0 := stays (b0.cell (j := 0) rfl) b0.lt
    have y1 := stays (b0.cell (j := 1) rfl) b0.lt
    have y2 := stays (b1.cell (j := 0) rfl) b1.lt
    have y3 := stays (b1.cell (j := 1) rfl) b1.lt
    have y4 := stays (b2.cell (j := 0) rfl) b2.lt
    have y5 := stays (b2.cell (j := 1) rfl) b2.lt
    clear hwx b0 b1 b2 
    have W0 := Below.refl wx.heap.size wx
    go_wp2_with (first
      | (go_at_call 64; (with_reducible refine (K0.out _).mono ?_); rintro e wc ⟨rfl, hbc⟩; have W1 := bl_trans W0 hbc; clear W0 hbc; have W0 := W1; clear W1)
      | fail)
    go_returns
    exact ⟨rfl, bl_trans BX.out W0⟩
  · rw [decide_eq_true (by omega)] at K0
    have K0 := Lib.hid K0
    by_cases h1 : x < lo
    · rw [ic_lt h1] at K1
      have K1 := Lib.hid K1
      rw [show decide (lo ≤ x ∧ x ≤ hi) = false from decide_eq_false (by omega)]
      clear K2 CM hm h0 h1
      generalize fh x = xh at *
      generalize fl x = xl at *
      generalize fh lo = lh at *
      generalize fl lo = ll at *
      generalize fh hi = hh at *
      generalize fl hi = hl at *
      go_enter Tryz.func36, Tryz.ntmps36
      go_upto_region 1 with fail
      refine nw _ fun wx hwx => ?_
      have b0 : Bx 27 wx (w.heap.size) [.int .i64 xh, .int .u64 xl] := by
        have k := Bx.new w 27 #[.int .i64 xh, .int .u64 xl]
        rw [hwx]; exact ((k.alloc _).alloc _)
      have b1 : Bx 27 wx (w.heap.size + 1) [.int .i64 lh, .int .u64 ll] := by
        have k := Bx.new (w.alloc (.cells #[.int .i64 xh, .int .u64 xl] 27)) 27 #[.int .i64 lh, .int .u64 ll]
        simp only [World.size_alloc] at k
        rw [hwx]; exact (k.alloc _)
      have b2 : Bx 27 wx (w.heap.size + 1 + 1) [.int .i64 hh, .int .u64 hl] := by
        have k := Bx.new ((w.alloc (.cells #[.int .i64 xh, .int .u64 xl] 27)).alloc (.cells #[.int .i64 lh, .int .u64 ll] 27)) 27 #[.int .i64 hh, .int .u64 hl]
        simp only [World.size_alloc] at k
        rw [hwx]; exact k
      have BX : Hid (Below w.heap.size w wx) := by rw [hwx]; exact bl_al (bl_al (bl_al (Below.refl _ _) _) _) _
      have y0 := stays (b0.cell (j := 0) rfl) b0.lt
      have y1 := stays (b0.cell (j := 1) rfl) b0.lt
      have y2 := stays (b1.cell (j := 0) rfl) b1.lt
      have y3 := stays (b1.cell (j := 1) rfl) b1.lt
      have y4 := stays (b2.cell (j := 0) rfl) b2.lt
      have y5 := stays (b2.cell (j := 1) rfl) b2.lt
      clear hwx b0 b1 b2 
      have W0 := Below.refl wx.heap.size wx
      go_wp2_with (first
        | (go_at_call 64; (with_reducible refine (K0.out _).mono ?_); rintro e wc ⟨rfl, hbc⟩; have W1 := bl_trans W0 hbc; clear W0 hbc; have W0 := W1; clear W1)
        | (go_at_call 40; (with_reducible refine (K1.out _).mono ?_); rintro e wc ⟨rfl, hbc⟩; have W1 := bl_trans W0 hbc; clear W0 hbc; have W0 := W1; clear W1)
        | fail)
      go_returns
      exact ⟨rfl, bl_trans BX.out W0⟩
    · have q1 := ic_ge h1
      by_cases h2 : hi < x
      · rw [ic_gt h2] at K2
        rw [show decide (lo ≤ x ∧ x ≤ hi) = false from decide_eq_false (by omega)]
        generalize icmp x lo = c1 at *
        have q3 : ¬ c1 < 0 := by omega
        have K1 := Lib.hid K1; have K2 := Lib.hid K2
        clear CM hm h0 h1 h2
        generalize fh x = xh at *
        generalize fl x = xl at *
        generalize fh lo = lh at *
        generalize fl lo = ll at *
        generalize fh hi = hh at *
        generalize fl hi = hl at *
        go_enter Tryz.func36, Tryz.ntmps36
        go_upto_region 1 with fail
        refine nw _ fun wx hwx => ?_
        have b0 : Bx 27 wx (w.heap.size) [.int .i64 xh, .int .u64 xl] := by
          have k := Bx.new w 27 #[.int .i64 xh, .int .u64 xl]
          rw [hwx]; exact ((k.alloc _).alloc _)
        have b1 : Bx 27 wx (w.heap.size + 1) [.int .i64 lh, .int .u64 ll] := by
          have k := Bx.new (w.alloc (.cells #[.int .i64 xh, .int .u64 xl] 27)) 27 #[.int .i64 lh, .int .u64 ll]
          simp only [World.size_alloc] at k
          rw [hwx]; exact (k.alloc _)
        have b2 : Bx 27 wx (w.heap.size + 1 + 1) [.int .i64 hh, .int .u64 hl] := by
          have k := Bx.new ((w.alloc (.cells #[.int .i64 xh, .int .u64 xl] 27)).alloc (.cells #[.int .i64 lh, .int .u64 ll] 27)) 27 #[.int .i64 hh, .int .u64 hl]
          simp only [World.size_alloc] at k
          rw [hwx]; exact k
        have BX : Hid (Below w.heap.size w wx) := by rw [hwx]; exact bl_al (bl_al (bl_al (Below.refl _ _) _) _) _
        have y0 := stays (b0.cell (j := 0) rfl) b0.lt
        have y1 := stays (b0.cell (j := 1) rfl) b0.lt
        have y2 := stays (b1.cell (j := 0) rfl) b1.lt
        have y3 := stays (b1.cell (j := 1) rfl) b1.lt
        have y4 := stays (b2.cell (j := 0) rfl) b2.lt
        have y5 := stays (b2.cell (j := 1) rfl) b2.lt
        clear hwx b0 b1 b2 
        have W0 := Below.refl wx.heap.size wx
        go_wp2_with (first
          | (go_at_call 64; (with_reducible refine (K0.out _).mono ?_); rintro e wc ⟨rfl, hbc⟩; have W1 := bl_trans W0 hbc; clear W0 hbc; have W0 := W1; clear W1)
          | (go_at_call 40; (with_reducible refine (K1.out _).mono ?_); rintro e wc ⟨rfl, hbc⟩; have W1 := bl_trans W0 hbc; clear W0 hbc; have W0 := W1; clear W1)
          | (go_at_call 40; (with_reducible refine (K2.out _).mono ?_); rintro e wc ⟨rfl, hbc⟩; have W1 := bl_trans W0 hbc; clear W0 hbc; have W0 := W1; clear W1)
          | fail)
        go_returns
        exact ⟨rfl, bl_trans BX.out W0⟩
      · have q2 := ic_le h2
        rw [show decide (lo ≤ x ∧ x ≤ hi) = true from decide_eq_true (by omega)]
        generalize icmp x lo = c1 at *
        generalize icmp x hi = c2 at *
        have q3 : ¬ c1 < 0 := by omega
        have q4 : ¬ 0 < c2 := by omega
        have K1 := Lib.hid K1; have K2 := Lib.hid K2
        clear CM hm h0 h1 h2
        generalize fh x = xh at *
        generalize fl x = xl at *
        generalize fh lo = lh at *
        generalize fl lo = ll at *
        generalize fh hi = hh at *
        generalize fl hi = hl at *
        go_enter Tryz.func36, Tryz.ntmps36
        go_upto_region 1 with fail
        refine nw _ fun wx hwx => ?_
        have b0 : Bx 27 wx (w.heap.size) [.int .i64 xh, .int .u64 xl] := by
          have k := Bx.new w 27 #[.int .i64 xh, .int .u64 xl]
          rw [hwx]; exact ((k.alloc _).alloc _)
        have b1 : Bx 27 wx (w.heap.size + 1) [.int .i64 lh, .int .u64 ll] := by
          have k := Bx.new (w.alloc (.cells #[.int .i64 xh, .int .u64 xl] 27)) 27 #[.int .i64 lh, .int .u64 ll]
          simp only [World.size_alloc] at k
          rw [hwx]; exact (k.alloc _)
        have b2 : Bx 27 wx (w.heap.size + 1 + 1) [.int .i64 hh, .int .u64 hl] := by
          have k := Bx.new ((w.alloc (.cells #[.int .i64 xh, .int .u64 xl] 27)).alloc (.cells #[.int .i64 lh, .int .u64 ll] 27)) 27 #[.int .i64 hh, .int .u64 hl]
          simp only [World.size_alloc] at k
          rw [hwx]; exact k
        have BX : Hid (Below w.heap.size w wx) := by rw [hwx]; exact bl_al (bl_al (bl_al (Below.refl _ _) _) _) _
        have y0 := stays (b0.cell (j := 0) rfl) b0.lt
        have y1 := stays (b0.cell (j := 1) rfl) b0.lt
        have y2 := stays (b1.cell (j := 0) rfl) b1.lt
        have y3 := stays (b1.cell (j := 1) rfl) b1.lt
        have y4 := stays (b2.cell (j := 0) rfl) b2.lt
        have y5 := stays (b2.cell (j := 1) rfl) b2.lt
        clear hwx b0 b1 b2 
        have W0 := Below.refl wx.heap.size wx
        go_wp2_with (first
          | (go_at_call 64; (with_reducible refine (K0.out _).mono ?_); rintro e wc ⟨rfl, hbc⟩; have W1 := bl_trans W0 hbc; clear W0 hbc; have W0 := W1; clear W1)
          | (go_at_call 40; (with_reducible refine (K1.out _).mono ?_); rintro e wc ⟨rfl, hbc⟩; have W1 := bl_trans W0 hbc; clear W0 hbc; have W0 := W1; clear W1)
          | (go_at_call 40; (with_reducible refine (K2.out _).mono ?_); rintro e wc ⟨rfl, hbc⟩; have W1 := bl_trans W0 hbc; clear W0 hbc; have W0 := W1; clear W1)
          | fail)
        go_returns
        exact ⟨rfl, bl_trans BX.out W0⟩
set_option maxRecDepth 20000 in
set_option maxHeartbeats 8000000 in
theorem to_any (CM : RCmpT) (x n : Int) (w : World) :
    Calls Tryz.prog 37 #[.agg #[.int .i64 (fh x), .int .u64 (fl x)], .int .i64 n] w fun e w' => e = .returned (.bool (decide (0 ≤ x ∧ x ≤ intr n))) ∧ Below w.heap.size w w' := by
  have KF := from_any CM x 0 (intr n) (by decide)
  have e0 : fh 0 = 0 := by decide
  have e1 : fl 0 = 0 := by decide
  rw [e0, e1] at KF
  have KF := Lib.hid KF
  have KI := Lib.hid (rint_any n)
  clear CM
  generalize decide (0 ≤ x ∧ x ≤ intr n) = b at *
  generalize fh (intr n) = ih at *
  generalize fl (intr n) = il at *
  generalize fh x = xh at *
  generalize fl x = xl at *
  go_enter Tryz.func37, Tryz.ntmps37
  go_upto_region 1 with fail
  refine nw _ fun wx hwx => ?_
  have b0 : Bx 27 wx (w.heap.size) [.int .i64 xh, .int .u64 xl] := by
    have k := Bx.new w 27 #[.int .i64 xh, .int .u64 xl]
    rw [hwx]; exact k
  have BX : Hid (Below w.heap.size w wx) := by rw [hwx]; exact bl_al (Below.refl _ _) _
  have y0 := stays (b0.cell (j := 0) rfl) b0.lt
  have y1 := stays (b0.cell (j := 1) rfl) b0.lt
  clear hwx b0 
  go_region_held3 (fun w' => Below wx.heap.size wx w') (exact bs) (first
    | (go_at_call 19; (with_reducible refine (KI.out _).mono ?_); rintro e wc ⟨rfl, hbc⟩)
    | (go_at_call 36; (with_reducible refine (KF.out _).mono ?_); rintro e wc ⟨rfl, hbc⟩)
    | fail)
  rename_i hHeld
  have W0 := hHeld
  clear hHeld
  go_wp2_with fail
  go_returns
  exact ⟨rfl, bl_trans BX.out W0⟩
set_option maxRecDepth 20000 in
set_option maxHeartbeats 8000000 in
theorem within_any (n lo hi : Int) (w : World) :
    Calls Tryz.prog 43 #[.int .i64 n, .int .i64 lo, .int .i64 hi] w fun e w' => e = .returned (.bool (decide (lo ≤ n ∧ n ≤ hi))) ∧ Below w.heap.size w w' := by
  by_cases h1 : lo ≤ n
  · by_cases h2 : n ≤ hi
    · rw [decide_eq_true ⟨h1, h2⟩]
      go_enter Tryz.func43, Tryz.ntmps43
      have BX : Hid (Below w.heap.size w w) := Below.refl _ _
      obtain ⟨wx, hwx⟩ : ∃ x : World, x = w := ⟨_, rfl⟩
      clear hwx
      have W0 := Below.refl wx.heap.size wx
      go_wp2_with (first
        | fail)
      go_returns
      exact ⟨rfl, Below.refl _ _⟩
    · rw [decide_eq_false (by omega)]
      go_enter Tryz.func43, Tryz.ntmps43
      have BX : Hid (Below w.heap.size w w) := Below.refl _ _
      obtain ⟨wx, hwx⟩ : ∃ x : World, x = w := ⟨_, rfl⟩
      clear hwx
      have W0 := Below.refl wx.heap.size wx
      go_wp2_with (first
        | fail)
      go_returns
      exact ⟨rfl, Below.refl _ _⟩
  · rw [decide_eq_false (by omega)]
    go_enter Tryz.func43, Tryz.ntmps43
    have BX : Hid (Below w.heap.size w w) := Below.refl _ _
    obtain ⟨wx, hwx⟩ : ∃ x : World, x = w := ⟨_, rfl⟩
    clear hwx
    have W0 := Below.refl wx.heap.size wx
    go_wp2_with (first
      | fail)
    go_returns
    exact ⟨rfl, Below.refl _ _⟩
set_option maxRecDepth 20000 in
set_option maxHeartbeats 8000000 in
theorem beyond_any (CM : RCmpT) (x n : Int) (hn : -9223372036854775808 < n ∧ n < 9223372036854775808) (w : World) :
    Calls Tryz.prog 66 #[.agg #[.int .i64 (fh x), .int .u64 (fl x)], .int .i64 n] w fun e w' => e = .returned (.bool (decide (intr n < x ∨ x < intr (-n)))) ∧ Below w.heap.size w w' := by
  have K1 := CM x (intr n)
  have K2 := CM x (intr (-n))
  simp only [fxv] at K1 K2
  have I1 := rint_any n
  have I2 := rint_any (-n)
  have wn : IntKind.i64.wrap (-n) = -n := by rw [IntWalk.i64_in _ (by omega)]
  by_cases h1 : intr n < x
  · rw [decide_eq_true (Or.inl h1), ic_gt h1] at *
    have K1 := Lib.hid K1; have I1 := Lib.hid I1
    clear K2 I2 CM hn h1 wn
    generalize fh (intr n) = ih at *
    generalize fl (intr n) = il at *
    generalize fh x = xh at *
    generalize fl x = xl at *
    go_enter Tryz.func66, Tryz.ntmps66
    go_upto_region 1 with fail
    refine nw _ fun wx hwx => ?_
    have b0 : Bx 27 wx (w.heap.size) [.int .i64 xh, .int .u64 xl] := by
      have k := Bx.new w 27 #[.int .i64 xh, .int .u64 xl]
      rw [hwx]; exact k
    have BX : Hid (Below w.heap.size w wx) := by rw [hwx]; exact bl_al (Below.refl _ _) _
    have y0 := stays (b0.cell (j := 0) rfl) b0.lt
    have y1 := stays (b0.cell (j := 1) rfl) b0.lt
    clear hwx b0 
    refine wp_region_held_drew (S := fun w' => Below wx.heap.size wx w') kr (Below.refl _ _).drew (fun hHeld => ?_)
    refine tk 0 hHeld ?_
    refine tk 1 hHeld ?_
    refine wpAnyH_ready (rs := [2]) kr (by simp) ?_
    refine AllReadyH.cons (o := _) ge (fun K hK => ?_) AllReadyH.nil
    go_simp
    (with_reducible refine (I1.out _).mono ?_); rintro e wc ⟨rfl, hb⟩
    refine hK.out _ _ (bl_trans hHeld hb) (fun hHeldN => ?_)
    clear hK K hHeld hb; have hHeld := hHeldN; clear hHeldN
    try simp only [Act.put, List.setIfInBounds_toArray, List.set_cons_zero, List.set_cons_succ]
    refine wpAnyH_ready (rs := [3]) kr (by simp) ?_
    refine AllReadyH.cons (o := _) ge (fun K hK => ?_) AllReadyH.nil
    go_simp
    (with_reducible refine (K1.out _).mono ?_); rintro e wc ⟨rfl, hb⟩
    refine hK.out _ _ (bl_trans hHeld hb) (fun hHeldN => ?_)
    clear hK K hHeld hb; have hHeld := hHeldN; clear hHeldN
    try simp only [Act.put, List.setIfInBounds_toArray, List.set_cons_zero, List.set_cons_succ]
    refine tk 4 hHeld ?_
    refine tk 5 hHeld ?_
    refine tko 6 hHeld ?_
    refine tko 7 hHeld ?_
    refine tko 8 hHeld ?_
    refine wpAnyH_ready (rs := [9]) kr (by simp) ?_
    refine AllReadyH.cons (o := _) ge (fun K hK => ?_) AllReadyH.nil
    go_simp
    refine hK.out _ _ hHeld (fun hHeldN => ?_)
    clear hK K hHeld; have hHeld := hHeldN; clear hHeldN
    try simp only [Act.put, List.setIfInBounds_toArray, List.set_cons_zero, List.set_cons_succ]
    refine wpAnyH_ready (rs := [10]) kr (by simp) ?_
    refine AllReadyH.cons (o := _) ge (fun K hK => ?_) AllReadyH.nil
    go_simp
    refine hK.out _ _ hHeld (fun hHeldN => ?_)
    clear hK K hHeld; have hHeld := hHeldN; clear hHeldN
    try simp only [Act.put, List.setIfInBounds_toArray, List.set_cons_zero, List.set_cons_succ]
    refine tko 11 hHeld ?_
    refine tk 12 hHeld ?_
    refine tk 13 hHeld ?_
    refine wpAnyH_done kr ?_ _
    have W0 := hHeld
    clear hHeld
    go_wp2_with fail
    go_returns
    exact ⟨rfl, bl_trans BX.out W0⟩
  · by_cases h2 : x < intr (-n)
    · rw [decide_eq_true (Or.inr h2)]
      rcases ic_le2 h1 with q1 | q1
      · have wn1 := wn
        rw [ic_lt h2] at K2; rw [q1] at K1; clear q1 wn1
        have K1 := Lib.hid K1; have K2 := Lib.hid K2; have I1 := Lib.hid I1; have I2 := Lib.hid I2
        clear CM hn h1 h2
        generalize fh (intr n) = ih at *
        generalize fl (intr n) = il at *
        generalize fh (intr (-n)) = jh at *
        generalize fl (intr (-n)) = jl at *
        generalize fh x = xh at *
        generalize fl x = xl at *
        go_enter Tryz.func66, Tryz.ntmps66
        go_upto_region 1 with fail
        refine nw _ fun wx hwx => ?_
        have b0 : Bx 27 wx (w.heap.size) [.int .i64 xh, .int .u64 xl] := by
          have k := Bx.new w 27 #[.int .i64 xh, .int .u64 xl]
          rw [hwx]; exact k
        have BX : Hid (Below w.heap.size w wx) := by rw [hwx]; exact bl_al (Below.refl _ _) _
        have y0 := stays (b0.cell (j := 0) rfl) b0.lt
        have y1 := stays (b0.cell (j := 1) rfl) b0.lt
        clear hwx b0 
        go_region_held3 (fun w' => Below wx.heap.size wx w') (exact bs) (first
          | (go_at_call 19; (with_reducible refine (I1.out _).mono ?_); rintro e wc ⟨rfl, hbc⟩)
          | (go_at_call 19; (with_reducible refine (I2.out _).mono ?_); rintro e wc ⟨rfl, hbc⟩)
          | (go_at_call 40; (with_reducible refine (K1.out _).mono ?_); rintro e wc ⟨rfl, hbc⟩)
          | (go_at_call 40; (with_reducible refine (K2.out _).mono ?_); rintro e wc ⟨rfl, hbc⟩)
          | fail)
        rename_i hHeld
        have W0 := hHeld
        clear hHeld
        go_wp2_with fail
        go_returns
        exact ⟨rfl, bl_trans BX.out W0⟩
      · have wn1 := wn
        rw [ic_lt h2] at K2; rw [q1] at K1; clear q1 wn1
        have K1 := Lib.hid K1; have K2 := Lib.hid K2; have I1 := Lib.hid I1; have I2 := Lib.hid I2
        clear CM hn h1 h2
        generalize fh (intr n) = ih at *
        generalize fl (intr n) = il at *
        generalize fh (intr (-n)) = jh at *
        generalize fl (intr (-n)) = jl at *
        generalize fh x = xh at *
        generalize fl x = xl at *
        go_enter Tryz.func66, Tryz.ntmps66
        go_upto_region 1 with fail
        refine nw _ fun wx hwx => ?_
        have b0 : Bx 27 wx (w.heap.size) [.int .i64 xh, .int .u64 xl] := by
          have k := Bx.new w 27 #[.int .i64 xh, .int .u64 xl]
          rw [hwx]; exact k
        have BX : Hid (Below w.heap.size w wx) := by rw [hwx]; exact bl_al (Below.refl _ _) _
        have y0 := stays (b0.cell (j := 0) rfl) b0.lt
        have y1 := stays (b0.cell (j := 1) rfl) b0.lt
        clear hwx b0 
        go_region_held3 (fun w' => Below wx.heap.size wx w') (exact bs) (first
          | (go_at_call 19; (with_reducible refine (I1.out _).mono ?_); rintro e wc ⟨rfl, hbc⟩)
          | (go_at_call 19; (with_reducible refine (I2.out _).mono ?_); rintro e wc ⟨rfl, hbc⟩)
          | (go_at_call 40; (with_reducible refine (K1.out _).mono ?_); rintro e wc ⟨rfl, hbc⟩)
          | (go_at_call 40; (with_reducible refine (K2.out _).mono ?_); rintro e wc ⟨rfl, hbc⟩)
          | fail)
        rename_i hHeld
        have W0 := hHeld
        clear hHeld
        go_wp2_with fail
        go_returns
        exact ⟨rfl, bl_trans BX.out W0⟩
    · rw [decide_eq_false (by omega)]
      rcases ic_le2 h1 with q1 | q1
      · rcases ic_ge2 h2 with q2 | q2
        · have wn1 := wn
          rw [q2] at K2; rw [q1] at K1; clear q1 q2 wn1
          have K1 := Lib.hid K1; have K2 := Lib.hid K2; have I1 := Lib.hid I1; have I2 := Lib.hid I2
          clear CM hn h1 h2
          generalize fh (intr n) = ih at *
          generalize fl (intr n) = il at *
          generalize fh (intr (-n)) = jh at *
          generalize fl (intr (-n)) = jl at *
          generalize fh x = xh at *
          generalize fl x = xl at *
          go_enter Tryz.func66, Tryz.ntmps66
          go_upto_region 1 with fail
          refine nw _ fun wx hwx => ?_
          have b0 : Bx 27 wx (w.heap.size) [.int .i64 xh, .int .u64 xl] := by
            have k := Bx.new w 27 #[.int .i64 xh, .int .u64 xl]
            rw [hwx]; exact k
          have BX : Hid (Below w.heap.size w wx) := by rw [hwx]; exact bl_al (Below.refl _ _) _
          have y0 := stays (b0.cell (j := 0) rfl) b0.lt
          have y1 := stays (b0.cell (j := 1) rfl) b0.lt
          clear hwx b0 
          go_region_held3 (fun w' => Below wx.heap.size wx w') (exact bs) (first
            | (go_at_call 19; (with_reducible refine (I1.out _).mono ?_); rintro e wc ⟨rfl, hbc⟩)
            | (go_at_call 19; (with_reducible refine (I2.out _).mono ?_); rintro e wc ⟨rfl, hbc⟩)
            | (go_at_call 40; (with_reducible refine (K1.out _).mono ?_); rintro e wc ⟨rfl, hbc⟩)
            | (go_at_call 40; (with_reducible refine (K2.out _).mono ?_); rintro e wc ⟨rfl, hbc⟩)
            | fail)
          rename_i hHeld
          have W0 := hHeld
          clear hHeld
          go_wp2_with fail
          go_returns
          exact ⟨rfl, bl_trans BX.out W0⟩
        · have wn1 := wn
          rw [q2] at K2; rw [q1] at K1; clear q1 q2 wn1
          have K1 := Lib.hid K1; have K2 := Lib.hid K2; have I1 := Lib.hid I1; have I2 := Lib.hid I2
          clear CM hn h1 h2
          generalize fh (intr n) = ih at *
          generalize fl (intr n) = il at *
          generalize fh (intr (-n)) = jh at *
          generalize fl (intr (-n)) = jl at *
          generalize fh x = xh at *
          generalize fl x = xl at *
          go_enter Tryz.func66, Tryz.ntmps66
          go_upto_region 1 with fail
          refine nw _ fun wx hwx => ?_
          have b0 : Bx 27 wx (w.heap.size) [.int .i64 xh, .int .u64 xl] := by
            have k := Bx.new w 27 #[.int .i64 xh, .int .u64 xl]
            rw [hwx]; exact k
          have BX : Hid (Below w.heap.size w wx) := by rw [hwx]; exact bl_al (Below.refl _ _) _
          have y0 := stays (b0.cell (j := 0) rfl) b0.lt
          have y1 := stays (b0.cell (j := 1) rfl) b0.lt
          clear hwx b0 
          go_region_held3 (fun w' => Below wx.heap.size wx w') (exact bs) (first
            | (go_at_call 19; (with_reducible refine (I1.out _).mono ?_); rintro e wc ⟨rfl, hbc⟩)
            | (go_at_call 19; (with_reducible refine (I2.out _).mono ?_); rintro e wc ⟨rfl, hbc⟩)
            | (go_at_call 40; (with_reducible refine (K1.out _).mono ?_); rintro e wc ⟨rfl, hbc⟩)
            | (go_at_call 40; (with_reducible refine (K2.out _).mono ?_); rintro e wc ⟨rfl, hbc⟩)
            | fail)
          rename_i hHeld
          have W0 := hHeld
          clear hHeld
          go_wp2_with fail
          go_returns
          exact ⟨rfl, bl_trans BX.out W0⟩
      · rcases ic_ge2 h2 with q2 | q2
        · have wn1 := wn
          rw [q2] at K2; rw [q1] at K1; clear q1 q2 wn1
          have K1 := Lib.hid K1; have K2 := Lib.hid K2; have I1 := Lib.hid I1; have I2 := Lib.hid I2
          clear CM hn h1 h2
          generalize fh (intr n) = ih at *
          generalize fl (intr n) = il at *
          generalize fh (intr (-n)) = jh at *
          generalize fl (intr (-n)) = jl at *
          generalize fh x = xh at *
          generalize fl x = xl at *
          go_enter Tryz.func66, Tryz.ntmps66
          go_upto_region 1 with fail
          refine nw _ fun wx hwx => ?_
          have b0 : Bx 27 wx (w.heap.size) [.int .i64 xh, .int .u64 xl] := by
            have k := Bx.new w 27 #[.int .i64 xh, .int .u64 xl]
            rw [hwx]; exact k
          have BX : Hid (Below w.heap.size w wx) := by rw [hwx]; exact bl_al (Below.refl _ _) _
          have y0 := stays (b0.cell (j := 0) rfl) b0.lt
          have y1 := stays (b0.cell (j := 1) rfl) b0.lt
          clear hwx b0 
          go_region_held3 (fun w' => Below wx.heap.size wx w') (exact bs) (first
            | (go_at_call 19; (with_reducible refine (I1.out _).mono ?_); rintro e wc ⟨rfl, hbc⟩)
            | (go_at_call 19; (with_reducible refine (I2.out _).mono ?_); rintro e wc ⟨rfl, hbc⟩)
            | (go_at_call 40; (with_reducible refine (K1.out _).mono ?_); rintro e wc ⟨rfl, hbc⟩)
            | (go_at_call 40; (with_reducible refine (K2.out _).mono ?_); rintro e wc ⟨rfl, hbc⟩)
            | fail)
          rename_i hHeld
          have W0 := hHeld
          clear hHeld
          go_wp2_with fail
          go_returns
          exact ⟨rfl, bl_trans BX.out W0⟩
        · have wn1 := wn
          rw [q2] at K2; rw [q1] at K1; clear q1 q2 wn1
          have K1 := Lib.hid K1; have K2 := Lib.hid K2; have I1 := Lib.hid I1; have I2 := Lib.hid I2
          clear CM hn h1 h2
          generalize fh (intr n) = ih at *
          generalize fl (intr n) = il at *
          generalize fh (intr (-n)) = jh at *
          generalize fl (intr (-n)) = jl at *
          generalize fh x = xh at *
          generalize fl x = xl at *
          go_enter Tryz.func66, Tryz.ntmps66
          go_upto_region 1 with fail
          refine nw _ fun wx hwx => ?_
          have b0 : Bx 27 wx (w.heap.size) [.int .i64 xh, .int .u64 xl] := by
            have k := Bx.new w 27 #[.int .i64 xh, .int .u64 xl]
            rw [hwx]; exact k
          have BX : Hid (Below w.heap.size w wx) := by rw [hwx]; exact bl_al (Below.refl _ _) _
          have y0 := stays (b0.cell (j := 0) rfl) b0.lt
          have y1 := stays (b0.cell (j := 1) rfl) b0.lt
          clear hwx b0 
          go_region_held3 (fun w' => Below wx.heap.size wx w') (exact bs) (first
            | (go_at_call 19; (with_reducible refine (I1.out _).mono ?_); rintro e wc ⟨rfl, hbc⟩)
            | (go_at_call 19; (with_reducible refine (I2.out _).mono ?_); rintro e wc ⟨rfl, hbc⟩)
            | (go_at_call 40; (with_reducible refine (K1.out _).mono ?_); rintro e wc ⟨rfl, hbc⟩)
            | (go_at_call 40; (with_reducible refine (K2.out _).mono ?_); rintro e wc ⟨rfl, hbc⟩)
            | fail)
          rename_i hHeld
          have W0 := hHeld
          clear hHeld
          go_wp2_with fail
          go_returns
          exact ⟨rfl, bl_trans BX.out W0⟩
end Go.Proofs.YtjilnmpajhifcaaGreat
