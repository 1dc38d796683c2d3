/- The document's MayBody, where all else may be; what it comes to. -/
import Derived.Test.YtjilnmpajhifcaaGreatMaySlow
namespace Go.Proofs.YtjilnmpajhifcaaGreat
open Go.RowKit
theorem got_field2 (a b e : Int) (W : World) : (Instr.field 63 (.agg #[.int .i64 a, .int .u64 b, .int .i64 e]) 0).run Tryz.prog W = .ok (.agg #[.int .i64 a, .int .u64 b]) W := by
  have hu := Tryz.underlying63
  simp [Instr.field, run_underlying hu, go_sem, asAgg]
set_option maxRecDepth 20000 in
set_option maxHeartbeats 16000000 in
theorem maybody_pass (b : Bod) (kh kl : Int) (DI : Ct 19 #[.int .i64 1048576] (.agg #[.int .i64 kh, .int .u64 kl])) (D1 : Ct 36 #[.agg #[.int .i64 (fh b.m), .int .u64 (fl b.m)], .agg #[.int .i64 0, .int .u64 281474976710656], .agg #[.int .i64 kh, .int .u64 kl]] (.bool true)) (D2 : Ct 37 #[.agg #[.int .i64 (fh b.r), .int .u64 (fl b.r)], .int .i64 65536] (.bool true)) (D3 : Ct 36 #[.agg #[.int .i64 (fh b.fu), .int .u64 (fl b.fu)], .agg #[.int .i64 0, .int .u64 0], .agg #[.int .i64 (fh b.m), .int .u64 (fl b.m)]] (.bool true)) (D4 : Ct 37 #[.agg #[.int .i64 (fh b.ra), .int .u64 (fl b.ra)], .int .i64 65536] (.bool true)) (D5 : Ct 37 #[.agg #[.int .i64 (fh b.ex), .int .u64 (fl b.ex)], .int .i64 65536] (.bool true)) (D6 : Ct 38 #[.agg #[.int .i64 (fh b.x), .int .u64 (fl b.x), .int .i64 (fh b.y), .int .u64 (fl b.y)]] (.bool true)) (D7 : Ct 38 #[.agg #[.int .i64 (fh b.px), .int .u64 (fl b.px), .int .i64 (fh b.py), .int .u64 (fl b.py)]] (.bool true)) (s : Bool) (z : Int) (DS : Ct 39 #[.agg (bdc b).toArray] (.agg #[.bool s, .int .i64 z])) (sh sl c : Int) (DB : Ct 41 #[.agg #[.int .i64 (fh b.m), .int .u64 (fl b.m)], .agg #[.int .i64 (fh b.fu), .int .u64 (fl b.fu)]] (.agg #[.int .i64 sh, .int .u64 sl, .int .i64 0])) (DC : Ct 40 #[.agg #[.int .i64 sh, .int .u64 sl], .agg #[.int .i64 0, .int .u64 281474976710656]] (.int .i64 c))
    (p q r : Bool) (DN : Ct 42 #[.agg #[.int .i64 (fh b.x), .int .u64 (fl b.x), .int .i64 (fh b.y), .int .u64 (fl b.y)]] (.bool p)) (DT : Ct 43 #[.int .i64 b.th, .int .i64 0, .int .i64 100] (.bool q)) (DH : Ct 43 #[.int .i64 b.he, .int .i64 0, .int .i64 65535] (.bool r)) (res : Bool) (hres : res = (decide (0 ≤ c) && p && s && q && r)) (w : World) :
    Calls Tryz.prog 18 #[.agg (bdc b).toArray] w fun e w' => e = .returned (.bool res) ∧ Below w.heap.size w w' := by
  have KI := Lib.hid DI; have K1 := Lib.hid D1; have K2 := Lib.hid D2; have K3 := Lib.hid D3; have K4 := Lib.hid D4; have K5 := Lib.hid D5; have K6 := Lib.hid D6; have K7 := Lib.hid D7; have KS := Lib.hid DS; have KB := Lib.hid DB; have KC := Lib.hid DC; have KN := Lib.hid DN; have KT := Lib.hid DT; have KH := Lib.hid DH; have HR := Lib.hid hres
  have hbl := bdc_len b
  go_enter Tryz.func18, Tryz.ntmps18
  go_upto_region 1 with fail
  refine nw _ fun wx hwx => ?_
  have B0 : Hid (Bx 56 wx w.heap.size (bdc b)) := by rw [hwx]; exact Bx.new w 56 (bdc b).toArray
  have BX : Hid (Below w.heap.size w wx) := by rw [hwx]; exact bl_al (Below.refl _ _) _
  clear hwx DI DS DB DC DN DT DH hres D1 D2 D3 D4 D5 D6 D7
  obtain ⟨y0, y1, y2, y3, y4, y5, y6, y7, y8, y9, y10, y11, y12, y13, y14, y15, y16, y17, y18, y19⟩ := bod20 B0.out
  refine wp_region_held_drew (S := fun w' => Below wx.heap.size wx w') kr (Below.refl _ _).drew (fun hHeld => ?_)
  refine tk 0 hHeld ?_
  refine tk 1 hHeld ?_
  refine tk 2 hHeld ?_
  refine wpAnyH_ready (rs := [3]) kr (by simp) ?_
  refine AllReadyH.cons (o := _) ge (fun K hK => ?_) AllReadyH.nil
  go_simp
  (with_reducible refine (KI.out _).mono ?_); rintro e wc ⟨rfl, hb⟩
  refine hK.out _ _ (bl_trans hHeld hb) (fun hHeldN => ?_)
  clear hK K hHeld hb; have hHeld := hHeldN; clear hHeldN
  try simp only [Act.put, List.setIfInBounds_toArray, List.set_cons_zero, List.set_cons_succ]
  refine wpAnyH_ready (rs := [4]) kr (by simp) ?_
  refine AllReadyH.cons (o := _) ge (fun K hK => ?_) AllReadyH.nil
  go_simp
  (with_reducible refine (K1.out _).mono ?_); rintro e wc ⟨rfl, hb⟩
  refine hK.out _ _ (bl_trans hHeld hb) (fun hHeldN => ?_)
  clear hK K hHeld hb; have hHeld := hHeldN; clear hHeldN
  try simp only [Act.put, List.setIfInBounds_toArray, List.set_cons_zero, List.set_cons_succ]
  refine tk 5 hHeld ?_
  refine tk 6 hHeld ?_
  refine tk 7 hHeld ?_
  refine tk 8 hHeld ?_
  refine wpAnyH_ready (rs := [9]) kr (by simp) ?_
  refine AllReadyH.cons (o := _) ge (fun K hK => ?_) AllReadyH.nil
  go_simp
  (with_reducible refine (K2.out _).mono ?_); rintro e wc ⟨rfl, hb⟩
  refine hK.out _ _ (bl_trans hHeld hb) (fun hHeldN => ?_)
  clear hK K hHeld hb; have hHeld := hHeldN; clear hHeldN
  try simp only [Act.put, List.setIfInBounds_toArray, List.set_cons_zero, List.set_cons_succ]
  refine tk 10 hHeld ?_
  refine tk 11 hHeld ?_
  refine tk 12 hHeld ?_
  refine tk 13 hHeld ?_
  refine tk 14 hHeld ?_
  refine tk 15 hHeld ?_
  refine tk 16 hHeld ?_
  refine tk 17 hHeld ?_
  refine wpAnyH_ready (rs := [18]) kr (by simp) ?_
  refine AllReadyH.cons (o := _) ge (fun K hK => ?_) AllReadyH.nil
  go_simp
  (with_reducible refine (K3.out _).mono ?_); rintro e wc ⟨rfl, hb⟩
  refine hK.out _ _ (bl_trans hHeld hb) (fun hHeldN => ?_)
  clear hK K hHeld hb; have hHeld := hHeldN; clear hHeldN
  try simp only [Act.put, List.setIfInBounds_toArray, List.set_cons_zero, List.set_cons_succ]
  refine tk 19 hHeld ?_
  refine tk 20 hHeld ?_
  refine tk 21 hHeld ?_
  refine tk 22 hHeld ?_
  refine tk 23 hHeld ?_
  refine wpAnyH_ready (rs := [24]) kr (by simp) ?_
  refine AllReadyH.cons (o := _) ge (fun K hK => ?_) AllReadyH.nil
  go_simp
  (with_reducible refine (K4.out _).mono ?_); rintro e wc ⟨rfl, hb⟩
  refine hK.out _ _ (bl_trans hHeld hb) (fun hHeldN => ?_)
  clear hK K hHeld hb; have hHeld := hHeldN; clear hHeldN
  try simp only [Act.put, List.setIfInBounds_toArray, List.set_cons_zero, List.set_cons_succ]
  refine tk 25 hHeld ?_
  refine tk 26 hHeld ?_
  refine tk 27 hHeld ?_
  refine tk 28 hHeld ?_
  refine tk 29 hHeld ?_
  refine wpAnyH_ready (rs := [30]) kr (by simp) ?_
  refine AllReadyH.cons (o := _) ge (fun K hK => ?_) AllReadyH.nil
  go_simp
  (with_reducible refine (K5.out _).mono ?_); rintro e wc ⟨rfl, hb⟩
  refine hK.out _ _ (bl_trans hHeld hb) (fun hHeldN => ?_)
  clear hK K hHeld hb; have hHeld := hHeldN; clear hHeldN
  try simp only [Act.put, List.setIfInBounds_toArray, List.set_cons_zero, List.set_cons_succ]
  refine tk 31 hHeld ?_
  refine tk 32 hHeld ?_
  refine tk 33 hHeld ?_
  refine tk 34 hHeld ?_
  refine tk 35 hHeld ?_
  refine wpAnyH_ready (rs := [36]) kr (by simp) ?_
  refine AllReadyH.cons (o := _) ge (fun K hK => ?_) AllReadyH.nil
  go_simp
  (with_reducible refine (K6.out _).mono ?_); rintro e wc ⟨rfl, hb⟩
  refine hK.out _ _ (bl_trans hHeld hb) (fun hHeldN => ?_)
  clear hK K hHeld hb; have hHeld := hHeldN; clear hHeldN
  try simp only [Act.put, List.setIfInBounds_toArray, List.set_cons_zero, List.set_cons_succ]
  refine tk 37 hHeld ?_
  refine tk 38 hHeld ?_
  refine tk 39 hHeld ?_
  refine tk 40 hHeld ?_
  refine tk 41 hHeld ?_
  refine wpAnyH_ready (rs := [42]) kr (by simp) ?_
  refine AllReadyH.cons (o := _) ge (fun K hK => ?_) AllReadyH.nil
  go_simp
  (with_reducible refine (K7.out _).mono ?_); rintro e wc ⟨rfl, hb⟩
  refine hK.out _ _ (bl_trans hHeld hb) (fun hHeldN => ?_)
  clear hK K hHeld hb; have hHeld := hHeldN; clear hHeldN
  try simp only [Act.put, List.setIfInBounds_toArray, List.set_cons_zero, List.set_cons_succ]
  refine tk 43 hHeld ?_
  refine tk 44 hHeld ?_
  refine wpAnyH_done kr ?_ _
  have W0 := hHeld
  clear hHeld
  have HB := Lib.hid (B0.out.below W0)
  have HV := Lib.hid (fun (j : Nat) (v : Value) (hj : (bdc b)[j]? = some v) => HB.out.cell hj)
  have hfl := got_field2
  go_upto_region 3 with fail
  refine nw _ fun wu hwu => ?_
  have WU : Below wx.heap.size wx wu := by rw [hwu]; exact W0
  have HB := Lib.hid (B0.out.below WU); have BU := Lib.hid (bl_trans BX.out WU)
  have HV := Lib.hid (fun (j : Nat) (v : Value) (hj : (bdc b)[j]? = some v) => (by rw [Nat.zero_add]; exact HB.out.cell hj : wu.cell? ⟨w.heap.size, 0 + j, none⟩ = some v))
  clear hwu W0 y0 y1 y2 y3 y4 y5 y6 y7 y8 y9 y10 y11 y12 y13 y14 y15 y16 y17 y18 y19
  go_upto_region 4 with (first
    | (refine wpList_load_mid rfl 56 _ rfl w.heap.size 0 rfl (bdc b) _ HV.out Tryz.underlying56 rfl (by kernel_rfl) ?_)
    | (go_at_call 39; (with_reducible refine (KS.out _).mono ?_); rintro e w1 ⟨rfl, hb1⟩)
    | fail)
  refine nw _ fun wy hwy => ?_
  have HW : Below wu.heap.size wu wy := by rw [hwy]; exact bl_al hb1 _
  have G1 : Hid (Bx 87 wy w1.heap.size [.bool s, .int .i64 z]) := by rw [hwy]; exact Bx.new _ _ _
  have B1 := Lib.hid (HB.out.below HW); have BY := Lib.hid (bl_trans BU.out HW)
  generalize w1.heap.size = n1 at *
  clear HW hwy hb1 HB BU BX WU B0 HV hbl
  obtain ⟨y0, y1, y2, y3, y4, y5, y6, y7, y8, y9, y10, y11, y12, y13, y14, y15, y16, y17, y18, y19⟩ := bod20 B1.out
  have z0 := stays (G1.out.cell (j := 0) rfl) G1.out.lt
  clear B1 G1
  have W0 := Below.refl wy.heap.size wy
  by_cases hc : 0 ≤ c
  · cases p
    · have hr : Hid (res = false) := by show _ = _; rw [HR.out]; simp [*]
      clear HR
      go_wp2_with (first
        | (go_at_call 41; (with_reducible refine (KB.out _).mono ?_); rintro e wc ⟨rfl, hbc⟩; have W1 := bl_trans W0 hbc; clear W0 hbc; have W0 := W1; clear W1)
        | (go_at_call 40; (with_reducible refine (KC.out _).mono ?_); rintro e wc ⟨rfl, hbc⟩; have W1 := bl_trans W0 hbc; clear W0 hbc; have W0 := W1; clear W1)
        | (go_at_call 42; (with_reducible refine (KN.out _).mono ?_); rintro e wc ⟨rfl, hbc⟩; have W1 := bl_trans W0 hbc; clear W0 hbc; have W0 := W1; clear W1)
        | fail)
      go_returns
      exact ⟨by rw [hr.out]; rfl, bl_trans BY.out W0⟩
    · cases s
      · have hr : Hid (res = false) := by show _ = _; rw [HR.out]; simp [*]
        clear HR
        go_wp2_with (first
          | (go_at_call 41; (with_reducible refine (KB.out _).mono ?_); rintro e wc ⟨rfl, hbc⟩; have W1 := bl_trans W0 hbc; clear W0 hbc; have W0 := W1; clear W1)
          | (go_at_call 40; (with_reducible refine (KC.out _).mono ?_); rintro e wc ⟨rfl, hbc⟩; have W1 := bl_trans W0 hbc; clear W0 hbc; have W0 := W1; clear W1)
          | (go_at_call 42; (with_reducible refine (KN.out _).mono ?_); rintro e wc ⟨rfl, hbc⟩; have W1 := bl_trans W0 hbc; clear W0 hbc; have W0 := W1; clear W1)
          | fail)
        go_returns
        exact ⟨by rw [hr.out]; rfl, bl_trans BY.out W0⟩
      · cases q
        · have hr : Hid (res = false) := by show _ = _; rw [HR.out]; simp [*]
          clear HR
          go_wp2_with (first
            | (go_at_call 41; (with_reducible refine (KB.out _).mono ?_); rintro e wc ⟨rfl, hbc⟩; have W1 := bl_trans W0 hbc; clear W0 hbc; have W0 := W1; clear W1)
            | (go_at_call 40; (with_reducible refine (KC.out _).mono ?_); rintro e wc ⟨rfl, hbc⟩; have W1 := bl_trans W0 hbc; clear W0 hbc; have W0 := W1; clear W1)
            | (go_at_call 42; (with_reducible refine (KN.out _).mono ?_); rintro e wc ⟨rfl, hbc⟩; have W1 := bl_trans W0 hbc; clear W0 hbc; have W0 := W1; clear W1)
            | (go_at_call 43; (with_reducible refine (KT.out _).mono ?_); rintro e wc ⟨rfl, hbc⟩; have W1 := bl_trans W0 hbc; clear W0 hbc; have W0 := W1; clear W1)
            | fail)
          go_returns
          exact ⟨by rw [hr.out]; rfl, bl_trans BY.out W0⟩
        · cases r
          · have hr : Hid (res = false) := by show _ = _; rw [HR.out]; simp [*]
            clear HR
            go_wp2_with (first
              | (go_at_call 41; (with_reducible refine (KB.out _).mono ?_); rintro e wc ⟨rfl, hbc⟩; have W1 := bl_trans W0 hbc; clear W0 hbc; have W0 := W1; clear W1)
              | (go_at_call 40; (with_reducible refine (KC.out _).mono ?_); rintro e wc ⟨rfl, hbc⟩; have W1 := bl_trans W0 hbc; clear W0 hbc; have W0 := W1; clear W1)
              | (go_at_call 42; (with_reducible refine (KN.out _).mono ?_); rintro e wc ⟨rfl, hbc⟩; have W1 := bl_trans W0 hbc; clear W0 hbc; have W0 := W1; clear W1)
              | (go_at_call 43; (with_reducible refine (KT.out _).mono ?_); rintro e wc ⟨rfl, hbc⟩; have W1 := bl_trans W0 hbc; clear W0 hbc; have W0 := W1; clear W1)
              | (go_at_call 43; (with_reducible refine (KH.out _).mono ?_); rintro e wc ⟨rfl, hbc⟩; have W1 := bl_trans W0 hbc; clear W0 hbc; have W0 := W1; clear W1)
              | fail)
            go_returns
            exact ⟨by rw [hr.out]; rfl, bl_trans BY.out W0⟩
          · have hr : Hid (res = true) := by show _ = _; rw [HR.out]; simp [*]
            clear HR
            go_wp2_with (first
              | (go_at_call 41; (with_reducible refine (KB.out _).mono ?_); rintro e wc ⟨rfl, hbc⟩; have W1 := bl_trans W0 hbc; clear W0 hbc; have W0 := W1; clear W1)
              | (go_at_call 40; (with_reducible refine (KC.out _).mono ?_); rintro e wc ⟨rfl, hbc⟩; have W1 := bl_trans W0 hbc; clear W0 hbc; have W0 := W1; clear W1)
              | (go_at_call 42; (with_reducible refine (KN.out _).mono ?_); rintro e wc ⟨rfl, hbc⟩; have W1 := bl_trans W0 hbc; clear W0 hbc; have W0 := W1; clear W1)
              | (go_at_call 43; (with_reducible refine (KT.out _).mono ?_); rintro e wc ⟨rfl, hbc⟩; have W1 := bl_trans W0 hbc; clear W0 hbc; have W0 := W1; clear W1)
              | (go_at_call 43; (with_reducible refine (KH.out _).mono ?_); rintro e wc ⟨rfl, hbc⟩; have W1 := bl_trans W0 hbc; clear W0 hbc; have W0 := W1; clear W1)
              | fail)
            go_returns
            exact ⟨by rw [hr.out]; rfl, bl_trans BY.out W0⟩
  · have hr : Hid (res = false) := by show _ = _; rw [HR.out]; simp [*]
    clear HR
    go_wp2_with (first
      | (go_at_call 41; (with_reducible refine (KB.out _).mono ?_); rintro e wc ⟨rfl, hbc⟩; have W1 := bl_trans W0 hbc; clear W0 hbc; have W0 := W1; clear W1)
      | (go_at_call 40; (with_reducible refine (KC.out _).mono ?_); rintro e wc ⟨rfl, hbc⟩; have W1 := bl_trans W0 hbc; clear W0 hbc; have W0 := W1; clear W1)
      | fail)
    go_returns
    exact ⟨by rw [hr.out]; rfl, bl_trans BY.out W0⟩
end Go.Proofs.YtjilnmpajhifcaaGreat
