/- The document's MayBody. -/
import Derived.Test.YtjilnmpajhifcaaGreatMaySlow
namespace Go.Proofs.YtjilnmpajhifcaaGreat
open Go.RowKit
set_option maxRecDepth 20000 in
set_option maxHeartbeats 16000000 in
theorem maybody_1 (b : Bod) (kh kl : Int) (DI : Ct 19 #[.int .i64 1048576] (.agg #[.int .i64 kh, .int .u64 kl]))  (D1 : Ct 36 #[.agg #[.int .i64 (fh b.m), .int .u64 (fl b.m)], .agg #[.int .i64 0, .int .u64 281474976710656], .agg #[.int .i64 kh, .int .u64 kl]] (.bool false)) (w : World) :
    Calls Tryz.prog 18 #[.agg (bdc b).toArray] w fun e w' => e = .returned (.bool false) ∧ Below w.heap.size w w' := by
  have KI := Lib.hid DI; have K1 := Lib.hid D1
  have hbl := bdc_len b
  go_enter Tryz.func18, Tryz.ntmps18
  go_upto_region 1 with fail
  refine nw _ fun wx hwx => ?_
  have B0 : Hid (Bx 56 wx w.heap.size (bdc b)) := by rw [hwx]; exact Bx.new w 56 (bdc b).toArray
  have BX : Hid (Below w.heap.size w wx) := by rw [hwx]; exact bl_al (Below.refl _ _) _
  clear hwx hbl DI D1
  obtain ⟨y0, y1, y2, y3, y4, y5, y6, y7, y8, y9, y10, y11, y12, y13, y14, y15, y16, y17, y18, y19⟩ := bod20 B0.out
  refine wp_region_held_drew (S := fun w' => Below wx.heap.size wx w') kr (Below.refl _ _).drew (fun hHeld => ?_)
  refine tk 0 hHeld ?_
  refine tk 1 hHeld ?_
  refine tk 2 hHeld ?_
  refine wpAnyH_ready (rs := [3]) kr (by simp) ?_
  refine AllReadyH.cons (o := _) ge (fun K hK => ?_) AllReadyH.nil
  go_simp
  (with_reducible refine (KI.out _).mono ?_); rintro e wc ⟨rfl, hb⟩
  refine hK.out _ _ (bl_trans hHeld hb) (fun hHeldN => ?_)
  clear hK K hHeld hb; have hHeld := hHeldN; clear hHeldN
  try simp only [Act.put, List.setIfInBounds_toArray, List.set_cons_zero, List.set_cons_succ]
  refine wpAnyH_ready (rs := [4]) kr (by simp) ?_
  refine AllReadyH.cons (o := _) ge (fun K hK => ?_) AllReadyH.nil
  go_simp
  (with_reducible refine (K1.out _).mono ?_); rintro e wc ⟨rfl, hb⟩
  refine hK.out _ _ (bl_trans hHeld hb) (fun hHeldN => ?_)
  clear hK K hHeld hb; have hHeld := hHeldN; clear hHeldN
  try simp only [Act.put, List.setIfInBounds_toArray, List.set_cons_zero, List.set_cons_succ]
  refine tk 5 hHeld ?_
  refine tk 6 hHeld ?_
  refine tko 7 hHeld ?_
  refine tko 8 hHeld ?_
  refine wpAnyH_ready (rs := [9]) kr (by simp) ?_
  refine AllReadyH.cons (o := _) ge (fun K hK => ?_) AllReadyH.nil
  go_simp
  refine hK.out _ _ hHeld (fun hHeldN => ?_)
  clear hK K hHeld; have hHeld := hHeldN; clear hHeldN
  try simp only [Act.put, List.setIfInBounds_toArray, List.set_cons_zero, List.set_cons_succ]
  refine tko 10 hHeld ?_
  refine tk 11 hHeld ?_
  refine tk 12 hHeld ?_
  refine tko 13 hHeld ?_
  refine tko 14 hHeld ?_
  refine tko 15 hHeld ?_
  refine tko 16 hHeld ?_
  refine tko 17 hHeld ?_
  refine wpAnyH_ready (rs := [18]) kr (by simp) ?_
  refine AllReadyH.cons (o := _) ge (fun K hK => ?_) AllReadyH.nil
  go_simp
  refine hK.out _ _ hHeld (fun hHeldN => ?_)
  clear hK K hHeld; have hHeld := hHeldN; clear hHeldN
  try simp only [Act.put, List.setIfInBounds_toArray, List.set_cons_zero, List.set_cons_succ]
  refine tko 19 hHeld ?_
  refine tk 20 hHeld ?_
  refine tk 21 hHeld ?_
  refine tko 22 hHeld ?_
  refine tko 23 hHeld ?_
  refine wpAnyH_ready (rs := [24]) kr (by simp) ?_
  refine AllReadyH.cons (o := _) ge (fun K hK => ?_) AllReadyH.nil
  go_simp
  refine hK.out _ _ hHeld (fun hHeldN => ?_)
  clear hK K hHeld; have hHeld := hHeldN; clear hHeldN
  try simp only [Act.put, List.setIfInBounds_toArray, List.set_cons_zero, List.set_cons_succ]
  refine tko 25 hHeld ?_
  refine tk 26 hHeld ?_
  refine tk 27 hHeld ?_
  refine tko 28 hHeld ?_
  refine tko 29 hHeld ?_
  refine wpAnyH_ready (rs := [30]) kr (by simp) ?_
  refine AllReadyH.cons (o := _) ge (fun K hK => ?_) AllReadyH.nil
  go_simp
  refine hK.out _ _ hHeld (fun hHeldN => ?_)
  clear hK K hHeld; have hHeld := hHeldN; clear hHeldN
  try simp only [Act.put, List.setIfInBounds_toArray, List.set_cons_zero, List.set_cons_succ]
  refine tko 31 hHeld ?_
  refine tk 32 hHeld ?_
  refine tk 33 hHeld ?_
  refine tko 34 hHeld ?_
  refine tko 35 hHeld ?_
  refine wpAnyH_ready (rs := [36]) kr (by simp) ?_
  refine AllReadyH.cons (o := _) ge (fun K hK => ?_) AllReadyH.nil
  go_simp
  refine hK.out _ _ hHeld (fun hHeldN => ?_)
  clear hK K hHeld; have hHeld := hHeldN; clear hHeldN
  try simp only [Act.put, List.setIfInBounds_toArray, List.set_cons_zero, List.set_cons_succ]
  refine tko 37 hHeld ?_
  refine tk 38 hHeld ?_
  refine tk 39 hHeld ?_
  refine tko 40 hHeld ?_
  refine tko 41 hHeld ?_
  refine wpAnyH_ready (rs := [42]) kr (by simp) ?_
  refine AllReadyH.cons (o := _) ge (fun K hK => ?_) AllReadyH.nil
  go_simp
  refine hK.out _ _ hHeld (fun hHeldN => ?_)
  clear hK K hHeld; have hHeld := hHeldN; clear hHeldN
  try simp only [Act.put, List.setIfInBounds_toArray, List.set_cons_zero, List.set_cons_succ]
  refine tko 43 hHeld ?_
  refine tk 44 hHeld ?_
  refine wpAnyH_done kr ?_ _
  have W0 := hHeld
  clear hHeld
  go_wp2_with fail
  go_returns
  exact ⟨rfl, bl_trans BX.out W0⟩
set_option maxRecDepth 20000 in
set_option maxHeartbeats 16000000 in
theorem maybody_2 (b : Bod) (kh kl : Int) (DI : Ct 19 #[.int .i64 1048576] (.agg #[.int .i64 kh, .int .u64 kl])) (D1 : Ct 36 #[.agg #[.int .i64 (fh b.m), .int .u64 (fl b.m)], .agg #[.int .i64 0, .int .u64 281474976710656], .agg #[.int .i64 kh, .int .u64 kl]] (.bool true)) (D2 : Ct 37 #[.agg #[.int .i64 (fh b.r), .int .u64 (fl b.r)], .int .i64 65536] (.bool false)) (w : World) :
    Calls Tryz.prog 18 #[.agg (bdc b).toArray] w fun e w' => e = .returned (.bool false) ∧ Below w.heap.size w w' := by
  have KI := Lib.hid DI; have K1 := Lib.hid D1; have K2 := Lib.hid D2
  have hbl := bdc_len b
  go_enter Tryz.func18, Tryz.ntmps18
  go_upto_region 1 with fail
  refine nw _ fun wx hwx => ?_
  have B0 : Hid (Bx 56 wx w.heap.size (bdc b)) := by rw [hwx]; exact Bx.new w 56 (bdc b).toArray
  have BX : Hid (Below w.heap.size w wx) := by rw [hwx]; exact bl_al (Below.refl _ _) _
  clear hwx hbl DI D1 D2
  obtain ⟨y0, y1, y2, y3, y4, y5, y6, y7, y8, y9, y10, y11, y12, y13, y14, y15, y16, y17, y18, y19⟩ := bod20 B0.out
  refine wp_region_held_drew (S := fun w' => Below wx.heap.size wx w') kr (Below.refl _ _).drew (fun hHeld => ?_)
  refine tk 0 hHeld ?_
  refine tk 1 hHeld ?_
  refine tk 2 hHeld ?_
  refine wpAnyH_ready (rs := [3]) kr (by simp) ?_
  refine AllReadyH.cons (o := _) ge (fun K hK => ?_) AllReadyH.nil
  go_simp
  (with_reducible refine (KI.out _).mono ?_); rintro e wc ⟨rfl, hb⟩
  refine hK.out _ _ (bl_trans hHeld hb) (fun hHeldN => ?_)
  clear hK K hHeld hb; have hHeld := hHeldN; clear hHeldN
  try simp only [Act.put, List.setIfInBounds_toArray, List.set_cons_zero, List.set_cons_succ]
  refine wpAnyH_ready (rs := [4]) kr (by simp) ?_
  refine AllReadyH.cons (o := _) ge (fun K hK => ?_) AllReadyH.nil
  go_simp
  (with_reducible refine (K1.out _).mono ?_); rintro e wc ⟨rfl, hb⟩
  refine hK.out _ _ (bl_trans hHeld hb) (fun hHeldN => ?_)
  clear hK K hHeld hb; have hHeld := hHeldN; clear hHeldN
  try simp only [Act.put, List.setIfInBounds_toArray, List.set_cons_zero, List.set_cons_succ]
  refine tk 5 hHeld ?_
  refine tk 6 hHeld ?_
  refine tk 7 hHeld ?_
  refine tk 8 hHeld ?_
  refine wpAnyH_ready (rs := [9]) kr (by simp) ?_
  refine AllReadyH.cons (o := _) ge (fun K hK => ?_) AllReadyH.nil
  go_simp
  (with_reducible refine (K2.out _).mono ?_); rintro e wc ⟨rfl, hb⟩
  refine hK.out _ _ (bl_trans hHeld hb) (fun hHeldN => ?_)
  clear hK K hHeld hb; have hHeld := hHeldN; clear hHeldN
  try simp only [Act.put, List.setIfInBounds_toArray, List.set_cons_zero, List.set_cons_succ]
  refine tk 10 hHeld ?_
  refine tk 11 hHeld ?_
  refine tk 12 hHeld ?_
  refine tko 13 hHeld ?_
  refine tko 14 hHeld ?_
  refine tko 15 hHeld ?_
  refine tko 16 hHeld ?_
  refine tko 17 hHeld ?_
  refine wpAnyH_ready (rs := [18]) kr (by simp) ?_
  refine AllReadyH.cons (o := _) ge (fun K hK => ?_) AllReadyH.nil
  go_simp
  refine hK.out _ _ hHeld (fun hHeldN => ?_)
  clear hK K hHeld; have hHeld := hHeldN; clear hHeldN
  try simp only [Act.put, List.setIfInBounds_toArray, List.set_cons_zero, List.set_cons_succ]
  refine tko 19 hHeld ?_
  refine tk 20 hHeld ?_
  refine tk 21 hHeld ?_
  refine tko 22 hHeld ?_
  refine tko 23 hHeld ?_
  refine wpAnyH_ready (rs := [24]) kr (by simp) ?_
  refine AllReadyH.cons (o := _) ge (fun K hK => ?_) AllReadyH.nil
  go_simp
  refine hK.out _ _ hHeld (fun hHeldN => ?_)
  clear hK K hHeld; have hHeld := hHeldN; clear hHeldN
  try simp only [Act.put, List.setIfInBounds_toArray, List.set_cons_zero, List.set_cons_succ]
  refine tko 25 hHeld ?_
  refine tk 26 hHeld ?_
  refine tk 27 hHeld ?_
  refine tko 28 hHeld ?_
  refine tko 29 hHeld ?_
  refine wpAnyH_ready (rs := [30]) kr (by simp) ?_
  refine AllReadyH.cons (o := _) ge (fun K hK => ?_) AllReadyH.nil
  go_simp
  refine hK.out _ _ hHeld (fun hHeldN => ?_)
  clear hK K hHeld; have hHeld := hHeldN; clear hHeldN
  try simp only [Act.put, List.setIfInBounds_toArray, List.set_cons_zero, List.set_cons_succ]
  refine tko 31 hHeld ?_
  refine tk 32 hHeld ?_
  refine tk 33 hHeld ?_
  refine tko 34 hHeld ?_
  refine tko 35 hHeld ?_
  refine wpAnyH_ready (rs := [36]) kr (by simp) ?_
  refine AllReadyH.cons (o := _) ge (fun K hK => ?_) AllReadyH.nil
  go_simp
  refine hK.out _ _ hHeld (fun hHeldN => ?_)
  clear hK K hHeld; have hHeld := hHeldN; clear hHeldN
  try simp only [Act.put, List.setIfInBounds_toArray, List.set_cons_zero, List.set_cons_succ]
  refine tko 37 hHeld ?_
  refine tk 38 hHeld ?_
  refine tk 39 hHeld ?_
  refine tko 40 hHeld ?_
  refine tko 41 hHeld ?_
  refine wpAnyH_ready (rs := [42]) kr (by simp) ?_
  refine AllReadyH.cons (o := _) ge (fun K hK => ?_) AllReadyH.nil
  go_simp
  refine hK.out _ _ hHeld (fun hHeldN => ?_)
  clear hK K hHeld; have hHeld := hHeldN; clear hHeldN
  try simp only [Act.put, List.setIfInBounds_toArray, List.set_cons_zero, List.set_cons_succ]
  refine tko 43 hHeld ?_
  refine tk 44 hHeld ?_
  refine wpAnyH_done kr ?_ _
  have W0 := hHeld
  clear hHeld
  go_wp2_with fail
  go_returns
  exact ⟨rfl, bl_trans BX.out W0⟩
set_option maxRecDepth 20000 in
set_option maxHeartbeats 16000000 in
theorem maybody_3 (b : Bod) (kh kl : Int) (DI : Ct 19 #[.int .i64 1048576] (.agg #[.int .i64 kh, .int .u64 kl])) (D1 : Ct 36 #[.agg #[.int .i64 (fh b.m), .int .u64 (fl b.m)], .agg #[.int .i64 0, .int .u64 281474976710656], .agg #[.int .i64 kh, .int .u64 kl]] (.bool true)) (D2 : Ct 37 #[.agg #[.int .i64 (fh b.r), .int .u64 (fl b.r)], .int .i64 65536] (.bool true)) (D3 : Ct 36 #[.agg #[.int .i64 (fh b.fu), .int .u64 (fl b.fu)], .agg #[.int .i64 0, .int .u64 0], .agg #[.int .i64 (fh b.m), .int .u64 (fl b.m)]] (.bool false)) (w : World) :
    Calls Tryz.prog 18 #[.agg (bdc b).toArray] w fun e w' => e = .returned (.bool false) ∧ Below w.heap.size w w' := by
  have KI := Lib.hid DI; have K1 := Lib.hid D1; have K2 := Lib.hid D2; have K3 := Lib.hid D3
  have hbl := bdc_len b
  go_enter Tryz.func18, Tryz.ntmps18
  go_upto_region 1 with fail
  refine nw _ fun wx hwx => ?_
  have B0 : Hid (Bx 56 wx w.heap.size (bdc b)) := by rw [hwx]; exact Bx.new w 56 (bdc b).toArray
  have BX : Hid (Below w.heap.size w wx) := by rw [hwx]; exact bl_al (Below.refl _ _) _
  clear hwx hbl DI D1 D2 D3
  obtain ⟨y0, y1, y2, y3, y4, y5, y6, y7, y8, y9, y10, y11, y12, y13, y14, y15, y16, y17, y18, y19⟩ := bod20 B0.out
  refine wp_region_held_drew (S := fun w' => Below wx.heap.size wx w') kr (Below.refl _ _).drew (fun hHeld => ?_)
  refine tk 0 hHeld ?_
  refine tk 1 hHeld ?_
  refine tk 2 hHeld ?_
  refine wpAnyH_ready (rs := [3]) kr (by simp) ?_
  refine AllReadyH.cons (o := _) ge (fun K hK => ?_) AllReadyH.nil
  go_simp
  (with_reducible refine (KI.out _).mono ?_); rintro e wc ⟨rfl, hb⟩
  refine hK.out _ _ (bl_trans hHeld hb) (fun hHeldN => ?_)
  clear hK K hHeld hb; have hHeld := hHeldN; clear hHeldN
  try simp only [Act.put, List.setIfInBounds_toArray, List.set_cons_zero, List.set_cons_succ]
  refine wpAnyH_ready (rs := [4]) kr (by simp) ?_
  refine AllReadyH.cons (o := _) ge (fun K hK => ?_) AllReadyH.nil
  go_simp
  (with_reducible refine (K1.out _).mono ?_); rintro e wc ⟨rfl, hb⟩
  refine hK.out _ _ (bl_trans hHeld hb) (fun hHeldN => ?_)
  clear hK K hHeld hb; have hHeld := hHeldN; clear hHeldN
  try simp only [Act.put, List.setIfInBounds_toArray, List.set_cons_zero, List.set_cons_succ]
  refine tk 5 hHeld ?_
  refine tk 6 hHeld ?_
  refine tk 7 hHeld ?_
  refine tk 8 hHeld ?_
  refine wpAnyH_ready (rs := [9]) kr (by simp) ?_
  refine AllReadyH.cons (o := _) ge (fun K hK => ?_) AllReadyH.nil
  go_simp
  (with_reducible refine (K2.out _).mono ?_); rintro e wc ⟨rfl, hb⟩
  refine hK.out _ _ (bl_trans hHeld hb) (fun hHeldN => ?_)
  clear hK K hHeld hb; have hHeld := hHeldN; clear hHeldN
  try simp only [Act.put, List.setIfInBounds_toArray, List.set_cons_zero, List.set_cons_succ]
  refine tk 10 hHeld ?_
  refine tk 11 hHeld ?_
  refine tk 12 hHeld ?_
  refine tk 13 hHeld ?_
  refine tk 14 hHeld ?_
  refine tk 15 hHeld ?_
  refine tk 16 hHeld ?_
  refine tk 17 hHeld ?_
  refine wpAnyH_ready (rs := [18]) kr (by simp) ?_
  refine AllReadyH.cons (o := _) ge (fun K hK => ?_) AllReadyH.nil
  go_simp
  (with_reducible refine (K3.out _).mono ?_); rintro e wc ⟨rfl, hb⟩
  refine hK.out _ _ (bl_trans hHeld hb) (fun hHeldN => ?_)
  clear hK K hHeld hb; have hHeld := hHeldN; clear hHeldN
  try simp only [Act.put, List.setIfInBounds_toArray, List.set_cons_zero, List.set_cons_succ]
  refine tk 19 hHeld ?_
  refine tk 20 hHeld ?_
  refine tk 21 hHeld ?_
  refine tko 22 hHeld ?_
  refine tko 23 hHeld ?_
  refine wpAnyH_ready (rs := [24]) kr (by simp) ?_
  refine AllReadyH.cons (o := _) ge (fun K hK => ?_) AllReadyH.nil
  go_simp
  refine hK.out _ _ hHeld (fun hHeldN => ?_)
  clear hK K hHeld; have hHeld := hHeldN; clear hHeldN
  try simp only [Act.put, List.setIfInBounds_toArray, List.set_cons_zero, List.set_cons_succ]
  refine tko 25 hHeld ?_
  refine tk 26 hHeld ?_
  refine tk 27 hHeld ?_
  refine tko 28 hHeld ?_
  refine tko 29 hHeld ?_
  refine wpAnyH_ready (rs := [30]) kr (by simp) ?_
  refine AllReadyH.cons (o := _) ge (fun K hK => ?_) AllReadyH.nil
  go_simp
  refine hK.out _ _ hHeld (fun hHeldN => ?_)
  clear hK K hHeld; have hHeld := hHeldN; clear hHeldN
  try simp only [Act.put, List.setIfInBounds_toArray, List.set_cons_zero, List.set_cons_succ]
  refine tko 31 hHeld ?_
  refine tk 32 hHeld ?_
  refine tk 33 hHeld ?_
  refine tko 34 hHeld ?_
  refine tko 35 hHeld ?_
  refine wpAnyH_ready (rs := [36]) kr (by simp) ?_
  refine AllReadyH.cons (o := _) ge (fun K hK => ?_) AllReadyH.nil
  go_simp
  refine hK.out _ _ hHeld (fun hHeldN => ?_)
  clear hK K hHeld; have hHeld := hHeldN; clear hHeldN
  try simp only [Act.put, List.setIfInBounds_toArray, List.set_cons_zero, List.set_cons_succ]
  refine tko 37 hHeld ?_
  refine tk 38 hHeld ?_
  refine tk 39 hHeld ?_
  refine tko 40 hHeld ?_
  refine tko 41 hHeld ?_
  refine wpAnyH_ready (rs := [42]) kr (by simp) ?_
  refine AllReadyH.cons (o := _) ge (fun K hK => ?_) AllReadyH.nil
  go_simp
  refine hK.out _ _ hHeld (fun hHeldN => ?_)
  clear hK K hHeld; have hHeld := hHeldN; clear hHeldN
  try simp only [Act.put, List.setIfInBounds_toArray, List.set_cons_zero, List.set_cons_succ]
  refine tko 43 hHeld ?_
  refine tk 44 hHeld ?_
  refine wpAnyH_done kr ?_ _
  have W0 := hHeld
  clear hHeld
  go_wp2_with fail
  go_returns
  exact ⟨rfl, bl_trans BX.out W0⟩
set_option maxRecDepth 20000 in
set_option maxHeartbeats 16000000 in
theorem maybody_4 (b : Bod) (kh kl : Int) (DI : Ct 19 #[.int .i64 1048576] (.agg #[.int .i64 kh, .int .u64 kl])) (D1 : Ct 36 #[.agg #[.int .i64 (fh b.m), .int .u64 (fl b.m)], .agg #[.int .i64 0, .int .u64 281474976710656], .agg #[.int .i64 kh, .int .u64 kl]] (.bool true)) (D2 : Ct 37 #[.agg #[.int .i64 (fh b.r), .int .u64 (fl b.r)], .int .i64 65536] (.bool true)) (D3 : Ct 36 #[.agg #[.int .i64 (fh b.fu), .int .u64 (fl b.fu)], .agg #[.int .i64 0, .int .u64 0], .agg #[.int .i64 (fh b.m), .int .u64 (fl b.m)]] (.bool true)) (D4 : Ct 37 #[.agg #[.int .i64 (fh b.ra), .int .u64 (fl b.ra)], .int .i64 65536] (.bool false)) (w : World) :
    Calls Tryz.prog 18 #[.agg (bdc b).toArray] w fun e w' => e = .returned (.bool false) ∧ Below w.heap.size w w' := by
  have KI := Lib.hid DI; have K1 := Lib.hid D1; have K2 := Lib.hid D2; have K3 := Lib.hid D3; have K4 := Lib.hid D4
  have hbl := bdc_len b
  go_enter Tryz.func18, Tryz.ntmps18
  go_upto_region 1 with fail
  refine nw _ fun wx hwx => ?_
  have B0 : Hid (Bx 56 wx w.heap.size (bdc b)) := by rw [hwx]; exact Bx.new w 56 (bdc b).toArray
  have BX : Hid (Below w.heap.size w wx) := by rw [hwx]; exact bl_al (Below.refl _ _) _
  clear hwx hbl DI D1 D2 D3 D4
  obtain ⟨y0, y1, y2, y3, y4, y5, y6, y7, y8, y9, y10, y11, y12, y13, y14, y15, y16, y17, y18, y19⟩ := bod20 B0.out
  refine wp_region_held_drew (S := fun w' => Below wx.heap.size wx w') kr (Below.refl _ _).drew (fun hHeld => ?_)
  refine tk 0 hHeld ?_
  refine tk 1 hHeld ?_
  refine tk 2 hHeld ?_
  refine wpAnyH_ready (rs := [3]) kr (by simp) ?_
  refine AllReadyH.cons (o := _) ge (fun K hK => ?_) AllReadyH.nil
  go_simp
  (with_reducible refine (KI.out _).mono ?_); rintro e wc ⟨rfl, hb⟩
  refine hK.out _ _ (bl_trans hHeld hb) (fun hHeldN => ?_)
  clear hK K hHeld hb; have hHeld := hHeldN; clear hHeldN
  try simp only [Act.put, List.setIfInBounds_toArray, List.set_cons_zero, List.set_cons_succ]
  refine wpAnyH_ready (rs := [4]) kr (by simp) ?_
  refine AllReadyH.cons (o := _) ge (fun K hK => ?_) AllReadyH.nil
  go_simp
  (with_reducible refine (K1.out _).mono ?_); rintro e wc ⟨rfl, hb⟩
  refine hK.out _ _ (bl_trans hHeld hb) (fun hHeldN => ?_)
  clear hK K hHeld hb; have hHeld := hHeldN; clear hHeldN
  try simp only [Act.put, List.setIfInBounds_toArray, List.set_cons_zero, List.set_cons_succ]
  refine tk 5 hHeld ?_
  refine tk 6 hHeld ?_
  refine tk 7 hHeld ?_
  refine tk 8 hHeld ?_
  refine wpAnyH_ready (rs := [9]) kr (by simp) ?_
  refine AllReadyH.cons (o := _) ge (fun K hK => ?_) AllReadyH.nil
  go_simp
  (with_reducible refine (K2.out _).mono ?_); rintro e wc ⟨rfl, hb⟩
  refine hK.out _ _ (bl_trans hHeld hb) (fun hHeldN => ?_)
  clear hK K hHeld hb; have hHeld := hHeldN; clear hHeldN
  try simp only [Act.put, List.setIfInBounds_toArray, List.set_cons_zero, List.set_cons_succ]
  refine tk 10 hHeld ?_
  refine tk 11 hHeld ?_
  refine tk 12 hHeld ?_
  refine tk 13 hHeld ?_
  refine tk 14 hHeld ?_
  refine tk 15 hHeld ?_
  refine tk 16 hHeld ?_
  refine tk 17 hHeld ?_
  refine wpAnyH_ready (rs := [18]) kr (by simp) ?_
  refine AllReadyH.cons (o := _) ge (fun K hK => ?_) AllReadyH.nil
  go_simp
  (with_reducible refine (K3.out _).mono ?_); rintro e wc ⟨rfl, hb⟩
  refine hK.out _ _ (bl_trans hHeld hb) (fun hHeldN => ?_)
  clear hK K hHeld hb; have hHeld := hHeldN; clear hHeldN
  try simp only [Act.put, List.setIfInBounds_toArray, List.set_cons_zero, List.set_cons_succ]
  refine tk 19 hHeld ?_
  refine tk 20 hHeld ?_
  refine tk 21 hHeld ?_
  refine tk 22 hHeld ?_
  refine tk 23 hHeld ?_
  refine wpAnyH_ready (rs := [24]) kr (by simp) ?_
  refine AllReadyH.cons (o := _) ge (fun K hK => ?_) AllReadyH.nil
  go_simp
  (with_reducible refine (K4.out _).mono ?_); rintro e wc ⟨rfl, hb⟩
  refine hK.out _ _ (bl_trans hHeld hb) (fun hHeldN => ?_)
  clear hK K hHeld hb; have hHeld := hHeldN; clear hHeldN
  try simp only [Act.put, List.setIfInBounds_toArray, List.set_cons_zero, List.set_cons_succ]
  refine tk 25 hHeld ?_
  refine tk 26 hHeld ?_
  refine tk 27 hHeld ?_
  refine tko 28 hHeld ?_
  refine tko 29 hHeld ?_
  refine wpAnyH_ready (rs := [30]) kr (by simp) ?_
  refine AllReadyH.cons (o := _) ge (fun K hK => ?_) AllReadyH.nil
  go_simp
  refine hK.out _ _ hHeld (fun hHeldN => ?_)
  clear hK K hHeld; have hHeld := hHeldN; clear hHeldN
  try simp only [Act.put, List.setIfInBounds_toArray, List.set_cons_zero, List.set_cons_succ]
  refine tko 31 hHeld ?_
  refine tk 32 hHeld ?_
  refine tk 33 hHeld ?_
  refine tko 34 hHeld ?_
  refine tko 35 hHeld ?_
  refine wpAnyH_ready (rs := [36]) kr (by simp) ?_
  refine AllReadyH.cons (o := _) ge (fun K hK => ?_) AllReadyH.nil
  go_simp
  refine hK.out _ _ hHeld (fun hHeldN => ?_)
  clear hK K hHeld; have hHeld := hHeldN; clear hHeldN
  try simp only [Act.put, List.setIfInBounds_toArray, List.set_cons_zero, List.set_cons_succ]
  refine tko 37 hHeld ?_
  refine tk 38 hHeld ?_
  refine tk 39 hHeld ?_
  refine tko 40 hHeld ?_
  refine tko 41 hHeld ?_
  refine wpAnyH_ready (rs := [42]) kr (by simp) ?_
  refine AllReadyH.cons (o := _) ge (fun K hK => ?_) AllReadyH.nil
  go_simp
  refine hK.out _ _ hHeld (fun hHeldN => ?_)
  clear hK K hHeld; have hHeld := hHeldN; clear hHeldN
  try simp only [Act.put, List.setIfInBounds_toArray, List.set_cons_zero, List.set_cons_succ]
  refine tko 43 hHeld ?_
  refine tk 44 hHeld ?_
  refine wpAnyH_done kr ?_ _
  have W0 := hHeld
  clear hHeld
  go_wp2_with fail
  go_returns
  exact ⟨rfl, bl_trans BX.out W0⟩
set_option maxRecDepth 20000 in
set_option maxHeartbeats 16000000 in
theorem maybody_5 (b : Bod) (kh kl : Int) (DI : Ct 19 #[.int .i64 1048576] (.agg #[.int .i64 kh, .int .u64 kl])) (D1 : Ct 36 #[.agg #[.int .i64 (fh b.m), .int .u64 (fl b.m)], .agg #[.int .i64 0, .int .u64 281474976710656], .agg #[.int .i64 kh, .int .u64 kl]] (.bool true)) (D2 : Ct 37 #[.agg #[.int .i64 (fh b.r), .int .u64 (fl b.r)], .int .i64 65536] (.bool true)) (D3 : Ct 36 #[.agg #[.int .i64 (fh b.fu), .int .u64 (fl b.fu)], .agg #[.int .i64 0, .int .u64 0], .agg #[.int .i64 (fh b.m), .int .u64 (fl b.m)]] (.bool true)) (D4 : Ct 37 #[.agg #[.int .i64 (fh b.ra), .int .u64 (fl b.ra)], .int .i64 65536] (.bool true)) (D5 : Ct 37 #[.agg #[.int .i64 (fh b.ex), .int .u64 (fl b.ex)], .int .i64 65536] (.bool false)) (w : World) :
    Calls Tryz.prog 18 #[.agg (bdc b).toArray] w fun e w' => e = .returned (.bool false) ∧ Below w.heap.size w w' := by
  have KI := Lib.hid DI; have K1 := Lib.hid D1; have K2 := Lib.hid D2; have K3 := Lib.hid D3; have K4 := Lib.hid D4; have K5 := Lib.hid D5
  have hbl := bdc_len b
  go_enter Tryz.func18, Tryz.ntmps18
  go_upto_region 1 with fail
  refine nw _ fun wx hwx => ?_
  have B0 : Hid (Bx 56 wx w.heap.size (bdc b)) := by rw [hwx]; exact Bx.new w 56 (bdc b).toArray
  have BX : Hid (Below w.heap.size w wx) := by rw [hwx]; exact bl_al (Below.refl _ _) _
  clear hwx hbl DI D1 D2 D3 D4 D5
  obtain ⟨y0, y1, y2, y3, y4, y5, y6, y7, y8, y9, y10, y11, y12, y13, y14, y15, y16, y17, y18, y19⟩ := bod20 B0.out
  refine wp_region_held_drew (S := fun w' => Below wx.heap.size wx w') kr (Below.refl _ _).drew (fun hHeld => ?_)
  refine tk 0 hHeld ?_
  refine tk 1 hHeld ?_
  refine tk 2 hHeld ?_
  refine wpAnyH_ready (rs := [3]) kr (by simp) ?_
  refine AllReadyH.cons (o := _) ge (fun K hK => ?_) AllReadyH.nil
  go_simp
  (with_reducible refine (KI.out _).mono ?_); rintro e wc ⟨rfl, hb⟩
  refine hK.out _ _ (bl_trans hHeld hb) (fun hHeldN => ?_)
  clear hK K hHeld hb; have hHeld := hHeldN; clear hHeldN
  try simp only [Act.put, List.setIfInBounds_toArray, List.set_cons_zero, List.set_cons_succ]
  refine wpAnyH_ready (rs := [4]) kr (by simp) ?_
  refine AllReadyH.cons (o := _) ge (fun K hK => ?_) AllReadyH.nil
  go_simp
  (with_reducible refine (K1.out _).mono ?_); rintro e wc ⟨rfl, hb⟩
  refine hK.out _ _ (bl_trans hHeld hb) (fun hHeldN => ?_)
  clear hK K hHeld hb; have hHeld := hHeldN; clear hHeldN
  try simp only [Act.put, List.setIfInBounds_toArray, List.set_cons_zero, List.set_cons_succ]
  refine tk 5 hHeld ?_
  refine tk 6 hHeld ?_
  refine tk 7 hHeld ?_
  refine tk 8 hHeld ?_
  refine wpAnyH_ready (rs := [9]) kr (by simp) ?_
  refine AllReadyH.cons (o := _) ge (fun K hK => ?_) AllReadyH.nil
  go_simp
  (with_reducible refine (K2.out _).mono ?_); rintro e wc ⟨rfl, hb⟩
  refine hK.out _ _ (bl_trans hHeld hb) (fun hHeldN => ?_)
  clear hK K hHeld hb; have hHeld := hHeldN; clear hHeldN
  try simp only [Act.put, List.setIfInBounds_toArray, List.set_cons_zero, List.set_cons_succ]
  refine tk 10 hHeld ?_
  refine tk 11 hHeld ?_
  refine tk 12 hHeld ?_
  refine tk 13 hHeld ?_
  refine tk 14 hHeld ?_
  refine tk 15 hHeld ?_
  refine tk 16 hHeld ?_
  refine tk 17 hHeld ?_
  refine wpAnyH_ready (rs := [18]) kr (by simp) ?_
  refine AllReadyH.cons (o := _) ge (fun K hK => ?_) AllReadyH.nil
  go_simp
  (with_reducible refine (K3.out _).mono ?_); rintro e wc ⟨rfl, hb⟩
  refine hK.out _ _ (bl_trans hHeld hb) (fun hHeldN => ?_)
  clear hK K hHeld hb; have hHeld := hHeldN; clear hHeldN
  try simp only [Act.put, List.setIfInBounds_toArray, List.set_cons_zero, List.set_cons_succ]
  refine tk 19 hHeld ?_
  refine tk 20 hHeld ?_
  refine tk 21 hHeld ?_
  refine tk 22 hHeld ?_
  refine tk 23 hHeld ?_
  refine wpAnyH_ready (rs := [24]) kr (by simp) ?_
  refine AllReadyH.cons (o := _) ge (fun K hK => ?_) AllReadyH.nil
  go_simp
  (with_reducible refine (K4.out _).mono ?_); rintro e wc ⟨rfl, hb⟩
  refine hK.out _ _ (bl_trans hHeld hb) (fun hHeldN => ?_)
  clear hK K hHeld hb; have hHeld := hHeldN; clear hHeldN
  try simp only [Act.put, List.setIfInBounds_toArray, List.set_cons_zero, List.set_cons_succ]
  refine tk 25 hHeld ?_
  refine tk 26 hHeld ?_
  refine tk 27 hHeld ?_
  refine tk 28 hHeld ?_
  refine tk 29 hHeld ?_
  refine wpAnyH_ready (rs := [30]) kr (by simp) ?_
  refine AllReadyH.cons (o := _) ge (fun K hK => ?_) AllReadyH.nil
  go_simp
  (with_reducible refine (K5.out _).mono ?_); rintro e wc ⟨rfl, hb⟩
  refine hK.out _ _ (bl_trans hHeld hb) (fun hHeldN => ?_)
  clear hK K hHeld hb; have hHeld := hHeldN; clear hHeldN
  try simp only [Act.put, List.setIfInBounds_toArray, List.set_cons_zero, List.set_cons_succ]
  refine tk 31 hHeld ?_
  refine tk 32 hHeld ?_
  refine tk 33 hHeld ?_
  refine tko 34 hHeld ?_
  refine tko 35 hHeld ?_
  refine wpAnyH_ready (rs := [36]) kr (by simp) ?_
  refine AllReadyH.cons (o := _) ge (fun K hK => ?_) AllReadyH.nil
  go_simp
  refine hK.out _ _ hHeld (fun hHeldN => ?_)
  clear hK K hHeld; have hHeld := hHeldN; clear hHeldN
  try simp only [Act.put, List.setIfInBounds_toArray, List.set_cons_zero, List.set_cons_succ]
  refine tko 37 hHeld ?_
  refine tk 38 hHeld ?_
  refine tk 39 hHeld ?_
  refine tko 40 hHeld ?_
  refine tko 41 hHeld ?_
  refine wpAnyH_ready (rs := [42]) kr (by simp) ?_
  refine AllReadyH.cons (o := _) ge (fun K hK => ?_) AllReadyH.nil
  go_simp
  refine hK.out _ _ hHeld (fun hHeldN => ?_)
  clear hK K hHeld; have hHeld := hHeldN; clear hHeldN
  try simp only [Act.put, List.setIfInBounds_toArray, List.set_cons_zero, List.set_cons_succ]
  refine tko 43 hHeld ?_
  refine tk 44 hHeld ?_
  refine wpAnyH_done kr ?_ _
  have W0 := hHeld
  clear hHeld
  go_wp2_with fail
  go_returns
  exact ⟨rfl, bl_trans BX.out W0⟩
set_option maxRecDepth 20000 in
set_option maxHeartbeats 16000000 in
theorem maybody_6 (b : Bod) (kh kl : Int) (DI : Ct 19 #[.int .i64 1048576] (.agg #[.int .i64 kh, .int .u64 kl])) (D1 : Ct 36 #[.agg #[.int .i64 (fh b.m), .int .u64 (fl b.m)], .agg #[.int .i64 0, .int .u64 281474976710656], .agg #[.int .i64 kh, .int .u64 kl]] (.bool true)) (D2 : Ct 37 #[.agg #[.int .i64 (fh b.r), .int .u64 (fl b.r)], .int .i64 65536] (.bool true)) (D3 : Ct 36 #[.agg #[.int .i64 (fh b.fu), .int .u64 (fl b.fu)], .agg #[.int .i64 0, .int .u64 0], .agg #[.int .i64 (fh b.m), .int .u64 (fl b.m)]] (.bool true)) (D4 : Ct 37 #[.agg #[.int .i64 (fh b.ra), .int .u64 (fl b.ra)], .int .i64 65536] (.bool true)) (D5 : Ct 37 #[.agg #[.int .i64 (fh b.ex), .int .u64 (fl b.ex)], .int .i64 65536] (.bool true)) (D6 : Ct 38 #[.agg #[.int .i64 (fh b.x), .int .u64 (fl b.x), .int .i64 (fh b.y), .int .u64 (fl b.y)]] (.bool false)) (w : World) :
    Calls Tryz.prog 18 #[.agg (bdc b).toArray] w fun e w' => e = .returned (.bool false) ∧ Below w.heap.size w w' := by
  have KI := Lib.hid DI; have K1 := Lib.hid D1; have K2 := Lib.hid D2; have K3 := Lib.hid D3; have K4 := Lib.hid D4; have K5 := Lib.hid D5; have K6 := Lib.hid D6
  have hbl := bdc_len b
  go_enter Tryz.func18, Tryz.ntmps18
  go_upto_region 1 with fail
  refine nw _ fun wx hwx => ?_
  have B0 : Hid (Bx 56 wx w.heap.size (bdc b)) := by rw [hwx]; exact Bx.new w 56 (bdc b).toArray
  have BX : Hid (Below w.heap.size w wx) := by rw [hwx]; exact bl_al (Below.refl _ _) _
  clear hwx hbl DI D1 D2 D3 D4 D5 D6
  obtain ⟨y0, y1, y2, y3, y4, y5, y6, y7, y8, y9, y10, y11, y12, y13, y14, y15, y16, y17, y18, y19⟩ := bod20 B0.out
  refine wp_region_held_drew (S := fun w' => Below wx.heap.size wx w') kr (Below.refl _ _).drew (fun hHeld => ?_)
  refine tk 0 hHeld ?_
  refine tk 1 hHeld ?_
  refine tk 2 hHeld ?_
  refine wpAnyH_ready (rs := [3]) kr (by simp) ?_
  refine AllReadyH.cons (o := _) ge (fun K hK => ?_) AllReadyH.nil
  go_simp
  (with_reducible refine (KI.out _).mono ?_); rintro e wc ⟨rfl, hb⟩
  refine hK.out _ _ (bl_trans hHeld hb) (fun hHeldN => ?_)
  clear hK K hHeld hb; have hHeld := hHeldN; clear hHeldN
  try simp only [Act.put, List.setIfInBounds_toArray, List.set_cons_zero, List.set_cons_succ]
  refine wpAnyH_ready (rs := [4]) kr (by simp) ?_
  refine AllReadyH.cons (o := _) ge (fun K hK => ?_) AllReadyH.nil
  go_simp
  (with_reducible refine (K1.out _).mono ?_); rintro e wc ⟨rfl, hb⟩
  refine hK.out _ _ (bl_trans hHeld hb) (fun hHeldN => ?_)
  clear hK K hHeld hb; have hHeld := hHeldN; clear hHeldN
  try simp only [Act.put, List.setIfInBounds_toArray, List.set_cons_zero, List.set_cons_succ]
  refine tk 5 hHeld ?_
  refine tk 6 hHeld ?_
  refine tk 7 hHeld ?_
  refine tk 8 hHeld ?_
  refine wpAnyH_ready (rs := [9]) kr (by simp) ?_
  refine AllReadyH.cons (o := _) ge (fun K hK => ?_) AllReadyH.nil
  go_simp
  (with_reducible refine (K2.out _).mono ?_); rintro e wc ⟨rfl, hb⟩
  refine hK.out _ _ (bl_trans hHeld hb) (fun hHeldN => ?_)
  clear hK K hHeld hb; have hHeld := hHeldN; clear hHeldN
  try simp only [Act.put, List.setIfInBounds_toArray, List.set_cons_zero, List.set_cons_succ]
  refine tk 10 hHeld ?_
  refine tk 11 hHeld ?_
  refine tk 12 hHeld ?_
  refine tk 13 hHeld ?_
  refine tk 14 hHeld ?_
  refine tk 15 hHeld ?_
  refine tk 16 hHeld ?_
  refine tk 17 hHeld ?_
  refine wpAnyH_ready (rs := [18]) kr (by simp) ?_
  refine AllReadyH.cons (o := _) ge (fun K hK => ?_) AllReadyH.nil
  go_simp
  (with_reducible refine (K3.out _).mono ?_); rintro e wc ⟨rfl, hb⟩
  refine hK.out _ _ (bl_trans hHeld hb) (fun hHeldN => ?_)
  clear hK K hHeld hb; have hHeld := hHeldN; clear hHeldN
  try simp only [Act.put, List.setIfInBounds_toArray, List.set_cons_zero, List.set_cons_succ]
  refine tk 19 hHeld ?_
  refine tk 20 hHeld ?_
  refine tk 21 hHeld ?_
  refine tk 22 hHeld ?_
  refine tk 23 hHeld ?_
  refine wpAnyH_ready (rs := [24]) kr (by simp) ?_
  refine AllReadyH.cons (o := _) ge (fun K hK => ?_) AllReadyH.nil
  go_simp
  (with_reducible refine (K4.out _).mono ?_); rintro e wc ⟨rfl, hb⟩
  refine hK.out _ _ (bl_trans hHeld hb) (fun hHeldN => ?_)
  clear hK K hHeld hb; have hHeld := hHeldN; clear hHeldN
  try simp only [Act.put, List.setIfInBounds_toArray, List.set_cons_zero, List.set_cons_succ]
  refine tk 25 hHeld ?_
  refine tk 26 hHeld ?_
  refine tk 27 hHeld ?_
  refine tk 28 hHeld ?_
  refine tk 29 hHeld ?_
  refine wpAnyH_ready (rs := [30]) kr (by simp) ?_
  refine AllReadyH.cons (o := _) ge (fun K hK => ?_) AllReadyH.nil
  go_simp
  (with_reducible refine (K5.out _).mono ?_); rintro e wc ⟨rfl, hb⟩
  refine hK.out _ _ (bl_trans hHeld hb) (fun hHeldN => ?_)
  clear hK K hHeld hb; have hHeld := hHeldN; clear hHeldN
  try simp only [Act.put, List.setIfInBounds_toArray, List.set_cons_zero, List.set_cons_succ]
  refine tk 31 hHeld ?_
  refine tk 32 hHeld ?_
  refine tk 33 hHeld ?_
  refine tk 34 hHeld ?_
  refine tk 35 hHeld ?_
  refine wpAnyH_ready (rs := [36]) kr (by simp) ?_
  refine AllReadyH.cons (o := _) ge (fun K hK => ?_) AllReadyH.nil
  go_simp
  (with_reducible refine (K6.out _).mono ?_); rintro e wc ⟨rfl, hb⟩
  refine hK.out _ _ (bl_trans hHeld hb) (fun hHeldN => ?_)
  clear hK K hHeld hb; have hHeld := hHeldN; clear hHeldN
  try simp only [Act.put, List.setIfInBounds_toArray, List.set_cons_zero, List.set_cons_succ]
  refine tk 37 hHeld ?_
  refine tk 38 hHeld ?_
  refine tk 39 hHeld ?_
  refine tko 40 hHeld ?_
  refine tko 41 hHeld ?_
  refine wpAnyH_ready (rs := [42]) kr (by simp) ?_
  refine AllReadyH.cons (o := _) ge (fun K hK => ?_) AllReadyH.nil
  go_simp
  refine hK.out _ _ hHeld (fun hHeldN => ?_)
  clear hK K hHeld; have hHeld := hHeldN; clear hHeldN
  try simp only [Act.put, List.setIfInBounds_toArray, List.set_cons_zero, List.set_cons_succ]
  refine tko 43 hHeld ?_
  refine tk 44 hHeld ?_
  refine wpAnyH_done kr ?_ _
  have W0 := hHeld
  clear hHeld
  go_wp2_with fail
  go_returns
  exact ⟨rfl, bl_trans BX.out W0⟩
set_option maxRecDepth 20000 in
set_option maxHeartbeats 16000000 in
theorem maybody_7 (b : Bod) (kh kl : Int) (DI : Ct 19 #[.int .i64 1048576] (.agg #[.int .i64 kh, .int .u64 kl])) (D1 : Ct 36 #[.agg #[.int .i64 (fh b.m), .int .u64 (fl b.m)], .agg #[.int .i64 0, .int .u64 281474976710656], .agg #[.int .i64 kh, .int .u64 kl]] (.bool true)) (D2 : Ct 37 #[.agg #[.int .i64 (fh b.r), .int .u64 (fl b.r)], .int .i64 65536] (.bool true)) (D3 : Ct 36 #[.agg #[.int .i64 (fh b.fu), .int .u64 (fl b.fu)], .agg #[.int .i64 0, .int .u64 0], .agg #[.int .i64 (fh b.m), .int .u64 (fl b.m)]] (.bool true)) (D4 : Ct 37 #[.agg #[.int .i64 (fh b.ra), .int .u64 (fl b.ra)], .int .i64 65536] (.bool true)) (D5 : Ct 37 #[.agg #[.int .i64 (fh b.ex), .int .u64 (fl b.ex)], .int .i64 65536] (.bool true)) (D6 : Ct 38 #[.agg #[.int .i64 (fh b.x), .int .u64 (fl b.x), .int .i64 (fh b.y), .int .u64 (fl b.y)]] (.bool true)) (D7 : Ct 38 #[.agg #[.int .i64 (fh b.px), .int .u64 (fl b.px), .int .i64 (fh b.py), .int .u64 (fl b.py)]] (.bool false)) (w : World) :
    Calls Tryz.prog 18 #[.agg (bdc b).toArray] w fun e w' => e = .returned (.bool false) ∧ Below w.heap.size w w' := by
  have KI := Lib.hid DI; have K1 := Lib.hid D1; have K2 := Lib.hid D2; have K3 := Lib.hid D3; have K4 := Lib.hid D4; have K5 := Lib.hid D5; have K6 := Lib.hid D6; have K7 := Lib.hid D7
  have hbl := bdc_len b
  go_enter Tryz.func18, Tryz.ntmps18
  go_upto_region 1 with fail
  refine nw _ fun wx hwx => ?_
  have B0 : Hid (Bx 56 wx w.heap.size (bdc b)) := by rw [hwx]; exact Bx.new w 56 (bdc b).toArray
  have BX : Hid (Below w.heap.size w wx) := by rw [hwx]; exact bl_al (Below.refl _ _) _
  clear hwx hbl DI D1 D2 D3 D4 D5 D6 D7
  obtain ⟨y0, y1, y2, y3, y4, y5, y6, y7, y8, y9, y10, y11, y12, y13, y14, y15, y16, y17, y18, y19⟩ := bod20 B0.out
  refine wp_region_held_drew (S := fun w' => Below wx.heap.size wx w') kr (Below.refl _ _).drew (fun hHeld => ?_)
  refine tk 0 hHeld ?_
  refine tk 1 hHeld ?_
  refine tk 2 hHeld ?_
  refine wpAnyH_ready (rs := [3]) kr (by simp) ?_
  refine AllReadyH.cons (o := _) ge (fun K hK => ?_) AllReadyH.nil
  go_simp
  (with_reducible refine (KI.out _).mono ?_); rintro e wc ⟨rfl, hb⟩
  refine hK.out _ _ (bl_trans hHeld hb) (fun hHeldN => ?_)
  clear hK K hHeld hb; have hHeld := hHeldN; clear hHeldN
  try simp only [Act.put, List.setIfInBounds_toArray, List.set_cons_zero, List.set_cons_succ]
  refine wpAnyH_ready (rs := [4]) kr (by simp) ?_
  refine AllReadyH.cons (o := _) ge (fun K hK => ?_) AllReadyH.nil
  go_simp
  (with_reducible refine (K1.out _).mono ?_); rintro e wc ⟨rfl, hb⟩
  refine hK.out _ _ (bl_trans hHeld hb) (fun hHeldN => ?_)
  clear hK K hHeld hb; have hHeld := hHeldN; clear hHeldN
  try simp only [Act.put, List.setIfInBounds_toArray, List.set_cons_zero, List.set_cons_succ]
  refine tk 5 hHeld ?_
  refine tk 6 hHeld ?_
  refine tk 7 hHeld ?_
  refine tk 8 hHeld ?_
  refine wpAnyH_ready (rs := [9]) kr (by simp) ?_
  refine AllReadyH.cons (o := _) ge (fun K hK => ?_) AllReadyH.nil
  go_simp
  (with_reducible refine (K2.out _).mono ?_); rintro e wc ⟨rfl, hb⟩
  refine hK.out _ _ (bl_trans hHeld hb) (fun hHeldN => ?_)
  clear hK K hHeld hb; have hHeld := hHeldN; clear hHeldN
  try simp only [Act.put, List.setIfInBounds_toArray, List.set_cons_zero, List.set_cons_succ]
  refine tk 10 hHeld ?_
  refine tk 11 hHeld ?_
  refine tk 12 hHeld ?_
  refine tk 13 hHeld ?_
  refine tk 14 hHeld ?_
  refine tk 15 hHeld ?_
  refine tk 16 hHeld ?_
  refine tk 17 hHeld ?_
  refine wpAnyH_ready (rs := [18]) kr (by simp) ?_
  refine AllReadyH.cons (o := _) ge (fun K hK => ?_) AllReadyH.nil
  go_simp
  (with_reducible refine (K3.out _).mono ?_); rintro e wc ⟨rfl, hb⟩
  refine hK.out _ _ (bl_trans hHeld hb) (fun hHeldN => ?_)
  clear hK K hHeld hb; have hHeld := hHeldN; clear hHeldN
  try simp only [Act.put, List.setIfInBounds_toArray, List.set_cons_zero, List.set_cons_succ]
  refine tk 19 hHeld ?_
  refine tk 20 hHeld ?_
  refine tk 21 hHeld ?_
  refine tk 22 hHeld ?_
  refine tk 23 hHeld ?_
  refine wpAnyH_ready (rs := [24]) kr (by simp) ?_
  refine AllReadyH.cons (o := _) ge (fun K hK => ?_) AllReadyH.nil
  go_simp
  (with_reducible refine (K4.out _).mono ?_); rintro e wc ⟨rfl, hb⟩
  refine hK.out _ _ (bl_trans hHeld hb) (fun hHeldN => ?_)
  clear hK K hHeld hb; have hHeld := hHeldN; clear hHeldN
  try simp only [Act.put, List.setIfInBounds_toArray, List.set_cons_zero, List.set_cons_succ]
  refine tk 25 hHeld ?_
  refine tk 26 hHeld ?_
  refine tk 27 hHeld ?_
  refine tk 28 hHeld ?_
  refine tk 29 hHeld ?_
  refine wpAnyH_ready (rs := [30]) kr (by simp) ?_
  refine AllReadyH.cons (o := _) ge (fun K hK => ?_) AllReadyH.nil
  go_simp
  (with_reducible refine (K5.out _).mono ?_); rintro e wc ⟨rfl, hb⟩
  refine hK.out _ _ (bl_trans hHeld hb) (fun hHeldN => ?_)
  clear hK K hHeld hb; have hHeld := hHeldN; clear hHeldN
  try simp only [Act.put, List.setIfInBounds_toArray, List.set_cons_zero, List.set_cons_succ]
  refine tk 31 hHeld ?_
  refine tk 32 hHeld ?_
  refine tk 33 hHeld ?_
  refine tk 34 hHeld ?_
  refine tk 35 hHeld ?_
  refine wpAnyH_ready (rs := [36]) kr (by simp) ?_
  refine AllReadyH.cons (o := _) ge (fun K hK => ?_) AllReadyH.nil
  go_simp
  (with_reducible refine (K6.out _).mono ?_); rintro e wc ⟨rfl, hb⟩
  refine hK.out _ _ (bl_trans hHeld hb) (fun hHeldN => ?_)
  clear hK K hHeld hb; have hHeld := hHeldN; clear hHeldN
  try simp only [Act.put, List.setIfInBounds_toArray, List.set_cons_zero, List.set_cons_succ]
  refine tk 37 hHeld ?_
  refine tk 38 hHeld ?_
  refine tk 39 hHeld ?_
  refine tk 40 hHeld ?_
  refine tk 41 hHeld ?_
  refine wpAnyH_ready (rs := [42]) kr (by simp) ?_
  refine AllReadyH.cons (o := _) ge (fun K hK => ?_) AllReadyH.nil
  go_simp
  (with_reducible refine (K7.out _).mono ?_); rintro e wc ⟨rfl, hb⟩
  refine hK.out _ _ (bl_trans hHeld hb) (fun hHeldN => ?_)
  clear hK K hHeld hb; have hHeld := hHeldN; clear hHeldN
  try simp only [Act.put, List.setIfInBounds_toArray, List.set_cons_zero, List.set_cons_succ]
  refine tk 43 hHeld ?_
  refine tk 44 hHeld ?_
  refine wpAnyH_done kr ?_ _
  have W0 := hHeld
  clear hHeld
  go_wp2_with fail
  go_returns
  exact ⟨rfl, bl_trans BX.out W0⟩
end Go.Proofs.YtjilnmpajhifcaaGreat
