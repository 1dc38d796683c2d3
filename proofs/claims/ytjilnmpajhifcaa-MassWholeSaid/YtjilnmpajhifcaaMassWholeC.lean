/- MassWhole, from what Centre comes to. -/
import Derived.Test.YtjilnmpajhifcaaMassLaw
import Derived.Test.YtjilnmpajhifcaaMassMid
import Derived.Test.YtjilnmpajhifcaaBoxes
import Derived.Test.YtjilnmpajhifcaaTk
namespace Go.Proofs.Ytjilnmpajhifcaa
open Go.RowKit
set_option maxRecDepth 20000 in
set_option maxHeartbeats 16000000 in
theorem massWhole_core (N0 : Ct 11 #[.int .i64 0] (.int .i64 0)) (N1 : Ct 11 #[.int .i64 1] (.int .i64 1))
    (m a b c d : Int) (m0 : 0 ≤ m) (m1 : m < 256) (a0 : -32768 ≤ a) (a1 : a < 32768) (b0 : -32768 ≤ b) (b1 : b < 32768) (c0 : -32768 ≤ c) (c1 : c < 32768) (d0 : -32768 ≤ d) (d1 : d < 32768) (k ia ib ic id_ : Int)
    (I0 : Ct 12 #[.int .i64 (1 + m)] (.agg #[.int .i64 (fh k), .int .u64 (fl k)])) (IA : Ct 12 #[.int .i64 a] (.agg #[.int .i64 (fh ia), .int .u64 (fl ia)])) (IB : Ct 12 #[.int .i64 b] (.agg #[.int .i64 (fh ib), .int .u64 (fl ib)]))
    (IC : Ct 12 #[.int .i64 c] (.agg #[.int .i64 (fh ic), .int .u64 (fl ic)])) (ID : Ct 12 #[.int .i64 d] (.agg #[.int .i64 (fh id_), .int .u64 (fl id_)]))
    (X Y : Bod) (hX : X = ⟨k, 0, ia, ib, 0, 0, 0, 0, 0, 0, 0⟩) (hY : Y = ⟨k, 0, ic, id_, 0, 0, 0, 0, 0, 0, 0⟩) (s p q u1 u2 : Int)
    (D2 : ∀ (A : Option Addr) (c : Nat) (W : World), Bds W A 2 [X, Y] → Calls Try.prog 7 #[.slice A 2 c] W fun e w' => e = .returned (.tuple #[.agg #[.int .i64 (fh s), .int .u64 (fl s)], .agg #[.int .i64 (fh p), .int .u64 (fl p), .int .i64 (fh q), .int .u64 (fl q)], .int .i64 0]) ∧ Below W.heap.size W w')
    (D1 : ∀ (A : Option Addr) (c : Nat) (W : World), Bds W A 1 [X] → Calls Try.prog 7 #[.slice A 1 c] W fun e w' => e = .returned (.tuple #[.agg #[.int .i64 (fh k), .int .u64 (fl k)], .agg #[.int .i64 (fh ia), .int .u64 (fl ia), .int .i64 (fh ib), .int .u64 (fl ib)], .int .i64 0]) ∧ Below W.heap.size W w')
    (DN : CenNT) (IS : Ct 12 #[.int .i64 (a + c)] (.agg #[.int .i64 (fh u1), .int .u64 (fl u1)])) (IT : Ct 12 #[.int .i64 (b + d)] (.agg #[.int .i64 (fh u2), .int .u64 (fl u2)])) (H1 : Ct 13 #[.agg #[.int .i64 (fh u1), .int .u64 (fl u1)]] (.agg #[.int .i64 (fh p), .int .u64 (fl p)])) (H2 : Ct 13 #[.agg #[.int .i64 (fh u2), .int .u64 (fl u2)]] (.agg #[.int .i64 (fh q), .int .u64 (fl q)]))
    (AD : Ct 10 #[.agg #[.int .i64 (fh k), .int .u64 (fl k)], .agg #[.int .i64 (fh k), .int .u64 (fl k)]] (.agg #[.int .i64 (fh s), .int .u64 (fl s), .int .i64 0])) (KW : ∀ w : World, Calls Try.prog 6 #[] w fun e w' => e = .returned (.bool true) ∧ Below w.heap.size w w') (w : World) :
    Calls Try.prog 4 #[.int .u8 m, .int .i16 a, .int .i16 b, .int .i16 c, .int .i16 d] w fun e w' => e = .returned (.bool true) ∧ Below w.heap.size w w' := by
  have K0 := Lib.hid N0; have K1 := Lib.hid N1; have Q0 := Lib.hid I0; have QA := Lib.hid IA; have QB := Lib.hid IB; have QC := Lib.hid IC; have QD := Lib.hid ID; have E2 := Lib.hid D2; have E1 := Lib.hid D1; have EN := Lib.hid DN; have QS := Lib.hid IS; have QT := Lib.hid IT; have QH1 := Lib.hid H1; have QH2 := Lib.hid H2; have QAD := Lib.hid AD; have QW := Lib.hid KW; have HX := Lib.hid hX; have HY := Lib.hid hY
  have wm : IntKind.i64.wrap m = m := by rw [IntWalk.i64_in _ (by omega)]
  have wk : IntKind.i64.wrap (1 + m) = 1 + m := by rw [IntWalk.i64_in _ (by omega)]
  have wa : IntKind.i64.wrap a = a := by rw [IntWalk.i64_in _ (by omega)]
  have wb : IntKind.i64.wrap b = b := by rw [IntWalk.i64_in _ (by omega)]
  have wc : IntKind.i64.wrap c = c := by rw [IntWalk.i64_in _ (by omega)]
  have wd : IntKind.i64.wrap d = d := by rw [IntWalk.i64_in _ (by omega)]
  have hsz : (Try.prog.info? 32).map (·.size) = some 20 := by kernel_rfl
  have ws : IntKind.i64.wrap (a + c) = a + c := by rw [IntWalk.i64_in _ (by omega)]
  have wt : IntKind.i64.wrap (b + d) = b + d := by rw [IntWalk.i64_in _ (by omega)]
  clear N0 N1 I0 IA IB IC ID D2 D1 DN IS IT H1 H2 AD KW hX hY
  go_enter Try.func4, Try.ntmps4
  go_wp2_with fail
  refine (Q0.out _).mono ?_
  rintro e w1 ⟨rfl, hb1⟩
  have B1 := Lib.hid hb1
  clear hb1
  go_upto_region 2 with fail
  refine nw _ fun wx hwx => ?_
  have KX : Hid (Bx 28 wx w1.heap.size [.int .i64 (fh k), .int .u64 (fl k)]) := by rw [hwx]; exact Bx.new _ _ _
  have BX : Hid (Below w.heap.size w wx) := by rw [hwx]; exact bl_al B1.out _
  have hkb : Hid (w.heap.size ≤ w1.heap.size) := B1.out.size
  generalize w1.heap.size = kb at *
  clear hwx B1
  have f0 := stays (KX.out.cell (j := 0) rfl) KX.out.lt; have f1 := stays (KX.out.cell (j := 1) rfl) KX.out.lt
  go_cut [12] (fun p wz => ∃ g, p = .pointer (some ⟨g, 0, none⟩) ∧ wx.heap.size ≤ g ∧ Bx 32 wz g [.int .i64 (fh k), .int .u64 (fl k), .int .i64 0, .int .u64 0, .int .i64 (fh ia), .int .u64 (fl ia), .int .i64 (fh ib), .int .u64 (fl ib), .int .i64 0, .int .u64 0, .int .i64 0, .int .u64 0, .int .i64 0, .int .u64 0, .int .i64 0, .int .u64 0, .int .i64 0, .int .u64 0, .int .i64 0, .int .i64 0] ∧ Below wx.heap.size wx wz)
  case first =>
    have hone : Hid (∀ v ∈ ([.int .i64 (fh k), .int .u64 (fl k), .int .i64 0, .int .u64 0, .int .i64 (fh ia), .int .u64 (fl ia), .int .i64 (fh ib), .int .u64 (fl ib), .int .i64 0, .int .u64 0, .int .i64 0, .int .u64 0, .int .i64 0, .int .u64 0, .int .i64 0, .int .u64 0, .int .i64 0, .int .u64 0, .int .i64 0, .int .i64 0] : List Value), v.oneCell' = true) := by
      intro v hv
      simp only [List.mem_cons, List.not_mem_nil, or_false] at hv
      rcases hv with rfl | rfl | rfl | rfl | rfl | rfl | rfl | rfl | rfl | rfl | rfl | rfl | rfl | rfl | rfl | rfl | rfl | rfl | rfl | rfl <;> rfl
    refine wp_region_held_drew (S := fun w' => Below wx.heap.size wx w') kr (Below.refl _ _).drew (fun hHeld => ?_)
    refine tk 0 hHeld ?_
    refine tk 1 hHeld ?_
    refine tk 2 hHeld ?_
    refine tk 4 hHeld ?_
    refine tk 5 hHeld ?_
    refine wpAnyH_ready (rs := [3, 9]) kr (by simp) ?_
    refine AllReadyH.cons (o := _) ge (fun K hK => ?_) (AllReadyH.cons (o := _) ge (fun K hK => ?_) AllReadyH.nil)
    ·
      go_simp
      (with_reducible refine (QA.out _).mono ?_); rintro e w4 ⟨rfl, hb⟩
      refine hK.out _ _ (bl_trans hHeld hb) (fun hHeldN => ?_)
      clear hb
      clear hK K hHeld; have hHeld := hHeldN; clear hHeldN
      try simp only [Act.put, List.setIfInBounds_toArray, List.set_cons_zero, List.set_cons_succ]
      refine wpAnyH_ready (rs := [6, 9]) kr (by simp) ?_
      refine AllReadyH.cons (o := _) ge (fun K hK => ?_) (AllReadyH.cons (o := _) ge (fun K hK => ?_) AllReadyH.nil)
      ·
        go_simp
        (with_reducible refine (QB.out _).mono ?_); rintro e w5 ⟨rfl, hb⟩
        refine hK.out _ _ (bl_trans hHeld hb) (fun hHeldN => ?_)
        clear hb
        clear hK K hHeld; have hHeld := hHeldN; clear hHeldN
        try simp only [Act.put, List.setIfInBounds_toArray, List.set_cons_zero, List.set_cons_succ]
        refine tk 7 hHeld ?_
        refine tk 8 hHeld ?_
        refine wpAnyH_ready (rs := [9]) kr (by simp) ?_
        refine AllReadyH.cons (o := _) ge (fun K hK => ?_) AllReadyH.nil
        go_simp
        have XB := Lib.hid (Bx.new w5 32 #[.int .i64 0, .int .u64 0, .int .i64 0, .int .u64 0, .int .i64 0, .int .u64 0, .int .i64 0, .int .u64 0, .int .i64 0, .int .u64 0, .int .i64 0, .int .u64 0, .int .i64 0, .int .u64 0, .int .i64 0, .int .u64 0, .int .i64 0, .int .u64 0, .int .i64 0, .int .i64 0])
        have hge := Lib.hid hHeld.size
        refine hK.out _ _ (bl_al hHeld _) (fun hHeldN => ?_)
        clear hK K hHeld; have hHeld := hHeldN; clear hHeldN
        try simp only [Act.put, List.setIfInBounds_toArray, List.set_cons_zero, List.set_cons_succ]
        refine wpAnyH_ready (rs := [10]) kr (by simp) ?_
        refine AllReadyH.cons (o := _) ge (fun K hK => ?_) AllReadyH.nil
        rw [if_pos (by rfl)]
        refine wp_store_row 32 _ _ rfl _ #[.int .i64 (fh k), .int .u64 (fl k), .int .i64 0, .int .u64 0, .int .i64 (fh ia), .int .u64 (fl ia), .int .i64 (fh ib), .int .u64 (fl ib), .int .i64 0, .int .u64 0, .int .i64 0, .int .u64 0, .int .i64 0, .int .u64 0, .int .i64 0, .int .u64 0, .int .i64 0, .int .u64 0, .int .i64 0, .int .i64 0] rfl rfl 32 #[.int .i64 0, .int .u64 0, .int .i64 0, .int .u64 0, .int .i64 0, .int .u64 0, .int .i64 0, .int .u64 0, .int .i64 0, .int .u64 0, .int .i64 0, .int .u64 0, .int .i64 0, .int .u64 0, .int .i64 0, .int .u64 0, .int .i64 0, .int .u64 0, .int .i64 0, .int .i64 0] XB.out hsz rfl (all_oneCell_toArray hone.out) ?_
        have HX := Lib.hid (XB.out.row #[.int .i64 (fh k), .int .u64 (fl k), .int .i64 0, .int .u64 0, .int .i64 (fh ia), .int .u64 (fl ia), .int .i64 (fh ib), .int .u64 (fl ib), .int .i64 0, .int .u64 0, .int .i64 0, .int .u64 0, .int .i64 0, .int .u64 0, .int .i64 0, .int .u64 0, .int .i64 0, .int .u64 0, .int .i64 0, .int .i64 0])
        refine hK.out _ _ (below_row hHeld hge.out _) (fun hHeldN => ?_)
        clear XB
        clear hK K hHeld; have hHeld := hHeldN; clear hHeldN
        refine wpAnyH_done kr ?_ _
        have HY := Lib.hid hHeld
        clear hHeld
        go_wp2_with fail
        go_meet
        exact ⟨_, rfl, hge.out, HX.out, HY.out⟩
      ·
        go_simp
        have XB := Lib.hid (Bx.new w4 32 #[.int .i64 0, .int .u64 0, .int .i64 0, .int .u64 0, .int .i64 0, .int .u64 0, .int .i64 0, .int .u64 0, .int .i64 0, .int .u64 0, .int .i64 0, .int .u64 0, .int .i64 0, .int .u64 0, .int .i64 0, .int .u64 0, .int .i64 0, .int .u64 0, .int .i64 0, .int .i64 0])
        have hge := Lib.hid hHeld.size
        refine hK.out _ _ (bl_al hHeld _) (fun hHeldN => ?_)
        clear hK K hHeld; have hHeld := hHeldN; clear hHeldN
        try simp only [Act.put, List.setIfInBounds_toArray, List.set_cons_zero, List.set_cons_succ]
        refine wpAnyH_ready (rs := [6]) kr (by simp) ?_
        refine AllReadyH.cons (o := _) ge (fun K hK => ?_) AllReadyH.nil
        go_simp
        (with_reducible refine (QB.out _).mono ?_); rintro e w5 ⟨rfl, hb⟩
        have XC := Lib.hid (XB.out.below hb)
        clear XB
        have XB := XC
        clear XC
        refine hK.out _ _ (bl_trans hHeld hb) (fun hHeldN => ?_)
        clear hb
        clear hK K hHeld; have hHeld := hHeldN; clear hHeldN
        try simp only [Act.put, List.setIfInBounds_toArray, List.set_cons_zero, List.set_cons_succ]
        refine tk 7 hHeld ?_
        refine tk 8 hHeld ?_
        refine wpAnyH_ready (rs := [10]) kr (by simp) ?_
        refine AllReadyH.cons (o := _) ge (fun K hK => ?_) AllReadyH.nil
        rw [if_pos (by rfl)]
        refine wp_store_row 32 _ _ rfl _ #[.int .i64 (fh k), .int .u64 (fl k), .int .i64 0, .int .u64 0, .int .i64 (fh ia), .int .u64 (fl ia), .int .i64 (fh ib), .int .u64 (fl ib), .int .i64 0, .int .u64 0, .int .i64 0, .int .u64 0, .int .i64 0, .int .u64 0, .int .i64 0, .int .u64 0, .int .i64 0, .int .u64 0, .int .i64 0, .int .i64 0] rfl rfl 32 #[.int .i64 0, .int .u64 0, .int .i64 0, .int .u64 0, .int .i64 0, .int .u64 0, .int .i64 0, .int .u64 0, .int .i64 0, .int .u64 0, .int .i64 0, .int .u64 0, .int .i64 0, .int .u64 0, .int .i64 0, .int .u64 0, .int .i64 0, .int .u64 0, .int .i64 0, .int .i64 0] XB.out hsz rfl (all_oneCell_toArray hone.out) ?_
        have HX := Lib.hid (XB.out.row #[.int .i64 (fh k), .int .u64 (fl k), .int .i64 0, .int .u64 0, .int .i64 (fh ia), .int .u64 (fl ia), .int .i64 (fh ib), .int .u64 (fl ib), .int .i64 0, .int .u64 0, .int .i64 0, .int .u64 0, .int .i64 0, .int .u64 0, .int .i64 0, .int .u64 0, .int .i64 0, .int .u64 0, .int .i64 0, .int .i64 0])
        refine hK.out _ _ (below_row hHeld hge.out _) (fun hHeldN => ?_)
        clear XB
        clear hK K hHeld; have hHeld := hHeldN; clear hHeldN
        try simp only [Act.put]
        refine wpAnyH_done kr ?_ _
        have HY := Lib.hid hHeld
        clear hHeld
        go_wp2_with fail
        go_meet
        exact ⟨_, rfl, hge.out, HX.out, HY.out⟩
    ·
      go_simp
      have XB := Lib.hid (Bx.new wx.drew 32 #[.int .i64 0, .int .u64 0, .int .i64 0, .int .u64 0, .int .i64 0, .int .u64 0, .int .i64 0, .int .u64 0, .int .i64 0, .int .u64 0, .int .i64 0, .int .u64 0, .int .i64 0, .int .u64 0, .int .i64 0, .int .u64 0, .int .i64 0, .int .u64 0, .int .i64 0, .int .i64 0])
      have hge := Lib.hid hHeld.size
      refine hK.out _ _ (bl_al hHeld _) (fun hHeldN => ?_)
      clear hK K hHeld; have hHeld := hHeldN; clear hHeldN
      try simp only [Act.put, List.setIfInBounds_toArray, List.set_cons_zero, List.set_cons_succ]
      refine wpAnyH_ready (rs := [3]) kr (by simp) ?_
      refine AllReadyH.cons (o := _) ge (fun K hK => ?_) AllReadyH.nil
      go_simp
      (with_reducible refine (QA.out _).mono ?_); rintro e w4 ⟨rfl, hb⟩
      have XC := Lib.hid (XB.out.below hb)
      clear XB
      have XB := XC
      clear XC
      refine hK.out _ _ (bl_trans hHeld hb) (fun hHeldN => ?_)
      clear hb
      clear hK K hHeld; have hHeld := hHeldN; clear hHeldN
      try simp only [Act.put, List.setIfInBounds_toArray, List.set_cons_zero, List.set_cons_succ]
      refine wpAnyH_ready (rs := [6]) kr (by simp) ?_
      refine AllReadyH.cons (o := _) ge (fun K hK => ?_) AllReadyH.nil
      go_simp
      (with_reducible refine (QB.out _).mono ?_); rintro e w5 ⟨rfl, hb⟩
      have XC := Lib.hid (XB.out.below hb)
      clear XB
      have XB := XC
      clear XC
      refine hK.out _ _ (bl_trans hHeld hb) (fun hHeldN => ?_)
      clear hb
      clear hK K hHeld; have hHeld := hHeldN; clear hHeldN
      try simp only [Act.put, List.setIfInBounds_toArray, List.set_cons_zero, List.set_cons_succ]
      refine tk 7 hHeld ?_
      refine tk 8 hHeld ?_
      refine wpAnyH_ready (rs := [10]) kr (by simp) ?_
      refine AllReadyH.cons (o := _) ge (fun K hK => ?_) AllReadyH.nil
      rw [if_pos (by rfl)]
      refine wp_store_row 32 _ _ rfl _ #[.int .i64 (fh k), .int .u64 (fl k), .int .i64 0, .int .u64 0, .int .i64 (fh ia), .int .u64 (fl ia), .int .i64 (fh ib), .int .u64 (fl ib), .int .i64 0, .int .u64 0, .int .i64 0, .int .u64 0, .int .i64 0, .int .u64 0, .int .i64 0, .int .u64 0, .int .i64 0, .int .u64 0, .int .i64 0, .int .i64 0] rfl rfl 32 #[.int .i64 0, .int .u64 0, .int .i64 0, .int .u64 0, .int .i64 0, .int .u64 0, .int .i64 0, .int .u64 0, .int .i64 0, .int .u64 0, .int .i64 0, .int .u64 0, .int .i64 0, .int .u64 0, .int .i64 0, .int .u64 0, .int .i64 0, .int .u64 0, .int .i64 0, .int .i64 0] XB.out hsz rfl (all_oneCell_toArray hone.out) ?_
      have HX := Lib.hid (XB.out.row #[.int .i64 (fh k), .int .u64 (fl k), .int .i64 0, .int .u64 0, .int .i64 (fh ia), .int .u64 (fl ia), .int .i64 (fh ib), .int .u64 (fl ib), .int .i64 0, .int .u64 0, .int .i64 0, .int .u64 0, .int .i64 0, .int .u64 0, .int .i64 0, .int .u64 0, .int .i64 0, .int .u64 0, .int .i64 0, .int .i64 0])
      refine hK.out _ _ (below_row hHeld hge.out _) (fun hHeldN => ?_)
      clear XB
      clear hK K hHeld; have hHeld := hHeldN; clear hHeldN
      try simp only [Act.put]
      refine wpAnyH_done kr ?_ _
      have HY := Lib.hid hHeld
      clear hHeld
      go_wp2_with fail
      go_meet
      exact ⟨_, rfl, hge.out, HX.out, HY.out⟩
  case rest =>
  obtain ⟨g, rfl, hg, xg, hb⟩ := hcut
  have eX : [.int .i64 (fh k), .int .u64 (fl k), .int .i64 0, .int .u64 0, .int .i64 (fh ia), .int .u64 (fl ia), .int .i64 (fh ib), .int .u64 (fl ib), .int .i64 0, .int .u64 0, .int .i64 0, .int .u64 0, .int .i64 0, .int .u64 0, .int .i64 0, .int .u64 0, .int .i64 0, .int .u64 0, .int .i64 0, .int .i64 0] = bdc X := by rw [HX.out]; rfl
  rw [eX] at xg
  have X1 := Lib.hid xg; have KY := Lib.hid (KX.out.below hb); have BY := Lib.hid (bl_trans BX.out hb)
  have hkg : Hid (kb ≠ g ∧ w.heap.size ≤ g) := ⟨by have := KX.out.lt; omega, by have := BX.out.size; omega⟩
  clear hg xg hb KX BX f0 f1 eX
  go_upto_region 3 with fail
  refine nw _ fun wy hwy => ?_
  have X2 : Hid (Bx 32 wy g (bdc X)) := by rw [hwy]; exact X1.out
  have KX : Hid (Bx 28 wy kb [.int .i64 (fh k), .int .u64 (fl k)]) := by rw [hwy]; exact KY.out
  have BX : Hid (Below w.heap.size w wy) := by rw [hwy]; exact BY.out
  clear hwy X1 KY BY
  have f0 := stays (KX.out.cell (j := 0) rfl) KX.out.lt; have f1 := stays (KX.out.cell (j := 1) rfl) KX.out.lt
  go_cut [13] (fun p wz => ∃ g, p = .pointer (some ⟨g, 0, none⟩) ∧ wy.heap.size ≤ g ∧ Bx 32 wz g [.int .i64 (fh k), .int .u64 (fl k), .int .i64 0, .int .u64 0, .int .i64 (fh ic), .int .u64 (fl ic), .int .i64 (fh id_), .int .u64 (fl id_), .int .i64 0, .int .u64 0, .int .i64 0, .int .u64 0, .int .i64 0, .int .u64 0, .int .i64 0, .int .u64 0, .int .i64 0, .int .u64 0, .int .i64 0, .int .i64 0] ∧ Below wy.heap.size wy wz)
  case first =>
    have hone : Hid (∀ v ∈ ([.int .i64 (fh k), .int .u64 (fl k), .int .i64 0, .int .u64 0, .int .i64 (fh ic), .int .u64 (fl ic), .int .i64 (fh id_), .int .u64 (fl id_), .int .i64 0, .int .u64 0, .int .i64 0, .int .u64 0, .int .i64 0, .int .u64 0, .int .i64 0, .int .u64 0, .int .i64 0, .int .u64 0, .int .i64 0, .int .i64 0] : List Value), v.oneCell' = true) := by
      intro v hv
      simp only [List.mem_cons, List.not_mem_nil, or_false] at hv
      rcases hv with rfl | rfl | rfl | rfl | rfl | rfl | rfl | rfl | rfl | rfl | rfl | rfl | rfl | rfl | rfl | rfl | rfl | rfl | rfl | rfl <;> rfl
    refine wp_region_held_drew (S := fun w' => Below wy.heap.size wy w') kr (Below.refl _ _).drew (fun hHeld => ?_)
    refine tk 0 hHeld ?_
    refine tk 1 hHeld ?_
    refine tk 2 hHeld ?_
    refine tk 4 hHeld ?_
    refine tk 5 hHeld ?_
    refine wpAnyH_ready (rs := [3, 9]) kr (by simp) ?_
    refine AllReadyH.cons (o := _) ge (fun K hK => ?_) (AllReadyH.cons (o := _) ge (fun K hK => ?_) AllReadyH.nil)
    ·
      go_simp
      (with_reducible refine (QC.out _).mono ?_); rintro e w4 ⟨rfl, hb⟩
      refine hK.out _ _ (bl_trans hHeld hb) (fun hHeldN => ?_)
      clear hb
      clear hK K hHeld; have hHeld := hHeldN; clear hHeldN
      try simp only [Act.put, List.setIfInBounds_toArray, List.set_cons_zero, List.set_cons_succ]
      refine wpAnyH_ready (rs := [6, 9]) kr (by simp) ?_
      refine AllReadyH.cons (o := _) ge (fun K hK => ?_) (AllReadyH.cons (o := _) ge (fun K hK => ?_) AllReadyH.nil)
      ·
        go_simp
        (with_reducible refine (QD.out _).mono ?_); rintro e w5 ⟨rfl, hb⟩
        refine hK.out _ _ (bl_trans hHeld hb) (fun hHeldN => ?_)
        clear hb
        clear hK K hHeld; have hHeld := hHeldN; clear hHeldN
        try simp only [Act.put, List.setIfInBounds_toArray, List.set_cons_zero, List.set_cons_succ]
        refine tk 7 hHeld ?_
        refine tk 8 hHeld ?_
        refine wpAnyH_ready (rs := [9]) kr (by simp) ?_
        refine AllReadyH.cons (o := _) ge (fun K hK => ?_) AllReadyH.nil
        go_simp
        have XB := Lib.hid (Bx.new w5 32 #[.int .i64 0, .int .u64 0, .int .i64 0, .int .u64 0, .int .i64 0, .int .u64 0, .int .i64 0, .int .u64 0, .int .i64 0, .int .u64 0, .int .i64 0, .int .u64 0, .int .i64 0, .int .u64 0, .int .i64 0, .int .u64 0, .int .i64 0, .int .u64 0, .int .i64 0, .int .i64 0])
        have hge := Lib.hid hHeld.size
        refine hK.out _ _ (bl_al hHeld _) (fun hHeldN => ?_)
        clear hK K hHeld; have hHeld := hHeldN; clear hHeldN
        try simp only [Act.put, List.setIfInBounds_toArray, List.set_cons_zero, List.set_cons_succ]
        refine wpAnyH_ready (rs := [10]) kr (by simp) ?_
        refine AllReadyH.cons (o := _) ge (fun K hK => ?_) AllReadyH.nil
        rw [if_pos (by rfl)]
        refine wp_store_row 32 _ _ rfl _ #[.int .i64 (fh k), .int .u64 (fl k), .int .i64 0, .int .u64 0, .int .i64 (fh ic), .int .u64 (fl ic), .int .i64 (fh id_), .int .u64 (fl id_), .int .i64 0, .int .u64 0, .int .i64 0, .int .u64 0, .int .i64 0, .int .u64 0, .int .i64 0, .int .u64 0, .int .i64 0, .int .u64 0, .int .i64 0, .int .i64 0] rfl rfl 32 #[.int .i64 0, .int .u64 0, .int .i64 0, .int .u64 0, .int .i64 0, .int .u64 0, .int .i64 0, .int .u64 0, .int .i64 0, .int .u64 0, .int .i64 0, .int .u64 0, .int .i64 0, .int .u64 0, .int .i64 0, .int .u64 0, .int .i64 0, .int .u64 0, .int .i64 0, .int .i64 0] XB.out hsz rfl (all_oneCell_toArray hone.out) ?_
        have HX := Lib.hid (XB.out.row #[.int .i64 (fh k), .int .u64 (fl k), .int .i64 0, .int .u64 0, .int .i64 (fh ic), .int .u64 (fl ic), .int .i64 (fh id_), .int .u64 (fl id_), .int .i64 0, .int .u64 0, .int .i64 0, .int .u64 0, .int .i64 0, .int .u64 0, .int .i64 0, .int .u64 0, .int .i64 0, .int .u64 0, .int .i64 0, .int .i64 0])
        refine hK.out _ _ (below_row hHeld hge.out _) (fun hHeldN => ?_)
        clear XB
        clear hK K hHeld; have hHeld := hHeldN; clear hHeldN
        try simp only [Act.put]
        refine wpAnyH_done kr ?_ _
        have HY := Lib.hid hHeld
        clear hHeld
        go_wp2_with fail
        go_meet
        exact ⟨_, rfl, hge.out, HX.out, HY.out⟩
      ·
        go_simp
        have XB := Lib.hid (Bx.new w4 32 #[.int .i64 0, .int .u64 0, .int .i64 0, .int .u64 0, .int .i64 0, .int .u64 0, .int .i64 0, .int .u64 0, .int .i64 0, .int .u64 0, .int .i64 0, .int .u64 0, .int .i64 0, .int .u64 0, .int .i64 0, .int .u64 0, .int .i64 0, .int .u64 0, .int .i64 0, .int .i64 0])
        have hge := Lib.hid hHeld.size
        refine hK.out _ _ (bl_al hHeld _) (fun hHeldN => ?_)
        clear hK K hHeld; have hHeld := hHeldN; clear hHeldN
        try simp only [Act.put, List.setIfInBounds_toArray, List.set_cons_zero, List.set_cons_succ]
        refine wpAnyH_ready (rs := [6]) kr (by simp) ?_
        refine AllReadyH.cons (o := _) ge (fun K hK => ?_) AllReadyH.nil
        go_simp
        (with_reducible refine (QD.out _).mono ?_); rintro e w5 ⟨rfl, hb⟩
        have XC := Lib.hid (XB.out.below hb)
        clear XB
        have XB := XC
        clear XC
        refine hK.out _ _ (bl_trans hHeld hb) (fun hHeldN => ?_)
        clear hb
        clear hK K hHeld; have hHeld := hHeldN; clear hHeldN
        try simp only [Act.put, List.setIfInBounds_toArray, List.set_cons_zero, List.set_cons_succ]
        refine tk 7 hHeld ?_
        refine tk 8 hHeld ?_
        refine wpAnyH_ready (rs := [10]) kr (by simp) ?_
        refine AllReadyH.cons (o := _) ge (fun K hK => ?_) AllReadyH.nil
        rw [if_pos (by rfl)]
        refine wp_store_row 32 _ _ rfl _ #[.int .i64 (fh k), .int .u64 (fl k), .int .i64 0, .int .u64 0, .int .i64 (fh ic), .int .u64 (fl ic), .int .i64 (fh id_), .int .u64 (fl id_), .int .i64 0, .int .u64 0, .int .i64 0, .int .u64 0, .int .i64 0, .int .u64 0, .int .i64 0, .int .u64 0, .int .i64 0, .int .u64 0, .int .i64 0, .int .i64 0] rfl rfl 32 #[.int .i64 0, .int .u64 0, .int .i64 0, .int .u64 0, .int .i64 0, .int .u64 0, .int .i64 0, .int .u64 0, .int .i64 0, .int .u64 0, .int .i64 0, .int .u64 0, .int .i64 0, .int .u64 0, .int .i64 0, .int .u64 0, .int .i64 0, .int .u64 0, .int .i64 0, .int .i64 0] XB.out hsz rfl (all_oneCell_toArray hone.out) ?_
        have HX := Lib.hid (XB.out.row #[.int .i64 (fh k), .int .u64 (fl k), .int .i64 0, .int .u64 0, .int .i64 (fh ic), .int .u64 (fl ic), .int .i64 (fh id_), .int .u64 (fl id_), .int .i64 0, .int .u64 0, .int .i64 0, .int .u64 0, .int .i64 0, .int .u64 0, .int .i64 0, .int .u64 0, .int .i64 0, .int .u64 0, .int .i64 0, .int .i64 0])
        refine hK.out _ _ (below_row hHeld hge.out _) (fun hHeldN => ?_)
        clear XB
        clear hK K hHeld; have hHeld := hHeldN; clear hHeldN
        try simp only [Act.put]
        refine wpAnyH_done kr ?_ _
        have HY := Lib.hid hHeld
        clear hHeld
        go_wp2_with fail
        go_meet
        exact ⟨_, rfl, hge.out, HX.out, HY.out⟩
    ·
      go_simp
      have XB := Lib.hid (Bx.new wy.drew 32 #[.int .i64 0, .int .u64 0, .int .i64 0, .int .u64 0, .int .i64 0, .int .u64 0, .int .i64 0, .int .u64 0, .int .i64 0, .int .u64 0, .int .i64 0, .int .u64 0, .int .i64 0, .int .u64 0, .int .i64 0, .int .u64 0, .int .i64 0, .int .u64 0, .int .i64 0, .int .i64 0])
      have hge := Lib.hid hHeld.size
      refine hK.out _ _ (bl_al hHeld _) (fun hHeldN => ?_)
      clear hK K hHeld; have hHeld := hHeldN; clear hHeldN
      try simp only [Act.put, List.setIfInBounds_toArray, List.set_cons_zero, List.set_cons_succ]
      refine wpAnyH_ready (rs := [3]) kr (by simp) ?_
      refine AllReadyH.cons (o := _) ge (fun K hK => ?_) AllReadyH.nil
      go_simp
      (with_reducible refine (QC.out _).mono ?_); rintro e w4 ⟨rfl, hb⟩
      have XC := Lib.hid (XB.out.below hb)
      clear XB
      have XB := XC
      clear XC
      refine hK.out _ _ (bl_trans hHeld hb) (fun hHeldN => ?_)
      clear hb
      clear hK K hHeld; have hHeld := hHeldN; clear hHeldN
      try simp only [Act.put, List.setIfInBounds_toArray, List.set_cons_zero, List.set_cons_succ]
      refine wpAnyH_ready (rs := [6]) kr (by simp) ?_
      refine AllReadyH.cons (o := _) ge (fun K hK => ?_) AllReadyH.nil
      go_simp
      (with_reducible refine (QD.out _).mono ?_); rintro e w5 ⟨rfl, hb⟩
      have XC := Lib.hid (XB.out.below hb)
      clear XB
      have XB := XC
      clear XC
      refine hK.out _ _ (bl_trans hHeld hb) (fun hHeldN => ?_)
      clear hb
      clear hK K hHeld; have hHeld := hHeldN; clear hHeldN
      try simp only [Act.put, List.setIfInBounds_toArray, List.set_cons_zero, List.set_cons_succ]
      refine tk 7 hHeld ?_
      refine tk 8 hHeld ?_
      refine wpAnyH_ready (rs := [10]) kr (by simp) ?_
      refine AllReadyH.cons (o := _) ge (fun K hK => ?_) AllReadyH.nil
      rw [if_pos (by rfl)]
      refine wp_store_row 32 _ _ rfl _ #[.int .i64 (fh k), .int .u64 (fl k), .int .i64 0, .int .u64 0, .int .i64 (fh ic), .int .u64 (fl ic), .int .i64 (fh id_), .int .u64 (fl id_), .int .i64 0, .int .u64 0, .int .i64 0, .int .u64 0, .int .i64 0, .int .u64 0, .int .i64 0, .int .u64 0, .int .i64 0, .int .u64 0, .int .i64 0, .int .i64 0] rfl rfl 32 #[.int .i64 0, .int .u64 0, .int .i64 0, .int .u64 0, .int .i64 0, .int .u64 0, .int .i64 0, .int .u64 0, .int .i64 0, .int .u64 0, .int .i64 0, .int .u64 0, .int .i64 0, .int .u64 0, .int .i64 0, .int .u64 0, .int .i64 0, .int .u64 0, .int .i64 0, .int .i64 0] XB.out hsz rfl (all_oneCell_toArray hone.out) ?_
      have HX := Lib.hid (XB.out.row #[.int .i64 (fh k), .int .u64 (fl k), .int .i64 0, .int .u64 0, .int .i64 (fh ic), .int .u64 (fl ic), .int .i64 (fh id_), .int .u64 (fl id_), .int .i64 0, .int .u64 0, .int .i64 0, .int .u64 0, .int .i64 0, .int .u64 0, .int .i64 0, .int .u64 0, .int .i64 0, .int .u64 0, .int .i64 0, .int .i64 0])
      refine hK.out _ _ (below_row hHeld hge.out _) (fun hHeldN => ?_)
      clear XB
      clear hK K hHeld; have hHeld := hHeldN; clear hHeldN
      try simp only [Act.put]
      refine wpAnyH_done kr ?_ _
      have HY := Lib.hid hHeld
      clear hHeld
      go_wp2_with fail
      go_meet
      exact ⟨_, rfl, hge.out, HX.out, HY.out⟩
  case rest =>
  obtain ⟨h, rfl, hh, xh, hb⟩ := hcut
  have eY : [.int .i64 (fh k), .int .u64 (fl k), .int .i64 0, .int .u64 0, .int .i64 (fh ic), .int .u64 (fl ic), .int .i64 (fh id_), .int .u64 (fl id_), .int .i64 0, .int .u64 0, .int .i64 0, .int .u64 0, .int .i64 0, .int .u64 0, .int .i64 0, .int .u64 0, .int .i64 0, .int .u64 0, .int .i64 0, .int .i64 0] = bdc Y := by rw [HY.out]; rfl
  rw [eY] at xh
  have Y1 := Lib.hid xh; have X1 := Lib.hid (X2.out.below hb); have KY := Lib.hid (KX.out.below hb); have BY := Lib.hid (bl_trans BX.out hb)
  have hkh : Hid (kb ≠ h ∧ g ≠ h) := ⟨by have := KX.out.lt; omega, by have := X2.out.lt; omega⟩
  clear hh xh hb KX BX f0 f1 X2 eY
  have HV1 := Lib.hid X1.out.range_; have HV2 := Lib.hid Y1.out.range_
  have hbl := bdc_len X; have hbl2 := bdc_len Y
  go_wp2_with (first
    | (refine wpList_load_mid rfl 32 _ rfl g 0 rfl (bdc X) _ HV1.out Try.underlying32 rfl (by kernel_rfl) ?_)
    | (refine wpList_load_mid rfl 32 _ rfl h 0 rfl (bdc Y) _ HV2.out Try.underlying32 rfl (by kernel_rfl) ?_)
    | (refine wpList_build_two bd_row (by decide) rfl _ _ rfl (bdc X) (bdc Y) rfl rfl rfl rfl ?_)
    | fail)
  refine (E2.out _ _ _ ?_).mono ?_
  · exact two_new _ hbl hbl2
  rintro e w4 ⟨rfl, hb4⟩
  have X2 := Lib.hid ((X1.out.alloc _).below hb4); have KX := Lib.hid ((KY.out.alloc _).below hb4); have BX := Lib.hid (bl_trans (bl_al BY.out _) hb4)
  clear hb4 X1 Y1 KY BY HV1 HV2 E2 hbl2
  go_upto_region 5 with fail
  refine nw _ fun wy hwy => ?_
  have X1 : Hid (Bx 32 wy g (bdc X)) := by rw [hwy]; exact (X2.out.alloc _).alloc _
  have KY : Hid (Bx 28 wy kb [.int .i64 (fh k), .int .u64 (fl k)]) := by rw [hwy]; exact (KX.out.alloc _).alloc _
  have BY : Hid (Below w.heap.size w wy) := by rw [hwy]; exact bl_al (bl_al BX.out _) _
  have N2 : Hid (Bx 28 wy w4.heap.size [.int .i64 (fh s), .int .u64 (fl s)]) := by rw [hwy]; exact (Bx.new _ _ _).alloc _
  have A2 : Hid (Bx 30 wy (w4.heap.size + 1) [.int .i64 (fh p), .int .u64 (fl p), .int .i64 (fh q), .int .u64 (fl q)]) := by
    have k := Bx.new (w4.alloc (.cells #[.int .i64 (fh s), .int .u64 (fl s)] 28)) 30 #[.int .i64 (fh p), .int .u64 (fl p), .int .i64 (fh q), .int .u64 (fl q)]
    simp only [World.size_alloc] at k
    rw [hwy]; exact k
  generalize w4.heap.size = n2 at *
  clear hwy X2 KX BX
  have HV1 := Lib.hid X1.out.range_
  go_wp2_with (first
    | (refine wpList_load_mid rfl 32 _ rfl g 0 rfl (bdc X) _ HV1.out Try.underlying32 rfl (by kernel_rfl) ?_)
    | fail)
  refine (E1.out _ _ _ (R0.new (s := 20) wy 32 (C := [bdc X]) (by intro c hc; simp at hc; subst hc; rfl) (by rw [bdc_fold]; simp)).slice).mono ?_
  rintro e w5 ⟨rfl, hb5⟩
  have X2 := Lib.hid ((X1.out.alloc _).below hb5); have KX := Lib.hid ((KY.out.alloc _).below hb5); have N3 := Lib.hid ((N2.out.alloc _).below hb5); have A3 := Lib.hid ((A2.out.alloc _).below hb5); have BX := Lib.hid (bl_trans (bl_al BY.out _) hb5)
  clear hb5 X1 KY BY HV1 E1 hbl N2 A2
  go_upto_region 6 with fail
  refine nw _ fun wy hwy => ?_
  have X1 : Hid (Bx 32 wy g (bdc X)) := by rw [hwy]; exact (X2.out.alloc _).alloc _
  have KY : Hid (Bx 28 wy kb [.int .i64 (fh k), .int .u64 (fl k)]) := by rw [hwy]; exact (KX.out.alloc _).alloc _
  have N2 : Hid (Bx 28 wy n2 [.int .i64 (fh s), .int .u64 (fl s)]) := by rw [hwy]; exact (N3.out.alloc _).alloc _
  have A2 : Hid (Bx 30 wy (n2 + 1) [.int .i64 (fh p), .int .u64 (fl p), .int .i64 (fh q), .int .u64 (fl q)]) := by rw [hwy]; exact (A3.out.alloc _).alloc _
  have BY : Hid (Below w.heap.size w wy) := by rw [hwy]; exact bl_al (bl_al BX.out _) _
  have O2 : Hid (Bx 28 wy w5.heap.size [.int .i64 (fh k), .int .u64 (fl k)]) := by rw [hwy]; exact (Bx.new _ _ _).alloc _
  have P2 : Hid (Bx 30 wy (w5.heap.size + 1) [.int .i64 (fh ia), .int .u64 (fl ia), .int .i64 (fh ib), .int .u64 (fl ib)]) := by
    have k := Bx.new (w5.alloc (.cells #[.int .i64 (fh k), .int .u64 (fl k)] 28)) 30 #[.int .i64 (fh ia), .int .u64 (fl ia), .int .i64 (fh ib), .int .u64 (fl ib)]
    simp only [World.size_alloc] at k
    rw [hwy]; exact k
  generalize w5.heap.size = o2 at *
  clear hwy X2 KX N3 A3 BX
  go_wp2_with fail
  refine (EN.out _ _ _).mono ?_
  rintro e w6 ⟨rfl, hb6⟩
  go_upto_region 7 with fail
  refine nw _ fun wz hwz => ?_
  have hw6 : Below wy.heap.size wy wz := by rw [hwz]; exact bl_al (bl_al hb6 _) _
  have X2 := Lib.hid (X1.out.below hw6); have BX := Lib.hid (bl_trans BY.out hw6)
  have KYz := Lib.hid (KY.out.below hw6)
  have N2z := Lib.hid (N2.out.below hw6)
  have A2z := Lib.hid (A2.out.below hw6)
  have O2z := Lib.hid (O2.out.below hw6)
  have P2z := Lib.hid (P2.out.below hw6)
  clear hw6 hb6 hwz X1 BY EN KY N2 A2 O2 P2
  have W0 := Below.refl wz.heap.size wz
  go_upto_region 8 with (first
    | (go_at_call 12; (with_reducible refine (QS.out _).mono ?_); rintro e wc ⟨rfl, hbc⟩; have W1 := bl_trans W0 hbc; clear W0 hbc; have W0 := W1; clear W1)
    | (go_at_call 12; (with_reducible refine (QT.out _).mono ?_); rintro e wc ⟨rfl, hbc⟩; have W1 := bl_trans W0 hbc; clear W0 hbc; have W0 := W1; clear W1)
    | (go_at_call 13; (with_reducible refine (QH1.out _).mono ?_); rintro e wc ⟨rfl, hbc⟩; have W1 := bl_trans W0 hbc; clear W0 hbc; have W0 := W1; clear W1)
    | (go_at_call 13; (with_reducible refine (QH2.out _).mono ?_); rintro e wc ⟨rfl, hbc⟩; have W1 := bl_trans W0 hbc; clear W0 hbc; have W0 := W1; clear W1)
    | fail)
  refine nw _ fun wa hwa => ?_
  have W1 : Below wz.heap.size wz wa := by rw [hwa]; exact bl_al W0 _
  have HF : Hid (Bx 30 wa wc.heap.size [.int .i64 (fh p), .int .u64 (fl p), .int .i64 (fh q), .int .u64 (fl q)]) := by rw [hwa]; exact Bx.new _ _ _
  generalize wc.heap.size = hb at *
  clear hwa W0
  have BY := Lib.hid (bl_trans BX.out W1)
  have X1 := Lib.hid (X2.out.below W1)
  have KY := Lib.hid (KYz.out.below W1)
  have N2 := Lib.hid (N2z.out.below W1)
  have A2 := Lib.hid (A2z.out.below W1)
  have O2 := Lib.hid (O2z.out.below W1)
  have P2 := Lib.hid (P2z.out.below W1)
  clear W1 BX X2 KYz N2z A2z O2z P2z
  have y0 := stays (KY.out.cell (j := 0) rfl) KY.out.lt
  have y1 := stays (KY.out.cell (j := 1) rfl) KY.out.lt
  have y2 := stays (N2.out.cell (j := 0) rfl) N2.out.lt
  have y3 := stays (N2.out.cell (j := 1) rfl) N2.out.lt
  have y4 := stays (A2.out.cell (j := 0) rfl) A2.out.lt
  have y5 := stays (A2.out.cell (j := 1) rfl) A2.out.lt
  have y6 := stays (A2.out.cell (j := 2) rfl) A2.out.lt
  have y7 := stays (A2.out.cell (j := 3) rfl) A2.out.lt
  have y8 := stays (O2.out.cell (j := 0) rfl) O2.out.lt
  have y9 := stays (O2.out.cell (j := 1) rfl) O2.out.lt
  have y10 := stays (P2.out.cell (j := 0) rfl) P2.out.lt
  have y11 := stays (P2.out.cell (j := 1) rfl) P2.out.lt
  have y12 := stays (P2.out.cell (j := 2) rfl) P2.out.lt
  have y13 := stays (P2.out.cell (j := 3) rfl) P2.out.lt
  have y14 := stays (HF.out.cell (j := 0) rfl) HF.out.lt
  have y15 := stays (HF.out.cell (j := 1) rfl) HF.out.lt
  have y16 := stays (HF.out.cell (j := 2) rfl) HF.out.lt
  have y17 := stays (HF.out.cell (j := 3) rfl) HF.out.lt
  have x0 : wa.cell? ⟨g, 4, none⟩ = some (.int .i64 (fh ia)) := by
    have h := X1.out.cell (j := 4) rfl
    rw [HX.out] at h; exact h
  have x0 := stays x0 X1.out.lt
  have x1 : wa.cell? ⟨g, 5, none⟩ = some (.int .u64 (fl ia)) := by
    have h := X1.out.cell (j := 5) rfl
    rw [HX.out] at h; exact h
  have x1 := stays x1 X1.out.lt
  have x2 : wa.cell? ⟨g, 6, none⟩ = some (.int .i64 (fh ib)) := by
    have h := X1.out.cell (j := 6) rfl
    rw [HX.out] at h; exact h
  have x2 := stays x2 X1.out.lt
  have x3 : wa.cell? ⟨g, 7, none⟩ = some (.int .u64 (fl ib)) := by
    have h := X1.out.cell (j := 7) rfl
    rw [HX.out] at h; exact h
  have x3 := stays x3 X1.out.lt
  have hfl := got_field
  clear KY N2 A2 O2 P2 HF X1
  go_region_held3 (fun w' => Below wa.heap.size wa w') (exact bs) (first
    | (go_at_call 11; (with_reducible refine (K0.out _).mono ?_); rintro e w7 ⟨rfl, hb7⟩)
    | (go_at_call 11; (with_reducible refine (K1.out _).mono ?_); rintro e w7 ⟨rfl, hb7⟩)
    | (go_at_call 10; (with_reducible refine (QAD.out _).mono ?_); rintro e w7 ⟨rfl, hb7⟩)
    | (go_at_call 6; (with_reducible refine (QW.out _).mono ?_); rintro e w7 ⟨rfl, hb7⟩))
  rename_i hHeld
  have BZ := Lib.hid (bl_trans BY.out hHeld)
  clear hHeld
  go_wp2_with fail
  go_returns
  exact ⟨rfl, BZ.out⟩
end Go.Proofs.Ytjilnmpajhifcaa
