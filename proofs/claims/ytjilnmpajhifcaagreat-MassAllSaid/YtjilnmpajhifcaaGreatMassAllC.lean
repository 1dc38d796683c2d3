/- MassAll, from what Centre, Keyed, Cells come to. -/
import Derived.Test.YtjilnmpajhifcaaGreatMassAllH
namespace Go.Proofs.YtjilnmpajhifcaaGreat
open Go.RowKit
theorem nodes_ok0 {by_ : List (Nat × Int)} {L : List Bod} (h : Std Prod.fst by_ (kys L)) : ∀ x ∈ bld L.length by_, x.fr < x.to ∧ x.to ≤ L.length := by
  by_cases h0 : L.length = 0
  · intro x hx
    have e : bld L.length by_ = [] := by unfold bld; rw [if_pos (Or.inl h0)]
    rw [e] at hx; cases hx
  · exact nodes_ok h h0
set_option maxRecDepth 20000 in
set_option maxHeartbeats 16000000 in
theorem massAll_yes (C : CenT) (KY : KeyT) (CE : CelT) (RC : RCenT) (N0 : Ct 13 #[.int .i64 0] (.int .i64 0)) (A : Option Addr) (N c : Nat) (L : List Bod) (hA : A = none → N = 0 ∧ c = 0) (hN : N ≤ 32) (hok : ∀ b ∈ L, Mb b) (w : World) (hL : Bds w A N L)
    (D4 : ∀ W : World, Bds W A N L → Calls Tryz.prog 5 #[.slice A N c] W fun e w' => e = .returned (.bool true) ∧ Below W.heap.size W w') (E m x y : Int) (NE : Ct 13 #[.int .i64 E] (.int .i64 E))
    (D1 : ∀ W : World, Bds W A N L → Calls Tryz.prog 7 #[.slice A N c] W fun e w' => e = .returned (.tuple #[.agg #[.int .i64 (fh m), .int .u64 (fl m)], .agg #[.int .i64 (fh x), .int .u64 (fl x), .int .i64 (fh y), .int .u64 (fl y)], .int .i64 E]) ∧ Below W.heap.size W w')
    (D2 : ∀ W : World, Bds W A N L → Calls Tryz.prog 8 #[.slice A N c] W fun e w' => e = .returned (.agg #[.int .i64 (fh m), .int .u64 (fl m), .int .i64 (fh x), .int .u64 (fl x), .int .i64 (fh y), .int .u64 (fl y), .int .i64 E]) ∧ Below W.heap.size W w') :
    Calls Tryz.prog 3 #[.slice A N c] w fun e w' => e = .returned (.bool true) ∧ Below w.heap.size w w' := by
  have K0 := Lib.hid N0; have K1 := Lib.hid NE; have KK := Lib.hid KY; have KE := Lib.hid CE; have KD := Lib.hid RC; have KW := Lib.hid (mswake_any C N0)
  have HA := Lib.hid hA; have HN := Lib.hid hN; have HOK := Lib.hid hok; have HS := Lib.hid hL; have C1 := Lib.hid D1; have C2 := Lib.hid D2; have C4 := Lib.hid D4
  have hlen := hL.len
  have HLN := Lib.hid hlen
  clear C KY CE RC N0 NE hA hN hok hL D1 D2 D4 hlen
  go_enter Tryz.func3, Tryz.ntmps3
  go_wp2_with fail
  refine (C4.out _ HS.out).mono ?_
  rintro e w1 ⟨rfl, hb1⟩
  have HS1 := Lib.hid (HS.out.below hb1); have B1 : Hid (Below w.heap.size w w1) := hb1
  clear hb1 HS C4
  go_wp2_with fail
  refine (C1.out _ HS1.out).mono ?_
  rintro e w2 ⟨rfl, hb2⟩
  have HS2 := Lib.hid (HS1.out.below hb2)
  have B2 : Hid (Below w.heap.size w w2) := bl_trans B1.out hb2
  clear hb2 HS1 B1 C1
  go_wp2_with fail
  have q1 := (Bx.new w2 27 #[.int .i64 (fh m), .int .u64 (fl m)]).alloc (.cells #[.int .i64 (fh x), .int .u64 (fl x), .int .i64 (fh y), .int .u64 (fl y)] 29)
  have q2 := Bx.new (w2.alloc (.cells #[.int .i64 (fh m), .int .u64 (fl m)] 27)) 29 #[.int .i64 (fh x), .int .u64 (fl x), .int .i64 (fh y), .int .u64 (fl y)]
  simp only [World.size_alloc] at q2
  have hxx : Below w2.heap.size w2 ((w2.alloc (.cells #[.int .i64 (fh m), .int .u64 (fl m)] 27)).alloc (.cells #[.int .i64 (fh x), .int .u64 (fl x), .int .i64 (fh y), .int .u64 (fl y)] 29)) := bl_al (bl_al (Below.refl _ _) _) _
  have HS2' := Lib.hid (HS2.out.below hxx)
  refine (C2.out _ HS2'.out).mono ?_
  rintro e w3 ⟨rfl, hb3⟩
  have M3 := Lib.hid (q1.below hb3); have T3 := Lib.hid (q2.below hb3)
  have HS3 := Lib.hid (HS2'.out.below hb3)
  have B3 : Hid (Below w.heap.size w w3) := bl_trans (bl_trans B2.out hxx) hb3
  clear hb3 hxx q1 q2 HS2 HS2' B2 C2
  go_wp2_with fail
  have q3 := Bx.new w3 34 #[.int .i64 (fh m), .int .u64 (fl m), .int .i64 (fh x), .int .u64 (fl x), .int .i64 (fh y), .int .u64 (fl y), .int .i64 E]
  have hx3 : Below w3.heap.size w3 (w3.alloc (.cells #[.int .i64 (fh m), .int .u64 (fl m), .int .i64 (fh x), .int .u64 (fl x), .int .i64 (fh y), .int .u64 (fl y), .int .i64 E] 34)) := bl_al (Below.refl _ _) _
  have HS3' := Lib.hid (HS3.out.below hx3)
  refine (rkeyed_any A N c L (by have := HN.out; omega) _ HS3'.out).mono ?_
  intro e w4 h4
  obtain ⟨A4, c4, by_, rfl, hA4, hK4, _, hst, hb4⟩ := h4.use
  have M4 := Lib.hid ((M3.out.alloc _).below hb4); have T4 := Lib.hid ((T3.out.alloc _).below hb4); have R4 := Lib.hid (q3.below hb4)
  have HS4 := Lib.hid (HS3'.out.below hb4)
  have B4 : Hid (Below w.heap.size w w4) := bl_trans (bl_trans B3.out hx3) hb4
  have HK4 := Lib.hid hK4; have HA4 := Lib.hid hA4; have HST := Lib.hid hst
  clear h4 hK4 hA4 hst hb4 hx3 q3 M3 T3 HS3 HS3' B3
  go_wp2_with fail
  refine (rbuild_any A4 N c4 by_ w4 HK4.out (by_64 HST.out) (by have := HN.out; omega)).mono ?_
  rintro e w5 ⟨v5, rfl, hown5, hb5⟩
  obtain ⟨T, hT⟩ : ∃ T, T = bld N by_ := ⟨_, rfl⟩
  rw [← hT] at hown5
  obtain ⟨A5, c5, rfl, hA5, hS5⟩ := S0.of_own (Ln.map ndc_len T) (by decide) hown5
  have hTok : ∀ x ∈ T, x.fr < x.to ∧ x.to ≤ N := by
    rw [hT, ← HLN.out]
    exact nodes_ok0 HST.out
  have hTf : T.length ≤ 2147483648 := by rw [hT]; exact nodes_few (by have := HN.out; omega)
  have M5 := Lib.hid (M4.out.below hb5); have T5 := Lib.hid (T4.out.below hb5); have R5 := Lib.hid (R4.out.below hb5)
  have HS5 := Lib.hid (HS4.out.below hb5); have HK5 := Lib.hid (HK4.out.below hb5); have HN5 := Lib.hid hS5
  have B5 : Hid (Below w.heap.size w w5) := bl_trans B4.out hb5
  have HTO := Lib.hid hTok; have HTF := Lib.hid hTf
  clear hown5 hb5 hA5 hS5 hTok hTf hT M4 T4 R4 HS4 HK4 B4
  go_wp2_with fail
  have hids : ∀ x ∈ by_, 0 ≤ x.2 ∧ x.2.toNat < N := by rw [← HLN.out]; exact ids_ok HST.out
  refine (KE.out A5 T.length c5 T A4 N c4 by_ A N c L HTF.out (by have := HN.out; omega) (by have := HN.out; omega) HOK.out hids HTO.out w5 HN5.out HK5.out HS5.out).mono ?_
  rintro e w6 ⟨⟨v6, rfl, hown6⟩, hb6⟩
  obtain ⟨A6, c6, rfl, _, hS6⟩ := S0.of_own (cels_len by_ L T) (by decide) hown6
  have C6 := Lib.hid (rcells_any KD.out A5 T.length c5 T A4 N c4 by_ A N c L HTF.out (by have := HN.out; omega) (by have := HN.out; omega) HOK.out hids HTO.out)
  have M6 := Lib.hid (M5.out.below hb6); have T6 := Lib.hid (T5.out.below hb6); have R6 := Lib.hid (R5.out.below hb6)
  have HS6 := Lib.hid (HS5.out.below hb6); have HK6 := Lib.hid (HK5.out.below hb6); have HN6 := Lib.hid (HN5.out.below hb6); have HC6 := Lib.hid hS6
  have B6 : Hid (Below w.heap.size w w6) := bl_trans B5.out hb6
  clear hown6 hb6 hS6 M5 T5 R5 HS5 HK5 HN5 B5 hids
  go_wp2_with fail
  refine (C6.out _ HN6.out HK6.out HS6.out).mono ?_
  rintro e w7 ⟨⟨v7, rfl, hown7⟩, hb7⟩
  obtain ⟨A7, c7, rfl, _, hS7⟩ := S0.of_own (cels_len by_ L T) (by decide) hown7
  go_upto_region 9 with fail
  refine nw _ fun wa hwa => ?_
  have HW : Below w6.heap.size w6 wa := by rw [hwa]; exact bl_al hb7 _
  have MA : Hid (Bx 44 wa w7.heap.size [.slice A7 T.length c7, .int .i64 0]) := by rw [hwa]; exact Bx.new _ _ _
  have H7 := Lib.hid (S0.below hS7 (bl_al (Below.refl w7.heap.size w7) (.cells #[.slice A7 T.length c7, .int .i64 0] 44)))
  rw [← hwa] at H7
  have M7 := Lib.hid (M6.out.below HW); have T7 := Lib.hid (T6.out.below HW); have R7 := Lib.hid (R6.out.below HW)
  have HS7 := Lib.hid (HS6.out.below HW); have HK7 := Lib.hid (HK6.out.below HW); have HC7 := Lib.hid (HC6.out.below HW)
  have B7 : Hid (Below w.heap.size w wa) := bl_trans B6.out HW
  generalize w7.heap.size = n7 at *
  clear HW hwa hown7 hb7 hS7 M6 T6 R6 HS6 HK6 HN6 HC6 B6 C6
  have m0 := stays (M7.out.cell (j := 0) rfl) M7.out.lt; have m1 := stays (M7.out.cell (j := 1) rfl) M7.out.lt
  have a0 := stays (T7.out.cell (j := 0) rfl) T7.out.lt; have a1 := stays (T7.out.cell (j := 1) rfl) T7.out.lt; have a2 := stays (T7.out.cell (j := 2) rfl) T7.out.lt; have a3 := stays (T7.out.cell (j := 3) rfl) T7.out.lt
  have r0 := stays (R7.out.cell (j := 0) rfl) R7.out.lt; have r1 := stays (R7.out.cell (j := 1) rfl) R7.out.lt; have r2 := stays (R7.out.cell (j := 2) rfl) R7.out.lt; have r3 := stays (R7.out.cell (j := 3) rfl) R7.out.lt; have r4 := stays (R7.out.cell (j := 4) rfl) R7.out.lt; have r5 := stays (R7.out.cell (j := 5) rfl) R7.out.lt; have r6 := stays (R7.out.cell (j := 6) rfl) R7.out.lt
  have e0 := stays (MA.out.cell (j := 0) rfl) MA.out.lt; have e1 := stays (MA.out.cell (j := 1) rfl) MA.out.lt
  clear M7 T7 R7 MA
  go_region_held3 (fun w' => Below wa.heap.size wa w') (exact bs) (first
    | (go_at_call 13; (with_reducible refine (K0.out _).mono ?_); rintro e wb ⟨rfl, hba⟩)
    | (go_at_call 13; (with_reducible refine (K1.out _).mono ?_); rintro e wb ⟨rfl, hbx⟩)
    | (go_at_call 15; refine (KK.out A N c L (by have := HN.out; omega) HA.out _ (HS7.out.below (by with_reducible assumption))).mono ?_; intro e w9 h9; obtain ⟨A9, c9, by9, rfl, hA9, hK9, _, hst9, hb9⟩ := h9.use; have e9 := hst9.uniq HST.out; rw [e9] at hK9)
    | (go_at_call 14; refine (samekeyed_any A9 A4 N c9 c4 by_ (by have := HN.out; omega) _ hK9 (HK7.out.below (by with_reducible assumption))).mono ?_; rintro e wd ⟨rfl, hbd⟩)
    | (go_at_call 16; refine (samecells_any A6 A7 T.length c6 c7 (cels by_ L T) (by have := HTF.out; omega) (cels_eight by_ L T) _ (HC7.out.below (by with_reducible assumption)) (H7.out.below (by with_reducible assumption))).mono ?_; rintro e we ⟨rfl, hbe⟩)
    | (go_at_call 6; refine (KW.out _).mono ?_; rintro e wf ⟨rfl, hbf⟩))
  rename_i hHeld
  have BZ := Lib.hid (bl_trans B7.out hHeld)
  clear hHeld
  go_wp2_with fail
  go_returns
  exact ⟨rfl, BZ.out⟩
end Go.Proofs.YtjilnmpajhifcaaGreat
