/- MassMade, of some bodies, from what Centre, Keyed, Cells come to. -/
import Derived.Test.YtjilnmpajhifcaaGreatMassBds
import Derived.Test.YtjilnmpajhifcaaGreatZzMasA
import Derived.Test.YtjilnmpajhifcaaGreatMassCels
import Derived.Test.YtjilnmpajhifcaaGreatZzTreB
namespace Go.Proofs.YtjilnmpajhifcaaGreat
open Go.RowKit
theorem nodes_ok {by_ : List (Nat × Int)} {L : List Bod} (h : Std Prod.fst by_ (kys L)) (h0 : L.length ≠ 0) : ∀ x ∈ bld L.length by_, x.fr < x.to ∧ x.to ≤ L.length := by
  intro x hx
  obtain ⟨j, hj⟩ := List.mem_iff_getElem?.1 hx
  have k := bld_ok (n := L.length) (by_len h) h0 (by_rs h) (by_64 h)
  have o := k.all (fun i => (bld L.length by_)[i]?) (fun i y hy => by rw [Nat.zero_add]; exact hy) j x hj
  exact ⟨o.lt, o.le⟩
theorem nodes_few {by_ : List (Nat × Int)} {n : Nat} (hn : n ≤ 64) : (bld n by_).length ≤ 2147483648 := by
  unfold bld
  split
  · simp
  · rename_i h
    have h0 : 0 < n := by
      rcases Nat.eq_zero_or_pos n with e | e
      · exact absurd (Or.inl e) h
      · exact e
    have := gr_len 32 (keyAt by_) 0 0 0 0 n h0
    omega
theorem made_field (A : Option Addr) (n c : Nat) (W : World) : (Instr.field 44 (.agg #[.slice A n c, .int .i64 0]) 0).run Tryz.prog W = .ok (.slice A n c) W := by
  have hu := Tryz.underlying44
  simp [Instr.field, run_underlying hu, go_sem, asAgg]
/-- The document's Centre of none. -/
def RCenNT : Prop := ∀ (A : Option Addr) (c : Nat) (W : World), Calls Tryz.prog 8 #[.slice A 0 c] W fun e w' => e = .returned (.agg #[.int .i64 0, .int .u64 0, .int .i64 0, .int .u64 0, .int .i64 0, .int .u64 0, .int .i64 1]) ∧ Below W.heap.size W w'
set_option maxRecDepth 20000 in
set_option maxHeartbeats 16000000 in
theorem massMade_some (C : CenT) (KY : KeyT) (CE : CelT) (RC : RCenT) (N0 : Ct 13 #[.int .i64 0] (.int .i64 0)) (A : Option Addr) (n c : Nat) (l : List Nat) (hn : n ≤ maxLen) (h4 : (bods l 20).length ≠ 0) (w : World) (hl : Bs w A n l) :
    Calls Tryz.prog 4 #[.slice A n c] w fun e w' => e = .returned (.bool true) ∧ Below w.heap.size w w' := by
  have K0 := Lib.hid N0; have KK := Lib.hid KY; have KE := Lib.hid CE; have KD := Lib.hid RC; have KW := Lib.hid (mswake_any C N0)
  have KB := Lib.hid (bodies_any A n c 20 l hn (by decide) w hl)
  obtain ⟨L, hL⟩ : ∃ L, L = bods l 20 := ⟨_, rfl⟩
  have hok : ∀ b ∈ L, Mb b := by rw [hL]; exact bods_ok hl.2.1 20
  have h20 : L.length ≤ 20 := by rw [hL, bods_len]; omega
  rw [← hL] at h4 KB
  obtain ⟨N, hN⟩ : ∃ N, N = L.length := ⟨_, rfl⟩
  rw [← hN] at h4 h20 KB
  have HOK := Lib.hid hok; have H20 := Lib.hid h20; have HN := Lib.hid hN; have H4 := Lib.hid h4
  have C1 : Hid (∀ (A : Option Addr) (c : Nat) (W : World), Bds W A N L → Calls Tryz.prog 7 #[.slice A N c] W fun e w' => e = .returned (.tuple #[.agg #[.int .i64 (fh (sM L)), .int .u64 (fl (sM L))], .agg #[.int .i64 (fh (mid Bod.x L)), .int .u64 (fl (mid Bod.x L)), .int .i64 (fh (mid Bod.y L)), .int .u64 (fl (mid Bod.y L))], .int .i64 0]) ∧ Below W.heap.size W w') := fun A c W h => C A N c L (by omega) (by omega) hok W h
  have C2 : Hid (∀ (A : Option Addr) (c : Nat) (W : World), Bds W A N L → Calls Tryz.prog 8 #[.slice A N c] W fun e w' => e = .returned (.agg #[.int .i64 (fh (sM L)), .int .u64 (fl (sM L)), .int .i64 (fh (mid Bod.x L)), .int .u64 (fl (mid Bod.x L)), .int .i64 (fh (mid Bod.y L)), .int .u64 (fl (mid Bod.y L)), .int .i64 0]) ∧ Below W.heap.size W w') := fun A c W h => RC A N c L (by omega) (by omega) hok W h
  have nz : ¬ N = 0 := h4
  have nz' : ¬ (N : Int) = 0 := by omega
  have nb : ((N : Int) == 0) = false := by simp [nz]
  clear C KY CE RC N0 hn hl hL hok h20 hN h4
  obtain ⟨m, hm⟩ : ∃ m, m = sM L := ⟨_, rfl⟩
  obtain ⟨x, hx⟩ : ∃ x, x = mid Bod.x L := ⟨_, rfl⟩
  obtain ⟨y, hy⟩ : ∃ y, y = mid Bod.y L := ⟨_, rfl⟩
  rw [← hm, ← hx, ← hy] at C1 C2
  have HMM := Lib.hid hm
  clear hm hx hy
  go_enter Tryz.func4, Tryz.ntmps4
  go_wp2_with fail
  refine KB.out.mono ?_
  rintro e w1 ⟨⟨v1, rfl, hown⟩, hb1⟩
  obtain ⟨A1, c1, rfl, hA1, hS1⟩ := S0.of_own (Ln.map bdc_len L) (by decide) hown
  have HS1 : Hid (Bds w1 A1 N L) := hS1
  have HA1 := Lib.hid hA1; have B1 : Hid (Below w.heap.size w w1) := hb1
  clear hown hS1 hA1 hb1 KB
  go_wp2_with fail
  refine (C1.out _ _ _ HS1.out).mono ?_
  rintro e w2 ⟨rfl, hb2⟩
  have HS2 := Lib.hid (HS1.out.below hb2)
  have B2 : Hid (Below w.heap.size w w2) := bl_trans B1.out hb2
  clear hb2 HS1 B1 C1
  go_wp2_with fail
  have q1 := (Bx.new w2 27 #[.int .i64 (fh m), .int .u64 (fl m)]).alloc (.cells #[.int .i64 (fh x), .int .u64 (fl x), .int .i64 (fh y), .int .u64 (fl y)] 29)
  have q2 := Bx.new (w2.alloc (.cells #[.int .i64 (fh m), .int .u64 (fl m)] 27)) 29 #[.int .i64 (fh x), .int .u64 (fl x), .int .i64 (fh y), .int .u64 (fl y)]
  simp only [World.size_alloc] at q2
  have hxx : Below w2.heap.size w2 ((w2.alloc (.cells #[.int .i64 (fh m), .int .u64 (fl m)] 27)).alloc (.cells #[.int .i64 (fh x), .int .u64 (fl x), .int .i64 (fh y), .int .u64 (fl y)] 29)) := bl_al (bl_al (Below.refl _ _) _) _
  have HS2' := Lib.hid (HS2.out.below hxx)
  refine (C2.out _ _ _ HS2'.out).mono ?_
  rintro e w3 ⟨rfl, hb3⟩
  have M3 := Lib.hid (q1.below hb3); have T3 := Lib.hid (q2.below hb3)
  have HS3 := Lib.hid (HS2'.out.below hb3)
  have B3 : Hid (Below w.heap.size w w3) := bl_trans (bl_trans B2.out hxx) hb3
  clear hb3 hxx q1 q2 HS2 HS2' B2 C2
  go_wp2_with fail
  have q3 := Bx.new w3 34 #[.int .i64 (fh m), .int .u64 (fl m), .int .i64 (fh x), .int .u64 (fl x), .int .i64 (fh y), .int .u64 (fl y), .int .i64 0]
  have hx3 : Below w3.heap.size w3 (w3.alloc (.cells #[.int .i64 (fh m), .int .u64 (fl m), .int .i64 (fh x), .int .u64 (fl x), .int .i64 (fh y), .int .u64 (fl y), .int .i64 0] 34)) := bl_al (Below.refl _ _) _
  have HS3' := Lib.hid (HS3.out.below hx3)
  refine (KK.out A1 N c1 L (by have := H20.out; omega) HA1.out _ HS3'.out).mono ?_
  intro e w4 h4
  obtain ⟨A4, c4, by_, rfl, hA4, hK4, _, hst, hb4⟩ := h4.use
  have M4 := Lib.hid ((M3.out.alloc _).below hb4); have T4 := Lib.hid ((T3.out.alloc _).below hb4); have R4 := Lib.hid (q3.below hb4)
  have HS4 := Lib.hid (HS3'.out.below hb4)
  have B4 : Hid (Below w.heap.size w w4) := bl_trans (bl_trans B3.out hx3) hb4
  have HK4 := Lib.hid hK4; have HA4 := Lib.hid hA4; have HST := Lib.hid hst
  clear h4 hK4 hA4 hst hb4 hx3 q3 M3 T3 HS3 HS3' B3
  go_wp2_with fail
  refine (rbuild_any A4 N c4 by_ w4 HK4.out (by_64 HST.out) (by have := H20.out; omega)).mono ?_
  rintro e w5 ⟨v5, rfl, hown5, hb5⟩
  obtain ⟨T, hT⟩ : ∃ T, T = bld N by_ := ⟨_, rfl⟩
  rw [← hT] at hown5
  obtain ⟨A5, c5, rfl, hA5, hS5⟩ := S0.of_own (Ln.map ndc_len T) (by decide) hown5
  have hTok : ∀ x ∈ T, x.fr < x.to ∧ x.to ≤ N := by
    rw [hT, HN.out]
    exact nodes_ok HST.out (by rw [← HN.out]; exact H4.out)
  have hTf : T.length ≤ 2147483648 := by rw [hT]; exact nodes_few (by have := H20.out; omega)
  have hT0 : ∃ kid, T[0]? = some ⟨0, 0, 0, N, kid⟩ := by rw [hT]; exact bld_head H4.out (by_rs HST.out)
  have M5 := Lib.hid (M4.out.below hb5); have T5 := Lib.hid (T4.out.below hb5); have R5 := Lib.hid (R4.out.below hb5)
  have HS5 := Lib.hid (HS4.out.below hb5); have HK5 := Lib.hid (HK4.out.below hb5); have HN5 := Lib.hid hS5
  have B5 : Hid (Below w.heap.size w w5) := bl_trans B4.out hb5
  have HTO := Lib.hid hTok; have HTF := Lib.hid hTf; have HT0 := Lib.hid hT0
  clear hown5 hb5 hA5 hS5 hTok hTf hT0 hT M4 T4 R4 HS4 HK4 B4
  go_wp2_with fail
  have hids : ∀ x ∈ by_, 0 ≤ x.2 ∧ x.2.toNat < N := by rw [HN.out]; exact ids_ok HST.out
  refine (KE.out A5 T.length c5 T A4 N c4 by_ A1 N c1 L HTF.out (by have := H20.out; omega) (by have := H20.out; omega) HOK.out hids HTO.out w5 HN5.out HK5.out HS5.out).mono ?_
  rintro e w6 ⟨⟨v6, rfl, hown6⟩, hb6⟩
  obtain ⟨A6, c6, rfl, _, hS6⟩ := S0.of_own (cels_len by_ L T) (by decide) hown6
  have C6 := Lib.hid (rcells_any KD.out A5 T.length c5 T A4 N c4 by_ A1 N c1 L HTF.out (by have := H20.out; omega) (by have := H20.out; omega) HOK.out hids HTO.out)
  have M6 := Lib.hid (M5.out.below hb6); have T6 := Lib.hid (T5.out.below hb6); have R6 := Lib.hid (R5.out.below hb6)
  have HS6 := Lib.hid (HS5.out.below hb6); have HK6 := Lib.hid (HK5.out.below hb6); have HN6 := Lib.hid (HN5.out.below hb6); have HC6 := Lib.hid hS6
  have B6 : Hid (Below w.heap.size w w6) := bl_trans B5.out hb6
  clear hown6 hb6 hS6 M5 T5 R5 HS5 HK5 HN5 B5 hids
  obtain ⟨kid0, hT0⟩ := HT0.out
  have tl : 0 < T.length := (List.getElem?_eq_some_iff.1 hT0).1
  have tl' : (0 : Int) < (T.length : Int) := by omega
  have hsum : sM (memb by_ L 0 N) = m := by
    have h := sM_perm (memb_all HST.out)
    rw [by_len HST.out, ← HN.out] at h
    rw [h]; exact HMM.out.symm
  have hc0 : (cels by_ L T)[0]? = some (celc (memb by_ L 0 N) ((0 : Nat) : Int)) := by
    unfold cels
    rw [List.getElem?_map, hT0]; rfl
  obtain ⟨CB, co, rfl, hCB, hcc⟩ := HC6.out.at_ hc0
  have z0 := hcc 0 _ rfl; have z1 := hcc 1 _ rfl
  rw [hsum] at z0 z1
  simp only [Nat.zero_mul, Nat.add_zero] at z0 z1
  have y0 := stays z0 hCB; have y1 := stays z1 hCB
  have m0 := stays (M6.out.cell (j := 0) rfl) M6.out.lt; have m1 := stays (M6.out.cell (j := 1) rfl) M6.out.lt
  have a0 := stays (T6.out.cell (j := 0) rfl) T6.out.lt; have a1 := stays (T6.out.cell (j := 1) rfl) T6.out.lt; have a2 := stays (T6.out.cell (j := 2) rfl) T6.out.lt; have a3 := stays (T6.out.cell (j := 3) rfl) T6.out.lt
  have r0 := stays (R6.out.cell (j := 0) rfl) R6.out.lt; have r1 := stays (R6.out.cell (j := 1) rfl) R6.out.lt; have r2 := stays (R6.out.cell (j := 2) rfl) R6.out.lt; have r3 := stays (R6.out.cell (j := 3) rfl) R6.out.lt; have r4 := stays (R6.out.cell (j := 4) rfl) R6.out.lt; have r5 := stays (R6.out.cell (j := 5) rfl) R6.out.lt
  have hfl := made_field
  clear hcc z0 z1 hc0 hsum hT0 M6 T6 R6 HT0
  go_upto_region 9 with fail
  go_region_held3 (fun w' => Below w6.heap.size w6 w') (exact bs) (first
    | (go_at_call 13; (with_reducible refine (K0.out _).mono ?_); rintro e wa ⟨rfl, hba⟩)
    | (go_at_call 9; refine (rkeyed_any A1 N c1 L (by have := H20.out; omega) _ (HS6.out.below (by with_reducible assumption))).mono ?_; intro e w7 h7; obtain ⟨A7, c7, by7, rfl, hA7, hK7, _, hst7, hb7⟩ := h7.use; have e7 := hst7.uniq HST.out; rw [e7] at hK7)
    | (go_at_call 14; refine (samekeyed_any A4 A7 N c4 c7 by_ (by have := H20.out; omega) _ (HK6.out.below (by with_reducible assumption)) hK7).mono ?_; rintro e w8 ⟨rfl, hb8⟩)
    | (go_at_call 12; refine (C6.out _ (HN6.out.below (by with_reducible assumption)) (HK6.out.below (by with_reducible assumption)) (HS6.out.below (by with_reducible assumption))).mono ?_; rintro e w9 ⟨⟨v9, rfl, hown9⟩, hb9⟩; obtain ⟨A9, c9, rfl, _, hS9⟩ := S0.of_own (cels_len by_ L T) (by decide) hown9)
    | (go_at_call 16; refine (samecells_any _ A9 T.length c6 c9 (cels by_ L T) (by have := HTF.out; omega) (cels_eight by_ L T) _ (HC6.out.below (by with_reducible assumption)) hS9).mono ?_; rintro e wb ⟨rfl, hbb⟩)
    | (go_at_call 6; refine (KW.out _).mono ?_; rintro e wc ⟨rfl, hbc⟩))
  rename_i hHeld
  have BZ := Lib.hid (bl_trans B6.out hHeld)
  clear hHeld
  go_wp2_with fail
  go_returns
  exact ⟨rfl, BZ.out⟩
end Go.Proofs.YtjilnmpajhifcaaGreat
