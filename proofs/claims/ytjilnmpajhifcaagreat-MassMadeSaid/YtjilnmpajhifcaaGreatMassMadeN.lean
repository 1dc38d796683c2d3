/- MassMade, of no body; the document's Centre of none. -/
import Derived.Test.YtjilnmpajhifcaaGreatMassMadeC
import Derived.Laws.ResultCell
namespace Go.Proofs.YtjilnmpajhifcaaGreat
open Go.RowKit
set_option maxRecDepth 20000 in
set_option maxHeartbeats 8000000 in
theorem rcentre_none : RCenNT := by
  intro A c w
  have n0 : ((0 : Nat) : Int) = 0 := rfl
  go_enter Tryz.func8, Tryz.ntmps8
  go_wp2_with fail
  go_returns
  exact ⟨rfl, bb⟩
set_option maxRecDepth 20000 in
set_option maxHeartbeats 16000000 in
theorem massMade_none (C : CenT) (CN : CenNT) (KY : KeyT) (CE : CelT) (N0 : Ct 13 #[.int .i64 0] (.int .i64 0)) (N1 : Ct 13 #[.int .i64 1] (.int .i64 1)) (A : Option Addr) (n c : Nat) (l : List Nat) (hn : n ≤ maxLen) (h4 : (bods l 20).length = 0) (w : World) (hl : Bs w A n l) :
    Calls Tryz.prog 4 #[.slice A n c] w fun e w' => e = .returned (.bool true) ∧ Below w.heap.size w w' := by
  have K0 := Lib.hid N0; have K1 := Lib.hid N1; have KK := Lib.hid KY; have KE := Lib.hid CE; have KN := Lib.hid CN; have KW := Lib.hid (mswake_any C N0)
  have KB := Lib.hid (bodies_any A n c 20 l hn (by decide) w hl)
  rw [List.length_eq_zero_iff.1 h4] at KB
  clear C CN KY CE N0 N1 hn hl h4
  go_enter Tryz.func4, Tryz.ntmps4
  go_wp2_with fail
  refine KB.out.mono ?_
  rintro e w1 ⟨⟨v1, rfl, hown⟩, hb1⟩
  obtain ⟨A1, c1, rfl, hA1, hS1⟩ := S0.of_own (C := []) (Ln.nil 20) (by decide) hown
  have HS1 : Hid (Bds w1 A1 0 []) := hS1
  have HA1 := Lib.hid hA1; have B1 : Hid (Below w.heap.size w w1) := hb1
  clear hown hS1 hA1 hb1 KB
  go_wp2_with fail
  refine (KN.out _ _ _).mono ?_
  rintro e w2 ⟨rfl, hb2⟩
  have HS2 := Lib.hid (HS1.out.below hb2)
  have B2 : Hid (Below w.heap.size w w2) := bl_trans B1.out hb2
  clear hb2 HS1 B1
  go_wp2_with fail
  refine (rcentre_none _ _ _).mono ?_
  rintro e w3 ⟨rfl, hb3⟩
  have HS3 : Hid (Bds w3 A1 0 []) := S0.none_ 20 w3 A1
  have B3 : Hid (Below w.heap.size w w3) := btt hb3
  clear hb3 HS2 B2
  go_wp2_with fail
  refine (KK.out A1 0 c1 [] (by decide) HA1.out _ (S0.none_ 20 _ A1)).mono ?_
  intro e w4 h4
  obtain ⟨A4, c4, by_, rfl, hA4, hK4, _, hst, hb4⟩ := h4.use
  obtain rfl : by_ = [] := List.length_eq_zero_iff.1 (by have := hK4.1; omega)
  have B4 : Hid (Below w.heap.size w w4) := btt hb4
  have HK4 := Lib.hid hK4; have HA4 := Lib.hid hA4
  clear h4 hK4 hA4 hst hb4 HS3 B3
  go_wp2_with fail
  refine (rbuild_any A4 0 c4 [] w4 HK4.out (by simp) (by decide)).mono ?_
  rintro e w5 ⟨v5, rfl, hown5, hb5⟩
  have hT : bld 0 [] = [] := rfl
  rw [hT] at hown5
  obtain ⟨A5, c5, rfl, hA5, hS5⟩ := S0.of_own (C := []) (Ln.nil 8) (by decide) hown5
  have HK5 := Lib.hid (HK4.out.below hb5)
  have B5 : Hid (Below w.heap.size w w5) := bl_trans B4.out hb5
  clear hown5 hb5 hA5 hS5 hT HK4 B4
  go_wp2_with fail
  refine (KE.out A5 0 c5 [] A4 0 c4 [] A1 0 c1 [] (by decide) (by decide) (by decide) (by simp) (by simp) (by simp) w5 (S0.none_ 8 w5 A5) HK5.out (S0.none_ 20 w5 A1)).mono ?_
  rintro e w6 ⟨⟨v6, rfl, hown6⟩, hb6⟩
  obtain ⟨A6, c6, rfl, _, hS6⟩ := S0.of_own (C := []) (Ln.nil 8) (by decide) hown6
  have B6 : Hid (Below w.heap.size w w6) := bl_trans B5.out hb6
  clear hown6 hb6 hS6 HK5 B5
  go_wp2_with fail
  refine (K1.out _).mono ?_
  rintro e w7 ⟨rfl, hb7⟩
  have B7 : Hid (Below w.heap.size w w7) := bl_trans B6.out hb7
  clear hb7 B6
  go_wp2_with fail
  refine (K0.out _).mono ?_
  rintro e w8 ⟨rfl, hb8⟩
  have B8 : Hid (Below w.heap.size w w8) := bl_trans B7.out hb8
  clear hb8 B7
  go_wp2_with fail
  refine (KW.out _).mono ?_
  rintro e w9 ⟨rfl, hb9⟩
  have B9 : Hid (Below w.heap.size w w9) := bl_trans B8.out hb9
  clear hb9 B8
  go_wp2_with fail
  go_returns
  exact ⟨rfl, B9.out⟩
end Go.Proofs.YtjilnmpajhifcaaGreat
