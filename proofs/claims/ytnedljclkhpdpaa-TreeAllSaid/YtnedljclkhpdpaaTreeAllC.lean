/- TreeAll, from what Build and Width tell. -/
import Derived.Test.YtnedljclkhpdpaaTreeLaw
namespace Go.Proofs.Ytnedljclkhpdpaa
open Go.RowKit
set_option maxRecDepth 20000 in
set_option maxHeartbeats 8000000 in
theorem treeAll_many (BL : BldT) (A : Option Addr) (n c : Nat) (z : Int) (hn : 100 < n) (w : World) :
    Calls Try.prog 3 #[.slice A n c, .int .i64 z] w fun e w' => e = .returned (.bool true) ∧ Below w.heap.size w w' := by
  have K := Lib.hid (tawake_any BL)
  have hi : (100 : Int) < (n : Int) := by omega
  clear BL
  go_enter Try.func3, Try.ntmps3
  go_wp2_with fail
  refine (K.out _).mono ?_
  rintro e w1 ⟨rfl, hb⟩
  have HB := Lib.hid hb
  clear hb
  go_wp2_with fail
  go_returns
  exact ⟨rfl, HB.out⟩
set_option maxRecDepth 20000 in
set_option maxHeartbeats 8000000 in
theorem treeAll_walk (BL : BldT) (WI : WidT) (A : Option Addr) (n c : Nat) (L : List (Nat × Int)) (z : Int) (hn : n ≤ 100) (hc : A = none → n = 0 ∧ c = 0) (ho : Ok64 L) (hnc : n ≤ c) (w : World) (hL : Ks w A n L) :
    Calls Try.prog 3 #[.slice A n c, .int .i64 z] w fun e w' => e = .returned (.bool true) ∧ Below w.heap.size w w' := by
  have K1 := Lib.hid BL; have K2 := Lib.hid WI; have K3 := Lib.hid (tawake_any BL)
  have HNC := Lib.hid hnc; have H64 := Lib.hid ho; have HC := Lib.hid hc; have HN := Lib.hid hn; have HL := Lib.hid hL
  have hi : ¬ (100 : Int) < (n : Int) := by omega
  have q := eq_fx ((2 ^ (32 - wlev z) : Nat) : Int) 0
  have cv : Try.prog.cellsOf 30 = 2 := by kernel_rfl
  clear BL WI hn hL hc ho hnc
  go_enter Try.func3, Try.ntmps3
  go_wp2_with fail
  refine (K1.out A n c L (by have := HN.out; omega) HC.out H64.out HNC.out _ HL.out).mono ?_
  intro e w1 h1
  obtain ⟨A1, c1, rfl, s1, b1⟩ := h1.use
  have HS1 := Lib.hid s1; have HB1 := Lib.hid b1
  clear h1 s1 b1
  have hl := bld_len n L (by have := HN.out; omega)
  have HT := Lib.hid hl
  generalize hT : bld n L = T at HS1 HT
  have HTE := Lib.hid hT
  clear hT hl
  generalize hm : T.length = m at HS1 HT
  have HM := Lib.hid hm
  clear hm
  go_wp2_with fail
  refine (rbuild_any A n c L _ (HL.out.below HB1.out) H64.out (by have := HN.out; omega)).mono ?_
  intro e w2 h2
  obtain ⟨A2, c2, rfl, s2, b2⟩ := h2.use
  rw [HTE.out, HM.out] at s2 ⊢
  have HS2 := Lib.hid s2; have HB2 := Lib.hid (bl_trans HB1.out b2); have HS12 := Lib.hid (HS1.out.below b2)
  clear h2 s2 b2 HB1 HS1
  go_wp2_with fail
  refine (samenodes_any A1 A2 m c1 c2 T (by have := HT.out; omega) _ HS12.out HS2.out).mono ?_
  rintro e w3 ⟨rfl, b3⟩
  have HB3 := Lib.hid (bl_trans HB2.out b3)
  clear b3 HB2 HS12 HS2 HTE HT HM
  go_wp2_with fail
  refine (rby_any A n c L (by have := HN.out; omega) HC.out _ (HL.out.below HB3.out)).mono ?_
  intro e w4 h4
  obtain ⟨A4, c4, M, rfl, hc4, q4, o4, s4, b4⟩ := h4.use
  have HO4 := Lib.hid (own_cap o4)
  clear o4
  have HQ4 := Lib.hid q4; have HB4 := Lib.hid (bl_trans HB3.out b4); have HS4 := Lib.hid s4; have HC4 := Lib.hid hc4
  clear h4 q4 s4 b4 hc4 HB3
  have HM64 := Lib.hid (H64.out.std HS4.out)
  go_wp2_with fail
  refine (K1.out A4 n c4 M (by have := HN.out; omega) HC4.out HM64.out HO4.out _ HQ4.out).mono ?_
  intro e w5 h5
  obtain ⟨A1, c1, rfl, s1, b1⟩ := h5.use
  have HS1 := Lib.hid s1; have HB5 := Lib.hid (bl_trans HB4.out b1)
  clear h5 s1 b1 HB4 HQ4 HC4
  have hl := bld_len n M (by have := HN.out; omega)
  have HT := Lib.hid hl
  generalize hT : bld n M = T at HS1 HT
  have HTE := Lib.hid hT
  clear hT hl
  generalize hm : T.length = m at HS1 HT
  have HM := Lib.hid hm
  clear hm
  go_wp2_with fail
  refine (rby_any A n c L (by have := HN.out; omega) HC.out _ (HL.out.below HB5.out)).mono ?_
  intro e w6 h6
  obtain ⟨A6, c6, M6, rfl, hc6, q6, _, s6, b6⟩ := h6.use
  obtain rfl := s6.uniq HS4.out
  have HQ6 := Lib.hid q6; have HB6 := Lib.hid (bl_trans HB5.out b6); have HC6 := Lib.hid hc6; have HS16 := Lib.hid (HS1.out.below b6)
  clear h6 q6 s6 b6 hc6 HB5 HS1
  go_wp2_with fail
  refine (rbuild_any A6 n c6 _ _ HQ6.out HM64.out (by have := HN.out; omega)).mono ?_
  intro e w7 h7
  obtain ⟨A2, c2, rfl, s2, b2⟩ := h7.use
  rw [HTE.out, HM.out] at s2 ⊢
  have HS2 := Lib.hid s2; have HB7 := Lib.hid (bl_trans HB6.out b2); have HS12 := Lib.hid (HS16.out.below b2)
  clear h7 s2 b2 HB6 HS16 HQ6
  go_wp2_with fail
  refine (samenodes_any A1 A2 m c1 c2 T (by have := HT.out; omega) _ HS12.out HS2.out).mono ?_
  rintro e w8 ⟨rfl, b8⟩
  have HB8 := Lib.hid (bl_trans HB7.out b8)
  clear b8 HB7 HS12 HS2 HTE HT HM
  go_wp2_with fail
  refine (K2.out z _).mono ?_
  rintro e w9 ⟨rfl, b9⟩
  have HB9 := Lib.hid (bl_trans HB8.out b9)
  clear b9 HB8
  unfold wid
  go_wp2_with fail
  refine (rwidth_any z _).mono ?_
  rintro e w10 ⟨rfl, b10⟩
  have HB10 := Lib.hid (bl_trans HB9.out b10)
  clear b10 HB9
  unfold wid
  go_wp2_with fail
  refine (K3.out _).mono ?_
  rintro e w11 ⟨rfl, b11⟩
  have HB11 := Lib.hid (bl_trans HB10.out b11)
  clear b11 HB10
  go_wp2_with fail
  go_returns
  exact ⟨rfl, HB11.out⟩
end Go.Proofs.Ytnedljclkhpdpaa
