/- TreeMade, from what Build tells. -/
import Derived.Test.YtnedljclkhpdpaaTreeLaw
import Derived.Test.YtnedljclkhpdpaaTreeX
namespace Go.Proofs.Ytnedljclkhpdpaa
open Go.RowKit
set_option maxRecDepth 20000 in
set_option maxHeartbeats 16000000 in
theorem treeMade_walk (BL : BldT) (A : Option Addr) (n c : Nat) (l : List Nat) (hn : n ≤ maxLen) (H : Nat) (hH : H < 18446744073709551616) (w : World) (hl : Bs w A n l) :
    Calls Try.prog 4 #[.slice A n c, .int .u64 (H : Int)] w fun e w' => e = .returned (.bool true) ∧ Below w.heap.size w w' := by
  have K1 := Lib.hid BL; have K3 := Lib.hid (tawake_any BL)
  have KM := Lib.hid (make_any A n c l hn w hl)
  have HH := Lib.hid hH
  clear BL hl hn hH
  go_enter Try.func4, Try.ntmps4
  go_wp2_with fail
  refine KM.out.mono ?_
  rintro e w1 ⟨⟨v1, rfl, hown⟩, b1⟩
  obtain ⟨A1, c1, rfl, hA1, q1⟩ := Ks.of_own hown
  obtain ⟨b, hb⟩ : ∃ b, b = (mk_ l).length := ⟨_, rfl⟩
  have hb1 : b ≤ 100 := by rw [hb, mk_len]; omega
  rw [← hb]
  rw [← hb] at hown hA1
  have HA1 := Lib.hid hA1; have HB1 := Lib.hid b1; have Hb := Lib.hid hb; have Hb1 := Lib.hid hb1
  have HX : Hid (Xm w A1 b c1 0 H (mk_ l) w1) := Xm.start hown b1
  clear hown hA1 q1 b1 KM hb hb1
  go_wp2_with fail
  go_loopg [6] b (fun k iv wr => ∃ i : Nat, i + k = b ∧ iv = .int .i64 (i : Int) ∧ Xm w A1 b c1 i H (mk_ l) wr)
  case atStart => exact ⟨0, by omega, rfl, HX.out⟩
  case round =>
    obtain ⟨i, hk, rfl, hmd⟩ := hrel
    have HM := Lib.hid hmd
    clear hmd HX
    by_cases hlt : i < b
    · obtain ⟨k, rfl⟩ : ∃ k, gk = k + 1 := ⟨gk - 1, by omega⟩
      obtain ⟨h1, h2, h3⟩ := HM.out
      rcases h1 with ⟨_, h0⟩ | ⟨g, rfl, hg, hK⟩
      · omega
      have hx : (mk_ l)[i]? = some ((mk_ l)[i]'(by omega)) := List.getElem?_eq_getElem _
      generalize (mk_ l)[i]'(by omega) = x at hx
      have xk := mk_64 l x (List.mem_of_getElem? hx)
      obtain ⟨c0, d0⟩ := hK.cells i x (xk_at hx)
      have zg := hK.lt
      have fg := hK.frz
      have HX := Lib.hid hx
      have HK : Hid (i + (k + 1) = b) := hk
      have HLt := Lib.hid hlt
      have i1 : (i : Int) < (b : Int) := by omega
      have i0 : (0 : Int) ≤ (i : Int) := by omega
      have wi : IntKind.i64.wrap ((i : Int) + 1) = (i : Int) + 1 := by rw [IntWalk.i64_in _ (by have := Hb1.out; omega)]
      have eo : bits .xor .u64 (x.1 : Int) (H : Int) = ((x.1 ^^^ H : Nat) : Int) := bits_xor_u64_nat _ _ xk HH.out
      clear hx hg hK h2 h3 hk xk hlt d0
      go_wp2_with fail
      go_roundg k
      case measure => omega
      case rel => exact ⟨i + 1, by have := HK.out; omega, by simp, HM.out.step HX.out⟩
    · obtain rfl : i = b := by omega
      have i1 : ¬ (i : Int) < (i : Int) := by omega
      have HB2 := Lib.hid HM.out.2.2
      have HQ2 : Hid (Ks wr A1 i ((mk_ l).map (xk H))) := HM.out.done
      have O2 := Lib.hid (xk_64 HH.out (mk_64 l))
      generalize (mk_ l).map (xk H) = L at *
      clear hk hlt HM Hb
      go_wp2_with fail
      refine (rby_any A1 i c1 L (by have := Hb1.out; omega) HA1.out _ HQ2.out).mono ?_
      intro e w3 h3
      obtain ⟨A3, c3, M, rfl, hc3, q3, o3, s3, b3⟩ := h3.use
      have HO3 := Lib.hid (own_cap o3)
      clear o3
      have HQ3 := Lib.hid q3; have HC3 := Lib.hid hc3; have HS3 := Lib.hid s3
      have HB3 := Lib.hid (bl_trans HB2.out b3); have HQ23 := Lib.hid (HQ2.out.below b3)
      have OM := Lib.hid (O2.out.std s3)
      clear h3 hc3 q3 s3 b3 HB2 HQ2
      go_wp2_with fail
      refine (K1.out A3 i c3 M (by have := Hb1.out; omega) HC3.out OM.out HO3.out _ HQ3.out).mono ?_
      intro e w4 h4
      obtain ⟨A4, c4, rfl, s4, b4⟩ := h4.use
      have HS4 := Lib.hid s4; have HB4 := Lib.hid (bl_trans HB3.out b4); have HQ24 := Lib.hid (HQ23.out.below b4)
      clear h4 s4 b4 HB3 HQ23 HQ3 HC3
      have hl := bld_len i M (by have := Hb1.out; omega)
      have HT := Lib.hid hl
      generalize hT : bld i M = T at HS4 HT
      have HTE := Lib.hid hT
      clear hT hl
      generalize hm : T.length = m at HS4 HT
      have HMm := Lib.hid hm
      clear hm
      go_wp2_with fail
      refine (rby_any A1 i c1 L (by have := Hb1.out; omega) HA1.out _ HQ24.out).mono ?_
      intro e w5 h5
      obtain ⟨A5, c5, M5, rfl, hc5, q5, _, s5, b5⟩ := h5.use
      obtain rfl := s5.uniq HS3.out
      have HQ5 := Lib.hid q5; have HC5 := Lib.hid hc5
      have HB5 := Lib.hid (bl_trans HB4.out b5); have HS45 := Lib.hid (HS4.out.below b5)
      clear h5 hc5 q5 s5 b5 HB4 HQ24 HS4
      go_wp2_with fail
      refine (rbuild_any A5 i c5 _ _ HQ5.out OM.out (by have := Hb1.out; omega)).mono ?_
      intro e w6 h6
      obtain ⟨A6, c6, rfl, s6, b6⟩ := h6.use
      rw [HTE.out, HMm.out] at s6 ⊢
      have HS6 := Lib.hid s6; have HB6 := Lib.hid (bl_trans HB5.out b6); have HS46 := Lib.hid (HS45.out.below b6)
      clear h6 s6 b6 HB5 HS45 HQ5 HC5
      go_wp2_with fail
      refine (samenodes_any A4 A6 m c4 c6 T (by have := HT.out; omega) _ HS46.out HS6.out).mono ?_
      rintro e w7 ⟨rfl, b7⟩
      have HB7 := Lib.hid (bl_trans HB6.out b7)
      clear b7 HB6 HS46 HS6 HTE HT HMm
      go_wp2_with fail
      refine (K3.out _).mono ?_
      rintro e w8 ⟨rfl, b8⟩
      have HB8 := Lib.hid (bl_trans HB7.out b8)
      clear b8 HB7
      go_wp2_with fail
      go_returns
      exact ⟨rfl, HB8.out⟩
end Go.Proofs.Ytnedljclkhpdpaa
