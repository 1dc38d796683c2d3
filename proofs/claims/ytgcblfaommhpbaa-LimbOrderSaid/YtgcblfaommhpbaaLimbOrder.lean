/- LimbOrder: products of sums are sums of products, where there is room; the order of two makes no difference. For any three numbers of two words, without conditions. -/
import Derived.Test.YtgcblfaommhpbaaLimbOrderP
import Derived.Test.YtgcblfaommhpbaaLimbOrderC
import Derived.Test.YtgcblfaommhpbaaAwake
import Derived.Test.YtgcblfaommhpbaaInv
import Derived.Test.YtgcblfaommhpbaaTakeOut
import Derived.Test.YtgcblfaommhpbaaMulAny
namespace Go.Proofs.Ytgcblfaommhpbaa
open Go.ChangeShapes Go.WideShapes Go.ChangeAt Go.RowKit Go.Joins

theorem limbOrder_walk (a1 a0 b1 b0 c1 c0 : Int) (ha1 : Wd a1) (ha0 : Wd a0) (hb1 : Wd b1) (hb0 : Wd b0) (hc1 : Wd c1) (hc0 : Wd c0) (w : World) :
    Calls Try.prog 5 #[.agg #[.int .u64 a1, .int .u64 a0], .agg #[.int .u64 b1, .int .u64 b0], .agg #[.int .u64 c1, .int .u64 c0]] w fun e w' => e = .returned (.bool true) ∧ Below w.heap.size w w' := by
  have hA := v2_lt ha1 ha0; have hB := v2_lt hb1 hb0; have hC := v2_lt hc1 hc0
  have C1 := add_any b1 b0 c1 c0 hb1 hb0 hc1 hc0
  have C2 := mul_any a1 a0 b1 b0 ha1 ha0 hb1 hb0
  have C3 := mul_any b1 b0 a1 a0 hb1 hb0 ha1 ha0
  rw [Nat.mul_comm (v2 b1 b0)] at C3
  by_cases c : 340282366920938463463374607431768211456 ≤ v2 b1 b0 + v2 c1 c0
  · rw [decide_eq_true c] at C1
    exact limbOrder_over _ _ _ _ _ _ _ _ _ _ _ _ w C1 C2 C3 awake_true
  · rw [decide_eq_false c] at C1
    have C4 := mul_any a1 a0 c1 c0 ha1 ha0 hc1 hc0
    have C5 := mul_any a1 a0 _ _ ha1 ha0 (wd_wd (v2 b1 b0 + v2 c1 c0) 1) (wd_wd (v2 b1 b0 + v2 c1 c0) 0)
    rw [v2_wd, Nat.mod_eq_of_lt (show v2 b1 b0 + v2 c1 c0 < _ by omega), Nat.mul_add] at C5
    have hR : v2 a1 a0 * v2 b1 b0 + v2 a1 a0 * v2 c1 c0 < 115792089237316195423570985008687907853269984665640564039457584007913129639936 := by
      rw [← Nat.mul_add]
      exact Nat.mul_lt_mul'' (c := 340282366920938463463374607431768211456) (d := 340282366920938463463374607431768211456) hA (by omega)
    generalize v2 a1 a0 * v2 b1 b0 = P at *
    generalize v2 a1 a0 * v2 c1 c0 = Q at *
    have C6 := add_any _ _ _ _ (wd_wd P 1) (wd_wd P 0) (wd_wd Q 1) (wd_wd Q 0)
    rw [v2_wd, v2_wd] at C6
    have C7 := add_any _ _ _ _ (wd_wd P 3) (wd_wd P 2) (wd_wd Q 3) (wd_wd Q 2)
    rw [v2_wd23, v2_wd23] at C7
    have e0 : wd (P % 340282366920938463463374607431768211456 + Q % 340282366920938463463374607431768211456) 0 = wd (P + Q) 0 := by rw [wd0, wd0]; omega
    have e1 : wd (P % 340282366920938463463374607431768211456 + Q % 340282366920938463463374607431768211456) 1 = wd (P + Q) 1 := by rw [wd1, wd1]; omega
    rw [e0, e1] at C6
    have z : Wd 0 := ⟨by omega, by omega⟩
    by_cases k : 340282366920938463463374607431768211456 ≤ P % 340282366920938463463374607431768211456 + Q % 340282366920938463463374607431768211456
    · rw [decide_eq_true k] at C6
      have C8 := add_any _ _ 0 1 (wd_wd (P / 340282366920938463463374607431768211456 % 340282366920938463463374607431768211456 + Q / 340282366920938463463374607431768211456 % 340282366920938463463374607431768211456) 1) (wd_wd (P / 340282366920938463463374607431768211456 % 340282366920938463463374607431768211456 + Q / 340282366920938463463374607431768211456 % 340282366920938463463374607431768211456) 0) z ⟨by omega, by omega⟩
      rw [v2_wd, show v2 0 1 = 1 from rfl] at C8
      have e2 : wd ((P / 340282366920938463463374607431768211456 % 340282366920938463463374607431768211456 + Q / 340282366920938463463374607431768211456 % 340282366920938463463374607431768211456) % 340282366920938463463374607431768211456 + 1) 0 = wd (P + Q) 2 := by rw [wd0, wd2]; omega
      have e3 : wd ((P / 340282366920938463463374607431768211456 % 340282366920938463463374607431768211456 + Q / 340282366920938463463374607431768211456 % 340282366920938463463374607431768211456) % 340282366920938463463374607431768211456 + 1) 1 = wd (P + Q) 3 := by rw [wd1, wd3]; omega
      rw [e2, e3] at C8
      exact limbOrder_carry _ _ _ _ _ _ _ _ _ _ _ _ _ _ _ _ _ _ _ _ _ _ _ _ w C1 C2 C3 C4 C5 C6 C7 C8 awake_true
    · rw [decide_eq_false k] at C6
      have C8 := add_any _ _ 0 0 (wd_wd (P / 340282366920938463463374607431768211456 % 340282366920938463463374607431768211456 + Q / 340282366920938463463374607431768211456 % 340282366920938463463374607431768211456) 1) (wd_wd (P / 340282366920938463463374607431768211456 % 340282366920938463463374607431768211456 + Q / 340282366920938463463374607431768211456 % 340282366920938463463374607431768211456) 0) z z
      rw [v2_wd, show v2 0 0 = 0 from rfl, Nat.add_zero] at C8
      have e2 : wd ((P / 340282366920938463463374607431768211456 % 340282366920938463463374607431768211456 + Q / 340282366920938463463374607431768211456 % 340282366920938463463374607431768211456) % 340282366920938463463374607431768211456) 0 = wd (P + Q) 2 := by rw [wd0, wd2]; omega
      have e3 : wd ((P / 340282366920938463463374607431768211456 % 340282366920938463463374607431768211456 + Q / 340282366920938463463374607431768211456 % 340282366920938463463374607431768211456) % 340282366920938463463374607431768211456) 1 = wd (P + Q) 3 := by rw [wd1, wd3]; omega
      rw [e2, e3] at C8
      exact limbOrder_plain _ _ _ _ _ _ _ _ _ _ _ _ _ _ _ _ _ _ _ _ _ _ _ _ w C1 C2 C3 C4 C5 C6 C7 C8 awake_true

set_option maxRecDepth 100000 in
theorem limbOrder_lifted (os : Os) (started : os.Started) (H : Type) (enc : TypeId × Value → H) :
    ReturnsInHanded {} Try.checked os 5 .any (Rows.limbOrderSpec.pre6 enc Try.prog Try.f5 Rows.limbOrderRow.domain false) (Rows.limbOrderSpec.post enc Try.prog Try.f5 false true false false) := by
  refine returnsInHanded_of_change (C := Try.checked) Try.own started (by kernel_rfl) Try.func5
    (ChangeSpec.witness6 (enc := enc) (C := Try.checked) false ⟨#[], #[.agg #[.int .u64 0, .int .u64 0], .agg #[.int .u64 0, .int .u64 0], .agg #[.int .u64 0, .int .u64 0]], []⟩ 8 (by kernel_rfl) (by kernel_rfl) (by kernel_rfl) (by kernel_rfl)) ?_
  intro W base args ds gs before hval0 hW hcnd _
  have hval : ∀ (j : Nat) t v, Try.f5.params[j]? = some t → args[j]? = some v → Value.okWide Try.prog W .any base t v := hval0
  have hW' := hW
  obtain ⟨p, q, hA0, hV, rfl, hfz, hnd⟩ := hW
  have hA : DataW.TrodAll enc Try.prog W 0 (fun _ => true) true Try.f5.params.toList args.toList ds p := hA0
  rw [Try.params5] at hA hval
  obtain ⟨v0, v1, v2, d0, d1, d2, p0, p1, p2, rfl, rfl, rfl, h0, h1, h2⟩ := trodAll_three hA
  obtain ⟨rfl, rfl⟩ := trodVars_none hV
  obtain ⟨a1, a0, rfl, rfl, rfl, k00, k01⟩ := open_two (hval 0 24 v0 rfl rfl) h0
  obtain ⟨b1, b0, rfl, rfl, rfl, k10, k11⟩ := open_two (hval 1 24 v1 rfl rfl) h1
  obtain ⟨c1, c0, rfl, rfl, rfl, k20, k21⟩ := open_two (hval 2 24 v2 rfl rfl) h2
  clear hA0 hval0
  simp only [List.append_nil] at hW'
  refine (limbOrder_walk a1 a0 b1 b0 c1 c0 k00 k01 k10 k11 k20 k21 W).mono fun e W' ⟨he, hb⟩ => ?_
  subst he
  exact ⟨_, rfl, _, _, _, [], [], [], hW', trodAll_mk1 (shut_bool Try.underlying4 _), trodAll_mk3 (shut_two k00 k01) (shut_two k10 k11) (shut_two k20 k21), rfl, hb.frame _, fun h => by cases h⟩

theorem limbOrder_holds : Rows.LimbOrderSaid :=
  OpenClaim.holds_of_wide 5 Try.f5 rfl rfl rfl rfl rfl rfl rfl ⟨rfl, rfl, rfl, rfl, rfl⟩ rfl rfl rfl rfl rfl (by kernel_rfl) Try.func5 (by kernel_rfl)
    (of_decide_eq_true (by kernel_rfl)) (by unfold Func.isWrapper; first | (rw [if_pos (by decide +kernel)]; kernel_rfl) | (rw [if_neg (by decide +kernel)]; exact ⟨rfl, rfl⟩))
    (fun os started H enc _ => limbOrder_lifted os started H enc)
end Go.Proofs.Ytgcblfaommhpbaa
