/- LimbMoves: shifts are by one and one more; forth and back keeps what had room; a number's length is where it ends. For any number of four words and any two of 8 bits, without conditions. -/
import Derived.Test.YtafpmafcekcpdaaLimbMovesA
import Derived.Test.YtafpmafcekcpdaaLimbMovesB
import Derived.Test.YtafpmafcekcpdaaAwake
import Derived.Test.YtafpmafcekcpdaaMulAny
import Derived.Test.YtafpmafcekcpdaaShr
namespace Go.Proofs.Ytafpmafcekcpdaa
open Go.ChangeShapes Go.WideShapes Go.ChangeAt Go.RowKit Go.Joins

theorem wd_mod (n t : Nat) (h : t < 4) : wd (n % 115792089237316195423570985008687907853269984665640564039457584007913129639936) t = wd n t := by
  rcases (show t = 0 ∨ t = 1 ∨ t = 2 ∨ t = 3 by omega) with rfl | rfl | rfl | rfl
  · rw [wd0, wd0]; omega
  · rw [wd1, wd1]; omega
  · rw [wd2, wd2]; omega
  · rw [wd3, wd3]; omega
theorem wd_shl2 (A i j t : Nat) (h : t < 4) : wd (A * 2 ^ i % 115792089237316195423570985008687907853269984665640564039457584007913129639936 * 2 ^ j) t = wd (A * 2 ^ (i + j)) t := by
  rw [← wd_mod _ t h, ← wd_mod (A * 2 ^ (i + j)) t h, Nat.mod_mul_mod, Nat.mul_assoc, ← Nat.pow_add]
theorem pow_256 : (2 : Nat) ^ 256 = 115792089237316195423570985008687907853269984665640564039457584007913129639936 := by decide
theorem u8_of_wf {x : Int} (h : (Lit.int .u8 x).wf = true) : 0 ≤ x ∧ x < 256 := by
  simp [Lit.wf, IntKind.min, IntKind.max, IntKind.signed, IntKind.bits] at h
  exact ⟨by omega, by omega⟩
theorem neg_shl (n : Int) (h : n < 0) : (2 : Nat) ^ n.toNat = 1 := by rw [Int.toNat_of_nonpos (by omega)]
theorem limbMoves_walk (a3 a2 a1 a0 i j : Int) (h3 : Wd a3) (h2 : Wd a2) (h1 : Wd a1) (h0 : Wd a0) (ki : (Lit.int .u8 i).wf = true) (kj : (Lit.int .u8 j).wf = true) (w : World) :
    Calls Try.prog 9 #[.agg #[.int .u64 a3, .int .u64 a2, .int .u64 a1, .int .u64 a0], .int .u8 i, .int .u8 j] w fun e w' => e = .returned (.bool true) ∧ Below w.heap.size w w' := by
  obtain ⟨i0, i1⟩ := u8_of_wf ki; obtain ⟨j0, j1⟩ := u8_of_wf kj
  have hA := v4_lt h3 h2 h1 h0
  have W3 := wd_v4_3 h3 h2 h1 h0; have W2 := wd_v4_2 h3 h2 h1 h0; have W1 := wd_v4_1 h3 h2 h1 h0; have W0 := wd_v4_0 h3 h2 h1 h0
  have z : Wd 0 := ⟨by omega, by omega⟩
  have C1 := len_any a3 a2 a1 a0 h3 h2 h1 h0
  have C2 := shl_any a3 a2 a1 a0 i h3 h2 h1 h0 (by omega)
  have C4 := shl_any a3 a2 a1 a0 (i + j) h3 h2 h1 h0 (by omega)
  have C5 := shr_any a3 a2 a1 a0 i h3 h2 h1 h0 (by omega)
  have C7 := shr_any a3 a2 a1 a0 (i + j) h3 h2 h1 h0 (by omega)
  have C13 := shl_any a3 a2 a1 a0 (-i - 1) h3 h2 h1 h0 (by omega)
  have C14 := shr_any a3 a2 a1 a0 (-i - 1) h3 h2 h1 h0 (by omega)
  rw [neg_shl _ (by omega), Nat.mul_one, W3, W2, W1, W0] at C13
  rw [neg_shl _ (by omega), Nat.div_one, W3, W2, W1, W0] at C14
  have hk := blen_le (n := v4 a3 a2 a1 a0) (k := 256) (by rw [pow_256]; exact hA)
  have hl := blen_lt (v4 a3 a2 a1 a0)
  have hg := @blen_ge (v4 a3 a2 a1 a0)
  have hb0 : blen (v4 a3 a2 a1 a0) = 0 → v4 a3 a2 a1 a0 = 0 := fun h => by rw [h] at hl; simp at hl; exact hl
  have tij : (i + j).toNat = i.toNat + j.toNat := by omega
  rw [tij] at C4 C7
  have C3 := shl_any _ _ _ _ j (wd_wd (v4 a3 a2 a1 a0 * 2 ^ i.toNat) 3) (wd_wd (v4 a3 a2 a1 a0 * 2 ^ i.toNat) 2) (wd_wd (v4 a3 a2 a1 a0 * 2 ^ i.toNat) 1) (wd_wd (v4 a3 a2 a1 a0 * 2 ^ i.toNat) 0) (by omega)
  rw [v4_wd, wd_shl2 _ _ _ 3 (by decide), wd_shl2 _ _ _ 2 (by decide), wd_shl2 _ _ _ 1 (by decide), wd_shl2 _ _ _ 0 (by decide)] at C3
  have C6 := shr_any _ _ _ _ j (wd_wd (v4 a3 a2 a1 a0 / 2 ^ i.toNat) 3) (wd_wd (v4 a3 a2 a1 a0 / 2 ^ i.toNat) 2) (wd_wd (v4 a3 a2 a1 a0 / 2 ^ i.toNat) 1) (wd_wd (v4 a3 a2 a1 a0 / 2 ^ i.toNat) 0) (by omega)
  rw [v4_small (Nat.lt_of_le_of_lt (Nat.div_le_self _ _) hA), Nat.div_div_eq_div_mul, ← Nat.pow_add] at C6
  have C8 : blen (v4 a3 a2 a1 a0) + i.toNat ≤ 256 → _ := fun hr => by
    have hlt : v4 a3 a2 a1 a0 * 2 ^ i.toNat < 115792089237316195423570985008687907853269984665640564039457584007913129639936 := by
      rw [← pow_256]
      refine Nat.lt_of_lt_of_le (Nat.mul_lt_mul_of_pos_right hl (Nat.two_pow_pos _)) ?_
      rw [← Nat.pow_add]; exact Nat.pow_le_pow_right (by decide) hr
    have h := shr_any _ _ _ _ i (wd_wd (v4 a3 a2 a1 a0 * 2 ^ i.toNat) 3) (wd_wd (v4 a3 a2 a1 a0 * 2 ^ i.toNat) 2) (wd_wd (v4 a3 a2 a1 a0 * 2 ^ i.toNat) 1) (wd_wd (v4 a3 a2 a1 a0 * 2 ^ i.toNat) 0) (by omega)
    rw [v4_small hlt, Nat.mul_div_cancel _ (Nat.two_pow_pos _), W3, W2, W1, W0] at h
    exact h
  have one : v4 0 0 0 1 = 1 := by unfold v4; rw [show v2 0 0 = 0 from rfl, Nat.zero_mul, Nat.zero_add]; rfl
  have hone : Wd 1 := ⟨by omega, by omega⟩
  have F : ∀ n : Nat, n < 256 → ∀ W, Calls Try.prog 21 #[.agg #[.int .u64 0, .int .u64 0, .int .u64 0, .int .u64 1], .int .i64 (n : Int)] W fun e w' => e = .returned (.agg #[.int .u64 (wd (2 ^ n) 3), .int .u64 (wd (2 ^ n) 2), .int .u64 (wd (2 ^ n) 1), .int .u64 (wd (2 ^ n) 0)]) ∧ Below W.heap.size W w' := fun n hn W => by
    have h := shl_any 0 0 0 1 (n : Int) z z z hone (by omega) W
    rw [one, Nat.one_mul, Int.toNat_natCast] at h
    exact h
  have P : ∀ n : Nat, n < 256 → v4 (wd (2 ^ n) 3) (wd (2 ^ n) 2) (wd (2 ^ n) 1) (wd (2 ^ n) 0) = 2 ^ n := fun n hn => v4_small (by rw [← pow_256]; exact Nat.pow_lt_pow_right (by decide) hn)
  have M : ∀ n : Nat, n < 256 → ∀ W, Calls Try.prog 25 #[.agg #[.int .u64 a3, .int .u64 a2, .int .u64 a1, .int .u64 a0], .agg #[.int .u64 (wd (2 ^ n) 3), .int .u64 (wd (2 ^ n) 2), .int .u64 (wd (2 ^ n) 1), .int .u64 (wd (2 ^ n) 0)]] W fun e w' => e = .returned (.int .i64 (icmp ((v4 a3 a2 a1 a0 : Nat) : Int) ((2 ^ n : Nat) : Int))) ∧ Below W.heap.size W w' := fun n hn W => by
    have h := cmp_any a3 a2 a1 a0 _ _ _ _ h3 h2 h1 h0 (wd_wd (2 ^ n) 3) (wd_wd (2 ^ n) 2) (wd_wd (2 ^ n) 1) (wd_wd (2 ^ n) 0) W
    rw [P n hn] at h
    exact h
  have lt0 : ∀ n : Nat, blen (v4 a3 a2 a1 a0) ≤ n → decide (icmp ((v4 a3 a2 a1 a0 : Nat) : Int) ((2 ^ n : Nat) : Int) < 0) = true := fun n hn => by
    have : v4 a3 a2 a1 a0 < 2 ^ n := Nat.lt_of_lt_of_le hl (Nat.pow_le_pow_right (by decide) hn)
    rw [decide_eq_true_eq]; unfold icmp; rw [if_pos (by omega)] <;> decide
  have ge0 : blen (v4 a3 a2 a1 a0) ≠ 0 → decide (icmp ((v4 a3 a2 a1 a0 : Nat) : Int) ((2 ^ (blen (v4 a3 a2 a1 a0) - 1) : Nat) : Int) ≥ 0) = true := fun hn => by
    have := (hg (fun e => hn (by rw [e]; rfl))).2
    rw [decide_eq_true_eq]; unfold icmp; rw [if_neg (by omega)]; split <;> decide
  have wi2 : IntKind.i64.wrap i = i := IntWalk.i64_in _ (by omega)
  have wj2 : IntKind.i64.wrap j = j := IntWalk.i64_in _ (by omega)
  have e1 : IntKind.i64.wrap (i + j) = i + j := IntWalk.i64_in _ (by omega)
  have e10 : IntKind.i64.wrap (-i) = -i := IntWalk.i64_in _ (by omega)
  have e11 : IntKind.i64.wrap (-i - 1) = -i - 1 := IntWalk.i64_in _ (by omega)
  generalize hkk : blen (v4 a3 a2 a1 a0) = k at *
  have e2 : IntKind.i64.wrap ((k : Int) + i) = k + i := IntWalk.i64_in _ (by omega)
  have e4 : decide ((k : Int) ≥ 0) = true := by simp
  have e5 : decide ((k : Int) ≤ 256) = true := by simp; omega
  have e12 : IntKind.i64.wrap ((k : Int) - 1) = k - 1 := IntWalk.i64_in _ (by omega)
  by_cases r : (k : Int) + i ≤ 256
  · have e3 : decide ((k : Int) + i ≤ 256) = true := decide_eq_true r
    have D8 := C8 (by omega)
    by_cases k0 : k = 0
    · subst k0
      exact limbMoves_room_none _ _ _ _ _ _ _ _ _ _ _ _ _ _ _ _ _ _ _ _ _ _ _ _ _ _ _ _ _ _ _ _ wi2 wj2 e1 e2 e3 e4 e5 (by decide) (by decide) e10 e11 (lt0 0 (by omega)) w C1 C2 C3 C4 C5 C6 C7 D8 (F 0 (by omega)) (M 0 (by omega)) C13 C14 awake_true
    · have kl : ((k - 1 : Nat) : Int) = (k : Int) - 1 := by omega
      have FL := F (k - 1) (by omega)
      rw [kl] at FL
      by_cases k2 : k = 256
      · exact limbMoves_room_all _ _ _ _ _ _ _ _ _ _ _ _ _ _ _ _ _ _ _ _ _ _ _ _ _ _ _ _ _ _ _ _ _ wi2 wj2 e1 e2 e3 e4 e5 (by rw [beq_iff_eq]; omega) (by rw [beq_eq_false_iff_ne]; omega) e10 e11 e12 (ge0 k0) w C1 C2 C3 C4 C5 C6 C7 D8 FL (M (k - 1) (by omega)) C13 C14 awake_true
      · exact limbMoves_room_mid _ _ _ _ _ _ _ _ _ _ _ _ _ _ _ _ _ _ _ _ _ _ _ _ _ _ _ _ _ _ _ _ _ _ _ _ _ _ wi2 wj2 e1 e2 e3 e4 e5 (by rw [beq_eq_false_iff_ne]; omega) (by rw [beq_eq_false_iff_ne]; omega) e10 e11 (lt0 k (by omega)) e12 (ge0 k0) w C1 C2 C3 C4 C5 C6 C7 D8 (F k (by omega)) (M k (by omega)) FL (M (k - 1) (by omega)) C13 C14 awake_true
  · have e3 : decide ((k : Int) + i ≤ 256) = false := decide_eq_false r
    have k0 : k ≠ 0 := by omega
    have kl : ((k - 1 : Nat) : Int) = (k : Int) - 1 := by omega
    have FL := F (k - 1) (by omega)
    rw [kl] at FL
    by_cases k2 : k = 256
    · exact limbMoves_lost_all _ _ _ _ _ _ _ _ _ _ _ _ _ _ _ _ _ _ _ _ _ _ _ _ _ _ _ _ _ _ _ _ _ wi2 wj2 e1 e2 e3 e4 e5 (by rw [beq_iff_eq]; omega) (by rw [beq_eq_false_iff_ne]; omega) e10 e11 e12 (ge0 k0) w C1 C2 C3 C4 C5 C6 C7 FL (M (k - 1) (by omega)) C13 C14 awake_true
    · exact limbMoves_lost_mid _ _ _ _ _ _ _ _ _ _ _ _ _ _ _ _ _ _ _ _ _ _ _ _ _ _ _ _ _ _ _ _ _ _ _ _ _ _ wi2 wj2 e1 e2 e3 e4 e5 (by rw [beq_eq_false_iff_ne]; omega) (by rw [beq_eq_false_iff_ne]; omega) e10 e11 (lt0 k (by omega)) e12 (ge0 k0) w C1 C2 C3 C4 C5 C6 C7 (F k (by omega)) (M k (by omega)) FL (M (k - 1) (by omega)) C13 C14 awake_true

set_option maxRecDepth 100000 in
theorem limbMoves_lifted (os : Os) (started : os.Started) (H : Type) (enc : TypeId × Value → H) :
    ReturnsInHanded {} Try.checked os 9 .any (Rows.limbMovesSpec.pre6 enc Try.prog Try.f9 Rows.limbMovesRow.domain false) (Rows.limbMovesSpec.post enc Try.prog Try.f9 false true false false) := by
  refine returnsInHanded_of_change (C := Try.checked) Try.own started (by kernel_rfl) Try.func9
    (ChangeSpec.witness6 (enc := enc) (C := Try.checked) false ⟨#[], #[.agg #[.int .u64 0, .int .u64 0, .int .u64 0, .int .u64 0], .int .u8 0, .int .u8 0], []⟩ 8 (by kernel_rfl) (by kernel_rfl) (by kernel_rfl) (by kernel_rfl)) ?_
  intro W base args ds gs before hval0 hW hcnd _
  have hval : ∀ (j : Nat) t v, Try.f9.params[j]? = some t → args[j]? = some v → Value.okWide Try.prog W .any base t v := hval0
  have hW' := hW
  obtain ⟨p, q, hA0, hV, rfl, hfz, hnd⟩ := hW
  have hA : DataW.TrodAll enc Try.prog W 0 (fun _ => true) true Try.f9.params.toList args.toList ds p := hA0
  rw [Try.params9] at hA hval
  obtain ⟨v0, v1, v2, d0, d1, d2, p0, p1, p2, rfl, rfl, rfl, h0, h1, h2⟩ := trodAll_three hA
  obtain ⟨rfl, rfl⟩ := trodVars_none hV
  obtain ⟨a3, a2, a1, a0, rfl, rfl, rfl, k00, k01, k02, k03⟩ := open_four (hval 0 33 v0 rfl rfl) h0
  obtain ⟨i, rfl, rfl, rfl, k10⟩ := open_int Try.underlying5 (hval 1 5 v1 rfl rfl) h1
  obtain ⟨j, rfl, rfl, rfl, k20⟩ := open_int Try.underlying5 (hval 2 5 v2 rfl rfl) h2
  clear hA0 hval0
  simp only [List.append_nil] at hW'
  refine (limbMoves_walk a3 a2 a1 a0 i j k00 k01 k02 k03 k10 k20 W).mono fun e W' ⟨he, hb⟩ => ?_
  subst he
  exact ⟨_, rfl, _, _, _, [], [], [], hW', trodAll_mk1 (shut_bool Try.underlying4 _), trodAll_mk3 (shut_four k00 k01 k02 k03) (shut_int Try.underlying5 k10) (shut_int Try.underlying5 k20), rfl, hb.frame _, fun h => by cases h⟩

theorem limbMoves_holds : Rows.LimbMovesSaid :=
  OpenClaim.holds_of_wide 9 Try.f9 rfl rfl rfl rfl rfl rfl rfl ⟨rfl, rfl, rfl, rfl, rfl⟩ rfl rfl rfl rfl rfl (by kernel_rfl) Try.func9 (by kernel_rfl)
    (of_decide_eq_true (by kernel_rfl)) (by unfold Func.isWrapper; first | (rw [if_pos (by decide +kernel)]; kernel_rfl) | (rw [if_neg (by decide +kernel)]; exact ⟨rfl, rfl⟩))
    (fun os started H enc _ => limbMoves_lifted os started H enc)
end Go.Proofs.Ytafpmafcekcpdaa
