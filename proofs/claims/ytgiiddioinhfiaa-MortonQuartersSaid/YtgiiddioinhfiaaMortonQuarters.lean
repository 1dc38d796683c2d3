/- The first two bits of a key say in which quarter it is, each two further ones in which quarter of that: at any commit whose code this is, for every two numbers of 32 bits and every level of eight bits. -/
import Derived.Test.YtgiiddioinhfiaaZzMortA
import Derived.Test.YtgiiddioinhfiaaZzFixA
import Derived.Test.YtgiiddioinhfiaaZzVecA
namespace Go.Proofs.Ytgiiddioinhfiaa
open Go.RowKit
set_option maxRecDepth 20000 in
set_option maxHeartbeats 60000000 in
theorem mortonQuarters_core (x y l n m a b c d : Int) (k : Nat) (hk : k < 32) (hx : Hf x) (hy : Hf y) (l0 : IntKind.i64.wrap l = l) (l1 : l.tmod 32 = (k : Int)) (d1 : bits .and .u64 (n / 2 ^ (62 - 2 * k)) 3 = a) (d2 : bits .and .u32 (x / 2 ^ (31 - k)) 1 = b) (d3 : bits .and .u32 (y / 2 ^ (31 - k)) 1 = c) (d4 : IntKind.u32.wrap (c * 2) = d) (d5 : bits .or .u32 b d = a) (d6 : IntKind.u64.wrap a = a) (d7 : n / 2 ^ (2 * k) = m) (w : World)
    (C1 : Ct 8 #[.int .u32 x, .int .u32 y] (.int .u64 n))
    (C2 : Ct 8 #[.int .u32 ((x / 2 ^ k)), .int .u32 ((y / 2 ^ k))] (.int .u64 m))
    (C3 : Ct 11 #[] (.bool true)) :
    Calls Try.prog 7 #[.int .u32 x, .int .u32 y, .int .u8 l] w fun e w' => e = .returned (.bool true) ∧ Below w.heap.size w w' := by
  have K1 := Lib.hid C1; have K2 := Lib.hid C2; have K3 := Lib.hid C3
  clear C1 C2 C3
  obtain ⟨x0, x1⟩ := hx; obtain ⟨y0, y1⟩ := hy
  have s1 : IntKind.i64.wrap (2 * (k : Int)) = ((2 * k : Nat) : Int) := by rw [IntWalk.i64_in _ (by omega)]; omega
  have s2 : IntKind.i64.wrap (62 - ((2 * k : Nat) : Int)) = ((62 - 2 * k : Nat) : Int) := by rw [IntWalk.i64_in _ (by omega)]; omega
  have s3 : IntKind.i64.wrap (31 - (k : Int)) = ((31 - k : Nat) : Int) := by rw [IntWalk.i64_in _ (by omega)]; omega
  have r1 : ((62 - 2 * k : Nat) : Int) < 64 := by omega
  have r2 : ((31 - k : Nat) : Int) < 32 := by omega
  have r3 : ((2 * k : Nat) : Int) < 64 := by omega
  have r4 : ((k : Nat) : Int) < 32 := by omega
  have r5 : ¬ ((62 - 2 * k : Nat) : Int) < 0 := by omega
  have r6 : ¬ ((31 - k : Nat) : Int) < 0 := by omega
  have r7 : ¬ ((2 * k : Nat) : Int) < 0 := by omega
  have r8 : ¬ ((k : Nat) : Int) < 0 := by omega
  clear hk
  generalize 62 - 2 * k = j1 at *
  generalize 2 * k = j2 at *
  generalize 31 - k = j3 at *
  go_enter Try.func7, Try.ntmps7
  go_wp2_with fail
  (with_reducible refine cm (K1.out _) fun w1 hclw1 hfrw1 hb => ?_); have sxw1_0 := sz1 (b := w.heap.size) hb; have HBw1 := hbw (a := w) hb; clear hb
  go_upto_region 3 with fail
  refine nw _ fun R1 hR1 => ?_
  have HBR1 := bhr (a := w) hR1
  clear hR1
  clear sxw1_0 hclw1 hfrw1 HBw1
  go_region_held3 (fun w' => True) (first | (simp [*, go_sem]; done) | (simp [*, go_sem, World.cell?_alloc_past]; done))
    (first
      | (go_at_call 8; (with_reducible refine (K2.out _).mono ?_); rintro e w2 ⟨rfl, hb⟩; (first | (with_reducible (obtain ⟨hclw2, hfrw2⟩ := bcell_drew hb)) | (obtain ⟨hclw2, hfrw2⟩ := bcell hb)); have sxw2_0 := sz1 (b := R1.heap.size) hb; have HBw2 := hbw (a := w) hb; clear hb; clear K2)
      | (go_at_call 8; (with_reducible refine cm (K1.out _) fun w3 hclw3 hfrw3 hb => ?_); have sxw3_0 := sz1 (b := R1.heap.size) hb; have sxw3_w2 := sz1 (b := w2.heap.size) hb; have HBw3 := hbw (a := w) hb; clear hb; clear K1)
      | (go_at_call 11; (with_reducible refine cm (K3.out _) fun w4 hclw4 hfrw4 hb => ?_); have sxw4_0 := sz1 (b := R1.heap.size) hb; have sxw4_w2 := sz1 (b := w2.heap.size) hb; have sxw4_w3 := sz1 (b := w3.heap.size) hb; have HBw4 := hbw (a := w) hb; clear hb; clear K3))
  rename_i hHeld
  clear hHeld
  go_wp2_with fail
  go_returns
  exact ⟨rfl, bb⟩
theorem hf_wf {n : Int} (h : (Lit.int .u32 n).wf = true) : Hf n := by
  simp [Lit.wf, IntKind.min, IntKind.max, IntKind.bits, IntKind.signed] at h; unfold Hf; omega
theorem wf_i32 {n : Int} (h : (Lit.int .i32 n).wf = true) : -2147483648 ≤ n ∧ n < 2147483648 := by
  simp [Lit.wf, IntKind.min, IntKind.max, IntKind.bits, IntKind.signed] at h; omega
theorem wf_u8 {n : Int} (h : (Lit.int .u8 n).wf = true) : 0 ≤ n ∧ n < 256 := by
  simp [Lit.wf, IntKind.min, IntKind.max, IntKind.bits, IntKind.signed] at h; omega
theorem mk2_more {K X Y : Nat} (hX : X < 2 ^ K) (hY : Y < 2 ^ K) : ∀ j, mk2 (K + j) X Y = mk2 K X Y := by
  intro j
  induction j with
  | zero => rfl
  | succ j ih =>
    have hp : (2 : Nat) ^ K ≤ 2 ^ (K + j) := Nat.pow_le_pow_right (by decide) (by omega)
    rw [show K + (j + 1) = K + j + 1 by omega, mk2_top, ih, Nat.div_eq_of_lt (by omega), Nat.div_eq_of_lt (by omega)]
    simp
theorem and_three (x : Int) (h : Wd x) : bits .and .u64 x 3 = x % 4 := bits_mask .u64 64 (by decide) (fun n h0 h1 => IntWalk.u64_in n (by omega)) 2 (by decide) x h.1 h.2
theorem or_quarter (b c : Nat) (hb : b < 2) (hc : c < 2) : bits .or .u32 (b : Int) ((c * 2 : Nat) : Int) = ((b + 2 * c : Nat) : Int) := by
  rcases (show b = 0 ∨ b = 1 by omega) with rfl | rfl <;> rcases (show c = 0 ∨ c = 1 by omega) with rfl | rfl <;> decide
theorem mortonQuarters_walk (x y l : Int) (hx : Hf x) (hy : Hf y) (l0 : 0 ≤ l) (l1 : l < 256) (w : World) :
    Calls Try.prog 7 #[.int .u32 x, .int .u32 y, .int .u8 l] w fun e w' => e = .returned (.bool true) ∧ Below w.heap.size w w' := by
  obtain ⟨X, rfl⟩ := Int.eq_ofNat_of_zero_le hx.1
  obtain ⟨Y, rfl⟩ := Int.eq_ofNat_of_zero_le hy.1
  obtain ⟨L, rfl⟩ := Int.eq_ofNat_of_zero_le l0
  have hk : L % 32 < 32 := Nat.mod_lt _ (by decide)
  have el : (L : Int).tmod 32 = ((L % 32 : Nat) : Int) := by rw [Int.tmod_eq_emod_of_nonneg (by omega)]; omega
  generalize L % 32 = k at *
  have hX := hx.2; have hY := hy.2
  have e1 : mk2 32 X Y / 2 ^ (62 - 2 * k) % 4 = X / 2 ^ (31 - k) % 2 + 2 * (Y / 2 ^ (31 - k) % 2) := by
    have h := mk2_div (31 - k) (k + 1) X Y
    rw [show k + 1 + (31 - k) = 32 by omega, show (4 : Nat) ^ (31 - k) = 2 ^ (62 - 2 * k) by rw [show 62 - 2 * k = 2 * (31 - k) by omega, Nat.pow_mul]] at h
    rw [h]
    show (X / 2 ^ (31 - k) % 2 + 2 * (Y / 2 ^ (31 - k) % 2) + 4 * mk2 k (X / 2 ^ (31 - k) / 2) (Y / 2 ^ (31 - k) / 2)) % 4 = _
    omega
  have small : ∀ Z : Nat, (Z : Int) < 4294967296 → Z / 2 ^ k < 2 ^ (32 - k) := fun Z hZ => by
    rw [Nat.div_lt_iff_lt_mul (Nat.two_pow_pos k), ← Nat.pow_add, show 32 - k + k = 32 by omega]; simp only [Nat.reducePow]; omega
  have e2 : mk2 32 X Y / 2 ^ (2 * k) = mk2 32 (X / 2 ^ k) (Y / 2 ^ k) := by
    have h := mk2_div k (32 - k) X Y
    have g := mk2_more (small X hX) (small Y hY) k
    rw [show 32 - k + k = 32 by omega] at h g
    rw [show (2 : Nat) ^ (2 * k) = 4 ^ k by rw [Nat.pow_mul], h, g]
  have cast : ∀ Z j : Nat, (Z : Int) / 2 ^ j = ((Z / 2 ^ j : Nat) : Int) := fun Z j => by simp
  have le : ∀ Z j : Nat, Z / 2 ^ j ≤ Z := fun Z j => Nat.div_le_self _ _
  have hb : X / 2 ^ (31 - k) % 2 < 2 := Nat.mod_lt _ (by decide)
  have hc : Y / 2 ^ (31 - k) % 2 < 2 := Nat.mod_lt _ (by decide)
  have D := key_wd (X : Int) Y
  have K2 := key_any ((X : Int) / 2 ^ k) ((Y : Int) / 2 ^ k) (by rw [cast]; have := le X k; clear e2; generalize X / 2 ^ k = t at *; exact ⟨by omega, by omega⟩) (by rw [cast]; have := le Y k; clear e2; generalize Y / 2 ^ k = t at *; exact ⟨by omega, by omega⟩)
  refine mortonQuarters_core (X : Int) (Y : Int) (L : Int) (key X Y) (key ((X : Int) / 2 ^ k) ((Y : Int) / 2 ^ k)) ((X / 2 ^ (31 - k) % 2 + 2 * (Y / 2 ^ (31 - k) % 2) : Nat) : Int) ((X / 2 ^ (31 - k) % 2 : Nat) : Int) ((Y / 2 ^ (31 - k) % 2 : Nat) : Int) ((Y / 2 ^ (31 - k) % 2 * 2 : Nat) : Int) k hk hx hy
    (IntWalk.i64_in _ (by omega)) el ?_ ?_ ?_ ?_ (or_quarter _ _ hb hc) ?_ ?_ w (key_any _ _ hx hy) K2 mawake_any
  · unfold key at D ⊢; rw [Int.toNat_natCast, Int.toNat_natCast] at D ⊢; rw [cast]
    have q := le (mk2 32 X Y) (62 - 2 * k)
    rw [← e1]
    generalize mk2 32 X Y / 2 ^ (62 - 2 * k) = z at *
    obtain ⟨_, _⟩ := D
    rw [and_three _ ⟨by omega, by omega⟩]; omega
  · rw [cast]; have := le X (31 - k); generalize X / 2 ^ (31 - k) = z at *; rw [u32_and1 _ (by omega) (by omega)]; omega
  · rw [cast]; have := le Y (31 - k); generalize Y / 2 ^ (31 - k) = z at *; rw [u32_and1 _ (by omega) (by omega)]; omega
  · rw [wrap_u32]; omega
  · rw [wrap_u64]; omega
  · unfold key; rw [cast X, cast Y, Int.toNat_natCast, Int.toNat_natCast, Int.toNat_natCast, Int.toNat_natCast, cast, e2]
open Go.ChangeShapes Go.WideShapes Go.ChangeAt Go.RowKit Go.Joins
set_option maxRecDepth 100000 in
theorem mortonQuarters_lifted (os : Os) (started : os.Started) (H : Type) (enc : TypeId × Value → H) :
    ReturnsInHanded {} Try.checked os 7 .any (Rows.mortonQuartersSpec.pre6 enc Try.prog Try.f7 Rows.mortonQuartersRow.domain false) (Rows.mortonQuartersSpec.post enc Try.prog Try.f7 false true false false) := by
  refine returnsInHanded_of_change (C := Try.checked) Try.own started kr Try.func7
    (ChangeSpec.witness6 (enc := enc) (C := Try.checked) false ⟨#[], #[.int .u32 0, .int .u32 0, .int .u8 0], []⟩ 8 kr kr kr kr) ?_
  intro W base args ds gs before hval0 hW hcnd _
  have hval : ∀ (j : Nat) t v, Try.f7.params[j]? = some t → args[j]? = some v → Value.okWide Try.prog W .any base t v := hval0
  have hW' := hW
  obtain ⟨p, q, hA0, hV, rfl, hfz, hnd⟩ := hW
  have hA : DataW.TrodAll enc Try.prog W 0 (fun _ => true) true Try.f7.params.toList args.toList ds p := hA0
  rw [Try.params7] at hA hval
  obtain ⟨v0, v1, v2, d0, d1, d2, p0, p1, p2, rfl, rfl, rfl, h0, h1, h2⟩ := trodAll_three hA
  obtain ⟨rfl, rfl⟩ := trodVars_none hV
  obtain ⟨x, rfl, rfl, rfl, k00⟩ := open_int Try.underlying22 (hval 0 22 v0 rfl rfl) h0
  obtain ⟨y, rfl, rfl, rfl, k10⟩ := open_int Try.underlying22 (hval 1 22 v1 rfl rfl) h1
  obtain ⟨l, rfl, rfl, rfl, k20⟩ := open_int Try.underlying5 (hval 2 5 v2 rfl rfl) h2
  clear hA0 hval0
  simp only [List.append_nil] at hW'
  refine (mortonQuarters_walk x y l (hf_wf k00) (hf_wf k10) (wf_u8 k20).1 (wf_u8 k20).2 W).mono fun e W' ⟨he, hb⟩ => ?_
  subst he
  exact ⟨_, rfl, _, _, _, [], [], [], hW', trodAll_mk1 (shut_bool Try.underlying4 _), trodAll_mk3 (shut_int Try.underlying22 k00) (shut_int Try.underlying22 k10) (shut_int Try.underlying5 k20), rfl, hb.frame _, fun h => by cases h⟩
theorem mortonQuarters_holds : Rows.MortonQuartersSaid :=
  OpenClaim.holds_of_wide 7 Try.f7 rfl rfl rfl rfl rfl rfl rfl ⟨rfl, rfl, rfl, rfl, rfl⟩ rfl rfl rfl rfl rfl kr Try.func7 kr
    (of_decide_eq_true kr) (by unfold Func.isWrapper; first | (rw [if_pos (by decide +kernel)]; kernel_rfl) | (rw [if_neg (by decide +kernel)]; exact ⟨rfl, rfl⟩))
    (fun os started H enc _ => mortonQuarters_lifted os started H enc)
end Go.Proofs.Ytgiiddioinhfiaa
