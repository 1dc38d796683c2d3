/- Split tells what Key was made of, and Key what was split; one bit is one bit: at any commit whose code this is, for every two numbers of 32 bits, every key and every bit. -/
import Derived.Test.YtgiiddioinhfiaaZzMortA
import Derived.Test.YtgiiddioinhfiaaZzFixA
import Derived.Test.YtgiiddioinhfiaaZzVecA
namespace Go.Proofs.Ytgiiddioinhfiaa
open Go.RowKit
set_option maxRecDepth 20000 in
set_option maxHeartbeats 60000000 in
theorem mortonBack_core (x y key_ l n c d p u v r s : Int) (k : Nat) (hk : k < 32) (l0 : IntKind.i64.wrap l = l) (l1 : l.tmod 32 = (k : Int)) (d1 : IntKind.u32.wrap (1 * 2 ^ k) = p) (d2 : IntKind.u64.wrap (1 * 2 ^ (2 * k)) = u) (d3 : IntKind.u64.wrap (2 * 2 ^ (2 * k)) = v) (d4 : bits .or .u64 r s = n) (w : World)
    (C1 : Ct 8 #[.int .u32 x, .int .u32 y] (.int .u64 n))
    (C2 : Ct 16 #[.int .u64 n] (.tuple #[.int .u32 x, .int .u32 y]))
    (C3 : Ct 16 #[.int .u64 key_] (.tuple #[.int .u32 c, .int .u32 d]))
    (C4 : Ct 8 #[.int .u32 c, .int .u32 d] (.int .u64 key_))
    (C5 : Ct 8 #[.int .u32 p, .int .u32 0] (.int .u64 u))
    (C6 : Ct 8 #[.int .u32 0, .int .u32 p] (.int .u64 v))
    (C7 : Ct 8 #[.int .u32 x, .int .u32 0] (.int .u64 r))
    (C8 : Ct 8 #[.int .u32 0, .int .u32 y] (.int .u64 s))
    (C9 : Ct 11 #[] (.bool true)) :
    Calls Try.prog 4 #[.int .u32 x, .int .u32 y, .int .u64 key_, .int .u8 l] w fun e w' => e = .returned (.bool true) ∧ Below w.heap.size w w' := by
  have K1 := Lib.hid C1; have K2 := Lib.hid C2; have K3 := Lib.hid C3; have K4 := Lib.hid C4; have K5 := Lib.hid C5; have K6 := Lib.hid C6; have K7 := Lib.hid C7; have K8 := Lib.hid C8; have K9 := Lib.hid C9
  clear C1 C2 C3 C4 C5 C6 C7 C8 C9
  have s1 : IntKind.i64.wrap (2 * (k : Int)) = ((2 * k : Nat) : Int) := by rw [IntWalk.i64_in _ (by omega)]; omega
  have r3 : ((2 * k : Nat) : Int) < 64 := by omega
  have r4 : ((k : Nat) : Int) < 32 := by omega
  have r7 : ¬ ((2 * k : Nat) : Int) < 0 := by omega
  have r8 : ¬ ((k : Nat) : Int) < 0 := by omega
  have d5 := d1; have d6 := d2
  rw [Int.one_mul] at d5 d6
  clear hk
  generalize 2 * k = j2 at *
  go_enter Try.func4, Try.ntmps4
  go_wp2_with fail
  (with_reducible refine cm (K1.out _) fun w1 hclw1 hfrw1 hb => ?_); have sxw1_0 := sz1 (b := w.heap.size) hb; have HBw1 := hbw (a := w) hb; clear hb
  go_wp2_with fail
  (with_reducible refine cm (K2.out _) fun w2 hclw2 hfrw2 hb => ?_); have sxw2_0 := sz1 (b := w1.heap.size) hb; have HBw2 := hbw (a := w) hb; clear hb
  go_wp2_with fail
  (with_reducible refine cm (K3.out _) fun w3 hclw3 hfrw3 hb => ?_); have sxw3_0 := sz1 (b := w2.heap.size) hb; have HBw3 := hbw (a := w) hb; clear hb
  go_upto_region 4 with fail
  refine nw _ fun R1 hR1 => ?_
  have HBR1 := bhr (a := w) hR1
  clear hR1
  clear sxw1_0 hclw1 hfrw1 HBw1 sxw2_0 hclw2 hfrw2 HBw2 sxw3_0 hclw3 hfrw3 HBw3
  go_region_held3 (fun w' => True) (first | (simp [*, go_sem]; done) | (simp [*, go_sem, World.cell?_alloc_past]; done))
    (first
      | (go_at_call 8; (with_reducible refine (K4.out _).mono ?_); rintro e w4 ⟨rfl, hb⟩; (first | (with_reducible (obtain ⟨hclw4, hfrw4⟩ := bcell_drew hb)) | (obtain ⟨hclw4, hfrw4⟩ := bcell hb)); have sxw4_0 := sz1 (b := R1.heap.size) hb; have HBw4 := hbw (a := w) hb; clear hb; clear K4)
      | (go_at_call 8; (with_reducible refine cm (K5.out _) fun w5 hclw5 hfrw5 hb => ?_); have sxw5_0 := sz1 (b := R1.heap.size) hb; have sxw5_w4 := sz1 (b := w4.heap.size) hb; have HBw5 := hbw (a := w) hb; clear hb; clear K5)
      | (go_at_call 8; (with_reducible refine cm (K6.out _) fun w6 hclw6 hfrw6 hb => ?_); have sxw6_0 := sz1 (b := R1.heap.size) hb; have sxw6_w4 := sz1 (b := w4.heap.size) hb; have sxw6_w5 := sz1 (b := w5.heap.size) hb; have HBw6 := hbw (a := w) hb; clear hb; clear K6)
      | (go_at_call 8; (with_reducible refine cm (K1.out _) fun w7 hclw7 hfrw7 hb => ?_); have sxw7_0 := sz1 (b := R1.heap.size) hb; have sxw7_w4 := sz1 (b := w4.heap.size) hb; have sxw7_w5 := sz1 (b := w5.heap.size) hb; have sxw7_w6 := sz1 (b := w6.heap.size) hb; have HBw7 := hbw (a := w) hb; clear hb; clear K1)
      | (go_at_call 8; (with_reducible refine cm (K7.out _) fun w8 hclw8 hfrw8 hb => ?_); have sxw8_0 := sz1 (b := R1.heap.size) hb; have sxw8_w4 := sz1 (b := w4.heap.size) hb; have sxw8_w5 := sz1 (b := w5.heap.size) hb; have sxw8_w6 := sz1 (b := w6.heap.size) hb; have sxw8_w7 := sz1 (b := w7.heap.size) hb; have HBw8 := hbw (a := w) hb; clear hb; clear K7)
      | (go_at_call 8; (with_reducible refine cm (K8.out _) fun w9 hclw9 hfrw9 hb => ?_); have sxw9_0 := sz1 (b := R1.heap.size) hb; have sxw9_w4 := sz1 (b := w4.heap.size) hb; have sxw9_w5 := sz1 (b := w5.heap.size) hb; have sxw9_w6 := sz1 (b := w6.heap.size) hb; have sxw9_w7 := sz1 (b := w7.heap.size) hb; have sxw9_w8 := sz1 (b := w8.heap.size) hb; have HBw9 := hbw (a := w) hb; clear hb; clear K8)
      | (go_at_call 11; (with_reducible refine cm (K9.out _) fun w10 hclw10 hfrw10 hb => ?_); have sxw10_0 := sz1 (b := R1.heap.size) hb; have sxw10_w4 := sz1 (b := w4.heap.size) hb; have sxw10_w5 := sz1 (b := w5.heap.size) hb; have sxw10_w6 := sz1 (b := w6.heap.size) hb; have sxw10_w7 := sz1 (b := w7.heap.size) hb; have sxw10_w8 := sz1 (b := w8.heap.size) hb; have sxw10_w9 := sz1 (b := w9.heap.size) hb; have HBw10 := hbw (a := w) hb; clear hb; clear K9))
  rename_i hHeld
  clear hHeld
  go_wp2_with fail
  go_returns
  exact ⟨rfl, bb⟩
theorem hf_wf {n : Int} (h : (Lit.int .u32 n).wf = true) : Hf n := by
  simp [Lit.wf, IntKind.min, IntKind.max, IntKind.bits, IntKind.signed] at h; unfold Hf; omega
theorem wf_i32 {n : Int} (h : (Lit.int .i32 n).wf = true) : -2147483648 ≤ n ∧ n < 2147483648 := by
  simp [Lit.wf, IntKind.min, IntKind.max, IntKind.bits, IntKind.signed] at h; omega
theorem wf_u8 {n : Int} (h : (Lit.int .u8 n).wf = true) : 0 ≤ n ∧ n < 256 := by
  simp [Lit.wf, IntKind.min, IntKind.max, IntKind.bits, IntKind.signed] at h; omega
theorem mk2_at : ∀ (K k : Nat), k < K → mk2 K (2 ^ k) 0 = 2 ^ (2 * k) ∧ mk2 K 0 (2 ^ k) = 2 * 2 ^ (2 * k) := by
  intro K
  induction K with
  | zero => intro k h; omega
  | succ K ih =>
    intro k h
    have zz : ∀ K, mk2 K 0 0 = 0 := by
      intro K
      induction K with
      | zero => rfl
      | succ K ih => show 0 % 2 + 2 * (0 % 2) + 4 * mk2 K (0 / 2) (0 / 2) = 0; rw [Nat.zero_div, ih]
    cases k with
    | zero =>
      constructor
      · show 1 % 2 + 2 * (0 % 2) + 4 * mk2 K (1 / 2) (0 / 2) = 1
        rw [show 1 / 2 = 0 by decide, zz]
      · show 0 % 2 + 2 * (1 % 2) + 4 * mk2 K (0 / 2) (1 / 2) = 2
        rw [show 1 / 2 = 0 by decide, zz]
    | succ k =>
      obtain ⟨h1, h2⟩ := ih k (by omega)
      have e : (2 : Nat) ^ (k + 1) = 2 * 2 ^ k := by rw [Nat.pow_succ, Nat.mul_comm]
      have f : (2 : Nat) ^ (2 * (k + 1)) = 4 * 2 ^ (2 * k) := by rw [show 2 * (k + 1) = 2 * k + 1 + 1 by omega, Nat.pow_succ, Nat.pow_succ]; omega
      have g : 2 * 2 ^ k / 2 = 2 ^ k := by omega
      rw [e, f]
      constructor
      · show 2 * 2 ^ k % 2 + 2 * (0 % 2) + 4 * mk2 K (2 * 2 ^ k / 2) (0 / 2) = _
        rw [g, Nat.zero_div, h1]; omega
      · show 0 % 2 + 2 * (2 * 2 ^ k % 2) + 4 * mk2 K (0 / 2) (2 * 2 ^ k / 2) = _
        rw [g, Nat.zero_div, h2]; omega
theorem mortonBack_walk (x y z l : Int) (hx : Hf x) (hy : Hf y) (hz : Wd z) (l0 : 0 ≤ l) (l1 : l < 256) (w : World) :
    Calls Try.prog 4 #[.int .u32 x, .int .u32 y, .int .u64 z, .int .u8 l] w fun e w' => e = .returned (.bool true) ∧ Below w.heap.size w w' := by
  obtain ⟨X, rfl⟩ := Int.eq_ofNat_of_zero_le hx.1
  obtain ⟨Y, rfl⟩ := Int.eq_ofNat_of_zero_le hy.1
  obtain ⟨Z, rfl⟩ := Int.eq_ofNat_of_zero_le hz.1
  obtain ⟨L, rfl⟩ := Int.eq_ofNat_of_zero_le l0
  have hk : L % 32 < 32 := Nat.mod_lt _ (by decide)
  have el : (L : Int).tmod 32 = ((L % 32 : Nat) : Int) := by rw [Int.tmod_eq_emod_of_nonneg (by omega)]; omega
  generalize L % 32 = k at *
  have hX : X < 4294967296 := by have := hx.2; omega
  have hY : Y < 4294967296 := by have := hy.2; omega
  have hZ : Z < 18446744073709551616 := by have := hz.2; omega
  have S1 := split_key (key X Y) (key_wd _ _)
  obtain ⟨b1, b2⟩ := ev_mk2 32 X Y
  have kt : (key (X : Int) Y).toNat = mk2 32 X Y := rfl
  rw [kt, b1, b2, show (2 : Nat) ^ 32 = 4294967296 from rfl, Nat.mod_eq_of_lt hX, Nat.mod_eq_of_lt hY] at S1
  have S2 := split_key (Z : Int) hz
  rw [Int.toNat_natCast] at S2
  have v1 := ev_lt 32 Z; have v2 := ev_lt 32 (Z / 2)
  rw [show (2 : Nat) ^ 32 = 4294967296 from rfl] at v1 v2
  have Q := key_any (ev 32 Z : Int) (ev 32 (Z / 2) : Int) ⟨by omega, by omega⟩ ⟨by omega, by omega⟩
  have m := mk2_ev 32 Z
  rw [show (4 : Nat) ^ 32 = 18446744073709551616 from rfl, Nat.mod_eq_of_lt hZ] at m
  have qe : key (ev 32 Z : Int) (ev 32 (Z / 2) : Int) = (Z : Int) := by unfold key; rw [Int.toNat_natCast, Int.toNat_natCast, m]
  rw [qe] at Q
  obtain ⟨p1, p2⟩ := mk2_at 32 k hk
  have hp : 2 ^ k ≤ 2147483648 := by
    have := Nat.pow_le_pow_right (n := 2) (by decide) (show k ≤ 31 by omega); simpa using this
  have hp2 : 2 ^ (2 * k) ≤ 4611686018427387904 := by
    have := Nat.pow_le_pow_right (n := 2) (by decide) (show 2 * k ≤ 62 by omega); simpa using this
  have z0 : Hf 0 := ⟨by omega, by omega⟩
  have hP : Hf ((2 ^ k : Nat) : Int) := by generalize 2 ^ k = t at hp; exact ⟨by omega, by omega⟩
  have A := key_any ((2 ^ k : Nat) : Int) 0 hP z0
  have D := key_any 0 ((2 ^ k : Nat) : Int) z0 hP
  rw [show key ((2 ^ k : Nat) : Int) 0 = ((2 ^ (2 * k) : Nat) : Int) by unfold key; rw [Int.toNat_natCast]; exact congrArg _ p1] at A
  rw [show key 0 ((2 ^ k : Nat) : Int) = ((2 * 2 ^ (2 * k) : Nat) : Int) by unfold key; rw [Int.toNat_natCast]; exact congrArg _ p2] at D
  have pc : ∀ j : Nat, (2 : Int) ^ j = ((2 ^ j : Nat) : Int) := fun j => by simp
  have t0 : ∀ k y, mk2 k 0 y = mk2 k y 0 * 2 := by
    intro k
    induction k with
    | zero => intro y; rfl
    | succ k ih => intro y; show 0 % 2 + 2 * (y % 2) + 4 * mk2 k (0 / 2) (y / 2) = (y % 2 + 2 * (0 % 2) + 4 * mk2 k (y / 2) (0 / 2)) * 2; rw [Nat.zero_div, ih]; omega
  refine mortonBack_core (X : Int) (Y : Int) (Z : Int) (L : Int) (key X Y) (ev 32 Z : Int) (ev 32 (Z / 2) : Int) ((2 ^ k : Nat) : Int) ((2 ^ (2 * k) : Nat) : Int) ((2 * 2 ^ (2 * k) : Nat) : Int) (key X 0) (key 0 Y) k hk (IntWalk.i64_in _ (by omega)) el ?_ ?_ ?_ ?_ w (key_any _ _ hx hy) S1 S2 Q A D (key_any _ _ hx z0) (key_any _ _ z0 hy) mawake_any
  · rw [pc, Int.one_mul, wrap_u32]; generalize 2 ^ k = t at *; omega
  · rw [pc, Int.one_mul, wrap_u64]; generalize 2 ^ (2 * k) = t at *; omega
  · rw [pc, wrap_u64]; generalize 2 ^ (2 * k) = t at *; omega
  · show bits .or .u64 ((mk2 32 X 0 : Nat) : Int) ((mk2 32 0 Y : Nat) : Int) = ((mk2 32 X Y : Nat) : Int)
    rw [show mk2 32 0 Y = spr Y * 2 from t0 32 Y, show mk2 32 X 0 = spr X from rfl, or64 (spr_lt X) (spr_twice Y)]
    exact congrArg _ (or_key X Y)
theorem wd_wf2 {n : Int} (h : (Lit.int .u64 n).wf = true) : Wd n := by
  simp [Lit.wf, IntKind.min, IntKind.max, IntKind.bits, IntKind.signed] at h; unfold Wd; omega
open Go.ChangeShapes Go.WideShapes Go.ChangeAt Go.RowKit Go.Joins
set_option maxRecDepth 100000 in
theorem mortonBack_lifted (os : Os) (started : os.Started) (H : Type) (enc : TypeId × Value → H) :
    ReturnsInHanded {} Try.checked os 4 .any (Rows.mortonBackSpec.pre6 enc Try.prog Try.f4 Rows.mortonBackRow.domain false) (Rows.mortonBackSpec.post enc Try.prog Try.f4 false true false false) := by
  refine returnsInHanded_of_change (C := Try.checked) Try.own started kr Try.func4
    (ChangeSpec.witness6 (enc := enc) (C := Try.checked) false ⟨#[], #[.int .u32 0, .int .u32 0, .int .u64 0, .int .u8 0], []⟩ 8 kr kr kr kr) ?_
  intro W base args ds gs before hval0 hW hcnd _
  have hval : ∀ (j : Nat) t v, Try.f4.params[j]? = some t → args[j]? = some v → Value.okWide Try.prog W .any base t v := hval0
  have hW' := hW
  obtain ⟨p, q, hA0, hV, rfl, hfz, hnd⟩ := hW
  have hA : DataW.TrodAll enc Try.prog W 0 (fun _ => true) true Try.f4.params.toList args.toList ds p := hA0
  rw [Try.params4] at hA hval
  obtain ⟨v0, v1, v2, v3, d0, d1, d2, d3, p0, p1, p2, p3, rfl, rfl, rfl, h0, h1, h2, h3⟩ := trodAll_four hA
  obtain ⟨rfl, rfl⟩ := trodVars_none hV
  obtain ⟨x, rfl, rfl, rfl, k00⟩ := open_int Try.underlying22 (hval 0 22 v0 rfl rfl) h0
  obtain ⟨y, rfl, rfl, rfl, k10⟩ := open_int Try.underlying22 (hval 1 22 v1 rfl rfl) h1
  obtain ⟨z, rfl, rfl, rfl, k20⟩ := open_int Try.underlying23 (hval 2 23 v2 rfl rfl) h2
  obtain ⟨l, rfl, rfl, rfl, k30⟩ := open_int Try.underlying5 (hval 3 5 v3 rfl rfl) h3
  clear hA0 hval0
  simp only [List.append_nil] at hW'
  refine (mortonBack_walk x y z l (hf_wf k00) (hf_wf k10) (wd_wf2 k20) (wf_u8 k30).1 (wf_u8 k30).2 W).mono fun e W' ⟨he, hb⟩ => ?_
  subst he
  exact ⟨_, rfl, _, _, _, [], [], [], hW', trodAll_mk1 (shut_bool Try.underlying4 _), trodAll_mk4 (shut_int Try.underlying22 k00) (shut_int Try.underlying22 k10) (shut_int Try.underlying23 k20) (shut_int Try.underlying5 k30), rfl, hb.frame _, fun h => by cases h⟩
theorem mortonBack_holds : Rows.MortonBackSaid :=
  OpenClaim.holds_of_wide 4 Try.f4 rfl rfl rfl rfl rfl rfl rfl ⟨rfl, rfl, rfl, rfl, rfl⟩ rfl rfl rfl rfl rfl kr Try.func4 kr
    (of_decide_eq_true kr) (by unfold Func.isWrapper; first | (rw [if_pos (by decide +kernel)]; kernel_rfl) | (rw [if_neg (by decide +kernel)]; exact ⟨rfl, rfl⟩))
    (fun os started H enc _ => mortonBack_lifted os started H enc)
end Go.Proofs.Ytgiiddioinhfiaa
