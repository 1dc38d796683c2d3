/- A direction is as long as one, within a billionth of a billionth, nearly; the table's each have half the angle of the one ahead: at any commit whose code this is, for every angle. -/
import Derived.Test.YtmelipbanbihdaaTurnNumM
import Derived.Test.YtmelipbanbihdaaTurnMirrorM
import Derived.Test.YtmelipbanbihdaaFixOpen
import Derived.Test.YtmelipbanbihdaaTurnBaseM
import Derived.Test.YtmelipbanbihdaaRefFix2
import Derived.Test.YtmelipbanbihdaaRefFix1
namespace Go.Proofs.Ytmelipbanbihdaa
open Go.RowKit
theorem mulr_in {x y : Int} (hx : In1 x) (hy : In1 y) : 0 ≤ mulr x y ∧ mulr x y ≤ 18446744073709551616 := by
  obtain ⟨r, h, b⟩ := mulr_near x y
  have p := Int.mul_nonneg hx.1 hy.1
  have q := Int.mul_le_mul hx.2 hy.2 hy.1 (show (0 : Int) ≤ 18446744073709551616 by decide)
  unfold Bd at b; omega
theorem dd_most (j : Nat) (h : j < 14) : dd j ≤ 9957 := by
  rcases fourteen h with rfl | rfl | rfl | rfl | rfl | rfl | rfl | rfl | rfl | rfl | rfl | rfl | rfl | rfl <;> decide
/-- A direction of the table twice is the one ahead of it, nearly. -/
theorem half_facts (J : Nat) (h : J + 1 < 14) : Bd (mulr (tcos (J + 2)) (tcos (J + 2)) - mulr (tsin (J + 1)) (tsin (J + 1)) - tcos (J + 1)) 4294967296 ∧ Bd (mulr (tcos (J + 2)) (tsin (J + 1)) + mulr (tcos (J + 2)) (tsin (J + 1)) - tsin J) 4294967296 := by
  obtain ⟨d1, d2⟩ := dir_twice (J + 1) h
  have hm := dd_most (J + 1) h
  obtain ⟨r1, h1, b1⟩ := mulr_near (tcos (J + 2)) (tcos (J + 2))
  obtain ⟨r2, h2, b2⟩ := mulr_near (tsin (J + 1)) (tsin (J + 1))
  obtain ⟨r3, h3, b3⟩ := mulr_near (tcos (J + 2)) (tsin (J + 1))
  have d1' : Bd (tcos (J + 2) * tcos (J + 2) - tsin (J + 1) * tsin (J + 1) - 18446744073709551616 * tcos (J + 1)) (dd (J + 1) * 18446744073709551616) := d1
  have d2' : Bd (2 * (tcos (J + 2) * tsin (J + 1)) - 18446744073709551616 * tsin J) (dd (J + 1) * 18446744073709551616) := d2
  clear d1 d2
  unfold Bd at *
  constructor <;> omega
theorem less_false {x : Int} {q : Int} (q0 : 0 ≤ q) (q1 : q < 18446744073709551616) (h : Bd x q) (w : World) : Calls Try.prog 23 #[.agg #[.int .u64 0, .int .u64 q], .agg #[.int .u64 (wd x.natAbs 1), .int .u64 (wd x.natAbs 0)]] w fun e w' => e = .returned (.bool false) ∧ Below w.heap.size w w' := by
  have A3 := less_any 0 q _ _ ⟨by omega, by omega⟩ ⟨q0, q1⟩ (wd_wd x.natAbs 1) (wd_wd x.natAbs 0) w
  rw [v2_wd, show v2 0 q = q.toNat by unfold v2; omega, decide_eq_false (by unfold Bd at h; omega)] at A3
  exact A3
set_option maxRecDepth 20000 in
set_option maxHeartbeats 60000000 in
theorem turnLong_core (dxh dxl dyh dyl lh ll ph pl sh sl m1 m0 a : Int) (v0 : World)
    (C1 : ∀ W, Calls Try.prog 9 #[.int .i64 a] W fun e w' => e = .returned (.agg #[.int .i64 dxh, .int .u64 dxl, .int .i64 dyh, .int .u64 dyl]) ∧ Below W.heap.size W w')
    (C2 : ∀ W, Calls Try.prog 20 #[.agg #[.int .i64 dxh, .int .u64 dxl, .int .i64 dyh, .int .u64 dyl]] W fun e w' => e = .returned (.agg #[.int .i64 lh, .int .u64 ll, .int .i64 0]) ∧ Below W.heap.size W w')
    (C3 : ∀ W, Calls Try.prog 22 #[.int .i64 1] W fun e w' => e = .returned (.agg #[.int .i64 ph, .int .u64 pl]) ∧ Below W.heap.size W w')
    (C4 : ∀ W, Calls Try.prog 21 #[.agg #[.int .i64 lh, .int .u64 ll], .agg #[.int .i64 ph, .int .u64 pl]] W fun e w' => e = .returned (.agg #[.int .i64 sh, .int .u64 sl, .int .i64 0]) ∧ Below W.heap.size W w')
    (C5 : ∀ W, Calls Try.prog 24 #[.agg #[.int .i64 sh, .int .u64 sl]] W fun e w' => e = .returned (.agg #[.int .u64 m1, .int .u64 m0]) ∧ Below W.heap.size W w')
    (C6 : ∀ W, Calls Try.prog 23 #[.agg #[.int .u64 0, .int .u64 4096], .agg #[.int .u64 m1, .int .u64 m0]] W fun e w' => e = .returned (.bool false) ∧ Below W.heap.size W w')
    (C7 : ∀ W, Calls Try.prog 11 #[] W fun e w' => e = .returned (.bool true) ∧ Below W.heap.size W w') :
    Calls Try.prog 5 #[.int .i64 a] v0 fun e w' => e = .returned (.bool true) ∧ Below v0.heap.size v0 w' := by
  have K1 := Lib.hid C1; have K2 := Lib.hid C2; have K3 := Lib.hid C3; have K4 := Lib.hid C4; have K5 := Lib.hid C5; have K6 := Lib.hid C6; have K7 := Lib.hid C7
  clear C1 C2 C3 C4 C5 C6 C7
  have KT := Lib.hid table_any
  go_enter Try.func5, Try.ntmps5
  go_wp2_with fail
  (with_reducible refine (K1.out _).mono ?_); rintro e w1 ⟨rfl, hb⟩; obtain ⟨hclw1, hfrw1⟩ := bcell hb; have sxw1_0 : v0.heap.size ≤ w1.heap.size := (by first | omega | (have hz := hb.size; (try simp at hz); omega)); have HBw1 : Hid (Below v0.heap.size v0 w1) := (bl_trans (by repeat (first | with_reducible exact Below.refl _ _ | with_reducible exact Hid.out (by assumption) | with_reducible refine Below.setCell ?_ (by first | (simp; done) | omega | (simp <;> omega)) _ | with_reducible refine bl_al ?_ _ | with_reducible apply Below.drew)) hb); clear hb
  go_wp2_with fail
  (with_reducible refine (K2.out _).mono ?_); rintro e w2 ⟨rfl, hb⟩; obtain ⟨hclw2, hfrw2⟩ := bcell hb; have sxw2_0 : w1.heap.size ≤ w2.heap.size := (by first | omega | (have hz := hb.size; (try simp at hz); omega)); have HBw2 : Hid (Below v0.heap.size v0 w2) := (bl_trans (by repeat (first | with_reducible exact Below.refl _ _ | with_reducible exact Hid.out (by assumption) | with_reducible refine Below.setCell ?_ (by first | (simp; done) | omega | (simp <;> omega)) _ | with_reducible refine bl_al ?_ _ | with_reducible apply Below.drew)) hb); clear hb
  go_upto_region 2 with fail
  refine name_world (P := fun W => Code.wp _ _ _ _ W) _ (fun R1 hR1 => ?_)
  have zR1_l : w2.heap.size < R1.heap.size := by rw [hR1]; first | omega | (simp <;> omega)
  have yR1_l : w2.heap.size < R1.heap.size + 1 := by omega
  have yyR1_l : w2.heap.size < R1.heap.size + 1 + 1 := by omega
  have cR1_l_0 : R1.cell? ⟨w2.heap.size, 0, none⟩ = some (.int .i64 lh) := by rw [hR1]; first | assumption | (simp [go_sem, *]; done)
  have cR1_l_1 : R1.cell? ⟨w2.heap.size, 1, none⟩ = some (.int .u64 ll) := by rw [hR1]; first | assumption | (simp [go_sem, *]; done)
  have cR1_l_2 : R1.cell? ⟨w2.heap.size, 2, none⟩ = some (.int .i64 0) := by rw [hR1]; first | assumption | (simp [go_sem, *]; done)
  have HBR1 : Hid (Below v0.heap.size v0 R1) := by rw [hR1]; show Below _ _ _; exact (by repeat (first | with_reducible exact Below.refl _ _ | with_reducible exact Hid.out (by assumption) | with_reducible refine Below.setCell ?_ (by first | (simp; done) | omega | (simp <;> omega)) _ | with_reducible refine bl_al ?_ _ | with_reducible apply Below.drew))
  clear hR1
  clear sxw1_0 hclw1 hfrw1 HBw1 sxw2_0 hclw2 hfrw2 HBw2
  go_cut [4] (fun slot0 X1 => ∃ bX1s : Nat, slot0 = .pointer (some ⟨bX1s, 0, none⟩) ∧ R1.heap.size ≤ bX1s ∧ Below R1.heap.size R1 X1 ∧ Has (bX1s) [.int .i64 sh, .int .u64 sl, .int .i64 0] X1)
  case first =>
    clear HBR1
    have ltt : ∀ n : Nat, n < n + 1 + 1 := fun n => by omega
    have lttt : ∀ n : Nat, n + 1 < n + 1 + 1 := fun n => by omega
    go_region_held3 (fun v0' => v0'.cell? ⟨w2.heap.size, 0, none⟩ = some (.int .i64 lh) ∧ v0'.cell? ⟨w2.heap.size, 1, none⟩ = some (.int .u64 ll) ∧ v0'.cell? ⟨w2.heap.size, 2, none⟩ = some (.int .i64 0)) (first | (simp [*, go_sem]; done) | (simp [*, go_sem, World.cell?_alloc_past]; done))
      (first
        | (go_at_call 22; (with_reducible refine (K3.out _).mono ?_); rintro e w3 ⟨rfl, hb⟩; (first | (with_reducible (obtain ⟨hclw3, hfrw3⟩ := bcell_drew hb)) | (obtain ⟨hclw3, hfrw3⟩ := bcell hb)); have zw3_l : w2.heap.size < w3.heap.size := (by first | omega | (have hz := hb.size; (try simp at hz); omega)); have yw3_l : w2.heap.size < w3.heap.size + 1 := (by omega); have yyw3_l : w2.heap.size < w3.heap.size + 1 + 1 := (by omega); (try have sw3_0 : R1.heap.size < w3.heap.size := (by first | omega | (have hz := hb.size; (try simp at hz); omega))); (try have syw3_0 : R1.heap.size < w3.heap.size + 1 := (by omega)); (try have stw3_0 : R1.heap.size + 1 < w3.heap.size := (by first | omega | (have hz := hb.size; (try simp at hz); omega))); have sxw3_0 : R1.heap.size ≤ w3.heap.size := (by first | omega | (have hz := hb.size; (try simp at hz); omega)); have HBw3 : Hid (Below R1.heap.size R1 w3) := (bl_trans (by repeat (first | with_reducible exact Below.refl _ _ | with_reducible exact Hid.out (by assumption) | with_reducible refine Below.setCell ?_ (by first | (simp; done) | omega | (simp <;> omega)) _ | with_reducible refine bl_al ?_ _ | with_reducible apply Below.drew)) hb); clear hb; clear K3)
        | (go_at_call 21; (with_reducible refine (K4.out _).mono ?_); rintro e w4 ⟨rfl, hb⟩; obtain ⟨hclw4, hfrw4⟩ := bcell hb; have zw4_l : w2.heap.size < w4.heap.size := (by first | omega | (have hz := hb.size; (try simp at hz); omega)); have yw4_l : w2.heap.size < w4.heap.size + 1 := (by omega); have yyw4_l : w2.heap.size < w4.heap.size + 1 + 1 := (by omega); (try have sw4_0 : R1.heap.size < w4.heap.size := (by first | omega | (have hz := hb.size; (try simp at hz); omega))); (try have syw4_0 : R1.heap.size < w4.heap.size + 1 := (by omega)); (try have stw4_0 : R1.heap.size + 1 < w4.heap.size := (by first | omega | (have hz := hb.size; (try simp at hz); omega))); have sxw4_0 : R1.heap.size ≤ w4.heap.size := (by first | omega | (have hz := hb.size; (try simp at hz); omega)); (try have sw4_w3 : w3.heap.size < w4.heap.size := (by first | omega | (have hz := hb.size; (try simp at hz); omega))); (try have syw4_w3 : w3.heap.size < w4.heap.size + 1 := (by omega)); (try have stw4_w3 : w3.heap.size + 1 < w4.heap.size := (by first | omega | (have hz := hb.size; (try simp at hz); omega))); have sxw4_w3 : w3.heap.size ≤ w4.heap.size := (by first | omega | (have hz := hb.size; (try simp at hz); omega)); have HBw4 : Hid (Below R1.heap.size R1 w4) := (bl_trans (by repeat (first | with_reducible exact Below.refl _ _ | with_reducible exact Hid.out (by assumption) | with_reducible refine Below.setCell ?_ (by first | (simp; done) | omega | (simp <;> omega)) _ | with_reducible refine bl_al ?_ _ | with_reducible apply Below.drew)) hb); clear hb; clear K4))
    all_goals (rename_i hHeld; clear hHeld; go_wp2_with fail; go_meet; exact ⟨_, rfl, (by first | omega | (simp <;> omega)), (by repeat (first | with_reducible exact Below.refl _ _ | with_reducible exact Hid.out (by assumption) | with_reducible refine Below.setCell ?_ (by first | (simp; done) | omega | (simp <;> omega)) _ | with_reducible refine bl_al ?_ _ | with_reducible apply Below.drew)), Has.mk3 (by first | (simp <;> omega) | omega) (by simp [go_sem, *]) (by simp [go_sem, *]) (by simp [go_sem, *])⟩)
  case rest =>
  obtain ⟨X1, hX1⟩ : ∃ X, X = wc := ⟨wc, rfl⟩
  subst hX1
  obtain ⟨bX1s, rfl, m_bX1s, hX, g_s⟩ := hcut
  have zX1_l : w2.heap.size < X1.heap.size := Nat.lt_of_lt_of_le zR1_l hX.size
  have cX1_l_0 : X1.cell? ⟨w2.heap.size, 0, none⟩ = some (.int .i64 lh) := by rw [(bcell hX).1 _ _ zR1_l]; exact cR1_l_0
  have cX1_l_1 : X1.cell? ⟨w2.heap.size, 1, none⟩ = some (.int .u64 ll) := by rw [(bcell hX).1 _ _ zR1_l]; exact cR1_l_1
  have cX1_l_2 : X1.cell? ⟨w2.heap.size, 2, none⟩ = some (.int .i64 0) := by rw [(bcell hX).1 _ _ zR1_l]; exact cR1_l_2
  have zX1_s := g_s.1; have cX1_s_0 := g_s.2 0 _ rfl; have cX1_s_1 := g_s.2 1 _ rfl; have cX1_s_2 := g_s.2 2 _ rfl; clear g_s
  have HBX1 : Hid (Below v0.heap.size v0 X1) := bl_trans HBR1.out hX
  clear hX
  clear zR1_l yR1_l yyR1_l cR1_l_0 cR1_l_1 cR1_l_2 HBR1 m_bX1s
  go_wp2_with fail
  (with_reducible refine (KT.out _).mono ?_); rintro e w5 ⟨g, cp, rfl, ht, hlo, hb⟩; obtain ⟨hclw5, hfrw5⟩ := bcell hb; have zw5_l : w2.heap.size < w5.heap.size := (by first | omega | (have hz := hb.size; (try simp at hz); omega)); have yw5_l : w2.heap.size < w5.heap.size + 1 := (by omega); have yyw5_l : w2.heap.size < w5.heap.size + 1 + 1 := (by omega); have zw5_s : bX1s < w5.heap.size := (by first | omega | (have hz := hb.size; (try simp at hz); omega)); have yw5_s : bX1s < w5.heap.size + 1 := (by omega); have yyw5_s : bX1s < w5.heap.size + 1 + 1 := (by omega); have sxw5_0 : X1.heap.size ≤ w5.heap.size := (by first | omega | (have hz := hb.size; (try simp at hz); omega)); have HBw5 : Hid (Below v0.heap.size v0 w5) := (bl_trans (by repeat (first | with_reducible exact Below.refl _ _ | with_reducible exact Hid.out (by assumption) | with_reducible refine Below.setCell ?_ (by first | (simp; done) | omega | (simp <;> omega)) _ | with_reducible refine bl_al ?_ _ | with_reducible apply Below.drew)) hb); have HT := Lib.hid ht; clear ht hlo; clear hb
  go_wp2_with fail
  (with_reducible refine (K5.out _).mono ?_); rintro e w6 ⟨rfl, hb⟩; obtain ⟨hclw6, hfrw6⟩ := bcell hb; have zw6_l : w2.heap.size < w6.heap.size := (by first | omega | (have hz := hb.size; (try simp at hz); omega)); have yw6_l : w2.heap.size < w6.heap.size + 1 := (by omega); have yyw6_l : w2.heap.size < w6.heap.size + 1 + 1 := (by omega); have zw6_s : bX1s < w6.heap.size := (by first | omega | (have hz := hb.size; (try simp at hz); omega)); have yw6_s : bX1s < w6.heap.size + 1 := (by omega); have yyw6_s : bX1s < w6.heap.size + 1 + 1 := (by omega); have sxw6_0 : w5.heap.size ≤ w6.heap.size := (by first | omega | (have hz := hb.size; (try simp at hz); omega)); have HBw6 : Hid (Below v0.heap.size v0 w6) := (bl_trans (by repeat (first | with_reducible exact Below.refl _ _ | with_reducible exact Hid.out (by assumption) | with_reducible refine Below.setCell ?_ (by first | (simp; done) | omega | (simp <;> omega)) _ | with_reducible refine bl_al ?_ _ | with_reducible apply Below.drew)) hb); have HTw6 := Lib.hid (Tab.step HT.out (bl_trans (by repeat (first | with_reducible exact Below.refl _ _ | with_reducible exact Hid.out (by assumption) | with_reducible refine Below.setCell ?_ (by first | (simp; done) | omega | (simp <;> omega)) _ | with_reducible refine bl_al ?_ _ | with_reducible apply Below.drew)) hb)); clear hb
  go_wp2_with fail
  (with_reducible refine (K6.out _).mono ?_); rintro e w7 ⟨rfl, hb⟩; obtain ⟨hclw7, hfrw7⟩ := bcell hb; have zw7_l : w2.heap.size < w7.heap.size := (by first | omega | (have hz := hb.size; (try simp at hz); omega)); have yw7_l : w2.heap.size < w7.heap.size + 1 := (by omega); have yyw7_l : w2.heap.size < w7.heap.size + 1 + 1 := (by omega); have zw7_s : bX1s < w7.heap.size := (by first | omega | (have hz := hb.size; (try simp at hz); omega)); have yw7_s : bX1s < w7.heap.size + 1 := (by omega); have yyw7_s : bX1s < w7.heap.size + 1 + 1 := (by omega); have sxw7_0 : w6.heap.size ≤ w7.heap.size := (by first | omega | (have hz := hb.size; (try simp at hz); omega)); have HBw7 : Hid (Below v0.heap.size v0 w7) := (bl_trans (by repeat (first | with_reducible exact Below.refl _ _ | with_reducible exact Hid.out (by assumption) | with_reducible refine Below.setCell ?_ (by first | (simp; done) | omega | (simp <;> omega)) _ | with_reducible refine bl_al ?_ _ | with_reducible apply Below.drew)) hb); have HTw7 := Lib.hid (Tab.step HTw6.out (bl_trans (by repeat (first | with_reducible exact Below.refl _ _ | with_reducible exact Hid.out (by assumption) | with_reducible refine Below.setCell ?_ (by first | (simp; done) | omega | (simp <;> omega)) _ | with_reducible refine bl_al ?_ _ | with_reducible apply Below.drew)) hb)); clear hb
  go_upto_region 7 with fail
  refine name_world (P := fun W => Code.wp _ _ _ _ W) _ (fun w hw => ?_)
  have HB0 : Hid (Below v0.heap.size v0 w) := by rw [hw]; exact HBw7
  have HTw : Hid (Tab g w) := by rw [hw]; exact HTw7
  clear hw
  go_loopg [6] 13 (fun k iv wr => ∃ I : Nat, I + k = 14 ∧ 1 ≤ I ∧ iv = .int .i64 (I : Int) ∧ Below w.heap.size w wr)
  case atStart => exact ⟨1, rfl, Nat.le_refl _, rfl, Below.refl _ _⟩
  case round =>
    obtain ⟨I, hk, hI1, rfl, hbl⟩ := hrel
    have HB := Lib.hid hbl
    clear hbl
    rcases gk with _ | k
    · obtain rfl : I = 14 := by omega
      go_wp2_with fail
      (with_reducible refine (K7.out _).mono ?_); rintro e w9 ⟨rfl, hb⟩
      have HB9 := Lib.hid (bl_trans (bl_trans HB0.out HB.out) hb)
      clear hb
      go_wp2_with fail
      go_returns
      exact ⟨rfl, HB9.out⟩
    · obtain ⟨J, hJ⟩ : ∃ J, I = J + 1 := ⟨I - 1, by omega⟩
      have hIJ : (I : Int) - 1 = (J : Int) := by omega
      have wIJ : IntKind.i64.wrap (J : Int) = (J : Int) := IntWalk.i64_in _ (by omega)
      have wI : IntKind.i64.wrap ((I : Int) + 1) = (I : Int) + 1 := IntWalk.i64_in _ (by omega)
      have i0 : (0 : Int) ≤ (I : Int) := by omega
      have i14 : (I : Int) < 14 := by omega
      have j0 : (0 : Int) ≤ (J : Int) := by omega
      have j14 : (J : Int) < 14 := by omega
      have HK : Hid (I + 1 + k = 14) := by show _ = _; omega
      have hcv := cells_vec
      have hfg := field_got
      obtain ⟨T0, T1, T2, T3⟩ := HTw.out.2 I (by omega)
      obtain ⟨U0, U1, U2, U3⟩ := HTw.out.2 J (by omega)
      have hf := half_facts J (by omega)
      have c1 := tcos_in (J + 2); have c2 := tsin_in (J + 1); have c3 := tcos_in (J + 1); have c4 := tsin_in J
      rw [show I + 1 = J + 2 by omega] at T0 T1
      rw [show tsin I = tsin (J + 1) by rw [hJ]] at T2 T3
      rw [← (bcell HB.out).1 _ _ HTw.out.1] at T0 T1 T2 T3 U0 U1 U2 U3
      have qg : g < wr.heap.size := Nat.lt_of_lt_of_le HTw.out.1 HB.out.size
      clear hk hI1 hJ
      generalize tcos (J + 2) = c at *
      generalize tsin (J + 1) = s at *
      generalize tcos (J + 1) = c0 at *
      generalize tsin J = s0 at *
      obtain ⟨p1, p2⟩ := mulr_in c1 c1
      obtain ⟨p3, p4⟩ := mulr_in c2 c2
      obtain ⟨p5, p6⟩ := mulr_in c1 c2
      have B1 := rmul_any c c c1.my c1.my; have B2 := rmul_any s s c2.my c2.my; have B4 := rmul_any c s c1.my c2.my
      obtain ⟨f1, f2⟩ := hf
      have g1 := c3.my; have g2 := c4.my
      clear c1 c2 c3 c4
      generalize mulr c c = a1 at *
      generalize mulr s s = a2 at *
      generalize mulr c s = y at *
      have n1 : My a1 := by unfold My; omega
      have n2 : My a2 := by unfold My; omega
      have n4 : My y := by unfold My; omega
      have n3 : My (a1 - a2) := by unfold My; omega
      have n6 : My (y + y) := by unfold My; omega
      rw [ov_in n1, oe_in n1] at B1
      rw [ov_in n2, oe_in n2] at B2
      rw [ov_in n4, oe_in n4] at B4
      have B3 := rsub_any a1 a2 n1 n2
      rw [ov_in n3, oe_in n3] at B3
      have B6 := radd_any y y n4 n4
      rw [ov_in n6, oe_in n6] at B6
      have n5 : My (a1 - a2 - c0) := by unfold Bd at f1; unfold My; omega
      have n7 : My (y + y - s0) := by unfold Bd at f2; unfold My; omega
      have B5 := rsub_any (a1 - a2) c0 n3 g1
      rw [ov_in n5, oe_in n5] at B5
      have B7 := rsub_any (y + y) s0 n6 g2
      rw [ov_in n7, oe_in n7] at B7
      have B8 := rmag_any (a1 - a2 - c0) n5
      have B9 := less_false (q := 4294967296) (by decide) (by decide) f1
      have B10 := rmag_any (y + y - s0) n7
      have B11 := less_false (q := 4294967296) (by decide) (by decide) f2
      clear n1 n2 n3 n4 n5 n6 n7 f1 f2 g1 g2 p1 p2 p3 p4 p5 p6
      generalize wd (a1 - a2 - c0).natAbs 1 = q1 at *
      generalize wd (a1 - a2 - c0).natAbs 0 = q0 at *
      generalize wd (y + y - s0).natAbs 1 = q3 at *
      generalize wd (y + y - s0).natAbs 0 = q2 at *
      generalize y + y - s0 = v at *
      generalize y + y = y2 at *
      generalize a1 - a2 - c0 = u at *
      generalize a1 - a2 = x at *
      have A1 := Lib.hid B1; have A2 := Lib.hid B2; have A3 := Lib.hid B3; have A4 := Lib.hid B4; have A5 := Lib.hid B5; have A6 := Lib.hid B6; have A7 := Lib.hid B7; have A8 := Lib.hid B8; have A9 := Lib.hid B9; have A10 := Lib.hid B10; have A11 := Lib.hid B11
      clear B1 B2 B3 B4 B5 B6 B7 B8 B9 B10 B11
      go_upto_region 9 with fail
      refine name_world (P := fun W => Code.wp _ _ _ _ W) _ (fun R1 hR1 => ?_)
      have zR1_t : g < R1.heap.size := by rw [hR1]; first | omega | (simp <;> omega)
      have yR1_t : g < R1.heap.size + 1 := by omega
      have yyR1_t : g < R1.heap.size + 1 + 1 := by omega
      have cR1_t_0 : R1.cell? ⟨g, I * 4, none⟩ = some (.int .i64 (fh c)) := by rw [hR1]; first | assumption | (simp [go_sem, *]; done)
      have cR1_t_1 : R1.cell? ⟨g, I * 4 + 1, none⟩ = some (.int .u64 (fl c)) := by rw [hR1]; first | assumption | (simp [go_sem, *]; done)
      have cR1_t_2 : R1.cell? ⟨g, I * 4 + 2, none⟩ = some (.int .i64 (fh s)) := by rw [hR1]; first | assumption | (simp [go_sem, *]; done)
      have cR1_t_3 : R1.cell? ⟨g, I * 4 + 3, none⟩ = some (.int .u64 (fl s)) := by rw [hR1]; first | assumption | (simp [go_sem, *]; done)
      have zR1_o : g < R1.heap.size := by rw [hR1]; first | omega | (simp <;> omega)
      have yR1_o : g < R1.heap.size + 1 := by omega
      have yyR1_o : g < R1.heap.size + 1 + 1 := by omega
      have cR1_o_0 : R1.cell? ⟨g, J * 4, none⟩ = some (.int .i64 (fh c0)) := by rw [hR1]; first | assumption | (simp [go_sem, *]; done)
      have cR1_o_1 : R1.cell? ⟨g, J * 4 + 1, none⟩ = some (.int .u64 (fl c0)) := by rw [hR1]; first | assumption | (simp [go_sem, *]; done)
      have cR1_o_2 : R1.cell? ⟨g, J * 4 + 2, none⟩ = some (.int .i64 (fh s0)) := by rw [hR1]; first | assumption | (simp [go_sem, *]; done)
      have cR1_o_3 : R1.cell? ⟨g, J * 4 + 3, none⟩ = some (.int .u64 (fl s0)) := by rw [hR1]; first | assumption | (simp [go_sem, *]; done)
      have HBR1 : Hid (Below w.heap.size w R1) := by rw [hR1]; show Below _ _ _; exact (by repeat (first | with_reducible exact Below.refl _ _ | with_reducible exact Hid.out (by assumption) | with_reducible refine Below.setCell ?_ (by first | (simp; done) | omega | (simp <;> omega)) _ | with_reducible refine bl_al ?_ _ | with_reducible apply Below.drew))
      clear hR1
      go_cut [7] (fun slot0 X1 => ∃ bX1x : Nat, slot0 = .pointer (some ⟨bX1x, 0, none⟩) ∧ R1.heap.size ≤ bX1x ∧ Below R1.heap.size R1 X1 ∧ Has (bX1x) [.int .i64 (fh x), .int .u64 (fl x), .int .i64 0] X1)
      case first =>
        clear HBR1
        have ltt : ∀ n : Nat, n < n + 1 + 1 := fun n => by omega
        have lttt : ∀ n : Nat, n + 1 < n + 1 + 1 := fun n => by omega
        go_region_held3 (fun w' => w'.cell? ⟨g, I * 4, none⟩ = some (.int .i64 (fh c)) ∧ w'.cell? ⟨g, I * 4 + 1, none⟩ = some (.int .u64 (fl c)) ∧ w'.cell? ⟨g, I * 4 + 2, none⟩ = some (.int .i64 (fh s)) ∧ w'.cell? ⟨g, I * 4 + 3, none⟩ = some (.int .u64 (fl s))) (first | (simp [*, go_sem]; done) | (simp [*, go_sem, World.cell?_alloc_past]; done))
          (first
            | (go_at_call 25; (with_reducible refine (A1.out _).mono ?_); rintro e w1 ⟨rfl, hb⟩; (first | (with_reducible (obtain ⟨hclw1, hfrw1⟩ := bcell_drew hb)) | (obtain ⟨hclw1, hfrw1⟩ := bcell hb)); have zw1_t : g < w1.heap.size := (by first | omega | (have hz := hb.size; (try simp at hz); omega)); have yw1_t : g < w1.heap.size + 1 := (by omega); have yyw1_t : g < w1.heap.size + 1 + 1 := (by omega); (try have sw1_0 : R1.heap.size < w1.heap.size := (by first | omega | (have hz := hb.size; (try simp at hz); omega))); (try have syw1_0 : R1.heap.size < w1.heap.size + 1 := (by omega)); (try have stw1_0 : R1.heap.size + 1 < w1.heap.size := (by first | omega | (have hz := hb.size; (try simp at hz); omega))); have sxw1_0 : R1.heap.size ≤ w1.heap.size := (by first | omega | (have hz := hb.size; (try simp at hz); omega)); have HBw1 : Hid (Below R1.heap.size R1 w1) := (bl_trans (by repeat (first | with_reducible exact Below.refl _ _ | with_reducible exact Hid.out (by assumption) | with_reducible refine Below.setCell ?_ (by first | (simp; done) | omega | (simp <;> omega)) _ | with_reducible refine bl_al ?_ _ | with_reducible apply Below.drew)) hb); clear hb)
            | (go_at_call 25; (with_reducible refine (A2.out _).mono ?_); rintro e w2 ⟨rfl, hb⟩; obtain ⟨hclw2, hfrw2⟩ := bcell hb; have zw2_t : g < w2.heap.size := (by first | omega | (have hz := hb.size; (try simp at hz); omega)); have yw2_t : g < w2.heap.size + 1 := (by omega); have yyw2_t : g < w2.heap.size + 1 + 1 := (by omega); (try have sw2_0 : R1.heap.size < w2.heap.size := (by first | omega | (have hz := hb.size; (try simp at hz); omega))); (try have syw2_0 : R1.heap.size < w2.heap.size + 1 := (by omega)); (try have stw2_0 : R1.heap.size + 1 < w2.heap.size := (by first | omega | (have hz := hb.size; (try simp at hz); omega))); have sxw2_0 : R1.heap.size ≤ w2.heap.size := (by first | omega | (have hz := hb.size; (try simp at hz); omega)); (try have sw2_w1 : w1.heap.size < w2.heap.size := (by first | omega | (have hz := hb.size; (try simp at hz); omega))); (try have syw2_w1 : w1.heap.size < w2.heap.size + 1 := (by omega)); (try have stw2_w1 : w1.heap.size + 1 < w2.heap.size := (by first | omega | (have hz := hb.size; (try simp at hz); omega))); have sxw2_w1 : w1.heap.size ≤ w2.heap.size := (by first | omega | (have hz := hb.size; (try simp at hz); omega)); have HBw2 : Hid (Below R1.heap.size R1 w2) := (bl_trans (by repeat (first | with_reducible exact Below.refl _ _ | with_reducible exact Hid.out (by assumption) | with_reducible refine Below.setCell ?_ (by first | (simp; done) | omega | (simp <;> omega)) _ | with_reducible refine bl_al ?_ _ | with_reducible apply Below.drew)) hb); clear hb)
            | (go_at_call 21; (with_reducible refine (A3.out _).mono ?_); rintro e w3 ⟨rfl, hb⟩; obtain ⟨hclw3, hfrw3⟩ := bcell hb; have zw3_t : g < w3.heap.size := (by first | omega | (have hz := hb.size; (try simp at hz); omega)); have yw3_t : g < w3.heap.size + 1 := (by omega); have yyw3_t : g < w3.heap.size + 1 + 1 := (by omega); (try have sw3_0 : R1.heap.size < w3.heap.size := (by first | omega | (have hz := hb.size; (try simp at hz); omega))); (try have syw3_0 : R1.heap.size < w3.heap.size + 1 := (by omega)); (try have stw3_0 : R1.heap.size + 1 < w3.heap.size := (by first | omega | (have hz := hb.size; (try simp at hz); omega))); have sxw3_0 : R1.heap.size ≤ w3.heap.size := (by first | omega | (have hz := hb.size; (try simp at hz); omega)); (try have sw3_w1 : w1.heap.size < w3.heap.size := (by first | omega | (have hz := hb.size; (try simp at hz); omega))); (try have syw3_w1 : w1.heap.size < w3.heap.size + 1 := (by omega)); (try have stw3_w1 : w1.heap.size + 1 < w3.heap.size := (by first | omega | (have hz := hb.size; (try simp at hz); omega))); have sxw3_w1 : w1.heap.size ≤ w3.heap.size := (by first | omega | (have hz := hb.size; (try simp at hz); omega)); (try have sw3_w2 : w2.heap.size < w3.heap.size := (by first | omega | (have hz := hb.size; (try simp at hz); omega))); (try have syw3_w2 : w2.heap.size < w3.heap.size + 1 := (by omega)); (try have stw3_w2 : w2.heap.size + 1 < w3.heap.size := (by first | omega | (have hz := hb.size; (try simp at hz); omega))); have sxw3_w2 : w2.heap.size ≤ w3.heap.size := (by first | omega | (have hz := hb.size; (try simp at hz); omega)); have HBw3 : Hid (Below R1.heap.size R1 w3) := (bl_trans (by repeat (first | with_reducible exact Below.refl _ _ | with_reducible exact Hid.out (by assumption) | with_reducible refine Below.setCell ?_ (by first | (simp; done) | omega | (simp <;> omega)) _ | with_reducible refine bl_al ?_ _ | with_reducible apply Below.drew)) hb); clear hb))
        all_goals (rename_i hHeld; clear hHeld; go_wp2_with fail; go_meet; exact ⟨_, rfl, (by first | omega | (simp <;> omega)), (by repeat (first | with_reducible exact Below.refl _ _ | with_reducible exact Hid.out (by assumption) | with_reducible refine Below.setCell ?_ (by first | (simp; done) | omega | (simp <;> omega)) _ | with_reducible refine bl_al ?_ _ | with_reducible apply Below.drew)), Has.mk3 (by first | (simp <;> omega) | omega) (by simp [go_sem, *]) (by simp [go_sem, *]) (by simp [go_sem, *])⟩)
      case rest =>
      obtain ⟨X1, hX1⟩ : ∃ X, X = wc := ⟨wc, rfl⟩
      subst hX1
      obtain ⟨bX1x, rfl, m_bX1x, hX, g_x⟩ := hcut
      have zX1_t : g < X1.heap.size := Nat.lt_of_lt_of_le zR1_t hX.size
      have cX1_t_0 : X1.cell? ⟨g, I * 4, none⟩ = some (.int .i64 (fh c)) := by rw [(bcell hX).1 _ _ zR1_t]; exact cR1_t_0
      have cX1_t_1 : X1.cell? ⟨g, I * 4 + 1, none⟩ = some (.int .u64 (fl c)) := by rw [(bcell hX).1 _ _ zR1_t]; exact cR1_t_1
      have cX1_t_2 : X1.cell? ⟨g, I * 4 + 2, none⟩ = some (.int .i64 (fh s)) := by rw [(bcell hX).1 _ _ zR1_t]; exact cR1_t_2
      have cX1_t_3 : X1.cell? ⟨g, I * 4 + 3, none⟩ = some (.int .u64 (fl s)) := by rw [(bcell hX).1 _ _ zR1_t]; exact cR1_t_3
      have zX1_o : g < X1.heap.size := Nat.lt_of_lt_of_le zR1_o hX.size
      have cX1_o_0 : X1.cell? ⟨g, J * 4, none⟩ = some (.int .i64 (fh c0)) := by rw [(bcell hX).1 _ _ zR1_o]; exact cR1_o_0
      have cX1_o_1 : X1.cell? ⟨g, J * 4 + 1, none⟩ = some (.int .u64 (fl c0)) := by rw [(bcell hX).1 _ _ zR1_o]; exact cR1_o_1
      have cX1_o_2 : X1.cell? ⟨g, J * 4 + 2, none⟩ = some (.int .i64 (fh s0)) := by rw [(bcell hX).1 _ _ zR1_o]; exact cR1_o_2
      have cX1_o_3 : X1.cell? ⟨g, J * 4 + 3, none⟩ = some (.int .u64 (fl s0)) := by rw [(bcell hX).1 _ _ zR1_o]; exact cR1_o_3
      have zX1_x := g_x.1; have cX1_x_0 := g_x.2 0 _ rfl; have cX1_x_1 := g_x.2 1 _ rfl; have cX1_x_2 := g_x.2 2 _ rfl; clear g_x
      have HBX1 : Hid (Below w.heap.size w X1) := bl_trans HBR1.out hX
      clear hX
      clear zR1_t yR1_t yyR1_t cR1_t_0 cR1_t_1 cR1_t_2 cR1_t_3 zR1_o yR1_o yyR1_o cR1_o_0 cR1_o_1 cR1_o_2 cR1_o_3 HBR1 m_bX1x
      go_upto_region 10 with fail
      refine name_world (P := fun W => Code.wp _ _ _ _ W) _ (fun R2 hR2 => ?_)
      have zR2_t : g < R2.heap.size := by rw [hR2]; first | omega | (simp <;> omega)
      have yR2_t : g < R2.heap.size + 1 := by omega
      have yyR2_t : g < R2.heap.size + 1 + 1 := by omega
      have cR2_t_0 : R2.cell? ⟨g, I * 4, none⟩ = some (.int .i64 (fh c)) := by rw [hR2]; first | assumption | (simp [go_sem, *]; done)
      have cR2_t_1 : R2.cell? ⟨g, I * 4 + 1, none⟩ = some (.int .u64 (fl c)) := by rw [hR2]; first | assumption | (simp [go_sem, *]; done)
      have cR2_t_2 : R2.cell? ⟨g, I * 4 + 2, none⟩ = some (.int .i64 (fh s)) := by rw [hR2]; first | assumption | (simp [go_sem, *]; done)
      have cR2_t_3 : R2.cell? ⟨g, I * 4 + 3, none⟩ = some (.int .u64 (fl s)) := by rw [hR2]; first | assumption | (simp [go_sem, *]; done)
      have zR2_o : g < R2.heap.size := by rw [hR2]; first | omega | (simp <;> omega)
      have yR2_o : g < R2.heap.size + 1 := by omega
      have yyR2_o : g < R2.heap.size + 1 + 1 := by omega
      have cR2_o_0 : R2.cell? ⟨g, J * 4, none⟩ = some (.int .i64 (fh c0)) := by rw [hR2]; first | assumption | (simp [go_sem, *]; done)
      have cR2_o_1 : R2.cell? ⟨g, J * 4 + 1, none⟩ = some (.int .u64 (fl c0)) := by rw [hR2]; first | assumption | (simp [go_sem, *]; done)
      have cR2_o_2 : R2.cell? ⟨g, J * 4 + 2, none⟩ = some (.int .i64 (fh s0)) := by rw [hR2]; first | assumption | (simp [go_sem, *]; done)
      have cR2_o_3 : R2.cell? ⟨g, J * 4 + 3, none⟩ = some (.int .u64 (fl s0)) := by rw [hR2]; first | assumption | (simp [go_sem, *]; done)
      have zR2_x : bX1x < R2.heap.size := by rw [hR2]; first | omega | (simp <;> omega)
      have yR2_x : bX1x < R2.heap.size + 1 := by omega
      have yyR2_x : bX1x < R2.heap.size + 1 + 1 := by omega
      have cR2_x_0 : R2.cell? ⟨bX1x, 0, none⟩ = some (.int .i64 (fh x)) := by rw [hR2]; first | assumption | (simp [go_sem, *]; done)
      have cR2_x_1 : R2.cell? ⟨bX1x, 1, none⟩ = some (.int .u64 (fl x)) := by rw [hR2]; first | assumption | (simp [go_sem, *]; done)
      have cR2_x_2 : R2.cell? ⟨bX1x, 2, none⟩ = some (.int .i64 0) := by rw [hR2]; first | assumption | (simp [go_sem, *]; done)
      have HBR2 : Hid (Below w.heap.size w R2) := by rw [hR2]; show Below _ _ _; exact (by repeat (first | with_reducible exact Below.refl _ _ | with_reducible exact Hid.out (by assumption) | with_reducible refine Below.setCell ?_ (by first | (simp; done) | omega | (simp <;> omega)) _ | with_reducible refine bl_al ?_ _ | with_reducible apply Below.drew))
      clear hR2
      clear HBX1 zX1_t cX1_t_0 cX1_t_1 cX1_t_2 cX1_t_3 zX1_o cX1_o_0 cX1_o_1 cX1_o_2 cX1_o_3 zX1_x cX1_x_0 cX1_x_1 cX1_x_2
      go_cut [8] (fun slot0 X2 => ∃ bX2y : Nat, slot0 = .pointer (some ⟨bX2y, 0, none⟩) ∧ R2.heap.size ≤ bX2y ∧ Below R2.heap.size R2 X2 ∧ Has (bX2y) [.int .i64 (fh y), .int .u64 (fl y), .int .i64 0] X2)
      case first =>
        clear HBR2
        have ltt : ∀ n : Nat, n < n + 1 + 1 := fun n => by omega
        have lttt : ∀ n : Nat, n + 1 < n + 1 + 1 := fun n => by omega
        go_region_held3 (fun w' => w'.cell? ⟨g, I * 4, none⟩ = some (.int .i64 (fh c)) ∧ w'.cell? ⟨g, I * 4 + 1, none⟩ = some (.int .u64 (fl c)) ∧ w'.cell? ⟨g, I * 4 + 2, none⟩ = some (.int .i64 (fh s)) ∧ w'.cell? ⟨g, I * 4 + 3, none⟩ = some (.int .u64 (fl s))) (first | (simp [*, go_sem]; done) | (simp [*, go_sem, World.cell?_alloc_past]; done))
          (first
            | (go_at_call 25; (with_reducible refine (A4.out _).mono ?_); rintro e w4 ⟨rfl, hb⟩; (first | (with_reducible (obtain ⟨hclw4, hfrw4⟩ := bcell_drew hb)) | (obtain ⟨hclw4, hfrw4⟩ := bcell hb)); have zw4_t : g < w4.heap.size := (by first | omega | (have hz := hb.size; (try simp at hz); omega)); have yw4_t : g < w4.heap.size + 1 := (by omega); have yyw4_t : g < w4.heap.size + 1 + 1 := (by omega); (try have sw4_0 : R2.heap.size < w4.heap.size := (by first | omega | (have hz := hb.size; (try simp at hz); omega))); (try have syw4_0 : R2.heap.size < w4.heap.size + 1 := (by omega)); (try have stw4_0 : R2.heap.size + 1 < w4.heap.size := (by first | omega | (have hz := hb.size; (try simp at hz); omega))); have sxw4_0 : R2.heap.size ≤ w4.heap.size := (by first | omega | (have hz := hb.size; (try simp at hz); omega)); have HBw4 : Hid (Below R2.heap.size R2 w4) := (bl_trans (by repeat (first | with_reducible exact Below.refl _ _ | with_reducible exact Hid.out (by assumption) | with_reducible refine Below.setCell ?_ (by first | (simp; done) | omega | (simp <;> omega)) _ | with_reducible refine bl_al ?_ _ | with_reducible apply Below.drew)) hb); clear hb))
        all_goals (rename_i hHeld; clear hHeld; go_wp2_with fail; go_meet; exact ⟨_, rfl, (by first | omega | (simp <;> omega)), (by repeat (first | with_reducible exact Below.refl _ _ | with_reducible exact Hid.out (by assumption) | with_reducible refine Below.setCell ?_ (by first | (simp; done) | omega | (simp <;> omega)) _ | with_reducible refine bl_al ?_ _ | with_reducible apply Below.drew)), Has.mk3 (by first | (simp <;> omega) | omega) (by simp [go_sem, *]) (by simp [go_sem, *]) (by simp [go_sem, *])⟩)
      case rest =>
      obtain ⟨X2, hX2⟩ : ∃ X, X = wc := ⟨wc, rfl⟩
      subst hX2
      obtain ⟨bX2y, rfl, m_bX2y, hX, g_y⟩ := hcut
      have zX2_t : g < X2.heap.size := Nat.lt_of_lt_of_le zR2_t hX.size
      have cX2_t_0 : X2.cell? ⟨g, I * 4, none⟩ = some (.int .i64 (fh c)) := by rw [(bcell hX).1 _ _ zR2_t]; exact cR2_t_0
      have cX2_t_1 : X2.cell? ⟨g, I * 4 + 1, none⟩ = some (.int .u64 (fl c)) := by rw [(bcell hX).1 _ _ zR2_t]; exact cR2_t_1
      have cX2_t_2 : X2.cell? ⟨g, I * 4 + 2, none⟩ = some (.int .i64 (fh s)) := by rw [(bcell hX).1 _ _ zR2_t]; exact cR2_t_2
      have cX2_t_3 : X2.cell? ⟨g, I * 4 + 3, none⟩ = some (.int .u64 (fl s)) := by rw [(bcell hX).1 _ _ zR2_t]; exact cR2_t_3
      have zX2_o : g < X2.heap.size := Nat.lt_of_lt_of_le zR2_o hX.size
      have cX2_o_0 : X2.cell? ⟨g, J * 4, none⟩ = some (.int .i64 (fh c0)) := by rw [(bcell hX).1 _ _ zR2_o]; exact cR2_o_0
      have cX2_o_1 : X2.cell? ⟨g, J * 4 + 1, none⟩ = some (.int .u64 (fl c0)) := by rw [(bcell hX).1 _ _ zR2_o]; exact cR2_o_1
      have cX2_o_2 : X2.cell? ⟨g, J * 4 + 2, none⟩ = some (.int .i64 (fh s0)) := by rw [(bcell hX).1 _ _ zR2_o]; exact cR2_o_2
      have cX2_o_3 : X2.cell? ⟨g, J * 4 + 3, none⟩ = some (.int .u64 (fl s0)) := by rw [(bcell hX).1 _ _ zR2_o]; exact cR2_o_3
      have zX2_x : bX1x < X2.heap.size := Nat.lt_of_lt_of_le zR2_x hX.size
      have cX2_x_0 : X2.cell? ⟨bX1x, 0, none⟩ = some (.int .i64 (fh x)) := by rw [(bcell hX).1 _ _ zR2_x]; exact cR2_x_0
      have cX2_x_1 : X2.cell? ⟨bX1x, 1, none⟩ = some (.int .u64 (fl x)) := by rw [(bcell hX).1 _ _ zR2_x]; exact cR2_x_1
      have cX2_x_2 : X2.cell? ⟨bX1x, 2, none⟩ = some (.int .i64 0) := by rw [(bcell hX).1 _ _ zR2_x]; exact cR2_x_2
      have zX2_y := g_y.1; have cX2_y_0 := g_y.2 0 _ rfl; have cX2_y_1 := g_y.2 1 _ rfl; have cX2_y_2 := g_y.2 2 _ rfl; clear g_y
      have HBX2 : Hid (Below w.heap.size w X2) := bl_trans HBR2.out hX
      clear hX
      clear zR2_t yR2_t yyR2_t cR2_t_0 cR2_t_1 cR2_t_2 cR2_t_3 zR2_o yR2_o yyR2_o cR2_o_0 cR2_o_1 cR2_o_2 cR2_o_3 zR2_x yR2_x yyR2_x cR2_x_0 cR2_x_1 cR2_x_2 HBR2 m_bX2y
      go_upto_region 11 with fail
      refine name_world (P := fun W => Code.wp _ _ _ _ W) _ (fun R3 hR3 => ?_)
      have zR3_t : g < R3.heap.size := by rw [hR3]; first | omega | (simp <;> omega)
      have yR3_t : g < R3.heap.size + 1 := by omega
      have yyR3_t : g < R3.heap.size + 1 + 1 := by omega
      have cR3_t_0 : R3.cell? ⟨g, I * 4, none⟩ = some (.int .i64 (fh c)) := by rw [hR3]; first | assumption | (simp [go_sem, *]; done)
      have cR3_t_1 : R3.cell? ⟨g, I * 4 + 1, none⟩ = some (.int .u64 (fl c)) := by rw [hR3]; first | assumption | (simp [go_sem, *]; done)
      have cR3_t_2 : R3.cell? ⟨g, I * 4 + 2, none⟩ = some (.int .i64 (fh s)) := by rw [hR3]; first | assumption | (simp [go_sem, *]; done)
      have cR3_t_3 : R3.cell? ⟨g, I * 4 + 3, none⟩ = some (.int .u64 (fl s)) := by rw [hR3]; first | assumption | (simp [go_sem, *]; done)
      have zR3_o : g < R3.heap.size := by rw [hR3]; first | omega | (simp <;> omega)
      have yR3_o : g < R3.heap.size + 1 := by omega
      have yyR3_o : g < R3.heap.size + 1 + 1 := by omega
      have cR3_o_0 : R3.cell? ⟨g, J * 4, none⟩ = some (.int .i64 (fh c0)) := by rw [hR3]; first | assumption | (simp [go_sem, *]; done)
      have cR3_o_1 : R3.cell? ⟨g, J * 4 + 1, none⟩ = some (.int .u64 (fl c0)) := by rw [hR3]; first | assumption | (simp [go_sem, *]; done)
      have cR3_o_2 : R3.cell? ⟨g, J * 4 + 2, none⟩ = some (.int .i64 (fh s0)) := by rw [hR3]; first | assumption | (simp [go_sem, *]; done)
      have cR3_o_3 : R3.cell? ⟨g, J * 4 + 3, none⟩ = some (.int .u64 (fl s0)) := by rw [hR3]; first | assumption | (simp [go_sem, *]; done)
      have zR3_x : bX1x < R3.heap.size := by rw [hR3]; first | omega | (simp <;> omega)
      have yR3_x : bX1x < R3.heap.size + 1 := by omega
      have yyR3_x : bX1x < R3.heap.size + 1 + 1 := by omega
      have cR3_x_0 : R3.cell? ⟨bX1x, 0, none⟩ = some (.int .i64 (fh x)) := by rw [hR3]; first | assumption | (simp [go_sem, *]; done)
      have cR3_x_1 : R3.cell? ⟨bX1x, 1, none⟩ = some (.int .u64 (fl x)) := by rw [hR3]; first | assumption | (simp [go_sem, *]; done)
      have cR3_x_2 : R3.cell? ⟨bX1x, 2, none⟩ = some (.int .i64 0) := by rw [hR3]; first | assumption | (simp [go_sem, *]; done)
      have zR3_y : bX2y < R3.heap.size := by rw [hR3]; first | omega | (simp <;> omega)
      have yR3_y : bX2y < R3.heap.size + 1 := by omega
      have yyR3_y : bX2y < R3.heap.size + 1 + 1 := by omega
      have cR3_y_0 : R3.cell? ⟨bX2y, 0, none⟩ = some (.int .i64 (fh y)) := by rw [hR3]; first | assumption | (simp [go_sem, *]; done)
      have cR3_y_1 : R3.cell? ⟨bX2y, 1, none⟩ = some (.int .u64 (fl y)) := by rw [hR3]; first | assumption | (simp [go_sem, *]; done)
      have cR3_y_2 : R3.cell? ⟨bX2y, 2, none⟩ = some (.int .i64 0) := by rw [hR3]; first | assumption | (simp [go_sem, *]; done)
      have HBR3 : Hid (Below w.heap.size w R3) := by rw [hR3]; show Below _ _ _; exact (by repeat (first | with_reducible exact Below.refl _ _ | with_reducible exact Hid.out (by assumption) | with_reducible refine Below.setCell ?_ (by first | (simp; done) | omega | (simp <;> omega)) _ | with_reducible refine bl_al ?_ _ | with_reducible apply Below.drew))
      clear hR3
      clear HBX2 zX2_t cX2_t_0 cX2_t_1 cX2_t_2 cX2_t_3 zX2_o cX2_o_0 cX2_o_1 cX2_o_2 cX2_o_3 zX2_x cX2_x_0 cX2_x_1 cX2_x_2 zX2_y cX2_y_0 cX2_y_1 cX2_y_2
      go_cut [9] (fun slot0 X3 => ∃ bX3u : Nat, slot0 = .pointer (some ⟨bX3u, 0, none⟩) ∧ R3.heap.size ≤ bX3u ∧ Below R3.heap.size R3 X3 ∧ Has (bX3u) [.int .i64 (fh u), .int .u64 (fl u), .int .i64 0] X3)
      case first =>
        clear HBR3
        have ltt : ∀ n : Nat, n < n + 1 + 1 := fun n => by omega
        have lttt : ∀ n : Nat, n + 1 < n + 1 + 1 := fun n => by omega
        go_region_held3 (fun w' => w'.cell? ⟨bX1x, 0, none⟩ = some (.int .i64 (fh x)) ∧ w'.cell? ⟨bX1x, 1, none⟩ = some (.int .u64 (fl x)) ∧ w'.cell? ⟨bX1x, 2, none⟩ = some (.int .i64 0) ∧ w'.cell? ⟨g, J * 4, none⟩ = some (.int .i64 (fh c0)) ∧ w'.cell? ⟨g, J * 4 + 1, none⟩ = some (.int .u64 (fl c0)) ∧ w'.cell? ⟨g, J * 4 + 2, none⟩ = some (.int .i64 (fh s0)) ∧ w'.cell? ⟨g, J * 4 + 3, none⟩ = some (.int .u64 (fl s0))) (first | (simp [*, go_sem]; done) | (simp [*, go_sem, World.cell?_alloc_past]; done))
          (first
            | (go_at_call 21; (with_reducible refine (A5.out _).mono ?_); rintro e w5 ⟨rfl, hb⟩; (first | (with_reducible (obtain ⟨hclw5, hfrw5⟩ := bcell_drew hb)) | (obtain ⟨hclw5, hfrw5⟩ := bcell hb)); have zw5_o : g < w5.heap.size := (by first | omega | (have hz := hb.size; (try simp at hz); omega)); have yw5_o : g < w5.heap.size + 1 := (by omega); have yyw5_o : g < w5.heap.size + 1 + 1 := (by omega); have zw5_x : bX1x < w5.heap.size := (by first | omega | (have hz := hb.size; (try simp at hz); omega)); have yw5_x : bX1x < w5.heap.size + 1 := (by omega); have yyw5_x : bX1x < w5.heap.size + 1 + 1 := (by omega); (try have sw5_0 : R3.heap.size < w5.heap.size := (by first | omega | (have hz := hb.size; (try simp at hz); omega))); (try have syw5_0 : R3.heap.size < w5.heap.size + 1 := (by omega)); (try have stw5_0 : R3.heap.size + 1 < w5.heap.size := (by first | omega | (have hz := hb.size; (try simp at hz); omega))); have sxw5_0 : R3.heap.size ≤ w5.heap.size := (by first | omega | (have hz := hb.size; (try simp at hz); omega)); have HBw5 : Hid (Below R3.heap.size R3 w5) := (bl_trans (by repeat (first | with_reducible exact Below.refl _ _ | with_reducible exact Hid.out (by assumption) | with_reducible refine Below.setCell ?_ (by first | (simp; done) | omega | (simp <;> omega)) _ | with_reducible refine bl_al ?_ _ | with_reducible apply Below.drew)) hb); clear hb))
        all_goals (rename_i hHeld; clear hHeld; go_wp2_with fail; go_meet; exact ⟨_, rfl, (by first | omega | (simp <;> omega)), (by repeat (first | with_reducible exact Below.refl _ _ | with_reducible exact Hid.out (by assumption) | with_reducible refine Below.setCell ?_ (by first | (simp; done) | omega | (simp <;> omega)) _ | with_reducible refine bl_al ?_ _ | with_reducible apply Below.drew)), Has.mk3 (by first | (simp <;> omega) | omega) (by simp [go_sem, *]) (by simp [go_sem, *]) (by simp [go_sem, *])⟩)
      case rest =>
      obtain ⟨X3, hX3⟩ : ∃ X, X = wc := ⟨wc, rfl⟩
      subst hX3
      obtain ⟨bX3u, rfl, m_bX3u, hX, g_u⟩ := hcut
      have zX3_t : g < X3.heap.size := Nat.lt_of_lt_of_le zR3_t hX.size
      have cX3_t_0 : X3.cell? ⟨g, I * 4, none⟩ = some (.int .i64 (fh c)) := by rw [(bcell hX).1 _ _ zR3_t]; exact cR3_t_0
      have cX3_t_1 : X3.cell? ⟨g, I * 4 + 1, none⟩ = some (.int .u64 (fl c)) := by rw [(bcell hX).1 _ _ zR3_t]; exact cR3_t_1
      have cX3_t_2 : X3.cell? ⟨g, I * 4 + 2, none⟩ = some (.int .i64 (fh s)) := by rw [(bcell hX).1 _ _ zR3_t]; exact cR3_t_2
      have cX3_t_3 : X3.cell? ⟨g, I * 4 + 3, none⟩ = some (.int .u64 (fl s)) := by rw [(bcell hX).1 _ _ zR3_t]; exact cR3_t_3
      have zX3_o : g < X3.heap.size := Nat.lt_of_lt_of_le zR3_o hX.size
      have cX3_o_0 : X3.cell? ⟨g, J * 4, none⟩ = some (.int .i64 (fh c0)) := by rw [(bcell hX).1 _ _ zR3_o]; exact cR3_o_0
      have cX3_o_1 : X3.cell? ⟨g, J * 4 + 1, none⟩ = some (.int .u64 (fl c0)) := by rw [(bcell hX).1 _ _ zR3_o]; exact cR3_o_1
      have cX3_o_2 : X3.cell? ⟨g, J * 4 + 2, none⟩ = some (.int .i64 (fh s0)) := by rw [(bcell hX).1 _ _ zR3_o]; exact cR3_o_2
      have cX3_o_3 : X3.cell? ⟨g, J * 4 + 3, none⟩ = some (.int .u64 (fl s0)) := by rw [(bcell hX).1 _ _ zR3_o]; exact cR3_o_3
      have zX3_x : bX1x < X3.heap.size := Nat.lt_of_lt_of_le zR3_x hX.size
      have cX3_x_0 : X3.cell? ⟨bX1x, 0, none⟩ = some (.int .i64 (fh x)) := by rw [(bcell hX).1 _ _ zR3_x]; exact cR3_x_0
      have cX3_x_1 : X3.cell? ⟨bX1x, 1, none⟩ = some (.int .u64 (fl x)) := by rw [(bcell hX).1 _ _ zR3_x]; exact cR3_x_1
      have cX3_x_2 : X3.cell? ⟨bX1x, 2, none⟩ = some (.int .i64 0) := by rw [(bcell hX).1 _ _ zR3_x]; exact cR3_x_2
      have zX3_y : bX2y < X3.heap.size := Nat.lt_of_lt_of_le zR3_y hX.size
      have cX3_y_0 : X3.cell? ⟨bX2y, 0, none⟩ = some (.int .i64 (fh y)) := by rw [(bcell hX).1 _ _ zR3_y]; exact cR3_y_0
      have cX3_y_1 : X3.cell? ⟨bX2y, 1, none⟩ = some (.int .u64 (fl y)) := by rw [(bcell hX).1 _ _ zR3_y]; exact cR3_y_1
      have cX3_y_2 : X3.cell? ⟨bX2y, 2, none⟩ = some (.int .i64 0) := by rw [(bcell hX).1 _ _ zR3_y]; exact cR3_y_2
      have zX3_u := g_u.1; have cX3_u_0 := g_u.2 0 _ rfl; have cX3_u_1 := g_u.2 1 _ rfl; have cX3_u_2 := g_u.2 2 _ rfl; clear g_u
      have HBX3 : Hid (Below w.heap.size w X3) := bl_trans HBR3.out hX
      clear hX
      clear zR3_t yR3_t yyR3_t cR3_t_0 cR3_t_1 cR3_t_2 cR3_t_3 zR3_o yR3_o yyR3_o cR3_o_0 cR3_o_1 cR3_o_2 cR3_o_3 zR3_x yR3_x yyR3_x cR3_x_0 cR3_x_1 cR3_x_2 zR3_y yR3_y yyR3_y cR3_y_0 cR3_y_1 cR3_y_2 HBR3 m_bX3u
      go_upto_region 12 with fail
      refine name_world (P := fun W => Code.wp _ _ _ _ W) _ (fun R4 hR4 => ?_)
      have zR4_t : g < R4.heap.size := by rw [hR4]; first | omega | (simp <;> omega)
      have yR4_t : g < R4.heap.size + 1 := by omega
      have yyR4_t : g < R4.heap.size + 1 + 1 := by omega
      have cR4_t_0 : R4.cell? ⟨g, I * 4, none⟩ = some (.int .i64 (fh c)) := by rw [hR4]; first | assumption | (simp [go_sem, *]; done)
      have cR4_t_1 : R4.cell? ⟨g, I * 4 + 1, none⟩ = some (.int .u64 (fl c)) := by rw [hR4]; first | assumption | (simp [go_sem, *]; done)
      have cR4_t_2 : R4.cell? ⟨g, I * 4 + 2, none⟩ = some (.int .i64 (fh s)) := by rw [hR4]; first | assumption | (simp [go_sem, *]; done)
      have cR4_t_3 : R4.cell? ⟨g, I * 4 + 3, none⟩ = some (.int .u64 (fl s)) := by rw [hR4]; first | assumption | (simp [go_sem, *]; done)
      have zR4_o : g < R4.heap.size := by rw [hR4]; first | omega | (simp <;> omega)
      have yR4_o : g < R4.heap.size + 1 := by omega
      have yyR4_o : g < R4.heap.size + 1 + 1 := by omega
      have cR4_o_0 : R4.cell? ⟨g, J * 4, none⟩ = some (.int .i64 (fh c0)) := by rw [hR4]; first | assumption | (simp [go_sem, *]; done)
      have cR4_o_1 : R4.cell? ⟨g, J * 4 + 1, none⟩ = some (.int .u64 (fl c0)) := by rw [hR4]; first | assumption | (simp [go_sem, *]; done)
      have cR4_o_2 : R4.cell? ⟨g, J * 4 + 2, none⟩ = some (.int .i64 (fh s0)) := by rw [hR4]; first | assumption | (simp [go_sem, *]; done)
      have cR4_o_3 : R4.cell? ⟨g, J * 4 + 3, none⟩ = some (.int .u64 (fl s0)) := by rw [hR4]; first | assumption | (simp [go_sem, *]; done)
      have zR4_x : bX1x < R4.heap.size := by rw [hR4]; first | omega | (simp <;> omega)
      have yR4_x : bX1x < R4.heap.size + 1 := by omega
      have yyR4_x : bX1x < R4.heap.size + 1 + 1 := by omega
      have cR4_x_0 : R4.cell? ⟨bX1x, 0, none⟩ = some (.int .i64 (fh x)) := by rw [hR4]; first | assumption | (simp [go_sem, *]; done)
      have cR4_x_1 : R4.cell? ⟨bX1x, 1, none⟩ = some (.int .u64 (fl x)) := by rw [hR4]; first | assumption | (simp [go_sem, *]; done)
      have cR4_x_2 : R4.cell? ⟨bX1x, 2, none⟩ = some (.int .i64 0) := by rw [hR4]; first | assumption | (simp [go_sem, *]; done)
      have zR4_y : bX2y < R4.heap.size := by rw [hR4]; first | omega | (simp <;> omega)
      have yR4_y : bX2y < R4.heap.size + 1 := by omega
      have yyR4_y : bX2y < R4.heap.size + 1 + 1 := by omega
      have cR4_y_0 : R4.cell? ⟨bX2y, 0, none⟩ = some (.int .i64 (fh y)) := by rw [hR4]; first | assumption | (simp [go_sem, *]; done)
      have cR4_y_1 : R4.cell? ⟨bX2y, 1, none⟩ = some (.int .u64 (fl y)) := by rw [hR4]; first | assumption | (simp [go_sem, *]; done)
      have cR4_y_2 : R4.cell? ⟨bX2y, 2, none⟩ = some (.int .i64 0) := by rw [hR4]; first | assumption | (simp [go_sem, *]; done)
      have zR4_u : bX3u < R4.heap.size := by rw [hR4]; first | omega | (simp <;> omega)
      have yR4_u : bX3u < R4.heap.size + 1 := by omega
      have yyR4_u : bX3u < R4.heap.size + 1 + 1 := by omega
      have cR4_u_0 : R4.cell? ⟨bX3u, 0, none⟩ = some (.int .i64 (fh u)) := by rw [hR4]; first | assumption | (simp [go_sem, *]; done)
      have cR4_u_1 : R4.cell? ⟨bX3u, 1, none⟩ = some (.int .u64 (fl u)) := by rw [hR4]; first | assumption | (simp [go_sem, *]; done)
      have cR4_u_2 : R4.cell? ⟨bX3u, 2, none⟩ = some (.int .i64 0) := by rw [hR4]; first | assumption | (simp [go_sem, *]; done)
      have HBR4 : Hid (Below w.heap.size w R4) := by rw [hR4]; show Below _ _ _; exact (by repeat (first | with_reducible exact Below.refl _ _ | with_reducible exact Hid.out (by assumption) | with_reducible refine Below.setCell ?_ (by first | (simp; done) | omega | (simp <;> omega)) _ | with_reducible refine bl_al ?_ _ | with_reducible apply Below.drew))
      clear hR4
      clear HBX3 zX3_t cX3_t_0 cX3_t_1 cX3_t_2 cX3_t_3 zX3_o cX3_o_0 cX3_o_1 cX3_o_2 cX3_o_3 zX3_x cX3_x_0 cX3_x_1 cX3_x_2 zX3_y cX3_y_0 cX3_y_1 cX3_y_2 zX3_u cX3_u_0 cX3_u_1 cX3_u_2
      go_cut [10] (fun slot0 X4 => ∃ bX4v : Nat, slot0 = .pointer (some ⟨bX4v, 0, none⟩) ∧ R4.heap.size ≤ bX4v ∧ Below R4.heap.size R4 X4 ∧ Has (bX4v) [.int .i64 (fh v), .int .u64 (fl v), .int .i64 0] X4)
      case first =>
        clear HBR4
        have ltt : ∀ n : Nat, n < n + 1 + 1 := fun n => by omega
        have lttt : ∀ n : Nat, n + 1 < n + 1 + 1 := fun n => by omega
        go_region_held3 (fun w' => w'.cell? ⟨bX2y, 0, none⟩ = some (.int .i64 (fh y)) ∧ w'.cell? ⟨bX2y, 1, none⟩ = some (.int .u64 (fl y)) ∧ w'.cell? ⟨bX2y, 2, none⟩ = some (.int .i64 0) ∧ w'.cell? ⟨g, J * 4, none⟩ = some (.int .i64 (fh c0)) ∧ w'.cell? ⟨g, J * 4 + 1, none⟩ = some (.int .u64 (fl c0)) ∧ w'.cell? ⟨g, J * 4 + 2, none⟩ = some (.int .i64 (fh s0)) ∧ w'.cell? ⟨g, J * 4 + 3, none⟩ = some (.int .u64 (fl s0))) (first | (simp [*, go_sem]; done) | (simp [*, go_sem, World.cell?_alloc_past]; done))
          (first
            | (go_at_call 26; (with_reducible refine (A6.out _).mono ?_); rintro e w6 ⟨rfl, hb⟩; (first | (with_reducible (obtain ⟨hclw6, hfrw6⟩ := bcell_drew hb)) | (obtain ⟨hclw6, hfrw6⟩ := bcell hb)); have zw6_o : g < w6.heap.size := (by first | omega | (have hz := hb.size; (try simp at hz); omega)); have yw6_o : g < w6.heap.size + 1 := (by omega); have yyw6_o : g < w6.heap.size + 1 + 1 := (by omega); have zw6_y : bX2y < w6.heap.size := (by first | omega | (have hz := hb.size; (try simp at hz); omega)); have yw6_y : bX2y < w6.heap.size + 1 := (by omega); have yyw6_y : bX2y < w6.heap.size + 1 + 1 := (by omega); (try have sw6_0 : R4.heap.size < w6.heap.size := (by first | omega | (have hz := hb.size; (try simp at hz); omega))); (try have syw6_0 : R4.heap.size < w6.heap.size + 1 := (by omega)); (try have stw6_0 : R4.heap.size + 1 < w6.heap.size := (by first | omega | (have hz := hb.size; (try simp at hz); omega))); have sxw6_0 : R4.heap.size ≤ w6.heap.size := (by first | omega | (have hz := hb.size; (try simp at hz); omega)); have HBw6 : Hid (Below R4.heap.size R4 w6) := (bl_trans (by repeat (first | with_reducible exact Below.refl _ _ | with_reducible exact Hid.out (by assumption) | with_reducible refine Below.setCell ?_ (by first | (simp; done) | omega | (simp <;> omega)) _ | with_reducible refine bl_al ?_ _ | with_reducible apply Below.drew)) hb); clear hb)
            | (go_at_call 21; (with_reducible refine (A7.out _).mono ?_); rintro e w7 ⟨rfl, hb⟩; obtain ⟨hclw7, hfrw7⟩ := bcell hb; have zw7_o : g < w7.heap.size := (by first | omega | (have hz := hb.size; (try simp at hz); omega)); have yw7_o : g < w7.heap.size + 1 := (by omega); have yyw7_o : g < w7.heap.size + 1 + 1 := (by omega); have zw7_y : bX2y < w7.heap.size := (by first | omega | (have hz := hb.size; (try simp at hz); omega)); have yw7_y : bX2y < w7.heap.size + 1 := (by omega); have yyw7_y : bX2y < w7.heap.size + 1 + 1 := (by omega); (try have sw7_0 : R4.heap.size < w7.heap.size := (by first | omega | (have hz := hb.size; (try simp at hz); omega))); (try have syw7_0 : R4.heap.size < w7.heap.size + 1 := (by omega)); (try have stw7_0 : R4.heap.size + 1 < w7.heap.size := (by first | omega | (have hz := hb.size; (try simp at hz); omega))); have sxw7_0 : R4.heap.size ≤ w7.heap.size := (by first | omega | (have hz := hb.size; (try simp at hz); omega)); (try have sw7_w6 : w6.heap.size < w7.heap.size := (by first | omega | (have hz := hb.size; (try simp at hz); omega))); (try have syw7_w6 : w6.heap.size < w7.heap.size + 1 := (by omega)); (try have stw7_w6 : w6.heap.size + 1 < w7.heap.size := (by first | omega | (have hz := hb.size; (try simp at hz); omega))); have sxw7_w6 : w6.heap.size ≤ w7.heap.size := (by first | omega | (have hz := hb.size; (try simp at hz); omega)); have HBw7 : Hid (Below R4.heap.size R4 w7) := (bl_trans (by repeat (first | with_reducible exact Below.refl _ _ | with_reducible exact Hid.out (by assumption) | with_reducible refine Below.setCell ?_ (by first | (simp; done) | omega | (simp <;> omega)) _ | with_reducible refine bl_al ?_ _ | with_reducible apply Below.drew)) hb); clear hb))
        all_goals (rename_i hHeld; clear hHeld; go_wp2_with fail; go_meet; exact ⟨_, rfl, (by first | omega | (simp <;> omega)), (by repeat (first | with_reducible exact Below.refl _ _ | with_reducible exact Hid.out (by assumption) | with_reducible refine Below.setCell ?_ (by first | (simp; done) | omega | (simp <;> omega)) _ | with_reducible refine bl_al ?_ _ | with_reducible apply Below.drew)), Has.mk3 (by first | (simp <;> omega) | omega) (by simp [go_sem, *]) (by simp [go_sem, *]) (by simp [go_sem, *])⟩)
      case rest =>
      obtain ⟨X4, hX4⟩ : ∃ X, X = wc := ⟨wc, rfl⟩
      subst hX4
      obtain ⟨bX4v, rfl, m_bX4v, hX, g_v⟩ := hcut
      have zX4_t : g < X4.heap.size := Nat.lt_of_lt_of_le zR4_t hX.size
      have cX4_t_0 : X4.cell? ⟨g, I * 4, none⟩ = some (.int .i64 (fh c)) := by rw [(bcell hX).1 _ _ zR4_t]; exact cR4_t_0
      have cX4_t_1 : X4.cell? ⟨g, I * 4 + 1, none⟩ = some (.int .u64 (fl c)) := by rw [(bcell hX).1 _ _ zR4_t]; exact cR4_t_1
      have cX4_t_2 : X4.cell? ⟨g, I * 4 + 2, none⟩ = some (.int .i64 (fh s)) := by rw [(bcell hX).1 _ _ zR4_t]; exact cR4_t_2
      have cX4_t_3 : X4.cell? ⟨g, I * 4 + 3, none⟩ = some (.int .u64 (fl s)) := by rw [(bcell hX).1 _ _ zR4_t]; exact cR4_t_3
      have zX4_o : g < X4.heap.size := Nat.lt_of_lt_of_le zR4_o hX.size
      have cX4_o_0 : X4.cell? ⟨g, J * 4, none⟩ = some (.int .i64 (fh c0)) := by rw [(bcell hX).1 _ _ zR4_o]; exact cR4_o_0
      have cX4_o_1 : X4.cell? ⟨g, J * 4 + 1, none⟩ = some (.int .u64 (fl c0)) := by rw [(bcell hX).1 _ _ zR4_o]; exact cR4_o_1
      have cX4_o_2 : X4.cell? ⟨g, J * 4 + 2, none⟩ = some (.int .i64 (fh s0)) := by rw [(bcell hX).1 _ _ zR4_o]; exact cR4_o_2
      have cX4_o_3 : X4.cell? ⟨g, J * 4 + 3, none⟩ = some (.int .u64 (fl s0)) := by rw [(bcell hX).1 _ _ zR4_o]; exact cR4_o_3
      have zX4_x : bX1x < X4.heap.size := Nat.lt_of_lt_of_le zR4_x hX.size
      have cX4_x_0 : X4.cell? ⟨bX1x, 0, none⟩ = some (.int .i64 (fh x)) := by rw [(bcell hX).1 _ _ zR4_x]; exact cR4_x_0
      have cX4_x_1 : X4.cell? ⟨bX1x, 1, none⟩ = some (.int .u64 (fl x)) := by rw [(bcell hX).1 _ _ zR4_x]; exact cR4_x_1
      have cX4_x_2 : X4.cell? ⟨bX1x, 2, none⟩ = some (.int .i64 0) := by rw [(bcell hX).1 _ _ zR4_x]; exact cR4_x_2
      have zX4_y : bX2y < X4.heap.size := Nat.lt_of_lt_of_le zR4_y hX.size
      have cX4_y_0 : X4.cell? ⟨bX2y, 0, none⟩ = some (.int .i64 (fh y)) := by rw [(bcell hX).1 _ _ zR4_y]; exact cR4_y_0
      have cX4_y_1 : X4.cell? ⟨bX2y, 1, none⟩ = some (.int .u64 (fl y)) := by rw [(bcell hX).1 _ _ zR4_y]; exact cR4_y_1
      have cX4_y_2 : X4.cell? ⟨bX2y, 2, none⟩ = some (.int .i64 0) := by rw [(bcell hX).1 _ _ zR4_y]; exact cR4_y_2
      have zX4_u : bX3u < X4.heap.size := Nat.lt_of_lt_of_le zR4_u hX.size
      have cX4_u_0 : X4.cell? ⟨bX3u, 0, none⟩ = some (.int .i64 (fh u)) := by rw [(bcell hX).1 _ _ zR4_u]; exact cR4_u_0
      have cX4_u_1 : X4.cell? ⟨bX3u, 1, none⟩ = some (.int .u64 (fl u)) := by rw [(bcell hX).1 _ _ zR4_u]; exact cR4_u_1
      have cX4_u_2 : X4.cell? ⟨bX3u, 2, none⟩ = some (.int .i64 0) := by rw [(bcell hX).1 _ _ zR4_u]; exact cR4_u_2
      have zX4_v := g_v.1; have cX4_v_0 := g_v.2 0 _ rfl; have cX4_v_1 := g_v.2 1 _ rfl; have cX4_v_2 := g_v.2 2 _ rfl; clear g_v
      have HBX4 : Hid (Below w.heap.size w X4) := bl_trans HBR4.out hX
      clear hX
      clear zR4_t yR4_t yyR4_t cR4_t_0 cR4_t_1 cR4_t_2 cR4_t_3 zR4_o yR4_o yyR4_o cR4_o_0 cR4_o_1 cR4_o_2 cR4_o_3 zR4_x yR4_x yyR4_x cR4_x_0 cR4_x_1 cR4_x_2 zR4_y yR4_y yyR4_y cR4_y_0 cR4_y_1 cR4_y_2 zR4_u yR4_u yyR4_u cR4_u_0 cR4_u_1 cR4_u_2 HBR4 m_bX4v
      go_wp2_with fail
      (with_reducible refine (A8.out _).mono ?_); rintro e w8 ⟨rfl, hb⟩; obtain ⟨hclw8, hfrw8⟩ := bcell hb; have zw8_t : g < w8.heap.size := (by first | omega | (have hz := hb.size; (try simp at hz); omega)); have yw8_t : g < w8.heap.size + 1 := (by omega); have yyw8_t : g < w8.heap.size + 1 + 1 := (by omega); have zw8_o : g < w8.heap.size := (by first | omega | (have hz := hb.size; (try simp at hz); omega)); have yw8_o : g < w8.heap.size + 1 := (by omega); have yyw8_o : g < w8.heap.size + 1 + 1 := (by omega); have zw8_x : bX1x < w8.heap.size := (by first | omega | (have hz := hb.size; (try simp at hz); omega)); have yw8_x : bX1x < w8.heap.size + 1 := (by omega); have yyw8_x : bX1x < w8.heap.size + 1 + 1 := (by omega); have zw8_y : bX2y < w8.heap.size := (by first | omega | (have hz := hb.size; (try simp at hz); omega)); have yw8_y : bX2y < w8.heap.size + 1 := (by omega); have yyw8_y : bX2y < w8.heap.size + 1 + 1 := (by omega); have zw8_u : bX3u < w8.heap.size := (by first | omega | (have hz := hb.size; (try simp at hz); omega)); have yw8_u : bX3u < w8.heap.size + 1 := (by omega); have yyw8_u : bX3u < w8.heap.size + 1 + 1 := (by omega); have zw8_v : bX4v < w8.heap.size := (by first | omega | (have hz := hb.size; (try simp at hz); omega)); have yw8_v : bX4v < w8.heap.size + 1 := (by omega); have yyw8_v : bX4v < w8.heap.size + 1 + 1 := (by omega); have sxw8_0 : X4.heap.size ≤ w8.heap.size := (by first | omega | (have hz := hb.size; (try simp at hz); omega)); have HBw8 : Hid (Below w.heap.size w w8) := (bl_trans (by repeat (first | with_reducible exact Below.refl _ _ | with_reducible exact Hid.out (by assumption) | with_reducible refine Below.setCell ?_ (by first | (simp; done) | omega | (simp <;> omega)) _ | with_reducible refine bl_al ?_ _ | with_reducible apply Below.drew)) hb); clear hb
      go_wp2_with fail
      (with_reducible refine (A9.out _).mono ?_); rintro e w9 ⟨rfl, hb⟩; obtain ⟨hclw9, hfrw9⟩ := bcell hb; have zw9_t : g < w9.heap.size := (by first | omega | (have hz := hb.size; (try simp at hz); omega)); have yw9_t : g < w9.heap.size + 1 := (by omega); have yyw9_t : g < w9.heap.size + 1 + 1 := (by omega); have zw9_o : g < w9.heap.size := (by first | omega | (have hz := hb.size; (try simp at hz); omega)); have yw9_o : g < w9.heap.size + 1 := (by omega); have yyw9_o : g < w9.heap.size + 1 + 1 := (by omega); have zw9_x : bX1x < w9.heap.size := (by first | omega | (have hz := hb.size; (try simp at hz); omega)); have yw9_x : bX1x < w9.heap.size + 1 := (by omega); have yyw9_x : bX1x < w9.heap.size + 1 + 1 := (by omega); have zw9_y : bX2y < w9.heap.size := (by first | omega | (have hz := hb.size; (try simp at hz); omega)); have yw9_y : bX2y < w9.heap.size + 1 := (by omega); have yyw9_y : bX2y < w9.heap.size + 1 + 1 := (by omega); have zw9_u : bX3u < w9.heap.size := (by first | omega | (have hz := hb.size; (try simp at hz); omega)); have yw9_u : bX3u < w9.heap.size + 1 := (by omega); have yyw9_u : bX3u < w9.heap.size + 1 + 1 := (by omega); have zw9_v : bX4v < w9.heap.size := (by first | omega | (have hz := hb.size; (try simp at hz); omega)); have yw9_v : bX4v < w9.heap.size + 1 := (by omega); have yyw9_v : bX4v < w9.heap.size + 1 + 1 := (by omega); have sxw9_0 : w8.heap.size ≤ w9.heap.size := (by first | omega | (have hz := hb.size; (try simp at hz); omega)); have HBw9 : Hid (Below w.heap.size w w9) := (bl_trans (by repeat (first | with_reducible exact Below.refl _ _ | with_reducible exact Hid.out (by assumption) | with_reducible refine Below.setCell ?_ (by first | (simp; done) | omega | (simp <;> omega)) _ | with_reducible refine bl_al ?_ _ | with_reducible apply Below.drew)) hb); clear hb
      go_wp2_with fail
      (with_reducible refine (A10.out _).mono ?_); rintro e w10 ⟨rfl, hb⟩; obtain ⟨hclw10, hfrw10⟩ := bcell hb; have zw10_t : g < w10.heap.size := (by first | omega | (have hz := hb.size; (try simp at hz); omega)); have yw10_t : g < w10.heap.size + 1 := (by omega); have yyw10_t : g < w10.heap.size + 1 + 1 := (by omega); have zw10_o : g < w10.heap.size := (by first | omega | (have hz := hb.size; (try simp at hz); omega)); have yw10_o : g < w10.heap.size + 1 := (by omega); have yyw10_o : g < w10.heap.size + 1 + 1 := (by omega); have zw10_x : bX1x < w10.heap.size := (by first | omega | (have hz := hb.size; (try simp at hz); omega)); have yw10_x : bX1x < w10.heap.size + 1 := (by omega); have yyw10_x : bX1x < w10.heap.size + 1 + 1 := (by omega); have zw10_y : bX2y < w10.heap.size := (by first | omega | (have hz := hb.size; (try simp at hz); omega)); have yw10_y : bX2y < w10.heap.size + 1 := (by omega); have yyw10_y : bX2y < w10.heap.size + 1 + 1 := (by omega); have zw10_u : bX3u < w10.heap.size := (by first | omega | (have hz := hb.size; (try simp at hz); omega)); have yw10_u : bX3u < w10.heap.size + 1 := (by omega); have yyw10_u : bX3u < w10.heap.size + 1 + 1 := (by omega); have zw10_v : bX4v < w10.heap.size := (by first | omega | (have hz := hb.size; (try simp at hz); omega)); have yw10_v : bX4v < w10.heap.size + 1 := (by omega); have yyw10_v : bX4v < w10.heap.size + 1 + 1 := (by omega); have sxw10_0 : w9.heap.size ≤ w10.heap.size := (by first | omega | (have hz := hb.size; (try simp at hz); omega)); have HBw10 : Hid (Below w.heap.size w w10) := (bl_trans (by repeat (first | with_reducible exact Below.refl _ _ | with_reducible exact Hid.out (by assumption) | with_reducible refine Below.setCell ?_ (by first | (simp; done) | omega | (simp <;> omega)) _ | with_reducible refine bl_al ?_ _ | with_reducible apply Below.drew)) hb); clear hb
      go_wp2_with fail
      (with_reducible refine (A11.out _).mono ?_); rintro e w11 ⟨rfl, hb⟩; obtain ⟨hclw11, hfrw11⟩ := bcell hb; have zw11_t : g < w11.heap.size := (by first | omega | (have hz := hb.size; (try simp at hz); omega)); have yw11_t : g < w11.heap.size + 1 := (by omega); have yyw11_t : g < w11.heap.size + 1 + 1 := (by omega); have zw11_o : g < w11.heap.size := (by first | omega | (have hz := hb.size; (try simp at hz); omega)); have yw11_o : g < w11.heap.size + 1 := (by omega); have yyw11_o : g < w11.heap.size + 1 + 1 := (by omega); have zw11_x : bX1x < w11.heap.size := (by first | omega | (have hz := hb.size; (try simp at hz); omega)); have yw11_x : bX1x < w11.heap.size + 1 := (by omega); have yyw11_x : bX1x < w11.heap.size + 1 + 1 := (by omega); have zw11_y : bX2y < w11.heap.size := (by first | omega | (have hz := hb.size; (try simp at hz); omega)); have yw11_y : bX2y < w11.heap.size + 1 := (by omega); have yyw11_y : bX2y < w11.heap.size + 1 + 1 := (by omega); have zw11_u : bX3u < w11.heap.size := (by first | omega | (have hz := hb.size; (try simp at hz); omega)); have yw11_u : bX3u < w11.heap.size + 1 := (by omega); have yyw11_u : bX3u < w11.heap.size + 1 + 1 := (by omega); have zw11_v : bX4v < w11.heap.size := (by first | omega | (have hz := hb.size; (try simp at hz); omega)); have yw11_v : bX4v < w11.heap.size + 1 := (by omega); have yyw11_v : bX4v < w11.heap.size + 1 + 1 := (by omega); have sxw11_0 : w10.heap.size ≤ w11.heap.size := (by first | omega | (have hz := hb.size; (try simp at hz); omega)); have HBw11 : Hid (Below w.heap.size w w11) := (bl_trans (by repeat (first | with_reducible exact Below.refl _ _ | with_reducible exact Hid.out (by assumption) | with_reducible refine Below.setCell ?_ (by first | (simp; done) | omega | (simp <;> omega)) _ | with_reducible refine bl_al ?_ _ | with_reducible apply Below.drew)) hb); clear hb
      go_wp2_with fail
      go_roundg k
      case measure => omega
      case rel => exact ⟨I + 1, HK.out, by omega, by first | rfl | simp, HBw11.out⟩
theorem turnLong_walk (a : Int) (w : World) : Calls Try.prog 5 #[.int .i64 a] w fun e w' => e = .returned (.bool true) ∧ Below w.heap.size w w' := by
  have O := of_any a
  obtain ⟨x1, x2, _⟩ := of_up (ang a) (ang_lt a)
  rw [x1, x2] at O
  have n := up_norm 14 (ang a) (by decide)
  obtain ⟨b1, b2⟩ := up_bd (show 14 ≤ 14 by decide) (ang a)
  generalize (up 14 (ang a)).1 = x at *
  generalize (up 14 (ang a)).2 = y at *
  have m1 : My x := by unfold Bd at b1; unfold My; omega
  have m2 : My y := by unfold Bd at b2; unfold My; omega
  have L := rlen2_any x y m1 m2
  obtain ⟨r1, h1, c1⟩ := mulr_near x x
  obtain ⟨r2, h2, c2⟩ := mulr_near y y
  have q1 := sq_nn x; have q2 := sq_nn y
  have k1 : 0 ≤ mulr x x ∧ mulr x x ≤ 73786976294838206464 := by have := b1.mul b1; unfold Bd at *; omega
  have k2 : 0 ≤ mulr y y ∧ mulr y y ≤ 73786976294838206464 := by have := b2.mul b2; unfold Bd at *; omega
  have e : de (mulr x x) (mulr y y) = 0 := by
    unfold de
    rw [if_pos (oe_in (by unfold My; omega)), if_pos (oe_in (by unfold My; omega))]
    exact oe_in (by unfold My; omega)
  rw [e, (de_zero e).2.2.2] at L
  have d : Bd (mulr x x + mulr y y - 18446744073709551616) 4096 := by unfold Bd at *; omega
  have i1 := rint_any 1
  rw [show intr 1 = 18446744073709551616 by decide] at i1
  have S := rsub_any (mulr x x + mulr y y) 18446744073709551616 (by unfold My; omega) (by unfold My; omega)
  have ms : My (mulr x x + mulr y y - 18446744073709551616) := by unfold Bd at d; unfold My; omega
  rw [ov_in ms, oe_in ms] at S
  exact turnLong_core _ _ _ _ _ _ _ _ _ _ _ _ a w O L i1 S (rmag_any _ ms) (less_false (by decide) (by decide) d) tawake_any
open Go.ChangeShapes Go.WideShapes Go.ChangeAt Go.RowKit Go.Joins
set_option maxRecDepth 100000 in
theorem turnLong_lifted (os : Os) (started : os.Started) (H : Type) (enc : TypeId × Value → H) :
    ReturnsInHanded {} Try.checked os 5 .any (Rows.turnLongSpec.pre6 enc Try.prog Try.f5 Rows.turnLongRow.domain false) (Rows.turnLongSpec.post enc Try.prog Try.f5 false true false false) := by
  refine returnsInHanded_of_change (C := Try.checked) Try.own started (by kernel_rfl) Try.func5
    (ChangeSpec.witness6 (enc := enc) (C := Try.checked) false ⟨#[], #[.int .i64 0], []⟩ 8 (by kernel_rfl) (by kernel_rfl) (by kernel_rfl) (by kernel_rfl)) ?_
  intro W base args ds gs before hval0 hW hcnd _
  have hval : ∀ (j : Nat) t v, Try.f5.params[j]? = some t → args[j]? = some v → Value.okWide Try.prog W .any base t v := hval0
  have hW' := hW
  obtain ⟨p, q, hA0, hV, rfl, hfz, hnd⟩ := hW
  have hA : DataW.TrodAll enc Try.prog W 0 (fun _ => true) true Try.f5.params.toList args.toList ds p := hA0
  rw [Try.params5] at hA hval
  obtain ⟨v0, d0, rfl, rfl, h0⟩ := trodAll_one hA
  obtain ⟨rfl, rfl⟩ := trodVars_none hV
  obtain ⟨a, rfl, rfl, rfl, k00⟩ := open_int Try.underlying3 (hval 0 3 v0 rfl rfl) h0
  clear hA0 hval0
  simp only [List.append_nil] at hW'
  refine (turnLong_walk a W).mono fun e W' ⟨he, hb⟩ => ?_
  subst he
  exact ⟨_, rfl, _, _, _, [], [], [], hW', trodAll_mk1 (shut_bool Try.underlying4 _), trodAll_mk1 (shut_int Try.underlying3 k00), rfl, hb.frame _, fun h => by cases h⟩
theorem turnLong_holds : Rows.TurnLongSaid :=
  OpenClaim.holds_of_wide 5 Try.f5 rfl rfl rfl rfl rfl rfl rfl ⟨rfl, rfl, rfl, rfl, rfl⟩ rfl rfl rfl rfl rfl (by kernel_rfl) Try.func5 (by kernel_rfl)
    (of_decide_eq_true (by kernel_rfl)) (by unfold Func.isWrapper; first | (rw [if_pos (by decide +kernel)]; kernel_rfl) | (rw [if_neg (by decide +kernel)]; exact ⟨rfl, rfl⟩))
    (fun os started H enc _ => turnLong_lifted os started H enc)
end Go.Proofs.Ytmelipbanbihdaa
