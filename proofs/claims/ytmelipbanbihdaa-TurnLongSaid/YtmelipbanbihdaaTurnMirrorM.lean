/- An angle below nought is the mirror of that above: at any commit whose code this is, for every angle of sixteen bits. -/
import Derived.Test.YtmelipbanbihdaaTurnNumM
import Derived.Test.YtmelipbanbihdaaFixOpen
namespace Go.Proofs.Ytmelipbanbihdaa
open Go.RowKit
set_option maxRecDepth 20000 in
set_option maxHeartbeats 60000000 in
theorem turnMirror_core (dxh dxl dyh dyl uxh uxl uyh uyl nyh nyl n m : Int) (w1 : IntKind.i64.wrap n = n) (w2 : IntKind.i64.wrap (-n) = m) (w : World)
    (C1 : ∀ W, Calls Try.prog 9 #[.int .i64 n] W fun e w' => e = .returned (.agg #[.int .i64 dxh, .int .u64 dxl, .int .i64 dyh, .int .u64 dyl]) ∧ Below W.heap.size W w')
    (C2 : ∀ W, Calls Try.prog 9 #[.int .i64 m] W fun e w' => e = .returned (.agg #[.int .i64 uxh, .int .u64 uxl, .int .i64 uyh, .int .u64 uyl]) ∧ Below W.heap.size W w')
    (C3 : ∀ W, Calls Try.prog 28 #[.agg #[.int .i64 dxh, .int .u64 dxl], .agg #[.int .i64 uxh, .int .u64 uxl], .int .i64 40] W fun e w' => e = .returned (.bool true) ∧ Below W.heap.size W w')
    (C4 : ∀ W, Calls Try.prog 18 #[.agg #[.int .i64 uyh, .int .u64 uyl]] W fun e w' => e = .returned (.agg #[.int .i64 nyh, .int .u64 nyl]) ∧ Below W.heap.size W w')
    (C5 : ∀ W, Calls Try.prog 28 #[.agg #[.int .i64 dyh, .int .u64 dyl], .agg #[.int .i64 nyh, .int .u64 nyl], .int .i64 40] W fun e w' => e = .returned (.bool true) ∧ Below W.heap.size W w')
    (C6 : ∀ W, Calls Try.prog 11 #[] W fun e w' => e = .returned (.bool true) ∧ Below W.heap.size W w') :
    Calls Try.prog 7 #[.int .u16 n] w fun e w' => e = .returned (.bool true) ∧ Below w.heap.size w w' := by
  have K1 := Lib.hid C1; have K2 := Lib.hid C2; have K3 := Lib.hid C3; have K4 := Lib.hid C4; have K5 := Lib.hid C5; have K6 := Lib.hid C6
  clear C1 C2 C3 C4 C5 C6
  go_enter Try.func7, Try.ntmps7
  go_wp2_with fail
  (with_reducible refine (K1.out _).mono ?_); rintro e w1 ⟨rfl, hb⟩; obtain ⟨hclw1, hfrw1⟩ := bcell hb; have sxw1_0 : w.heap.size ≤ w1.heap.size := (by first | omega | (have hz := hb.size; (try simp at hz); omega)); have HBw1 : Hid (Below w.heap.size w w1) := (bl_trans (by repeat (first | with_reducible exact Below.refl _ _ | with_reducible exact Hid.out (by assumption) | with_reducible refine Below.setCell ?_ (by first | (simp; done) | omega | (simp <;> omega)) _ | with_reducible refine bl_al ?_ _ | with_reducible apply Below.drew)) hb); clear hb
  go_wp2_with fail
  (with_reducible refine (K2.out _).mono ?_); rintro e w2 ⟨rfl, hb⟩; obtain ⟨hclw2, hfrw2⟩ := bcell hb; have sxw2_0 : w1.heap.size ≤ w2.heap.size := (by first | omega | (have hz := hb.size; (try simp at hz); omega)); have HBw2 : Hid (Below w.heap.size w w2) := (bl_trans (by repeat (first | with_reducible exact Below.refl _ _ | with_reducible exact Hid.out (by assumption) | with_reducible refine Below.setCell ?_ (by first | (simp; done) | omega | (simp <;> omega)) _ | with_reducible refine bl_al ?_ _ | with_reducible apply Below.drew)) hb); clear hb
  go_upto_region 2 with fail
  refine name_world (P := fun W => Code.wp _ _ _ _ W) _ (fun R1 hR1 => ?_)
  have zR1_d : w2.heap.size < R1.heap.size := by rw [hR1]; first | omega | (simp <;> omega)
  have yR1_d : w2.heap.size < R1.heap.size + 1 := by omega
  have yyR1_d : w2.heap.size < R1.heap.size + 1 + 1 := by omega
  have cR1_d_0 : R1.cell? ⟨w2.heap.size, 0, none⟩ = some (.int .i64 dxh) := by rw [hR1]; first | assumption | (simp [go_sem, *]; done)
  have cR1_d_1 : R1.cell? ⟨w2.heap.size, 1, none⟩ = some (.int .u64 dxl) := by rw [hR1]; first | assumption | (simp [go_sem, *]; done)
  have cR1_d_2 : R1.cell? ⟨w2.heap.size, 2, none⟩ = some (.int .i64 dyh) := by rw [hR1]; first | assumption | (simp [go_sem, *]; done)
  have cR1_d_3 : R1.cell? ⟨w2.heap.size, 3, none⟩ = some (.int .u64 dyl) := by rw [hR1]; first | assumption | (simp [go_sem, *]; done)
  have zR1_u : w2.heap.size + 1 < R1.heap.size := by rw [hR1]; first | omega | (simp <;> omega)
  have yR1_u : w2.heap.size + 1 < R1.heap.size + 1 := by omega
  have yyR1_u : w2.heap.size + 1 < R1.heap.size + 1 + 1 := by omega
  have cR1_u_0 : R1.cell? ⟨w2.heap.size + 1, 0, none⟩ = some (.int .i64 uxh) := by rw [hR1]; first | assumption | (simp [go_sem, *]; done)
  have cR1_u_1 : R1.cell? ⟨w2.heap.size + 1, 1, none⟩ = some (.int .u64 uxl) := by rw [hR1]; first | assumption | (simp [go_sem, *]; done)
  have cR1_u_2 : R1.cell? ⟨w2.heap.size + 1, 2, none⟩ = some (.int .i64 uyh) := by rw [hR1]; first | assumption | (simp [go_sem, *]; done)
  have cR1_u_3 : R1.cell? ⟨w2.heap.size + 1, 3, none⟩ = some (.int .u64 uyl) := by rw [hR1]; first | assumption | (simp [go_sem, *]; done)
  have HBR1 : Hid (Below w.heap.size w R1) := by rw [hR1]; show Below _ _ _; exact (by repeat (first | with_reducible exact Below.refl _ _ | with_reducible exact Hid.out (by assumption) | with_reducible refine Below.setCell ?_ (by first | (simp; done) | omega | (simp <;> omega)) _ | with_reducible refine bl_al ?_ _ | with_reducible apply Below.drew))
  clear hR1
  clear sxw1_0 hclw1 hfrw1 HBw1 sxw2_0 hclw2 hfrw2 HBw2
  go_region_held3 (fun w' => w'.cell? ⟨w2.heap.size, 0, none⟩ = some (.int .i64 dxh) ∧ w'.cell? ⟨w2.heap.size, 1, none⟩ = some (.int .u64 dxl) ∧ w'.cell? ⟨w2.heap.size, 2, none⟩ = some (.int .i64 dyh) ∧ w'.cell? ⟨w2.heap.size, 3, none⟩ = some (.int .u64 dyl) ∧ w'.cell? ⟨w2.heap.size + 1, 0, none⟩ = some (.int .i64 uxh) ∧ w'.cell? ⟨w2.heap.size + 1, 1, none⟩ = some (.int .u64 uxl) ∧ w'.cell? ⟨w2.heap.size + 1, 2, none⟩ = some (.int .i64 uyh) ∧ w'.cell? ⟨w2.heap.size + 1, 3, none⟩ = some (.int .u64 uyl)) (first | (simp [*, go_sem]; done) | (simp [*, go_sem, World.cell?_alloc_past]; done))
    (first
      | (go_at_call 28; (with_reducible refine (K3.out _).mono ?_); rintro e w3 ⟨rfl, hb⟩; (first | (with_reducible (obtain ⟨hclw3, hfrw3⟩ := bcell_drew hb)) | (obtain ⟨hclw3, hfrw3⟩ := bcell hb)); have zw3_d : w2.heap.size < w3.heap.size := (by first | omega | (have hz := hb.size; (try simp at hz); omega)); have yw3_d : w2.heap.size < w3.heap.size + 1 := (by omega); have yyw3_d : w2.heap.size < w3.heap.size + 1 + 1 := (by omega); have zw3_u : w2.heap.size + 1 < w3.heap.size := (by first | omega | (have hz := hb.size; (try simp at hz); omega)); have yw3_u : w2.heap.size + 1 < w3.heap.size + 1 := (by omega); have yyw3_u : w2.heap.size + 1 < w3.heap.size + 1 + 1 := (by omega); have sxw3_0 : R1.heap.size ≤ w3.heap.size := (by first | omega | (have hz := hb.size; (try simp at hz); omega)); have HBw3 : Hid (Below w.heap.size w w3) := (bl_trans (by repeat (first | with_reducible exact Below.refl _ _ | with_reducible exact Hid.out (by assumption) | with_reducible refine Below.setCell ?_ (by first | (simp; done) | omega | (simp <;> omega)) _ | with_reducible refine bl_al ?_ _ | with_reducible apply Below.drew)) hb); clear hb; clear K3)
      | (go_at_call 18; (with_reducible refine (K4.out _).mono ?_); rintro e w4 ⟨rfl, hb⟩; obtain ⟨hclw4, hfrw4⟩ := bcell hb; have zw4_d : w2.heap.size < w4.heap.size := (by first | omega | (have hz := hb.size; (try simp at hz); omega)); have yw4_d : w2.heap.size < w4.heap.size + 1 := (by omega); have yyw4_d : w2.heap.size < w4.heap.size + 1 + 1 := (by omega); have zw4_u : w2.heap.size + 1 < w4.heap.size := (by first | omega | (have hz := hb.size; (try simp at hz); omega)); have yw4_u : w2.heap.size + 1 < w4.heap.size + 1 := (by omega); have yyw4_u : w2.heap.size + 1 < w4.heap.size + 1 + 1 := (by omega); have sxw4_0 : R1.heap.size ≤ w4.heap.size := (by first | omega | (have hz := hb.size; (try simp at hz); omega)); have sxw4_w3 : w3.heap.size ≤ w4.heap.size := (by first | omega | (have hz := hb.size; (try simp at hz); omega)); have HBw4 : Hid (Below w.heap.size w w4) := (bl_trans (by repeat (first | with_reducible exact Below.refl _ _ | with_reducible exact Hid.out (by assumption) | with_reducible refine Below.setCell ?_ (by first | (simp; done) | omega | (simp <;> omega)) _ | with_reducible refine bl_al ?_ _ | with_reducible apply Below.drew)) hb); clear hb; clear K4)
      | (go_at_call 28; (with_reducible refine (K5.out _).mono ?_); rintro e w5 ⟨rfl, hb⟩; obtain ⟨hclw5, hfrw5⟩ := bcell hb; have zw5_d : w2.heap.size < w5.heap.size := (by first | omega | (have hz := hb.size; (try simp at hz); omega)); have yw5_d : w2.heap.size < w5.heap.size + 1 := (by omega); have yyw5_d : w2.heap.size < w5.heap.size + 1 + 1 := (by omega); have zw5_u : w2.heap.size + 1 < w5.heap.size := (by first | omega | (have hz := hb.size; (try simp at hz); omega)); have yw5_u : w2.heap.size + 1 < w5.heap.size + 1 := (by omega); have yyw5_u : w2.heap.size + 1 < w5.heap.size + 1 + 1 := (by omega); have sxw5_0 : R1.heap.size ≤ w5.heap.size := (by first | omega | (have hz := hb.size; (try simp at hz); omega)); have sxw5_w3 : w3.heap.size ≤ w5.heap.size := (by first | omega | (have hz := hb.size; (try simp at hz); omega)); have sxw5_w4 : w4.heap.size ≤ w5.heap.size := (by first | omega | (have hz := hb.size; (try simp at hz); omega)); have HBw5 : Hid (Below w.heap.size w w5) := (bl_trans (by repeat (first | with_reducible exact Below.refl _ _ | with_reducible exact Hid.out (by assumption) | with_reducible refine Below.setCell ?_ (by first | (simp; done) | omega | (simp <;> omega)) _ | with_reducible refine bl_al ?_ _ | with_reducible apply Below.drew)) hb); clear hb; clear K5)
      | (go_at_call 11; (with_reducible refine (K6.out _).mono ?_); rintro e w6 ⟨rfl, hb⟩; obtain ⟨hclw6, hfrw6⟩ := bcell hb; have zw6_d : w2.heap.size < w6.heap.size := (by first | omega | (have hz := hb.size; (try simp at hz); omega)); have yw6_d : w2.heap.size < w6.heap.size + 1 := (by omega); have yyw6_d : w2.heap.size < w6.heap.size + 1 + 1 := (by omega); have zw6_u : w2.heap.size + 1 < w6.heap.size := (by first | omega | (have hz := hb.size; (try simp at hz); omega)); have yw6_u : w2.heap.size + 1 < w6.heap.size + 1 := (by omega); have yyw6_u : w2.heap.size + 1 < w6.heap.size + 1 + 1 := (by omega); have sxw6_0 : R1.heap.size ≤ w6.heap.size := (by first | omega | (have hz := hb.size; (try simp at hz); omega)); have sxw6_w3 : w3.heap.size ≤ w6.heap.size := (by first | omega | (have hz := hb.size; (try simp at hz); omega)); have sxw6_w4 : w4.heap.size ≤ w6.heap.size := (by first | omega | (have hz := hb.size; (try simp at hz); omega)); have sxw6_w5 : w5.heap.size ≤ w6.heap.size := (by first | omega | (have hz := hb.size; (try simp at hz); omega)); have HBw6 : Hid (Below w.heap.size w w6) := (bl_trans (by repeat (first | with_reducible exact Below.refl _ _ | with_reducible exact Hid.out (by assumption) | with_reducible refine Below.setCell ?_ (by first | (simp; done) | omega | (simp <;> omega)) _ | with_reducible refine bl_al ?_ _ | with_reducible apply Below.drew)) hb); clear hb; clear K6))
  rename_i hHeld
  clear hHeld
  go_wp2_with fail
  go_returns
  exact ⟨rfl, by repeat (first | with_reducible exact Below.refl _ _ | with_reducible exact Hid.out (by assumption) | with_reducible refine Below.setCell ?_ (by first | (simp; done) | omega | (simp <;> omega)) _ | with_reducible refine bl_al ?_ _ | with_reducible apply Below.drew)⟩
/-- What Of tells is the way of one. -/
theorem of_up (A : Nat) (h : A < 65536) : rx A 18446744073709551616 0 = (up 14 A).1 ∧ ry A 18446744073709551616 0 = (up 14 A).2 ∧ re A 18446744073709551616 0 = 0 := by
  obtain ⟨e0, e1, e2, _⟩ := turn_pure (M := 36893488147419103232) (G := 33) (by decide) (by decide) (by decide) (by decide) A 18446744073709551616 0 (by decide)
  have g := rp_up A (A / 16384) 14 0 18446744073709551616 0 rfl (by
    show _ = qt (A / 2 ^ 14 % 4) 18446744073709551616 0
    rw [show A / 2 ^ 14 % 4 = A / 16384 by simp only [Nat.reducePow]; omega])
  have g' : qt (A / 16384) (rp A 14 0 18446744073709551616 0).1 (rp A 14 0 18446744073709551616 0).2 = up 14 A := g
  rw [e1, e2, g']
  exact ⟨rfl, rfl, e0⟩
theorem up_whole : up 14 65536 = (18446744073709551616, 0) := by
  rw [up_off (by decide), up_off (by decide), up_off (by decide), up_off (by decide), up_off (by decide), up_off (by decide), up_off (by decide), up_off (by decide), up_off (by decide), up_off (by decide), up_off (by decide), up_off (by decide), up_off (by decide), up_off (by decide)]
  rfl
theorem mirror (A B : Nat) (h : up 14 (A + B) = (18446744073709551616, 0)) : Bd ((up 14 A).1 - (up 14 B).1) 1099511627776 ∧ Bd ((up 14 A).2 - -(up 14 B).2) 1099511627776 := by
  obtain ⟨r1, r2⟩ := up_comp 14 (by decide) A B
  have n := up_norm 14 A (by decide)
  obtain ⟨a1, a2⟩ := up_bd (show 14 ≤ 14 by decide) A
  obtain ⟨b1, b2⟩ := up_bd (show 14 ≤ 14 by decide) B
  rw [h] at r1 r2
  rw [show ee 14 = 65087916 from rfl] at r1 r2
  generalize (up 14 A).1 = a at *
  generalize (up 14 A).2 = b at *
  generalize (up 14 B).1 = c at *
  generalize (up 14 B).2 = d at *
  dsimp only at r1 r2
  have e1 : 18446744073709551616 * (18446744073709551616 * (a - c)) = c * (a * a + b * b - 18446744073709551616 * 18446744073709551616) - a * (a * c - b * d - 18446744073709551616 * 18446744073709551616) - b * (a * d + b * c - 18446744073709551616 * 0) := by grind
  have e2 : 18446744073709551616 * (18446744073709551616 * (b - -d)) = a * (a * d + b * c - 18446744073709551616 * 0) - b * (a * c - b * d - 18446744073709551616 * 18446744073709551616) - d * (a * a + b * b - 18446744073709551616 * 18446744073709551616) := by grind
  have t1 := ((b1.mul n).sub (a1.mul r1)).sub (a2.mul r2)
  have t2 := ((a1.mul r2).sub (a2.mul r1)).sub (b2.mul n)
  rw [← e1] at t1
  rw [← e2] at t2
  exact ⟨Bd.div (P := 18446744073709551616) (by decide) (Bd.div (P := 18446744073709551616) (by decide) (t1.mono (by decide))), Bd.div (P := 18446744073709551616) (by decide) (Bd.div (P := 18446744073709551616) (by decide) (t2.mono (by decide)))⟩
theorem turnMirror_walk (n : Int) (n0 : 0 ≤ n) (n1 : n < 65536) (w : World) :
    Calls Try.prog 7 #[.int .u16 n] w fun e w' => e = .returned (.bool true) ∧ Below w.heap.size w w' := by
  have O1 := of_any n; have O2 := of_any (-n)
  have P1 : My 18446744073709551616 := by unfold My; omega
  have P0 : My 0 := by unfold My; omega
  obtain ⟨m1, m2⟩ := r_my (ang n) P1 P0
  obtain ⟨m3, m4⟩ := r_my (ang (-n)) P1 P0
  have hs : up 14 (ang n + ang (-n)) = (18446744073709551616, 0) := by
    rcases (show ang n + ang (-n) = 0 ∨ ang n + ang (-n) = 65536 by unfold ang; omega) with h | h
    · rw [h]; exact up_zero 14
    · rw [h]; exact up_whole
  obtain ⟨d1, d2⟩ := mirror _ _ hs
  obtain ⟨x1, x2, _⟩ := of_up (ang n) (ang_lt n)
  obtain ⟨x3, x4, _⟩ := of_up (ang (-n)) (ang_lt (-n))
  rw [← x1, ← x3] at d1
  rw [← x2, ← x4] at d2
  exact turnMirror_core _ _ _ _ _ _ _ _ _ _ n _ (IntWalk.i64_in _ (by omega)) (IntWalk.i64_in _ (by omega)) w O1 O2 (near40_any m1 m3 d1) (rneg_any _ m4) (near40_any m2 (my_neg2 m4) d2) tawake_any
theorem wf_u16 {n : Int} (h : (Lit.int .u16 n).wf = true) : 0 ≤ n ∧ n < 65536 := by
  simp [Lit.wf, IntKind.min, IntKind.max, IntKind.bits, IntKind.signed] at h; omega
open Go.ChangeShapes Go.WideShapes Go.ChangeAt Go.RowKit Go.Joins
set_option maxRecDepth 100000 in
theorem turnMirror_lifted (os : Os) (started : os.Started) (H : Type) (enc : TypeId × Value → H) :
    ReturnsInHanded {} Try.checked os 7 .any (Rows.turnMirrorSpec.pre6 enc Try.prog Try.f7 Rows.turnMirrorRow.domain false) (Rows.turnMirrorSpec.post enc Try.prog Try.f7 false true false false) := by
  refine returnsInHanded_of_change (C := Try.checked) Try.own started (by kernel_rfl) Try.func7
    (ChangeSpec.witness6 (enc := enc) (C := Try.checked) false ⟨#[], #[.int .u16 0], []⟩ 8 (by kernel_rfl) (by kernel_rfl) (by kernel_rfl) (by kernel_rfl)) ?_
  intro W base args ds gs before hval0 hW hcnd _
  have hval : ∀ (j : Nat) t v, Try.f7.params[j]? = some t → args[j]? = some v → Value.okWide Try.prog W .any base t v := hval0
  have hW' := hW
  obtain ⟨p, q, hA0, hV, rfl, hfz, hnd⟩ := hW
  have hA : DataW.TrodAll enc Try.prog W 0 (fun _ => true) true Try.f7.params.toList args.toList ds p := hA0
  rw [Try.params7] at hA hval
  obtain ⟨v0, d0, rfl, rfl, h0⟩ := trodAll_one hA
  obtain ⟨rfl, rfl⟩ := trodVars_none hV
  obtain ⟨n, rfl, rfl, rfl, k00⟩ := open_int Try.underlying55 (hval 0 55 v0 rfl rfl) h0
  clear hA0 hval0
  simp only [List.append_nil] at hW'
  refine (turnMirror_walk n (wf_u16 k00).1 (wf_u16 k00).2 W).mono fun e W' ⟨he, hb⟩ => ?_
  subst he
  exact ⟨_, rfl, _, _, _, [], [], [], hW', trodAll_mk1 (shut_bool Try.underlying4 _), trodAll_mk1 (shut_int Try.underlying55 k00), rfl, hb.frame _, fun h => by cases h⟩
theorem turnMirror_holds : Rows.TurnMirrorSaid :=
  OpenClaim.holds_of_wide 7 Try.f7 rfl rfl rfl rfl rfl rfl rfl ⟨rfl, rfl, rfl, rfl, rfl⟩ rfl rfl rfl rfl rfl (by kernel_rfl) Try.func7 (by kernel_rfl)
    (of_decide_eq_true (by kernel_rfl)) (by unfold Func.isWrapper; first | (rw [if_pos (by decide +kernel)]; kernel_rfl) | (rw [if_neg (by decide +kernel)]; exact ⟨rfl, rfl⟩))
    (fun os started H enc _ => turnMirror_lifted os started H enc)
end Go.Proofs.Ytmelipbanbihdaa
