/- What the laws of vec want beside their walks: equality of ways, the law's own awake. -/
import Derived.Test.YtgiamnehncbihaaVecAny
import Derived.Test.YtgiamnehncbihaaRefFix2
namespace Go.Proofs.Ytgiamnehncbihaa
open Go.RowKit
theorem eq_vec_true (a b c d : Int) (W : World) : (Go.binOp .eql 42 (.agg #[.int .i64 a, .int .u64 b, .int .i64 c, .int .u64 d]) (.agg #[.int .i64 a, .int .u64 b, .int .i64 c, .int .u64 d])).run Try.prog W = .ok (.bool true) W := by
  simp [go_sem]
theorem ne_vec_false (a b c d : Int) (W : World) : (Go.binOp .neq 42 (.agg #[.int .i64 a, .int .u64 b, .int .i64 c, .int .u64 d]) (.agg #[.int .i64 a, .int .u64 b, .int .i64 c, .int .u64 d])).run Try.prog W = .ok (.bool false) W := by
  simp [go_sem]
set_option maxRecDepth 20000 in
set_option maxHeartbeats 60000000 in
theorem vawake_core (ph pl qh ql rh rl : Int)  (w : World)
    (C1 : ∀ W, Calls Try.prog 39 #[.int .i64 3] W fun e w' => e = .returned (.agg #[.int .i64 ph, .int .u64 pl]) ∧ Below W.heap.size W w')
    (C2 : ∀ W, Calls Try.prog 39 #[.int .i64 4] W fun e w' => e = .returned (.agg #[.int .i64 qh, .int .u64 ql]) ∧ Below W.heap.size W w')
    (C3 : ∀ W, Calls Try.prog 27 #[.agg #[.int .i64 ph, .int .u64 pl, .int .i64 qh, .int .u64 ql]] W fun e w' => e = .returned (.tuple #[.agg #[.int .i64 rh, .int .u64 rl], .int .i64 0]) ∧ Below W.heap.size W w')
    (C4 : ∀ W, Calls Try.prog 38 #[.int .i64 0] W fun e w' => e = .returned (.int .i64 0) ∧ Below W.heap.size W w')
    (C5 : ∀ W, Calls Try.prog 39 #[.int .i64 5] W fun e w' => e = .returned (.agg #[.int .i64 rh, .int .u64 rl]) ∧ Below W.heap.size W w') :
    Calls Try.prog 21 #[] w fun e w' => e = .returned (.bool true) ∧ Below w.heap.size w w' := by
  have K1 := Lib.hid C1; have K2 := Lib.hid C2; have K3 := Lib.hid C3; have K4 := Lib.hid C4; have K5 := Lib.hid C5
  clear C1 C2 C3 C4 C5
  have qe := eq_fix_true rh rl
  go_enter Try.func21, Try.ntmps21
  go_wp2_with fail
  (with_reducible refine (K1.out _).mono ?_); rintro e w1 ⟨rfl, hb⟩; obtain ⟨hclw1, hfrw1⟩ := bcell hb; have sxw1_0 : w.heap.size ≤ w1.heap.size := (by first | omega | (have hz := hb.size; (try simp at hz); omega)); have HBw1 : Hid (Below w.heap.size w w1) := (bl_trans (by repeat (first | with_reducible exact Below.refl _ _ | with_reducible exact Hid.out (by assumption) | with_reducible refine Below.setCell ?_ (by first | (simp; done) | omega | (simp <;> omega)) _ | with_reducible refine bl_al ?_ _ | with_reducible apply Below.drew)) hb); clear hb
  go_wp2_with fail
  (with_reducible refine (K2.out _).mono ?_); rintro e w2 ⟨rfl, hb⟩; obtain ⟨hclw2, hfrw2⟩ := bcell hb; have sxw2_0 : w1.heap.size ≤ w2.heap.size := (by first | omega | (have hz := hb.size; (try simp at hz); omega)); have HBw2 : Hid (Below w.heap.size w w2) := (bl_trans (by repeat (first | with_reducible exact Below.refl _ _ | with_reducible exact Hid.out (by assumption) | with_reducible refine Below.setCell ?_ (by first | (simp; done) | omega | (simp <;> omega)) _ | with_reducible refine bl_al ?_ _ | with_reducible apply Below.drew)) hb); clear hb
  go_wp2_with fail
  (with_reducible refine (K3.out _).mono ?_); rintro e w3 ⟨rfl, hb⟩; obtain ⟨hclw3, hfrw3⟩ := bcell hb; have sxw3_0 : w2.heap.size ≤ w3.heap.size := (by first | omega | (have hz := hb.size; (try simp at hz); omega)); have HBw3 : Hid (Below w.heap.size w w3) := (bl_trans (by repeat (first | with_reducible exact Below.refl _ _ | with_reducible exact Hid.out (by assumption) | with_reducible refine Below.setCell ?_ (by first | (simp; done) | omega | (simp <;> omega)) _ | with_reducible refine bl_al ?_ _ | with_reducible apply Below.drew)) hb); clear hb
  go_upto_region 2 with fail
  refine name_world (P := fun W => Code.wp _ _ _ _ W) _ (fun R1 hR1 => ?_)
  have zR1_r : w3.heap.size < R1.heap.size := by rw [hR1]; first | omega | (simp <;> omega)
  have yR1_r : w3.heap.size < R1.heap.size + 1 := by omega
  have yyR1_r : w3.heap.size < R1.heap.size + 1 + 1 := by omega
  have cR1_r_0 : R1.cell? ⟨w3.heap.size, 0, none⟩ = some (.int .i64 rh) := by rw [hR1]; first | assumption | (simp [go_sem, *]; done)
  have cR1_r_1 : R1.cell? ⟨w3.heap.size, 1, none⟩ = some (.int .u64 rl) := by rw [hR1]; first | assumption | (simp [go_sem, *]; done)
  have HBR1 : Hid (Below w.heap.size w R1) := by rw [hR1]; show Below _ _ _; exact (by repeat (first | with_reducible exact Below.refl _ _ | with_reducible exact Hid.out (by assumption) | with_reducible refine Below.setCell ?_ (by first | (simp; done) | omega | (simp <;> omega)) _ | with_reducible refine bl_al ?_ _ | with_reducible apply Below.drew))
  clear hR1
  clear sxw1_0 hclw1 hfrw1 HBw1 sxw2_0 hclw2 hfrw2 HBw2 sxw3_0 hclw3 hfrw3 HBw3
  go_region_held3 (fun w' => w'.cell? ⟨w3.heap.size, 0, none⟩ = some (.int .i64 rh) ∧ w'.cell? ⟨w3.heap.size, 1, none⟩ = some (.int .u64 rl)) (first | (simp [*, go_sem]; done) | (simp [*, go_sem, World.cell?_alloc_past]; done))
    (first
      | (go_at_call 38; (with_reducible refine (K4.out _).mono ?_); rintro e w4 ⟨rfl, hb⟩; (first | (with_reducible (obtain ⟨hclw4, hfrw4⟩ := bcell_drew hb)) | (obtain ⟨hclw4, hfrw4⟩ := bcell hb)); have zw4_r : w3.heap.size < w4.heap.size := (by first | omega | (have hz := hb.size; (try simp at hz); omega)); have yw4_r : w3.heap.size < w4.heap.size + 1 := (by omega); have yyw4_r : w3.heap.size < w4.heap.size + 1 + 1 := (by omega); have sxw4_0 : R1.heap.size ≤ w4.heap.size := (by first | omega | (have hz := hb.size; (try simp at hz); omega)); have HBw4 : Hid (Below w.heap.size w w4) := (bl_trans (by repeat (first | with_reducible exact Below.refl _ _ | with_reducible exact Hid.out (by assumption) | with_reducible refine Below.setCell ?_ (by first | (simp; done) | omega | (simp <;> omega)) _ | with_reducible refine bl_al ?_ _ | with_reducible apply Below.drew)) hb); clear hb; clear K4)
      | (go_at_call 39; (with_reducible refine (K5.out _).mono ?_); rintro e w5 ⟨rfl, hb⟩; obtain ⟨hclw5, hfrw5⟩ := bcell hb; have zw5_r : w3.heap.size < w5.heap.size := (by first | omega | (have hz := hb.size; (try simp at hz); omega)); have yw5_r : w3.heap.size < w5.heap.size + 1 := (by omega); have yyw5_r : w3.heap.size < w5.heap.size + 1 + 1 := (by omega); have sxw5_0 : R1.heap.size ≤ w5.heap.size := (by first | omega | (have hz := hb.size; (try simp at hz); omega)); have sxw5_w4 : w4.heap.size ≤ w5.heap.size := (by first | omega | (have hz := hb.size; (try simp at hz); omega)); have HBw5 : Hid (Below w.heap.size w w5) := (bl_trans (by repeat (first | with_reducible exact Below.refl _ _ | with_reducible exact Hid.out (by assumption) | with_reducible refine Below.setCell ?_ (by first | (simp; done) | omega | (simp <;> omega)) _ | with_reducible refine bl_al ?_ _ | with_reducible apply Below.drew)) hb); clear hb; clear K5))
  rename_i hHeld
  clear hHeld
  go_wp2_with fail
  go_returns
  exact ⟨rfl, by repeat (first | with_reducible exact Below.refl _ _ | with_reducible exact Hid.out (by assumption) | with_reducible refine Below.setCell ?_ (by first | (simp; done) | omega | (simp <;> omega)) _ | with_reducible refine bl_al ?_ _ | with_reducible apply Below.drew)⟩
theorem sqr_five : sqr 461168601842738790400 = 92233720368547758080 := by
  unfold sqr
  rw [show (461168601842738790400 : Int).toNat * 18446744073709551616 = 92233720368547758080 * 92233720368547758080 by decide, isq_of (Nat.le_refl _) (by omega)]
  rfl
theorem three_my : My 55340232221128654848 ∧ My 73786976294838206464 ∧ My 92233720368547758080 := by unfold My; omega
theorem vawake_any (w : World) : Calls Try.prog 21 #[] w fun e w' => e = .returned (.bool true) ∧ Below w.heap.size w w' := by
  have L := vlen_any 55340232221128654848 73786976294838206464 three_my.1 three_my.2.1
  have e1 : de (mulr 55340232221128654848 55340232221128654848) (mulr 73786976294838206464 73786976294838206464) = 0 := by decide
  have e2 : lv 55340232221128654848 73786976294838206464 = 92233720368547758080 := by
    unfold lv; rw [if_pos e1, (de_zero e1).2.2.2]
    have e3 : mulr 55340232221128654848 55340232221128654848 + mulr 73786976294838206464 73786976294838206464 = 461168601842738790400 := by decide
    rw [e3]; exact sqr_five
  rw [e1, e2] at L
  have i3 := rint_any 3; have i4 := rint_any 4; have i5 := rint_any 5
  rw [show intr 3 = 55340232221128654848 by decide] at i3
  rw [show intr 4 = 73786976294838206464 by decide] at i4
  rw [show intr 5 = 92233720368547758080 by decide] at i5
  exact vawake_core _ _ _ _ _ _ w i3 i4 L (num_any 0) i5
theorem rmv_true {x y : Int} (hx : My x) (hy : My y) (w : World) : Calls Try.prog 20 #[vec x y] w fun e w' => e = .returned (.bool true) ∧ Below w.heap.size w w' := by
  have h := rmayvec_any x y w
  rw [decide_eq_true (show x ≠ -170141183460469231731687303715884105728 by unfold My at hx; omega), decide_eq_true (show y ≠ -170141183460469231731687303715884105728 by unfold My at hy; omega)] at h; exact h
theorem rmv_false {x y : Int} (hx : Fx x) (hy : Fx y) (n : ¬ (My x ∧ My y)) (w : World) : Calls Try.prog 20 #[vec x y] w fun e w' => e = .returned (.bool false) ∧ Below w.heap.size w w' := by
  have h := rmayvec_any x y w
  by_cases mx : My x
  · have my : ¬ My y := fun g => n ⟨mx, g⟩
    rw [decide_eq_false (show ¬ y ≠ -170141183460469231731687303715884105728 by unfold My at my; unfold Fx at hy; omega), Bool.and_false] at h; exact h
  · rw [decide_eq_false (show ¬ x ≠ -170141183460469231731687303715884105728 by unfold My at mx; unfold Fx at hx; omega)] at h; exact h
end Go.Proofs.Ytgiamnehncbihaa
