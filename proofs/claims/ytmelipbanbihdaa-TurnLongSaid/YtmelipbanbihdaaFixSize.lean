/- Sizes, the ones turned about, whole numbers. -/
import Derived.Test.YtmelipbanbihdaaFixLeaf
import Derived.Test.YtmelipbanbihdaaLaw
import Derived.Deep.RegionHeld3
import Derived.Deep.DeepCutAuto
namespace Go.Proofs.Ytmelipbanbihdaa
open Go.RowKit

theorem tn_abs {x : Int} (h : Fx x) : tn (decide (x < 0)) (ub x) = x.natAbs := by
  obtain ⟨_, _⟩ := h
  by_cases c : x < 0
  · rw [decide_eq_true c, tn_true]; unfold ub; omega
  · rw [decide_eq_false c, tn_false]; unfold ub; omega
theorem size_core (h l b1 b0 s r1 r0 : Int)  (w : World)
    (C1 : ∀ W, Calls Try.prog 52 #[.agg #[.int .i64 h, .int .u64 l]] W fun e w' => e = .returned (.agg #[.int .u64 b1, .int .u64 b0]) ∧ Below W.heap.size W w')
    (C2 : ∀ W, Calls Try.prog 62 #[.agg #[.int .i64 h, .int .u64 l]] W fun e w' => e = .returned (.int .u64 s) ∧ Below W.heap.size W w')
    (C3 : ∀ W, Calls Try.prog 51 #[.agg #[.int .u64 b1, .int .u64 b0], .int .u64 s] W fun e w' => e = .returned (.agg #[.int .u64 r1, .int .u64 r0]) ∧ Below W.heap.size W w') :
    Calls Try.prog 67 #[.agg #[.int .i64 h, .int .u64 l]] w fun e w' => e = .returned (.agg #[.int .u64 r1, .int .u64 r0]) ∧ Below w.heap.size w w' := by
  have K1 := Lib.hid C1; have K2 := Lib.hid C2; have K3 := Lib.hid C3
  clear C1 C2 C3
  go_enter Try.func67, Try.ntmps67
  go_upto_region 1 with fail
  go_region_held3 (fun w' => w'.cell? ⟨w.heap.size, 0, none⟩ = some (.int .i64 h) ∧ w'.cell? ⟨w.heap.size, 1, none⟩ = some (.int .u64 l)) (simp [*, go_sem, World.cell?_alloc_past])
    (first
      | (go_at_call 52; refine (K1.out _).mono ?_; rintro e w' ⟨rfl, hb⟩; obtain ⟨hcl, hfr⟩ := bcell hb; have hz2 : w.heap.size + 1 < w'.heap.size := (by have hz := hb.size; first | (simp at hz; omega) | omega); have hz1 : w.heap.size < w'.heap.size := (by omega); have HB : Hid (Below w.heap.size w w') := (bl_trans (by repeat (first | exact Below.refl _ _ | exact Hid.out (by assumption) | with_reducible refine Below.setCell ?_ (by first | (simp; done) | omega | (simp <;> omega)) _ | with_reducible refine bl_al ?_ _ | with_reducible apply Below.drew)) hb); clear hb)
      | (go_at_call 62; refine (K2.out _).mono ?_; rintro e w' ⟨rfl, hb⟩; obtain ⟨hcl, hfr⟩ := bcell hb; have hz2 : w.heap.size + 1 < w'.heap.size := (by have hz := hb.size; first | (simp at hz; omega) | omega); have hz1 : w.heap.size < w'.heap.size := (by omega); have HB : Hid (Below w.heap.size w w') := (bl_trans (by repeat (first | exact Below.refl _ _ | exact Hid.out (by assumption) | with_reducible refine Below.setCell ?_ (by first | (simp; done) | omega | (simp <;> omega)) _ | with_reducible refine bl_al ?_ _ | with_reducible apply Below.drew)) hb); clear hb)
      | (go_at_call 51; refine (K3.out _).mono ?_; rintro e w' ⟨rfl, hb⟩; obtain ⟨hcl, hfr⟩ := bcell hb; have hz2 : w.heap.size + 1 < w'.heap.size := (by have hz := hb.size; first | (simp at hz; omega) | omega); have hz1 : w.heap.size < w'.heap.size := (by omega); have HB : Hid (Below w.heap.size w w') := (bl_trans (by repeat (first | exact Below.refl _ _ | exact Hid.out (by assumption) | with_reducible refine Below.setCell ?_ (by first | (simp; done) | omega | (simp <;> omega)) _ | with_reducible refine bl_al ?_ _ | with_reducible apply Below.drew)) hb); clear hb))
  rename_i hHeld
  clear hHeld
  go_wp2_with fail
  refine bodyPost_ret (by simp [results, Try.results67, go_sem, *]; try rfl) rfl ?_
  exact ⟨rfl, by repeat (first | exact Below.refl _ _ | exact Hid.out (by assumption) | with_reducible refine Below.setCell ?_ (by first | (simp; done) | omega | (simp <;> omega)) _ | with_reducible refine bl_al ?_ _ | with_reducible apply Below.drew)⟩
theorem size_any (x : Int) (hx : Fx x) (w : World) :
    Calls Try.prog 67 #[.agg #[.int .i64 (fh x), .int .u64 (fl x)]] w fun e w' => e = .returned (.agg #[.int .u64 (wd x.natAbs 1), .int .u64 (wd x.natAbs 0)]) ∧ Below w.heap.size w w' := by
  have C3 := turn_any _ _ (decide (x < 0)) (wd_wd (ub x) 1) (wd_wd (ub x) 0)
  rw [ub_v2, tn_abs hx] at C3
  exact size_core _ _ _ _ _ _ _ w (bits_any x) (sign_any x hx) C3
theorem neg_core (h l b1 b0 r1 r0 n1 n0 : Int)  (w : World)
    (C1 : ∀ W, Calls Try.prog 52 #[.agg #[.int .i64 h, .int .u64 l]] W fun e w' => e = .returned (.agg #[.int .u64 b1, .int .u64 b0]) ∧ Below W.heap.size W w')
    (C2 : ∀ W, Calls Try.prog 51 #[.agg #[.int .u64 b1, .int .u64 b0], .int .u64 18446744073709551615] W fun e w' => e = .returned (.agg #[.int .u64 r1, .int .u64 r0]) ∧ Below W.heap.size W w')
    (C3 : ∀ W, Calls Try.prog 50 #[.agg #[.int .u64 r1, .int .u64 r0]] W fun e w' => e = .returned (.agg #[.int .i64 n1, .int .u64 n0]) ∧ Below W.heap.size W w') :
    Calls Try.prog 34 #[.agg #[.int .i64 h, .int .u64 l]] w fun e w' => e = .returned (.agg #[.int .i64 n1, .int .u64 n0]) ∧ Below w.heap.size w w' := by
  have K1 := Lib.hid C1; have K2 := Lib.hid C2; have K3 := Lib.hid C3
  clear C1 C2 C3
  go_enter Try.func34, Try.ntmps34
  go_wp2_with fail
  refine (K1.out _).mono ?_; rintro e w' ⟨rfl, hb⟩; obtain ⟨hcl, hfr⟩ := bcell hb; have hz2 : w.heap.size + 1 < w'.heap.size := (by have hz := hb.size; first | (simp at hz; omega) | omega); have hz1 : w.heap.size < w'.heap.size := (by omega); have HB : Hid (Below w.heap.size w w') := (bl_trans (by repeat (first | exact Below.refl _ _ | exact Hid.out (by assumption) | with_reducible refine Below.setCell ?_ (by first | (simp; done) | omega | (simp <;> omega)) _ | with_reducible refine bl_al ?_ _ | with_reducible apply Below.drew)) hb); clear hb
  go_wp2_with fail
  refine (K2.out _).mono ?_; rintro e w' ⟨rfl, hb⟩; obtain ⟨hcl, hfr⟩ := bcell hb; have hz2 : w.heap.size + 1 < w'.heap.size := (by have hz := hb.size; first | (simp at hz; omega) | omega); have hz1 : w.heap.size < w'.heap.size := (by omega); have HB : Hid (Below w.heap.size w w') := (bl_trans (by repeat (first | exact Below.refl _ _ | exact Hid.out (by assumption) | with_reducible refine Below.setCell ?_ (by first | (simp; done) | omega | (simp <;> omega)) _ | with_reducible refine bl_al ?_ _ | with_reducible apply Below.drew)) hb); clear hb
  go_wp2_with fail
  refine (K3.out _).mono ?_; rintro e w' ⟨rfl, hb⟩; obtain ⟨hcl, hfr⟩ := bcell hb; have hz2 : w.heap.size + 1 < w'.heap.size := (by have hz := hb.size; first | (simp at hz; omega) | omega); have hz1 : w.heap.size < w'.heap.size := (by omega); have HB : Hid (Below w.heap.size w w') := (bl_trans (by repeat (first | exact Below.refl _ _ | exact Hid.out (by assumption) | with_reducible refine Below.setCell ?_ (by first | (simp; done) | omega | (simp <;> omega)) _ | with_reducible refine bl_al ?_ _ | with_reducible apply Below.drew)) hb); clear hb
  go_wp2_with fail
  refine bodyPost_ret (by simp [results, Try.results34, go_sem, *]; try rfl) rfl ?_
  exact ⟨rfl, by repeat (first | exact Below.refl _ _ | exact Hid.out (by assumption) | with_reducible refine Below.setCell ?_ (by first | (simp; done) | omega | (simp <;> omega)) _ | with_reducible refine bl_al ?_ _ | with_reducible apply Below.drew)⟩
theorem neg_any (x : Int) (hx : My x) (w : World) :
    Calls Try.prog 34 #[.agg #[.int .i64 (fh x), .int .u64 (fl x)]] w fun e w' => e = .returned (.agg #[.int .i64 (fh (-x)), .int .u64 (fl (-x))]) ∧ Below w.heap.size w w' := by
  have C2 := turn_any _ _ true (wd_wd (ub x) 1) (wd_wd (ub x) 0)
  rw [ub_v2, tn_true, sw_true] at C2
  obtain ⟨h1, h2⟩ := hx
  have C3 := ofBits_any (-x) (340282366920938463463374607431768211456 - ub x) ⟨by omega, by omega⟩ (by unfold ub; omega)
  exact neg_core _ _ _ _ _ _ _ _ w (bits_any x) C2 C3
theorem may_core (h l : Int) (w : World) :
    Calls Try.prog 63 #[.agg #[.int .i64 h, .int .u64 l]] w fun e w' => e = .returned (.bool (!decide (h = -9223372036854775808 ∧ l = 0))) ∧ Below w.heap.size w w' := by
  by_cases c : h = -9223372036854775808
  · by_cases d : l = 0
    · have E : Hid (false = !decide (h = -9223372036854775808 ∧ l = 0)) := by show _ = _; simp [c, d]
      subst d
      go_enter Try.func63, Try.ntmps63
      go_wp2_with fail
      go_returns
      exact ⟨ret_bool (by first | rfl | exact E.out), by repeat (first | exact Below.refl _ _ | exact Hid.out (by assumption) | with_reducible refine bl_al ?_ _ | with_reducible apply Below.drew)⟩
    · have E : Hid (true = !decide (h = -9223372036854775808 ∧ l = 0)) := by show _ = _; simp [d]
      go_enter Try.func63, Try.ntmps63
      go_wp2_with fail
      go_returns
      exact ⟨ret_bool (by first | rfl | exact E.out), by repeat (first | exact Below.refl _ _ | exact Hid.out (by assumption) | with_reducible refine bl_al ?_ _ | with_reducible apply Below.drew)⟩
  · have E : Hid (true = !decide (h = -9223372036854775808 ∧ l = 0)) := by show _ = _; simp [c]
    go_enter Try.func63, Try.ntmps63
    go_wp2_with fail
    go_returns
    exact ⟨ret_bool (by first | rfl | exact E.out), by repeat (first | exact Below.refl _ _ | exact Hid.out (by assumption) | with_reducible refine bl_al ?_ _ | with_reducible apply Below.drew)⟩
theorem may_word (x : Int) : (!decide (fh x = -9223372036854775808 ∧ fl x = 0)) = decide (x ≠ -170141183460469231731687303715884105728) := by
  rw [Bool.eq_iff_iff]; simp only [Bool.not_eq_true', decide_eq_false_iff_not, decide_eq_true_eq]; unfold fh fl; omega
theorem may_any (x : Int) (w : World) :
    Calls Try.prog 63 #[.agg #[.int .i64 (fh x), .int .u64 (fl x)]] w fun e w' => e = .returned (.bool (decide (x ≠ -170141183460469231731687303715884105728))) ∧ Below w.heap.size w w' := by
  rw [← may_word]; exact may_core _ _ w
theorem int_word (n : Int) : fh (intr n) = (if n < -9223372036854775807 then -9223372036854775807 else n) ∧ fl (intr n) = 0 := by
  unfold fh fl intr; split <;> constructor <;> omega
theorem int_core (n m : Int) (hm : m = if n < -9223372036854775807 then -9223372036854775807 else n) (w : World) :
    Calls Try.prog 30 #[.int .i64 n] w fun e w' => e = .returned (.agg #[.int .i64 m, .int .u64 0]) ∧ Below w.heap.size w w' := by
  go_enter Try.func30, Try.ntmps30
  go_wp2_with fail
  all_goals (go_returns; exact ⟨ret_fix (by first | rfl | (rw [hm]; split <;> omega)) rfl, by repeat (first | exact Below.refl _ _ | exact Hid.out (by assumption) | with_reducible refine bl_al ?_ _ | with_reducible apply Below.drew)⟩)
theorem int_any (n : Int) (w : World) :
    Calls Try.prog 30 #[.int .i64 n] w fun e w' => e = .returned (.agg #[.int .i64 (fh (intr n)), .int .u64 (fl (intr n))]) ∧ Below w.heap.size w w' := by
  rw [(int_word n).2]; exact int_core n _ (int_word n).1 w
end Go.Proofs.Ytmelipbanbihdaa
