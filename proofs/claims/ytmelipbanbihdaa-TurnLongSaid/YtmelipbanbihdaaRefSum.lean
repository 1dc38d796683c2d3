/- The document's sums and differences: what each function comes to. -/
import Derived.Test.YtmelipbanbihdaaMulAny
import Derived.Test.YtmelipbanbihdaaLaw
import Derived.Handy
import Derived.Deep.RegionHeld3
import Derived.Deep.DeepCutAuto
namespace Go.Proofs.Ytmelipbanbihdaa
open Go.RowKit

theorem bcell_drew {W w1 : World} (hb : Below W.drew.heap.size W.drew w1) : (∀ b o, b < W.heap.size → w1.cell? ⟨b, o, none⟩ = W.cell? ⟨b, o, none⟩) ∧ (∀ b o, b < W.heap.size → w1.frozen? ⟨b, o, none⟩ = W.frozen? ⟨b, o, none⟩) :=
  ⟨fun b o h => hb.cell (p := ⟨b, o, none⟩) h, fun b o h => hb.frozen (p := ⟨b, o, none⟩) h⟩
theorem ret_sum {a b a' b' : Int} {c c' : Bool} (h : a = a') (g : b = b') (k : c = c') : Ending.returned (.agg #[.int .u64 a, .int .u64 b, .bool c]) = .returned (.agg #[.int .u64 a', .int .u64 b', .bool c']) := by rw [h, g, k]
theorem name_world {P : World → Prop} (W : World) (h : ∀ W', W' = W → P W') : P W := h W rfl
theorem Has.mk3 {B : Nat} {x y z : Value} {W : World} (h : B < W.heap.size) (h0 : W.cell? ⟨B, 0, none⟩ = some x) (h1 : W.cell? ⟨B, 1, none⟩ = some y) (h2 : W.cell? ⟨B, 2, none⟩ = some z) : Has B [x, y, z] W := by
  refine ⟨h, fun j v hv => ?_⟩
  match j, hv with
  | 0, hv => simp at hv; subst hv; exact h0
  | 1, hv => simp at hv; subst hv; exact h1
  | 2, hv => simp at hv; subst hv; exact h2
set_option maxRecDepth 20000 in
set_option maxHeartbeats 4000000 in
theorem addTwo_0t (a1 a0 b1 b0 x y z : Int) (e1 : IntKind.u64.wrap (a0 + b0) = x) (hc : ¬ x < a0) (e2 : IntKind.u64.wrap (a1 + b1) = y) (ho : y < a1) (e3 : IntKind.u64.wrap y = z) (w : World) :
    Calls Try.prog 41 #[.agg #[.int .u64 a1, .int .u64 a0], .agg #[.int .u64 b1, .int .u64 b0]] w fun e w' => e = .returned (.agg #[.int .u64 z, .int .u64 x, .bool true]) ∧ Below w.heap.size w w' := by
  have d1 : decide (x < a0) = false := by simpa using hc
  have d2 : decide (y < a1) = true := by simpa using ho
  go_enter Try.func41, Try.ntmps41
  go_wp2_with fail
  go_returns
  exact ⟨rfl, by repeat (first | with_reducible exact Below.refl _ _ | with_reducible exact Hid.out (by assumption) | with_reducible refine Below.setCell ?_ (by first | (simp; done) | omega | (simp <;> omega)) _ | with_reducible refine bl_al ?_ _ | with_reducible apply Below.drew)⟩
set_option maxRecDepth 20000 in
set_option maxHeartbeats 4000000 in
theorem addTwo_0f (a1 a0 b1 b0 x y z : Int) (e1 : IntKind.u64.wrap (a0 + b0) = x) (hc : ¬ x < a0) (e2 : IntKind.u64.wrap (a1 + b1) = y) (ho : ¬ y < a1) (e3 : IntKind.u64.wrap y = z) (w : World) :
    Calls Try.prog 41 #[.agg #[.int .u64 a1, .int .u64 a0], .agg #[.int .u64 b1, .int .u64 b0]] w fun e w' => e = .returned (.agg #[.int .u64 z, .int .u64 x, .bool false]) ∧ Below w.heap.size w w' := by
  have d1 : decide (x < a0) = false := by simpa using hc
  have d2 : decide (y < a1) = false := by simpa using ho
  go_enter Try.func41, Try.ntmps41
  go_wp2_with fail
  go_returns
  exact ⟨rfl, by repeat (first | with_reducible exact Below.refl _ _ | with_reducible exact Hid.out (by assumption) | with_reducible refine Below.setCell ?_ (by first | (simp; done) | omega | (simp <;> omega)) _ | with_reducible refine bl_al ?_ _ | with_reducible apply Below.drew)⟩
set_option maxRecDepth 20000 in
set_option maxHeartbeats 4000000 in
theorem addTwo_1t (a1 a0 b1 b0 x y z : Int) (e1 : IntKind.u64.wrap (a0 + b0) = x) (hc : x < a0) (e2 : IntKind.u64.wrap (a1 + b1) = y) (ho : y < a1) (e3 : IntKind.u64.wrap (y + 1) = z) (w : World) :
    Calls Try.prog 41 #[.agg #[.int .u64 a1, .int .u64 a0], .agg #[.int .u64 b1, .int .u64 b0]] w fun e w' => e = .returned (.agg #[.int .u64 z, .int .u64 x, .bool true]) ∧ Below w.heap.size w w' := by
  have d1 : decide (x < a0) = true := by simpa using hc
  have d2 : decide (y < a1) = true := by simpa using ho
  go_enter Try.func41, Try.ntmps41
  go_wp2_with fail
  go_returns
  exact ⟨rfl, by repeat (first | with_reducible exact Below.refl _ _ | with_reducible exact Hid.out (by assumption) | with_reducible refine Below.setCell ?_ (by first | (simp; done) | omega | (simp <;> omega)) _ | with_reducible refine bl_al ?_ _ | with_reducible apply Below.drew)⟩
set_option maxRecDepth 20000 in
set_option maxHeartbeats 4000000 in
theorem addTwo_1f (a1 a0 b1 b0 x y z : Int) (q : Bool) (e1 : IntKind.u64.wrap (a0 + b0) = x) (hc : x < a0) (e2 : IntKind.u64.wrap (a1 + b1) = y) (ho : ¬ y < a1) (e3 : IntKind.u64.wrap (y + 1) = z) (e4 : (z == 0) = q) (w : World) :
    Calls Try.prog 41 #[.agg #[.int .u64 a1, .int .u64 a0], .agg #[.int .u64 b1, .int .u64 b0]] w fun e w' => e = .returned (.agg #[.int .u64 z, .int .u64 x, .bool q]) ∧ Below w.heap.size w w' := by
  have d1 : decide (x < a0) = true := by simpa using hc
  have d2 : decide (y < a1) = false := by simpa using ho
  go_enter Try.func41, Try.ntmps41
  go_wp2_with fail
  go_returns
  exact ⟨rfl, by repeat (first | with_reducible exact Below.refl _ _ | with_reducible exact Hid.out (by assumption) | with_reducible refine Below.setCell ?_ (by first | (simp; done) | omega | (simp <;> omega)) _ | with_reducible refine bl_al ?_ _ | with_reducible apply Below.drew)⟩
theorem addTwo_any (a1 a0 b1 b0 : Int) (ha1 : Wd a1) (ha0 : Wd a0) (hb1 : Wd b1) (hb0 : Wd b0) (w : World) :
    Calls Try.prog 41 #[.agg #[.int .u64 a1, .int .u64 a0], .agg #[.int .u64 b1, .int .u64 b0]] w fun e w' =>
      e = .returned (.agg #[.int .u64 (wd (v2 a1 a0 + v2 b1 b0) 1), .int .u64 (wd (v2 a1 a0 + v2 b1 b0) 0), .bool (decide (340282366920938463463374607431768211456 ≤ v2 a1 a0 + v2 b1 b0))]) ∧ Below w.heap.size w w' := by
  obtain ⟨p0, p1⟩ := ha1; obtain ⟨p2, p3⟩ := ha0; obtain ⟨p4, p5⟩ := hb1; obtain ⟨p6, p7⟩ := hb0
  have r0 : wd (v2 a1 a0 + v2 b1 b0) 0 = IntKind.u64.wrap (a0 + b0) := by rw [wrap_u64, wd0]; unfold v2; omega
  by_cases c : IntKind.u64.wrap (a0 + b0) < a0
  · have r1 : wd (v2 a1 a0 + v2 b1 b0) 1 = IntKind.u64.wrap (IntKind.u64.wrap (a1 + b1) + 1) := by rw [wrap_u64] at c; rw [wrap_u64, wrap_u64, wd1]; unfold v2; omega
    by_cases o : IntKind.u64.wrap (a1 + b1) < a1
    · rw [r0, r1, decide_eq_true (by rw [wrap_u64] at c o; unfold v2; omega)]
      exact addTwo_1t _ _ _ _ _ _ _ rfl c rfl o rfl w
    · rw [r0, r1, show decide (340282366920938463463374607431768211456 ≤ v2 a1 a0 + v2 b1 b0) = (IntKind.u64.wrap (IntKind.u64.wrap (a1 + b1) + 1) == 0) by
        rw [Bool.eq_iff_iff, decide_eq_true_eq, beq_iff_eq]; rw [wrap_u64] at c o; rw [wrap_u64, wrap_u64]; unfold v2; omega]
      exact addTwo_1f _ _ _ _ _ _ _ _ rfl c rfl o rfl rfl w
  · have r1 : wd (v2 a1 a0 + v2 b1 b0) 1 = IntKind.u64.wrap (IntKind.u64.wrap (a1 + b1)) := by rw [wrap_u64] at c; rw [wrap_u64, wrap_u64, wd1]; unfold v2; omega
    by_cases o : IntKind.u64.wrap (a1 + b1) < a1
    · rw [r0, r1, decide_eq_true (by rw [wrap_u64] at c o; unfold v2; omega)]
      exact addTwo_0t _ _ _ _ _ _ _ rfl c rfl o rfl w
    · rw [r0, r1, decide_eq_false (by rw [wrap_u64] at c o; unfold v2; omega)]
      exact addTwo_0f _ _ _ _ _ _ _ rfl c rfl o rfl w
set_option maxRecDepth 20000 in
set_option maxHeartbeats 4000000 in
theorem less_lt (a1 a0 b1 b0 : Int) (h : a1 < b1) (w : World) :
    Calls Try.prog 23 #[.agg #[.int .u64 a1, .int .u64 a0], .agg #[.int .u64 b1, .int .u64 b0]] w fun e w' => e = .returned (.bool true) ∧ Below w.heap.size w w' := by
  have d1 : decide (a1 < b1) = true := by simpa using h
  go_enter Try.func23, Try.ntmps23
  go_wp2_with fail
  go_returns
  exact ⟨rfl, by repeat (first | with_reducible exact Below.refl _ _ | with_reducible exact Hid.out (by assumption) | with_reducible refine Below.setCell ?_ (by first | (simp; done) | omega | (simp <;> omega)) _ | with_reducible refine bl_al ?_ _ | with_reducible apply Below.drew)⟩
set_option maxRecDepth 20000 in
set_option maxHeartbeats 4000000 in
theorem less_eq (a1 a0 b1 b0 : Int) (q : Bool) (h : a1 = b1) (e : decide (a0 < b0) = q) (w : World) :
    Calls Try.prog 23 #[.agg #[.int .u64 a1, .int .u64 a0], .agg #[.int .u64 b1, .int .u64 b0]] w fun e w' => e = .returned (.bool q) ∧ Below w.heap.size w w' := by
  subst h
  have d1 : decide (a1 < a1) = false := by simp
  go_enter Try.func23, Try.ntmps23
  go_wp2_with fail
  go_returns
  exact ⟨rfl, by repeat (first | with_reducible exact Below.refl _ _ | with_reducible exact Hid.out (by assumption) | with_reducible refine Below.setCell ?_ (by first | (simp; done) | omega | (simp <;> omega)) _ | with_reducible refine bl_al ?_ _ | with_reducible apply Below.drew)⟩
set_option maxRecDepth 20000 in
set_option maxHeartbeats 4000000 in
theorem less_gt (a1 a0 b1 b0 : Int) (h : b1 < a1) (w : World) :
    Calls Try.prog 23 #[.agg #[.int .u64 a1, .int .u64 a0], .agg #[.int .u64 b1, .int .u64 b0]] w fun e w' => e = .returned (.bool false) ∧ Below w.heap.size w w' := by
  have d1 : decide (a1 < b1) = false := by simp; omega
  have d2 : (a1 == b1) = false := by simp; omega
  go_enter Try.func23, Try.ntmps23
  go_wp2_with fail
  go_returns
  exact ⟨rfl, by repeat (first | with_reducible exact Below.refl _ _ | with_reducible exact Hid.out (by assumption) | with_reducible refine Below.setCell ?_ (by first | (simp; done) | omega | (simp <;> omega)) _ | with_reducible refine bl_al ?_ _ | with_reducible apply Below.drew)⟩
theorem less_any (a1 a0 b1 b0 : Int) (ha1 : Wd a1) (ha0 : Wd a0) (hb1 : Wd b1) (hb0 : Wd b0) (w : World) :
    Calls Try.prog 23 #[.agg #[.int .u64 a1, .int .u64 a0], .agg #[.int .u64 b1, .int .u64 b0]] w fun e w' => e = .returned (.bool (decide (v2 a1 a0 < v2 b1 b0))) ∧ Below w.heap.size w w' := by
  obtain ⟨p0, p1⟩ := ha1; obtain ⟨p2, p3⟩ := ha0; obtain ⟨p4, p5⟩ := hb1; obtain ⟨p6, p7⟩ := hb0
  rcases (show a1 < b1 ∨ a1 = b1 ∨ b1 < a1 by omega) with h | h | h
  · rw [decide_eq_true (show v2 a1 a0 < v2 b1 b0 by unfold v2; omega)]; exact less_lt _ _ _ _ h w
  · rw [show decide (v2 a1 a0 < v2 b1 b0) = decide (a0 < b0) by rw [decide_eq_decide]; unfold v2; omega]; exact less_eq _ _ _ _ _ h rfl w
  · rw [decide_eq_false (show ¬ v2 a1 a0 < v2 b1 b0 by unfold v2; omega)]; exact less_gt _ _ _ _ h w
set_option maxRecDepth 20000 in
set_option maxHeartbeats 4000000 in
theorem subTwo_0 (a1 a0 b1 b0 x y z : Int) (q : Bool) (hc : ¬ a0 < b0) (e1 : IntKind.u64.wrap (a1 - b1) = x) (e2 : IntKind.u64.wrap x = y) (e3 : IntKind.u64.wrap (a0 - b0) = z) (w : World)
    (C1 : ∀ W, Calls Try.prog 23 #[.agg #[.int .u64 a1, .int .u64 a0], .agg #[.int .u64 b1, .int .u64 b0]] W fun e w' => e = .returned (.bool q) ∧ Below W.heap.size W w') :
    Calls Try.prog 38 #[.agg #[.int .u64 a1, .int .u64 a0], .agg #[.int .u64 b1, .int .u64 b0]] w fun e w' => e = .returned (.agg #[.int .u64 y, .int .u64 z, .bool q]) ∧ Below w.heap.size w w' := by
  have K1 := Lib.hid C1
  clear C1
  have d1 : decide (a0 < b0) = false := by simpa using hc
  clear hc
  go_enter Try.func38, Try.ntmps38
  go_upto_region 4 with fail
  go_region_held3 (fun w' => w'.cell? ⟨w.heap.size, 0, none⟩ = some (.int .u64 a1) ∧ w'.cell? ⟨w.heap.size, 1, none⟩ = some (.int .u64 a0) ∧ w'.cell? ⟨w.heap.size + 1, 0, none⟩ = some (.int .u64 b1) ∧ w'.cell? ⟨w.heap.size + 1, 1, none⟩ = some (.int .u64 b0)) (first | (simp [*, go_sem]; done) | (simp [*, go_sem, World.cell?_alloc_past]; done))
    (first
      | (go_at_call 23; (with_reducible refine (K1.out _).mono ?_); rintro e w1 ⟨rfl, hb⟩; (first | (with_reducible (obtain ⟨hclw1, hfrw1⟩ := bcell_drew hb)) | (obtain ⟨hclw1, hfrw1⟩ := bcell hb)); have zw1_a : w.heap.size < w1.heap.size := (by first | omega | (have hz := hb.size; (try simp at hz); omega)); have yw1_a : w.heap.size < w1.heap.size + 1 := (by omega); have yyw1_a : w.heap.size < w1.heap.size + 1 + 1 := (by omega); have zw1_b : w.heap.size + 1 < w1.heap.size := (by first | omega | (have hz := hb.size; (try simp at hz); omega)); have yw1_b : w.heap.size + 1 < w1.heap.size + 1 := (by omega); have yyw1_b : w.heap.size + 1 < w1.heap.size + 1 + 1 := (by omega); have zw1_r : w.heap.size + 1 + 1 < w1.heap.size := (by first | omega | (have hz := hb.size; (try simp at hz); omega)); have yw1_r : w.heap.size + 1 + 1 < w1.heap.size + 1 := (by omega); have yyw1_r : w.heap.size + 1 + 1 < w1.heap.size + 1 + 1 := (by omega); (try have sw1_0 : w.heap.size + 1 + 1 + 1 < w1.heap.size := (by first | omega | (have hz := hb.size; (try simp at hz); omega))); (try have syw1_0 : w.heap.size + 1 + 1 + 1 < w1.heap.size + 1 := (by omega)); (try have stw1_0 : w.heap.size + 1 + 1 + 1 + 1 < w1.heap.size := (by first | omega | (have hz := hb.size; (try simp at hz); omega))); have sxw1_0 : w.heap.size + 1 + 1 + 1 ≤ w1.heap.size := (by first | omega | (have hz := hb.size; (try simp at hz); omega)); have HBw1 : Hid (Below w.heap.size w w1) := (bl_trans (by repeat (first | with_reducible exact Below.refl _ _ | with_reducible exact Hid.out (by assumption) | with_reducible refine Below.setCell ?_ (by first | (simp; done) | omega | (simp <;> omega)) _ | with_reducible refine bl_al ?_ _ | with_reducible apply Below.drew)) hb); clear hb; clear K1))
  rename_i hHeld
  clear hHeld
  go_wp2_with fail
  refine bodyPost_ret (by simp [results, Try.results38, go_sem, *]; try rfl) rfl ?_
  exact ⟨rfl, by repeat (first | with_reducible exact Below.refl _ _ | with_reducible exact Hid.out (by assumption) | with_reducible refine Below.setCell ?_ (by first | (simp; done) | omega | (simp <;> omega)) _ | with_reducible refine bl_al ?_ _ | with_reducible apply Below.drew)⟩
set_option maxRecDepth 20000 in
set_option maxHeartbeats 4000000 in
theorem subTwo_1 (a1 a0 b1 b0 x y z : Int) (q : Bool) (hc : a0 < b0) (e1 : IntKind.u64.wrap (a1 - b1) = x) (e2 : IntKind.u64.wrap (x - 1) = y) (e3 : IntKind.u64.wrap (a0 - b0) = z) (w : World)
    (C1 : ∀ W, Calls Try.prog 23 #[.agg #[.int .u64 a1, .int .u64 a0], .agg #[.int .u64 b1, .int .u64 b0]] W fun e w' => e = .returned (.bool q) ∧ Below W.heap.size W w') :
    Calls Try.prog 38 #[.agg #[.int .u64 a1, .int .u64 a0], .agg #[.int .u64 b1, .int .u64 b0]] w fun e w' => e = .returned (.agg #[.int .u64 y, .int .u64 z, .bool q]) ∧ Below w.heap.size w w' := by
  have K1 := Lib.hid C1
  clear C1
  have d1 : decide (a0 < b0) = true := by simpa using hc
  clear hc
  go_enter Try.func38, Try.ntmps38
  go_upto_region 4 with fail
  go_region_held3 (fun w' => w'.cell? ⟨w.heap.size, 0, none⟩ = some (.int .u64 a1) ∧ w'.cell? ⟨w.heap.size, 1, none⟩ = some (.int .u64 a0) ∧ w'.cell? ⟨w.heap.size + 1, 0, none⟩ = some (.int .u64 b1) ∧ w'.cell? ⟨w.heap.size + 1, 1, none⟩ = some (.int .u64 b0)) (first | (simp [*, go_sem]; done) | (simp [*, go_sem, World.cell?_alloc_past]; done))
    (first
      | (go_at_call 23; (with_reducible refine (K1.out _).mono ?_); rintro e w1 ⟨rfl, hb⟩; (first | (with_reducible (obtain ⟨hclw1, hfrw1⟩ := bcell_drew hb)) | (obtain ⟨hclw1, hfrw1⟩ := bcell hb)); have zw1_a : w.heap.size < w1.heap.size := (by first | omega | (have hz := hb.size; (try simp at hz); omega)); have yw1_a : w.heap.size < w1.heap.size + 1 := (by omega); have yyw1_a : w.heap.size < w1.heap.size + 1 + 1 := (by omega); have zw1_b : w.heap.size + 1 < w1.heap.size := (by first | omega | (have hz := hb.size; (try simp at hz); omega)); have yw1_b : w.heap.size + 1 < w1.heap.size + 1 := (by omega); have yyw1_b : w.heap.size + 1 < w1.heap.size + 1 + 1 := (by omega); have zw1_r : w.heap.size + 1 + 1 < w1.heap.size := (by first | omega | (have hz := hb.size; (try simp at hz); omega)); have yw1_r : w.heap.size + 1 + 1 < w1.heap.size + 1 := (by omega); have yyw1_r : w.heap.size + 1 + 1 < w1.heap.size + 1 + 1 := (by omega); (try have sw1_0 : w.heap.size + 1 + 1 + 1 < w1.heap.size := (by first | omega | (have hz := hb.size; (try simp at hz); omega))); (try have syw1_0 : w.heap.size + 1 + 1 + 1 < w1.heap.size + 1 := (by omega)); (try have stw1_0 : w.heap.size + 1 + 1 + 1 + 1 < w1.heap.size := (by first | omega | (have hz := hb.size; (try simp at hz); omega))); have sxw1_0 : w.heap.size + 1 + 1 + 1 ≤ w1.heap.size := (by first | omega | (have hz := hb.size; (try simp at hz); omega)); have HBw1 : Hid (Below w.heap.size w w1) := (bl_trans (by repeat (first | with_reducible exact Below.refl _ _ | with_reducible exact Hid.out (by assumption) | with_reducible refine Below.setCell ?_ (by first | (simp; done) | omega | (simp <;> omega)) _ | with_reducible refine bl_al ?_ _ | with_reducible apply Below.drew)) hb); clear hb; clear K1))
  rename_i hHeld
  clear hHeld
  go_wp2_with fail
  refine bodyPost_ret (by simp [results, Try.results38, go_sem, *]; try rfl) rfl ?_
  exact ⟨rfl, by repeat (first | with_reducible exact Below.refl _ _ | with_reducible exact Hid.out (by assumption) | with_reducible refine Below.setCell ?_ (by first | (simp; done) | omega | (simp <;> omega)) _ | with_reducible refine bl_al ?_ _ | with_reducible apply Below.drew)⟩
theorem subTwo_any (a1 a0 b1 b0 : Int) (ha1 : Wd a1) (ha0 : Wd a0) (hb1 : Wd b1) (hb0 : Wd b0) (w : World) :
    Calls Try.prog 38 #[.agg #[.int .u64 a1, .int .u64 a0], .agg #[.int .u64 b1, .int .u64 b0]] w fun e w' =>
      e = .returned (.agg #[.int .u64 (wd (v2 a1 a0 + (340282366920938463463374607431768211456 - v2 b1 b0)) 1), .int .u64 (wd (v2 a1 a0 + (340282366920938463463374607431768211456 - v2 b1 b0)) 0), .bool (decide (v2 a1 a0 < v2 b1 b0))]) ∧ Below w.heap.size w w' := by
  have L := less_any a1 a0 b1 b0 ha1 ha0 hb1 hb0
  have hv := v2_lt hb1 hb0
  obtain ⟨p0, p1⟩ := ha1; obtain ⟨p2, p3⟩ := ha0; obtain ⟨p4, p5⟩ := hb1; obtain ⟨p6, p7⟩ := hb0
  have r0 : wd (v2 a1 a0 + (340282366920938463463374607431768211456 - v2 b1 b0)) 0 = IntKind.u64.wrap (a0 - b0) := by rw [wrap_u64, wd0]; unfold v2 at *; omega
  by_cases c : a0 < b0
  · have r1 : wd (v2 a1 a0 + (340282366920938463463374607431768211456 - v2 b1 b0)) 1 = IntKind.u64.wrap (IntKind.u64.wrap (a1 - b1) - 1) := by rw [wrap_u64, wrap_u64, wd1]; unfold v2 at *; omega
    rw [r0, r1]
    exact subTwo_1 _ _ _ _ _ _ _ _ c rfl rfl rfl w L
  · have r1 : wd (v2 a1 a0 + (340282366920938463463374607431768211456 - v2 b1 b0)) 1 = IntKind.u64.wrap (IntKind.u64.wrap (a1 - b1)) := by rw [wrap_u64, wrap_u64, wd1]; unfold v2 at *; omega
    rw [r0, r1]
    exact subTwo_0 _ _ _ _ _ _ _ _ c rfl rfl rfl w L
end Go.Proofs.Ytmelipbanbihdaa
