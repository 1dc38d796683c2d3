/- TreeRises, from what Build tells. -/
import Derived.Test.YtnedljclkhpdpaaTreeLaw
namespace Go.Proofs.Ytnedljclkhpdpaa
open Go.RowKit
theorem bld_two {x y : Nat × Int} (h : x.1 ≤ y.1) : (bld 2 [x, y]).length = 1 := by
  unfold bld
  rw [if_neg (by simp [(rs_pair [x, y]).2 (by simpa using h)])]
  unfold gr; rfl
theorem bld_no {x y : Nat × Int} (h : y.1 < x.1) : bld 2 [x, y] = [] := by
  unfold bld
  have e : rs [x, y] = false := by
    cases k : rs [x, y] with
    | false => rfl
    | true => have := (rs_pair [x, y]).1 k; simp at this; omega
  rw [if_pos (Or.inr e)]
theorem ok_two {x y : Nat × Int} (hx : x.1 < 18446744073709551616) (hy : y.1 < 18446744073709551616) : Ok64 [x, y] := fun z hz => by
  simp at hz; rcases hz with rfl | rfl <;> assumption
set_option maxRecDepth 20000 in
set_option maxHeartbeats 8000000 in
theorem treeRises_lt (BL : BldT) (a b : Nat) (h : a < b) (ha : a < 18446744073709551616) (hb : b < 18446744073709551616) (w : World) :
    Calls Try.prog 9 #[.int .u64 (a : Int), .int .u64 (b : Int)] w fun e w' => e = .returned (.bool true) ∧ Below w.heap.size w w' := by
  have K1 := Lib.hid BL; have K3 := Lib.hid (tawake_any BL)
  have O1 : Hid (Ok64 [(b, (0 : Int)), (a, 1)]) := ok_two hb ha
  have O2 : Hid (Ok64 [(a, (1 : Int)), (b, 0)]) := ok_two ha hb
  have S1 : Hid ((bld 2 [(b, (0 : Int)), (a, 1)]).length = 0) := by show List.length _ = _; rw [bld_no h]; rfl
  have S2 : Hid ((bld 2 [(a, (1 : Int)), (b, 0)]).length = 1) := bld_two (Nat.le_of_lt h)
  have f1 : (a : Int) < (b : Int) := by omega
  have f2 : ¬ (b : Int) < (a : Int) := by omega
  have f3 : ¬ b < a := by omega
  have f4 : ¬ (a : Int) = (b : Int) := by omega
  have f5 : ¬ a = b := by omega
  have f6 : ((a : Int) == (b : Int)) = false := by rw [beq_eq_false_iff_ne]; exact f4
  have f7 : (a == b) = false := by rw [beq_eq_false_iff_ne]; exact f5
  have f8 : ((a : Int) != (b : Int)) = true := by rw [bne_iff_ne]; exact f4
  have f9 : (a != b) = true := by rw [bne_iff_ne]; exact f5
  clear BL h ha hb
  go_enter Try.func9, Try.ntmps9
  go_upto_region 2 with fail
  refine nw _ fun R hR => ?_
  have HBR : Hid (Below w.heap.size w R) := by rw [hR]; exact bl_al (Below.refl _ _) _
  have KN : Hid (Kr R w.heap.size 2 [(b, (0 : Int)), (a, 1)]) := by rw [hR]; exact Kr.new w [(b, (0 : Int)), (a, 1)] rfl
  obtain ⟨z0, z1⟩ := KN.out.cells 0 (b, 0) rfl
  obtain ⟨z2, z3⟩ := KN.out.cells 1 (a, 1) rfl
  have zp := KN.out.lt
  simp only [Nat.zero_mul, Nat.zero_add, Nat.one_mul] at z0 z1 z2 z3
  clear hR
  go_region_held3 (fun w' => w'.cell? ⟨w.heap.size, 0, none⟩ = some (.int .u64 (b : Int)) ∧ w'.cell? ⟨w.heap.size, 1, none⟩ = some (.int .i64 0) ∧ w'.cell? ⟨w.heap.size, 2, none⟩ = some (.int .u64 (a : Int)) ∧ w'.cell? ⟨w.heap.size, 2 + 1, none⟩ = some (.int .i64 1)) (first | (simp [*, go_sem]; done) | exact ⟨z0, z1, z2, z3⟩) (fail)
  rename_i hHeld
  clear hHeld
  go_wp2_with fail
  refine (K1.out _ 2 2 [(b, (0 : Int)), (a, 1)] (by omega) (by simp) O1.out (Nat.le_refl _) _ ((KN.out.drew.alloc _).slice)).mono ?_
  have KM : Hid (Kr (R.drew.alloc (.cells #[.int .u64 (a : Int), .int .i64 1, .int .u64 (b : Int), .int .i64 0] 36)) R.drew.heap.size 2 [(a, (1 : Int)), (b, 0)]) := Kr.new R.drew [(a, (1 : Int)), (b, 0)] rfl
  intro e w1 h1
  obtain ⟨A1, c1, rfl, _, b1⟩ := h1.use
  rw [S1.out]
  have HB1 := Lib.hid (bl_trans (bl_al HBR.out.drew _) b1)
  have KM1 := Lib.hid (KM.out.below b1)
  clear h1 b1 KM KN z0 z1 z2 z3 zp S1 O1
  go_wp2_with fail
  refine (K1.out _ 2 2 [(a, (1 : Int)), (b, 0)] (by omega) (by simp) O2.out (Nat.le_refl _) _ KM1.out.slice).mono ?_
  intro e w2 h2
  obtain ⟨A2, c2, rfl, _, b2⟩ := h2.use
  rw [S2.out]
  have HB2 := Lib.hid (bl_trans HB1.out b2)
  clear h2 b2 HB1 KM1
  go_wp2_with fail
  refine (K3.out _).mono ?_
  rintro e w3 ⟨rfl, b3⟩
  have HB3 := Lib.hid (bl_trans HB2.out b3)
  clear b3 HB2
  go_wp2_with fail
  go_returns
  exact ⟨rfl, HB3.out⟩
set_option maxRecDepth 20000 in
set_option maxHeartbeats 8000000 in
theorem treeRises_gt (BL : BldT) (a b : Nat) (h : b < a) (ha : a < 18446744073709551616) (hb : b < 18446744073709551616) (w : World) :
    Calls Try.prog 9 #[.int .u64 (a : Int), .int .u64 (b : Int)] w fun e w' => e = .returned (.bool true) ∧ Below w.heap.size w w' := by
  have K1 := Lib.hid BL; have K3 := Lib.hid (tawake_any BL)
  have O1 : Hid (Ok64 [(a, (0 : Int)), (b, 1)]) := ok_two ha hb
  have O2 : Hid (Ok64 [(b, (1 : Int)), (a, 0)]) := ok_two hb ha
  have S1 : Hid ((bld 2 [(a, (0 : Int)), (b, 1)]).length = 0) := by show List.length _ = _; rw [bld_no h]; rfl
  have S2 : Hid ((bld 2 [(b, (1 : Int)), (a, 0)]).length = 1) := bld_two (Nat.le_of_lt h)
  have f1 : (b : Int) < (a : Int) := by omega
  have f2 : ¬ (a : Int) < (b : Int) := by omega
  have f3 : ¬ a < b := by omega
  have f4 : ¬ (a : Int) = (b : Int) := by omega
  have f5 : ¬ a = b := by omega
  have f6 : ((a : Int) == (b : Int)) = false := by rw [beq_eq_false_iff_ne]; exact f4
  have f7 : (a == b) = false := by rw [beq_eq_false_iff_ne]; exact f5
  have f8 : ((a : Int) != (b : Int)) = true := by rw [bne_iff_ne]; exact f4
  have f9 : (a != b) = true := by rw [bne_iff_ne]; exact f5
  clear BL h ha hb
  go_enter Try.func9, Try.ntmps9
  go_upto_region 2 with fail
  refine nw _ fun R hR => ?_
  have HBR : Hid (Below w.heap.size w R) := by rw [hR]; exact bl_al (Below.refl _ _) _
  have KN : Hid (Kr R w.heap.size 2 [(a, (0 : Int)), (b, 1)]) := by rw [hR]; exact Kr.new w [(a, (0 : Int)), (b, 1)] rfl
  obtain ⟨z0, z1⟩ := KN.out.cells 0 (a, 0) rfl
  obtain ⟨z2, z3⟩ := KN.out.cells 1 (b, 1) rfl
  have zp := KN.out.lt
  simp only [Nat.zero_mul, Nat.zero_add, Nat.one_mul] at z0 z1 z2 z3
  clear hR
  go_region_held3 (fun w' => w'.cell? ⟨w.heap.size, 0, none⟩ = some (.int .u64 (a : Int)) ∧ w'.cell? ⟨w.heap.size, 1, none⟩ = some (.int .i64 0) ∧ w'.cell? ⟨w.heap.size, 2, none⟩ = some (.int .u64 (b : Int)) ∧ w'.cell? ⟨w.heap.size, 2 + 1, none⟩ = some (.int .i64 1)) (first | (simp [*, go_sem]; done) | exact ⟨z0, z1, z2, z3⟩) (fail)
  rename_i hHeld
  clear hHeld
  go_wp2_with fail
  refine (K1.out _ 2 2 [(a, (0 : Int)), (b, 1)] (by omega) (by simp) O1.out (Nat.le_refl _) _ ((KN.out.drew.alloc _).slice)).mono ?_
  have KM : Hid (Kr (R.drew.alloc (.cells #[.int .u64 (b : Int), .int .i64 1, .int .u64 (a : Int), .int .i64 0] 36)) R.drew.heap.size 2 [(b, (1 : Int)), (a, 0)]) := Kr.new R.drew [(b, (1 : Int)), (a, 0)] rfl
  intro e w1 h1
  obtain ⟨A1, c1, rfl, _, b1⟩ := h1.use
  rw [S1.out]
  have HB1 := Lib.hid (bl_trans (bl_al HBR.out.drew _) b1)
  have KM1 := Lib.hid (KM.out.below b1)
  clear h1 b1 KM KN z0 z1 z2 z3 zp S1 O1
  go_wp2_with fail
  refine (K1.out _ 2 2 [(b, (1 : Int)), (a, 0)] (by omega) (by simp) O2.out (Nat.le_refl _) _ KM1.out.slice).mono ?_
  intro e w2 h2
  obtain ⟨A2, c2, rfl, _, b2⟩ := h2.use
  rw [S2.out]
  have HB2 := Lib.hid (bl_trans HB1.out b2)
  clear h2 b2 HB1 KM1
  go_wp2_with fail
  refine (K3.out _).mono ?_
  rintro e w3 ⟨rfl, b3⟩
  have HB3 := Lib.hid (bl_trans HB2.out b3)
  clear b3 HB2
  go_wp2_with fail
  go_returns
  exact ⟨rfl, HB3.out⟩
set_option maxRecDepth 20000 in
set_option maxHeartbeats 8000000 in
theorem treeRises_eq (BL : BldT) (a : Nat)  (ha : a < 18446744073709551616) (w : World) :
    Calls Try.prog 9 #[.int .u64 (a : Int), .int .u64 (a : Int)] w fun e w' => e = .returned (.bool true) ∧ Below w.heap.size w w' := by
  have K1 := Lib.hid BL; have K3 := Lib.hid (tawake_any BL)
  have O1 : Hid (Ok64 [(a, (0 : Int)), (a, 1)]) := ok_two ha ha
  have O2 : Hid (Ok64 [(a, (1 : Int)), (a, 0)]) := ok_two ha ha
  have S1 : Hid ((bld 2 [(a, (0 : Int)), (a, 1)]).length = 1) := bld_two (Nat.le_refl _)
  have S2 : Hid ((bld 2 [(a, (1 : Int)), (a, 0)]).length = 1) := bld_two (Nat.le_refl _)
  have f2 : ¬ (a : Int) < (a : Int) := by omega
  have f3 : ¬ a < a := by omega
  clear BL ha
  go_enter Try.func9, Try.ntmps9
  go_upto_region 2 with fail
  refine nw _ fun R hR => ?_
  have HBR : Hid (Below w.heap.size w R) := by rw [hR]; exact bl_al (Below.refl _ _) _
  have KN : Hid (Kr R w.heap.size 2 [(a, (0 : Int)), (a, 1)]) := by rw [hR]; exact Kr.new w [(a, (0 : Int)), (a, 1)] rfl
  obtain ⟨z0, z1⟩ := KN.out.cells 0 (a, 0) rfl
  obtain ⟨z2, z3⟩ := KN.out.cells 1 (a, 1) rfl
  have zp := KN.out.lt
  simp only [Nat.zero_mul, Nat.zero_add, Nat.one_mul] at z0 z1 z2 z3
  clear hR
  go_region_held3 (fun w' => w'.cell? ⟨w.heap.size, 0, none⟩ = some (.int .u64 (a : Int)) ∧ w'.cell? ⟨w.heap.size, 1, none⟩ = some (.int .i64 0) ∧ w'.cell? ⟨w.heap.size, 2, none⟩ = some (.int .u64 (a : Int)) ∧ w'.cell? ⟨w.heap.size, 2 + 1, none⟩ = some (.int .i64 1)) (first | (simp [*, go_sem]; done) | exact ⟨z0, z1, z2, z3⟩) (fail)
  rename_i hHeld
  clear hHeld
  go_wp2_with fail
  refine (K1.out _ 2 2 [(a, (0 : Int)), (a, 1)] (by omega) (by simp) O1.out (Nat.le_refl _) _ ((KN.out.drew.alloc _).slice)).mono ?_
  have KM : Hid (Kr (R.drew.alloc (.cells #[.int .u64 (a : Int), .int .i64 1, .int .u64 (a : Int), .int .i64 0] 36)) R.drew.heap.size 2 [(a, (1 : Int)), (a, 0)]) := Kr.new R.drew [(a, (1 : Int)), (a, 0)] rfl
  intro e w1 h1
  obtain ⟨A1, c1, rfl, _, b1⟩ := h1.use
  rw [S1.out]
  have HB1 := Lib.hid (bl_trans (bl_al HBR.out.drew _) b1)
  have KM1 := Lib.hid (KM.out.below b1)
  clear h1 b1 KM KN z0 z1 z2 z3 zp S1 O1
  go_wp2_with fail
  refine (K1.out _ 2 2 [(a, (1 : Int)), (a, 0)] (by omega) (by simp) O2.out (Nat.le_refl _) _ KM1.out.slice).mono ?_
  intro e w2 h2
  obtain ⟨A2, c2, rfl, _, b2⟩ := h2.use
  rw [S2.out]
  have HB2 := Lib.hid (bl_trans HB1.out b2)
  clear h2 b2 HB1 KM1
  go_wp2_with fail
  refine (K3.out _).mono ?_
  rintro e w3 ⟨rfl, b3⟩
  have HB3 := Lib.hid (bl_trans HB2.out b3)
  clear b3 HB2
  go_wp2_with fail
  go_returns
  exact ⟨rfl, HB3.out⟩
theorem treeRises_any (BL : BldT) (a b : Nat) (ha : a < 18446744073709551616) (hb : b < 18446744073709551616) (w : World) :
    Calls Try.prog 9 #[.int .u64 (a : Int), .int .u64 (b : Int)] w fun e w' => e = .returned (.bool true) ∧ Below w.heap.size w w' := by
  rcases Nat.lt_trichotomy a b with h | h | h
  · exact treeRises_lt BL a b h ha hb w
  · subst h; exact treeRises_eq BL a ha w
  · exact treeRises_gt BL a b h ha hb w
end Go.Proofs.Ytnedljclkhpdpaa
