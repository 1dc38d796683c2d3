/- A quarter more is the way across, half a turn the way back, a whole turn the way itself: at any commit whose code this is, for every angle of 32 bits and every way. -/
import Derived.Test.YtmelipbanbihdaaTurnAnyM
import Derived.Test.YtmelipbanbihdaaFixOpen
import Derived.Test.YtmelipbanbihdaaTurnBaseM
namespace Go.Proofs.Ytmelipbanbihdaa
open Go.RowKit
set_option maxRecDepth 20000 in
set_option maxHeartbeats 60000000 in
theorem turnQuarters_out (vxh vxl vyh vyl dxh dxl dyh dyl bxh bxl byh byl nyh nyl n n1 n2 n4 n5 : Int) (w0 : IntKind.i64.wrap n = n) (w1 : IntKind.i64.wrap (n + 16384) = n1) (w2 : IntKind.i64.wrap (n + 32768) = n2) (w4 : IntKind.i64.wrap (n + 65536) = n4) (w5 : IntKind.i64.wrap (n - 65536) = n5) (w : World)
    (C1 : ∀ W, Calls Try.prog 9 #[.int .i64 n] W fun e w' => e = .returned (.agg #[.int .i64 dxh, .int .u64 dxl, .int .i64 dyh, .int .u64 dyl]) ∧ Below W.heap.size W w')
    (C2 : ∀ W, Calls Try.prog 9 #[.int .i64 n1] W fun e w' => e = .returned (.agg #[.int .i64 nyh, .int .u64 nyl, .int .i64 dxh, .int .u64 dxl]) ∧ Below W.heap.size W w')
    (C3 : ∀ W, Calls Try.prog 18 #[.agg #[.int .i64 dyh, .int .u64 dyl]] W fun e w' => e = .returned (.agg #[.int .i64 nyh, .int .u64 nyl]) ∧ Below W.heap.size W w')
    (C4 : ∀ W, Calls Try.prog 9 #[.int .i64 n2] W fun e w' => e = .returned (.agg #[.int .i64 bxh, .int .u64 bxl, .int .i64 byh, .int .u64 byl]) ∧ Below W.heap.size W w')
    (C5 : ∀ W, Calls Try.prog 19 #[.agg #[.int .i64 dxh, .int .u64 dxl, .int .i64 dyh, .int .u64 dyl]] W fun e w' => e = .returned (.agg #[.int .i64 bxh, .int .u64 bxl, .int .i64 byh, .int .u64 byl]) ∧ Below W.heap.size W w')
    (C6 : ∀ W, Calls Try.prog 9 #[.int .i64 n4] W fun e w' => e = .returned (.agg #[.int .i64 dxh, .int .u64 dxl, .int .i64 dyh, .int .u64 dyl]) ∧ Below W.heap.size W w')
    (C7 : ∀ W, Calls Try.prog 9 #[.int .i64 n5] W fun e w' => e = .returned (.agg #[.int .i64 dxh, .int .u64 dxl, .int .i64 dyh, .int .u64 dyl]) ∧ Below W.heap.size W w')
    (C8 : ∀ W, Calls Try.prog 8 #[.agg #[.int .i64 vxh, .int .u64 vxl, .int .i64 vyh, .int .u64 vyl]] W fun e w' => e = .returned (.bool false) ∧ Below W.heap.size W w')
    (C9 : ∀ W, Calls Try.prog 11 #[] W fun e w' => e = .returned (.bool true) ∧ Below W.heap.size W w') :
    Calls Try.prog 4 #[.int .i32 n, .agg #[.int .i64 vxh, .int .u64 vxl, .int .i64 vyh, .int .u64 vyl]] w fun e w' => e = .returned (.bool true) ∧ Below w.heap.size w w' := by
  have K1 := Lib.hid C1; have K2 := Lib.hid C2; have K3 := Lib.hid C3; have K4 := Lib.hid C4; have K5 := Lib.hid C5; have K6 := Lib.hid C6; have K7 := Lib.hid C7; have K8 := Lib.hid C8; have K9 := Lib.hid C9
  clear C1 C2 C3 C4 C5 C6 C7 C8 C9
  have qa := ne_vec_false nyh nyl dxh dxl
  have qb := ne_vec_false bxh bxl byh byl
  have qd := ne_vec_false dxh dxl dyh dyl
  go_enter Try.func4, Try.ntmps4
  go_wp2_with fail
  (with_reducible refine (K1.out _).mono ?_); rintro e w1 ⟨rfl, hb⟩; obtain ⟨hclw1, hfrw1⟩ := bcell hb; have zw1_v : w.heap.size < w1.heap.size := (by first | omega | (have hz := hb.size; (try simp at hz); omega)); have yw1_v : w.heap.size < w1.heap.size + 1 := (by omega); have yyw1_v : w.heap.size < w1.heap.size + 1 + 1 := (by omega); have sxw1_0 : w.heap.size + 1 ≤ w1.heap.size := (by first | omega | (have hz := hb.size; (try simp at hz); omega)); have HBw1 : Hid (Below w.heap.size w w1) := (bl_trans (by repeat (first | with_reducible exact Below.refl _ _ | with_reducible exact Hid.out (by assumption) | with_reducible refine Below.setCell ?_ (by first | (simp; done) | omega | (simp <;> omega)) _ | with_reducible refine bl_al ?_ _ | with_reducible apply Below.drew)) hb); clear hb
  go_upto_region 3 with fail
  refine name_world (P := fun W => Code.wp _ _ _ _ W) _ (fun R1 hR1 => ?_)
  have zR1_v : w.heap.size < R1.heap.size := by rw [hR1]; first | omega | (simp <;> omega)
  have yR1_v : w.heap.size < R1.heap.size + 1 := by omega
  have yyR1_v : w.heap.size < R1.heap.size + 1 + 1 := by omega
  have cR1_v_0 : R1.cell? ⟨w.heap.size, 0, none⟩ = some (.int .i64 vxh) := by rw [hR1]; first | assumption | (simp [go_sem, *]; done)
  have cR1_v_1 : R1.cell? ⟨w.heap.size, 1, none⟩ = some (.int .u64 vxl) := by rw [hR1]; first | assumption | (simp [go_sem, *]; done)
  have cR1_v_2 : R1.cell? ⟨w.heap.size, 2, none⟩ = some (.int .i64 vyh) := by rw [hR1]; first | assumption | (simp [go_sem, *]; done)
  have cR1_v_3 : R1.cell? ⟨w.heap.size, 3, none⟩ = some (.int .u64 vyl) := by rw [hR1]; first | assumption | (simp [go_sem, *]; done)
  have zR1_d : w1.heap.size < R1.heap.size := by rw [hR1]; first | omega | (simp <;> omega)
  have yR1_d : w1.heap.size < R1.heap.size + 1 := by omega
  have yyR1_d : w1.heap.size < R1.heap.size + 1 + 1 := by omega
  have cR1_d_0 : R1.cell? ⟨w1.heap.size, 0, none⟩ = some (.int .i64 dxh) := by rw [hR1]; first | assumption | (simp [go_sem, *]; done)
  have cR1_d_1 : R1.cell? ⟨w1.heap.size, 1, none⟩ = some (.int .u64 dxl) := by rw [hR1]; first | assumption | (simp [go_sem, *]; done)
  have cR1_d_2 : R1.cell? ⟨w1.heap.size, 2, none⟩ = some (.int .i64 dyh) := by rw [hR1]; first | assumption | (simp [go_sem, *]; done)
  have cR1_d_3 : R1.cell? ⟨w1.heap.size, 3, none⟩ = some (.int .u64 dyl) := by rw [hR1]; first | assumption | (simp [go_sem, *]; done)
  have HBR1 : Hid (Below w.heap.size w R1) := by rw [hR1]; show Below _ _ _; exact (by repeat (first | with_reducible exact Below.refl _ _ | with_reducible exact Hid.out (by assumption) | with_reducible refine Below.setCell ?_ (by first | (simp; done) | omega | (simp <;> omega)) _ | with_reducible refine bl_al ?_ _ | with_reducible apply Below.drew))
  clear hR1
  clear zw1_v yw1_v yyw1_v sxw1_0 hclw1 hfrw1 HBw1
  go_region_held3 (fun w' => w'.cell? ⟨w1.heap.size, 0, none⟩ = some (.int .i64 dxh) ∧ w'.cell? ⟨w1.heap.size, 1, none⟩ = some (.int .u64 dxl) ∧ w'.cell? ⟨w1.heap.size, 2, none⟩ = some (.int .i64 dyh) ∧ w'.cell? ⟨w1.heap.size, 3, none⟩ = some (.int .u64 dyl)) (first | (simp [*, go_sem]; done) | (simp [*, go_sem, World.cell?_alloc_past]; done))
    (first
      | (go_at_call 9; (with_reducible refine (K2.out _).mono ?_); rintro e w2 ⟨rfl, hb⟩; (first | (with_reducible (obtain ⟨hclw2, hfrw2⟩ := bcell_drew hb)) | (obtain ⟨hclw2, hfrw2⟩ := bcell hb)); have zw2_v : w.heap.size < w2.heap.size := (by first | omega | (have hz := hb.size; (try simp at hz); omega)); have yw2_v : w.heap.size < w2.heap.size + 1 := (by omega); have yyw2_v : w.heap.size < w2.heap.size + 1 + 1 := (by omega); have zw2_d : w1.heap.size < w2.heap.size := (by first | omega | (have hz := hb.size; (try simp at hz); omega)); have yw2_d : w1.heap.size < w2.heap.size + 1 := (by omega); have yyw2_d : w1.heap.size < w2.heap.size + 1 + 1 := (by omega); have sxw2_0 : R1.heap.size ≤ w2.heap.size := (by first | omega | (have hz := hb.size; (try simp at hz); omega)); have HBw2 : Hid (Below w.heap.size w w2) := (bl_trans (by repeat (first | with_reducible exact Below.refl _ _ | with_reducible exact Hid.out (by assumption) | with_reducible refine Below.setCell ?_ (by first | (simp; done) | omega | (simp <;> omega)) _ | with_reducible refine bl_al ?_ _ | with_reducible apply Below.drew)) hb); clear hb; clear K2)
      | (go_at_call 18; (with_reducible refine (K3.out _).mono ?_); rintro e w3 ⟨rfl, hb⟩; obtain ⟨hclw3, hfrw3⟩ := bcell hb; have zw3_v : w.heap.size < w3.heap.size := (by first | omega | (have hz := hb.size; (try simp at hz); omega)); have yw3_v : w.heap.size < w3.heap.size + 1 := (by omega); have yyw3_v : w.heap.size < w3.heap.size + 1 + 1 := (by omega); have zw3_d : w1.heap.size < w3.heap.size := (by first | omega | (have hz := hb.size; (try simp at hz); omega)); have yw3_d : w1.heap.size < w3.heap.size + 1 := (by omega); have yyw3_d : w1.heap.size < w3.heap.size + 1 + 1 := (by omega); have sxw3_0 : R1.heap.size ≤ w3.heap.size := (by first | omega | (have hz := hb.size; (try simp at hz); omega)); have sxw3_w2 : w2.heap.size ≤ w3.heap.size := (by first | omega | (have hz := hb.size; (try simp at hz); omega)); have HBw3 : Hid (Below w.heap.size w w3) := (bl_trans (by repeat (first | with_reducible exact Below.refl _ _ | with_reducible exact Hid.out (by assumption) | with_reducible refine Below.setCell ?_ (by first | (simp; done) | omega | (simp <;> omega)) _ | with_reducible refine bl_al ?_ _ | with_reducible apply Below.drew)) hb); clear hb; clear K3)
      | (go_at_call 9; (with_reducible refine (K4.out _).mono ?_); rintro e w4 ⟨rfl, hb⟩; obtain ⟨hclw4, hfrw4⟩ := bcell hb; have zw4_v : w.heap.size < w4.heap.size := (by first | omega | (have hz := hb.size; (try simp at hz); omega)); have yw4_v : w.heap.size < w4.heap.size + 1 := (by omega); have yyw4_v : w.heap.size < w4.heap.size + 1 + 1 := (by omega); have zw4_d : w1.heap.size < w4.heap.size := (by first | omega | (have hz := hb.size; (try simp at hz); omega)); have yw4_d : w1.heap.size < w4.heap.size + 1 := (by omega); have yyw4_d : w1.heap.size < w4.heap.size + 1 + 1 := (by omega); have sxw4_0 : R1.heap.size ≤ w4.heap.size := (by first | omega | (have hz := hb.size; (try simp at hz); omega)); have sxw4_w2 : w2.heap.size ≤ w4.heap.size := (by first | omega | (have hz := hb.size; (try simp at hz); omega)); have sxw4_w3 : w3.heap.size ≤ w4.heap.size := (by first | omega | (have hz := hb.size; (try simp at hz); omega)); have HBw4 : Hid (Below w.heap.size w w4) := (bl_trans (by repeat (first | with_reducible exact Below.refl _ _ | with_reducible exact Hid.out (by assumption) | with_reducible refine Below.setCell ?_ (by first | (simp; done) | omega | (simp <;> omega)) _ | with_reducible refine bl_al ?_ _ | with_reducible apply Below.drew)) hb); clear hb; clear K4)
      | (go_at_call 19; (with_reducible refine (K5.out _).mono ?_); rintro e w5 ⟨rfl, hb⟩; obtain ⟨hclw5, hfrw5⟩ := bcell hb; have zw5_v : w.heap.size < w5.heap.size := (by first | omega | (have hz := hb.size; (try simp at hz); omega)); have yw5_v : w.heap.size < w5.heap.size + 1 := (by omega); have yyw5_v : w.heap.size < w5.heap.size + 1 + 1 := (by omega); have zw5_d : w1.heap.size < w5.heap.size := (by first | omega | (have hz := hb.size; (try simp at hz); omega)); have yw5_d : w1.heap.size < w5.heap.size + 1 := (by omega); have yyw5_d : w1.heap.size < w5.heap.size + 1 + 1 := (by omega); have sxw5_0 : R1.heap.size ≤ w5.heap.size := (by first | omega | (have hz := hb.size; (try simp at hz); omega)); have sxw5_w2 : w2.heap.size ≤ w5.heap.size := (by first | omega | (have hz := hb.size; (try simp at hz); omega)); have sxw5_w3 : w3.heap.size ≤ w5.heap.size := (by first | omega | (have hz := hb.size; (try simp at hz); omega)); have sxw5_w4 : w4.heap.size ≤ w5.heap.size := (by first | omega | (have hz := hb.size; (try simp at hz); omega)); have HBw5 : Hid (Below w.heap.size w w5) := (bl_trans (by repeat (first | with_reducible exact Below.refl _ _ | with_reducible exact Hid.out (by assumption) | with_reducible refine Below.setCell ?_ (by first | (simp; done) | omega | (simp <;> omega)) _ | with_reducible refine bl_al ?_ _ | with_reducible apply Below.drew)) hb); clear hb; clear K5)
      | (go_at_call 9; (with_reducible refine (K6.out _).mono ?_); rintro e w6 ⟨rfl, hb⟩; obtain ⟨hclw6, hfrw6⟩ := bcell hb; have zw6_v : w.heap.size < w6.heap.size := (by first | omega | (have hz := hb.size; (try simp at hz); omega)); have yw6_v : w.heap.size < w6.heap.size + 1 := (by omega); have yyw6_v : w.heap.size < w6.heap.size + 1 + 1 := (by omega); have zw6_d : w1.heap.size < w6.heap.size := (by first | omega | (have hz := hb.size; (try simp at hz); omega)); have yw6_d : w1.heap.size < w6.heap.size + 1 := (by omega); have yyw6_d : w1.heap.size < w6.heap.size + 1 + 1 := (by omega); have sxw6_0 : R1.heap.size ≤ w6.heap.size := (by first | omega | (have hz := hb.size; (try simp at hz); omega)); have sxw6_w2 : w2.heap.size ≤ w6.heap.size := (by first | omega | (have hz := hb.size; (try simp at hz); omega)); have sxw6_w3 : w3.heap.size ≤ w6.heap.size := (by first | omega | (have hz := hb.size; (try simp at hz); omega)); have sxw6_w4 : w4.heap.size ≤ w6.heap.size := (by first | omega | (have hz := hb.size; (try simp at hz); omega)); have sxw6_w5 : w5.heap.size ≤ w6.heap.size := (by first | omega | (have hz := hb.size; (try simp at hz); omega)); have HBw6 : Hid (Below w.heap.size w w6) := (bl_trans (by repeat (first | with_reducible exact Below.refl _ _ | with_reducible exact Hid.out (by assumption) | with_reducible refine Below.setCell ?_ (by first | (simp; done) | omega | (simp <;> omega)) _ | with_reducible refine bl_al ?_ _ | with_reducible apply Below.drew)) hb); clear hb; clear K6)
      | (go_at_call 9; (with_reducible refine (K7.out _).mono ?_); rintro e w7 ⟨rfl, hb⟩; obtain ⟨hclw7, hfrw7⟩ := bcell hb; have zw7_v : w.heap.size < w7.heap.size := (by first | omega | (have hz := hb.size; (try simp at hz); omega)); have yw7_v : w.heap.size < w7.heap.size + 1 := (by omega); have yyw7_v : w.heap.size < w7.heap.size + 1 + 1 := (by omega); have zw7_d : w1.heap.size < w7.heap.size := (by first | omega | (have hz := hb.size; (try simp at hz); omega)); have yw7_d : w1.heap.size < w7.heap.size + 1 := (by omega); have yyw7_d : w1.heap.size < w7.heap.size + 1 + 1 := (by omega); have sxw7_0 : R1.heap.size ≤ w7.heap.size := (by first | omega | (have hz := hb.size; (try simp at hz); omega)); have sxw7_w2 : w2.heap.size ≤ w7.heap.size := (by first | omega | (have hz := hb.size; (try simp at hz); omega)); have sxw7_w3 : w3.heap.size ≤ w7.heap.size := (by first | omega | (have hz := hb.size; (try simp at hz); omega)); have sxw7_w4 : w4.heap.size ≤ w7.heap.size := (by first | omega | (have hz := hb.size; (try simp at hz); omega)); have sxw7_w5 : w5.heap.size ≤ w7.heap.size := (by first | omega | (have hz := hb.size; (try simp at hz); omega)); have sxw7_w6 : w6.heap.size ≤ w7.heap.size := (by first | omega | (have hz := hb.size; (try simp at hz); omega)); have HBw7 : Hid (Below w.heap.size w w7) := (bl_trans (by repeat (first | with_reducible exact Below.refl _ _ | with_reducible exact Hid.out (by assumption) | with_reducible refine Below.setCell ?_ (by first | (simp; done) | omega | (simp <;> omega)) _ | with_reducible refine bl_al ?_ _ | with_reducible apply Below.drew)) hb); clear hb; clear K7))
  rename_i hHeld
  clear hHeld
  go_wp2_with fail
  (with_reducible refine (K8.out _).mono ?_); rintro e w8 ⟨rfl, hb⟩; obtain ⟨hclw8, hfrw8⟩ := bcell hb; have zw8_v : w.heap.size < w8.heap.size := (by first | omega | (have hz := hb.size; (try simp at hz); omega)); have yw8_v : w.heap.size < w8.heap.size + 1 := (by omega); have yyw8_v : w.heap.size < w8.heap.size + 1 + 1 := (by omega); have zw8_d : w1.heap.size < w8.heap.size := (by first | omega | (have hz := hb.size; (try simp at hz); omega)); have yw8_d : w1.heap.size < w8.heap.size + 1 := (by omega); have yyw8_d : w1.heap.size < w8.heap.size + 1 + 1 := (by omega); have sxw8_0 : w7.heap.size ≤ w8.heap.size := (by first | omega | (have hz := hb.size; (try simp at hz); omega)); have HBw8 : Hid (Below w.heap.size w w8) := (bl_trans (by repeat (first | with_reducible exact Below.refl _ _ | with_reducible exact Hid.out (by assumption) | with_reducible refine Below.setCell ?_ (by first | (simp; done) | omega | (simp <;> omega)) _ | with_reducible refine bl_al ?_ _ | with_reducible apply Below.drew)) hb); clear hb
  go_wp2_with fail
  (with_reducible refine (K9.out _).mono ?_); rintro e w9 ⟨rfl, hb⟩; obtain ⟨hclw9, hfrw9⟩ := bcell hb; have zw9_v : w.heap.size < w9.heap.size := (by first | omega | (have hz := hb.size; (try simp at hz); omega)); have yw9_v : w.heap.size < w9.heap.size + 1 := (by omega); have yyw9_v : w.heap.size < w9.heap.size + 1 + 1 := (by omega); have zw9_d : w1.heap.size < w9.heap.size := (by first | omega | (have hz := hb.size; (try simp at hz); omega)); have yw9_d : w1.heap.size < w9.heap.size + 1 := (by omega); have yyw9_d : w1.heap.size < w9.heap.size + 1 + 1 := (by omega); have sxw9_0 : w8.heap.size ≤ w9.heap.size := (by first | omega | (have hz := hb.size; (try simp at hz); omega)); have HBw9 : Hid (Below w.heap.size w w9) := (bl_trans (by repeat (first | with_reducible exact Below.refl _ _ | with_reducible exact Hid.out (by assumption) | with_reducible refine Below.setCell ?_ (by first | (simp; done) | omega | (simp <;> omega)) _ | with_reducible refine bl_al ?_ _ | with_reducible apply Below.drew)) hb); clear hb
  go_wp2_with fail
  go_returns
  exact ⟨rfl, by repeat (first | with_reducible exact Below.refl _ _ | with_reducible exact Hid.out (by assumption) | with_reducible refine Below.setCell ?_ (by first | (simp; done) | omega | (simp <;> omega)) _ | with_reducible refine bl_al ?_ _ | with_reducible apply Below.drew)⟩
set_option maxRecDepth 20000 in
set_option maxHeartbeats 60000000 in
theorem turnQuarters_core (vxh vxl vyh vyl dxh dxl dyh dyl bxh bxl byh byl rxh rxl ryh ryl uxh uxl uyh uyl nyh nyl n n1 n2 n4 n5 xe : Int) (w0 : IntKind.i64.wrap n = n) (w1 : IntKind.i64.wrap (n + 16384) = n1) (w2 : IntKind.i64.wrap (n + 32768) = n2) (w4 : IntKind.i64.wrap (n + 65536) = n4) (w5 : IntKind.i64.wrap (n - 65536) = n5) (w : World)
    (C1 : ∀ W, Calls Try.prog 9 #[.int .i64 n] W fun e w' => e = .returned (.agg #[.int .i64 dxh, .int .u64 dxl, .int .i64 dyh, .int .u64 dyl]) ∧ Below W.heap.size W w')
    (C2 : ∀ W, Calls Try.prog 9 #[.int .i64 n1] W fun e w' => e = .returned (.agg #[.int .i64 nyh, .int .u64 nyl, .int .i64 dxh, .int .u64 dxl]) ∧ Below W.heap.size W w')
    (C3 : ∀ W, Calls Try.prog 18 #[.agg #[.int .i64 dyh, .int .u64 dyl]] W fun e w' => e = .returned (.agg #[.int .i64 nyh, .int .u64 nyl]) ∧ Below W.heap.size W w')
    (C4 : ∀ W, Calls Try.prog 9 #[.int .i64 n2] W fun e w' => e = .returned (.agg #[.int .i64 bxh, .int .u64 bxl, .int .i64 byh, .int .u64 byl]) ∧ Below W.heap.size W w')
    (C5 : ∀ W, Calls Try.prog 19 #[.agg #[.int .i64 dxh, .int .u64 dxl, .int .i64 dyh, .int .u64 dyl]] W fun e w' => e = .returned (.agg #[.int .i64 bxh, .int .u64 bxl, .int .i64 byh, .int .u64 byl]) ∧ Below W.heap.size W w')
    (C6 : ∀ W, Calls Try.prog 9 #[.int .i64 n4] W fun e w' => e = .returned (.agg #[.int .i64 dxh, .int .u64 dxl, .int .i64 dyh, .int .u64 dyl]) ∧ Below W.heap.size W w')
    (C7 : ∀ W, Calls Try.prog 9 #[.int .i64 n5] W fun e w' => e = .returned (.agg #[.int .i64 dxh, .int .u64 dxl, .int .i64 dyh, .int .u64 dyl]) ∧ Below W.heap.size W w')
    (C8 : ∀ W, Calls Try.prog 8 #[.agg #[.int .i64 vxh, .int .u64 vxl, .int .i64 vyh, .int .u64 vyl]] W fun e w' => e = .returned (.bool true) ∧ Below W.heap.size W w')
    (C9 : ∀ W, Calls Try.prog 12 #[.agg #[.int .i64 vxh, .int .u64 vxl, .int .i64 vyh, .int .u64 vyl], .int .i64 n] W fun e w' => e = .returned (.tuple #[.agg #[.int .i64 rxh, .int .u64 rxl, .int .i64 ryh, .int .u64 ryl], .int .i64 xe]) ∧ Below W.heap.size W w')
    (C10 : ∀ W, Calls Try.prog 12 #[.agg #[.int .i64 vxh, .int .u64 vxl, .int .i64 vyh, .int .u64 vyl], .int .i64 n2] W fun e w' => e = .returned (.tuple #[.agg #[.int .i64 uxh, .int .u64 uxl, .int .i64 uyh, .int .u64 uyl], .int .i64 xe]) ∧ Below W.heap.size W w')
    (C11 : ∀ W, Calls Try.prog 12 #[.agg #[.int .i64 vxh, .int .u64 vxl, .int .i64 vyh, .int .u64 vyl], .int .i64 65536] W fun e w' => e = .returned (.tuple #[.agg #[.int .i64 vxh, .int .u64 vxl, .int .i64 vyh, .int .u64 vyl], .int .i64 0]) ∧ Below W.heap.size W w')
    (C12 : ∀ W, Calls Try.prog 19 #[.agg #[.int .i64 rxh, .int .u64 rxl, .int .i64 ryh, .int .u64 ryl]] W fun e w' => e = .returned (.agg #[.int .i64 uxh, .int .u64 uxl, .int .i64 uyh, .int .u64 uyl]) ∧ Below W.heap.size W w')
    (C13 : ∀ W, Calls Try.prog 14 #[.int .i64 0] W fun e w' => e = .returned (.int .i64 0) ∧ Below W.heap.size W w')
    (C14 : ∀ W, Calls Try.prog 11 #[] W fun e w' => e = .returned (.bool true) ∧ Below W.heap.size W w') :
    Calls Try.prog 4 #[.int .i32 n, .agg #[.int .i64 vxh, .int .u64 vxl, .int .i64 vyh, .int .u64 vyl]] w fun e w' => e = .returned (.bool true) ∧ Below w.heap.size w w' := by
  have K1 := Lib.hid C1; have K2 := Lib.hid C2; have K3 := Lib.hid C3; have K4 := Lib.hid C4; have K5 := Lib.hid C5; have K6 := Lib.hid C6; have K7 := Lib.hid C7; have K8 := Lib.hid C8; have K9 := Lib.hid C9; have K10 := Lib.hid C10; have K11 := Lib.hid C11; have K12 := Lib.hid C12; have K13 := Lib.hid C13; have K14 := Lib.hid C14
  clear C1 C2 C3 C4 C5 C6 C7 C8 C9 C10 C11 C12 C13 C14
  have qa := ne_vec_false nyh nyl dxh dxl
  have qb := ne_vec_false bxh bxl byh byl
  have qd := ne_vec_false dxh dxl dyh dyl
  have qv := eq_vec_true vxh vxl vyh vyl
  have qu := eq_vec_true uxh uxl uyh uyl
  go_enter Try.func4, Try.ntmps4
  go_wp2_with fail
  (with_reducible refine (K1.out _).mono ?_); rintro e w1 ⟨rfl, hb⟩; obtain ⟨hclw1, hfrw1⟩ := bcell hb; have zw1_v : w.heap.size < w1.heap.size := (by first | omega | (have hz := hb.size; (try simp at hz); omega)); have yw1_v : w.heap.size < w1.heap.size + 1 := (by omega); have yyw1_v : w.heap.size < w1.heap.size + 1 + 1 := (by omega); have sxw1_0 : w.heap.size + 1 ≤ w1.heap.size := (by first | omega | (have hz := hb.size; (try simp at hz); omega)); have HBw1 : Hid (Below w.heap.size w w1) := (bl_trans (by repeat (first | with_reducible exact Below.refl _ _ | with_reducible exact Hid.out (by assumption) | with_reducible refine Below.setCell ?_ (by first | (simp; done) | omega | (simp <;> omega)) _ | with_reducible refine bl_al ?_ _ | with_reducible apply Below.drew)) hb); clear hb
  go_upto_region 3 with fail
  refine name_world (P := fun W => Code.wp _ _ _ _ W) _ (fun R1 hR1 => ?_)
  have zR1_v : w.heap.size < R1.heap.size := by rw [hR1]; first | omega | (simp <;> omega)
  have yR1_v : w.heap.size < R1.heap.size + 1 := by omega
  have yyR1_v : w.heap.size < R1.heap.size + 1 + 1 := by omega
  have cR1_v_0 : R1.cell? ⟨w.heap.size, 0, none⟩ = some (.int .i64 vxh) := by rw [hR1]; first | assumption | (simp [go_sem, *]; done)
  have cR1_v_1 : R1.cell? ⟨w.heap.size, 1, none⟩ = some (.int .u64 vxl) := by rw [hR1]; first | assumption | (simp [go_sem, *]; done)
  have cR1_v_2 : R1.cell? ⟨w.heap.size, 2, none⟩ = some (.int .i64 vyh) := by rw [hR1]; first | assumption | (simp [go_sem, *]; done)
  have cR1_v_3 : R1.cell? ⟨w.heap.size, 3, none⟩ = some (.int .u64 vyl) := by rw [hR1]; first | assumption | (simp [go_sem, *]; done)
  have zR1_d : w1.heap.size < R1.heap.size := by rw [hR1]; first | omega | (simp <;> omega)
  have yR1_d : w1.heap.size < R1.heap.size + 1 := by omega
  have yyR1_d : w1.heap.size < R1.heap.size + 1 + 1 := by omega
  have cR1_d_0 : R1.cell? ⟨w1.heap.size, 0, none⟩ = some (.int .i64 dxh) := by rw [hR1]; first | assumption | (simp [go_sem, *]; done)
  have cR1_d_1 : R1.cell? ⟨w1.heap.size, 1, none⟩ = some (.int .u64 dxl) := by rw [hR1]; first | assumption | (simp [go_sem, *]; done)
  have cR1_d_2 : R1.cell? ⟨w1.heap.size, 2, none⟩ = some (.int .i64 dyh) := by rw [hR1]; first | assumption | (simp [go_sem, *]; done)
  have cR1_d_3 : R1.cell? ⟨w1.heap.size, 3, none⟩ = some (.int .u64 dyl) := by rw [hR1]; first | assumption | (simp [go_sem, *]; done)
  have HBR1 : Hid (Below w.heap.size w R1) := by rw [hR1]; show Below _ _ _; exact (by repeat (first | with_reducible exact Below.refl _ _ | with_reducible exact Hid.out (by assumption) | with_reducible refine Below.setCell ?_ (by first | (simp; done) | omega | (simp <;> omega)) _ | with_reducible refine bl_al ?_ _ | with_reducible apply Below.drew))
  clear hR1
  clear zw1_v yw1_v yyw1_v sxw1_0 hclw1 hfrw1 HBw1
  go_region_held3 (fun w' => w'.cell? ⟨w1.heap.size, 0, none⟩ = some (.int .i64 dxh) ∧ w'.cell? ⟨w1.heap.size, 1, none⟩ = some (.int .u64 dxl) ∧ w'.cell? ⟨w1.heap.size, 2, none⟩ = some (.int .i64 dyh) ∧ w'.cell? ⟨w1.heap.size, 3, none⟩ = some (.int .u64 dyl)) (first | (simp [*, go_sem]; done) | (simp [*, go_sem, World.cell?_alloc_past]; done))
    (first
      | (go_at_call 9; (with_reducible refine (K2.out _).mono ?_); rintro e w2 ⟨rfl, hb⟩; (first | (with_reducible (obtain ⟨hclw2, hfrw2⟩ := bcell_drew hb)) | (obtain ⟨hclw2, hfrw2⟩ := bcell hb)); have zw2_v : w.heap.size < w2.heap.size := (by first | omega | (have hz := hb.size; (try simp at hz); omega)); have yw2_v : w.heap.size < w2.heap.size + 1 := (by omega); have yyw2_v : w.heap.size < w2.heap.size + 1 + 1 := (by omega); have zw2_d : w1.heap.size < w2.heap.size := (by first | omega | (have hz := hb.size; (try simp at hz); omega)); have yw2_d : w1.heap.size < w2.heap.size + 1 := (by omega); have yyw2_d : w1.heap.size < w2.heap.size + 1 + 1 := (by omega); have sxw2_0 : R1.heap.size ≤ w2.heap.size := (by first | omega | (have hz := hb.size; (try simp at hz); omega)); have HBw2 : Hid (Below w.heap.size w w2) := (bl_trans (by repeat (first | with_reducible exact Below.refl _ _ | with_reducible exact Hid.out (by assumption) | with_reducible refine Below.setCell ?_ (by first | (simp; done) | omega | (simp <;> omega)) _ | with_reducible refine bl_al ?_ _ | with_reducible apply Below.drew)) hb); clear hb; clear K2)
      | (go_at_call 18; (with_reducible refine (K3.out _).mono ?_); rintro e w3 ⟨rfl, hb⟩; obtain ⟨hclw3, hfrw3⟩ := bcell hb; have zw3_v : w.heap.size < w3.heap.size := (by first | omega | (have hz := hb.size; (try simp at hz); omega)); have yw3_v : w.heap.size < w3.heap.size + 1 := (by omega); have yyw3_v : w.heap.size < w3.heap.size + 1 + 1 := (by omega); have zw3_d : w1.heap.size < w3.heap.size := (by first | omega | (have hz := hb.size; (try simp at hz); omega)); have yw3_d : w1.heap.size < w3.heap.size + 1 := (by omega); have yyw3_d : w1.heap.size < w3.heap.size + 1 + 1 := (by omega); have sxw3_0 : R1.heap.size ≤ w3.heap.size := (by first | omega | (have hz := hb.size; (try simp at hz); omega)); have sxw3_w2 : w2.heap.size ≤ w3.heap.size := (by first | omega | (have hz := hb.size; (try simp at hz); omega)); have HBw3 : Hid (Below w.heap.size w w3) := (bl_trans (by repeat (first | with_reducible exact Below.refl _ _ | with_reducible exact Hid.out (by assumption) | with_reducible refine Below.setCell ?_ (by first | (simp; done) | omega | (simp <;> omega)) _ | with_reducible refine bl_al ?_ _ | with_reducible apply Below.drew)) hb); clear hb; clear K3)
      | (go_at_call 9; (with_reducible refine (K4.out _).mono ?_); rintro e w4 ⟨rfl, hb⟩; obtain ⟨hclw4, hfrw4⟩ := bcell hb; have zw4_v : w.heap.size < w4.heap.size := (by first | omega | (have hz := hb.size; (try simp at hz); omega)); have yw4_v : w.heap.size < w4.heap.size + 1 := (by omega); have yyw4_v : w.heap.size < w4.heap.size + 1 + 1 := (by omega); have zw4_d : w1.heap.size < w4.heap.size := (by first | omega | (have hz := hb.size; (try simp at hz); omega)); have yw4_d : w1.heap.size < w4.heap.size + 1 := (by omega); have yyw4_d : w1.heap.size < w4.heap.size + 1 + 1 := (by omega); have sxw4_0 : R1.heap.size ≤ w4.heap.size := (by first | omega | (have hz := hb.size; (try simp at hz); omega)); have sxw4_w2 : w2.heap.size ≤ w4.heap.size := (by first | omega | (have hz := hb.size; (try simp at hz); omega)); have sxw4_w3 : w3.heap.size ≤ w4.heap.size := (by first | omega | (have hz := hb.size; (try simp at hz); omega)); have HBw4 : Hid (Below w.heap.size w w4) := (bl_trans (by repeat (first | with_reducible exact Below.refl _ _ | with_reducible exact Hid.out (by assumption) | with_reducible refine Below.setCell ?_ (by first | (simp; done) | omega | (simp <;> omega)) _ | with_reducible refine bl_al ?_ _ | with_reducible apply Below.drew)) hb); clear hb; clear K4)
      | (go_at_call 19; (with_reducible refine (K5.out _).mono ?_); rintro e w5 ⟨rfl, hb⟩; obtain ⟨hclw5, hfrw5⟩ := bcell hb; have zw5_v : w.heap.size < w5.heap.size := (by first | omega | (have hz := hb.size; (try simp at hz); omega)); have yw5_v : w.heap.size < w5.heap.size + 1 := (by omega); have yyw5_v : w.heap.size < w5.heap.size + 1 + 1 := (by omega); have zw5_d : w1.heap.size < w5.heap.size := (by first | omega | (have hz := hb.size; (try simp at hz); omega)); have yw5_d : w1.heap.size < w5.heap.size + 1 := (by omega); have yyw5_d : w1.heap.size < w5.heap.size + 1 + 1 := (by omega); have sxw5_0 : R1.heap.size ≤ w5.heap.size := (by first | omega | (have hz := hb.size; (try simp at hz); omega)); have sxw5_w2 : w2.heap.size ≤ w5.heap.size := (by first | omega | (have hz := hb.size; (try simp at hz); omega)); have sxw5_w3 : w3.heap.size ≤ w5.heap.size := (by first | omega | (have hz := hb.size; (try simp at hz); omega)); have sxw5_w4 : w4.heap.size ≤ w5.heap.size := (by first | omega | (have hz := hb.size; (try simp at hz); omega)); have HBw5 : Hid (Below w.heap.size w w5) := (bl_trans (by repeat (first | with_reducible exact Below.refl _ _ | with_reducible exact Hid.out (by assumption) | with_reducible refine Below.setCell ?_ (by first | (simp; done) | omega | (simp <;> omega)) _ | with_reducible refine bl_al ?_ _ | with_reducible apply Below.drew)) hb); clear hb; clear K5)
      | (go_at_call 9; (with_reducible refine (K6.out _).mono ?_); rintro e w6 ⟨rfl, hb⟩; obtain ⟨hclw6, hfrw6⟩ := bcell hb; have zw6_v : w.heap.size < w6.heap.size := (by first | omega | (have hz := hb.size; (try simp at hz); omega)); have yw6_v : w.heap.size < w6.heap.size + 1 := (by omega); have yyw6_v : w.heap.size < w6.heap.size + 1 + 1 := (by omega); have zw6_d : w1.heap.size < w6.heap.size := (by first | omega | (have hz := hb.size; (try simp at hz); omega)); have yw6_d : w1.heap.size < w6.heap.size + 1 := (by omega); have yyw6_d : w1.heap.size < w6.heap.size + 1 + 1 := (by omega); have sxw6_0 : R1.heap.size ≤ w6.heap.size := (by first | omega | (have hz := hb.size; (try simp at hz); omega)); have sxw6_w2 : w2.heap.size ≤ w6.heap.size := (by first | omega | (have hz := hb.size; (try simp at hz); omega)); have sxw6_w3 : w3.heap.size ≤ w6.heap.size := (by first | omega | (have hz := hb.size; (try simp at hz); omega)); have sxw6_w4 : w4.heap.size ≤ w6.heap.size := (by first | omega | (have hz := hb.size; (try simp at hz); omega)); have sxw6_w5 : w5.heap.size ≤ w6.heap.size := (by first | omega | (have hz := hb.size; (try simp at hz); omega)); have HBw6 : Hid (Below w.heap.size w w6) := (bl_trans (by repeat (first | with_reducible exact Below.refl _ _ | with_reducible exact Hid.out (by assumption) | with_reducible refine Below.setCell ?_ (by first | (simp; done) | omega | (simp <;> omega)) _ | with_reducible refine bl_al ?_ _ | with_reducible apply Below.drew)) hb); clear hb; clear K6)
      | (go_at_call 9; (with_reducible refine (K7.out _).mono ?_); rintro e w7 ⟨rfl, hb⟩; obtain ⟨hclw7, hfrw7⟩ := bcell hb; have zw7_v : w.heap.size < w7.heap.size := (by first | omega | (have hz := hb.size; (try simp at hz); omega)); have yw7_v : w.heap.size < w7.heap.size + 1 := (by omega); have yyw7_v : w.heap.size < w7.heap.size + 1 + 1 := (by omega); have zw7_d : w1.heap.size < w7.heap.size := (by first | omega | (have hz := hb.size; (try simp at hz); omega)); have yw7_d : w1.heap.size < w7.heap.size + 1 := (by omega); have yyw7_d : w1.heap.size < w7.heap.size + 1 + 1 := (by omega); have sxw7_0 : R1.heap.size ≤ w7.heap.size := (by first | omega | (have hz := hb.size; (try simp at hz); omega)); have sxw7_w2 : w2.heap.size ≤ w7.heap.size := (by first | omega | (have hz := hb.size; (try simp at hz); omega)); have sxw7_w3 : w3.heap.size ≤ w7.heap.size := (by first | omega | (have hz := hb.size; (try simp at hz); omega)); have sxw7_w4 : w4.heap.size ≤ w7.heap.size := (by first | omega | (have hz := hb.size; (try simp at hz); omega)); have sxw7_w5 : w5.heap.size ≤ w7.heap.size := (by first | omega | (have hz := hb.size; (try simp at hz); omega)); have sxw7_w6 : w6.heap.size ≤ w7.heap.size := (by first | omega | (have hz := hb.size; (try simp at hz); omega)); have HBw7 : Hid (Below w.heap.size w w7) := (bl_trans (by repeat (first | with_reducible exact Below.refl _ _ | with_reducible exact Hid.out (by assumption) | with_reducible refine Below.setCell ?_ (by first | (simp; done) | omega | (simp <;> omega)) _ | with_reducible refine bl_al ?_ _ | with_reducible apply Below.drew)) hb); clear hb; clear K7))
  rename_i hHeld
  clear hHeld
  go_wp2_with fail
  (with_reducible refine (K8.out _).mono ?_); rintro e w8 ⟨rfl, hb⟩; obtain ⟨hclw8, hfrw8⟩ := bcell hb; have zw8_v : w.heap.size < w8.heap.size := (by first | omega | (have hz := hb.size; (try simp at hz); omega)); have yw8_v : w.heap.size < w8.heap.size + 1 := (by omega); have yyw8_v : w.heap.size < w8.heap.size + 1 + 1 := (by omega); have zw8_d : w1.heap.size < w8.heap.size := (by first | omega | (have hz := hb.size; (try simp at hz); omega)); have yw8_d : w1.heap.size < w8.heap.size + 1 := (by omega); have yyw8_d : w1.heap.size < w8.heap.size + 1 + 1 := (by omega); have sxw8_0 : w7.heap.size ≤ w8.heap.size := (by first | omega | (have hz := hb.size; (try simp at hz); omega)); have HBw8 : Hid (Below w.heap.size w w8) := (bl_trans (by repeat (first | with_reducible exact Below.refl _ _ | with_reducible exact Hid.out (by assumption) | with_reducible refine Below.setCell ?_ (by first | (simp; done) | omega | (simp <;> omega)) _ | with_reducible refine bl_al ?_ _ | with_reducible apply Below.drew)) hb); clear hb
  go_wp2_with fail
  (with_reducible refine (K9.out _).mono ?_); rintro e w9 ⟨rfl, hb⟩; obtain ⟨hclw9, hfrw9⟩ := bcell hb; have zw9_v : w.heap.size < w9.heap.size := (by first | omega | (have hz := hb.size; (try simp at hz); omega)); have yw9_v : w.heap.size < w9.heap.size + 1 := (by omega); have yyw9_v : w.heap.size < w9.heap.size + 1 + 1 := (by omega); have zw9_d : w1.heap.size < w9.heap.size := (by first | omega | (have hz := hb.size; (try simp at hz); omega)); have yw9_d : w1.heap.size < w9.heap.size + 1 := (by omega); have yyw9_d : w1.heap.size < w9.heap.size + 1 + 1 := (by omega); have sxw9_0 : w8.heap.size ≤ w9.heap.size := (by first | omega | (have hz := hb.size; (try simp at hz); omega)); have HBw9 : Hid (Below w.heap.size w w9) := (bl_trans (by repeat (first | with_reducible exact Below.refl _ _ | with_reducible exact Hid.out (by assumption) | with_reducible refine Below.setCell ?_ (by first | (simp; done) | omega | (simp <;> omega)) _ | with_reducible refine bl_al ?_ _ | with_reducible apply Below.drew)) hb); clear hb
  go_wp2_with fail
  (with_reducible refine (K10.out _).mono ?_); rintro e w10 ⟨rfl, hb⟩; obtain ⟨hclw10, hfrw10⟩ := bcell hb; have zw10_v : w.heap.size < w10.heap.size := (by first | omega | (have hz := hb.size; (try simp at hz); omega)); have yw10_v : w.heap.size < w10.heap.size + 1 := (by omega); have yyw10_v : w.heap.size < w10.heap.size + 1 + 1 := (by omega); have zw10_d : w1.heap.size < w10.heap.size := (by first | omega | (have hz := hb.size; (try simp at hz); omega)); have yw10_d : w1.heap.size < w10.heap.size + 1 := (by omega); have yyw10_d : w1.heap.size < w10.heap.size + 1 + 1 := (by omega); have zw10_r : w9.heap.size < w10.heap.size := (by first | omega | (have hz := hb.size; (try simp at hz); omega)); have yw10_r : w9.heap.size < w10.heap.size + 1 := (by omega); have yyw10_r : w9.heap.size < w10.heap.size + 1 + 1 := (by omega); have sxw10_0 : w9.heap.size + 1 ≤ w10.heap.size := (by first | omega | (have hz := hb.size; (try simp at hz); omega)); have HBw10 : Hid (Below w.heap.size w w10) := (bl_trans (by repeat (first | with_reducible exact Below.refl _ _ | with_reducible exact Hid.out (by assumption) | with_reducible refine Below.setCell ?_ (by first | (simp; done) | omega | (simp <;> omega)) _ | with_reducible refine bl_al ?_ _ | with_reducible apply Below.drew)) hb); clear hb
  go_wp2_with fail
  (with_reducible refine (K11.out _).mono ?_); rintro e w11 ⟨rfl, hb⟩; obtain ⟨hclw11, hfrw11⟩ := bcell hb; have zw11_v : w.heap.size < w11.heap.size := (by first | omega | (have hz := hb.size; (try simp at hz); omega)); have yw11_v : w.heap.size < w11.heap.size + 1 := (by omega); have yyw11_v : w.heap.size < w11.heap.size + 1 + 1 := (by omega); have zw11_d : w1.heap.size < w11.heap.size := (by first | omega | (have hz := hb.size; (try simp at hz); omega)); have yw11_d : w1.heap.size < w11.heap.size + 1 := (by omega); have yyw11_d : w1.heap.size < w11.heap.size + 1 + 1 := (by omega); have zw11_r : w9.heap.size < w11.heap.size := (by first | omega | (have hz := hb.size; (try simp at hz); omega)); have yw11_r : w9.heap.size < w11.heap.size + 1 := (by omega); have yyw11_r : w9.heap.size < w11.heap.size + 1 + 1 := (by omega); have zw11_u : w10.heap.size < w11.heap.size := (by first | omega | (have hz := hb.size; (try simp at hz); omega)); have yw11_u : w10.heap.size < w11.heap.size + 1 := (by omega); have yyw11_u : w10.heap.size < w11.heap.size + 1 + 1 := (by omega); have sxw11_0 : w10.heap.size + 1 ≤ w11.heap.size := (by first | omega | (have hz := hb.size; (try simp at hz); omega)); have HBw11 : Hid (Below w.heap.size w w11) := (bl_trans (by repeat (first | with_reducible exact Below.refl _ _ | with_reducible exact Hid.out (by assumption) | with_reducible refine Below.setCell ?_ (by first | (simp; done) | omega | (simp <;> omega)) _ | with_reducible refine bl_al ?_ _ | with_reducible apply Below.drew)) hb); clear hb
  go_upto_region 10 with fail
  refine name_world (P := fun W => Code.wp _ _ _ _ W) _ (fun R2 hR2 => ?_)
  have zR2_v : w.heap.size < R2.heap.size := by rw [hR2]; first | omega | (simp <;> omega)
  have yR2_v : w.heap.size < R2.heap.size + 1 := by omega
  have yyR2_v : w.heap.size < R2.heap.size + 1 + 1 := by omega
  have cR2_v_0 : R2.cell? ⟨w.heap.size, 0, none⟩ = some (.int .i64 vxh) := by rw [hR2]; first | assumption | (simp [go_sem, *]; done)
  have cR2_v_1 : R2.cell? ⟨w.heap.size, 1, none⟩ = some (.int .u64 vxl) := by rw [hR2]; first | assumption | (simp [go_sem, *]; done)
  have cR2_v_2 : R2.cell? ⟨w.heap.size, 2, none⟩ = some (.int .i64 vyh) := by rw [hR2]; first | assumption | (simp [go_sem, *]; done)
  have cR2_v_3 : R2.cell? ⟨w.heap.size, 3, none⟩ = some (.int .u64 vyl) := by rw [hR2]; first | assumption | (simp [go_sem, *]; done)
  have zR2_d : w1.heap.size < R2.heap.size := by rw [hR2]; first | omega | (simp <;> omega)
  have yR2_d : w1.heap.size < R2.heap.size + 1 := by omega
  have yyR2_d : w1.heap.size < R2.heap.size + 1 + 1 := by omega
  have cR2_d_0 : R2.cell? ⟨w1.heap.size, 0, none⟩ = some (.int .i64 dxh) := by rw [hR2]; first | assumption | (simp [go_sem, *]; done)
  have cR2_d_1 : R2.cell? ⟨w1.heap.size, 1, none⟩ = some (.int .u64 dxl) := by rw [hR2]; first | assumption | (simp [go_sem, *]; done)
  have cR2_d_2 : R2.cell? ⟨w1.heap.size, 2, none⟩ = some (.int .i64 dyh) := by rw [hR2]; first | assumption | (simp [go_sem, *]; done)
  have cR2_d_3 : R2.cell? ⟨w1.heap.size, 3, none⟩ = some (.int .u64 dyl) := by rw [hR2]; first | assumption | (simp [go_sem, *]; done)
  have zR2_r : w9.heap.size < R2.heap.size := by rw [hR2]; first | omega | (simp <;> omega)
  have yR2_r : w9.heap.size < R2.heap.size + 1 := by omega
  have yyR2_r : w9.heap.size < R2.heap.size + 1 + 1 := by omega
  have cR2_r_0 : R2.cell? ⟨w9.heap.size, 0, none⟩ = some (.int .i64 rxh) := by rw [hR2]; first | assumption | (simp [go_sem, *]; done)
  have cR2_r_1 : R2.cell? ⟨w9.heap.size, 1, none⟩ = some (.int .u64 rxl) := by rw [hR2]; first | assumption | (simp [go_sem, *]; done)
  have cR2_r_2 : R2.cell? ⟨w9.heap.size, 2, none⟩ = some (.int .i64 ryh) := by rw [hR2]; first | assumption | (simp [go_sem, *]; done)
  have cR2_r_3 : R2.cell? ⟨w9.heap.size, 3, none⟩ = some (.int .u64 ryl) := by rw [hR2]; first | assumption | (simp [go_sem, *]; done)
  have zR2_u : w10.heap.size < R2.heap.size := by rw [hR2]; first | omega | (simp <;> omega)
  have yR2_u : w10.heap.size < R2.heap.size + 1 := by omega
  have yyR2_u : w10.heap.size < R2.heap.size + 1 + 1 := by omega
  have cR2_u_0 : R2.cell? ⟨w10.heap.size, 0, none⟩ = some (.int .i64 uxh) := by rw [hR2]; first | assumption | (simp [go_sem, *]; done)
  have cR2_u_1 : R2.cell? ⟨w10.heap.size, 1, none⟩ = some (.int .u64 uxl) := by rw [hR2]; first | assumption | (simp [go_sem, *]; done)
  have cR2_u_2 : R2.cell? ⟨w10.heap.size, 2, none⟩ = some (.int .i64 uyh) := by rw [hR2]; first | assumption | (simp [go_sem, *]; done)
  have cR2_u_3 : R2.cell? ⟨w10.heap.size, 3, none⟩ = some (.int .u64 uyl) := by rw [hR2]; first | assumption | (simp [go_sem, *]; done)
  have zR2_z : w11.heap.size < R2.heap.size := by rw [hR2]; first | omega | (simp <;> omega)
  have yR2_z : w11.heap.size < R2.heap.size + 1 := by omega
  have yyR2_z : w11.heap.size < R2.heap.size + 1 + 1 := by omega
  have cR2_z_0 : R2.cell? ⟨w11.heap.size, 0, none⟩ = some (.int .i64 vxh) := by rw [hR2]; first | assumption | (simp [go_sem, *]; done)
  have cR2_z_1 : R2.cell? ⟨w11.heap.size, 1, none⟩ = some (.int .u64 vxl) := by rw [hR2]; first | assumption | (simp [go_sem, *]; done)
  have cR2_z_2 : R2.cell? ⟨w11.heap.size, 2, none⟩ = some (.int .i64 vyh) := by rw [hR2]; first | assumption | (simp [go_sem, *]; done)
  have cR2_z_3 : R2.cell? ⟨w11.heap.size, 3, none⟩ = some (.int .u64 vyl) := by rw [hR2]; first | assumption | (simp [go_sem, *]; done)
  have HBR2 : Hid (Below w.heap.size w R2) := by rw [hR2]; show Below _ _ _; exact (by repeat (first | with_reducible exact Below.refl _ _ | with_reducible exact Hid.out (by assumption) | with_reducible refine Below.setCell ?_ (by first | (simp; done) | omega | (simp <;> omega)) _ | with_reducible refine bl_al ?_ _ | with_reducible apply Below.drew))
  clear hR2
  clear zR1_v yR1_v yyR1_v cR1_v_0 cR1_v_1 cR1_v_2 cR1_v_3 zR1_d yR1_d yyR1_d cR1_d_0 cR1_d_1 cR1_d_2 cR1_d_3 HBR1 zw2_v yw2_v yyw2_v zw2_d yw2_d yyw2_d sxw2_0 hclw2 hfrw2 HBw2 zw3_v yw3_v yyw3_v zw3_d yw3_d yyw3_d sxw3_0 sxw3_w2 hclw3 hfrw3 HBw3 zw4_v yw4_v yyw4_v zw4_d yw4_d yyw4_d sxw4_0 sxw4_w2 sxw4_w3 hclw4 hfrw4 HBw4 zw5_v yw5_v yyw5_v zw5_d yw5_d yyw5_d sxw5_0 sxw5_w2 sxw5_w3 sxw5_w4 hclw5 hfrw5 HBw5 zw6_v yw6_v yyw6_v zw6_d yw6_d yyw6_d sxw6_0 sxw6_w2 sxw6_w3 sxw6_w4 sxw6_w5 hclw6 hfrw6 HBw6 zw7_v yw7_v yyw7_v zw7_d yw7_d yyw7_d sxw7_0 sxw7_w2 sxw7_w3 sxw7_w4 sxw7_w5 sxw7_w6 hclw7 hfrw7 HBw7 zw8_v yw8_v yyw8_v zw8_d yw8_d yyw8_d sxw8_0 hclw8 hfrw8 HBw8 zw9_v yw9_v yyw9_v zw9_d yw9_d yyw9_d sxw9_0 hclw9 hfrw9 HBw9 zw10_v yw10_v yyw10_v zw10_d yw10_d yyw10_d zw10_r yw10_r yyw10_r sxw10_0 hclw10 hfrw10 HBw10 zw11_v yw11_v yyw11_v zw11_d yw11_d yyw11_d zw11_r yw11_r yyw11_r zw11_u yw11_u yyw11_u sxw11_0 hclw11 hfrw11 HBw11
  go_region_held3 (fun w' => w'.cell? ⟨w9.heap.size, 0, none⟩ = some (.int .i64 rxh) ∧ w'.cell? ⟨w9.heap.size, 1, none⟩ = some (.int .u64 rxl) ∧ w'.cell? ⟨w9.heap.size, 2, none⟩ = some (.int .i64 ryh) ∧ w'.cell? ⟨w9.heap.size, 3, none⟩ = some (.int .u64 ryl) ∧ w'.cell? ⟨w10.heap.size, 0, none⟩ = some (.int .i64 uxh) ∧ w'.cell? ⟨w10.heap.size, 1, none⟩ = some (.int .u64 uxl) ∧ w'.cell? ⟨w10.heap.size, 2, none⟩ = some (.int .i64 uyh) ∧ w'.cell? ⟨w10.heap.size, 3, none⟩ = some (.int .u64 uyl) ∧ w'.cell? ⟨w11.heap.size, 0, none⟩ = some (.int .i64 vxh) ∧ w'.cell? ⟨w11.heap.size, 1, none⟩ = some (.int .u64 vxl) ∧ w'.cell? ⟨w11.heap.size, 2, none⟩ = some (.int .i64 vyh) ∧ w'.cell? ⟨w11.heap.size, 3, none⟩ = some (.int .u64 vyl) ∧ w'.cell? ⟨w.heap.size, 0, none⟩ = some (.int .i64 vxh) ∧ w'.cell? ⟨w.heap.size, 1, none⟩ = some (.int .u64 vxl) ∧ w'.cell? ⟨w.heap.size, 2, none⟩ = some (.int .i64 vyh) ∧ w'.cell? ⟨w.heap.size, 3, none⟩ = some (.int .u64 vyl)) (first | (simp [*, go_sem]; done) | (simp [*, go_sem, World.cell?_alloc_past]; done))
    (first
      | (go_at_call 19; (with_reducible refine (K12.out _).mono ?_); rintro e w12 ⟨rfl, hb⟩; (first | (with_reducible (obtain ⟨hclw12, hfrw12⟩ := bcell_drew hb)) | (obtain ⟨hclw12, hfrw12⟩ := bcell hb)); have zw12_v : w.heap.size < w12.heap.size := (by first | omega | (have hz := hb.size; (try simp at hz); omega)); have yw12_v : w.heap.size < w12.heap.size + 1 := (by omega); have yyw12_v : w.heap.size < w12.heap.size + 1 + 1 := (by omega); have zw12_d : w1.heap.size < w12.heap.size := (by first | omega | (have hz := hb.size; (try simp at hz); omega)); have yw12_d : w1.heap.size < w12.heap.size + 1 := (by omega); have yyw12_d : w1.heap.size < w12.heap.size + 1 + 1 := (by omega); have zw12_r : w9.heap.size < w12.heap.size := (by first | omega | (have hz := hb.size; (try simp at hz); omega)); have yw12_r : w9.heap.size < w12.heap.size + 1 := (by omega); have yyw12_r : w9.heap.size < w12.heap.size + 1 + 1 := (by omega); have zw12_u : w10.heap.size < w12.heap.size := (by first | omega | (have hz := hb.size; (try simp at hz); omega)); have yw12_u : w10.heap.size < w12.heap.size + 1 := (by omega); have yyw12_u : w10.heap.size < w12.heap.size + 1 + 1 := (by omega); have zw12_z : w11.heap.size < w12.heap.size := (by first | omega | (have hz := hb.size; (try simp at hz); omega)); have yw12_z : w11.heap.size < w12.heap.size + 1 := (by omega); have yyw12_z : w11.heap.size < w12.heap.size + 1 + 1 := (by omega); have sxw12_0 : R2.heap.size ≤ w12.heap.size := (by first | omega | (have hz := hb.size; (try simp at hz); omega)); have HBw12 : Hid (Below w.heap.size w w12) := (bl_trans (by repeat (first | with_reducible exact Below.refl _ _ | with_reducible exact Hid.out (by assumption) | with_reducible refine Below.setCell ?_ (by first | (simp; done) | omega | (simp <;> omega)) _ | with_reducible refine bl_al ?_ _ | with_reducible apply Below.drew)) hb); clear hb; clear K12)
      | (go_at_call 14; (with_reducible refine (K13.out _).mono ?_); rintro e w13 ⟨rfl, hb⟩; obtain ⟨hclw13, hfrw13⟩ := bcell hb; have zw13_v : w.heap.size < w13.heap.size := (by first | omega | (have hz := hb.size; (try simp at hz); omega)); have yw13_v : w.heap.size < w13.heap.size + 1 := (by omega); have yyw13_v : w.heap.size < w13.heap.size + 1 + 1 := (by omega); have zw13_d : w1.heap.size < w13.heap.size := (by first | omega | (have hz := hb.size; (try simp at hz); omega)); have yw13_d : w1.heap.size < w13.heap.size + 1 := (by omega); have yyw13_d : w1.heap.size < w13.heap.size + 1 + 1 := (by omega); have zw13_r : w9.heap.size < w13.heap.size := (by first | omega | (have hz := hb.size; (try simp at hz); omega)); have yw13_r : w9.heap.size < w13.heap.size + 1 := (by omega); have yyw13_r : w9.heap.size < w13.heap.size + 1 + 1 := (by omega); have zw13_u : w10.heap.size < w13.heap.size := (by first | omega | (have hz := hb.size; (try simp at hz); omega)); have yw13_u : w10.heap.size < w13.heap.size + 1 := (by omega); have yyw13_u : w10.heap.size < w13.heap.size + 1 + 1 := (by omega); have zw13_z : w11.heap.size < w13.heap.size := (by first | omega | (have hz := hb.size; (try simp at hz); omega)); have yw13_z : w11.heap.size < w13.heap.size + 1 := (by omega); have yyw13_z : w11.heap.size < w13.heap.size + 1 + 1 := (by omega); have sxw13_0 : R2.heap.size ≤ w13.heap.size := (by first | omega | (have hz := hb.size; (try simp at hz); omega)); have sxw13_w12 : w12.heap.size ≤ w13.heap.size := (by first | omega | (have hz := hb.size; (try simp at hz); omega)); have HBw13 : Hid (Below w.heap.size w w13) := (bl_trans (by repeat (first | with_reducible exact Below.refl _ _ | with_reducible exact Hid.out (by assumption) | with_reducible refine Below.setCell ?_ (by first | (simp; done) | omega | (simp <;> omega)) _ | with_reducible refine bl_al ?_ _ | with_reducible apply Below.drew)) hb); clear hb; clear K13)
      | (go_at_call 11; (with_reducible refine (K14.out _).mono ?_); rintro e w14 ⟨rfl, hb⟩; obtain ⟨hclw14, hfrw14⟩ := bcell hb; have zw14_v : w.heap.size < w14.heap.size := (by first | omega | (have hz := hb.size; (try simp at hz); omega)); have yw14_v : w.heap.size < w14.heap.size + 1 := (by omega); have yyw14_v : w.heap.size < w14.heap.size + 1 + 1 := (by omega); have zw14_d : w1.heap.size < w14.heap.size := (by first | omega | (have hz := hb.size; (try simp at hz); omega)); have yw14_d : w1.heap.size < w14.heap.size + 1 := (by omega); have yyw14_d : w1.heap.size < w14.heap.size + 1 + 1 := (by omega); have zw14_r : w9.heap.size < w14.heap.size := (by first | omega | (have hz := hb.size; (try simp at hz); omega)); have yw14_r : w9.heap.size < w14.heap.size + 1 := (by omega); have yyw14_r : w9.heap.size < w14.heap.size + 1 + 1 := (by omega); have zw14_u : w10.heap.size < w14.heap.size := (by first | omega | (have hz := hb.size; (try simp at hz); omega)); have yw14_u : w10.heap.size < w14.heap.size + 1 := (by omega); have yyw14_u : w10.heap.size < w14.heap.size + 1 + 1 := (by omega); have zw14_z : w11.heap.size < w14.heap.size := (by first | omega | (have hz := hb.size; (try simp at hz); omega)); have yw14_z : w11.heap.size < w14.heap.size + 1 := (by omega); have yyw14_z : w11.heap.size < w14.heap.size + 1 + 1 := (by omega); have sxw14_0 : R2.heap.size ≤ w14.heap.size := (by first | omega | (have hz := hb.size; (try simp at hz); omega)); have sxw14_w12 : w12.heap.size ≤ w14.heap.size := (by first | omega | (have hz := hb.size; (try simp at hz); omega)); have sxw14_w13 : w13.heap.size ≤ w14.heap.size := (by first | omega | (have hz := hb.size; (try simp at hz); omega)); have HBw14 : Hid (Below w.heap.size w w14) := (bl_trans (by repeat (first | with_reducible exact Below.refl _ _ | with_reducible exact Hid.out (by assumption) | with_reducible refine Below.setCell ?_ (by first | (simp; done) | omega | (simp <;> omega)) _ | with_reducible refine bl_al ?_ _ | with_reducible apply Below.drew)) hb); clear hb; clear K14))
  rename_i hHeld
  clear hHeld
  go_wp2_with fail
  go_returns
  exact ⟨rfl, by repeat (first | with_reducible exact Below.refl _ _ | with_reducible exact Hid.out (by assumption) | with_reducible refine Below.setCell ?_ (by first | (simp; done) | omega | (simp <;> omega)) _ | with_reducible refine bl_al ?_ _ | with_reducible apply Below.drew)⟩
theorem rot_low {A B : Nat} : ∀ (k : Nat) (c x y : Int), A % 2 ^ k = B % 2 ^ k → rot A k c x y = rot B k c x y := by
  intro k
  induction k with
  | zero => intro c x y _; rfl
  | succ k ih =>
    intro c x y h
    rw [Nat.pow_succ] at h
    have h1 : A % 2 ^ k = B % 2 ^ k := by rw [← Nat.mod_mul_right_mod A (2 ^ k) 2, h, Nat.mod_mul_right_mod]
    have h2 : A / 2 ^ k % 2 = B / 2 ^ k % 2 := by rw [← Nat.mod_mul_right_div_self A (2 ^ k) 2, ← Nat.mod_mul_right_div_self B (2 ^ k) 2, h]
    show (if A / 2 ^ k % 2 = 1 then _ else _) = (if B / 2 ^ k % 2 = 1 then _ else _)
    rw [h2]
    split
    · split
      · exact ih _ _ _ h1
      · rfl
    · exact ih _ _ _ h1
theorem rot_quarter (A q : Nat) (x y : Int) : rot ((A + 16384 * q) % 65536) 14 0 x y = rot A 14 0 x y :=
  rot_low 14 0 x y (by simp only [Nat.reducePow]; omega)
theorem qt_add (p : Nat) : ∀ (q : Nat) (x y : Int), qt (q + p) x y = qt p (qt q x y).1 (qt q x y).2 := by
  intro q
  induction q with
  | zero => intro x y; rw [Nat.zero_add]; rfl
  | succ q ih => intro x y; rw [show q + 1 + p = q + p + 1 by omega]; exact ih (-y) x
theorem qt_mod (q : Nat) (x y : Int) : qt (q % 4) x y = qt q x y := by
  have four : ∀ x y, qt 4 x y = (x, y) := fun x y => by
    show (- -x, - -y) = (x, y)
    rw [Int.neg_neg, Int.neg_neg]
  have many : ∀ n r x y, qt (4 * n + r) x y = qt r x y := by
    intro n
    induction n with
    | zero => intro r x y; rw [Nat.mul_zero, Nat.zero_add]
    | succ n ih => intro r x y; rw [show 4 * (n + 1) + r = 4 + (4 * n + r) by omega, qt_add, four]; exact ih r x y
  rw [← many (q / 4) (q % 4) x y, show 4 * (q / 4) + q % 4 = q by omega]
theorem quarter_more (A q : Nat) (_hA : A < 65536) (x y : Int) : rx ((A + 16384 * q) % 65536) x y = (qt q (rx A x y) (ry A x y)).1 ∧ ry ((A + 16384 * q) % 65536) x y = (qt q (rx A x y) (ry A x y)).2 ∧ re ((A + 16384 * q) % 65536) x y = re A x y := by
  unfold rx ry re
  rw [rot_quarter, ← qt_add, show (A + 16384 * q) % 65536 / 16384 = (A / 16384 + q) % 4 by omega, qt_mod]
  exact ⟨rfl, rfl, rfl⟩
theorem ang_add (n : Int) (q : Nat) : ang (n + 16384 * (q : Int)) = (ang n + 16384 * q) % 65536 := by unfold ang; omega
theorem turnQuarters_walk (n vx_ vy_ : Int) (n0 : -2147483648 ≤ n) (n1 : n < 2147483648) (hvx : Fx vx_) (hvy : Fx vy_) (w : World) :
    Calls Try.prog 4 #[.int .i32 n, vec vx_ vy_] w fun e w' => e = .returned (.bool true) ∧ Below w.heap.size w w' := by
  have O0 := of_any n; have O1 := of_any (n + 16384); have O2 := of_any (n + 32768); have O4 := of_any (n + 65536); have O5 := of_any (n - 65536)
  have hA := ang_lt n
  have a1 : ang (n + 16384) = (ang n + 16384 * 1) % 65536 := ang_add n 1
  have a2 : ang (n + 32768) = (ang n + 16384 * 2) % 65536 := ang_add n 2
  have a4 : ang (n + 65536) = ang n := by unfold ang; omega
  have a5 : ang (n - 65536) = ang n := by unfold ang; omega
  have P1 : My 18446744073709551616 := by unfold My; omega
  have P0 : My 0 := by unfold My; omega
  obtain ⟨m1, m2⟩ := r_my (ang n) P1 P0
  obtain ⟨q1, q2, _⟩ := quarter_more (ang n) 1 hA 18446744073709551616 0
  obtain ⟨q3, q4, _⟩ := quarter_more (ang n) 2 hA 18446744073709551616 0
  rw [a1, q1, q2] at O1
  rw [a2, q3, q4] at O2
  rw [a4] at O4
  rw [a5] at O5
  have N1 := rneg_any _ m2
  have N2 := rnegvec_any _ _ m1 m2
  have W0 : IntKind.i64.wrap n = n := IntWalk.i64_in _ (by omega)
  have W1 : IntKind.i64.wrap (n + 16384) = n + 16384 := IntWalk.i64_in _ (by omega)
  have W2 : IntKind.i64.wrap (n + 32768) = n + 32768 := IntWalk.i64_in _ (by omega)
  have W4 : IntKind.i64.wrap (n + 65536) = n + 65536 := IntWalk.i64_in _ (by omega)
  have W5 : IntKind.i64.wrap (n - 65536) = n - 65536 := IntWalk.i64_in _ (by omega)
  by_cases mv : My vx_ ∧ My vy_
  · obtain ⟨h1, h2⟩ := mv
    have R1 := rotate_any n vx_ vy_ h1 h2
    have R2 := rotate_any (n + 32768) vx_ vy_ h1 h2
    have R3 := rotate_any 65536 vx_ vy_ h1 h2
    obtain ⟨p1, p2, p3⟩ := quarter_more (ang n) 2 hA vx_ vy_
    obtain ⟨z1, z2, z3⟩ := r_whole (A := ang 65536) (by decide) vx_ vy_
    rw [a2, p1, p2, p3] at R2
    rw [show ang 65536 / 16384 = 0 by decide] at z1 z2
    rw [z1, z2, z3] at R3
    obtain ⟨r1, r2⟩ := r_my (ang n) h1 h2
    exact turnQuarters_core _ _ _ _ _ _ _ _ _ _ _ _ _ _ _ _ _ _ _ _ _ _ n _ _ _ _ _ W0 W1 W2 W4 W5 w O0 O1 N1 O2 N2 O4 O5 (rmv_true h1 h2) R1 R2 R3 (rnegvec_any _ _ r1 r2) (num_any 0) tawake_any
  · exact turnQuarters_out _ _ _ _ _ _ _ _ _ _ _ _ _ _ n _ _ _ _ W0 W1 W2 W4 W5 w O0 O1 N1 O2 N2 O4 O5 (rmv_false hvx hvy mv) tawake_any
theorem wf_i32 {n : Int} (h : (Lit.int .i32 n).wf = true) : -2147483648 ≤ n ∧ n < 2147483648 := by
  simp [Lit.wf, IntKind.min, IntKind.max, IntKind.bits, IntKind.signed] at h; omega
open Go.ChangeShapes Go.WideShapes Go.ChangeAt Go.RowKit Go.Joins
set_option maxRecDepth 100000 in
theorem turnQuarters_lifted (os : Os) (started : os.Started) (H : Type) (enc : TypeId × Value → H) :
    ReturnsInHanded {} Try.checked os 4 .any (Rows.turnQuartersSpec.pre6 enc Try.prog Try.f4 Rows.turnQuartersRow.domain false) (Rows.turnQuartersSpec.post enc Try.prog Try.f4 false true false false) := by
  refine returnsInHanded_of_change (C := Try.checked) Try.own started (by kernel_rfl) Try.func4
    (ChangeSpec.witness6 (enc := enc) (C := Try.checked) false ⟨#[], #[.int .i32 0, .agg #[.int .i64 0, .int .u64 0, .int .i64 0, .int .u64 0]], []⟩ 8 (by kernel_rfl) (by kernel_rfl) (by kernel_rfl) (by kernel_rfl)) ?_
  intro W base args ds gs before hval0 hW hcnd _
  have hval : ∀ (j : Nat) t v, Try.f4.params[j]? = some t → args[j]? = some v → Value.okWide Try.prog W .any base t v := hval0
  have hW' := hW
  obtain ⟨p, q, hA0, hV, rfl, hfz, hnd⟩ := hW
  have hA : DataW.TrodAll enc Try.prog W 0 (fun _ => true) true Try.f4.params.toList args.toList ds p := hA0
  rw [Try.params4] at hA hval
  obtain ⟨v0, v1, d0, d1, p0, p1, rfl, rfl, rfl, h0, h1⟩ := trodAll_two hA
  obtain ⟨rfl, rfl⟩ := trodVars_none hV
  obtain ⟨n, rfl, rfl, rfl, k00⟩ := open_int Try.underlying21 (hval 0 21 v0 rfl rfl) h0
  obtain ⟨vx_, vy_, rfl, rfl, rfl, k10, k11⟩ := open_vec (hval 1 26 v1 rfl rfl) h1
  clear hA0 hval0
  simp only [List.append_nil] at hW'
  refine (turnQuarters_walk n vx_ vy_ (wf_i32 k00).1 (wf_i32 k00).2 k10 k11 W).mono fun e W' ⟨he, hb⟩ => ?_
  subst he
  exact ⟨_, rfl, _, _, _, [], [], [], hW', trodAll_mk1 (shut_bool Try.underlying4 _), trodAll_mk2 (shut_int Try.underlying21 k00) (shut_vec k10 k11), rfl, hb.frame _, fun h => by cases h⟩
theorem turnQuarters_holds : Rows.TurnQuartersSaid :=
  OpenClaim.holds_of_wide 4 Try.f4 rfl rfl rfl rfl rfl rfl rfl ⟨rfl, rfl, rfl, rfl, rfl⟩ rfl rfl rfl rfl rfl (by kernel_rfl) Try.func4 (by kernel_rfl)
    (of_decide_eq_true (by kernel_rfl)) (by unfold Func.isWrapper; first | (rw [if_pos (by decide +kernel)]; kernel_rfl) | (rw [if_neg (by decide +kernel)]; exact ⟨rfl, rfl⟩))
    (fun os started H enc _ => turnQuarters_lifted os started H enc)
end Go.Proofs.Ytmelipbanbihdaa
