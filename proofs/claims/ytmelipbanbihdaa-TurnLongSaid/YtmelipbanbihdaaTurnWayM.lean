/- A way turned by an angle: the package's walk. -/
import Derived.Test.YtmelipbanbihdaaTurnBaseM
namespace Go.Proofs.Ytmelipbanbihdaa
open Go.RowKit
set_option maxRecDepth 20000 in
set_option maxHeartbeats 60000000 in
theorem turned_ok (axh axl ayh ayl bxh bxl byh byl m1h m1l m2h m2l m3h m3l m4h m4l ph pl qh ql e1 e2 e3 e4 e5 e6 : Int) (hf : first6 e1 e2 e3 e4 e5 e6 = 0) (w : World)
    (C1 : ∀ W, Calls Try.prog 48 #[.agg #[.int .i64 axh, .int .u64 axl], .agg #[.int .i64 bxh, .int .u64 bxl]] W fun e w' => e = .returned (.tuple #[.agg #[.int .i64 m1h, .int .u64 m1l], .int .i64 e1]) ∧ Below W.heap.size W w')
    (C2 : ∀ W, Calls Try.prog 48 #[.agg #[.int .i64 ayh, .int .u64 ayl], .agg #[.int .i64 byh, .int .u64 byl]] W fun e w' => e = .returned (.tuple #[.agg #[.int .i64 m2h, .int .u64 m2l], .int .i64 e2]) ∧ Below W.heap.size W w')
    (C3 : ∀ W, Calls Try.prog 48 #[.agg #[.int .i64 axh, .int .u64 axl], .agg #[.int .i64 byh, .int .u64 byl]] W fun e w' => e = .returned (.tuple #[.agg #[.int .i64 m3h, .int .u64 m3l], .int .i64 e3]) ∧ Below W.heap.size W w')
    (C4 : ∀ W, Calls Try.prog 48 #[.agg #[.int .i64 ayh, .int .u64 ayl], .agg #[.int .i64 bxh, .int .u64 bxl]] W fun e w' => e = .returned (.tuple #[.agg #[.int .i64 m4h, .int .u64 m4l], .int .i64 e4]) ∧ Below W.heap.size W w')
    (C5 : ∀ W, Calls Try.prog 45 #[.agg #[.int .i64 m1h, .int .u64 m1l], .agg #[.int .i64 m2h, .int .u64 m2l]] W fun e w' => e = .returned (.tuple #[.agg #[.int .i64 ph, .int .u64 pl], .int .i64 e5]) ∧ Below W.heap.size W w')
    (C6 : ∀ W, Calls Try.prog 44 #[.agg #[.int .i64 m3h, .int .u64 m3l], .agg #[.int .i64 m4h, .int .u64 m4l]] W fun e w' => e = .returned (.tuple #[.agg #[.int .i64 qh, .int .u64 ql], .int .i64 e6]) ∧ Below W.heap.size W w') :
    Calls Try.prog 33 #[.agg #[.int .i64 axh, .int .u64 axl, .int .i64 ayh, .int .u64 ayl], .agg #[.int .i64 bxh, .int .u64 bxl, .int .i64 byh, .int .u64 byl]] w fun e w' => e = .returned (.tuple #[.agg #[.int .i64 ph, .int .u64 pl, .int .i64 qh, .int .u64 ql], .int .i64 0]) ∧ Below w.heap.size w w' := by
  have K1 := Lib.hid C1; have K2 := Lib.hid C2; have K3 := Lib.hid C3; have K4 := Lib.hid C4; have K5 := Lib.hid C5; have K6 := Lib.hid C6
  clear C1 C2 C3 C4 C5 C6
  have HO := Lib.hid (or6_any e1 e2 e3 e4 e5 e6)
  generalize first6 e1 e2 e3 e4 e5 e6 = g at *
  subst hf
  go_enter Try.func33, Try.ntmps33
  go_wp2_with fail
  (with_reducible refine (K1.out _).mono ?_); rintro e w1 ⟨rfl, hb⟩
  obtain ⟨hcl, hfr⟩ := bcell hb
  have zw1_a : w.heap.size < w1.heap.size := by have hz := hb.size; (try simp at hz); omega
  have cw1_a_0 : w1.cell? ⟨w.heap.size, 0, none⟩ = some (.int .i64 axh) := by rw [hcl _ _ (by first | omega | (simp; done) | (simp; omega))]; simp [go_sem, *]
  have cw1_a_1 : w1.cell? ⟨w.heap.size, 1, none⟩ = some (.int .u64 axl) := by rw [hcl _ _ (by first | omega | (simp; done) | (simp; omega))]; simp [go_sem, *]
  have cw1_a_2 : w1.cell? ⟨w.heap.size, 2, none⟩ = some (.int .i64 ayh) := by rw [hcl _ _ (by first | omega | (simp; done) | (simp; omega))]; simp [go_sem, *]
  have cw1_a_3 : w1.cell? ⟨w.heap.size, 3, none⟩ = some (.int .u64 ayl) := by rw [hcl _ _ (by first | omega | (simp; done) | (simp; omega))]; simp [go_sem, *]
  have zw1_b : w.heap.size + 1 < w1.heap.size := by have hz := hb.size; (try simp at hz); omega
  have cw1_b_0 : w1.cell? ⟨w.heap.size + 1, 0, none⟩ = some (.int .i64 bxh) := by rw [hcl _ _ (by first | omega | (simp; done) | (simp; omega))]; simp [go_sem, *]
  have cw1_b_1 : w1.cell? ⟨w.heap.size + 1, 1, none⟩ = some (.int .u64 bxl) := by rw [hcl _ _ (by first | omega | (simp; done) | (simp; omega))]; simp [go_sem, *]
  have cw1_b_2 : w1.cell? ⟨w.heap.size + 1, 2, none⟩ = some (.int .i64 byh) := by rw [hcl _ _ (by first | omega | (simp; done) | (simp; omega))]; simp [go_sem, *]
  have cw1_b_3 : w1.cell? ⟨w.heap.size + 1, 3, none⟩ = some (.int .u64 byl) := by rw [hcl _ _ (by first | omega | (simp; done) | (simp; omega))]; simp [go_sem, *]
  have zw1_r : w.heap.size + 1 + 1 < w1.heap.size := by have hz := hb.size; (try simp at hz); omega
  have cw1_r_0 : w1.cell? ⟨w.heap.size + 1 + 1, 0, none⟩ = some (.int .i64 0) := by rw [hcl _ _ (by first | omega | (simp; done) | (simp; omega))]; simp [go_sem, *]
  have cw1_r_1 : w1.cell? ⟨w.heap.size + 1 + 1, 1, none⟩ = some (.int .u64 0) := by rw [hcl _ _ (by first | omega | (simp; done) | (simp; omega))]; simp [go_sem, *]
  have cw1_r_2 : w1.cell? ⟨w.heap.size + 1 + 1, 2, none⟩ = some (.int .i64 0) := by rw [hcl _ _ (by first | omega | (simp; done) | (simp; omega))]; simp [go_sem, *]
  have cw1_r_3 : w1.cell? ⟨w.heap.size + 1 + 1, 3, none⟩ = some (.int .u64 0) := by rw [hcl _ _ (by first | omega | (simp; done) | (simp; omega))]; simp [go_sem, *]
  have fw1_r : ∀ j, w1.frozen? ⟨w.heap.size + 1 + 1, j, none⟩ = false := fun j => by rw [hfr _ _ (by first | omega | (simp; done) | (simp; omega))]; first | (simp [go_sem, *]; done) | (simp only [frozen?_alloc_cells]; simp [World.frozen?, *]; done) | (simp [frozen?_alloc_cells, World.frozen?, *]; done)
  have HBw1 : Hid (Below w.heap.size w w1) := bl_trans (by repeat (first | with_reducible exact Below.refl _ _ | with_reducible exact Hid.out (by assumption) | with_reducible refine Below.setCell ?_ (by first | (simp; done) | omega | (simp <;> omega)) _ | with_reducible refine bl_al ?_ _ | with_reducible apply Below.drew)) hb
  clear hb hcl hfr
  go_wp2_with fail
  (with_reducible refine (K2.out _).mono ?_); rintro e w2 ⟨rfl, hb⟩
  obtain ⟨hcl, hfr⟩ := bcell hb
  have zw2_a : w.heap.size < w2.heap.size := by have hz := hb.size; (try simp at hz); omega
  have cw2_a_0 : w2.cell? ⟨w.heap.size, 0, none⟩ = some (.int .i64 axh) := by rw [hcl _ _ (by first | omega | (simp; done) | (simp; omega))]; simp [go_sem, *]
  have cw2_a_1 : w2.cell? ⟨w.heap.size, 1, none⟩ = some (.int .u64 axl) := by rw [hcl _ _ (by first | omega | (simp; done) | (simp; omega))]; simp [go_sem, *]
  have cw2_a_2 : w2.cell? ⟨w.heap.size, 2, none⟩ = some (.int .i64 ayh) := by rw [hcl _ _ (by first | omega | (simp; done) | (simp; omega))]; simp [go_sem, *]
  have cw2_a_3 : w2.cell? ⟨w.heap.size, 3, none⟩ = some (.int .u64 ayl) := by rw [hcl _ _ (by first | omega | (simp; done) | (simp; omega))]; simp [go_sem, *]
  have zw2_b : w.heap.size + 1 < w2.heap.size := by have hz := hb.size; (try simp at hz); omega
  have cw2_b_0 : w2.cell? ⟨w.heap.size + 1, 0, none⟩ = some (.int .i64 bxh) := by rw [hcl _ _ (by first | omega | (simp; done) | (simp; omega))]; simp [go_sem, *]
  have cw2_b_1 : w2.cell? ⟨w.heap.size + 1, 1, none⟩ = some (.int .u64 bxl) := by rw [hcl _ _ (by first | omega | (simp; done) | (simp; omega))]; simp [go_sem, *]
  have cw2_b_2 : w2.cell? ⟨w.heap.size + 1, 2, none⟩ = some (.int .i64 byh) := by rw [hcl _ _ (by first | omega | (simp; done) | (simp; omega))]; simp [go_sem, *]
  have cw2_b_3 : w2.cell? ⟨w.heap.size + 1, 3, none⟩ = some (.int .u64 byl) := by rw [hcl _ _ (by first | omega | (simp; done) | (simp; omega))]; simp [go_sem, *]
  have zw2_r : w.heap.size + 1 + 1 < w2.heap.size := by have hz := hb.size; (try simp at hz); omega
  have cw2_r_0 : w2.cell? ⟨w.heap.size + 1 + 1, 0, none⟩ = some (.int .i64 0) := by rw [hcl _ _ (by first | omega | (simp; done) | (simp; omega))]; simp [go_sem, *]
  have cw2_r_1 : w2.cell? ⟨w.heap.size + 1 + 1, 1, none⟩ = some (.int .u64 0) := by rw [hcl _ _ (by first | omega | (simp; done) | (simp; omega))]; simp [go_sem, *]
  have cw2_r_2 : w2.cell? ⟨w.heap.size + 1 + 1, 2, none⟩ = some (.int .i64 0) := by rw [hcl _ _ (by first | omega | (simp; done) | (simp; omega))]; simp [go_sem, *]
  have cw2_r_3 : w2.cell? ⟨w.heap.size + 1 + 1, 3, none⟩ = some (.int .u64 0) := by rw [hcl _ _ (by first | omega | (simp; done) | (simp; omega))]; simp [go_sem, *]
  have fw2_r : ∀ j, w2.frozen? ⟨w.heap.size + 1 + 1, j, none⟩ = false := fun j => by rw [hfr _ _ (by first | omega | (simp; done) | (simp; omega))]; first | (simp [go_sem, *]; done) | (simp only [frozen?_alloc_cells]; simp [World.frozen?, *]; done) | (simp [frozen?_alloc_cells, World.frozen?, *]; done)
  have zw2_m1 : w1.heap.size < w2.heap.size := by have hz := hb.size; (try simp at hz); omega
  have cw2_m1_0 : w2.cell? ⟨w1.heap.size, 0, none⟩ = some (.int .i64 m1h) := by rw [hcl _ _ (by first | omega | (simp; done) | (simp; omega))]; simp [go_sem, *]
  have cw2_m1_1 : w2.cell? ⟨w1.heap.size, 1, none⟩ = some (.int .u64 m1l) := by rw [hcl _ _ (by first | omega | (simp; done) | (simp; omega))]; simp [go_sem, *]
  have HBw2 : Hid (Below w.heap.size w w2) := bl_trans (by repeat (first | with_reducible exact Below.refl _ _ | with_reducible exact Hid.out (by assumption) | with_reducible refine Below.setCell ?_ (by first | (simp; done) | omega | (simp <;> omega)) _ | with_reducible refine bl_al ?_ _ | with_reducible apply Below.drew)) hb
  clear hb hcl hfr
  go_wp2_with fail
  (with_reducible refine (K3.out _).mono ?_); rintro e w3 ⟨rfl, hb⟩
  obtain ⟨hcl, hfr⟩ := bcell hb
  have zw3_a : w.heap.size < w3.heap.size := by have hz := hb.size; (try simp at hz); omega
  have cw3_a_0 : w3.cell? ⟨w.heap.size, 0, none⟩ = some (.int .i64 axh) := by rw [hcl _ _ (by first | omega | (simp; done) | (simp; omega))]; simp [go_sem, *]
  have cw3_a_1 : w3.cell? ⟨w.heap.size, 1, none⟩ = some (.int .u64 axl) := by rw [hcl _ _ (by first | omega | (simp; done) | (simp; omega))]; simp [go_sem, *]
  have cw3_a_2 : w3.cell? ⟨w.heap.size, 2, none⟩ = some (.int .i64 ayh) := by rw [hcl _ _ (by first | omega | (simp; done) | (simp; omega))]; simp [go_sem, *]
  have cw3_a_3 : w3.cell? ⟨w.heap.size, 3, none⟩ = some (.int .u64 ayl) := by rw [hcl _ _ (by first | omega | (simp; done) | (simp; omega))]; simp [go_sem, *]
  have zw3_b : w.heap.size + 1 < w3.heap.size := by have hz := hb.size; (try simp at hz); omega
  have cw3_b_0 : w3.cell? ⟨w.heap.size + 1, 0, none⟩ = some (.int .i64 bxh) := by rw [hcl _ _ (by first | omega | (simp; done) | (simp; omega))]; simp [go_sem, *]
  have cw3_b_1 : w3.cell? ⟨w.heap.size + 1, 1, none⟩ = some (.int .u64 bxl) := by rw [hcl _ _ (by first | omega | (simp; done) | (simp; omega))]; simp [go_sem, *]
  have cw3_b_2 : w3.cell? ⟨w.heap.size + 1, 2, none⟩ = some (.int .i64 byh) := by rw [hcl _ _ (by first | omega | (simp; done) | (simp; omega))]; simp [go_sem, *]
  have cw3_b_3 : w3.cell? ⟨w.heap.size + 1, 3, none⟩ = some (.int .u64 byl) := by rw [hcl _ _ (by first | omega | (simp; done) | (simp; omega))]; simp [go_sem, *]
  have zw3_r : w.heap.size + 1 + 1 < w3.heap.size := by have hz := hb.size; (try simp at hz); omega
  have cw3_r_0 : w3.cell? ⟨w.heap.size + 1 + 1, 0, none⟩ = some (.int .i64 0) := by rw [hcl _ _ (by first | omega | (simp; done) | (simp; omega))]; simp [go_sem, *]
  have cw3_r_1 : w3.cell? ⟨w.heap.size + 1 + 1, 1, none⟩ = some (.int .u64 0) := by rw [hcl _ _ (by first | omega | (simp; done) | (simp; omega))]; simp [go_sem, *]
  have cw3_r_2 : w3.cell? ⟨w.heap.size + 1 + 1, 2, none⟩ = some (.int .i64 0) := by rw [hcl _ _ (by first | omega | (simp; done) | (simp; omega))]; simp [go_sem, *]
  have cw3_r_3 : w3.cell? ⟨w.heap.size + 1 + 1, 3, none⟩ = some (.int .u64 0) := by rw [hcl _ _ (by first | omega | (simp; done) | (simp; omega))]; simp [go_sem, *]
  have fw3_r : ∀ j, w3.frozen? ⟨w.heap.size + 1 + 1, j, none⟩ = false := fun j => by rw [hfr _ _ (by first | omega | (simp; done) | (simp; omega))]; first | (simp [go_sem, *]; done) | (simp only [frozen?_alloc_cells]; simp [World.frozen?, *]; done) | (simp [frozen?_alloc_cells, World.frozen?, *]; done)
  have zw3_m1 : w1.heap.size < w3.heap.size := by have hz := hb.size; (try simp at hz); omega
  have cw3_m1_0 : w3.cell? ⟨w1.heap.size, 0, none⟩ = some (.int .i64 m1h) := by rw [hcl _ _ (by first | omega | (simp; done) | (simp; omega))]; simp [go_sem, *]
  have cw3_m1_1 : w3.cell? ⟨w1.heap.size, 1, none⟩ = some (.int .u64 m1l) := by rw [hcl _ _ (by first | omega | (simp; done) | (simp; omega))]; simp [go_sem, *]
  have zw3_m2 : w2.heap.size < w3.heap.size := by have hz := hb.size; (try simp at hz); omega
  have cw3_m2_0 : w3.cell? ⟨w2.heap.size, 0, none⟩ = some (.int .i64 m2h) := by rw [hcl _ _ (by first | omega | (simp; done) | (simp; omega))]; simp [go_sem, *]
  have cw3_m2_1 : w3.cell? ⟨w2.heap.size, 1, none⟩ = some (.int .u64 m2l) := by rw [hcl _ _ (by first | omega | (simp; done) | (simp; omega))]; simp [go_sem, *]
  have HBw3 : Hid (Below w.heap.size w w3) := bl_trans (by repeat (first | with_reducible exact Below.refl _ _ | with_reducible exact Hid.out (by assumption) | with_reducible refine Below.setCell ?_ (by first | (simp; done) | omega | (simp <;> omega)) _ | with_reducible refine bl_al ?_ _ | with_reducible apply Below.drew)) hb
  clear hb hcl hfr
  go_wp2_with fail
  (with_reducible refine (K4.out _).mono ?_); rintro e w4 ⟨rfl, hb⟩
  obtain ⟨hcl, hfr⟩ := bcell hb
  have zw4_r : w.heap.size + 1 + 1 < w4.heap.size := by have hz := hb.size; (try simp at hz); omega
  have cw4_r_0 : w4.cell? ⟨w.heap.size + 1 + 1, 0, none⟩ = some (.int .i64 0) := by rw [hcl _ _ (by first | omega | (simp; done) | (simp; omega))]; simp [go_sem, *]
  have cw4_r_1 : w4.cell? ⟨w.heap.size + 1 + 1, 1, none⟩ = some (.int .u64 0) := by rw [hcl _ _ (by first | omega | (simp; done) | (simp; omega))]; simp [go_sem, *]
  have cw4_r_2 : w4.cell? ⟨w.heap.size + 1 + 1, 2, none⟩ = some (.int .i64 0) := by rw [hcl _ _ (by first | omega | (simp; done) | (simp; omega))]; simp [go_sem, *]
  have cw4_r_3 : w4.cell? ⟨w.heap.size + 1 + 1, 3, none⟩ = some (.int .u64 0) := by rw [hcl _ _ (by first | omega | (simp; done) | (simp; omega))]; simp [go_sem, *]
  have fw4_r : ∀ j, w4.frozen? ⟨w.heap.size + 1 + 1, j, none⟩ = false := fun j => by rw [hfr _ _ (by first | omega | (simp; done) | (simp; omega))]; first | (simp [go_sem, *]; done) | (simp only [frozen?_alloc_cells]; simp [World.frozen?, *]; done) | (simp [frozen?_alloc_cells, World.frozen?, *]; done)
  have zw4_m1 : w1.heap.size < w4.heap.size := by have hz := hb.size; (try simp at hz); omega
  have cw4_m1_0 : w4.cell? ⟨w1.heap.size, 0, none⟩ = some (.int .i64 m1h) := by rw [hcl _ _ (by first | omega | (simp; done) | (simp; omega))]; simp [go_sem, *]
  have cw4_m1_1 : w4.cell? ⟨w1.heap.size, 1, none⟩ = some (.int .u64 m1l) := by rw [hcl _ _ (by first | omega | (simp; done) | (simp; omega))]; simp [go_sem, *]
  have zw4_m2 : w2.heap.size < w4.heap.size := by have hz := hb.size; (try simp at hz); omega
  have cw4_m2_0 : w4.cell? ⟨w2.heap.size, 0, none⟩ = some (.int .i64 m2h) := by rw [hcl _ _ (by first | omega | (simp; done) | (simp; omega))]; simp [go_sem, *]
  have cw4_m2_1 : w4.cell? ⟨w2.heap.size, 1, none⟩ = some (.int .u64 m2l) := by rw [hcl _ _ (by first | omega | (simp; done) | (simp; omega))]; simp [go_sem, *]
  have zw4_m3 : w3.heap.size < w4.heap.size := by have hz := hb.size; (try simp at hz); omega
  have cw4_m3_0 : w4.cell? ⟨w3.heap.size, 0, none⟩ = some (.int .i64 m3h) := by rw [hcl _ _ (by first | omega | (simp; done) | (simp; omega))]; simp [go_sem, *]
  have cw4_m3_1 : w4.cell? ⟨w3.heap.size, 1, none⟩ = some (.int .u64 m3l) := by rw [hcl _ _ (by first | omega | (simp; done) | (simp; omega))]; simp [go_sem, *]
  have HBw4 : Hid (Below w.heap.size w w4) := bl_trans (by repeat (first | with_reducible exact Below.refl _ _ | with_reducible exact Hid.out (by assumption) | with_reducible refine Below.setCell ?_ (by first | (simp; done) | omega | (simp <;> omega)) _ | with_reducible refine bl_al ?_ _ | with_reducible apply Below.drew)) hb
  clear hb hcl hfr
  go_wp2_with fail
  (with_reducible refine (K5.out _).mono ?_); rintro e w5 ⟨rfl, hb⟩
  obtain ⟨hcl, hfr⟩ := bcell hb
  have zw5_r : w.heap.size + 1 + 1 < w5.heap.size := by have hz := hb.size; (try simp at hz); omega
  have cw5_r_0 : w5.cell? ⟨w.heap.size + 1 + 1, 0, none⟩ = some (.int .i64 0) := by rw [hcl _ _ (by first | omega | (simp; done) | (simp; omega))]; simp [go_sem, *]
  have cw5_r_1 : w5.cell? ⟨w.heap.size + 1 + 1, 1, none⟩ = some (.int .u64 0) := by rw [hcl _ _ (by first | omega | (simp; done) | (simp; omega))]; simp [go_sem, *]
  have cw5_r_2 : w5.cell? ⟨w.heap.size + 1 + 1, 2, none⟩ = some (.int .i64 0) := by rw [hcl _ _ (by first | omega | (simp; done) | (simp; omega))]; simp [go_sem, *]
  have cw5_r_3 : w5.cell? ⟨w.heap.size + 1 + 1, 3, none⟩ = some (.int .u64 0) := by rw [hcl _ _ (by first | omega | (simp; done) | (simp; omega))]; simp [go_sem, *]
  have fw5_r : ∀ j, w5.frozen? ⟨w.heap.size + 1 + 1, j, none⟩ = false := fun j => by rw [hfr _ _ (by first | omega | (simp; done) | (simp; omega))]; first | (simp [go_sem, *]; done) | (simp only [frozen?_alloc_cells]; simp [World.frozen?, *]; done) | (simp [frozen?_alloc_cells, World.frozen?, *]; done)
  have zw5_m3 : w3.heap.size < w5.heap.size := by have hz := hb.size; (try simp at hz); omega
  have cw5_m3_0 : w5.cell? ⟨w3.heap.size, 0, none⟩ = some (.int .i64 m3h) := by rw [hcl _ _ (by first | omega | (simp; done) | (simp; omega))]; simp [go_sem, *]
  have cw5_m3_1 : w5.cell? ⟨w3.heap.size, 1, none⟩ = some (.int .u64 m3l) := by rw [hcl _ _ (by first | omega | (simp; done) | (simp; omega))]; simp [go_sem, *]
  have zw5_m4 : w4.heap.size < w5.heap.size := by have hz := hb.size; (try simp at hz); omega
  have cw5_m4_0 : w5.cell? ⟨w4.heap.size, 0, none⟩ = some (.int .i64 m4h) := by rw [hcl _ _ (by first | omega | (simp; done) | (simp; omega))]; simp [go_sem, *]
  have cw5_m4_1 : w5.cell? ⟨w4.heap.size, 1, none⟩ = some (.int .u64 m4l) := by rw [hcl _ _ (by first | omega | (simp; done) | (simp; omega))]; simp [go_sem, *]
  have HBw5 : Hid (Below w.heap.size w w5) := bl_trans (by repeat (first | with_reducible exact Below.refl _ _ | with_reducible exact Hid.out (by assumption) | with_reducible refine Below.setCell ?_ (by first | (simp; done) | omega | (simp <;> omega)) _ | with_reducible refine bl_al ?_ _ | with_reducible apply Below.drew)) hb
  clear hb hcl hfr
  go_wp2_with fail
  (with_reducible refine (K6.out _).mono ?_); rintro e w6 ⟨rfl, hb⟩
  obtain ⟨hcl, hfr⟩ := bcell hb
  have zw6_r : w.heap.size + 1 + 1 < w6.heap.size := by have hz := hb.size; (try simp at hz); omega
  have cw6_r_0 : w6.cell? ⟨w.heap.size + 1 + 1, 0, none⟩ = some (.int .i64 0) := by rw [hcl _ _ (by first | omega | (simp; done) | (simp; omega))]; simp [go_sem, *]
  have cw6_r_1 : w6.cell? ⟨w.heap.size + 1 + 1, 1, none⟩ = some (.int .u64 0) := by rw [hcl _ _ (by first | omega | (simp; done) | (simp; omega))]; simp [go_sem, *]
  have cw6_r_2 : w6.cell? ⟨w.heap.size + 1 + 1, 2, none⟩ = some (.int .i64 0) := by rw [hcl _ _ (by first | omega | (simp; done) | (simp; omega))]; simp [go_sem, *]
  have cw6_r_3 : w6.cell? ⟨w.heap.size + 1 + 1, 3, none⟩ = some (.int .u64 0) := by rw [hcl _ _ (by first | omega | (simp; done) | (simp; omega))]; simp [go_sem, *]
  have fw6_r : ∀ j, w6.frozen? ⟨w.heap.size + 1 + 1, j, none⟩ = false := fun j => by rw [hfr _ _ (by first | omega | (simp; done) | (simp; omega))]; first | (simp [go_sem, *]; done) | (simp only [frozen?_alloc_cells]; simp [World.frozen?, *]; done) | (simp [frozen?_alloc_cells, World.frozen?, *]; done)
  have zw6_p : w5.heap.size < w6.heap.size := by have hz := hb.size; (try simp at hz); omega
  have cw6_p_0 : w6.cell? ⟨w5.heap.size, 0, none⟩ = some (.int .i64 ph) := by rw [hcl _ _ (by first | omega | (simp; done) | (simp; omega))]; simp [go_sem, *]
  have cw6_p_1 : w6.cell? ⟨w5.heap.size, 1, none⟩ = some (.int .u64 pl) := by rw [hcl _ _ (by first | omega | (simp; done) | (simp; omega))]; simp [go_sem, *]
  have HBw6 : Hid (Below w.heap.size w w6) := bl_trans (by repeat (first | with_reducible exact Below.refl _ _ | with_reducible exact Hid.out (by assumption) | with_reducible refine Below.setCell ?_ (by first | (simp; done) | omega | (simp <;> omega)) _ | with_reducible refine bl_al ?_ _ | with_reducible apply Below.drew)) hb
  clear hb hcl hfr
  go_upto_region 7 with fail
  refine name_world (P := fun W => Code.wp _ _ _ _ W) _ (fun R hR => ?_)
  have zR_r : w.heap.size + 1 + 1 < R.heap.size := by rw [hR]; first | omega | (simp; done) | (simp; omega)
  have cR_r_0 : R.cell? ⟨w.heap.size + 1 + 1, 0, none⟩ = some (.int .i64 0) := by rw [hR]; simp [go_sem, *]
  have cR_r_1 : R.cell? ⟨w.heap.size + 1 + 1, 1, none⟩ = some (.int .u64 0) := by rw [hR]; simp [go_sem, *]
  have cR_r_2 : R.cell? ⟨w.heap.size + 1 + 1, 2, none⟩ = some (.int .i64 0) := by rw [hR]; simp [go_sem, *]
  have cR_r_3 : R.cell? ⟨w.heap.size + 1 + 1, 3, none⟩ = some (.int .u64 0) := by rw [hR]; simp [go_sem, *]
  have fR_r : ∀ j, R.frozen? ⟨w.heap.size + 1 + 1, j, none⟩ = false := fun j => by rw [hR]; first | (simp [go_sem, *]; done) | (simp only [frozen?_alloc_cells]; simp [World.frozen?, *]; done) | (simp [frozen?_alloc_cells, World.frozen?, *]; done)
  have zR_p : w5.heap.size < R.heap.size := by rw [hR]; first | omega | (simp; done) | (simp; omega)
  have cR_p_0 : R.cell? ⟨w5.heap.size, 0, none⟩ = some (.int .i64 ph) := by rw [hR]; simp [go_sem, *]
  have cR_p_1 : R.cell? ⟨w5.heap.size, 1, none⟩ = some (.int .u64 pl) := by rw [hR]; simp [go_sem, *]
  have zR_q : w6.heap.size < R.heap.size := by rw [hR]; first | omega | (simp; done) | (simp; omega)
  have cR_q_0 : R.cell? ⟨w6.heap.size, 0, none⟩ = some (.int .i64 qh) := by rw [hR]; simp [go_sem, *]
  have cR_q_1 : R.cell? ⟨w6.heap.size, 1, none⟩ = some (.int .u64 ql) := by rw [hR]; simp [go_sem, *]
  have HBR : Hid (Below w.heap.size w R) := by rw [hR]; show Below _ _ _; exact (by repeat (first | with_reducible exact Below.refl _ _ | with_reducible exact Hid.out (by assumption) | with_reducible refine Below.setCell ?_ (by first | (simp; done) | omega | (simp <;> omega)) _ | with_reducible refine bl_al ?_ _ | with_reducible apply Below.drew))
  clear hR
  go_wp2_with fail
  (with_reducible refine (HO.out _ _ (by simp [go_sem]) (by simp [go_sem]) (by simp [go_sem]) (by simp [go_sem]) (by simp [go_sem]) (by simp [go_sem])).mono ?_); rintro e w7 ⟨rfl, rfl⟩
  go_wp2_with fail
  refine bodyPost_ret (by simp [results, Try.results33, go_sem, *]; try rfl) rfl ?_
  exact ⟨rfl, by repeat (first | with_reducible exact Below.refl _ _ | with_reducible exact Hid.out (by assumption) | with_reducible refine Below.setCell ?_ (by first | (simp; done) | omega | (simp <;> omega)) _ | with_reducible refine bl_al ?_ _ | with_reducible apply Below.drew)⟩
set_option maxRecDepth 20000 in
set_option maxHeartbeats 60000000 in
theorem turned_err (axh axl ayh ayl bxh bxl byh byl m1h m1l m2h m2l m3h m3l m4h m4l ph pl qh ql e1 e2 e3 e4 e5 e6 : Int) (hf : ¬ first6 e1 e2 e3 e4 e5 e6 = 0) (w : World)
    (C1 : ∀ W, Calls Try.prog 48 #[.agg #[.int .i64 axh, .int .u64 axl], .agg #[.int .i64 bxh, .int .u64 bxl]] W fun e w' => e = .returned (.tuple #[.agg #[.int .i64 m1h, .int .u64 m1l], .int .i64 e1]) ∧ Below W.heap.size W w')
    (C2 : ∀ W, Calls Try.prog 48 #[.agg #[.int .i64 ayh, .int .u64 ayl], .agg #[.int .i64 byh, .int .u64 byl]] W fun e w' => e = .returned (.tuple #[.agg #[.int .i64 m2h, .int .u64 m2l], .int .i64 e2]) ∧ Below W.heap.size W w')
    (C3 : ∀ W, Calls Try.prog 48 #[.agg #[.int .i64 axh, .int .u64 axl], .agg #[.int .i64 byh, .int .u64 byl]] W fun e w' => e = .returned (.tuple #[.agg #[.int .i64 m3h, .int .u64 m3l], .int .i64 e3]) ∧ Below W.heap.size W w')
    (C4 : ∀ W, Calls Try.prog 48 #[.agg #[.int .i64 ayh, .int .u64 ayl], .agg #[.int .i64 bxh, .int .u64 bxl]] W fun e w' => e = .returned (.tuple #[.agg #[.int .i64 m4h, .int .u64 m4l], .int .i64 e4]) ∧ Below W.heap.size W w')
    (C5 : ∀ W, Calls Try.prog 45 #[.agg #[.int .i64 m1h, .int .u64 m1l], .agg #[.int .i64 m2h, .int .u64 m2l]] W fun e w' => e = .returned (.tuple #[.agg #[.int .i64 ph, .int .u64 pl], .int .i64 e5]) ∧ Below W.heap.size W w')
    (C6 : ∀ W, Calls Try.prog 44 #[.agg #[.int .i64 m3h, .int .u64 m3l], .agg #[.int .i64 m4h, .int .u64 m4l]] W fun e w' => e = .returned (.tuple #[.agg #[.int .i64 qh, .int .u64 ql], .int .i64 e6]) ∧ Below W.heap.size W w') :
    Calls Try.prog 33 #[.agg #[.int .i64 axh, .int .u64 axl, .int .i64 ayh, .int .u64 ayl], .agg #[.int .i64 bxh, .int .u64 bxl, .int .i64 byh, .int .u64 byl]] w fun e w' => e = .returned (.tuple #[.agg #[.int .i64 0, .int .u64 0, .int .i64 0, .int .u64 0], .int .i64 (first6 e1 e2 e3 e4 e5 e6)]) ∧ Below w.heap.size w w' := by
  have K1 := Lib.hid C1; have K2 := Lib.hid C2; have K3 := Lib.hid C3; have K4 := Lib.hid C4; have K5 := Lib.hid C5; have K6 := Lib.hid C6
  clear C1 C2 C3 C4 C5 C6
  have HO := Lib.hid (or6_any e1 e2 e3 e4 e5 e6)
  generalize first6 e1 e2 e3 e4 e5 e6 = g at *
  go_enter Try.func33, Try.ntmps33
  go_wp2_with fail
  (with_reducible refine (K1.out _).mono ?_); rintro e w1 ⟨rfl, hb⟩
  obtain ⟨hcl, hfr⟩ := bcell hb
  have zw1_a : w.heap.size < w1.heap.size := by have hz := hb.size; (try simp at hz); omega
  have cw1_a_0 : w1.cell? ⟨w.heap.size, 0, none⟩ = some (.int .i64 axh) := by rw [hcl _ _ (by first | omega | (simp; done) | (simp; omega))]; simp [go_sem, *]
  have cw1_a_1 : w1.cell? ⟨w.heap.size, 1, none⟩ = some (.int .u64 axl) := by rw [hcl _ _ (by first | omega | (simp; done) | (simp; omega))]; simp [go_sem, *]
  have cw1_a_2 : w1.cell? ⟨w.heap.size, 2, none⟩ = some (.int .i64 ayh) := by rw [hcl _ _ (by first | omega | (simp; done) | (simp; omega))]; simp [go_sem, *]
  have cw1_a_3 : w1.cell? ⟨w.heap.size, 3, none⟩ = some (.int .u64 ayl) := by rw [hcl _ _ (by first | omega | (simp; done) | (simp; omega))]; simp [go_sem, *]
  have zw1_b : w.heap.size + 1 < w1.heap.size := by have hz := hb.size; (try simp at hz); omega
  have cw1_b_0 : w1.cell? ⟨w.heap.size + 1, 0, none⟩ = some (.int .i64 bxh) := by rw [hcl _ _ (by first | omega | (simp; done) | (simp; omega))]; simp [go_sem, *]
  have cw1_b_1 : w1.cell? ⟨w.heap.size + 1, 1, none⟩ = some (.int .u64 bxl) := by rw [hcl _ _ (by first | omega | (simp; done) | (simp; omega))]; simp [go_sem, *]
  have cw1_b_2 : w1.cell? ⟨w.heap.size + 1, 2, none⟩ = some (.int .i64 byh) := by rw [hcl _ _ (by first | omega | (simp; done) | (simp; omega))]; simp [go_sem, *]
  have cw1_b_3 : w1.cell? ⟨w.heap.size + 1, 3, none⟩ = some (.int .u64 byl) := by rw [hcl _ _ (by first | omega | (simp; done) | (simp; omega))]; simp [go_sem, *]
  have zw1_r : w.heap.size + 1 + 1 < w1.heap.size := by have hz := hb.size; (try simp at hz); omega
  have cw1_r_0 : w1.cell? ⟨w.heap.size + 1 + 1, 0, none⟩ = some (.int .i64 0) := by rw [hcl _ _ (by first | omega | (simp; done) | (simp; omega))]; simp [go_sem, *]
  have cw1_r_1 : w1.cell? ⟨w.heap.size + 1 + 1, 1, none⟩ = some (.int .u64 0) := by rw [hcl _ _ (by first | omega | (simp; done) | (simp; omega))]; simp [go_sem, *]
  have cw1_r_2 : w1.cell? ⟨w.heap.size + 1 + 1, 2, none⟩ = some (.int .i64 0) := by rw [hcl _ _ (by first | omega | (simp; done) | (simp; omega))]; simp [go_sem, *]
  have cw1_r_3 : w1.cell? ⟨w.heap.size + 1 + 1, 3, none⟩ = some (.int .u64 0) := by rw [hcl _ _ (by first | omega | (simp; done) | (simp; omega))]; simp [go_sem, *]
  have fw1_r : ∀ j, w1.frozen? ⟨w.heap.size + 1 + 1, j, none⟩ = false := fun j => by rw [hfr _ _ (by first | omega | (simp; done) | (simp; omega))]; first | (simp [go_sem, *]; done) | (simp only [frozen?_alloc_cells]; simp [World.frozen?, *]; done) | (simp [frozen?_alloc_cells, World.frozen?, *]; done)
  have HBw1 : Hid (Below w.heap.size w w1) := bl_trans (by repeat (first | with_reducible exact Below.refl _ _ | with_reducible exact Hid.out (by assumption) | with_reducible refine Below.setCell ?_ (by first | (simp; done) | omega | (simp <;> omega)) _ | with_reducible refine bl_al ?_ _ | with_reducible apply Below.drew)) hb
  clear hb hcl hfr
  go_wp2_with fail
  (with_reducible refine (K2.out _).mono ?_); rintro e w2 ⟨rfl, hb⟩
  obtain ⟨hcl, hfr⟩ := bcell hb
  have zw2_a : w.heap.size < w2.heap.size := by have hz := hb.size; (try simp at hz); omega
  have cw2_a_0 : w2.cell? ⟨w.heap.size, 0, none⟩ = some (.int .i64 axh) := by rw [hcl _ _ (by first | omega | (simp; done) | (simp; omega))]; simp [go_sem, *]
  have cw2_a_1 : w2.cell? ⟨w.heap.size, 1, none⟩ = some (.int .u64 axl) := by rw [hcl _ _ (by first | omega | (simp; done) | (simp; omega))]; simp [go_sem, *]
  have cw2_a_2 : w2.cell? ⟨w.heap.size, 2, none⟩ = some (.int .i64 ayh) := by rw [hcl _ _ (by first | omega | (simp; done) | (simp; omega))]; simp [go_sem, *]
  have cw2_a_3 : w2.cell? ⟨w.heap.size, 3, none⟩ = some (.int .u64 ayl) := by rw [hcl _ _ (by first | omega | (simp; done) | (simp; omega))]; simp [go_sem, *]
  have zw2_b : w.heap.size + 1 < w2.heap.size := by have hz := hb.size; (try simp at hz); omega
  have cw2_b_0 : w2.cell? ⟨w.heap.size + 1, 0, none⟩ = some (.int .i64 bxh) := by rw [hcl _ _ (by first | omega | (simp; done) | (simp; omega))]; simp [go_sem, *]
  have cw2_b_1 : w2.cell? ⟨w.heap.size + 1, 1, none⟩ = some (.int .u64 bxl) := by rw [hcl _ _ (by first | omega | (simp; done) | (simp; omega))]; simp [go_sem, *]
  have cw2_b_2 : w2.cell? ⟨w.heap.size + 1, 2, none⟩ = some (.int .i64 byh) := by rw [hcl _ _ (by first | omega | (simp; done) | (simp; omega))]; simp [go_sem, *]
  have cw2_b_3 : w2.cell? ⟨w.heap.size + 1, 3, none⟩ = some (.int .u64 byl) := by rw [hcl _ _ (by first | omega | (simp; done) | (simp; omega))]; simp [go_sem, *]
  have zw2_r : w.heap.size + 1 + 1 < w2.heap.size := by have hz := hb.size; (try simp at hz); omega
  have cw2_r_0 : w2.cell? ⟨w.heap.size + 1 + 1, 0, none⟩ = some (.int .i64 0) := by rw [hcl _ _ (by first | omega | (simp; done) | (simp; omega))]; simp [go_sem, *]
  have cw2_r_1 : w2.cell? ⟨w.heap.size + 1 + 1, 1, none⟩ = some (.int .u64 0) := by rw [hcl _ _ (by first | omega | (simp; done) | (simp; omega))]; simp [go_sem, *]
  have cw2_r_2 : w2.cell? ⟨w.heap.size + 1 + 1, 2, none⟩ = some (.int .i64 0) := by rw [hcl _ _ (by first | omega | (simp; done) | (simp; omega))]; simp [go_sem, *]
  have cw2_r_3 : w2.cell? ⟨w.heap.size + 1 + 1, 3, none⟩ = some (.int .u64 0) := by rw [hcl _ _ (by first | omega | (simp; done) | (simp; omega))]; simp [go_sem, *]
  have fw2_r : ∀ j, w2.frozen? ⟨w.heap.size + 1 + 1, j, none⟩ = false := fun j => by rw [hfr _ _ (by first | omega | (simp; done) | (simp; omega))]; first | (simp [go_sem, *]; done) | (simp only [frozen?_alloc_cells]; simp [World.frozen?, *]; done) | (simp [frozen?_alloc_cells, World.frozen?, *]; done)
  have zw2_m1 : w1.heap.size < w2.heap.size := by have hz := hb.size; (try simp at hz); omega
  have cw2_m1_0 : w2.cell? ⟨w1.heap.size, 0, none⟩ = some (.int .i64 m1h) := by rw [hcl _ _ (by first | omega | (simp; done) | (simp; omega))]; simp [go_sem, *]
  have cw2_m1_1 : w2.cell? ⟨w1.heap.size, 1, none⟩ = some (.int .u64 m1l) := by rw [hcl _ _ (by first | omega | (simp; done) | (simp; omega))]; simp [go_sem, *]
  have HBw2 : Hid (Below w.heap.size w w2) := bl_trans (by repeat (first | with_reducible exact Below.refl _ _ | with_reducible exact Hid.out (by assumption) | with_reducible refine Below.setCell ?_ (by first | (simp; done) | omega | (simp <;> omega)) _ | with_reducible refine bl_al ?_ _ | with_reducible apply Below.drew)) hb
  clear hb hcl hfr
  go_wp2_with fail
  (with_reducible refine (K3.out _).mono ?_); rintro e w3 ⟨rfl, hb⟩
  obtain ⟨hcl, hfr⟩ := bcell hb
  have zw3_a : w.heap.size < w3.heap.size := by have hz := hb.size; (try simp at hz); omega
  have cw3_a_0 : w3.cell? ⟨w.heap.size, 0, none⟩ = some (.int .i64 axh) := by rw [hcl _ _ (by first | omega | (simp; done) | (simp; omega))]; simp [go_sem, *]
  have cw3_a_1 : w3.cell? ⟨w.heap.size, 1, none⟩ = some (.int .u64 axl) := by rw [hcl _ _ (by first | omega | (simp; done) | (simp; omega))]; simp [go_sem, *]
  have cw3_a_2 : w3.cell? ⟨w.heap.size, 2, none⟩ = some (.int .i64 ayh) := by rw [hcl _ _ (by first | omega | (simp; done) | (simp; omega))]; simp [go_sem, *]
  have cw3_a_3 : w3.cell? ⟨w.heap.size, 3, none⟩ = some (.int .u64 ayl) := by rw [hcl _ _ (by first | omega | (simp; done) | (simp; omega))]; simp [go_sem, *]
  have zw3_b : w.heap.size + 1 < w3.heap.size := by have hz := hb.size; (try simp at hz); omega
  have cw3_b_0 : w3.cell? ⟨w.heap.size + 1, 0, none⟩ = some (.int .i64 bxh) := by rw [hcl _ _ (by first | omega | (simp; done) | (simp; omega))]; simp [go_sem, *]
  have cw3_b_1 : w3.cell? ⟨w.heap.size + 1, 1, none⟩ = some (.int .u64 bxl) := by rw [hcl _ _ (by first | omega | (simp; done) | (simp; omega))]; simp [go_sem, *]
  have cw3_b_2 : w3.cell? ⟨w.heap.size + 1, 2, none⟩ = some (.int .i64 byh) := by rw [hcl _ _ (by first | omega | (simp; done) | (simp; omega))]; simp [go_sem, *]
  have cw3_b_3 : w3.cell? ⟨w.heap.size + 1, 3, none⟩ = some (.int .u64 byl) := by rw [hcl _ _ (by first | omega | (simp; done) | (simp; omega))]; simp [go_sem, *]
  have zw3_r : w.heap.size + 1 + 1 < w3.heap.size := by have hz := hb.size; (try simp at hz); omega
  have cw3_r_0 : w3.cell? ⟨w.heap.size + 1 + 1, 0, none⟩ = some (.int .i64 0) := by rw [hcl _ _ (by first | omega | (simp; done) | (simp; omega))]; simp [go_sem, *]
  have cw3_r_1 : w3.cell? ⟨w.heap.size + 1 + 1, 1, none⟩ = some (.int .u64 0) := by rw [hcl _ _ (by first | omega | (simp; done) | (simp; omega))]; simp [go_sem, *]
  have cw3_r_2 : w3.cell? ⟨w.heap.size + 1 + 1, 2, none⟩ = some (.int .i64 0) := by rw [hcl _ _ (by first | omega | (simp; done) | (simp; omega))]; simp [go_sem, *]
  have cw3_r_3 : w3.cell? ⟨w.heap.size + 1 + 1, 3, none⟩ = some (.int .u64 0) := by rw [hcl _ _ (by first | omega | (simp; done) | (simp; omega))]; simp [go_sem, *]
  have fw3_r : ∀ j, w3.frozen? ⟨w.heap.size + 1 + 1, j, none⟩ = false := fun j => by rw [hfr _ _ (by first | omega | (simp; done) | (simp; omega))]; first | (simp [go_sem, *]; done) | (simp only [frozen?_alloc_cells]; simp [World.frozen?, *]; done) | (simp [frozen?_alloc_cells, World.frozen?, *]; done)
  have zw3_m1 : w1.heap.size < w3.heap.size := by have hz := hb.size; (try simp at hz); omega
  have cw3_m1_0 : w3.cell? ⟨w1.heap.size, 0, none⟩ = some (.int .i64 m1h) := by rw [hcl _ _ (by first | omega | (simp; done) | (simp; omega))]; simp [go_sem, *]
  have cw3_m1_1 : w3.cell? ⟨w1.heap.size, 1, none⟩ = some (.int .u64 m1l) := by rw [hcl _ _ (by first | omega | (simp; done) | (simp; omega))]; simp [go_sem, *]
  have zw3_m2 : w2.heap.size < w3.heap.size := by have hz := hb.size; (try simp at hz); omega
  have cw3_m2_0 : w3.cell? ⟨w2.heap.size, 0, none⟩ = some (.int .i64 m2h) := by rw [hcl _ _ (by first | omega | (simp; done) | (simp; omega))]; simp [go_sem, *]
  have cw3_m2_1 : w3.cell? ⟨w2.heap.size, 1, none⟩ = some (.int .u64 m2l) := by rw [hcl _ _ (by first | omega | (simp; done) | (simp; omega))]; simp [go_sem, *]
  have HBw3 : Hid (Below w.heap.size w w3) := bl_trans (by repeat (first | with_reducible exact Below.refl _ _ | with_reducible exact Hid.out (by assumption) | with_reducible refine Below.setCell ?_ (by first | (simp; done) | omega | (simp <;> omega)) _ | with_reducible refine bl_al ?_ _ | with_reducible apply Below.drew)) hb
  clear hb hcl hfr
  go_wp2_with fail
  (with_reducible refine (K4.out _).mono ?_); rintro e w4 ⟨rfl, hb⟩
  obtain ⟨hcl, hfr⟩ := bcell hb
  have zw4_r : w.heap.size + 1 + 1 < w4.heap.size := by have hz := hb.size; (try simp at hz); omega
  have cw4_r_0 : w4.cell? ⟨w.heap.size + 1 + 1, 0, none⟩ = some (.int .i64 0) := by rw [hcl _ _ (by first | omega | (simp; done) | (simp; omega))]; simp [go_sem, *]
  have cw4_r_1 : w4.cell? ⟨w.heap.size + 1 + 1, 1, none⟩ = some (.int .u64 0) := by rw [hcl _ _ (by first | omega | (simp; done) | (simp; omega))]; simp [go_sem, *]
  have cw4_r_2 : w4.cell? ⟨w.heap.size + 1 + 1, 2, none⟩ = some (.int .i64 0) := by rw [hcl _ _ (by first | omega | (simp; done) | (simp; omega))]; simp [go_sem, *]
  have cw4_r_3 : w4.cell? ⟨w.heap.size + 1 + 1, 3, none⟩ = some (.int .u64 0) := by rw [hcl _ _ (by first | omega | (simp; done) | (simp; omega))]; simp [go_sem, *]
  have fw4_r : ∀ j, w4.frozen? ⟨w.heap.size + 1 + 1, j, none⟩ = false := fun j => by rw [hfr _ _ (by first | omega | (simp; done) | (simp; omega))]; first | (simp [go_sem, *]; done) | (simp only [frozen?_alloc_cells]; simp [World.frozen?, *]; done) | (simp [frozen?_alloc_cells, World.frozen?, *]; done)
  have zw4_m1 : w1.heap.size < w4.heap.size := by have hz := hb.size; (try simp at hz); omega
  have cw4_m1_0 : w4.cell? ⟨w1.heap.size, 0, none⟩ = some (.int .i64 m1h) := by rw [hcl _ _ (by first | omega | (simp; done) | (simp; omega))]; simp [go_sem, *]
  have cw4_m1_1 : w4.cell? ⟨w1.heap.size, 1, none⟩ = some (.int .u64 m1l) := by rw [hcl _ _ (by first | omega | (simp; done) | (simp; omega))]; simp [go_sem, *]
  have zw4_m2 : w2.heap.size < w4.heap.size := by have hz := hb.size; (try simp at hz); omega
  have cw4_m2_0 : w4.cell? ⟨w2.heap.size, 0, none⟩ = some (.int .i64 m2h) := by rw [hcl _ _ (by first | omega | (simp; done) | (simp; omega))]; simp [go_sem, *]
  have cw4_m2_1 : w4.cell? ⟨w2.heap.size, 1, none⟩ = some (.int .u64 m2l) := by rw [hcl _ _ (by first | omega | (simp; done) | (simp; omega))]; simp [go_sem, *]
  have zw4_m3 : w3.heap.size < w4.heap.size := by have hz := hb.size; (try simp at hz); omega
  have cw4_m3_0 : w4.cell? ⟨w3.heap.size, 0, none⟩ = some (.int .i64 m3h) := by rw [hcl _ _ (by first | omega | (simp; done) | (simp; omega))]; simp [go_sem, *]
  have cw4_m3_1 : w4.cell? ⟨w3.heap.size, 1, none⟩ = some (.int .u64 m3l) := by rw [hcl _ _ (by first | omega | (simp; done) | (simp; omega))]; simp [go_sem, *]
  have HBw4 : Hid (Below w.heap.size w w4) := bl_trans (by repeat (first | with_reducible exact Below.refl _ _ | with_reducible exact Hid.out (by assumption) | with_reducible refine Below.setCell ?_ (by first | (simp; done) | omega | (simp <;> omega)) _ | with_reducible refine bl_al ?_ _ | with_reducible apply Below.drew)) hb
  clear hb hcl hfr
  go_wp2_with fail
  (with_reducible refine (K5.out _).mono ?_); rintro e w5 ⟨rfl, hb⟩
  obtain ⟨hcl, hfr⟩ := bcell hb
  have zw5_r : w.heap.size + 1 + 1 < w5.heap.size := by have hz := hb.size; (try simp at hz); omega
  have cw5_r_0 : w5.cell? ⟨w.heap.size + 1 + 1, 0, none⟩ = some (.int .i64 0) := by rw [hcl _ _ (by first | omega | (simp; done) | (simp; omega))]; simp [go_sem, *]
  have cw5_r_1 : w5.cell? ⟨w.heap.size + 1 + 1, 1, none⟩ = some (.int .u64 0) := by rw [hcl _ _ (by first | omega | (simp; done) | (simp; omega))]; simp [go_sem, *]
  have cw5_r_2 : w5.cell? ⟨w.heap.size + 1 + 1, 2, none⟩ = some (.int .i64 0) := by rw [hcl _ _ (by first | omega | (simp; done) | (simp; omega))]; simp [go_sem, *]
  have cw5_r_3 : w5.cell? ⟨w.heap.size + 1 + 1, 3, none⟩ = some (.int .u64 0) := by rw [hcl _ _ (by first | omega | (simp; done) | (simp; omega))]; simp [go_sem, *]
  have fw5_r : ∀ j, w5.frozen? ⟨w.heap.size + 1 + 1, j, none⟩ = false := fun j => by rw [hfr _ _ (by first | omega | (simp; done) | (simp; omega))]; first | (simp [go_sem, *]; done) | (simp only [frozen?_alloc_cells]; simp [World.frozen?, *]; done) | (simp [frozen?_alloc_cells, World.frozen?, *]; done)
  have zw5_m3 : w3.heap.size < w5.heap.size := by have hz := hb.size; (try simp at hz); omega
  have cw5_m3_0 : w5.cell? ⟨w3.heap.size, 0, none⟩ = some (.int .i64 m3h) := by rw [hcl _ _ (by first | omega | (simp; done) | (simp; omega))]; simp [go_sem, *]
  have cw5_m3_1 : w5.cell? ⟨w3.heap.size, 1, none⟩ = some (.int .u64 m3l) := by rw [hcl _ _ (by first | omega | (simp; done) | (simp; omega))]; simp [go_sem, *]
  have zw5_m4 : w4.heap.size < w5.heap.size := by have hz := hb.size; (try simp at hz); omega
  have cw5_m4_0 : w5.cell? ⟨w4.heap.size, 0, none⟩ = some (.int .i64 m4h) := by rw [hcl _ _ (by first | omega | (simp; done) | (simp; omega))]; simp [go_sem, *]
  have cw5_m4_1 : w5.cell? ⟨w4.heap.size, 1, none⟩ = some (.int .u64 m4l) := by rw [hcl _ _ (by first | omega | (simp; done) | (simp; omega))]; simp [go_sem, *]
  have HBw5 : Hid (Below w.heap.size w w5) := bl_trans (by repeat (first | with_reducible exact Below.refl _ _ | with_reducible exact Hid.out (by assumption) | with_reducible refine Below.setCell ?_ (by first | (simp; done) | omega | (simp <;> omega)) _ | with_reducible refine bl_al ?_ _ | with_reducible apply Below.drew)) hb
  clear hb hcl hfr
  go_wp2_with fail
  (with_reducible refine (K6.out _).mono ?_); rintro e w6 ⟨rfl, hb⟩
  obtain ⟨hcl, hfr⟩ := bcell hb
  have zw6_r : w.heap.size + 1 + 1 < w6.heap.size := by have hz := hb.size; (try simp at hz); omega
  have cw6_r_0 : w6.cell? ⟨w.heap.size + 1 + 1, 0, none⟩ = some (.int .i64 0) := by rw [hcl _ _ (by first | omega | (simp; done) | (simp; omega))]; simp [go_sem, *]
  have cw6_r_1 : w6.cell? ⟨w.heap.size + 1 + 1, 1, none⟩ = some (.int .u64 0) := by rw [hcl _ _ (by first | omega | (simp; done) | (simp; omega))]; simp [go_sem, *]
  have cw6_r_2 : w6.cell? ⟨w.heap.size + 1 + 1, 2, none⟩ = some (.int .i64 0) := by rw [hcl _ _ (by first | omega | (simp; done) | (simp; omega))]; simp [go_sem, *]
  have cw6_r_3 : w6.cell? ⟨w.heap.size + 1 + 1, 3, none⟩ = some (.int .u64 0) := by rw [hcl _ _ (by first | omega | (simp; done) | (simp; omega))]; simp [go_sem, *]
  have fw6_r : ∀ j, w6.frozen? ⟨w.heap.size + 1 + 1, j, none⟩ = false := fun j => by rw [hfr _ _ (by first | omega | (simp; done) | (simp; omega))]; first | (simp [go_sem, *]; done) | (simp only [frozen?_alloc_cells]; simp [World.frozen?, *]; done) | (simp [frozen?_alloc_cells, World.frozen?, *]; done)
  have zw6_p : w5.heap.size < w6.heap.size := by have hz := hb.size; (try simp at hz); omega
  have cw6_p_0 : w6.cell? ⟨w5.heap.size, 0, none⟩ = some (.int .i64 ph) := by rw [hcl _ _ (by first | omega | (simp; done) | (simp; omega))]; simp [go_sem, *]
  have cw6_p_1 : w6.cell? ⟨w5.heap.size, 1, none⟩ = some (.int .u64 pl) := by rw [hcl _ _ (by first | omega | (simp; done) | (simp; omega))]; simp [go_sem, *]
  have HBw6 : Hid (Below w.heap.size w w6) := bl_trans (by repeat (first | with_reducible exact Below.refl _ _ | with_reducible exact Hid.out (by assumption) | with_reducible refine Below.setCell ?_ (by first | (simp; done) | omega | (simp <;> omega)) _ | with_reducible refine bl_al ?_ _ | with_reducible apply Below.drew)) hb
  clear hb hcl hfr
  go_upto_region 7 with fail
  refine name_world (P := fun W => Code.wp _ _ _ _ W) _ (fun R hR => ?_)
  have zR_r : w.heap.size + 1 + 1 < R.heap.size := by rw [hR]; first | omega | (simp; done) | (simp; omega)
  have cR_r_0 : R.cell? ⟨w.heap.size + 1 + 1, 0, none⟩ = some (.int .i64 0) := by rw [hR]; simp [go_sem, *]
  have cR_r_1 : R.cell? ⟨w.heap.size + 1 + 1, 1, none⟩ = some (.int .u64 0) := by rw [hR]; simp [go_sem, *]
  have cR_r_2 : R.cell? ⟨w.heap.size + 1 + 1, 2, none⟩ = some (.int .i64 0) := by rw [hR]; simp [go_sem, *]
  have cR_r_3 : R.cell? ⟨w.heap.size + 1 + 1, 3, none⟩ = some (.int .u64 0) := by rw [hR]; simp [go_sem, *]
  have fR_r : ∀ j, R.frozen? ⟨w.heap.size + 1 + 1, j, none⟩ = false := fun j => by rw [hR]; first | (simp [go_sem, *]; done) | (simp only [frozen?_alloc_cells]; simp [World.frozen?, *]; done) | (simp [frozen?_alloc_cells, World.frozen?, *]; done)
  have zR_p : w5.heap.size < R.heap.size := by rw [hR]; first | omega | (simp; done) | (simp; omega)
  have cR_p_0 : R.cell? ⟨w5.heap.size, 0, none⟩ = some (.int .i64 ph) := by rw [hR]; simp [go_sem, *]
  have cR_p_1 : R.cell? ⟨w5.heap.size, 1, none⟩ = some (.int .u64 pl) := by rw [hR]; simp [go_sem, *]
  have zR_q : w6.heap.size < R.heap.size := by rw [hR]; first | omega | (simp; done) | (simp; omega)
  have cR_q_0 : R.cell? ⟨w6.heap.size, 0, none⟩ = some (.int .i64 qh) := by rw [hR]; simp [go_sem, *]
  have cR_q_1 : R.cell? ⟨w6.heap.size, 1, none⟩ = some (.int .u64 ql) := by rw [hR]; simp [go_sem, *]
  have HBR : Hid (Below w.heap.size w R) := by rw [hR]; show Below _ _ _; exact (by repeat (first | with_reducible exact Below.refl _ _ | with_reducible exact Hid.out (by assumption) | with_reducible refine Below.setCell ?_ (by first | (simp; done) | omega | (simp <;> omega)) _ | with_reducible refine bl_al ?_ _ | with_reducible apply Below.drew))
  clear hR
  go_wp2_with fail
  (with_reducible refine (HO.out _ _ (by simp [go_sem]) (by simp [go_sem]) (by simp [go_sem]) (by simp [go_sem]) (by simp [go_sem]) (by simp [go_sem])).mono ?_); rintro e w7 ⟨rfl, rfl⟩
  go_wp2_with fail
  refine bodyPost_ret (by simp [results, Try.results33, go_sem, *]; try rfl) rfl ?_
  exact ⟨rfl, by repeat (first | with_reducible exact Below.refl _ _ | with_reducible exact Hid.out (by assumption) | with_reducible refine Below.setCell ?_ (by first | (simp; done) | omega | (simp <;> omega)) _ | with_reducible refine bl_al ?_ _ | with_reducible apply Below.drew)⟩
theorem first6_zero {e1 e2 e3 e4 e5 e6 : Int} (h : e1 = 0 ∧ e2 = 0 ∧ e3 = 0 ∧ e4 = 0 ∧ e5 = 0 ∧ e6 = 0) : first6 e1 e2 e3 e4 e5 e6 = 0 := by
  obtain ⟨rfl, rfl, rfl, rfl, rfl, rfl⟩ := h; rfl
theorem first6_three {e1 e2 e3 e4 e5 e6 : Int} (h1 : e1 = 0 ∨ e1 = 3) (h2 : e2 = 0 ∨ e2 = 3) (h3 : e3 = 0 ∨ e3 = 3) (h4 : e4 = 0 ∨ e4 = 3) (h5 : e5 = 0 ∨ e5 = 3) (h6 : e6 = 0 ∨ e6 = 3) (h : ¬ (e1 = 0 ∧ e2 = 0 ∧ e3 = 0 ∧ e4 = 0 ∧ e5 = 0 ∧ e6 = 0)) : first6 e1 e2 e3 e4 e5 e6 = 3 := by
  unfold first6
  repeat (first | split | omega)
theorem turned_any (a b c d : Int) (ha : My a) (hb : My b) (hc : My c) (hd : My d) (w : World) :
    Calls Try.prog 33 #[vec a b, vec c d] w fun e w' => e = .returned (.tuple #[vec (tx a b c d) (ty a b c d), .int .i64 (te a b c d)]) ∧ Below w.heap.size w w' := by
  have A1 := fmul_any a c ha hc; have A2 := fmul_any b d hb hd; have A3 := fmul_any a d ha hd; have A4 := fmul_any b c hb hc
  have A5 := fsub_any _ _ (ov_My (mulr a c)) (ov_My (mulr b d))
  have A6 := fadd_any _ _ (ov_My (mulr a d)) (ov_My (mulr b c))
  rcases te_cases a b c d with ⟨h, g, e1, e2⟩ | ⟨h, g, e1, e2⟩
  · have g6 := g.2.2.2.2.2
    have g5 := g.2.2.2.2.1
    rw [h, e1, e2]
    have k := turned_ok _ _ _ _ _ _ _ _ _ _ _ _ _ _ _ _ _ _ _ _ _ _ _ _ _ _ (first6_zero g) w A1 A2 A3 A4 A5 A6
    have q5 : ov (ov (mulr a c) - ov (mulr b d)) = tp a b c d := ov_in (oe_my g5)
    have q6 : ov (ov (mulr a d) + ov (mulr b c)) = tq a b c d := ov_in (oe_my g6)
    rw [q5, q6] at k
    exact k
  · have f3 := first6_three (oe_two (mulr a c)) (oe_two (mulr b d)) (oe_two (mulr a d)) (oe_two (mulr b c)) (oe_two (tp a b c d)) (oe_two (tq a b c d)) g
    rw [h, e1, e2, vec_zero]
    have k := turned_err _ _ _ _ _ _ _ _ _ _ _ _ _ _ _ _ _ _ _ _ _ _ _ _ _ _ (by unfold tp tq at f3; rw [f3]; decide) w A1 A2 A3 A4 A5 A6
    unfold tp tq at f3
    rw [f3] at k
    exact k
end Go.Proofs.Ytmelipbanbihdaa
namespace Go.Proofs.Ytmelipbanbihdaa
open Go.RowKit
theorem Try.info_vec : (Try.prog.info? 26).map (fun i => (i.zero, i.size, i.bytes)) = some (some (.agg #[.int .i64 0, .int .u64 0, .int .i64 0, .int .u64 0]), 4, 32) := by kernel_rfl
def dirs : Nat → List Value
  | 0 => []
  | i + 1 => dirs i ++ [.int .i64 (fh (tcos (i + 1))), .int .u64 (fl (tcos (i + 1))), .int .i64 (fh (tsin i)), .int .u64 (fl (tsin i))]
theorem dirs_len (n : Nat) : (dirs n).length = n * 4 := by
  induction n with
  | zero => rfl
  | succ n ih =>
    show (dirs n ++ _).length = _
    rw [List.length_append, ih]; simp; omega
theorem dirs_at {i n : Nat} (h : i < n) : (dirs n)[i * 4]? = some (.int .i64 (fh (tcos (i + 1)))) ∧ (dirs n)[i * 4 + 1]? = some (.int .u64 (fl (tcos (i + 1)))) ∧ (dirs n)[i * 4 + 2]? = some (.int .i64 (fh (tsin i))) ∧ (dirs n)[i * 4 + 3]? = some (.int .u64 (fl (tsin i))) := by
  induction n with
  | zero => omega
  | succ n ih =>
    have hl := dirs_len n
    rcases Nat.lt_or_ge i n with g | g
    · obtain ⟨a, b, c, d⟩ := ih g
      show (dirs n ++ _)[_]? = _ ∧ (dirs n ++ _)[_]? = _ ∧ (dirs n ++ _)[_]? = _ ∧ (dirs n ++ _)[_]? = _
      rw [List.getElem?_append_left (by omega), List.getElem?_append_left (by omega), List.getElem?_append_left (by omega), List.getElem?_append_left (by omega)]
      exact ⟨a, b, c, d⟩
    · have e : i = n := by omega
      subst e
      show (dirs i ++ _)[_]? = _ ∧ (dirs i ++ _)[_]? = _ ∧ (dirs i ++ _)[_]? = _ ∧ (dirs i ++ _)[_]? = _
      rw [List.getElem?_append_right (by omega), List.getElem?_append_right (by omega), List.getElem?_append_right (by omega), List.getElem?_append_right (by omega), hl]
      rw [show i * 4 - i * 4 = 0 by omega, show i * 4 + 1 - i * 4 = 1 by omega, show i * 4 + 2 - i * 4 = 2 by omega, show i * 4 + 3 - i * 4 = 3 by omega]
      exact ⟨rfl, rfl, rfl, rfl⟩
/-- A block that holds the fourteen directions. -/
def Tab (g : Nat) (W : World) : Prop := g < W.heap.size ∧ ∀ i, i < 14 → W.cell? ⟨g, i * 4, none⟩ = some (.int .i64 (fh (tcos (i + 1)))) ∧ W.cell? ⟨g, i * 4 + 1, none⟩ = some (.int .u64 (fl (tcos (i + 1)))) ∧ W.cell? ⟨g, i * 4 + 2, none⟩ = some (.int .i64 (fh (tsin i))) ∧ W.cell? ⟨g, i * 4 + 3, none⟩ = some (.int .u64 (fl (tsin i)))
theorem Tab.step {g : Nat} {W W' : World} (h : Tab g W) (b : Below W.heap.size W W') : Tab g W' :=
  ⟨Nat.lt_of_lt_of_le h.1 b.size, fun i hi => by
    rw [(bcell b).1 _ _ h.1, (bcell b).1 _ _ h.1, (bcell b).1 _ _ h.1, (bcell b).1 _ _ h.1]; exact h.2 i hi⟩
theorem own_tab {w : World} {base : Nat} {v : Value} (h : w.ownsRow base 26 4 v 14 (dirs 14)) : ∃ g cap, v = .slice (some ⟨g, 0, none⟩) 14 cap ∧ Tab g w ∧ base ≤ g := by
  rcases h.2 with ⟨_, h0⟩ | ⟨g, cap, cur, rfl, hb, _⟩
  · omega
  · refine ⟨g, cap, rfl, ⟨(h.lt g rfl).2, fun i hi => ?_⟩, hb⟩
    rw [h.cellAt _ (by omega), h.cellAt _ (by omega), h.cellAt _ (by omega), h.cellAt _ (by omega)]
    exact dirs_at hi
theorem make_dirs : ∃ cur : Array Value, cur.size = 14 * 4 ∧ ∀ w : World, (Instr.makeSlice 38 (.int .i64 0) (.int .i64 14)).run Try.prog w = .ok (.slice (some ⟨w.heap.size, 0, none⟩) 0 14) (w.alloc (.cells cur 26)) :=
  ⟨#[.int .i64 0, .int .u64 0, .int .i64 0, .int .u64 0, .int .i64 0, .int .u64 0, .int .i64 0, .int .u64 0, .int .i64 0, .int .u64 0, .int .i64 0, .int .u64 0, .int .i64 0, .int .u64 0, .int .i64 0, .int .u64 0, .int .i64 0, .int .u64 0, .int .i64 0, .int .u64 0, .int .i64 0, .int .u64 0, .int .i64 0, .int .u64 0, .int .i64 0, .int .u64 0, .int .i64 0, .int .u64 0, .int .i64 0, .int .u64 0, .int .i64 0, .int .u64 0, .int .i64 0, .int .u64 0, .int .i64 0, .int .u64 0, .int .i64 0, .int .u64 0, .int .i64 0, .int .u64 0, .int .i64 0, .int .u64 0, .int .i64 0, .int .u64 0, .int .i64 0, .int .u64 0, .int .i64 0, .int .u64 0, .int .i64 0, .int .u64 0, .int .i64 0, .int .u64 0, .int .i64 0, .int .u64 0, .int .i64 0, .int .u64 0], rfl, fun w => by kernel_rfl⟩
theorem new4 (R : World) (a b c d : Value) (t : TypeId) (j : Nat) (u : Value) (h : [a, b, c, d][j]? = some u) : (R.alloc (.cells #[a, b, c, d] t)).cell? ((⟨R.heap.size, 0, none⟩ : Addr).add j) = some u := by
  rcases (show j = 0 ∨ j = 1 ∨ j = 2 ∨ j = 3 ∨ 4 ≤ j by omega) with rfl | rfl | rfl | rfl | g
  · cases h; simp [Addr.add, go_sem]
  · cases h; simp [Addr.add, go_sem]
  · cases h; simp [Addr.add, go_sem]
  · cases h; simp [Addr.add, go_sem]
  · rw [List.getElem?_eq_none (by simpa using g)] at h; cases h
theorem own_step {W W' : World} {base : Nat} {v : Value} {n : Nat} {xs : List Value} (h : W.ownsRow base 26 4 v n xs) (b : Below W.heap.size W W') : W'.ownsRow base 26 4 v n xs :=
  h.kept (row := none) ⟨b.os, b.tape, b.output, b.size, fun k hk _ => b.block k hk⟩ (by cases v.ownBlock with
    | none => exact Or.inl rfl
    | some k => exact Or.inr (by simp))
theorem own_slice {W : World} {base : Nat} {v : Value} {n : Nat} {xs : List Value} (h : W.ownsRow base 26 4 v (n + 1) xs) : ∃ g cap, v = .slice (some ⟨g, 0, none⟩) (n + 1) cap := by
  rcases h.2 with ⟨_, h0⟩ | ⟨g, cap, cur, rfl, _⟩
  · omega
  · exact ⟨g, cap, rfl⟩
/-- What stands at a round's head: the direction at hand and the row so far. -/
structure Th (w : World) (i : Nat) (c y : Int) (D : Nat) (v : Value) (X : World) : Prop where
  d : Has D [.int .i64 (fh c), .int .u64 (fl c), .int .i64 (fh y), .int .u64 (fl y)] X
  zd : Clear D X
  own : X.ownsRow w.heap.size 26 4 v i (dirs i)
  ne : ∀ k, v.ownBlock = some k → k ≠ D
  lo : w.heap.size ≤ D
  below : Below w.heap.size w X
set_option maxRecDepth 20000 in
set_option maxHeartbeats 8000000 in
theorem table_any (w : World) : Calls Try.prog 16 #[] w fun e w' => ∃ g cap, e = .returned (.slice (some ⟨g, 0, none⟩) 14 cap) ∧ Tab g w' ∧ w.heap.size ≤ g ∧ Below w.heap.size w w' := by
  obtain ⟨i0, hi, hz0, hz1, hz2⟩ := info_parts Try.info_vec
  obtain ⟨cur, hcur, hmk⟩ := make_dirs
  have KQ := Lib.hid quarter_any
  have KH : Hid (∀ x y : Int, In1 x → ∀ W, Calls Try.prog 32 #[.agg #[.int .i64 (fh x), .int .u64 (fl x), .int .i64 (fh y), .int .u64 (fl y)]] W fun e w' => e = .returned (.agg #[.int .i64 (fh (hc x)), .int .u64 (fl (hc x)), .int .i64 (fh (hs x)), .int .u64 (fl (hs x))]) ∧ Below W.heap.size W w') := halved_any
  go_enter Try.func16, Try.ntmps16
  go_upto_region 2 with fail
  clear hmk
  have hown : (w.alloc (.cells cur 26)).ownsRow w.heap.size 26 4 (.slice (some ⟨w.heap.size, 0, none⟩) 0 14) 0 (dirs 0) := World.ownsRow_made w cur 14 (Nat.le_refl _) (by unfold maxLen; omega) hcur
  go_wp2_with fail
  (with_reducible refine (KQ.out _).mono ?_); rintro e w1 ⟨rfl, hb⟩
  have hB1 : Below w.heap.size w w1 := bl_trans (bl_al (Below.refl _ _) _) hb
  have hown1 := own_step hown hb
  have hz1' : w.heap.size < w1.heap.size := by have := hb.size; simp at this; omega
  clear hb hown KQ hcur
  unfold vec
  go_wp2_with fail
  have g0 : Th w 0 (tcos 0) 18446744073709551616 w1.heap.size (.slice (some ⟨w.heap.size, 0, none⟩) 0 14) (w1.alloc (.cells #[.int .i64 (fh 0), .int .u64 (fl 0), .int .i64 (fh 18446744073709551616), .int .u64 (fl 18446744073709551616)] 26)) :=
    ⟨Has.mk4 (by simp) (by simp [go_sem]; rfl) (by simp [go_sem]; rfl) (by simp [go_sem]) (by simp [go_sem]), fun j => by rw [frozen?_alloc_cells]; simp [World.frozen?], hown1.alloc _, fun k hk => by cases hk; exact Nat.ne_of_lt hz1', by omega, hB1.alloc (by omega) _⟩
  have G0 := Lib.hid g0
  clear g0 hown1 hB1 hz1'
  go_loopg [1, 2] 14 (fun k lv dv wr => ∃ (i D g cap : Nat) (y : Int), i + k = 14 ∧ lv = .slice (some ⟨g, 0, none⟩) i cap ∧ dv = .pointer (some ⟨D, 0, none⟩) ∧ Th w i (tcos i) y D lv wr)
  case atStart => exact ⟨0, _, _, _, _, rfl, rfl, rfl, G0.out⟩
  case round =>
    obtain ⟨i, D, g, cap, y, hk, rfl, rfl, P⟩ := hrel
    clear G0
    rcases gk with _ | k
    · obtain rfl : i = 14 := by omega
      have HP := Lib.hid P
      clear P KH
      go_wp2_with fail
      go_returns
      obtain ⟨g', cap', e, ht, hlo⟩ := own_tab HP.out.own
      cases e
      exact ⟨_, ⟨_, rfl⟩, ht, hlo, HP.out.below⟩
    · have hlt : ((i : Nat) : Int) < 14 := by omega
      have HP := Lib.hid P
      have k0 := P.d.2 0 _ rfl; have k1 := P.d.2 1 _ rfl; have k2 := P.d.2 2 _ rfl; have k3 := P.d.2 3 _ rfl
      have zD := P.d.1
      have KC := Lib.hid (KH.out (tcos i) y (tcos_in i))
      clear P KH
      go_wp2_with fail
      (with_reducible refine (KC.out _).mono ?_); rintro e w2 ⟨rfl, hb⟩
      have zD2 : D < w2.heap.size := Nat.lt_of_lt_of_le zD hb.size
      have fD : ∀ j, w2.frozen? ⟨D, j, none⟩ = false := fun j => by rw [(bcell hb).2 _ _ zD]; exact HP.out.zd j
      have n0 : w2.cell? ⟨D, 0, none⟩ = some (.int .i64 (fh (tcos i))) := by rw [(bcell hb).1 _ _ zD]; exact k0
      have n1 : w2.cell? ⟨D, 1, none⟩ = some (.int .u64 (fl (tcos i))) := by rw [(bcell hb).1 _ _ zD]; exact k1
      have n2 : w2.cell? ⟨D, 2, none⟩ = some (.int .i64 (fh y)) := by rw [(bcell hb).1 _ _ zD]; exact k2
      have n3 : w2.cell? ⟨D, 3, none⟩ = some (.int .u64 (fl y)) := by rw [(bcell hb).1 _ _ zD]; exact k3
      have HO2 := Lib.hid (own_step HP.out.own hb)
      have HB2 : Hid (Below w.heap.size w w2) := bl_trans HP.out.below hb
      have HL : Hid (w.heap.size ≤ D) := HP.out.lo
      have HN : Hid (∀ k, (Value.slice (some ⟨g, 0, none⟩) i cap).ownBlock = some k → k ≠ D) := HP.out.ne
      clear hb KC k0 k1 k2 k3 HP
      go_upto_region 5 with fail
      refine name_world (P := fun W => Code.wp _ _ _ _ W) _ (fun R hR => ?_)
      have zR : D < R.heap.size := by rw [hR]; simp; omega
      have m0 : R.cell? ⟨D, 0, none⟩ = some (.int .i64 (fh (hc (tcos i)))) := by rw [hR]; simp [go_sem, *]
      have m1 : R.cell? ⟨D, 1, none⟩ = some (.int .u64 (fl (hc (tcos i)))) := by rw [hR]; simp [go_sem, *]
      have m2 : R.cell? ⟨D, 2, none⟩ = some (.int .i64 (fh (hs (tcos i)))) := by rw [hR]; simp [go_sem, *]
      have m3 : R.cell? ⟨D, 3, none⟩ = some (.int .u64 (fl (hs (tcos i)))) := by rw [hR]; simp [go_sem, *]
      have HOR : R.ownsRow w.heap.size 26 4 (.slice (some ⟨g, 0, none⟩) i cap) i (dirs i) := by
        rw [hR]
        have hne : (Value.slice (some ⟨g, 0, none⟩) i cap).ownBlock ≠ some D := fun e => HN.out _ e rfl
        exact ownsRow_setCell_other (ownsRow_setCell_other (ownsRow_setCell_other (ownsRow_setCell_other HO2.out hne _) hne _) hne _) hne _
      have HBR : Hid (Below w.heap.size w R) := by rw [hR]; have := HL.out; show Below _ _ _; exact Below.setCell (Below.setCell (Below.setCell (Below.setCell HB2.out (by simpa using this) _) (by simpa using this) _) (by simpa using this) _) (by simpa using this) _
      clear hR HO2 HB2 n0 n1 n2 n3 fD zD2 zD
      go_wp2_with (first
        | (at_builtin; refine wpList_append_own_at _ rfl _ _ 38 rfl w.heap.size 26 i0 _ 4 32 Try.underlying38 hi hz0 hz1 hz2 rfl (by decide) _ _ _ rfl (HOR.alloc _) ⟨R.heap.size, 0, none⟩ 1 1 [.int .i64 (fh (hc (tcos i))), .int .u64 (fl (hc (tcos i))), .int .i64 (fh (hs (tcos i))), .int .u64 (fl (hs (tcos i)))] rfl rfl ?c1 ?c2 ?c3 ?c4 ?c5 ?_)
        | fail)
      case c1 => exact new4 R _ _ _ _ _
      case c2 => intro u hu; simp at hu; rcases hu with rfl | rfl | rfl | rfl <;> rfl
      case c3 => unfold maxLen; omega
      case c4 => omega
      case c5 => have := HBR.out.size; simp; omega
      intro v2 wz hown2 hgrow _ hown3
      have HO : Hid (wz.ownsRow w.heap.size 26 4 v2 (i + 1) (dirs (i + 1))) := hown2
      have zz : D < wz.heap.size := Nat.lt_of_lt_of_le (by simp; omega) hgrow.size
      have hne : some D ≠ (Value.slice (some ⟨g, 0, none⟩) i cap).ownBlock := fun e => HN.out _ e.symm rfl
      have hcl : ∀ j, wz.cell? ⟨D, j, none⟩ = R.cell? ⟨D, j, none⟩ := fun j => by
        rw [World.cell?_of_block (hgrow.block D (by simp; omega) hne)]; exact (bcell (bl_al (Below.refl R.heap.size R) _)).1 _ _ zR
      have p0 : wz.cell? ⟨D, 0, none⟩ = some (.int .i64 (fh (hc (tcos i)))) := (hcl 0).trans m0
      have p1 : wz.cell? ⟨D, 1, none⟩ = some (.int .u64 (fl (hc (tcos i)))) := (hcl 1).trans m1
      have p2 : wz.cell? ⟨D, 2, none⟩ = some (.int .i64 (fh (hs (tcos i)))) := (hcl 2).trans m2
      have p3 : wz.cell? ⟨D, 3, none⟩ = some (.int .u64 (fl (hs (tcos i)))) := (hcl 3).trans m3
      have HBz : Hid (Below w.heap.size w wz) := (bl_al HBR.out _).grown hgrow (by have := HBR.out.size; simp; omega) (fun q hq => (HOR.lt q hq).1)
      obtain ⟨g2, cap2, rfl⟩ := own_slice HO.out
      clear hown2 hown3 hgrow hcl m0 m1 m2 m3 HOR HBR HN hne zR hi hz0 hz1 hz2
      go_wp2_with fail
      go_roundg k
      case measure => omega
      case rel =>
        have hlo := HBz.out.size
        refine ⟨i + 1, _, _, _, hs (tcos i), by omega, rfl, rfl, ⟨Has.mk4 (by simp) (by simp [go_sem]; rfl) (by simp [go_sem]; rfl) (by simp [go_sem]) (by simp [go_sem]), fun j => by rw [frozen?_alloc_cells]; simp [World.frozen?], HO.out.alloc _, fun k hk => ?_, hlo, HBz.out.alloc hlo _⟩⟩
        have := (HO.out.lt k hk).2; omega
end Go.Proofs.Ytmelipbanbihdaa
namespace Go.Proofs.Ytmelipbanbihdaa
open Go.RowKit
theorem left_facts (A k : Nat) (hk : k < 14) : A % 2 ^ (k + 1) * 2 ^ (16 - (k + 1)) / 32768 = A / 2 ^ k % 2 ∧ A % 2 ^ (k + 1) * 2 ^ (16 - (k + 1)) * 2 % 65536 = A % 2 ^ k * 2 ^ (16 - k) ∧ A % 2 ^ (k + 1) * 2 ^ (16 - (k + 1)) < 65536 := by
  rcases (show k = 0 ∨ k = 1 ∨ k = 2 ∨ k = 3 ∨ k = 4 ∨ k = 5 ∨ k = 6 ∨ k = 7 ∨ k = 8 ∨ k = 9 ∨ k = 10 ∨ k = 11 ∨ k = 12 ∨ k = 13 by omega) with rfl | rfl | rfl | rfl | rfl | rfl | rfl | rfl | rfl | rfl | rfl | rfl | rfl | rfl <;>
    (simp only [Nat.reducePow, Nat.reduceAdd, Nat.reduceSub]; omega)
theorem put4 {B : Nat} {X : World} (a b c d : Value) : Wrote B 0 4 X ((((X.setCell ⟨B, 0, none⟩ a).setCell ⟨B, 1, none⟩ b).setCell ⟨B, 2, none⟩ c).setCell ⟨B, 3, none⟩ d) :=
  Wrote.setCell (Wrote.setCell (Wrote.setCell (Wrote.setCell (Wrote.refl _ _ _ _) (by decide) (by decide) _) (by decide) (by decide) _) (by decide) (by decide) _) (by decide) (by decide) _
theorem Has.kept {B B' : Nat} {l : List Value} {X Y : World} (h : Has B l X) (hW : Wrote B' 0 4 X Y) (n : B ≠ B') : Has B l Y :=
  ⟨Nat.lt_of_lt_of_le h.1 hW.size, fun j x e => by rw [hW.other h.1 n]; exact h.2 j x e⟩
theorem Clear.kept {B B' : Nat} {X Y : World} (h : Clear B X) (hB : B < X.heap.size) (hW : Wrote B' 0 4 X Y) : Clear B Y := fun j => by
  by_cases e : B = B'
  · subst e; rw [hW.frozen]; exact h j
  · rw [World.frozen?_of_block (a := ⟨B, j, none⟩) (hW.block B hB e)]; exact h j
/-- The way, the answer's room, the direction at hand. -/
structure Ro (w : World) (c d x y : Int) (D : Nat) (X : World) : Prop where
  v : Has w.heap.size [.int .i64 (fh x), .int .u64 (fl x), .int .i64 (fh y), .int .u64 (fl y)] X
  r : Has (w.heap.size + 1) [.int .i64 0, .int .u64 0, .int .i64 0, .int .u64 0] X
  d : Has D [.int .i64 (fh c), .int .u64 (fl c), .int .i64 (fh d), .int .u64 (fl d)] X
  zv : Clear w.heap.size X
  zr : Clear (w.heap.size + 1) X
  zd : Clear D X
  lo : w.heap.size + 1 < D
  below : Below w.heap.size w X
theorem Ro.step {w : World} {c d x y : Int} {D : Nat} {X Y : World} (h : Ro w c d x y D X) (g : Below X.heap.size X Y) : Ro w c d x y D Y :=
  ⟨h.v.step g, h.r.step g, h.d.step g, fun j => by rw [(bcell g).2 _ _ h.v.1]; exact h.zv j, fun j => by rw [(bcell g).2 _ _ h.r.1]; exact h.zr j, fun j => by rw [(bcell g).2 _ _ h.d.1]; exact h.zd j, h.lo, bl_trans h.below g⟩
theorem has4 {B : Nat} {X : World} (hB : B < X.heap.size) {u0 u1 u2 u3 : Value} (h0 : X.cell? ⟨B, 0, none⟩ = some u0) (h1 : X.cell? ⟨B, 1, none⟩ = some u1) (h2 : X.cell? ⟨B, 2, none⟩ = some u2) (h3 : X.cell? ⟨B, 3, none⟩ = some u3) (a b c d : Value) :
    Has B [a, b, c, d] ((((X.setCell ⟨B, 0, none⟩ a).setCell ⟨B, 1, none⟩ b).setCell ⟨B, 2, none⟩ c).setCell ⟨B, 3, none⟩ d) :=
  Has.mk4 (Nat.lt_of_lt_of_le hB (put4 a b c d).size) (by simp [go_sem, *]) (by simp [go_sem, *]) (by simp [go_sem, *]) (by simp [go_sem, *])
theorem Ro.put_d {w : World} {c d x y : Int} {D : Nat} {X : World} (h : Ro w c d x y D X) (c2 d2 : Int) :
    Ro w c2 d2 x y D ((((X.setCell ⟨D, 0, none⟩ (.int .i64 (fh c2))).setCell ⟨D, 1, none⟩ (.int .u64 (fl c2))).setCell ⟨D, 2, none⟩ (.int .i64 (fh d2))).setCell ⟨D, 3, none⟩ (.int .u64 (fl d2))) := by
  have hW := put4 (B := D) (X := X) (.int .i64 (fh c2)) (.int .u64 (fl c2)) (.int .i64 (fh d2)) (.int .u64 (fl d2))
  have hl := h.lo
  exact ⟨h.v.kept hW (by omega), h.r.kept hW (by omega), has4 h.d.1 (h.d.2 0 _ rfl) (h.d.2 1 _ rfl) (h.d.2 2 _ rfl) (h.d.2 3 _ rfl) _ _ _ _, h.zv.kept h.v.1 hW, h.zr.kept h.r.1 hW, h.zd.kept h.d.1 hW, hl, h.below.trans (hW.below (B0 := w.heap.size) (by omega) (by have := h.v.1; omega))⟩
theorem Ro.put_v {w : World} {c d x y : Int} {D : Nat} {X : World} (h : Ro w c d x y D X) (x2 y2 : Int) :
    Ro w c d x2 y2 D ((((X.setCell ⟨w.heap.size, 0, none⟩ (.int .i64 (fh x2))).setCell ⟨w.heap.size, 1, none⟩ (.int .u64 (fl x2))).setCell ⟨w.heap.size, 2, none⟩ (.int .i64 (fh y2))).setCell ⟨w.heap.size, 3, none⟩ (.int .u64 (fl y2))) := by
  have hW := put4 (B := w.heap.size) (X := X) (.int .i64 (fh x2)) (.int .u64 (fl x2)) (.int .i64 (fh y2)) (.int .u64 (fl y2))
  have hl := h.lo
  exact ⟨has4 h.v.1 (h.v.2 0 _ rfl) (h.v.2 1 _ rfl) (h.v.2 2 _ rfl) (h.v.2 3 _ rfl) _ _ _ _, h.r.kept hW (by omega), h.d.kept hW (by omega), h.zv.kept h.v.1 hW, h.zr.kept h.r.1 hW, h.zd.kept h.d.1 hW, hl, h.below.trans (hW.below (B0 := w.heap.size) (by omega) (by have := h.v.1; omega))⟩
theorem frz_past {W : World} {B j : Nat} (h : W.heap.size ≤ B) : W.frozen? ⟨B, j, none⟩ = false := by simp [World.frozen?, Array.getElem?_eq_none h]
theorem turn_u16 (a : Int) : IntKind.u16.wrap a = ((ang a : Nat) : Int) := by
  have h : IntKind.u16.wrap a = a % 65536 := by simp [IntKind.wrap, IntKind.bits, IntKind.signed]
  rw [h]; unfold ang; omega
set_option maxRecDepth 20000 in
set_option maxHeartbeats 8000000 in
theorem rotate_any (a x y : Int) (hx : My x) (hy : My y) (w : World) : Calls Try.prog 12 #[vec x y, .int .i64 a] w fun e w' => e = .returned (.tuple #[vec (rx (ang a) x y) (ry (ang a) x y), .int .i64 (re (ang a) x y)]) ∧ Below w.heap.size w w' := by
  have KQ := Lib.hid quarter_any
  have KH : Hid (∀ x y : Int, In1 x → ∀ W, Calls Try.prog 32 #[.agg #[.int .i64 (fh x), .int .u64 (fl x), .int .i64 (fh y), .int .u64 (fl y)]] W fun e w' => e = .returned (.agg #[.int .i64 (fh (hc x)), .int .u64 (fl (hc x)), .int .i64 (fh (hs x)), .int .u64 (fl (hs x))]) ∧ Below W.heap.size W w') := halved_any
  have KT : Hid (∀ a b c d : Int, My a → My b → My c → My d → ∀ W, Calls Try.prog 33 #[.agg #[.int .i64 (fh a), .int .u64 (fl a), .int .i64 (fh b), .int .u64 (fl b)], .agg #[.int .i64 (fh c), .int .u64 (fl c), .int .i64 (fh d), .int .u64 (fl d)]] W fun e w' => e = .returned (.tuple #[.agg #[.int .i64 (fh (tx a b c d)), .int .u64 (fl (tx a b c d)), .int .i64 (fh (ty a b c d)), .int .u64 (fl (ty a b c d))], .int .i64 (te a b c d)]) ∧ Below W.heap.size W w') := turned_any
  have wA := turn_u16 a
  have hA := ang_lt a
  have HE : Hid (rx (ang a) x y = (qt (ang a / 16384) (rot (ang a) 14 0 x y).1 (rot (ang a) 14 0 x y).2.1).1 ∧ ry (ang a) x y = (qt (ang a / 16384) (rot (ang a) 14 0 x y).1 (rot (ang a) 14 0 x y).2.1).2 ∧ re (ang a) x y = (rot (ang a) 14 0 x y).2.2) := ⟨rfl, rfl, rfl⟩
  have HX := Lib.hid hx; have HY := Lib.hid hy
  clear hx hy
  unfold vec
  generalize rx (ang a) x y = rx0 at *
  generalize ry (ang a) x y = ry0 at *
  generalize re (ang a) x y = re0 at *
  generalize ang a = A at *
  have w4 : IntKind.u16.wrap ((A : Int) * 4) = (A : Int) % 16384 * 4 := by
    have h : ∀ n : Int, IntKind.u16.wrap n = n % 65536 := fun n => by simp [IntKind.wrap, IntKind.bits, IntKind.signed]
    rw [h]; omega
  go_enter Try.func12, Try.ntmps12
  go_upto_region 2 with fail
  refine name_world (P := fun W => Code.wp _ _ _ _ W) _ (fun R hR => ?_)
  have HR : Hid (Has w.heap.size [.int .i64 (fh x), .int .u64 (fl x), .int .i64 (fh y), .int .u64 (fl y)] R ∧ Has (w.heap.size + 1) [.int .i64 0, .int .u64 0, .int .i64 0, .int .u64 0] R ∧ Clear w.heap.size R ∧ Clear (w.heap.size + 1) R ∧ Below w.heap.size w R) := by
    rw [hR]
    refine ⟨Has.mk4 (by simp; omega) (by simp [go_sem]) (by simp [go_sem]) (by simp [go_sem]) (by simp [go_sem]), Has.mk4 (by simp) (by simp [go_sem]) (by simp [go_sem]) (by simp [go_sem]) (by simp [go_sem]), fun j => ?_, fun j => ?_, bl_al (bl_al (Below.refl _ _) _) _⟩
    · simp only [frozen?_alloc_cells]; exact frz_past (by omega)
    · simp only [frozen?_alloc_cells]; exact frz_past (by omega)
  clear hR
  go_wp2_with fail
  (with_reducible refine (KQ.out _).mono ?_); rintro e w1 ⟨rfl, hb⟩
  have HS := Lib.hid (show Has w.heap.size [.int .i64 (fh x), .int .u64 (fl x), .int .i64 (fh y), .int .u64 (fl y)] w1 ∧ Has (w.heap.size + 1) [.int .i64 0, .int .u64 0, .int .i64 0, .int .u64 0] w1 ∧ Clear w.heap.size w1 ∧ Clear (w.heap.size + 1) w1 ∧ Below w.heap.size w w1 from
    ⟨HR.out.1.step hb, HR.out.2.1.step hb, fun j => by rw [(bcell hb).2 _ _ HR.out.1.1]; exact HR.out.2.2.1 j, fun j => by rw [(bcell hb).2 _ _ HR.out.2.1.1]; exact HR.out.2.2.2.1 j, bl_trans HR.out.2.2.2.2 hb⟩)
  clear hb KQ HR
  unfold vec
  go_wp2_with fail
  have g0 : Ro w 0 18446744073709551616 x y w1.heap.size (w1.alloc (.cells #[.int .i64 (fh 0), .int .u64 (fl 0), .int .i64 (fh 18446744073709551616), .int .u64 (fl 18446744073709551616)] 26)) := by
    obtain ⟨h1, h2, h3, h4, h5⟩ := HS.out
    have g := bl_al (Below.refl w1.heap.size w1) (.cells #[.int .i64 (fh 0), .int .u64 (fl 0), .int .i64 (fh 18446744073709551616), .int .u64 (fl 18446744073709551616)] 26)
    exact ⟨h1.step g, h2.step g, Has.mk4 (by simp) (by simp [go_sem]) (by simp [go_sem]) (by simp [go_sem]) (by simp [go_sem]), fun j => by rw [(bcell g).2 _ _ h1.1]; exact h3 j, fun j => by rw [(bcell g).2 _ _ h2.1]; exact h4 j, fun j => by rw [frozen?_alloc_cells]; simp [World.frozen?], h2.1, bl_trans h5 g⟩
  have G0 := Lib.hid g0
  clear g0 HS w4 wA
  generalize w1.heap.size = D at *
  go_loopg [8] 14 (fun k lw wr => k ≤ 14 ∧ lw = .int .u16 ((A % 2 ^ k * 2 ^ (16 - k) : Nat) : Int) ∧ ∃ c d x2 y2 : Int, rot A k c x2 y2 = rot A 14 0 x y ∧ In1 c ∧ My x2 ∧ My y2 ∧ Ro w c d x2 y2 D wr)
  case atStart => exact ⟨Nat.le_refl _, congrArg (Value.int .u16) (by simp only [Nat.reducePow, Nat.reduceSub]; omega), _, _, _, _, rfl, ⟨by omega, by omega⟩, HX.out, HY.out, G0.out⟩
  case round =>
    obtain ⟨hk, rfl, c, d, x2, y2, hr, hc1, m1, m2, P⟩ := hrel
    clear G0 HX HY
    have HP := Lib.hid P
    have HRo := Lib.hid hr
    have HC1 := Lib.hid hc1; have M1 := Lib.hid m1; have M2 := Lib.hid m2
    clear P hr hc1 m1 m2
    by_cases h0 : A % 2 ^ gk = 0
    · have HF : Hid (rx0 = (qt (A / 16384) x2 y2).1 ∧ ry0 = (qt (A / 16384) x2 y2).2 ∧ re0 = 0) := by
        have e := HRo.out
        rw [rot_done A gk c x2 y2 h0] at e
        obtain ⟨e1, e2, e3⟩ := HE.out
        rw [← e] at e1 e2 e3
        exact ⟨e1, e2, e3⟩
      have z0 : A % 2 ^ gk * 2 ^ (16 - gk) = 0 := by rw [h0, Nat.zero_mul]
      rw [z0]
      clear HE HRo z0 h0 hk KH KT HC1
      have hq : (A : Int) / 16384 = ((A / 16384 : Nat) : Int) := by omega
      have hq4 : A / 16384 < 4 := by omega
      generalize A / 16384 = q at *
      go_wp2_with fail
      go_loopg [36] q (fun k iv wr => ∃ (n : Nat) (x3 y3 : Int), n + k = q ∧ iv = .int .u16 (n : Int) ∧ qt k x3 y3 = qt q x2 y2 ∧ My x3 ∧ My y3 ∧ Ro w c d x3 y3 D wr)
      case atStart => exact ⟨0, _, _, by omega, rfl, rfl, M1.out, M2.out, HP.out⟩
      case round =>
        obtain ⟨n, x3, y3, hn, rfl, hqt, m3, m4, P⟩ := hrel
        clear HP M1 M2
        have HP := Lib.hid P
        have HQ := Lib.hid hqt
        have M3 := Lib.hid m3; have M4 := Lib.hid m4
        clear P hqt m3 m4
        rcases gk with _ | k
        · obtain rfl : n = q := by omega
          have HG : Hid (rx0 = x3 ∧ ry0 = y3 ∧ re0 = 0) := by
            have e := HQ.out
            obtain ⟨e1, e2, e3⟩ := HF.out
            rw [← e] at e1 e2
            exact ⟨e1, e2, e3⟩
          clear HQ HF M3 M4
          obtain ⟨rfl, rfl, rfl⟩ := HG.out
          clear HG
          have v0 := HP.out.v.2 0 _ rfl; have v1 := HP.out.v.2 1 _ rfl; have v2 := HP.out.v.2 2 _ rfl; have v3 := HP.out.v.2 3 _ rfl; have sv := HP.out.v.1
          have r0 := HP.out.r.2 0 _ rfl; have r1 := HP.out.r.2 1 _ rfl; have r2 := HP.out.r.2 2 _ rfl; have r3 := HP.out.r.2 3 _ rfl; have sr := HP.out.r.1
          have fr : ∀ j, wr.frozen? ⟨w.heap.size + 1, j, none⟩ = false := HP.out.zr
          go_wp2_with fail
          refine bodyPost_ret (by simp [results, Try.results12, go_sem, *]; try rfl) rfl ?_
          exact ⟨rfl, Below.setCell (Below.setCell (Below.setCell (Below.setCell HP.out.below (by simp) _) (by simp) _) (by simp) _) (by simp) _⟩
        · have hlt : (n : Int) < (q : Int) := by omega
          have wn : IntKind.u16.wrap ((n : Int) + 1) = (n : Int) + 1 := by
            have h : ∀ n : Int, IntKind.u16.wrap n = n % 65536 := fun n => by simp [IntKind.wrap, IntKind.bits, IntKind.signed]
            rw [h]; omega
          have KN := Lib.hid (neg_any y3 M4.out)
          go_upto_region 14 with fail
          have v0 := HP.out.v.2 0 _ rfl; have v1 := HP.out.v.2 1 _ rfl; have v2 := HP.out.v.2 2 _ rfl; have v3 := HP.out.v.2 3 _ rfl; have sv := HP.out.v.1
          have fv : ∀ j, wr.frozen? ⟨w.heap.size, j, none⟩ = false := HP.out.zv
          go_region_with (first
            | (go_at_call 34; (with_reducible refine (KN.out _).mono ?_); rintro e w3 ⟨rfl, hb⟩; have hbd : Below wr.heap.size wr w3 := bl_trans (by repeat (first | with_reducible exact Below.refl _ _ | with_reducible apply Below.drew)) hb; have HP3 := Lib.hid (HP.out.step hbd); obtain ⟨hcl, hfr⟩ := bcell hbd; clear hb hbd; have fw : ∀ j, w3.frozen? ⟨w.heap.size, j, none⟩ = false := HP3.out.zv))
          all_goals (
            go_wp2_with fail
            go_roundg k
            case measure => omega
            case rel =>
              refine ⟨n + 1, -y3, x3, by omega, by first | rfl | simp, HQ.out, my_neg2 M4.out, M3.out, ?_⟩
              exact HP3.out.put_v _ _)
    · obtain ⟨k, rfl⟩ : ∃ k, gk = k + 1 := by
        rcases gk with _ | k
        · exact absurd (Nat.mod_one A) h0
        · exact ⟨k, rfl⟩
      obtain ⟨b1, b2, b3⟩ := left_facts A k (by omega)
      have hn0 : A % 2 ^ (k + 1) * 2 ^ (16 - (k + 1)) ≠ 0 := Nat.mul_ne_zero h0 (Nat.ne_of_gt (Nat.two_pow_pos _))
      have HK : Hid (k ≤ 14) := by show _ ≤ _; omega
      clear hk h0
      have HL2 : Hid (IntKind.u16.wrap (((A % 2 ^ (k + 1) * 2 ^ (16 - (k + 1)) : Nat) : Int) * 2) = ((A % 2 ^ k * 2 ^ (16 - k) : Nat) : Int)) := by
        have h : ∀ n : Int, IntKind.u16.wrap n = n % 65536 := fun n => by simp [IntKind.wrap, IntKind.bits, IntKind.signed]
        show _ = _
        rw [h, ← b2]; omega
      obtain ⟨L2, hL2⟩ : ∃ L2 : Nat, L2 = A % 2 ^ k * 2 ^ (16 - k) := ⟨_, rfl⟩
      have HLE := Lib.hid hL2
      rw [← hL2] at HL2
      clear b2 hL2
      generalize A % 2 ^ (k + 1) * 2 ^ (16 - (k + 1)) = L at *
      have hL0 : ((L : Nat) : Int) ≠ 0 := by omega
      have wL := HL2.out
      clear HL2
      have KC := Lib.hid (KH.out c d HC1.out)
      clear KH
      have d0 := HP.out.d.2 0 _ rfl; have d1 := HP.out.d.2 1 _ rfl; have d2 := HP.out.d.2 2 _ rfl; have d3 := HP.out.d.2 3 _ rfl; have sd := HP.out.d.1
      go_wp2_with fail
      (with_reducible refine (KC.out _).mono ?_); rintro e w2 ⟨rfl, hb⟩
      have HP2 := Lib.hid (HP.out.step hb)
      clear hb KC HP
      clear d0 d1 d2 d3 sd
      have d0 := HP2.out.d.2 0 _ rfl; have d1 := HP2.out.d.2 1 _ rfl; have d2 := HP2.out.d.2 2 _ rfl; have d3 := HP2.out.d.2 3 _ rfl; have sd := HP2.out.d.1
      have fd : ∀ j, w2.frozen? ⟨D, j, none⟩ = false := HP2.out.zd
      go_upto_region 7 with fail
      refine name_world (P := fun W => Code.wp _ _ _ _ W) _ (fun R hR => ?_)
      have HPR : Hid (Ro w (hc c) (hs c) x2 y2 D R) := by rw [hR]; exact HP2.out.put_d _ _
      clear hR fd HP2
      clear d0 d1 d2 d3 sd
      by_cases hbit : A / 2 ^ k % 2 = 1
      · have hd : ((L : Nat) : Int) / 32768 = 1 := by omega
        have KC := Lib.hid (KT.out x2 y2 (hc c) (hs c) M1.out M2.out (hc_in HC1.out).my (hs_in HC1.out).my)
        have hon := Lib.hid (@rot_on A k hbit c x2 y2)
        have her := Lib.hid (@rot_err A k hbit c x2 y2)
        have HT := Lib.hid (te_cases x2 y2 (hc c) (hs c))
        have HTM := Lib.hid (tx_my x2 y2 (hc c) (hs c))
        have HCC := Lib.hid (hc_in HC1.out)
        clear KT hbit b1
        generalize tx x2 y2 (hc c) (hs c) = x3 at *
        generalize ty x2 y2 (hc c) (hs c) = y3 at *
        generalize te x2 y2 (hc c) (hs c) = e3 at *
        have v0 := HPR.out.v.2 0 _ rfl; have v1 := HPR.out.v.2 1 _ rfl; have v2 := HPR.out.v.2 2 _ rfl; have v3 := HPR.out.v.2 3 _ rfl; have sv := HPR.out.v.1
        have d0 := HPR.out.d.2 0 _ rfl; have d1 := HPR.out.d.2 1 _ rfl; have d2 := HPR.out.d.2 2 _ rfl; have d3 := HPR.out.d.2 3 _ rfl; have sd := HPR.out.d.1
        go_wp2_with fail
        (with_reducible refine (KC.out _).mono ?_); rintro e w3 ⟨rfl, hb⟩
        have HP3 := Lib.hid (HPR.out.step hb)
        clear hb KC HPR
        clear v0 v1 v2 v3 d0 d1 d2 d3 sv sd
        have v0 := HP3.out.v.2 0 _ rfl; have v1 := HP3.out.v.2 1 _ rfl; have v2 := HP3.out.v.2 2 _ rfl; have v3 := HP3.out.v.2 3 _ rfl; have sv := HP3.out.v.1
        have fv : ∀ j, w3.frozen? ⟨w.heap.size, j, none⟩ = false := HP3.out.zv
        rcases HT.out with ⟨e0, z3, z1, z2⟩ | ⟨e0, z3, z1, z2⟩
        · have HN := Lib.hid (hon.out e0)
          subst e0
          clear hon her HT z1 z2 z3
          go_upto_region 10 with fail
          refine name_world (P := fun W => Code.wp _ _ _ _ W) _ (fun S hS => ?_)
          have HPS : Hid (Ro w (hc c) (hs c) x3 y3 D S) := by rw [hS]; exact HP3.out.put_v _ _
          clear hS fv HP3
          clear v0 v1 v2 v3 sv
          go_wp2_with fail
          go_roundg k
          case measure => omega
          case rel =>
            exact ⟨HK.out, by rw [← HLE.out], _, _, _, _, HN.out.symm.trans HRo.out, HCC.out, HTM.out.1, HTM.out.2, HPS.out⟩
        · have HN : Hid (rx0 = 0 ∧ ry0 = 0 ∧ re0 = 3) := by
            have e := HRo.out
            rw [her.out (by rw [e0]; decide)] at e
            obtain ⟨e1, e2, e3'⟩ := HE.out
            rw [← e, ] at e1 e2 e3'
            rw [qt_zero] at e1 e2
            exact ⟨e1, e2, e3'⟩
          obtain ⟨rfl, rfl, rfl⟩ := HN.out
          subst e0
          clear hon her HT HN HE HRo z1 z2 z3
          go_upto_region 10 with fail
          refine name_world (P := fun W => Code.wp _ _ _ _ W) _ (fun S hS => ?_)
          have HPS : Hid (Ro w (hc c) (hs c) x3 y3 D S) := by rw [hS]; exact HP3.out.put_v _ _
          clear hS fv HP3
          clear v0 v1 v2 v3 sv
          have r0 := HPS.out.r.2 0 _ rfl; have r1 := HPS.out.r.2 1 _ rfl; have r2 := HPS.out.r.2 2 _ rfl; have r3 := HPS.out.r.2 3 _ rfl; have sr := HPS.out.r.1
          have fr : ∀ j, S.frozen? ⟨w.heap.size + 1, j, none⟩ = false := HPS.out.zr
          go_wp2_with fail
          refine bodyPost_ret (by simp [results, Try.results12, go_sem, *]; try rfl) rfl ?_
          exact ⟨by rw [zero_words.1, zero_words.2], Below.setCell (Below.setCell (Below.setCell (Below.setCell HPS.out.below (by simp) _) (by simp) _) (by simp) _) (by simp) _⟩
      · have hd : ((L : Nat) : Int) / 32768 = 0 := by omega
        have HN := Lib.hid (rot_off hbit c x2 y2)
        have HCC := Lib.hid (hc_in HC1.out)
        clear KT hbit b1
        go_wp2_with fail
        go_roundg k
        case measure => omega
        case rel =>
          exact ⟨HK.out, by rw [← HLE.out], _, _, _, _, HN.out.symm.trans HRo.out, HCC.out, M1.out, M2.out, HPR.out⟩
end Go.Proofs.Ytmelipbanbihdaa
