/- The document's product of numbers with a point: the walks. -/
import Derived.Test.YtmelipbanbihdaaRefFix5
namespace Go.Proofs.Ytmelipbanbihdaa
open Go.RowKit

set_option maxRecDepth 20000 in
set_option maxHeartbeats 16000000 in
theorem rmul_false (h l m n d1 d0 g1 g0 p3 p2 p1 p0 s1 s0 t3 t2 t1 t0 x1 x0 k : Int) (p q : Bool) (ha : decide (h < 0) = p) (hb : decide (m < 0) = q) (w : World)
    (C1 : ∀ W, Calls Try.prog 24 #[.agg #[.int .i64 h, .int .u64 l]] W fun e w' => e = .returned (.agg #[.int .u64 d1, .int .u64 d0]) ∧ Below W.heap.size W w')
    (C2 : ∀ W, Calls Try.prog 24 #[.agg #[.int .i64 m, .int .u64 n]] W fun e w' => e = .returned (.agg #[.int .u64 g1, .int .u64 g0]) ∧ Below W.heap.size W w')
    (C3 : ∀ W, Calls Try.prog 40 #[.agg #[.int .u64 d1, .int .u64 d0], .agg #[.int .u64 g1, .int .u64 g0]] W fun e w' => e = .returned (.agg #[.int .u64 p3, .int .u64 p2, .int .u64 p1, .int .u64 p0]) ∧ Below W.heap.size W w')
    (C4 : ∀ W, Calls Try.prog 41 #[.agg #[.int .u64 p1, .int .u64 p0], .agg #[.int .u64 0, .int .u64 9223372036854775808]] W fun e w' => e = .returned (.agg #[.int .u64 s1, .int .u64 s0, .bool false]) ∧ Below W.heap.size W w')
    (C5 : ∀ W, Calls Try.prog 43 #[.agg #[.int .u64 p3, .int .u64 p2, .int .u64 s1, .int .u64 s0], .int .i64 64] W fun e w' => e = .returned (.agg #[.int .u64 t3, .int .u64 t2, .int .u64 t1, .int .u64 t0]) ∧ Below W.heap.size W w')
    (C6 : ∀ W, Calls Try.prog 42 #[.bool (!(p == q)), .agg #[.int .u64 t3, .int .u64 t2, .int .u64 t1, .int .u64 t0]] W fun e w' => e = .returned (.agg #[.int .i64 x1, .int .u64 x0, .int .i64 k]) ∧ Below W.heap.size W w') :
    Calls Try.prog 25 #[.agg #[.int .i64 h, .int .u64 l], .agg #[.int .i64 m, .int .u64 n]] w fun e w' => e = .returned (.agg #[.int .i64 x1, .int .u64 x0, .int .i64 k]) ∧ Below w.heap.size w w' := by
  have K1 := Lib.hid C1; have K2 := Lib.hid C2; have K3 := Lib.hid C3; have K4 := Lib.hid C4; have K5 := Lib.hid C5; have K6 := Lib.hid C6
  clear C1 C2 C3 C4 C5 C6
  have fld := field_part
  go_enter Try.func25, Try.ntmps25
  go_upto_region 1 with fail
  refine name_world (P := fun W => Code.wp _ _ _ _ W) _ (fun R1 hR1 => ?_)
  have zR1_a : w.heap.size < R1.heap.size := by rw [hR1]; first | omega | (simp <;> omega)
  have yR1_a : w.heap.size < R1.heap.size + 1 := by omega
  have yyR1_a : w.heap.size < R1.heap.size + 1 + 1 := by omega
  have cR1_a_0 : R1.cell? ⟨w.heap.size, 0, none⟩ = some (.int .i64 h) := by rw [hR1]; first | assumption | (simp [go_sem, *]; done)
  have cR1_a_1 : R1.cell? ⟨w.heap.size, 1, none⟩ = some (.int .u64 l) := by rw [hR1]; first | assumption | (simp [go_sem, *]; done)
  have zR1_b : w.heap.size + 1 < R1.heap.size := by rw [hR1]; first | omega | (simp <;> omega)
  have yR1_b : w.heap.size + 1 < R1.heap.size + 1 := by omega
  have yyR1_b : w.heap.size + 1 < R1.heap.size + 1 + 1 := by omega
  have cR1_b_0 : R1.cell? ⟨w.heap.size + 1, 0, none⟩ = some (.int .i64 m) := by rw [hR1]; first | assumption | (simp [go_sem, *]; done)
  have cR1_b_1 : R1.cell? ⟨w.heap.size + 1, 1, none⟩ = some (.int .u64 n) := by rw [hR1]; first | assumption | (simp [go_sem, *]; done)
  have zR1_r : w.heap.size + 1 + 1 < R1.heap.size := by rw [hR1]; first | omega | (simp <;> omega)
  have yR1_r : w.heap.size + 1 + 1 < R1.heap.size + 1 := by omega
  have yyR1_r : w.heap.size + 1 + 1 < R1.heap.size + 1 + 1 := by omega
  have cR1_r_0 : R1.cell? ⟨w.heap.size + 1 + 1, 0, none⟩ = some (.int .i64 0) := by rw [hR1]; first | assumption | (simp [go_sem, *]; done)
  have cR1_r_1 : R1.cell? ⟨w.heap.size + 1 + 1, 1, none⟩ = some (.int .u64 0) := by rw [hR1]; first | assumption | (simp [go_sem, *]; done)
  have cR1_r_2 : R1.cell? ⟨w.heap.size + 1 + 1, 2, none⟩ = some (.int .i64 0) := by rw [hR1]; first | assumption | (simp [go_sem, *]; done)
  have fR1_r : ∀ j, R1.frozen? ⟨w.heap.size + 1 + 1, j, none⟩ = false := fun j => by rw [hR1]; first | (simp [go_sem, *]; done) | (simp only [frozen?_alloc_cells]; rw [hfrw0 _ _ (by first | omega | (simp <;> omega))]; simp [frozen?_alloc_cells, World.frozen?]; done) | (simp [frozen?_alloc_cells, World.frozen?, *]; done)
  have lo_r : w.heap.size ≤ w.heap.size + 1 + 1 := by omega
  have na_r_a : ¬ (w.heap.size + 1 + 1 = w.heap.size) := by omega
  have nb_r_a : ¬ (w.heap.size = w.heap.size + 1 + 1) := by omega
  have na_r_b : ¬ (w.heap.size + 1 + 1 = w.heap.size + 1) := by omega
  have nb_r_b : ¬ (w.heap.size + 1 = w.heap.size + 1 + 1) := by omega
  have HBR1 : Hid (Below w.heap.size w R1) := by rw [hR1]; show Below _ _ _; exact (by repeat (first | with_reducible exact Below.refl _ _ | with_reducible exact Hid.out (by assumption) | with_reducible refine Below.setCell ?_ (by first | (simp; done) | omega | (simp <;> omega)) _ | with_reducible refine bl_al ?_ _ | with_reducible apply Below.drew))
  clear hR1
  go_cut [5] (fun slot0 X1 => ∃ bX1p : Nat, slot0 = .pointer (some ⟨bX1p, 0, none⟩) ∧ R1.heap.size ≤ bX1p ∧ Below R1.heap.size R1 X1 ∧ Has (bX1p) [.int .u64 p3, .int .u64 p2, .int .u64 p1, .int .u64 p0] X1 ∧ Clear (bX1p) X1)
  case first =>
    clear HBR1
    have ltt : ∀ n : Nat, n < n + 1 + 1 := fun n => by omega
    have lttt : ∀ n : Nat, n + 1 < n + 1 + 1 := fun n => by omega
    go_region_held3 (fun w' => w'.cell? ⟨w.heap.size, 0, none⟩ = some (.int .i64 h) ∧ w'.cell? ⟨w.heap.size, 1, none⟩ = some (.int .u64 l) ∧ w'.cell? ⟨w.heap.size + 1, 0, none⟩ = some (.int .i64 m) ∧ w'.cell? ⟨w.heap.size + 1, 1, none⟩ = some (.int .u64 n)) (first | (simp [*, go_sem]; done) | (simp [*, go_sem, World.cell?_alloc_past]; done))
      (first
        | (go_at_call 24; (with_reducible refine (K1.out _).mono ?_); rintro e w1 ⟨rfl, hb⟩; (first | (with_reducible (obtain ⟨hclw1, hfrw1⟩ := bcell_drew hb)) | (obtain ⟨hclw1, hfrw1⟩ := bcell hb)); have zw1_a : w.heap.size < w1.heap.size := (by first | omega | (have hz := hb.size; (try simp at hz); omega)); have yw1_a : w.heap.size < w1.heap.size + 1 := (by omega); have yyw1_a : w.heap.size < w1.heap.size + 1 + 1 := (by omega); have zw1_b : w.heap.size + 1 < w1.heap.size := (by first | omega | (have hz := hb.size; (try simp at hz); omega)); have yw1_b : w.heap.size + 1 < w1.heap.size + 1 := (by omega); have yyw1_b : w.heap.size + 1 < w1.heap.size + 1 + 1 := (by omega); (try have sw1_0 : R1.heap.size < w1.heap.size := (by first | omega | (have hz := hb.size; (try simp at hz); omega))); (try have syw1_0 : R1.heap.size < w1.heap.size + 1 := (by omega)); (try have stw1_0 : R1.heap.size + 1 < w1.heap.size := (by first | omega | (have hz := hb.size; (try simp at hz); omega))); have sxw1_0 : R1.heap.size ≤ w1.heap.size := (by first | omega | (have hz := hb.size; (try simp at hz); omega)); have HBw1 : Hid (Below R1.heap.size R1 w1) := (bl_trans (by repeat (first | with_reducible exact Below.refl _ _ | with_reducible exact Hid.out (by assumption) | with_reducible refine Below.setCell ?_ (by first | (simp; done) | omega | (simp <;> omega)) _ | with_reducible refine bl_al ?_ _ | with_reducible apply Below.drew)) hb); clear hb; clear K1)
        | (go_at_call 24; (with_reducible refine (K2.out _).mono ?_); rintro e w2 ⟨rfl, hb⟩; obtain ⟨hclw2, hfrw2⟩ := bcell hb; have zw2_a : w.heap.size < w2.heap.size := (by first | omega | (have hz := hb.size; (try simp at hz); omega)); have yw2_a : w.heap.size < w2.heap.size + 1 := (by omega); have yyw2_a : w.heap.size < w2.heap.size + 1 + 1 := (by omega); have zw2_b : w.heap.size + 1 < w2.heap.size := (by first | omega | (have hz := hb.size; (try simp at hz); omega)); have yw2_b : w.heap.size + 1 < w2.heap.size + 1 := (by omega); have yyw2_b : w.heap.size + 1 < w2.heap.size + 1 + 1 := (by omega); (try have sw2_0 : R1.heap.size < w2.heap.size := (by first | omega | (have hz := hb.size; (try simp at hz); omega))); (try have syw2_0 : R1.heap.size < w2.heap.size + 1 := (by omega)); (try have stw2_0 : R1.heap.size + 1 < w2.heap.size := (by first | omega | (have hz := hb.size; (try simp at hz); omega))); have sxw2_0 : R1.heap.size ≤ w2.heap.size := (by first | omega | (have hz := hb.size; (try simp at hz); omega)); (try have sw2_w1 : w1.heap.size < w2.heap.size := (by first | omega | (have hz := hb.size; (try simp at hz); omega))); (try have syw2_w1 : w1.heap.size < w2.heap.size + 1 := (by omega)); (try have stw2_w1 : w1.heap.size + 1 < w2.heap.size := (by first | omega | (have hz := hb.size; (try simp at hz); omega))); have sxw2_w1 : w1.heap.size ≤ w2.heap.size := (by first | omega | (have hz := hb.size; (try simp at hz); omega)); have HBw2 : Hid (Below R1.heap.size R1 w2) := (bl_trans (by repeat (first | with_reducible exact Below.refl _ _ | with_reducible exact Hid.out (by assumption) | with_reducible refine Below.setCell ?_ (by first | (simp; done) | omega | (simp <;> omega)) _ | with_reducible refine bl_al ?_ _ | with_reducible apply Below.drew)) hb); clear hb; clear K2)
        | (go_at_call 40; (with_reducible refine (K3.out _).mono ?_); rintro e w3 ⟨rfl, hb⟩; obtain ⟨hclw3, hfrw3⟩ := bcell hb; have zw3_a : w.heap.size < w3.heap.size := (by first | omega | (have hz := hb.size; (try simp at hz); omega)); have yw3_a : w.heap.size < w3.heap.size + 1 := (by omega); have yyw3_a : w.heap.size < w3.heap.size + 1 + 1 := (by omega); have zw3_b : w.heap.size + 1 < w3.heap.size := (by first | omega | (have hz := hb.size; (try simp at hz); omega)); have yw3_b : w.heap.size + 1 < w3.heap.size + 1 := (by omega); have yyw3_b : w.heap.size + 1 < w3.heap.size + 1 + 1 := (by omega); (try have sw3_0 : R1.heap.size < w3.heap.size := (by first | omega | (have hz := hb.size; (try simp at hz); omega))); (try have syw3_0 : R1.heap.size < w3.heap.size + 1 := (by omega)); (try have stw3_0 : R1.heap.size + 1 < w3.heap.size := (by first | omega | (have hz := hb.size; (try simp at hz); omega))); have sxw3_0 : R1.heap.size ≤ w3.heap.size := (by first | omega | (have hz := hb.size; (try simp at hz); omega)); (try have sw3_w1 : w1.heap.size < w3.heap.size := (by first | omega | (have hz := hb.size; (try simp at hz); omega))); (try have syw3_w1 : w1.heap.size < w3.heap.size + 1 := (by omega)); (try have stw3_w1 : w1.heap.size + 1 < w3.heap.size := (by first | omega | (have hz := hb.size; (try simp at hz); omega))); have sxw3_w1 : w1.heap.size ≤ w3.heap.size := (by first | omega | (have hz := hb.size; (try simp at hz); omega)); (try have sw3_w2 : w2.heap.size < w3.heap.size := (by first | omega | (have hz := hb.size; (try simp at hz); omega))); (try have syw3_w2 : w2.heap.size < w3.heap.size + 1 := (by omega)); (try have stw3_w2 : w2.heap.size + 1 < w3.heap.size := (by first | omega | (have hz := hb.size; (try simp at hz); omega))); have sxw3_w2 : w2.heap.size ≤ w3.heap.size := (by first | omega | (have hz := hb.size; (try simp at hz); omega)); have HBw3 : Hid (Below R1.heap.size R1 w3) := (bl_trans (by repeat (first | with_reducible exact Below.refl _ _ | with_reducible exact Hid.out (by assumption) | with_reducible refine Below.setCell ?_ (by first | (simp; done) | omega | (simp <;> omega)) _ | with_reducible refine bl_al ?_ _ | with_reducible apply Below.drew)) hb); clear hb; clear K3))
    all_goals (rename_i hHeld; clear hHeld; go_wp2_with fail; go_meet; exact ⟨_, rfl, (by first | omega | (simp <;> omega)), (by repeat (first | with_reducible exact Below.refl _ _ | with_reducible exact Hid.out (by assumption) | with_reducible refine Below.setCell ?_ (by first | (simp; done) | omega | (simp <;> omega)) _ | with_reducible refine bl_al ?_ _ | with_reducible apply Below.drew)), Has.mk4 (by first | (simp <;> omega) | omega) (by simp [go_sem, *]) (by simp [go_sem, *]) (by simp [go_sem, *]) (by simp [go_sem, *]), (fun j => by first | (simp [go_sem, *]; done) | (simp [frozen?_alloc_cells, World.frozen?_setCell, World.frozen?, *]; done) | (simp only [World.frozen?_setCell, frozen?_alloc_cells]; first | exact frozen_fix (by first | omega | (simp <;> omega)) | (simp [*]; done)) | (simp only [World.frozen?_setCell, frozen?_alloc_cells, World.frozen?_drew]; exact frozen_fix (by first | omega | (simp <;> omega))))⟩)
  case rest =>
  obtain ⟨X1, hX1⟩ : ∃ X, X = wc := ⟨wc, rfl⟩
  subst hX1
  obtain ⟨bX1p, rfl, m_bX1p, hX, g_p, c_p⟩ := hcut
  have lw_bX1p : w.heap.size + 1 + 1 + 1 ≤ bX1p := by omega
  have zX1_a : w.heap.size < X1.heap.size := Nat.lt_of_lt_of_le zR1_a hX.size
  have cX1_a_0 : X1.cell? ⟨w.heap.size, 0, none⟩ = some (.int .i64 h) := by rw [(bcell hX).1 _ _ zR1_a]; exact cR1_a_0
  have cX1_a_1 : X1.cell? ⟨w.heap.size, 1, none⟩ = some (.int .u64 l) := by rw [(bcell hX).1 _ _ zR1_a]; exact cR1_a_1
  have zX1_b : w.heap.size + 1 < X1.heap.size := Nat.lt_of_lt_of_le zR1_b hX.size
  have cX1_b_0 : X1.cell? ⟨w.heap.size + 1, 0, none⟩ = some (.int .i64 m) := by rw [(bcell hX).1 _ _ zR1_b]; exact cR1_b_0
  have cX1_b_1 : X1.cell? ⟨w.heap.size + 1, 1, none⟩ = some (.int .u64 n) := by rw [(bcell hX).1 _ _ zR1_b]; exact cR1_b_1
  have zX1_r : w.heap.size + 1 + 1 < X1.heap.size := Nat.lt_of_lt_of_le zR1_r hX.size
  have cX1_r_0 : X1.cell? ⟨w.heap.size + 1 + 1, 0, none⟩ = some (.int .i64 0) := by rw [(bcell hX).1 _ _ zR1_r]; exact cR1_r_0
  have cX1_r_1 : X1.cell? ⟨w.heap.size + 1 + 1, 1, none⟩ = some (.int .u64 0) := by rw [(bcell hX).1 _ _ zR1_r]; exact cR1_r_1
  have cX1_r_2 : X1.cell? ⟨w.heap.size + 1 + 1, 2, none⟩ = some (.int .i64 0) := by rw [(bcell hX).1 _ _ zR1_r]; exact cR1_r_2
  have fX1_r : ∀ j, X1.frozen? ⟨w.heap.size + 1 + 1, j, none⟩ = false := fun j => by rw [(bcell hX).2 _ _ zR1_r]; exact fR1_r j
  have zX1_p := g_p.1; have cX1_p_0 := g_p.2 0 _ rfl; have cX1_p_1 := g_p.2 1 _ rfl; have cX1_p_2 := g_p.2 2 _ rfl; have cX1_p_3 := g_p.2 3 _ rfl; clear g_p
  have fX1_p : ∀ j, X1.frozen? ⟨bX1p, j, none⟩ = false := c_p; clear c_p
  have nebX1p_r : ¬ (bX1p = w.heap.size + 1 + 1) := by omega
  have ndbX1p_r : ¬ (w.heap.size + 1 + 1 = bX1p) := by omega
  have HBX1 : Hid (Below w.heap.size w X1) := bl_trans HBR1.out hX
  clear hX
  clear zR1_a yR1_a yyR1_a cR1_a_0 cR1_a_1 zR1_b yR1_b yyR1_b cR1_b_0 cR1_b_1 zR1_r yR1_r yyR1_r cR1_r_0 cR1_r_1 cR1_r_2 fR1_r HBR1 m_bX1p
  go_upto_region 2 with fail
  refine name_world (P := fun W => Code.wp _ _ _ _ W) _ (fun R2 hR2 => ?_)
  have zR2_a : w.heap.size < R2.heap.size := by rw [hR2]; first | omega | (simp <;> omega)
  have yR2_a : w.heap.size < R2.heap.size + 1 := by omega
  have yyR2_a : w.heap.size < R2.heap.size + 1 + 1 := by omega
  have cR2_a_0 : R2.cell? ⟨w.heap.size, 0, none⟩ = some (.int .i64 h) := by rw [hR2]; first | assumption | (simp [go_sem, *]; done)
  have cR2_a_1 : R2.cell? ⟨w.heap.size, 1, none⟩ = some (.int .u64 l) := by rw [hR2]; first | assumption | (simp [go_sem, *]; done)
  have zR2_b : w.heap.size + 1 < R2.heap.size := by rw [hR2]; first | omega | (simp <;> omega)
  have yR2_b : w.heap.size + 1 < R2.heap.size + 1 := by omega
  have yyR2_b : w.heap.size + 1 < R2.heap.size + 1 + 1 := by omega
  have cR2_b_0 : R2.cell? ⟨w.heap.size + 1, 0, none⟩ = some (.int .i64 m) := by rw [hR2]; first | assumption | (simp [go_sem, *]; done)
  have cR2_b_1 : R2.cell? ⟨w.heap.size + 1, 1, none⟩ = some (.int .u64 n) := by rw [hR2]; first | assumption | (simp [go_sem, *]; done)
  have zR2_r : w.heap.size + 1 + 1 < R2.heap.size := by rw [hR2]; first | omega | (simp <;> omega)
  have yR2_r : w.heap.size + 1 + 1 < R2.heap.size + 1 := by omega
  have yyR2_r : w.heap.size + 1 + 1 < R2.heap.size + 1 + 1 := by omega
  have cR2_r_0 : R2.cell? ⟨w.heap.size + 1 + 1, 0, none⟩ = some (.int .i64 0) := by rw [hR2]; first | assumption | (simp [go_sem, *]; done)
  have cR2_r_1 : R2.cell? ⟨w.heap.size + 1 + 1, 1, none⟩ = some (.int .u64 0) := by rw [hR2]; first | assumption | (simp [go_sem, *]; done)
  have cR2_r_2 : R2.cell? ⟨w.heap.size + 1 + 1, 2, none⟩ = some (.int .i64 0) := by rw [hR2]; first | assumption | (simp [go_sem, *]; done)
  have fR2_r : ∀ j, R2.frozen? ⟨w.heap.size + 1 + 1, j, none⟩ = false := fun j => by rw [hR2]; first | (simp [go_sem, *]; done) | (simp only [frozen?_alloc_cells]; rw [hfrX1 _ _ (by first | omega | (simp <;> omega))]; simp [frozen?_alloc_cells, World.frozen?]; done) | (simp [frozen?_alloc_cells, World.frozen?, *]; done)
  have zR2_p : bX1p < R2.heap.size := by rw [hR2]; first | omega | (simp <;> omega)
  have yR2_p : bX1p < R2.heap.size + 1 := by omega
  have yyR2_p : bX1p < R2.heap.size + 1 + 1 := by omega
  have cR2_p_0 : R2.cell? ⟨bX1p, 0, none⟩ = some (.int .u64 p3) := by rw [hR2]; first | assumption | (simp [go_sem, *]; done)
  have cR2_p_1 : R2.cell? ⟨bX1p, 1, none⟩ = some (.int .u64 p2) := by rw [hR2]; first | assumption | (simp [go_sem, *]; done)
  have cR2_p_2 : R2.cell? ⟨bX1p, 2, none⟩ = some (.int .u64 p1) := by rw [hR2]; first | assumption | (simp [go_sem, *]; done)
  have cR2_p_3 : R2.cell? ⟨bX1p, 3, none⟩ = some (.int .u64 p0) := by rw [hR2]; first | assumption | (simp [go_sem, *]; done)
  have fR2_p : ∀ j, R2.frozen? ⟨bX1p, j, none⟩ = false := fun j => by rw [hR2]; first | (simp [go_sem, *]; done) | (simp only [frozen?_alloc_cells]; rw [hfrX1 _ _ (by first | omega | (simp <;> omega))]; simp [frozen?_alloc_cells, World.frozen?]; done) | (simp [frozen?_alloc_cells, World.frozen?, *]; done)
  have lo_p : w.heap.size ≤ bX1p := by omega
  have na_r_p : ¬ (w.heap.size + 1 + 1 = bX1p) := by omega
  have nb_r_p : ¬ (bX1p = w.heap.size + 1 + 1) := by omega
  have na_p_a : ¬ (bX1p = w.heap.size) := by omega
  have nb_p_a : ¬ (w.heap.size = bX1p) := by omega
  have na_p_b : ¬ (bX1p = w.heap.size + 1) := by omega
  have nb_p_b : ¬ (w.heap.size + 1 = bX1p) := by omega
  have na_p_r : ¬ (bX1p = w.heap.size + 1 + 1) := by omega
  have nb_p_r : ¬ (w.heap.size + 1 + 1 = bX1p) := by omega
  have HBR2 : Hid (Below w.heap.size w R2) := by rw [hR2]; show Below _ _ _; exact (by repeat (first | with_reducible exact Below.refl _ _ | with_reducible exact Hid.out (by assumption) | with_reducible refine Below.setCell ?_ (by first | (simp; done) | omega | (simp <;> omega)) _ | with_reducible refine bl_al ?_ _ | with_reducible apply Below.drew))
  clear hR2
  clear HBX1 zX1_a cX1_a_0 cX1_a_1 zX1_b cX1_b_0 cX1_b_1 zX1_r cX1_r_0 cX1_r_1 cX1_r_2 fX1_r zX1_p cX1_p_0 cX1_p_1 cX1_p_2 cX1_p_3 fX1_p
  go_wp2_with fail
  (with_reducible refine (K4.out _).mono ?_); rintro e w4 ⟨rfl, hb⟩; obtain ⟨hclw4, hfrw4⟩ := bcell hb; have zw4_a : w.heap.size < w4.heap.size := (by first | omega | (have hz := hb.size; (try simp at hz); omega)); have yw4_a : w.heap.size < w4.heap.size + 1 := (by omega); have yyw4_a : w.heap.size < w4.heap.size + 1 + 1 := (by omega); have zw4_b : w.heap.size + 1 < w4.heap.size := (by first | omega | (have hz := hb.size; (try simp at hz); omega)); have yw4_b : w.heap.size + 1 < w4.heap.size + 1 := (by omega); have yyw4_b : w.heap.size + 1 < w4.heap.size + 1 + 1 := (by omega); have zw4_r : w.heap.size + 1 + 1 < w4.heap.size := (by first | omega | (have hz := hb.size; (try simp at hz); omega)); have yw4_r : w.heap.size + 1 + 1 < w4.heap.size + 1 := (by omega); have yyw4_r : w.heap.size + 1 + 1 < w4.heap.size + 1 + 1 := (by omega); have zw4_p : bX1p < w4.heap.size := (by first | omega | (have hz := hb.size; (try simp at hz); omega)); have yw4_p : bX1p < w4.heap.size + 1 := (by omega); have yyw4_p : bX1p < w4.heap.size + 1 + 1 := (by omega); have sxw4_0 : R2.heap.size ≤ w4.heap.size := (by first | omega | (have hz := hb.size; (try simp at hz); omega)); have HBw4 : Hid (Below w.heap.size w w4) := (bl_trans (by repeat (first | with_reducible exact Below.refl _ _ | with_reducible exact Hid.out (by assumption) | with_reducible refine Below.setCell ?_ (by first | (simp; done) | omega | (simp <;> omega)) _ | with_reducible refine bl_al ?_ _ | with_reducible apply Below.drew)) hb); clear hb
  have fw4_r : ∀ j, w4.frozen? ⟨w.heap.size + 1 + 1, j, none⟩ = false := fun j => by rw [hfrw4 _ _ (by first | exact zR2_r | (simp; exact zR2_r))]; exact fR2_r j
  have fw4_p : ∀ j, w4.frozen? ⟨bX1p, j, none⟩ = false := fun j => by rw [hfrw4 _ _ (by first | exact zR2_p | (simp; exact zR2_p))]; exact fR2_p j
  go_upto_region 6 with fail
  refine name_world (P := fun W => Code.wp _ _ _ _ W) _ (fun R3 hR3 => ?_)
  have zR3_a : w.heap.size < R3.heap.size := by rw [hR3]; first | omega | (simp <;> omega)
  have yR3_a : w.heap.size < R3.heap.size + 1 := by omega
  have yyR3_a : w.heap.size < R3.heap.size + 1 + 1 := by omega
  have cR3_a_0 : R3.cell? ⟨w.heap.size, 0, none⟩ = some (.int .i64 h) := by rw [hR3]; first | assumption | (simp [go_sem, *]; done)
  have cR3_a_1 : R3.cell? ⟨w.heap.size, 1, none⟩ = some (.int .u64 l) := by rw [hR3]; first | assumption | (simp [go_sem, *]; done)
  have zR3_b : w.heap.size + 1 < R3.heap.size := by rw [hR3]; first | omega | (simp <;> omega)
  have yR3_b : w.heap.size + 1 < R3.heap.size + 1 := by omega
  have yyR3_b : w.heap.size + 1 < R3.heap.size + 1 + 1 := by omega
  have cR3_b_0 : R3.cell? ⟨w.heap.size + 1, 0, none⟩ = some (.int .i64 m) := by rw [hR3]; first | assumption | (simp [go_sem, *]; done)
  have cR3_b_1 : R3.cell? ⟨w.heap.size + 1, 1, none⟩ = some (.int .u64 n) := by rw [hR3]; first | assumption | (simp [go_sem, *]; done)
  have zR3_r : w.heap.size + 1 + 1 < R3.heap.size := by rw [hR3]; first | omega | (simp <;> omega)
  have yR3_r : w.heap.size + 1 + 1 < R3.heap.size + 1 := by omega
  have yyR3_r : w.heap.size + 1 + 1 < R3.heap.size + 1 + 1 := by omega
  have cR3_r_0 : R3.cell? ⟨w.heap.size + 1 + 1, 0, none⟩ = some (.int .i64 0) := by rw [hR3]; first | assumption | (simp [go_sem, *]; done)
  have cR3_r_1 : R3.cell? ⟨w.heap.size + 1 + 1, 1, none⟩ = some (.int .u64 0) := by rw [hR3]; first | assumption | (simp [go_sem, *]; done)
  have cR3_r_2 : R3.cell? ⟨w.heap.size + 1 + 1, 2, none⟩ = some (.int .i64 0) := by rw [hR3]; first | assumption | (simp [go_sem, *]; done)
  have fR3_r : ∀ j, R3.frozen? ⟨w.heap.size + 1 + 1, j, none⟩ = false := fun j => by rw [hR3]; first | (simp [go_sem, *]; done) | (simp only [frozen?_alloc_cells]; rw [hfrw4 _ _ (by first | omega | (simp <;> omega))]; simp [frozen?_alloc_cells, World.frozen?]; done) | (simp [frozen?_alloc_cells, World.frozen?, *]; done)
  have zR3_p : bX1p < R3.heap.size := by rw [hR3]; first | omega | (simp <;> omega)
  have yR3_p : bX1p < R3.heap.size + 1 := by omega
  have yyR3_p : bX1p < R3.heap.size + 1 + 1 := by omega
  have cR3_p_0 : R3.cell? ⟨bX1p, 0, none⟩ = some (.int .u64 p3) := by rw [hR3]; first | assumption | (simp [go_sem, *]; done)
  have cR3_p_1 : R3.cell? ⟨bX1p, 1, none⟩ = some (.int .u64 p2) := by rw [hR3]; first | assumption | (simp [go_sem, *]; done)
  have cR3_p_2 : R3.cell? ⟨bX1p, 2, none⟩ = some (.int .u64 s1) := by rw [hR3]; first | assumption | (simp [go_sem, *]; done)
  have cR3_p_3 : R3.cell? ⟨bX1p, 3, none⟩ = some (.int .u64 s0) := by rw [hR3]; first | assumption | (simp [go_sem, *]; done)
  have fR3_p : ∀ j, R3.frozen? ⟨bX1p, j, none⟩ = false := fun j => by rw [hR3]; first | (simp [go_sem, *]; done) | (simp only [frozen?_alloc_cells]; rw [hfrw4 _ _ (by first | omega | (simp <;> omega))]; simp [frozen?_alloc_cells, World.frozen?]; done) | (simp [frozen?_alloc_cells, World.frozen?, *]; done)
  have zR3_s : w4.heap.size < R3.heap.size := by rw [hR3]; first | omega | (simp <;> omega)
  have yR3_s : w4.heap.size < R3.heap.size + 1 := by omega
  have yyR3_s : w4.heap.size < R3.heap.size + 1 + 1 := by omega
  have cR3_s_0 : R3.cell? ⟨w4.heap.size, 0, none⟩ = some (.int .u64 s1) := by rw [hR3]; first | assumption | (simp [go_sem, *]; done)
  have cR3_s_1 : R3.cell? ⟨w4.heap.size, 1, none⟩ = some (.int .u64 s0) := by rw [hR3]; first | assumption | (simp [go_sem, *]; done)
  have cR3_s_2 : R3.cell? ⟨w4.heap.size, 2, none⟩ = some (.bool false) := by rw [hR3]; first | assumption | (simp [go_sem, *]; done)
  have na_r_s : ¬ (w.heap.size + 1 + 1 = w4.heap.size) := by omega
  have nb_r_s : ¬ (w4.heap.size = w.heap.size + 1 + 1) := by omega
  have na_p_s : ¬ (bX1p = w4.heap.size) := by omega
  have nb_p_s : ¬ (w4.heap.size = bX1p) := by omega
  have HBR3 : Hid (Below w.heap.size w R3) := by rw [hR3]; show Below _ _ _; exact (by repeat (first | with_reducible exact Below.refl _ _ | with_reducible exact Hid.out (by assumption) | with_reducible refine Below.setCell ?_ (by first | (simp; done) | omega | (simp <;> omega)) _ | with_reducible refine bl_al ?_ _ | with_reducible apply Below.drew))
  clear hR3
  clear zR2_a yR2_a yyR2_a cR2_a_0 cR2_a_1 zR2_b yR2_b yyR2_b cR2_b_0 cR2_b_1 zR2_r yR2_r yyR2_r cR2_r_0 cR2_r_1 cR2_r_2 fR2_r zR2_p yR2_p yyR2_p cR2_p_0 cR2_p_1 cR2_p_2 cR2_p_3 fR2_p HBR2 zw4_a yw4_a yyw4_a zw4_b yw4_b yyw4_b zw4_r yw4_r yyw4_r zw4_p yw4_p yyw4_p sxw4_0 hclw4 hfrw4 HBw4 fw4_r fw4_p
  go_region_held3 (fun w' => w'.cell? ⟨w.heap.size, 0, none⟩ = some (.int .i64 h) ∧ w'.cell? ⟨w.heap.size, 1, none⟩ = some (.int .u64 l) ∧ w'.cell? ⟨w.heap.size + 1, 0, none⟩ = some (.int .i64 m) ∧ w'.cell? ⟨w.heap.size + 1, 1, none⟩ = some (.int .u64 n) ∧ w'.cell? ⟨bX1p, 0, none⟩ = some (.int .u64 p3) ∧ w'.cell? ⟨bX1p, 1, none⟩ = some (.int .u64 p2) ∧ w'.cell? ⟨bX1p, 2, none⟩ = some (.int .u64 s1) ∧ w'.cell? ⟨bX1p, 3, none⟩ = some (.int .u64 s0)) (first | (simp [*, go_sem]; done) | (simp [*, go_sem, World.cell?_alloc_past]; done))
    (first
      | (go_at_call 43; (with_reducible refine (K5.out _).mono ?_); rintro e w5 ⟨rfl, hb⟩; (first | (with_reducible (obtain ⟨hclw5, hfrw5⟩ := bcell_drew hb)) | (obtain ⟨hclw5, hfrw5⟩ := bcell hb)); have zw5_a : w.heap.size < w5.heap.size := (by first | omega | (have hz := hb.size; (try simp at hz); omega)); have yw5_a : w.heap.size < w5.heap.size + 1 := (by omega); have yyw5_a : w.heap.size < w5.heap.size + 1 + 1 := (by omega); have zw5_b : w.heap.size + 1 < w5.heap.size := (by first | omega | (have hz := hb.size; (try simp at hz); omega)); have yw5_b : w.heap.size + 1 < w5.heap.size + 1 := (by omega); have yyw5_b : w.heap.size + 1 < w5.heap.size + 1 + 1 := (by omega); have zw5_r : w.heap.size + 1 + 1 < w5.heap.size := (by first | omega | (have hz := hb.size; (try simp at hz); omega)); have yw5_r : w.heap.size + 1 + 1 < w5.heap.size + 1 := (by omega); have yyw5_r : w.heap.size + 1 + 1 < w5.heap.size + 1 + 1 := (by omega); have zw5_p : bX1p < w5.heap.size := (by first | omega | (have hz := hb.size; (try simp at hz); omega)); have yw5_p : bX1p < w5.heap.size + 1 := (by omega); have yyw5_p : bX1p < w5.heap.size + 1 + 1 := (by omega); have zw5_s : w4.heap.size < w5.heap.size := (by first | omega | (have hz := hb.size; (try simp at hz); omega)); have yw5_s : w4.heap.size < w5.heap.size + 1 := (by omega); have yyw5_s : w4.heap.size < w5.heap.size + 1 + 1 := (by omega); have sxw5_0 : R3.heap.size ≤ w5.heap.size := (by first | omega | (have hz := hb.size; (try simp at hz); omega)); have HBw5 : Hid (Below w.heap.size w w5) := (bl_trans (by repeat (first | with_reducible exact Below.refl _ _ | with_reducible exact Hid.out (by assumption) | with_reducible refine Below.setCell ?_ (by first | (simp; done) | omega | (simp <;> omega)) _ | with_reducible refine bl_al ?_ _ | with_reducible apply Below.drew)) hb); clear hb; clear K5)
      | (go_at_call 42; (with_reducible refine (K6.out _).mono ?_); rintro e w6 ⟨rfl, hb⟩; obtain ⟨hclw6, hfrw6⟩ := bcell hb; have zw6_a : w.heap.size < w6.heap.size := (by first | omega | (have hz := hb.size; (try simp at hz); omega)); have yw6_a : w.heap.size < w6.heap.size + 1 := (by omega); have yyw6_a : w.heap.size < w6.heap.size + 1 + 1 := (by omega); have zw6_b : w.heap.size + 1 < w6.heap.size := (by first | omega | (have hz := hb.size; (try simp at hz); omega)); have yw6_b : w.heap.size + 1 < w6.heap.size + 1 := (by omega); have yyw6_b : w.heap.size + 1 < w6.heap.size + 1 + 1 := (by omega); have zw6_r : w.heap.size + 1 + 1 < w6.heap.size := (by first | omega | (have hz := hb.size; (try simp at hz); omega)); have yw6_r : w.heap.size + 1 + 1 < w6.heap.size + 1 := (by omega); have yyw6_r : w.heap.size + 1 + 1 < w6.heap.size + 1 + 1 := (by omega); have zw6_p : bX1p < w6.heap.size := (by first | omega | (have hz := hb.size; (try simp at hz); omega)); have yw6_p : bX1p < w6.heap.size + 1 := (by omega); have yyw6_p : bX1p < w6.heap.size + 1 + 1 := (by omega); have zw6_s : w4.heap.size < w6.heap.size := (by first | omega | (have hz := hb.size; (try simp at hz); omega)); have yw6_s : w4.heap.size < w6.heap.size + 1 := (by omega); have yyw6_s : w4.heap.size < w6.heap.size + 1 + 1 := (by omega); have sxw6_0 : R3.heap.size ≤ w6.heap.size := (by first | omega | (have hz := hb.size; (try simp at hz); omega)); have sxw6_w5 : w5.heap.size ≤ w6.heap.size := (by first | omega | (have hz := hb.size; (try simp at hz); omega)); have HBw6 : Hid (Below w.heap.size w w6) := (bl_trans (by repeat (first | with_reducible exact Below.refl _ _ | with_reducible exact Hid.out (by assumption) | with_reducible refine Below.setCell ?_ (by first | (simp; done) | omega | (simp <;> omega)) _ | with_reducible refine bl_al ?_ _ | with_reducible apply Below.drew)) hb); clear hb; clear K6))
  rename_i hHeld
  clear hHeld
  go_wp2_with fail
  refine bodyPost_ret (by simp [results, Try.results25, go_sem, *]; try rfl) rfl ?_
  exact ⟨rfl, by repeat (first | with_reducible exact Below.refl _ _ | with_reducible exact Hid.out (by assumption) | with_reducible refine Below.setCell ?_ (by first | (simp; done) | omega | (simp <;> omega)) _ | with_reducible refine bl_al ?_ _ | with_reducible apply Below.drew)⟩
set_option maxRecDepth 20000 in
set_option maxHeartbeats 16000000 in
theorem rmul_true (h l m n d1 d0 g1 g0 p3 p2 p1 p0 s1 s0 t3 t2 t1 t0 x1 x0 k q3 q2 : Int) (p q c : Bool) (ha : decide (h < 0) = p) (hb : decide (m < 0) = q) (w : World)
    (C1 : ∀ W, Calls Try.prog 24 #[.agg #[.int .i64 h, .int .u64 l]] W fun e w' => e = .returned (.agg #[.int .u64 d1, .int .u64 d0]) ∧ Below W.heap.size W w')
    (C2 : ∀ W, Calls Try.prog 24 #[.agg #[.int .i64 m, .int .u64 n]] W fun e w' => e = .returned (.agg #[.int .u64 g1, .int .u64 g0]) ∧ Below W.heap.size W w')
    (C3 : ∀ W, Calls Try.prog 40 #[.agg #[.int .u64 d1, .int .u64 d0], .agg #[.int .u64 g1, .int .u64 g0]] W fun e w' => e = .returned (.agg #[.int .u64 p3, .int .u64 p2, .int .u64 p1, .int .u64 p0]) ∧ Below W.heap.size W w')
    (C4 : ∀ W, Calls Try.prog 41 #[.agg #[.int .u64 p1, .int .u64 p0], .agg #[.int .u64 0, .int .u64 9223372036854775808]] W fun e w' => e = .returned (.agg #[.int .u64 s1, .int .u64 s0, .bool true]) ∧ Below W.heap.size W w')
    (C5 : ∀ W, Calls Try.prog 41 #[.agg #[.int .u64 p3, .int .u64 p2], .agg #[.int .u64 0, .int .u64 1]] W fun e w' => e = .returned (.agg #[.int .u64 q3, .int .u64 q2, .bool c]) ∧ Below W.heap.size W w')
    (C6 : ∀ W, Calls Try.prog 43 #[.agg #[.int .u64 q3, .int .u64 q2, .int .u64 s1, .int .u64 s0], .int .i64 64] W fun e w' => e = .returned (.agg #[.int .u64 t3, .int .u64 t2, .int .u64 t1, .int .u64 t0]) ∧ Below W.heap.size W w')
    (C7 : ∀ W, Calls Try.prog 42 #[.bool (!(p == q)), .agg #[.int .u64 t3, .int .u64 t2, .int .u64 t1, .int .u64 t0]] W fun e w' => e = .returned (.agg #[.int .i64 x1, .int .u64 x0, .int .i64 k]) ∧ Below W.heap.size W w') :
    Calls Try.prog 25 #[.agg #[.int .i64 h, .int .u64 l], .agg #[.int .i64 m, .int .u64 n]] w fun e w' => e = .returned (.agg #[.int .i64 x1, .int .u64 x0, .int .i64 k]) ∧ Below w.heap.size w w' := by
  have K1 := Lib.hid C1; have K2 := Lib.hid C2; have K3 := Lib.hid C3; have K4 := Lib.hid C4; have K5 := Lib.hid C5; have K6 := Lib.hid C6; have K7 := Lib.hid C7
  clear C1 C2 C3 C4 C5 C6 C7
  have fld := field_part
  go_enter Try.func25, Try.ntmps25
  go_upto_region 1 with fail
  refine name_world (P := fun W => Code.wp _ _ _ _ W) _ (fun R1 hR1 => ?_)
  have zR1_a : w.heap.size < R1.heap.size := by rw [hR1]; first | omega | (simp <;> omega)
  have yR1_a : w.heap.size < R1.heap.size + 1 := by omega
  have yyR1_a : w.heap.size < R1.heap.size + 1 + 1 := by omega
  have cR1_a_0 : R1.cell? ⟨w.heap.size, 0, none⟩ = some (.int .i64 h) := by rw [hR1]; first | assumption | (simp [go_sem, *]; done)
  have cR1_a_1 : R1.cell? ⟨w.heap.size, 1, none⟩ = some (.int .u64 l) := by rw [hR1]; first | assumption | (simp [go_sem, *]; done)
  have zR1_b : w.heap.size + 1 < R1.heap.size := by rw [hR1]; first | omega | (simp <;> omega)
  have yR1_b : w.heap.size + 1 < R1.heap.size + 1 := by omega
  have yyR1_b : w.heap.size + 1 < R1.heap.size + 1 + 1 := by omega
  have cR1_b_0 : R1.cell? ⟨w.heap.size + 1, 0, none⟩ = some (.int .i64 m) := by rw [hR1]; first | assumption | (simp [go_sem, *]; done)
  have cR1_b_1 : R1.cell? ⟨w.heap.size + 1, 1, none⟩ = some (.int .u64 n) := by rw [hR1]; first | assumption | (simp [go_sem, *]; done)
  have zR1_r : w.heap.size + 1 + 1 < R1.heap.size := by rw [hR1]; first | omega | (simp <;> omega)
  have yR1_r : w.heap.size + 1 + 1 < R1.heap.size + 1 := by omega
  have yyR1_r : w.heap.size + 1 + 1 < R1.heap.size + 1 + 1 := by omega
  have cR1_r_0 : R1.cell? ⟨w.heap.size + 1 + 1, 0, none⟩ = some (.int .i64 0) := by rw [hR1]; first | assumption | (simp [go_sem, *]; done)
  have cR1_r_1 : R1.cell? ⟨w.heap.size + 1 + 1, 1, none⟩ = some (.int .u64 0) := by rw [hR1]; first | assumption | (simp [go_sem, *]; done)
  have cR1_r_2 : R1.cell? ⟨w.heap.size + 1 + 1, 2, none⟩ = some (.int .i64 0) := by rw [hR1]; first | assumption | (simp [go_sem, *]; done)
  have fR1_r : ∀ j, R1.frozen? ⟨w.heap.size + 1 + 1, j, none⟩ = false := fun j => by rw [hR1]; first | (simp [go_sem, *]; done) | (simp only [frozen?_alloc_cells]; rw [hfrw0 _ _ (by first | omega | (simp <;> omega))]; simp [frozen?_alloc_cells, World.frozen?]; done) | (simp [frozen?_alloc_cells, World.frozen?, *]; done)
  have lo_r : w.heap.size ≤ w.heap.size + 1 + 1 := by omega
  have na_r_a : ¬ (w.heap.size + 1 + 1 = w.heap.size) := by omega
  have nb_r_a : ¬ (w.heap.size = w.heap.size + 1 + 1) := by omega
  have na_r_b : ¬ (w.heap.size + 1 + 1 = w.heap.size + 1) := by omega
  have nb_r_b : ¬ (w.heap.size + 1 = w.heap.size + 1 + 1) := by omega
  have HBR1 : Hid (Below w.heap.size w R1) := by rw [hR1]; show Below _ _ _; exact (by repeat (first | with_reducible exact Below.refl _ _ | with_reducible exact Hid.out (by assumption) | with_reducible refine Below.setCell ?_ (by first | (simp; done) | omega | (simp <;> omega)) _ | with_reducible refine bl_al ?_ _ | with_reducible apply Below.drew))
  clear hR1
  go_cut [5] (fun slot0 X1 => ∃ bX1p : Nat, slot0 = .pointer (some ⟨bX1p, 0, none⟩) ∧ R1.heap.size ≤ bX1p ∧ Below R1.heap.size R1 X1 ∧ Has (bX1p) [.int .u64 p3, .int .u64 p2, .int .u64 p1, .int .u64 p0] X1 ∧ Clear (bX1p) X1)
  case first =>
    clear HBR1
    have ltt : ∀ n : Nat, n < n + 1 + 1 := fun n => by omega
    have lttt : ∀ n : Nat, n + 1 < n + 1 + 1 := fun n => by omega
    go_region_held3 (fun w' => w'.cell? ⟨w.heap.size, 0, none⟩ = some (.int .i64 h) ∧ w'.cell? ⟨w.heap.size, 1, none⟩ = some (.int .u64 l) ∧ w'.cell? ⟨w.heap.size + 1, 0, none⟩ = some (.int .i64 m) ∧ w'.cell? ⟨w.heap.size + 1, 1, none⟩ = some (.int .u64 n)) (first | (simp [*, go_sem]; done) | (simp [*, go_sem, World.cell?_alloc_past]; done))
      (first
        | (go_at_call 24; (with_reducible refine (K1.out _).mono ?_); rintro e w1 ⟨rfl, hb⟩; (first | (with_reducible (obtain ⟨hclw1, hfrw1⟩ := bcell_drew hb)) | (obtain ⟨hclw1, hfrw1⟩ := bcell hb)); have zw1_a : w.heap.size < w1.heap.size := (by first | omega | (have hz := hb.size; (try simp at hz); omega)); have yw1_a : w.heap.size < w1.heap.size + 1 := (by omega); have yyw1_a : w.heap.size < w1.heap.size + 1 + 1 := (by omega); have zw1_b : w.heap.size + 1 < w1.heap.size := (by first | omega | (have hz := hb.size; (try simp at hz); omega)); have yw1_b : w.heap.size + 1 < w1.heap.size + 1 := (by omega); have yyw1_b : w.heap.size + 1 < w1.heap.size + 1 + 1 := (by omega); (try have sw1_0 : R1.heap.size < w1.heap.size := (by first | omega | (have hz := hb.size; (try simp at hz); omega))); (try have syw1_0 : R1.heap.size < w1.heap.size + 1 := (by omega)); (try have stw1_0 : R1.heap.size + 1 < w1.heap.size := (by first | omega | (have hz := hb.size; (try simp at hz); omega))); have sxw1_0 : R1.heap.size ≤ w1.heap.size := (by first | omega | (have hz := hb.size; (try simp at hz); omega)); have HBw1 : Hid (Below R1.heap.size R1 w1) := (bl_trans (by repeat (first | with_reducible exact Below.refl _ _ | with_reducible exact Hid.out (by assumption) | with_reducible refine Below.setCell ?_ (by first | (simp; done) | omega | (simp <;> omega)) _ | with_reducible refine bl_al ?_ _ | with_reducible apply Below.drew)) hb); clear hb; clear K1)
        | (go_at_call 24; (with_reducible refine (K2.out _).mono ?_); rintro e w2 ⟨rfl, hb⟩; obtain ⟨hclw2, hfrw2⟩ := bcell hb; have zw2_a : w.heap.size < w2.heap.size := (by first | omega | (have hz := hb.size; (try simp at hz); omega)); have yw2_a : w.heap.size < w2.heap.size + 1 := (by omega); have yyw2_a : w.heap.size < w2.heap.size + 1 + 1 := (by omega); have zw2_b : w.heap.size + 1 < w2.heap.size := (by first | omega | (have hz := hb.size; (try simp at hz); omega)); have yw2_b : w.heap.size + 1 < w2.heap.size + 1 := (by omega); have yyw2_b : w.heap.size + 1 < w2.heap.size + 1 + 1 := (by omega); (try have sw2_0 : R1.heap.size < w2.heap.size := (by first | omega | (have hz := hb.size; (try simp at hz); omega))); (try have syw2_0 : R1.heap.size < w2.heap.size + 1 := (by omega)); (try have stw2_0 : R1.heap.size + 1 < w2.heap.size := (by first | omega | (have hz := hb.size; (try simp at hz); omega))); have sxw2_0 : R1.heap.size ≤ w2.heap.size := (by first | omega | (have hz := hb.size; (try simp at hz); omega)); (try have sw2_w1 : w1.heap.size < w2.heap.size := (by first | omega | (have hz := hb.size; (try simp at hz); omega))); (try have syw2_w1 : w1.heap.size < w2.heap.size + 1 := (by omega)); (try have stw2_w1 : w1.heap.size + 1 < w2.heap.size := (by first | omega | (have hz := hb.size; (try simp at hz); omega))); have sxw2_w1 : w1.heap.size ≤ w2.heap.size := (by first | omega | (have hz := hb.size; (try simp at hz); omega)); have HBw2 : Hid (Below R1.heap.size R1 w2) := (bl_trans (by repeat (first | with_reducible exact Below.refl _ _ | with_reducible exact Hid.out (by assumption) | with_reducible refine Below.setCell ?_ (by first | (simp; done) | omega | (simp <;> omega)) _ | with_reducible refine bl_al ?_ _ | with_reducible apply Below.drew)) hb); clear hb; clear K2)
        | (go_at_call 40; (with_reducible refine (K3.out _).mono ?_); rintro e w3 ⟨rfl, hb⟩; obtain ⟨hclw3, hfrw3⟩ := bcell hb; have zw3_a : w.heap.size < w3.heap.size := (by first | omega | (have hz := hb.size; (try simp at hz); omega)); have yw3_a : w.heap.size < w3.heap.size + 1 := (by omega); have yyw3_a : w.heap.size < w3.heap.size + 1 + 1 := (by omega); have zw3_b : w.heap.size + 1 < w3.heap.size := (by first | omega | (have hz := hb.size; (try simp at hz); omega)); have yw3_b : w.heap.size + 1 < w3.heap.size + 1 := (by omega); have yyw3_b : w.heap.size + 1 < w3.heap.size + 1 + 1 := (by omega); (try have sw3_0 : R1.heap.size < w3.heap.size := (by first | omega | (have hz := hb.size; (try simp at hz); omega))); (try have syw3_0 : R1.heap.size < w3.heap.size + 1 := (by omega)); (try have stw3_0 : R1.heap.size + 1 < w3.heap.size := (by first | omega | (have hz := hb.size; (try simp at hz); omega))); have sxw3_0 : R1.heap.size ≤ w3.heap.size := (by first | omega | (have hz := hb.size; (try simp at hz); omega)); (try have sw3_w1 : w1.heap.size < w3.heap.size := (by first | omega | (have hz := hb.size; (try simp at hz); omega))); (try have syw3_w1 : w1.heap.size < w3.heap.size + 1 := (by omega)); (try have stw3_w1 : w1.heap.size + 1 < w3.heap.size := (by first | omega | (have hz := hb.size; (try simp at hz); omega))); have sxw3_w1 : w1.heap.size ≤ w3.heap.size := (by first | omega | (have hz := hb.size; (try simp at hz); omega)); (try have sw3_w2 : w2.heap.size < w3.heap.size := (by first | omega | (have hz := hb.size; (try simp at hz); omega))); (try have syw3_w2 : w2.heap.size < w3.heap.size + 1 := (by omega)); (try have stw3_w2 : w2.heap.size + 1 < w3.heap.size := (by first | omega | (have hz := hb.size; (try simp at hz); omega))); have sxw3_w2 : w2.heap.size ≤ w3.heap.size := (by first | omega | (have hz := hb.size; (try simp at hz); omega)); have HBw3 : Hid (Below R1.heap.size R1 w3) := (bl_trans (by repeat (first | with_reducible exact Below.refl _ _ | with_reducible exact Hid.out (by assumption) | with_reducible refine Below.setCell ?_ (by first | (simp; done) | omega | (simp <;> omega)) _ | with_reducible refine bl_al ?_ _ | with_reducible apply Below.drew)) hb); clear hb; clear K3))
    all_goals (rename_i hHeld; clear hHeld; go_wp2_with fail; go_meet; exact ⟨_, rfl, (by first | omega | (simp <;> omega)), (by repeat (first | with_reducible exact Below.refl _ _ | with_reducible exact Hid.out (by assumption) | with_reducible refine Below.setCell ?_ (by first | (simp; done) | omega | (simp <;> omega)) _ | with_reducible refine bl_al ?_ _ | with_reducible apply Below.drew)), Has.mk4 (by first | (simp <;> omega) | omega) (by simp [go_sem, *]) (by simp [go_sem, *]) (by simp [go_sem, *]) (by simp [go_sem, *]), (fun j => by first | (simp [go_sem, *]; done) | (simp [frozen?_alloc_cells, World.frozen?_setCell, World.frozen?, *]; done) | (simp only [World.frozen?_setCell, frozen?_alloc_cells]; first | exact frozen_fix (by first | omega | (simp <;> omega)) | (simp [*]; done)) | (simp only [World.frozen?_setCell, frozen?_alloc_cells, World.frozen?_drew]; exact frozen_fix (by first | omega | (simp <;> omega))))⟩)
  case rest =>
  obtain ⟨X1, hX1⟩ : ∃ X, X = wc := ⟨wc, rfl⟩
  subst hX1
  obtain ⟨bX1p, rfl, m_bX1p, hX, g_p, c_p⟩ := hcut
  have lw_bX1p : w.heap.size + 1 + 1 + 1 ≤ bX1p := by omega
  have zX1_a : w.heap.size < X1.heap.size := Nat.lt_of_lt_of_le zR1_a hX.size
  have cX1_a_0 : X1.cell? ⟨w.heap.size, 0, none⟩ = some (.int .i64 h) := by rw [(bcell hX).1 _ _ zR1_a]; exact cR1_a_0
  have cX1_a_1 : X1.cell? ⟨w.heap.size, 1, none⟩ = some (.int .u64 l) := by rw [(bcell hX).1 _ _ zR1_a]; exact cR1_a_1
  have zX1_b : w.heap.size + 1 < X1.heap.size := Nat.lt_of_lt_of_le zR1_b hX.size
  have cX1_b_0 : X1.cell? ⟨w.heap.size + 1, 0, none⟩ = some (.int .i64 m) := by rw [(bcell hX).1 _ _ zR1_b]; exact cR1_b_0
  have cX1_b_1 : X1.cell? ⟨w.heap.size + 1, 1, none⟩ = some (.int .u64 n) := by rw [(bcell hX).1 _ _ zR1_b]; exact cR1_b_1
  have zX1_r : w.heap.size + 1 + 1 < X1.heap.size := Nat.lt_of_lt_of_le zR1_r hX.size
  have cX1_r_0 : X1.cell? ⟨w.heap.size + 1 + 1, 0, none⟩ = some (.int .i64 0) := by rw [(bcell hX).1 _ _ zR1_r]; exact cR1_r_0
  have cX1_r_1 : X1.cell? ⟨w.heap.size + 1 + 1, 1, none⟩ = some (.int .u64 0) := by rw [(bcell hX).1 _ _ zR1_r]; exact cR1_r_1
  have cX1_r_2 : X1.cell? ⟨w.heap.size + 1 + 1, 2, none⟩ = some (.int .i64 0) := by rw [(bcell hX).1 _ _ zR1_r]; exact cR1_r_2
  have fX1_r : ∀ j, X1.frozen? ⟨w.heap.size + 1 + 1, j, none⟩ = false := fun j => by rw [(bcell hX).2 _ _ zR1_r]; exact fR1_r j
  have zX1_p := g_p.1; have cX1_p_0 := g_p.2 0 _ rfl; have cX1_p_1 := g_p.2 1 _ rfl; have cX1_p_2 := g_p.2 2 _ rfl; have cX1_p_3 := g_p.2 3 _ rfl; clear g_p
  have fX1_p : ∀ j, X1.frozen? ⟨bX1p, j, none⟩ = false := c_p; clear c_p
  have nebX1p_r : ¬ (bX1p = w.heap.size + 1 + 1) := by omega
  have ndbX1p_r : ¬ (w.heap.size + 1 + 1 = bX1p) := by omega
  have HBX1 : Hid (Below w.heap.size w X1) := bl_trans HBR1.out hX
  clear hX
  clear zR1_a yR1_a yyR1_a cR1_a_0 cR1_a_1 zR1_b yR1_b yyR1_b cR1_b_0 cR1_b_1 zR1_r yR1_r yyR1_r cR1_r_0 cR1_r_1 cR1_r_2 fR1_r HBR1 m_bX1p
  go_upto_region 2 with fail
  refine name_world (P := fun W => Code.wp _ _ _ _ W) _ (fun R2 hR2 => ?_)
  have zR2_a : w.heap.size < R2.heap.size := by rw [hR2]; first | omega | (simp <;> omega)
  have yR2_a : w.heap.size < R2.heap.size + 1 := by omega
  have yyR2_a : w.heap.size < R2.heap.size + 1 + 1 := by omega
  have cR2_a_0 : R2.cell? ⟨w.heap.size, 0, none⟩ = some (.int .i64 h) := by rw [hR2]; first | assumption | (simp [go_sem, *]; done)
  have cR2_a_1 : R2.cell? ⟨w.heap.size, 1, none⟩ = some (.int .u64 l) := by rw [hR2]; first | assumption | (simp [go_sem, *]; done)
  have zR2_b : w.heap.size + 1 < R2.heap.size := by rw [hR2]; first | omega | (simp <;> omega)
  have yR2_b : w.heap.size + 1 < R2.heap.size + 1 := by omega
  have yyR2_b : w.heap.size + 1 < R2.heap.size + 1 + 1 := by omega
  have cR2_b_0 : R2.cell? ⟨w.heap.size + 1, 0, none⟩ = some (.int .i64 m) := by rw [hR2]; first | assumption | (simp [go_sem, *]; done)
  have cR2_b_1 : R2.cell? ⟨w.heap.size + 1, 1, none⟩ = some (.int .u64 n) := by rw [hR2]; first | assumption | (simp [go_sem, *]; done)
  have zR2_r : w.heap.size + 1 + 1 < R2.heap.size := by rw [hR2]; first | omega | (simp <;> omega)
  have yR2_r : w.heap.size + 1 + 1 < R2.heap.size + 1 := by omega
  have yyR2_r : w.heap.size + 1 + 1 < R2.heap.size + 1 + 1 := by omega
  have cR2_r_0 : R2.cell? ⟨w.heap.size + 1 + 1, 0, none⟩ = some (.int .i64 0) := by rw [hR2]; first | assumption | (simp [go_sem, *]; done)
  have cR2_r_1 : R2.cell? ⟨w.heap.size + 1 + 1, 1, none⟩ = some (.int .u64 0) := by rw [hR2]; first | assumption | (simp [go_sem, *]; done)
  have cR2_r_2 : R2.cell? ⟨w.heap.size + 1 + 1, 2, none⟩ = some (.int .i64 0) := by rw [hR2]; first | assumption | (simp [go_sem, *]; done)
  have fR2_r : ∀ j, R2.frozen? ⟨w.heap.size + 1 + 1, j, none⟩ = false := fun j => by rw [hR2]; first | (simp [go_sem, *]; done) | (simp only [frozen?_alloc_cells]; rw [hfrX1 _ _ (by first | omega | (simp <;> omega))]; simp [frozen?_alloc_cells, World.frozen?]; done) | (simp [frozen?_alloc_cells, World.frozen?, *]; done)
  have zR2_p : bX1p < R2.heap.size := by rw [hR2]; first | omega | (simp <;> omega)
  have yR2_p : bX1p < R2.heap.size + 1 := by omega
  have yyR2_p : bX1p < R2.heap.size + 1 + 1 := by omega
  have cR2_p_0 : R2.cell? ⟨bX1p, 0, none⟩ = some (.int .u64 p3) := by rw [hR2]; first | assumption | (simp [go_sem, *]; done)
  have cR2_p_1 : R2.cell? ⟨bX1p, 1, none⟩ = some (.int .u64 p2) := by rw [hR2]; first | assumption | (simp [go_sem, *]; done)
  have cR2_p_2 : R2.cell? ⟨bX1p, 2, none⟩ = some (.int .u64 p1) := by rw [hR2]; first | assumption | (simp [go_sem, *]; done)
  have cR2_p_3 : R2.cell? ⟨bX1p, 3, none⟩ = some (.int .u64 p0) := by rw [hR2]; first | assumption | (simp [go_sem, *]; done)
  have fR2_p : ∀ j, R2.frozen? ⟨bX1p, j, none⟩ = false := fun j => by rw [hR2]; first | (simp [go_sem, *]; done) | (simp only [frozen?_alloc_cells]; rw [hfrX1 _ _ (by first | omega | (simp <;> omega))]; simp [frozen?_alloc_cells, World.frozen?]; done) | (simp [frozen?_alloc_cells, World.frozen?, *]; done)
  have lo_p : w.heap.size ≤ bX1p := by omega
  have na_r_p : ¬ (w.heap.size + 1 + 1 = bX1p) := by omega
  have nb_r_p : ¬ (bX1p = w.heap.size + 1 + 1) := by omega
  have na_p_a : ¬ (bX1p = w.heap.size) := by omega
  have nb_p_a : ¬ (w.heap.size = bX1p) := by omega
  have na_p_b : ¬ (bX1p = w.heap.size + 1) := by omega
  have nb_p_b : ¬ (w.heap.size + 1 = bX1p) := by omega
  have na_p_r : ¬ (bX1p = w.heap.size + 1 + 1) := by omega
  have nb_p_r : ¬ (w.heap.size + 1 + 1 = bX1p) := by omega
  have HBR2 : Hid (Below w.heap.size w R2) := by rw [hR2]; show Below _ _ _; exact (by repeat (first | with_reducible exact Below.refl _ _ | with_reducible exact Hid.out (by assumption) | with_reducible refine Below.setCell ?_ (by first | (simp; done) | omega | (simp <;> omega)) _ | with_reducible refine bl_al ?_ _ | with_reducible apply Below.drew))
  clear hR2
  clear HBX1 zX1_a cX1_a_0 cX1_a_1 zX1_b cX1_b_0 cX1_b_1 zX1_r cX1_r_0 cX1_r_1 cX1_r_2 fX1_r zX1_p cX1_p_0 cX1_p_1 cX1_p_2 cX1_p_3 fX1_p
  go_wp2_with fail
  (with_reducible refine (K4.out _).mono ?_); rintro e w4 ⟨rfl, hb⟩; obtain ⟨hclw4, hfrw4⟩ := bcell hb; have zw4_a : w.heap.size < w4.heap.size := (by first | omega | (have hz := hb.size; (try simp at hz); omega)); have yw4_a : w.heap.size < w4.heap.size + 1 := (by omega); have yyw4_a : w.heap.size < w4.heap.size + 1 + 1 := (by omega); have zw4_b : w.heap.size + 1 < w4.heap.size := (by first | omega | (have hz := hb.size; (try simp at hz); omega)); have yw4_b : w.heap.size + 1 < w4.heap.size + 1 := (by omega); have yyw4_b : w.heap.size + 1 < w4.heap.size + 1 + 1 := (by omega); have zw4_r : w.heap.size + 1 + 1 < w4.heap.size := (by first | omega | (have hz := hb.size; (try simp at hz); omega)); have yw4_r : w.heap.size + 1 + 1 < w4.heap.size + 1 := (by omega); have yyw4_r : w.heap.size + 1 + 1 < w4.heap.size + 1 + 1 := (by omega); have zw4_p : bX1p < w4.heap.size := (by first | omega | (have hz := hb.size; (try simp at hz); omega)); have yw4_p : bX1p < w4.heap.size + 1 := (by omega); have yyw4_p : bX1p < w4.heap.size + 1 + 1 := (by omega); have sxw4_0 : R2.heap.size ≤ w4.heap.size := (by first | omega | (have hz := hb.size; (try simp at hz); omega)); have HBw4 : Hid (Below w.heap.size w w4) := (bl_trans (by repeat (first | with_reducible exact Below.refl _ _ | with_reducible exact Hid.out (by assumption) | with_reducible refine Below.setCell ?_ (by first | (simp; done) | omega | (simp <;> omega)) _ | with_reducible refine bl_al ?_ _ | with_reducible apply Below.drew)) hb); clear hb
  have fw4_r : ∀ j, w4.frozen? ⟨w.heap.size + 1 + 1, j, none⟩ = false := fun j => by rw [hfrw4 _ _ (by first | exact zR2_r | (simp; exact zR2_r))]; exact fR2_r j
  have fw4_p : ∀ j, w4.frozen? ⟨bX1p, j, none⟩ = false := fun j => by rw [hfrw4 _ _ (by first | exact zR2_p | (simp; exact zR2_p))]; exact fR2_p j
  go_upto_region 5 with fail
  refine name_world (P := fun W => Code.wp _ _ _ _ W) _ (fun R3 hR3 => ?_)
  have zR3_a : w.heap.size < R3.heap.size := by rw [hR3]; first | omega | (simp <;> omega)
  have yR3_a : w.heap.size < R3.heap.size + 1 := by omega
  have yyR3_a : w.heap.size < R3.heap.size + 1 + 1 := by omega
  have cR3_a_0 : R3.cell? ⟨w.heap.size, 0, none⟩ = some (.int .i64 h) := by rw [hR3]; first | assumption | (simp [go_sem, *]; done)
  have cR3_a_1 : R3.cell? ⟨w.heap.size, 1, none⟩ = some (.int .u64 l) := by rw [hR3]; first | assumption | (simp [go_sem, *]; done)
  have zR3_b : w.heap.size + 1 < R3.heap.size := by rw [hR3]; first | omega | (simp <;> omega)
  have yR3_b : w.heap.size + 1 < R3.heap.size + 1 := by omega
  have yyR3_b : w.heap.size + 1 < R3.heap.size + 1 + 1 := by omega
  have cR3_b_0 : R3.cell? ⟨w.heap.size + 1, 0, none⟩ = some (.int .i64 m) := by rw [hR3]; first | assumption | (simp [go_sem, *]; done)
  have cR3_b_1 : R3.cell? ⟨w.heap.size + 1, 1, none⟩ = some (.int .u64 n) := by rw [hR3]; first | assumption | (simp [go_sem, *]; done)
  have zR3_r : w.heap.size + 1 + 1 < R3.heap.size := by rw [hR3]; first | omega | (simp <;> omega)
  have yR3_r : w.heap.size + 1 + 1 < R3.heap.size + 1 := by omega
  have yyR3_r : w.heap.size + 1 + 1 < R3.heap.size + 1 + 1 := by omega
  have cR3_r_0 : R3.cell? ⟨w.heap.size + 1 + 1, 0, none⟩ = some (.int .i64 0) := by rw [hR3]; first | assumption | (simp [go_sem, *]; done)
  have cR3_r_1 : R3.cell? ⟨w.heap.size + 1 + 1, 1, none⟩ = some (.int .u64 0) := by rw [hR3]; first | assumption | (simp [go_sem, *]; done)
  have cR3_r_2 : R3.cell? ⟨w.heap.size + 1 + 1, 2, none⟩ = some (.int .i64 0) := by rw [hR3]; first | assumption | (simp [go_sem, *]; done)
  have fR3_r : ∀ j, R3.frozen? ⟨w.heap.size + 1 + 1, j, none⟩ = false := fun j => by rw [hR3]; first | (simp [go_sem, *]; done) | (simp only [frozen?_alloc_cells]; rw [hfrw4 _ _ (by first | omega | (simp <;> omega))]; simp [frozen?_alloc_cells, World.frozen?]; done) | (simp [frozen?_alloc_cells, World.frozen?, *]; done)
  have zR3_p : bX1p < R3.heap.size := by rw [hR3]; first | omega | (simp <;> omega)
  have yR3_p : bX1p < R3.heap.size + 1 := by omega
  have yyR3_p : bX1p < R3.heap.size + 1 + 1 := by omega
  have cR3_p_0 : R3.cell? ⟨bX1p, 0, none⟩ = some (.int .u64 p3) := by rw [hR3]; first | assumption | (simp [go_sem, *]; done)
  have cR3_p_1 : R3.cell? ⟨bX1p, 1, none⟩ = some (.int .u64 p2) := by rw [hR3]; first | assumption | (simp [go_sem, *]; done)
  have cR3_p_2 : R3.cell? ⟨bX1p, 2, none⟩ = some (.int .u64 s1) := by rw [hR3]; first | assumption | (simp [go_sem, *]; done)
  have cR3_p_3 : R3.cell? ⟨bX1p, 3, none⟩ = some (.int .u64 s0) := by rw [hR3]; first | assumption | (simp [go_sem, *]; done)
  have fR3_p : ∀ j, R3.frozen? ⟨bX1p, j, none⟩ = false := fun j => by rw [hR3]; first | (simp [go_sem, *]; done) | (simp only [frozen?_alloc_cells]; rw [hfrw4 _ _ (by first | omega | (simp <;> omega))]; simp [frozen?_alloc_cells, World.frozen?]; done) | (simp [frozen?_alloc_cells, World.frozen?, *]; done)
  have zR3_s : w4.heap.size < R3.heap.size := by rw [hR3]; first | omega | (simp <;> omega)
  have yR3_s : w4.heap.size < R3.heap.size + 1 := by omega
  have yyR3_s : w4.heap.size < R3.heap.size + 1 + 1 := by omega
  have cR3_s_0 : R3.cell? ⟨w4.heap.size, 0, none⟩ = some (.int .u64 s1) := by rw [hR3]; first | assumption | (simp [go_sem, *]; done)
  have cR3_s_1 : R3.cell? ⟨w4.heap.size, 1, none⟩ = some (.int .u64 s0) := by rw [hR3]; first | assumption | (simp [go_sem, *]; done)
  have cR3_s_2 : R3.cell? ⟨w4.heap.size, 2, none⟩ = some (.bool true) := by rw [hR3]; first | assumption | (simp [go_sem, *]; done)
  have na_r_s : ¬ (w.heap.size + 1 + 1 = w4.heap.size) := by omega
  have nb_r_s : ¬ (w4.heap.size = w.heap.size + 1 + 1) := by omega
  have na_p_s : ¬ (bX1p = w4.heap.size) := by omega
  have nb_p_s : ¬ (w4.heap.size = bX1p) := by omega
  have HBR3 : Hid (Below w.heap.size w R3) := by rw [hR3]; show Below _ _ _; exact (by repeat (first | with_reducible exact Below.refl _ _ | with_reducible exact Hid.out (by assumption) | with_reducible refine Below.setCell ?_ (by first | (simp; done) | omega | (simp <;> omega)) _ | with_reducible refine bl_al ?_ _ | with_reducible apply Below.drew))
  clear hR3
  clear zR2_a yR2_a yyR2_a cR2_a_0 cR2_a_1 zR2_b yR2_b yyR2_b cR2_b_0 cR2_b_1 zR2_r yR2_r yyR2_r cR2_r_0 cR2_r_1 cR2_r_2 fR2_r zR2_p yR2_p yyR2_p cR2_p_0 cR2_p_1 cR2_p_2 cR2_p_3 fR2_p HBR2 zw4_a yw4_a yyw4_a zw4_b yw4_b yyw4_b zw4_r yw4_r yyw4_r zw4_p yw4_p yyw4_p sxw4_0 hclw4 hfrw4 HBw4 fw4_r fw4_p
  go_wp2_with fail
  (with_reducible refine (K5.out _).mono ?_); rintro e w5 ⟨rfl, hb⟩; obtain ⟨hclw5, hfrw5⟩ := bcell hb; have zw5_a : w.heap.size < w5.heap.size := (by first | omega | (have hz := hb.size; (try simp at hz); omega)); have yw5_a : w.heap.size < w5.heap.size + 1 := (by omega); have yyw5_a : w.heap.size < w5.heap.size + 1 + 1 := (by omega); have zw5_b : w.heap.size + 1 < w5.heap.size := (by first | omega | (have hz := hb.size; (try simp at hz); omega)); have yw5_b : w.heap.size + 1 < w5.heap.size + 1 := (by omega); have yyw5_b : w.heap.size + 1 < w5.heap.size + 1 + 1 := (by omega); have zw5_r : w.heap.size + 1 + 1 < w5.heap.size := (by first | omega | (have hz := hb.size; (try simp at hz); omega)); have yw5_r : w.heap.size + 1 + 1 < w5.heap.size + 1 := (by omega); have yyw5_r : w.heap.size + 1 + 1 < w5.heap.size + 1 + 1 := (by omega); have zw5_p : bX1p < w5.heap.size := (by first | omega | (have hz := hb.size; (try simp at hz); omega)); have yw5_p : bX1p < w5.heap.size + 1 := (by omega); have yyw5_p : bX1p < w5.heap.size + 1 + 1 := (by omega); have zw5_s : w4.heap.size < w5.heap.size := (by first | omega | (have hz := hb.size; (try simp at hz); omega)); have yw5_s : w4.heap.size < w5.heap.size + 1 := (by omega); have yyw5_s : w4.heap.size < w5.heap.size + 1 + 1 := (by omega); have sxw5_0 : R3.heap.size ≤ w5.heap.size := (by first | omega | (have hz := hb.size; (try simp at hz); omega)); have HBw5 : Hid (Below w.heap.size w w5) := (bl_trans (by repeat (first | with_reducible exact Below.refl _ _ | with_reducible exact Hid.out (by assumption) | with_reducible refine Below.setCell ?_ (by first | (simp; done) | omega | (simp <;> omega)) _ | with_reducible refine bl_al ?_ _ | with_reducible apply Below.drew)) hb); clear hb
  have fw5_r : ∀ j, w5.frozen? ⟨w.heap.size + 1 + 1, j, none⟩ = false := fun j => by rw [hfrw5 _ _ (by first | exact zR3_r | (simp; exact zR3_r))]; exact fR3_r j
  have fw5_p : ∀ j, w5.frozen? ⟨bX1p, j, none⟩ = false := fun j => by rw [hfrw5 _ _ (by first | exact zR3_p | (simp; exact zR3_p))]; exact fR3_p j
  go_upto_region 6 with fail
  refine name_world (P := fun W => Code.wp _ _ _ _ W) _ (fun R4 hR4 => ?_)
  have zR4_a : w.heap.size < R4.heap.size := by rw [hR4]; first | omega | (simp <;> omega)
  have yR4_a : w.heap.size < R4.heap.size + 1 := by omega
  have yyR4_a : w.heap.size < R4.heap.size + 1 + 1 := by omega
  have cR4_a_0 : R4.cell? ⟨w.heap.size, 0, none⟩ = some (.int .i64 h) := by rw [hR4]; first | assumption | (simp [go_sem, *]; done)
  have cR4_a_1 : R4.cell? ⟨w.heap.size, 1, none⟩ = some (.int .u64 l) := by rw [hR4]; first | assumption | (simp [go_sem, *]; done)
  have zR4_b : w.heap.size + 1 < R4.heap.size := by rw [hR4]; first | omega | (simp <;> omega)
  have yR4_b : w.heap.size + 1 < R4.heap.size + 1 := by omega
  have yyR4_b : w.heap.size + 1 < R4.heap.size + 1 + 1 := by omega
  have cR4_b_0 : R4.cell? ⟨w.heap.size + 1, 0, none⟩ = some (.int .i64 m) := by rw [hR4]; first | assumption | (simp [go_sem, *]; done)
  have cR4_b_1 : R4.cell? ⟨w.heap.size + 1, 1, none⟩ = some (.int .u64 n) := by rw [hR4]; first | assumption | (simp [go_sem, *]; done)
  have zR4_r : w.heap.size + 1 + 1 < R4.heap.size := by rw [hR4]; first | omega | (simp <;> omega)
  have yR4_r : w.heap.size + 1 + 1 < R4.heap.size + 1 := by omega
  have yyR4_r : w.heap.size + 1 + 1 < R4.heap.size + 1 + 1 := by omega
  have cR4_r_0 : R4.cell? ⟨w.heap.size + 1 + 1, 0, none⟩ = some (.int .i64 0) := by rw [hR4]; first | assumption | (simp [go_sem, *]; done)
  have cR4_r_1 : R4.cell? ⟨w.heap.size + 1 + 1, 1, none⟩ = some (.int .u64 0) := by rw [hR4]; first | assumption | (simp [go_sem, *]; done)
  have cR4_r_2 : R4.cell? ⟨w.heap.size + 1 + 1, 2, none⟩ = some (.int .i64 0) := by rw [hR4]; first | assumption | (simp [go_sem, *]; done)
  have fR4_r : ∀ j, R4.frozen? ⟨w.heap.size + 1 + 1, j, none⟩ = false := fun j => by rw [hR4]; first | (simp [go_sem, *]; done) | (simp only [frozen?_alloc_cells]; rw [hfrw5 _ _ (by first | omega | (simp <;> omega))]; simp [frozen?_alloc_cells, World.frozen?]; done) | (simp [frozen?_alloc_cells, World.frozen?, *]; done)
  have zR4_p : bX1p < R4.heap.size := by rw [hR4]; first | omega | (simp <;> omega)
  have yR4_p : bX1p < R4.heap.size + 1 := by omega
  have yyR4_p : bX1p < R4.heap.size + 1 + 1 := by omega
  have cR4_p_0 : R4.cell? ⟨bX1p, 0, none⟩ = some (.int .u64 q3) := by rw [hR4]; first | assumption | (simp [go_sem, *]; done)
  have cR4_p_1 : R4.cell? ⟨bX1p, 1, none⟩ = some (.int .u64 q2) := by rw [hR4]; first | assumption | (simp [go_sem, *]; done)
  have cR4_p_2 : R4.cell? ⟨bX1p, 2, none⟩ = some (.int .u64 s1) := by rw [hR4]; first | assumption | (simp [go_sem, *]; done)
  have cR4_p_3 : R4.cell? ⟨bX1p, 3, none⟩ = some (.int .u64 s0) := by rw [hR4]; first | assumption | (simp [go_sem, *]; done)
  have fR4_p : ∀ j, R4.frozen? ⟨bX1p, j, none⟩ = false := fun j => by rw [hR4]; first | (simp [go_sem, *]; done) | (simp only [frozen?_alloc_cells]; rw [hfrw5 _ _ (by first | omega | (simp <;> omega))]; simp [frozen?_alloc_cells, World.frozen?]; done) | (simp [frozen?_alloc_cells, World.frozen?, *]; done)
  have zR4_s : w4.heap.size < R4.heap.size := by rw [hR4]; first | omega | (simp <;> omega)
  have yR4_s : w4.heap.size < R4.heap.size + 1 := by omega
  have yyR4_s : w4.heap.size < R4.heap.size + 1 + 1 := by omega
  have cR4_s_0 : R4.cell? ⟨w4.heap.size, 0, none⟩ = some (.int .u64 s1) := by rw [hR4]; first | assumption | (simp [go_sem, *]; done)
  have cR4_s_1 : R4.cell? ⟨w4.heap.size, 1, none⟩ = some (.int .u64 s0) := by rw [hR4]; first | assumption | (simp [go_sem, *]; done)
  have cR4_s_2 : R4.cell? ⟨w4.heap.size, 2, none⟩ = some (.bool true) := by rw [hR4]; first | assumption | (simp [go_sem, *]; done)
  have HBR4 : Hid (Below w.heap.size w R4) := by rw [hR4]; show Below _ _ _; exact (by repeat (first | with_reducible exact Below.refl _ _ | with_reducible exact Hid.out (by assumption) | with_reducible refine Below.setCell ?_ (by first | (simp; done) | omega | (simp <;> omega)) _ | with_reducible refine bl_al ?_ _ | with_reducible apply Below.drew))
  clear hR4
  clear zR3_a yR3_a yyR3_a cR3_a_0 cR3_a_1 zR3_b yR3_b yyR3_b cR3_b_0 cR3_b_1 zR3_r yR3_r yyR3_r cR3_r_0 cR3_r_1 cR3_r_2 fR3_r zR3_p yR3_p yyR3_p cR3_p_0 cR3_p_1 cR3_p_2 cR3_p_3 fR3_p zR3_s yR3_s yyR3_s cR3_s_0 cR3_s_1 cR3_s_2 HBR3 zw5_a yw5_a yyw5_a zw5_b yw5_b yyw5_b zw5_r yw5_r yyw5_r zw5_p yw5_p yyw5_p zw5_s yw5_s yyw5_s sxw5_0 hclw5 hfrw5 HBw5 fw5_r fw5_p
  go_region_held3 (fun w' => w'.cell? ⟨w.heap.size, 0, none⟩ = some (.int .i64 h) ∧ w'.cell? ⟨w.heap.size, 1, none⟩ = some (.int .u64 l) ∧ w'.cell? ⟨w.heap.size + 1, 0, none⟩ = some (.int .i64 m) ∧ w'.cell? ⟨w.heap.size + 1, 1, none⟩ = some (.int .u64 n) ∧ w'.cell? ⟨bX1p, 0, none⟩ = some (.int .u64 q3) ∧ w'.cell? ⟨bX1p, 1, none⟩ = some (.int .u64 q2) ∧ w'.cell? ⟨bX1p, 2, none⟩ = some (.int .u64 s1) ∧ w'.cell? ⟨bX1p, 3, none⟩ = some (.int .u64 s0)) (first | (simp [*, go_sem]; done) | (simp [*, go_sem, World.cell?_alloc_past]; done))
    (first
      | (go_at_call 43; (with_reducible refine (K6.out _).mono ?_); rintro e w6 ⟨rfl, hb⟩; (first | (with_reducible (obtain ⟨hclw6, hfrw6⟩ := bcell_drew hb)) | (obtain ⟨hclw6, hfrw6⟩ := bcell hb)); have zw6_a : w.heap.size < w6.heap.size := (by first | omega | (have hz := hb.size; (try simp at hz); omega)); have yw6_a : w.heap.size < w6.heap.size + 1 := (by omega); have yyw6_a : w.heap.size < w6.heap.size + 1 + 1 := (by omega); have zw6_b : w.heap.size + 1 < w6.heap.size := (by first | omega | (have hz := hb.size; (try simp at hz); omega)); have yw6_b : w.heap.size + 1 < w6.heap.size + 1 := (by omega); have yyw6_b : w.heap.size + 1 < w6.heap.size + 1 + 1 := (by omega); have zw6_r : w.heap.size + 1 + 1 < w6.heap.size := (by first | omega | (have hz := hb.size; (try simp at hz); omega)); have yw6_r : w.heap.size + 1 + 1 < w6.heap.size + 1 := (by omega); have yyw6_r : w.heap.size + 1 + 1 < w6.heap.size + 1 + 1 := (by omega); have zw6_p : bX1p < w6.heap.size := (by first | omega | (have hz := hb.size; (try simp at hz); omega)); have yw6_p : bX1p < w6.heap.size + 1 := (by omega); have yyw6_p : bX1p < w6.heap.size + 1 + 1 := (by omega); have zw6_s : w4.heap.size < w6.heap.size := (by first | omega | (have hz := hb.size; (try simp at hz); omega)); have yw6_s : w4.heap.size < w6.heap.size + 1 := (by omega); have yyw6_s : w4.heap.size < w6.heap.size + 1 + 1 := (by omega); have sxw6_0 : R4.heap.size ≤ w6.heap.size := (by first | omega | (have hz := hb.size; (try simp at hz); omega)); have HBw6 : Hid (Below w.heap.size w w6) := (bl_trans (by repeat (first | with_reducible exact Below.refl _ _ | with_reducible exact Hid.out (by assumption) | with_reducible refine Below.setCell ?_ (by first | (simp; done) | omega | (simp <;> omega)) _ | with_reducible refine bl_al ?_ _ | with_reducible apply Below.drew)) hb); clear hb; clear K6)
      | (go_at_call 42; (with_reducible refine (K7.out _).mono ?_); rintro e w7 ⟨rfl, hb⟩; obtain ⟨hclw7, hfrw7⟩ := bcell hb; have zw7_a : w.heap.size < w7.heap.size := (by first | omega | (have hz := hb.size; (try simp at hz); omega)); have yw7_a : w.heap.size < w7.heap.size + 1 := (by omega); have yyw7_a : w.heap.size < w7.heap.size + 1 + 1 := (by omega); have zw7_b : w.heap.size + 1 < w7.heap.size := (by first | omega | (have hz := hb.size; (try simp at hz); omega)); have yw7_b : w.heap.size + 1 < w7.heap.size + 1 := (by omega); have yyw7_b : w.heap.size + 1 < w7.heap.size + 1 + 1 := (by omega); have zw7_r : w.heap.size + 1 + 1 < w7.heap.size := (by first | omega | (have hz := hb.size; (try simp at hz); omega)); have yw7_r : w.heap.size + 1 + 1 < w7.heap.size + 1 := (by omega); have yyw7_r : w.heap.size + 1 + 1 < w7.heap.size + 1 + 1 := (by omega); have zw7_p : bX1p < w7.heap.size := (by first | omega | (have hz := hb.size; (try simp at hz); omega)); have yw7_p : bX1p < w7.heap.size + 1 := (by omega); have yyw7_p : bX1p < w7.heap.size + 1 + 1 := (by omega); have zw7_s : w4.heap.size < w7.heap.size := (by first | omega | (have hz := hb.size; (try simp at hz); omega)); have yw7_s : w4.heap.size < w7.heap.size + 1 := (by omega); have yyw7_s : w4.heap.size < w7.heap.size + 1 + 1 := (by omega); have sxw7_0 : R4.heap.size ≤ w7.heap.size := (by first | omega | (have hz := hb.size; (try simp at hz); omega)); have sxw7_w6 : w6.heap.size ≤ w7.heap.size := (by first | omega | (have hz := hb.size; (try simp at hz); omega)); have HBw7 : Hid (Below w.heap.size w w7) := (bl_trans (by repeat (first | with_reducible exact Below.refl _ _ | with_reducible exact Hid.out (by assumption) | with_reducible refine Below.setCell ?_ (by first | (simp; done) | omega | (simp <;> omega)) _ | with_reducible refine bl_al ?_ _ | with_reducible apply Below.drew)) hb); clear hb; clear K7))
  rename_i hHeld
  clear hHeld
  go_wp2_with fail
  refine bodyPost_ret (by simp [results, Try.results25, go_sem, *]; try rfl) rfl ?_
  exact ⟨rfl, by repeat (first | with_reducible exact Below.refl _ _ | with_reducible exact Hid.out (by assumption) | with_reducible refine Below.setCell ?_ (by first | (simp; done) | omega | (simp <;> omega)) _ | with_reducible refine bl_al ?_ _ | with_reducible apply Below.drew)⟩
end Go.Proofs.Ytmelipbanbihdaa
