/- The document's sums, products, quotients of numbers with a point: the walks. -/
import Derived.Test.YtmelipbanbihdaaRefFix2
import Derived.Test.YtmelipbanbihdaaFixOpen
namespace Go.Proofs.Ytmelipbanbihdaa
open Go.RowKit

theorem field_part (x0 x1 x2 : Value) (w : World) : (Instr.field 66 (.agg #[x0, x1, x2]) 0).run Try.prog w = .ok (.agg #[x0, x1]) w := by kernel_rfl
theorem frozen_fix {W : World} {B j : Nat} (h : W.heap.size ≤ B) : W.frozen? ⟨B, j, none⟩ = false := by simp [World.frozen?, Array.getElem?_eq_none h]
set_option maxRecDepth 20000 in
set_option maxHeartbeats 16000000 in
theorem radd_same (h l m n d1 d0 g1 g0 s1 s0 x1 x0 k : Int) (c p : Bool) (ha : decide (h < 0) = p) (hb : decide (m < 0) = p) (w : World)
    (C1 : ∀ W, Calls Try.prog 24 #[.agg #[.int .i64 h, .int .u64 l]] W fun e w' => e = .returned (.agg #[.int .u64 d1, .int .u64 d0]) ∧ Below W.heap.size W w')
    (C2 : ∀ W, Calls Try.prog 24 #[.agg #[.int .i64 m, .int .u64 n]] W fun e w' => e = .returned (.agg #[.int .u64 g1, .int .u64 g0]) ∧ Below W.heap.size W w')
    (C3 : ∀ W, Calls Try.prog 41 #[.agg #[.int .u64 d1, .int .u64 d0], .agg #[.int .u64 g1, .int .u64 g0]] W fun e w' => e = .returned (.agg #[.int .u64 s1, .int .u64 s0, .bool c]) ∧ Below W.heap.size W w')
    (C4 : ∀ W, Calls Try.prog 42 #[.bool p, .agg #[.int .u64 0, .int .u64 0, .int .u64 s1, .int .u64 s0]] W fun e w' => e = .returned (.agg #[.int .i64 x1, .int .u64 x0, .int .i64 k]) ∧ Below W.heap.size W w') :
    Calls Try.prog 26 #[.agg #[.int .i64 h, .int .u64 l], .agg #[.int .i64 m, .int .u64 n]] w fun e w' => e = .returned (.agg #[.int .i64 x1, .int .u64 x0, .int .i64 k]) ∧ Below w.heap.size w w' := by
  have K1 := Lib.hid C1; have K2 := Lib.hid C2; have K3 := Lib.hid C3; have K4 := Lib.hid C4
  clear C1 C2 C3 C4
  have fld := field_part
  go_enter Try.func26, Try.ntmps26
  go_upto_region 1 with fail
  refine name_world (P := fun W => Code.wp _ _ _ _ W) _ (fun R1 hR1 => ?_)
  have zR1_a : w.heap.size < R1.heap.size := by rw [hR1]; first | omega | (simp <;> omega)
  have yR1_a : w.heap.size < R1.heap.size + 1 := by omega
  have yyR1_a : w.heap.size < R1.heap.size + 1 + 1 := by omega
  have cR1_a_0 : R1.cell? ⟨w.heap.size, 0, none⟩ = some (.int .i64 h) := by rw [hR1]; first | assumption | (simp [go_sem, *]; done)
  have cR1_a_1 : R1.cell? ⟨w.heap.size, 1, none⟩ = some (.int .u64 l) := by rw [hR1]; first | assumption | (simp [go_sem, *]; done)
  have zR1_b : w.heap.size + 1 < R1.heap.size := by rw [hR1]; first | omega | (simp <;> omega)
  have yR1_b : w.heap.size + 1 < R1.heap.size + 1 := by omega
  have yyR1_b : w.heap.size + 1 < R1.heap.size + 1 + 1 := by omega
  have cR1_b_0 : R1.cell? ⟨w.heap.size + 1, 0, none⟩ = some (.int .i64 m) := by rw [hR1]; first | assumption | (simp [go_sem, *]; done)
  have cR1_b_1 : R1.cell? ⟨w.heap.size + 1, 1, none⟩ = some (.int .u64 n) := by rw [hR1]; first | assumption | (simp [go_sem, *]; done)
  have zR1_r : w.heap.size + 1 + 1 < R1.heap.size := by rw [hR1]; first | omega | (simp <;> omega)
  have yR1_r : w.heap.size + 1 + 1 < R1.heap.size + 1 := by omega
  have yyR1_r : w.heap.size + 1 + 1 < R1.heap.size + 1 + 1 := by omega
  have cR1_r_0 : R1.cell? ⟨w.heap.size + 1 + 1, 0, none⟩ = some (.int .i64 0) := by rw [hR1]; first | assumption | (simp [go_sem, *]; done)
  have cR1_r_1 : R1.cell? ⟨w.heap.size + 1 + 1, 1, none⟩ = some (.int .u64 0) := by rw [hR1]; first | assumption | (simp [go_sem, *]; done)
  have cR1_r_2 : R1.cell? ⟨w.heap.size + 1 + 1, 2, none⟩ = some (.int .i64 0) := by rw [hR1]; first | assumption | (simp [go_sem, *]; done)
  have fR1_r : ∀ j, R1.frozen? ⟨w.heap.size + 1 + 1, j, none⟩ = false := fun j => by rw [hR1]; first | (simp [go_sem, *]; done) | (simp only [frozen?_alloc_cells]; rw [hfrw0 _ _ (by first | omega | (simp <;> omega))]; simp [frozen?_alloc_cells, World.frozen?]; done) | (simp [frozen?_alloc_cells, World.frozen?, *]; done)
  have lo_r : w.heap.size ≤ w.heap.size + 1 + 1 := by omega
  have na_r_a : ¬ (w.heap.size + 1 + 1 = w.heap.size) := by omega
  have nb_r_a : ¬ (w.heap.size = w.heap.size + 1 + 1) := by omega
  have na_r_b : ¬ (w.heap.size + 1 + 1 = w.heap.size + 1) := by omega
  have nb_r_b : ¬ (w.heap.size + 1 = w.heap.size + 1 + 1) := by omega
  have HBR1 : Hid (Below w.heap.size w R1) := by rw [hR1]; show Below _ _ _; exact (by repeat (first | with_reducible exact Below.refl _ _ | with_reducible exact Hid.out (by assumption) | with_reducible refine Below.setCell ?_ (by first | (simp; done) | omega | (simp <;> omega)) _ | with_reducible refine bl_al ?_ _ | with_reducible apply Below.drew))
  clear hR1
  go_cut [5, 6] (fun slot0 slot1 X1 => ∃ bX1d bX1g : Nat, slot0 = .pointer (some ⟨bX1d, 0, none⟩) ∧ slot1 = .pointer (some ⟨bX1g, 0, none⟩) ∧ R1.heap.size ≤ bX1d ∧ R1.heap.size ≤ bX1g ∧ bX1g ≠ bX1d ∧ Below R1.heap.size R1 X1 ∧ Has (bX1d) [.int .u64 d1, .int .u64 d0] X1 ∧ Has (bX1g) [.int .u64 g1, .int .u64 g0] X1)
  case first =>
    clear HBR1
    have ltt : ∀ n : Nat, n < n + 1 + 1 := fun n => by omega
    have lttt : ∀ n : Nat, n + 1 < n + 1 + 1 := fun n => by omega
    go_region_held3 (fun w' => w'.cell? ⟨w.heap.size, 0, none⟩ = some (.int .i64 h) ∧ w'.cell? ⟨w.heap.size, 1, none⟩ = some (.int .u64 l) ∧ w'.cell? ⟨w.heap.size + 1, 0, none⟩ = some (.int .i64 m) ∧ w'.cell? ⟨w.heap.size + 1, 1, none⟩ = some (.int .u64 n)) (first | (simp [*, go_sem]; done) | (simp [*, go_sem, World.cell?_alloc_past]; done))
      (first
        | (go_at_call 24; (with_reducible refine (K1.out _).mono ?_); rintro e w1 ⟨rfl, hb⟩; (first | (with_reducible (obtain ⟨hclw1, hfrw1⟩ := bcell_drew hb)) | (obtain ⟨hclw1, hfrw1⟩ := bcell hb)); have zw1_a : w.heap.size < w1.heap.size := (by first | omega | (have hz := hb.size; (try simp at hz); omega)); have yw1_a : w.heap.size < w1.heap.size + 1 := (by omega); have yyw1_a : w.heap.size < w1.heap.size + 1 + 1 := (by omega); have zw1_b : w.heap.size + 1 < w1.heap.size := (by first | omega | (have hz := hb.size; (try simp at hz); omega)); have yw1_b : w.heap.size + 1 < w1.heap.size + 1 := (by omega); have yyw1_b : w.heap.size + 1 < w1.heap.size + 1 + 1 := (by omega); (try have sw1_0 : R1.heap.size < w1.heap.size := (by first | omega | (have hz := hb.size; (try simp at hz); omega))); (try have syw1_0 : R1.heap.size < w1.heap.size + 1 := (by omega)); (try have stw1_0 : R1.heap.size + 1 < w1.heap.size := (by first | omega | (have hz := hb.size; (try simp at hz); omega))); have sxw1_0 : R1.heap.size ≤ w1.heap.size := (by first | omega | (have hz := hb.size; (try simp at hz); omega)); have HBw1 : Hid (Below R1.heap.size R1 w1) := (bl_trans (by repeat (first | with_reducible exact Below.refl _ _ | with_reducible exact Hid.out (by assumption) | with_reducible refine Below.setCell ?_ (by first | (simp; done) | omega | (simp <;> omega)) _ | with_reducible refine bl_al ?_ _ | with_reducible apply Below.drew)) hb); clear hb; clear K1)
        | (go_at_call 24; (with_reducible refine (K2.out _).mono ?_); rintro e w2 ⟨rfl, hb⟩; obtain ⟨hclw2, hfrw2⟩ := bcell hb; have zw2_a : w.heap.size < w2.heap.size := (by first | omega | (have hz := hb.size; (try simp at hz); omega)); have yw2_a : w.heap.size < w2.heap.size + 1 := (by omega); have yyw2_a : w.heap.size < w2.heap.size + 1 + 1 := (by omega); have zw2_b : w.heap.size + 1 < w2.heap.size := (by first | omega | (have hz := hb.size; (try simp at hz); omega)); have yw2_b : w.heap.size + 1 < w2.heap.size + 1 := (by omega); have yyw2_b : w.heap.size + 1 < w2.heap.size + 1 + 1 := (by omega); (try have sw2_0 : R1.heap.size < w2.heap.size := (by first | omega | (have hz := hb.size; (try simp at hz); omega))); (try have syw2_0 : R1.heap.size < w2.heap.size + 1 := (by omega)); (try have stw2_0 : R1.heap.size + 1 < w2.heap.size := (by first | omega | (have hz := hb.size; (try simp at hz); omega))); have sxw2_0 : R1.heap.size ≤ w2.heap.size := (by first | omega | (have hz := hb.size; (try simp at hz); omega)); (try have sw2_w1 : w1.heap.size < w2.heap.size := (by first | omega | (have hz := hb.size; (try simp at hz); omega))); (try have syw2_w1 : w1.heap.size < w2.heap.size + 1 := (by omega)); (try have stw2_w1 : w1.heap.size + 1 < w2.heap.size := (by first | omega | (have hz := hb.size; (try simp at hz); omega))); have sxw2_w1 : w1.heap.size ≤ w2.heap.size := (by first | omega | (have hz := hb.size; (try simp at hz); omega)); have HBw2 : Hid (Below R1.heap.size R1 w2) := (bl_trans (by repeat (first | with_reducible exact Below.refl _ _ | with_reducible exact Hid.out (by assumption) | with_reducible refine Below.setCell ?_ (by first | (simp; done) | omega | (simp <;> omega)) _ | with_reducible refine bl_al ?_ _ | with_reducible apply Below.drew)) hb); clear hb; clear K2))
    all_goals (rename_i hHeld; clear hHeld; go_wp2_with fail; go_meet; exact ⟨_, _, rfl, rfl, (by first | omega | (simp <;> omega)), (by first | omega | (simp <;> omega)), (by first | omega | (simp <;> omega)), (by repeat (first | with_reducible exact Below.refl _ _ | with_reducible exact Hid.out (by assumption) | with_reducible refine Below.setCell ?_ (by first | (simp; done) | omega | (simp <;> omega)) _ | with_reducible refine bl_al ?_ _ | with_reducible apply Below.drew)), Has.mk2 (by first | (simp <;> omega) | omega) (by simp [go_sem, *]) (by simp [go_sem, *]), Has.mk2 (by first | (simp <;> omega) | omega) (by simp [go_sem, *]) (by simp [go_sem, *])⟩)
  case rest =>
  obtain ⟨X1, hX1⟩ : ∃ X, X = wc := ⟨wc, rfl⟩
  subst hX1
  obtain ⟨bX1d, bX1g, rfl, rfl, m_bX1d, m_bX1g, n_bX1g_bX1d, hX, g_d, g_g⟩ := hcut
  have zX1_a : w.heap.size < X1.heap.size := Nat.lt_of_lt_of_le zR1_a hX.size
  have cX1_a_0 : X1.cell? ⟨w.heap.size, 0, none⟩ = some (.int .i64 h) := by rw [(bcell hX).1 _ _ zR1_a]; exact cR1_a_0
  have cX1_a_1 : X1.cell? ⟨w.heap.size, 1, none⟩ = some (.int .u64 l) := by rw [(bcell hX).1 _ _ zR1_a]; exact cR1_a_1
  have zX1_b : w.heap.size + 1 < X1.heap.size := Nat.lt_of_lt_of_le zR1_b hX.size
  have cX1_b_0 : X1.cell? ⟨w.heap.size + 1, 0, none⟩ = some (.int .i64 m) := by rw [(bcell hX).1 _ _ zR1_b]; exact cR1_b_0
  have cX1_b_1 : X1.cell? ⟨w.heap.size + 1, 1, none⟩ = some (.int .u64 n) := by rw [(bcell hX).1 _ _ zR1_b]; exact cR1_b_1
  have zX1_r : w.heap.size + 1 + 1 < X1.heap.size := Nat.lt_of_lt_of_le zR1_r hX.size
  have cX1_r_0 : X1.cell? ⟨w.heap.size + 1 + 1, 0, none⟩ = some (.int .i64 0) := by rw [(bcell hX).1 _ _ zR1_r]; exact cR1_r_0
  have cX1_r_1 : X1.cell? ⟨w.heap.size + 1 + 1, 1, none⟩ = some (.int .u64 0) := by rw [(bcell hX).1 _ _ zR1_r]; exact cR1_r_1
  have cX1_r_2 : X1.cell? ⟨w.heap.size + 1 + 1, 2, none⟩ = some (.int .i64 0) := by rw [(bcell hX).1 _ _ zR1_r]; exact cR1_r_2
  have fX1_r : ∀ j, X1.frozen? ⟨w.heap.size + 1 + 1, j, none⟩ = false := fun j => by rw [(bcell hX).2 _ _ zR1_r]; exact fR1_r j
  have zX1_d := g_d.1; have cX1_d_0 := g_d.2 0 _ rfl; have cX1_d_1 := g_d.2 1 _ rfl; clear g_d
  have zX1_g := g_g.1; have cX1_g_0 := g_g.2 0 _ rfl; have cX1_g_1 := g_g.2 1 _ rfl; clear g_g
  have nebX1d_r : ¬ (bX1d = w.heap.size + 1 + 1) := by omega
  have ndbX1d_r : ¬ (w.heap.size + 1 + 1 = bX1d) := by omega
  have nebX1g_r : ¬ (bX1g = w.heap.size + 1 + 1) := by omega
  have ndbX1g_r : ¬ (w.heap.size + 1 + 1 = bX1g) := by omega
  have HBX1 : Hid (Below w.heap.size w X1) := bl_trans HBR1.out hX
  clear hX
  clear zR1_a yR1_a yyR1_a cR1_a_0 cR1_a_1 zR1_b yR1_b yyR1_b cR1_b_0 cR1_b_1 zR1_r yR1_r yyR1_r cR1_r_0 cR1_r_1 cR1_r_2 fR1_r HBR1 m_bX1d m_bX1g n_bX1g_bX1d
  go_upto_region 3 with fail
  refine name_world (P := fun W => Code.wp _ _ _ _ W) _ (fun R2 hR2 => ?_)
  have zR2_a : w.heap.size < R2.heap.size := by rw [hR2]; first | omega | (simp <;> omega)
  have yR2_a : w.heap.size < R2.heap.size + 1 := by omega
  have yyR2_a : w.heap.size < R2.heap.size + 1 + 1 := by omega
  have cR2_a_0 : R2.cell? ⟨w.heap.size, 0, none⟩ = some (.int .i64 h) := by rw [hR2]; first | assumption | (simp [go_sem, *]; done)
  have cR2_a_1 : R2.cell? ⟨w.heap.size, 1, none⟩ = some (.int .u64 l) := by rw [hR2]; first | assumption | (simp [go_sem, *]; done)
  have zR2_b : w.heap.size + 1 < R2.heap.size := by rw [hR2]; first | omega | (simp <;> omega)
  have yR2_b : w.heap.size + 1 < R2.heap.size + 1 := by omega
  have yyR2_b : w.heap.size + 1 < R2.heap.size + 1 + 1 := by omega
  have cR2_b_0 : R2.cell? ⟨w.heap.size + 1, 0, none⟩ = some (.int .i64 m) := by rw [hR2]; first | assumption | (simp [go_sem, *]; done)
  have cR2_b_1 : R2.cell? ⟨w.heap.size + 1, 1, none⟩ = some (.int .u64 n) := by rw [hR2]; first | assumption | (simp [go_sem, *]; done)
  have zR2_r : w.heap.size + 1 + 1 < R2.heap.size := by rw [hR2]; first | omega | (simp <;> omega)
  have yR2_r : w.heap.size + 1 + 1 < R2.heap.size + 1 := by omega
  have yyR2_r : w.heap.size + 1 + 1 < R2.heap.size + 1 + 1 := by omega
  have cR2_r_0 : R2.cell? ⟨w.heap.size + 1 + 1, 0, none⟩ = some (.int .i64 0) := by rw [hR2]; first | assumption | (simp [go_sem, *]; done)
  have cR2_r_1 : R2.cell? ⟨w.heap.size + 1 + 1, 1, none⟩ = some (.int .u64 0) := by rw [hR2]; first | assumption | (simp [go_sem, *]; done)
  have cR2_r_2 : R2.cell? ⟨w.heap.size + 1 + 1, 2, none⟩ = some (.int .i64 0) := by rw [hR2]; first | assumption | (simp [go_sem, *]; done)
  have fR2_r : ∀ j, R2.frozen? ⟨w.heap.size + 1 + 1, j, none⟩ = false := fun j => by rw [hR2]; first | (simp [go_sem, *]; done) | (simp only [frozen?_alloc_cells]; rw [hfrX1 _ _ (by first | omega | (simp <;> omega))]; simp [frozen?_alloc_cells, World.frozen?]; done) | (simp [frozen?_alloc_cells, World.frozen?, *]; done)
  have zR2_d : bX1d < R2.heap.size := by rw [hR2]; first | omega | (simp <;> omega)
  have yR2_d : bX1d < R2.heap.size + 1 := by omega
  have yyR2_d : bX1d < R2.heap.size + 1 + 1 := by omega
  have cR2_d_0 : R2.cell? ⟨bX1d, 0, none⟩ = some (.int .u64 d1) := by rw [hR2]; first | assumption | (simp [go_sem, *]; done)
  have cR2_d_1 : R2.cell? ⟨bX1d, 1, none⟩ = some (.int .u64 d0) := by rw [hR2]; first | assumption | (simp [go_sem, *]; done)
  have zR2_g : bX1g < R2.heap.size := by rw [hR2]; first | omega | (simp <;> omega)
  have yR2_g : bX1g < R2.heap.size + 1 := by omega
  have yyR2_g : bX1g < R2.heap.size + 1 + 1 := by omega
  have cR2_g_0 : R2.cell? ⟨bX1g, 0, none⟩ = some (.int .u64 g1) := by rw [hR2]; first | assumption | (simp [go_sem, *]; done)
  have cR2_g_1 : R2.cell? ⟨bX1g, 1, none⟩ = some (.int .u64 g0) := by rw [hR2]; first | assumption | (simp [go_sem, *]; done)
  have na_r_d : ¬ (w.heap.size + 1 + 1 = bX1d) := by omega
  have nb_r_d : ¬ (bX1d = w.heap.size + 1 + 1) := by omega
  have na_r_g : ¬ (w.heap.size + 1 + 1 = bX1g) := by omega
  have nb_r_g : ¬ (bX1g = w.heap.size + 1 + 1) := by omega
  have HBR2 : Hid (Below w.heap.size w R2) := by rw [hR2]; show Below _ _ _; exact (by repeat (first | with_reducible exact Below.refl _ _ | with_reducible exact Hid.out (by assumption) | with_reducible refine Below.setCell ?_ (by first | (simp; done) | omega | (simp <;> omega)) _ | with_reducible refine bl_al ?_ _ | with_reducible apply Below.drew))
  clear hR2
  clear HBX1 zX1_a cX1_a_0 cX1_a_1 zX1_b cX1_b_0 cX1_b_1 zX1_r cX1_r_0 cX1_r_1 cX1_r_2 fX1_r zX1_d cX1_d_0 cX1_d_1 zX1_g cX1_g_0 cX1_g_1
  go_region_held3 (fun w' => w'.cell? ⟨w.heap.size, 0, none⟩ = some (.int .i64 h) ∧ w'.cell? ⟨w.heap.size, 1, none⟩ = some (.int .u64 l) ∧ w'.cell? ⟨bX1d, 0, none⟩ = some (.int .u64 d1) ∧ w'.cell? ⟨bX1d, 1, none⟩ = some (.int .u64 d0) ∧ w'.cell? ⟨bX1g, 0, none⟩ = some (.int .u64 g1) ∧ w'.cell? ⟨bX1g, 1, none⟩ = some (.int .u64 g0)) (first | (simp [*, go_sem]; done) | (simp [*, go_sem, World.cell?_alloc_past]; done))
    (first
      | (go_at_call 41; (with_reducible refine (K3.out _).mono ?_); rintro e w3 ⟨rfl, hb⟩; (first | (with_reducible (obtain ⟨hclw3, hfrw3⟩ := bcell_drew hb)) | (obtain ⟨hclw3, hfrw3⟩ := bcell hb)); have zw3_a : w.heap.size < w3.heap.size := (by first | omega | (have hz := hb.size; (try simp at hz); omega)); have yw3_a : w.heap.size < w3.heap.size + 1 := (by omega); have yyw3_a : w.heap.size < w3.heap.size + 1 + 1 := (by omega); have zw3_b : w.heap.size + 1 < w3.heap.size := (by first | omega | (have hz := hb.size; (try simp at hz); omega)); have yw3_b : w.heap.size + 1 < w3.heap.size + 1 := (by omega); have yyw3_b : w.heap.size + 1 < w3.heap.size + 1 + 1 := (by omega); have zw3_r : w.heap.size + 1 + 1 < w3.heap.size := (by first | omega | (have hz := hb.size; (try simp at hz); omega)); have yw3_r : w.heap.size + 1 + 1 < w3.heap.size + 1 := (by omega); have yyw3_r : w.heap.size + 1 + 1 < w3.heap.size + 1 + 1 := (by omega); have zw3_d : bX1d < w3.heap.size := (by first | omega | (have hz := hb.size; (try simp at hz); omega)); have yw3_d : bX1d < w3.heap.size + 1 := (by omega); have yyw3_d : bX1d < w3.heap.size + 1 + 1 := (by omega); have zw3_g : bX1g < w3.heap.size := (by first | omega | (have hz := hb.size; (try simp at hz); omega)); have yw3_g : bX1g < w3.heap.size + 1 := (by omega); have yyw3_g : bX1g < w3.heap.size + 1 + 1 := (by omega); have sxw3_0 : R2.heap.size ≤ w3.heap.size := (by first | omega | (have hz := hb.size; (try simp at hz); omega)); have HBw3 : Hid (Below w.heap.size w w3) := (bl_trans (by repeat (first | with_reducible exact Below.refl _ _ | with_reducible exact Hid.out (by assumption) | with_reducible refine Below.setCell ?_ (by first | (simp; done) | omega | (simp <;> omega)) _ | with_reducible refine bl_al ?_ _ | with_reducible apply Below.drew)) hb); clear hb; clear K3)
      | (go_at_call 42; (with_reducible refine (K4.out _).mono ?_); rintro e w4 ⟨rfl, hb⟩; obtain ⟨hclw4, hfrw4⟩ := bcell hb; have zw4_a : w.heap.size < w4.heap.size := (by first | omega | (have hz := hb.size; (try simp at hz); omega)); have yw4_a : w.heap.size < w4.heap.size + 1 := (by omega); have yyw4_a : w.heap.size < w4.heap.size + 1 + 1 := (by omega); have zw4_b : w.heap.size + 1 < w4.heap.size := (by first | omega | (have hz := hb.size; (try simp at hz); omega)); have yw4_b : w.heap.size + 1 < w4.heap.size + 1 := (by omega); have yyw4_b : w.heap.size + 1 < w4.heap.size + 1 + 1 := (by omega); have zw4_r : w.heap.size + 1 + 1 < w4.heap.size := (by first | omega | (have hz := hb.size; (try simp at hz); omega)); have yw4_r : w.heap.size + 1 + 1 < w4.heap.size + 1 := (by omega); have yyw4_r : w.heap.size + 1 + 1 < w4.heap.size + 1 + 1 := (by omega); have zw4_d : bX1d < w4.heap.size := (by first | omega | (have hz := hb.size; (try simp at hz); omega)); have yw4_d : bX1d < w4.heap.size + 1 := (by omega); have yyw4_d : bX1d < w4.heap.size + 1 + 1 := (by omega); have zw4_g : bX1g < w4.heap.size := (by first | omega | (have hz := hb.size; (try simp at hz); omega)); have yw4_g : bX1g < w4.heap.size + 1 := (by omega); have yyw4_g : bX1g < w4.heap.size + 1 + 1 := (by omega); have sxw4_0 : R2.heap.size ≤ w4.heap.size := (by first | omega | (have hz := hb.size; (try simp at hz); omega)); have sxw4_w3 : w3.heap.size ≤ w4.heap.size := (by first | omega | (have hz := hb.size; (try simp at hz); omega)); have HBw4 : Hid (Below w.heap.size w w4) := (bl_trans (by repeat (first | with_reducible exact Below.refl _ _ | with_reducible exact Hid.out (by assumption) | with_reducible refine Below.setCell ?_ (by first | (simp; done) | omega | (simp <;> omega)) _ | with_reducible refine bl_al ?_ _ | with_reducible apply Below.drew)) hb); clear hb; clear K4))
  rename_i hHeld
  clear hHeld
  go_wp2_with fail
  refine bodyPost_ret (by simp [results, Try.results26, go_sem, *]; try rfl) rfl ?_
  exact ⟨rfl, by repeat (first | with_reducible exact Below.refl _ _ | with_reducible exact Hid.out (by assumption) | with_reducible refine Below.setCell ?_ (by first | (simp; done) | omega | (simp <;> omega)) _ | with_reducible refine bl_al ?_ _ | with_reducible apply Below.drew)⟩
set_option maxRecDepth 20000 in
set_option maxHeartbeats 16000000 in
theorem radd_less (h l m n d1 d0 g1 g0 s1 s0 x1 x0 k : Int) (c p q : Bool) (ha : decide (h < 0) = p) (hb : decide (m < 0) = q) (hne : (p == q) = false) (w : World)
    (C1 : ∀ W, Calls Try.prog 24 #[.agg #[.int .i64 h, .int .u64 l]] W fun e w' => e = .returned (.agg #[.int .u64 d1, .int .u64 d0]) ∧ Below W.heap.size W w')
    (C2 : ∀ W, Calls Try.prog 24 #[.agg #[.int .i64 m, .int .u64 n]] W fun e w' => e = .returned (.agg #[.int .u64 g1, .int .u64 g0]) ∧ Below W.heap.size W w')
    (C3 : ∀ W, Calls Try.prog 23 #[.agg #[.int .u64 d1, .int .u64 d0], .agg #[.int .u64 g1, .int .u64 g0]] W fun e w' => e = .returned (.bool true) ∧ Below W.heap.size W w')
    (C4 : ∀ W, Calls Try.prog 38 #[.agg #[.int .u64 g1, .int .u64 g0], .agg #[.int .u64 d1, .int .u64 d0]] W fun e w' => e = .returned (.agg #[.int .u64 s1, .int .u64 s0, .bool c]) ∧ Below W.heap.size W w')
    (C5 : ∀ W, Calls Try.prog 42 #[.bool q, .agg #[.int .u64 0, .int .u64 0, .int .u64 s1, .int .u64 s0]] W fun e w' => e = .returned (.agg #[.int .i64 x1, .int .u64 x0, .int .i64 k]) ∧ Below W.heap.size W w') :
    Calls Try.prog 26 #[.agg #[.int .i64 h, .int .u64 l], .agg #[.int .i64 m, .int .u64 n]] w fun e w' => e = .returned (.agg #[.int .i64 x1, .int .u64 x0, .int .i64 k]) ∧ Below w.heap.size w w' := by
  have K1 := Lib.hid C1; have K2 := Lib.hid C2; have K3 := Lib.hid C3; have K4 := Lib.hid C4; have K5 := Lib.hid C5
  clear C1 C2 C3 C4 C5
  have fld := field_part
  go_enter Try.func26, Try.ntmps26
  go_upto_region 1 with fail
  refine name_world (P := fun W => Code.wp _ _ _ _ W) _ (fun R1 hR1 => ?_)
  have zR1_a : w.heap.size < R1.heap.size := by rw [hR1]; first | omega | (simp <;> omega)
  have yR1_a : w.heap.size < R1.heap.size + 1 := by omega
  have yyR1_a : w.heap.size < R1.heap.size + 1 + 1 := by omega
  have cR1_a_0 : R1.cell? ⟨w.heap.size, 0, none⟩ = some (.int .i64 h) := by rw [hR1]; first | assumption | (simp [go_sem, *]; done)
  have cR1_a_1 : R1.cell? ⟨w.heap.size, 1, none⟩ = some (.int .u64 l) := by rw [hR1]; first | assumption | (simp [go_sem, *]; done)
  have zR1_b : w.heap.size + 1 < R1.heap.size := by rw [hR1]; first | omega | (simp <;> omega)
  have yR1_b : w.heap.size + 1 < R1.heap.size + 1 := by omega
  have yyR1_b : w.heap.size + 1 < R1.heap.size + 1 + 1 := by omega
  have cR1_b_0 : R1.cell? ⟨w.heap.size + 1, 0, none⟩ = some (.int .i64 m) := by rw [hR1]; first | assumption | (simp [go_sem, *]; done)
  have cR1_b_1 : R1.cell? ⟨w.heap.size + 1, 1, none⟩ = some (.int .u64 n) := by rw [hR1]; first | assumption | (simp [go_sem, *]; done)
  have zR1_r : w.heap.size + 1 + 1 < R1.heap.size := by rw [hR1]; first | omega | (simp <;> omega)
  have yR1_r : w.heap.size + 1 + 1 < R1.heap.size + 1 := by omega
  have yyR1_r : w.heap.size + 1 + 1 < R1.heap.size + 1 + 1 := by omega
  have cR1_r_0 : R1.cell? ⟨w.heap.size + 1 + 1, 0, none⟩ = some (.int .i64 0) := by rw [hR1]; first | assumption | (simp [go_sem, *]; done)
  have cR1_r_1 : R1.cell? ⟨w.heap.size + 1 + 1, 1, none⟩ = some (.int .u64 0) := by rw [hR1]; first | assumption | (simp [go_sem, *]; done)
  have cR1_r_2 : R1.cell? ⟨w.heap.size + 1 + 1, 2, none⟩ = some (.int .i64 0) := by rw [hR1]; first | assumption | (simp [go_sem, *]; done)
  have fR1_r : ∀ j, R1.frozen? ⟨w.heap.size + 1 + 1, j, none⟩ = false := fun j => by rw [hR1]; first | (simp [go_sem, *]; done) | (simp only [frozen?_alloc_cells]; rw [hfrw0 _ _ (by first | omega | (simp <;> omega))]; simp [frozen?_alloc_cells, World.frozen?]; done) | (simp [frozen?_alloc_cells, World.frozen?, *]; done)
  have lo_r : w.heap.size ≤ w.heap.size + 1 + 1 := by omega
  have na_r_a : ¬ (w.heap.size + 1 + 1 = w.heap.size) := by omega
  have nb_r_a : ¬ (w.heap.size = w.heap.size + 1 + 1) := by omega
  have na_r_b : ¬ (w.heap.size + 1 + 1 = w.heap.size + 1) := by omega
  have nb_r_b : ¬ (w.heap.size + 1 = w.heap.size + 1 + 1) := by omega
  have HBR1 : Hid (Below w.heap.size w R1) := by rw [hR1]; show Below _ _ _; exact (by repeat (first | with_reducible exact Below.refl _ _ | with_reducible exact Hid.out (by assumption) | with_reducible refine Below.setCell ?_ (by first | (simp; done) | omega | (simp <;> omega)) _ | with_reducible refine bl_al ?_ _ | with_reducible apply Below.drew))
  clear hR1
  go_cut [5, 6] (fun slot0 slot1 X1 => ∃ bX1d bX1g : Nat, slot0 = .pointer (some ⟨bX1d, 0, none⟩) ∧ slot1 = .pointer (some ⟨bX1g, 0, none⟩) ∧ R1.heap.size ≤ bX1d ∧ R1.heap.size ≤ bX1g ∧ bX1g ≠ bX1d ∧ Below R1.heap.size R1 X1 ∧ Has (bX1d) [.int .u64 d1, .int .u64 d0] X1 ∧ Has (bX1g) [.int .u64 g1, .int .u64 g0] X1)
  case first =>
    clear HBR1
    have ltt : ∀ n : Nat, n < n + 1 + 1 := fun n => by omega
    have lttt : ∀ n : Nat, n + 1 < n + 1 + 1 := fun n => by omega
    go_region_held3 (fun w' => w'.cell? ⟨w.heap.size, 0, none⟩ = some (.int .i64 h) ∧ w'.cell? ⟨w.heap.size, 1, none⟩ = some (.int .u64 l) ∧ w'.cell? ⟨w.heap.size + 1, 0, none⟩ = some (.int .i64 m) ∧ w'.cell? ⟨w.heap.size + 1, 1, none⟩ = some (.int .u64 n)) (first | (simp [*, go_sem]; done) | (simp [*, go_sem, World.cell?_alloc_past]; done))
      (first
        | (go_at_call 24; (with_reducible refine (K1.out _).mono ?_); rintro e w1 ⟨rfl, hb⟩; (first | (with_reducible (obtain ⟨hclw1, hfrw1⟩ := bcell_drew hb)) | (obtain ⟨hclw1, hfrw1⟩ := bcell hb)); have zw1_a : w.heap.size < w1.heap.size := (by first | omega | (have hz := hb.size; (try simp at hz); omega)); have yw1_a : w.heap.size < w1.heap.size + 1 := (by omega); have yyw1_a : w.heap.size < w1.heap.size + 1 + 1 := (by omega); have zw1_b : w.heap.size + 1 < w1.heap.size := (by first | omega | (have hz := hb.size; (try simp at hz); omega)); have yw1_b : w.heap.size + 1 < w1.heap.size + 1 := (by omega); have yyw1_b : w.heap.size + 1 < w1.heap.size + 1 + 1 := (by omega); (try have sw1_0 : R1.heap.size < w1.heap.size := (by first | omega | (have hz := hb.size; (try simp at hz); omega))); (try have syw1_0 : R1.heap.size < w1.heap.size + 1 := (by omega)); (try have stw1_0 : R1.heap.size + 1 < w1.heap.size := (by first | omega | (have hz := hb.size; (try simp at hz); omega))); have sxw1_0 : R1.heap.size ≤ w1.heap.size := (by first | omega | (have hz := hb.size; (try simp at hz); omega)); have HBw1 : Hid (Below R1.heap.size R1 w1) := (bl_trans (by repeat (first | with_reducible exact Below.refl _ _ | with_reducible exact Hid.out (by assumption) | with_reducible refine Below.setCell ?_ (by first | (simp; done) | omega | (simp <;> omega)) _ | with_reducible refine bl_al ?_ _ | with_reducible apply Below.drew)) hb); clear hb; clear K1)
        | (go_at_call 24; (with_reducible refine (K2.out _).mono ?_); rintro e w2 ⟨rfl, hb⟩; obtain ⟨hclw2, hfrw2⟩ := bcell hb; have zw2_a : w.heap.size < w2.heap.size := (by first | omega | (have hz := hb.size; (try simp at hz); omega)); have yw2_a : w.heap.size < w2.heap.size + 1 := (by omega); have yyw2_a : w.heap.size < w2.heap.size + 1 + 1 := (by omega); have zw2_b : w.heap.size + 1 < w2.heap.size := (by first | omega | (have hz := hb.size; (try simp at hz); omega)); have yw2_b : w.heap.size + 1 < w2.heap.size + 1 := (by omega); have yyw2_b : w.heap.size + 1 < w2.heap.size + 1 + 1 := (by omega); (try have sw2_0 : R1.heap.size < w2.heap.size := (by first | omega | (have hz := hb.size; (try simp at hz); omega))); (try have syw2_0 : R1.heap.size < w2.heap.size + 1 := (by omega)); (try have stw2_0 : R1.heap.size + 1 < w2.heap.size := (by first | omega | (have hz := hb.size; (try simp at hz); omega))); have sxw2_0 : R1.heap.size ≤ w2.heap.size := (by first | omega | (have hz := hb.size; (try simp at hz); omega)); (try have sw2_w1 : w1.heap.size < w2.heap.size := (by first | omega | (have hz := hb.size; (try simp at hz); omega))); (try have syw2_w1 : w1.heap.size < w2.heap.size + 1 := (by omega)); (try have stw2_w1 : w1.heap.size + 1 < w2.heap.size := (by first | omega | (have hz := hb.size; (try simp at hz); omega))); have sxw2_w1 : w1.heap.size ≤ w2.heap.size := (by first | omega | (have hz := hb.size; (try simp at hz); omega)); have HBw2 : Hid (Below R1.heap.size R1 w2) := (bl_trans (by repeat (first | with_reducible exact Below.refl _ _ | with_reducible exact Hid.out (by assumption) | with_reducible refine Below.setCell ?_ (by first | (simp; done) | omega | (simp <;> omega)) _ | with_reducible refine bl_al ?_ _ | with_reducible apply Below.drew)) hb); clear hb; clear K2))
    all_goals (rename_i hHeld; clear hHeld; go_wp2_with fail; go_meet; exact ⟨_, _, rfl, rfl, (by first | omega | (simp <;> omega)), (by first | omega | (simp <;> omega)), (by first | omega | (simp <;> omega)), (by repeat (first | with_reducible exact Below.refl _ _ | with_reducible exact Hid.out (by assumption) | with_reducible refine Below.setCell ?_ (by first | (simp; done) | omega | (simp <;> omega)) _ | with_reducible refine bl_al ?_ _ | with_reducible apply Below.drew)), Has.mk2 (by first | (simp <;> omega) | omega) (by simp [go_sem, *]) (by simp [go_sem, *]), Has.mk2 (by first | (simp <;> omega) | omega) (by simp [go_sem, *]) (by simp [go_sem, *])⟩)
  case rest =>
  obtain ⟨X1, hX1⟩ : ∃ X, X = wc := ⟨wc, rfl⟩
  subst hX1
  obtain ⟨bX1d, bX1g, rfl, rfl, m_bX1d, m_bX1g, n_bX1g_bX1d, hX, g_d, g_g⟩ := hcut
  have zX1_a : w.heap.size < X1.heap.size := Nat.lt_of_lt_of_le zR1_a hX.size
  have cX1_a_0 : X1.cell? ⟨w.heap.size, 0, none⟩ = some (.int .i64 h) := by rw [(bcell hX).1 _ _ zR1_a]; exact cR1_a_0
  have cX1_a_1 : X1.cell? ⟨w.heap.size, 1, none⟩ = some (.int .u64 l) := by rw [(bcell hX).1 _ _ zR1_a]; exact cR1_a_1
  have zX1_b : w.heap.size + 1 < X1.heap.size := Nat.lt_of_lt_of_le zR1_b hX.size
  have cX1_b_0 : X1.cell? ⟨w.heap.size + 1, 0, none⟩ = some (.int .i64 m) := by rw [(bcell hX).1 _ _ zR1_b]; exact cR1_b_0
  have cX1_b_1 : X1.cell? ⟨w.heap.size + 1, 1, none⟩ = some (.int .u64 n) := by rw [(bcell hX).1 _ _ zR1_b]; exact cR1_b_1
  have zX1_r : w.heap.size + 1 + 1 < X1.heap.size := Nat.lt_of_lt_of_le zR1_r hX.size
  have cX1_r_0 : X1.cell? ⟨w.heap.size + 1 + 1, 0, none⟩ = some (.int .i64 0) := by rw [(bcell hX).1 _ _ zR1_r]; exact cR1_r_0
  have cX1_r_1 : X1.cell? ⟨w.heap.size + 1 + 1, 1, none⟩ = some (.int .u64 0) := by rw [(bcell hX).1 _ _ zR1_r]; exact cR1_r_1
  have cX1_r_2 : X1.cell? ⟨w.heap.size + 1 + 1, 2, none⟩ = some (.int .i64 0) := by rw [(bcell hX).1 _ _ zR1_r]; exact cR1_r_2
  have fX1_r : ∀ j, X1.frozen? ⟨w.heap.size + 1 + 1, j, none⟩ = false := fun j => by rw [(bcell hX).2 _ _ zR1_r]; exact fR1_r j
  have zX1_d := g_d.1; have cX1_d_0 := g_d.2 0 _ rfl; have cX1_d_1 := g_d.2 1 _ rfl; clear g_d
  have zX1_g := g_g.1; have cX1_g_0 := g_g.2 0 _ rfl; have cX1_g_1 := g_g.2 1 _ rfl; clear g_g
  have nebX1d_r : ¬ (bX1d = w.heap.size + 1 + 1) := by omega
  have ndbX1d_r : ¬ (w.heap.size + 1 + 1 = bX1d) := by omega
  have nebX1g_r : ¬ (bX1g = w.heap.size + 1 + 1) := by omega
  have ndbX1g_r : ¬ (w.heap.size + 1 + 1 = bX1g) := by omega
  have HBX1 : Hid (Below w.heap.size w X1) := bl_trans HBR1.out hX
  clear hX
  clear zR1_a yR1_a yyR1_a cR1_a_0 cR1_a_1 zR1_b yR1_b yyR1_b cR1_b_0 cR1_b_1 zR1_r yR1_r yyR1_r cR1_r_0 cR1_r_1 cR1_r_2 fR1_r HBR1 m_bX1d m_bX1g n_bX1g_bX1d
  go_upto_region 4 with fail
  refine name_world (P := fun W => Code.wp _ _ _ _ W) _ (fun R2 hR2 => ?_)
  have zR2_a : w.heap.size < R2.heap.size := by rw [hR2]; first | omega | (simp <;> omega)
  have yR2_a : w.heap.size < R2.heap.size + 1 := by omega
  have yyR2_a : w.heap.size < R2.heap.size + 1 + 1 := by omega
  have cR2_a_0 : R2.cell? ⟨w.heap.size, 0, none⟩ = some (.int .i64 h) := by rw [hR2]; first | assumption | (simp [go_sem, *]; done)
  have cR2_a_1 : R2.cell? ⟨w.heap.size, 1, none⟩ = some (.int .u64 l) := by rw [hR2]; first | assumption | (simp [go_sem, *]; done)
  have zR2_b : w.heap.size + 1 < R2.heap.size := by rw [hR2]; first | omega | (simp <;> omega)
  have yR2_b : w.heap.size + 1 < R2.heap.size + 1 := by omega
  have yyR2_b : w.heap.size + 1 < R2.heap.size + 1 + 1 := by omega
  have cR2_b_0 : R2.cell? ⟨w.heap.size + 1, 0, none⟩ = some (.int .i64 m) := by rw [hR2]; first | assumption | (simp [go_sem, *]; done)
  have cR2_b_1 : R2.cell? ⟨w.heap.size + 1, 1, none⟩ = some (.int .u64 n) := by rw [hR2]; first | assumption | (simp [go_sem, *]; done)
  have zR2_r : w.heap.size + 1 + 1 < R2.heap.size := by rw [hR2]; first | omega | (simp <;> omega)
  have yR2_r : w.heap.size + 1 + 1 < R2.heap.size + 1 := by omega
  have yyR2_r : w.heap.size + 1 + 1 < R2.heap.size + 1 + 1 := by omega
  have cR2_r_0 : R2.cell? ⟨w.heap.size + 1 + 1, 0, none⟩ = some (.int .i64 0) := by rw [hR2]; first | assumption | (simp [go_sem, *]; done)
  have cR2_r_1 : R2.cell? ⟨w.heap.size + 1 + 1, 1, none⟩ = some (.int .u64 0) := by rw [hR2]; first | assumption | (simp [go_sem, *]; done)
  have cR2_r_2 : R2.cell? ⟨w.heap.size + 1 + 1, 2, none⟩ = some (.int .i64 0) := by rw [hR2]; first | assumption | (simp [go_sem, *]; done)
  have fR2_r : ∀ j, R2.frozen? ⟨w.heap.size + 1 + 1, j, none⟩ = false := fun j => by rw [hR2]; first | (simp [go_sem, *]; done) | (simp only [frozen?_alloc_cells]; rw [hfrX1 _ _ (by first | omega | (simp <;> omega))]; simp [frozen?_alloc_cells, World.frozen?]; done) | (simp [frozen?_alloc_cells, World.frozen?, *]; done)
  have zR2_d : bX1d < R2.heap.size := by rw [hR2]; first | omega | (simp <;> omega)
  have yR2_d : bX1d < R2.heap.size + 1 := by omega
  have yyR2_d : bX1d < R2.heap.size + 1 + 1 := by omega
  have cR2_d_0 : R2.cell? ⟨bX1d, 0, none⟩ = some (.int .u64 d1) := by rw [hR2]; first | assumption | (simp [go_sem, *]; done)
  have cR2_d_1 : R2.cell? ⟨bX1d, 1, none⟩ = some (.int .u64 d0) := by rw [hR2]; first | assumption | (simp [go_sem, *]; done)
  have zR2_g : bX1g < R2.heap.size := by rw [hR2]; first | omega | (simp <;> omega)
  have yR2_g : bX1g < R2.heap.size + 1 := by omega
  have yyR2_g : bX1g < R2.heap.size + 1 + 1 := by omega
  have cR2_g_0 : R2.cell? ⟨bX1g, 0, none⟩ = some (.int .u64 g1) := by rw [hR2]; first | assumption | (simp [go_sem, *]; done)
  have cR2_g_1 : R2.cell? ⟨bX1g, 1, none⟩ = some (.int .u64 g0) := by rw [hR2]; first | assumption | (simp [go_sem, *]; done)
  have na_r_d : ¬ (w.heap.size + 1 + 1 = bX1d) := by omega
  have nb_r_d : ¬ (bX1d = w.heap.size + 1 + 1) := by omega
  have na_r_g : ¬ (w.heap.size + 1 + 1 = bX1g) := by omega
  have nb_r_g : ¬ (bX1g = w.heap.size + 1 + 1) := by omega
  have HBR2 : Hid (Below w.heap.size w R2) := by rw [hR2]; show Below _ _ _; exact (by repeat (first | with_reducible exact Below.refl _ _ | with_reducible exact Hid.out (by assumption) | with_reducible refine Below.setCell ?_ (by first | (simp; done) | omega | (simp <;> omega)) _ | with_reducible refine bl_al ?_ _ | with_reducible apply Below.drew))
  clear hR2
  clear HBX1 zX1_a cX1_a_0 cX1_a_1 zX1_b cX1_b_0 cX1_b_1 zX1_r cX1_r_0 cX1_r_1 cX1_r_2 fX1_r zX1_d cX1_d_0 cX1_d_1 zX1_g cX1_g_0 cX1_g_1
  go_wp2_with fail
  (with_reducible refine (K3.out _).mono ?_); rintro e w3 ⟨rfl, hb⟩; obtain ⟨hclw3, hfrw3⟩ := bcell hb; have zw3_a : w.heap.size < w3.heap.size := (by first | omega | (have hz := hb.size; (try simp at hz); omega)); have yw3_a : w.heap.size < w3.heap.size + 1 := (by omega); have yyw3_a : w.heap.size < w3.heap.size + 1 + 1 := (by omega); have zw3_b : w.heap.size + 1 < w3.heap.size := (by first | omega | (have hz := hb.size; (try simp at hz); omega)); have yw3_b : w.heap.size + 1 < w3.heap.size + 1 := (by omega); have yyw3_b : w.heap.size + 1 < w3.heap.size + 1 + 1 := (by omega); have zw3_r : w.heap.size + 1 + 1 < w3.heap.size := (by first | omega | (have hz := hb.size; (try simp at hz); omega)); have yw3_r : w.heap.size + 1 + 1 < w3.heap.size + 1 := (by omega); have yyw3_r : w.heap.size + 1 + 1 < w3.heap.size + 1 + 1 := (by omega); have zw3_d : bX1d < w3.heap.size := (by first | omega | (have hz := hb.size; (try simp at hz); omega)); have yw3_d : bX1d < w3.heap.size + 1 := (by omega); have yyw3_d : bX1d < w3.heap.size + 1 + 1 := (by omega); have zw3_g : bX1g < w3.heap.size := (by first | omega | (have hz := hb.size; (try simp at hz); omega)); have yw3_g : bX1g < w3.heap.size + 1 := (by omega); have yyw3_g : bX1g < w3.heap.size + 1 + 1 := (by omega); have sxw3_0 : R2.heap.size ≤ w3.heap.size := (by first | omega | (have hz := hb.size; (try simp at hz); omega)); have HBw3 : Hid (Below w.heap.size w w3) := (bl_trans (by repeat (first | with_reducible exact Below.refl _ _ | with_reducible exact Hid.out (by assumption) | with_reducible refine Below.setCell ?_ (by first | (simp; done) | omega | (simp <;> omega)) _ | with_reducible refine bl_al ?_ _ | with_reducible apply Below.drew)) hb); clear hb
  have fw3_r : ∀ j, w3.frozen? ⟨w.heap.size + 1 + 1, j, none⟩ = false := fun j => by rw [hfrw3 _ _ (by first | exact zR2_r | (simp; exact zR2_r))]; exact fR2_r j
  go_upto_region 5 with fail
  refine name_world (P := fun W => Code.wp _ _ _ _ W) _ (fun R3 hR3 => ?_)
  have zR3_a : w.heap.size < R3.heap.size := by rw [hR3]; first | omega | (simp <;> omega)
  have yR3_a : w.heap.size < R3.heap.size + 1 := by omega
  have yyR3_a : w.heap.size < R3.heap.size + 1 + 1 := by omega
  have cR3_a_0 : R3.cell? ⟨w.heap.size, 0, none⟩ = some (.int .i64 h) := by rw [hR3]; first | assumption | (simp [go_sem, *]; done)
  have cR3_a_1 : R3.cell? ⟨w.heap.size, 1, none⟩ = some (.int .u64 l) := by rw [hR3]; first | assumption | (simp [go_sem, *]; done)
  have zR3_b : w.heap.size + 1 < R3.heap.size := by rw [hR3]; first | omega | (simp <;> omega)
  have yR3_b : w.heap.size + 1 < R3.heap.size + 1 := by omega
  have yyR3_b : w.heap.size + 1 < R3.heap.size + 1 + 1 := by omega
  have cR3_b_0 : R3.cell? ⟨w.heap.size + 1, 0, none⟩ = some (.int .i64 m) := by rw [hR3]; first | assumption | (simp [go_sem, *]; done)
  have cR3_b_1 : R3.cell? ⟨w.heap.size + 1, 1, none⟩ = some (.int .u64 n) := by rw [hR3]; first | assumption | (simp [go_sem, *]; done)
  have zR3_r : w.heap.size + 1 + 1 < R3.heap.size := by rw [hR3]; first | omega | (simp <;> omega)
  have yR3_r : w.heap.size + 1 + 1 < R3.heap.size + 1 := by omega
  have yyR3_r : w.heap.size + 1 + 1 < R3.heap.size + 1 + 1 := by omega
  have cR3_r_0 : R3.cell? ⟨w.heap.size + 1 + 1, 0, none⟩ = some (.int .i64 0) := by rw [hR3]; first | assumption | (simp [go_sem, *]; done)
  have cR3_r_1 : R3.cell? ⟨w.heap.size + 1 + 1, 1, none⟩ = some (.int .u64 0) := by rw [hR3]; first | assumption | (simp [go_sem, *]; done)
  have cR3_r_2 : R3.cell? ⟨w.heap.size + 1 + 1, 2, none⟩ = some (.int .i64 0) := by rw [hR3]; first | assumption | (simp [go_sem, *]; done)
  have fR3_r : ∀ j, R3.frozen? ⟨w.heap.size + 1 + 1, j, none⟩ = false := fun j => by rw [hR3]; first | (simp [go_sem, *]; done) | (simp only [frozen?_alloc_cells]; rw [hfrw3 _ _ (by first | omega | (simp <;> omega))]; simp [frozen?_alloc_cells, World.frozen?]; done) | (simp [frozen?_alloc_cells, World.frozen?, *]; done)
  have zR3_d : bX1d < R3.heap.size := by rw [hR3]; first | omega | (simp <;> omega)
  have yR3_d : bX1d < R3.heap.size + 1 := by omega
  have yyR3_d : bX1d < R3.heap.size + 1 + 1 := by omega
  have cR3_d_0 : R3.cell? ⟨bX1d, 0, none⟩ = some (.int .u64 d1) := by rw [hR3]; first | assumption | (simp [go_sem, *]; done)
  have cR3_d_1 : R3.cell? ⟨bX1d, 1, none⟩ = some (.int .u64 d0) := by rw [hR3]; first | assumption | (simp [go_sem, *]; done)
  have zR3_g : bX1g < R3.heap.size := by rw [hR3]; first | omega | (simp <;> omega)
  have yR3_g : bX1g < R3.heap.size + 1 := by omega
  have yyR3_g : bX1g < R3.heap.size + 1 + 1 := by omega
  have cR3_g_0 : R3.cell? ⟨bX1g, 0, none⟩ = some (.int .u64 g1) := by rw [hR3]; first | assumption | (simp [go_sem, *]; done)
  have cR3_g_1 : R3.cell? ⟨bX1g, 1, none⟩ = some (.int .u64 g0) := by rw [hR3]; first | assumption | (simp [go_sem, *]; done)
  have HBR3 : Hid (Below w.heap.size w R3) := by rw [hR3]; show Below _ _ _; exact (by repeat (first | with_reducible exact Below.refl _ _ | with_reducible exact Hid.out (by assumption) | with_reducible refine Below.setCell ?_ (by first | (simp; done) | omega | (simp <;> omega)) _ | with_reducible refine bl_al ?_ _ | with_reducible apply Below.drew))
  clear hR3
  clear zR2_a yR2_a yyR2_a cR2_a_0 cR2_a_1 zR2_b yR2_b yyR2_b cR2_b_0 cR2_b_1 zR2_r yR2_r yyR2_r cR2_r_0 cR2_r_1 cR2_r_2 fR2_r zR2_d yR2_d yyR2_d cR2_d_0 cR2_d_1 zR2_g yR2_g yyR2_g cR2_g_0 cR2_g_1 HBR2 zw3_a yw3_a yyw3_a zw3_b yw3_b yyw3_b zw3_r yw3_r yyw3_r zw3_d yw3_d yyw3_d zw3_g yw3_g yyw3_g sxw3_0 hclw3 hfrw3 HBw3 fw3_r
  go_region_held3 (fun w' => w'.cell? ⟨w.heap.size + 1, 0, none⟩ = some (.int .i64 m) ∧ w'.cell? ⟨w.heap.size + 1, 1, none⟩ = some (.int .u64 n) ∧ w'.cell? ⟨bX1d, 0, none⟩ = some (.int .u64 d1) ∧ w'.cell? ⟨bX1d, 1, none⟩ = some (.int .u64 d0) ∧ w'.cell? ⟨bX1g, 0, none⟩ = some (.int .u64 g1) ∧ w'.cell? ⟨bX1g, 1, none⟩ = some (.int .u64 g0)) (first | (simp [*, go_sem]; done) | (simp [*, go_sem, World.cell?_alloc_past]; done))
    (first
      | (go_at_call 38; (with_reducible refine (K4.out _).mono ?_); rintro e w4 ⟨rfl, hb⟩; (first | (with_reducible (obtain ⟨hclw4, hfrw4⟩ := bcell_drew hb)) | (obtain ⟨hclw4, hfrw4⟩ := bcell hb)); have zw4_a : w.heap.size < w4.heap.size := (by first | omega | (have hz := hb.size; (try simp at hz); omega)); have yw4_a : w.heap.size < w4.heap.size + 1 := (by omega); have yyw4_a : w.heap.size < w4.heap.size + 1 + 1 := (by omega); have zw4_b : w.heap.size + 1 < w4.heap.size := (by first | omega | (have hz := hb.size; (try simp at hz); omega)); have yw4_b : w.heap.size + 1 < w4.heap.size + 1 := (by omega); have yyw4_b : w.heap.size + 1 < w4.heap.size + 1 + 1 := (by omega); have zw4_r : w.heap.size + 1 + 1 < w4.heap.size := (by first | omega | (have hz := hb.size; (try simp at hz); omega)); have yw4_r : w.heap.size + 1 + 1 < w4.heap.size + 1 := (by omega); have yyw4_r : w.heap.size + 1 + 1 < w4.heap.size + 1 + 1 := (by omega); have zw4_d : bX1d < w4.heap.size := (by first | omega | (have hz := hb.size; (try simp at hz); omega)); have yw4_d : bX1d < w4.heap.size + 1 := (by omega); have yyw4_d : bX1d < w4.heap.size + 1 + 1 := (by omega); have zw4_g : bX1g < w4.heap.size := (by first | omega | (have hz := hb.size; (try simp at hz); omega)); have yw4_g : bX1g < w4.heap.size + 1 := (by omega); have yyw4_g : bX1g < w4.heap.size + 1 + 1 := (by omega); have sxw4_0 : R3.heap.size ≤ w4.heap.size := (by first | omega | (have hz := hb.size; (try simp at hz); omega)); have HBw4 : Hid (Below w.heap.size w w4) := (bl_trans (by repeat (first | with_reducible exact Below.refl _ _ | with_reducible exact Hid.out (by assumption) | with_reducible refine Below.setCell ?_ (by first | (simp; done) | omega | (simp <;> omega)) _ | with_reducible refine bl_al ?_ _ | with_reducible apply Below.drew)) hb); clear hb; clear K4)
      | (go_at_call 42; (with_reducible refine (K5.out _).mono ?_); rintro e w5 ⟨rfl, hb⟩; obtain ⟨hclw5, hfrw5⟩ := bcell hb; have zw5_a : w.heap.size < w5.heap.size := (by first | omega | (have hz := hb.size; (try simp at hz); omega)); have yw5_a : w.heap.size < w5.heap.size + 1 := (by omega); have yyw5_a : w.heap.size < w5.heap.size + 1 + 1 := (by omega); have zw5_b : w.heap.size + 1 < w5.heap.size := (by first | omega | (have hz := hb.size; (try simp at hz); omega)); have yw5_b : w.heap.size + 1 < w5.heap.size + 1 := (by omega); have yyw5_b : w.heap.size + 1 < w5.heap.size + 1 + 1 := (by omega); have zw5_r : w.heap.size + 1 + 1 < w5.heap.size := (by first | omega | (have hz := hb.size; (try simp at hz); omega)); have yw5_r : w.heap.size + 1 + 1 < w5.heap.size + 1 := (by omega); have yyw5_r : w.heap.size + 1 + 1 < w5.heap.size + 1 + 1 := (by omega); have zw5_d : bX1d < w5.heap.size := (by first | omega | (have hz := hb.size; (try simp at hz); omega)); have yw5_d : bX1d < w5.heap.size + 1 := (by omega); have yyw5_d : bX1d < w5.heap.size + 1 + 1 := (by omega); have zw5_g : bX1g < w5.heap.size := (by first | omega | (have hz := hb.size; (try simp at hz); omega)); have yw5_g : bX1g < w5.heap.size + 1 := (by omega); have yyw5_g : bX1g < w5.heap.size + 1 + 1 := (by omega); have sxw5_0 : R3.heap.size ≤ w5.heap.size := (by first | omega | (have hz := hb.size; (try simp at hz); omega)); have sxw5_w4 : w4.heap.size ≤ w5.heap.size := (by first | omega | (have hz := hb.size; (try simp at hz); omega)); have HBw5 : Hid (Below w.heap.size w w5) := (bl_trans (by repeat (first | with_reducible exact Below.refl _ _ | with_reducible exact Hid.out (by assumption) | with_reducible refine Below.setCell ?_ (by first | (simp; done) | omega | (simp <;> omega)) _ | with_reducible refine bl_al ?_ _ | with_reducible apply Below.drew)) hb); clear hb; clear K5))
  rename_i hHeld
  clear hHeld
  go_wp2_with fail
  refine bodyPost_ret (by simp [results, Try.results26, go_sem, *]; try rfl) rfl ?_
  exact ⟨rfl, by repeat (first | with_reducible exact Below.refl _ _ | with_reducible exact Hid.out (by assumption) | with_reducible refine Below.setCell ?_ (by first | (simp; done) | omega | (simp <;> omega)) _ | with_reducible refine bl_al ?_ _ | with_reducible apply Below.drew)⟩
set_option maxRecDepth 20000 in
set_option maxHeartbeats 16000000 in
theorem radd_more (h l m n d1 d0 g1 g0 s1 s0 x1 x0 k : Int) (c p q : Bool) (ha : decide (h < 0) = p) (hb : decide (m < 0) = q) (hne : (p == q) = false) (w : World)
    (C1 : ∀ W, Calls Try.prog 24 #[.agg #[.int .i64 h, .int .u64 l]] W fun e w' => e = .returned (.agg #[.int .u64 d1, .int .u64 d0]) ∧ Below W.heap.size W w')
    (C2 : ∀ W, Calls Try.prog 24 #[.agg #[.int .i64 m, .int .u64 n]] W fun e w' => e = .returned (.agg #[.int .u64 g1, .int .u64 g0]) ∧ Below W.heap.size W w')
    (C3 : ∀ W, Calls Try.prog 23 #[.agg #[.int .u64 d1, .int .u64 d0], .agg #[.int .u64 g1, .int .u64 g0]] W fun e w' => e = .returned (.bool false) ∧ Below W.heap.size W w')
    (C4 : ∀ W, Calls Try.prog 38 #[.agg #[.int .u64 d1, .int .u64 d0], .agg #[.int .u64 g1, .int .u64 g0]] W fun e w' => e = .returned (.agg #[.int .u64 s1, .int .u64 s0, .bool c]) ∧ Below W.heap.size W w')
    (C5 : ∀ W, Calls Try.prog 42 #[.bool p, .agg #[.int .u64 0, .int .u64 0, .int .u64 s1, .int .u64 s0]] W fun e w' => e = .returned (.agg #[.int .i64 x1, .int .u64 x0, .int .i64 k]) ∧ Below W.heap.size W w') :
    Calls Try.prog 26 #[.agg #[.int .i64 h, .int .u64 l], .agg #[.int .i64 m, .int .u64 n]] w fun e w' => e = .returned (.agg #[.int .i64 x1, .int .u64 x0, .int .i64 k]) ∧ Below w.heap.size w w' := by
  have K1 := Lib.hid C1; have K2 := Lib.hid C2; have K3 := Lib.hid C3; have K4 := Lib.hid C4; have K5 := Lib.hid C5
  clear C1 C2 C3 C4 C5
  have fld := field_part
  go_enter Try.func26, Try.ntmps26
  go_upto_region 1 with fail
  refine name_world (P := fun W => Code.wp _ _ _ _ W) _ (fun R1 hR1 => ?_)
  have zR1_a : w.heap.size < R1.heap.size := by rw [hR1]; first | omega | (simp <;> omega)
  have yR1_a : w.heap.size < R1.heap.size + 1 := by omega
  have yyR1_a : w.heap.size < R1.heap.size + 1 + 1 := by omega
  have cR1_a_0 : R1.cell? ⟨w.heap.size, 0, none⟩ = some (.int .i64 h) := by rw [hR1]; first | assumption | (simp [go_sem, *]; done)
  have cR1_a_1 : R1.cell? ⟨w.heap.size, 1, none⟩ = some (.int .u64 l) := by rw [hR1]; first | assumption | (simp [go_sem, *]; done)
  have zR1_b : w.heap.size + 1 < R1.heap.size := by rw [hR1]; first | omega | (simp <;> omega)
  have yR1_b : w.heap.size + 1 < R1.heap.size + 1 := by omega
  have yyR1_b : w.heap.size + 1 < R1.heap.size + 1 + 1 := by omega
  have cR1_b_0 : R1.cell? ⟨w.heap.size + 1, 0, none⟩ = some (.int .i64 m) := by rw [hR1]; first | assumption | (simp [go_sem, *]; done)
  have cR1_b_1 : R1.cell? ⟨w.heap.size + 1, 1, none⟩ = some (.int .u64 n) := by rw [hR1]; first | assumption | (simp [go_sem, *]; done)
  have zR1_r : w.heap.size + 1 + 1 < R1.heap.size := by rw [hR1]; first | omega | (simp <;> omega)
  have yR1_r : w.heap.size + 1 + 1 < R1.heap.size + 1 := by omega
  have yyR1_r : w.heap.size + 1 + 1 < R1.heap.size + 1 + 1 := by omega
  have cR1_r_0 : R1.cell? ⟨w.heap.size + 1 + 1, 0, none⟩ = some (.int .i64 0) := by rw [hR1]; first | assumption | (simp [go_sem, *]; done)
  have cR1_r_1 : R1.cell? ⟨w.heap.size + 1 + 1, 1, none⟩ = some (.int .u64 0) := by rw [hR1]; first | assumption | (simp [go_sem, *]; done)
  have cR1_r_2 : R1.cell? ⟨w.heap.size + 1 + 1, 2, none⟩ = some (.int .i64 0) := by rw [hR1]; first | assumption | (simp [go_sem, *]; done)
  have fR1_r : ∀ j, R1.frozen? ⟨w.heap.size + 1 + 1, j, none⟩ = false := fun j => by rw [hR1]; first | (simp [go_sem, *]; done) | (simp only [frozen?_alloc_cells]; rw [hfrw0 _ _ (by first | omega | (simp <;> omega))]; simp [frozen?_alloc_cells, World.frozen?]; done) | (simp [frozen?_alloc_cells, World.frozen?, *]; done)
  have lo_r : w.heap.size ≤ w.heap.size + 1 + 1 := by omega
  have na_r_a : ¬ (w.heap.size + 1 + 1 = w.heap.size) := by omega
  have nb_r_a : ¬ (w.heap.size = w.heap.size + 1 + 1) := by omega
  have na_r_b : ¬ (w.heap.size + 1 + 1 = w.heap.size + 1) := by omega
  have nb_r_b : ¬ (w.heap.size + 1 = w.heap.size + 1 + 1) := by omega
  have HBR1 : Hid (Below w.heap.size w R1) := by rw [hR1]; show Below _ _ _; exact (by repeat (first | with_reducible exact Below.refl _ _ | with_reducible exact Hid.out (by assumption) | with_reducible refine Below.setCell ?_ (by first | (simp; done) | omega | (simp <;> omega)) _ | with_reducible refine bl_al ?_ _ | with_reducible apply Below.drew))
  clear hR1
  go_cut [5, 6] (fun slot0 slot1 X1 => ∃ bX1d bX1g : Nat, slot0 = .pointer (some ⟨bX1d, 0, none⟩) ∧ slot1 = .pointer (some ⟨bX1g, 0, none⟩) ∧ R1.heap.size ≤ bX1d ∧ R1.heap.size ≤ bX1g ∧ bX1g ≠ bX1d ∧ Below R1.heap.size R1 X1 ∧ Has (bX1d) [.int .u64 d1, .int .u64 d0] X1 ∧ Has (bX1g) [.int .u64 g1, .int .u64 g0] X1)
  case first =>
    clear HBR1
    have ltt : ∀ n : Nat, n < n + 1 + 1 := fun n => by omega
    have lttt : ∀ n : Nat, n + 1 < n + 1 + 1 := fun n => by omega
    go_region_held3 (fun w' => w'.cell? ⟨w.heap.size, 0, none⟩ = some (.int .i64 h) ∧ w'.cell? ⟨w.heap.size, 1, none⟩ = some (.int .u64 l) ∧ w'.cell? ⟨w.heap.size + 1, 0, none⟩ = some (.int .i64 m) ∧ w'.cell? ⟨w.heap.size + 1, 1, none⟩ = some (.int .u64 n)) (first | (simp [*, go_sem]; done) | (simp [*, go_sem, World.cell?_alloc_past]; done))
      (first
        | (go_at_call 24; (with_reducible refine (K1.out _).mono ?_); rintro e w1 ⟨rfl, hb⟩; (first | (with_reducible (obtain ⟨hclw1, hfrw1⟩ := bcell_drew hb)) | (obtain ⟨hclw1, hfrw1⟩ := bcell hb)); have zw1_a : w.heap.size < w1.heap.size := (by first | omega | (have hz := hb.size; (try simp at hz); omega)); have yw1_a : w.heap.size < w1.heap.size + 1 := (by omega); have yyw1_a : w.heap.size < w1.heap.size + 1 + 1 := (by omega); have zw1_b : w.heap.size + 1 < w1.heap.size := (by first | omega | (have hz := hb.size; (try simp at hz); omega)); have yw1_b : w.heap.size + 1 < w1.heap.size + 1 := (by omega); have yyw1_b : w.heap.size + 1 < w1.heap.size + 1 + 1 := (by omega); (try have sw1_0 : R1.heap.size < w1.heap.size := (by first | omega | (have hz := hb.size; (try simp at hz); omega))); (try have syw1_0 : R1.heap.size < w1.heap.size + 1 := (by omega)); (try have stw1_0 : R1.heap.size + 1 < w1.heap.size := (by first | omega | (have hz := hb.size; (try simp at hz); omega))); have sxw1_0 : R1.heap.size ≤ w1.heap.size := (by first | omega | (have hz := hb.size; (try simp at hz); omega)); have HBw1 : Hid (Below R1.heap.size R1 w1) := (bl_trans (by repeat (first | with_reducible exact Below.refl _ _ | with_reducible exact Hid.out (by assumption) | with_reducible refine Below.setCell ?_ (by first | (simp; done) | omega | (simp <;> omega)) _ | with_reducible refine bl_al ?_ _ | with_reducible apply Below.drew)) hb); clear hb; clear K1)
        | (go_at_call 24; (with_reducible refine (K2.out _).mono ?_); rintro e w2 ⟨rfl, hb⟩; obtain ⟨hclw2, hfrw2⟩ := bcell hb; have zw2_a : w.heap.size < w2.heap.size := (by first | omega | (have hz := hb.size; (try simp at hz); omega)); have yw2_a : w.heap.size < w2.heap.size + 1 := (by omega); have yyw2_a : w.heap.size < w2.heap.size + 1 + 1 := (by omega); have zw2_b : w.heap.size + 1 < w2.heap.size := (by first | omega | (have hz := hb.size; (try simp at hz); omega)); have yw2_b : w.heap.size + 1 < w2.heap.size + 1 := (by omega); have yyw2_b : w.heap.size + 1 < w2.heap.size + 1 + 1 := (by omega); (try have sw2_0 : R1.heap.size < w2.heap.size := (by first | omega | (have hz := hb.size; (try simp at hz); omega))); (try have syw2_0 : R1.heap.size < w2.heap.size + 1 := (by omega)); (try have stw2_0 : R1.heap.size + 1 < w2.heap.size := (by first | omega | (have hz := hb.size; (try simp at hz); omega))); have sxw2_0 : R1.heap.size ≤ w2.heap.size := (by first | omega | (have hz := hb.size; (try simp at hz); omega)); (try have sw2_w1 : w1.heap.size < w2.heap.size := (by first | omega | (have hz := hb.size; (try simp at hz); omega))); (try have syw2_w1 : w1.heap.size < w2.heap.size + 1 := (by omega)); (try have stw2_w1 : w1.heap.size + 1 < w2.heap.size := (by first | omega | (have hz := hb.size; (try simp at hz); omega))); have sxw2_w1 : w1.heap.size ≤ w2.heap.size := (by first | omega | (have hz := hb.size; (try simp at hz); omega)); have HBw2 : Hid (Below R1.heap.size R1 w2) := (bl_trans (by repeat (first | with_reducible exact Below.refl _ _ | with_reducible exact Hid.out (by assumption) | with_reducible refine Below.setCell ?_ (by first | (simp; done) | omega | (simp <;> omega)) _ | with_reducible refine bl_al ?_ _ | with_reducible apply Below.drew)) hb); clear hb; clear K2))
    all_goals (rename_i hHeld; clear hHeld; go_wp2_with fail; go_meet; exact ⟨_, _, rfl, rfl, (by first | omega | (simp <;> omega)), (by first | omega | (simp <;> omega)), (by first | omega | (simp <;> omega)), (by repeat (first | with_reducible exact Below.refl _ _ | with_reducible exact Hid.out (by assumption) | with_reducible refine Below.setCell ?_ (by first | (simp; done) | omega | (simp <;> omega)) _ | with_reducible refine bl_al ?_ _ | with_reducible apply Below.drew)), Has.mk2 (by first | (simp <;> omega) | omega) (by simp [go_sem, *]) (by simp [go_sem, *]), Has.mk2 (by first | (simp <;> omega) | omega) (by simp [go_sem, *]) (by simp [go_sem, *])⟩)
  case rest =>
  obtain ⟨X1, hX1⟩ : ∃ X, X = wc := ⟨wc, rfl⟩
  subst hX1
  obtain ⟨bX1d, bX1g, rfl, rfl, m_bX1d, m_bX1g, n_bX1g_bX1d, hX, g_d, g_g⟩ := hcut
  have zX1_a : w.heap.size < X1.heap.size := Nat.lt_of_lt_of_le zR1_a hX.size
  have cX1_a_0 : X1.cell? ⟨w.heap.size, 0, none⟩ = some (.int .i64 h) := by rw [(bcell hX).1 _ _ zR1_a]; exact cR1_a_0
  have cX1_a_1 : X1.cell? ⟨w.heap.size, 1, none⟩ = some (.int .u64 l) := by rw [(bcell hX).1 _ _ zR1_a]; exact cR1_a_1
  have zX1_b : w.heap.size + 1 < X1.heap.size := Nat.lt_of_lt_of_le zR1_b hX.size
  have cX1_b_0 : X1.cell? ⟨w.heap.size + 1, 0, none⟩ = some (.int .i64 m) := by rw [(bcell hX).1 _ _ zR1_b]; exact cR1_b_0
  have cX1_b_1 : X1.cell? ⟨w.heap.size + 1, 1, none⟩ = some (.int .u64 n) := by rw [(bcell hX).1 _ _ zR1_b]; exact cR1_b_1
  have zX1_r : w.heap.size + 1 + 1 < X1.heap.size := Nat.lt_of_lt_of_le zR1_r hX.size
  have cX1_r_0 : X1.cell? ⟨w.heap.size + 1 + 1, 0, none⟩ = some (.int .i64 0) := by rw [(bcell hX).1 _ _ zR1_r]; exact cR1_r_0
  have cX1_r_1 : X1.cell? ⟨w.heap.size + 1 + 1, 1, none⟩ = some (.int .u64 0) := by rw [(bcell hX).1 _ _ zR1_r]; exact cR1_r_1
  have cX1_r_2 : X1.cell? ⟨w.heap.size + 1 + 1, 2, none⟩ = some (.int .i64 0) := by rw [(bcell hX).1 _ _ zR1_r]; exact cR1_r_2
  have fX1_r : ∀ j, X1.frozen? ⟨w.heap.size + 1 + 1, j, none⟩ = false := fun j => by rw [(bcell hX).2 _ _ zR1_r]; exact fR1_r j
  have zX1_d := g_d.1; have cX1_d_0 := g_d.2 0 _ rfl; have cX1_d_1 := g_d.2 1 _ rfl; clear g_d
  have zX1_g := g_g.1; have cX1_g_0 := g_g.2 0 _ rfl; have cX1_g_1 := g_g.2 1 _ rfl; clear g_g
  have nebX1d_r : ¬ (bX1d = w.heap.size + 1 + 1) := by omega
  have ndbX1d_r : ¬ (w.heap.size + 1 + 1 = bX1d) := by omega
  have nebX1g_r : ¬ (bX1g = w.heap.size + 1 + 1) := by omega
  have ndbX1g_r : ¬ (w.heap.size + 1 + 1 = bX1g) := by omega
  have HBX1 : Hid (Below w.heap.size w X1) := bl_trans HBR1.out hX
  clear hX
  clear zR1_a yR1_a yyR1_a cR1_a_0 cR1_a_1 zR1_b yR1_b yyR1_b cR1_b_0 cR1_b_1 zR1_r yR1_r yyR1_r cR1_r_0 cR1_r_1 cR1_r_2 fR1_r HBR1 m_bX1d m_bX1g n_bX1g_bX1d
  go_upto_region 4 with fail
  refine name_world (P := fun W => Code.wp _ _ _ _ W) _ (fun R2 hR2 => ?_)
  have zR2_a : w.heap.size < R2.heap.size := by rw [hR2]; first | omega | (simp <;> omega)
  have yR2_a : w.heap.size < R2.heap.size + 1 := by omega
  have yyR2_a : w.heap.size < R2.heap.size + 1 + 1 := by omega
  have cR2_a_0 : R2.cell? ⟨w.heap.size, 0, none⟩ = some (.int .i64 h) := by rw [hR2]; first | assumption | (simp [go_sem, *]; done)
  have cR2_a_1 : R2.cell? ⟨w.heap.size, 1, none⟩ = some (.int .u64 l) := by rw [hR2]; first | assumption | (simp [go_sem, *]; done)
  have zR2_b : w.heap.size + 1 < R2.heap.size := by rw [hR2]; first | omega | (simp <;> omega)
  have yR2_b : w.heap.size + 1 < R2.heap.size + 1 := by omega
  have yyR2_b : w.heap.size + 1 < R2.heap.size + 1 + 1 := by omega
  have cR2_b_0 : R2.cell? ⟨w.heap.size + 1, 0, none⟩ = some (.int .i64 m) := by rw [hR2]; first | assumption | (simp [go_sem, *]; done)
  have cR2_b_1 : R2.cell? ⟨w.heap.size + 1, 1, none⟩ = some (.int .u64 n) := by rw [hR2]; first | assumption | (simp [go_sem, *]; done)
  have zR2_r : w.heap.size + 1 + 1 < R2.heap.size := by rw [hR2]; first | omega | (simp <;> omega)
  have yR2_r : w.heap.size + 1 + 1 < R2.heap.size + 1 := by omega
  have yyR2_r : w.heap.size + 1 + 1 < R2.heap.size + 1 + 1 := by omega
  have cR2_r_0 : R2.cell? ⟨w.heap.size + 1 + 1, 0, none⟩ = some (.int .i64 0) := by rw [hR2]; first | assumption | (simp [go_sem, *]; done)
  have cR2_r_1 : R2.cell? ⟨w.heap.size + 1 + 1, 1, none⟩ = some (.int .u64 0) := by rw [hR2]; first | assumption | (simp [go_sem, *]; done)
  have cR2_r_2 : R2.cell? ⟨w.heap.size + 1 + 1, 2, none⟩ = some (.int .i64 0) := by rw [hR2]; first | assumption | (simp [go_sem, *]; done)
  have fR2_r : ∀ j, R2.frozen? ⟨w.heap.size + 1 + 1, j, none⟩ = false := fun j => by rw [hR2]; first | (simp [go_sem, *]; done) | (simp only [frozen?_alloc_cells]; rw [hfrX1 _ _ (by first | omega | (simp <;> omega))]; simp [frozen?_alloc_cells, World.frozen?]; done) | (simp [frozen?_alloc_cells, World.frozen?, *]; done)
  have zR2_d : bX1d < R2.heap.size := by rw [hR2]; first | omega | (simp <;> omega)
  have yR2_d : bX1d < R2.heap.size + 1 := by omega
  have yyR2_d : bX1d < R2.heap.size + 1 + 1 := by omega
  have cR2_d_0 : R2.cell? ⟨bX1d, 0, none⟩ = some (.int .u64 d1) := by rw [hR2]; first | assumption | (simp [go_sem, *]; done)
  have cR2_d_1 : R2.cell? ⟨bX1d, 1, none⟩ = some (.int .u64 d0) := by rw [hR2]; first | assumption | (simp [go_sem, *]; done)
  have zR2_g : bX1g < R2.heap.size := by rw [hR2]; first | omega | (simp <;> omega)
  have yR2_g : bX1g < R2.heap.size + 1 := by omega
  have yyR2_g : bX1g < R2.heap.size + 1 + 1 := by omega
  have cR2_g_0 : R2.cell? ⟨bX1g, 0, none⟩ = some (.int .u64 g1) := by rw [hR2]; first | assumption | (simp [go_sem, *]; done)
  have cR2_g_1 : R2.cell? ⟨bX1g, 1, none⟩ = some (.int .u64 g0) := by rw [hR2]; first | assumption | (simp [go_sem, *]; done)
  have na_r_d : ¬ (w.heap.size + 1 + 1 = bX1d) := by omega
  have nb_r_d : ¬ (bX1d = w.heap.size + 1 + 1) := by omega
  have na_r_g : ¬ (w.heap.size + 1 + 1 = bX1g) := by omega
  have nb_r_g : ¬ (bX1g = w.heap.size + 1 + 1) := by omega
  have HBR2 : Hid (Below w.heap.size w R2) := by rw [hR2]; show Below _ _ _; exact (by repeat (first | with_reducible exact Below.refl _ _ | with_reducible exact Hid.out (by assumption) | with_reducible refine Below.setCell ?_ (by first | (simp; done) | omega | (simp <;> omega)) _ | with_reducible refine bl_al ?_ _ | with_reducible apply Below.drew))
  clear hR2
  clear HBX1 zX1_a cX1_a_0 cX1_a_1 zX1_b cX1_b_0 cX1_b_1 zX1_r cX1_r_0 cX1_r_1 cX1_r_2 fX1_r zX1_d cX1_d_0 cX1_d_1 zX1_g cX1_g_0 cX1_g_1
  go_wp2_with fail
  (with_reducible refine (K3.out _).mono ?_); rintro e w3 ⟨rfl, hb⟩; obtain ⟨hclw3, hfrw3⟩ := bcell hb; have zw3_a : w.heap.size < w3.heap.size := (by first | omega | (have hz := hb.size; (try simp at hz); omega)); have yw3_a : w.heap.size < w3.heap.size + 1 := (by omega); have yyw3_a : w.heap.size < w3.heap.size + 1 + 1 := (by omega); have zw3_b : w.heap.size + 1 < w3.heap.size := (by first | omega | (have hz := hb.size; (try simp at hz); omega)); have yw3_b : w.heap.size + 1 < w3.heap.size + 1 := (by omega); have yyw3_b : w.heap.size + 1 < w3.heap.size + 1 + 1 := (by omega); have zw3_r : w.heap.size + 1 + 1 < w3.heap.size := (by first | omega | (have hz := hb.size; (try simp at hz); omega)); have yw3_r : w.heap.size + 1 + 1 < w3.heap.size + 1 := (by omega); have yyw3_r : w.heap.size + 1 + 1 < w3.heap.size + 1 + 1 := (by omega); have zw3_d : bX1d < w3.heap.size := (by first | omega | (have hz := hb.size; (try simp at hz); omega)); have yw3_d : bX1d < w3.heap.size + 1 := (by omega); have yyw3_d : bX1d < w3.heap.size + 1 + 1 := (by omega); have zw3_g : bX1g < w3.heap.size := (by first | omega | (have hz := hb.size; (try simp at hz); omega)); have yw3_g : bX1g < w3.heap.size + 1 := (by omega); have yyw3_g : bX1g < w3.heap.size + 1 + 1 := (by omega); have sxw3_0 : R2.heap.size ≤ w3.heap.size := (by first | omega | (have hz := hb.size; (try simp at hz); omega)); have HBw3 : Hid (Below w.heap.size w w3) := (bl_trans (by repeat (first | with_reducible exact Below.refl _ _ | with_reducible exact Hid.out (by assumption) | with_reducible refine Below.setCell ?_ (by first | (simp; done) | omega | (simp <;> omega)) _ | with_reducible refine bl_al ?_ _ | with_reducible apply Below.drew)) hb); clear hb
  have fw3_r : ∀ j, w3.frozen? ⟨w.heap.size + 1 + 1, j, none⟩ = false := fun j => by rw [hfrw3 _ _ (by first | exact zR2_r | (simp; exact zR2_r))]; exact fR2_r j
  go_upto_region 6 with fail
  refine name_world (P := fun W => Code.wp _ _ _ _ W) _ (fun R3 hR3 => ?_)
  have zR3_a : w.heap.size < R3.heap.size := by rw [hR3]; first | omega | (simp <;> omega)
  have yR3_a : w.heap.size < R3.heap.size + 1 := by omega
  have yyR3_a : w.heap.size < R3.heap.size + 1 + 1 := by omega
  have cR3_a_0 : R3.cell? ⟨w.heap.size, 0, none⟩ = some (.int .i64 h) := by rw [hR3]; first | assumption | (simp [go_sem, *]; done)
  have cR3_a_1 : R3.cell? ⟨w.heap.size, 1, none⟩ = some (.int .u64 l) := by rw [hR3]; first | assumption | (simp [go_sem, *]; done)
  have zR3_b : w.heap.size + 1 < R3.heap.size := by rw [hR3]; first | omega | (simp <;> omega)
  have yR3_b : w.heap.size + 1 < R3.heap.size + 1 := by omega
  have yyR3_b : w.heap.size + 1 < R3.heap.size + 1 + 1 := by omega
  have cR3_b_0 : R3.cell? ⟨w.heap.size + 1, 0, none⟩ = some (.int .i64 m) := by rw [hR3]; first | assumption | (simp [go_sem, *]; done)
  have cR3_b_1 : R3.cell? ⟨w.heap.size + 1, 1, none⟩ = some (.int .u64 n) := by rw [hR3]; first | assumption | (simp [go_sem, *]; done)
  have zR3_r : w.heap.size + 1 + 1 < R3.heap.size := by rw [hR3]; first | omega | (simp <;> omega)
  have yR3_r : w.heap.size + 1 + 1 < R3.heap.size + 1 := by omega
  have yyR3_r : w.heap.size + 1 + 1 < R3.heap.size + 1 + 1 := by omega
  have cR3_r_0 : R3.cell? ⟨w.heap.size + 1 + 1, 0, none⟩ = some (.int .i64 0) := by rw [hR3]; first | assumption | (simp [go_sem, *]; done)
  have cR3_r_1 : R3.cell? ⟨w.heap.size + 1 + 1, 1, none⟩ = some (.int .u64 0) := by rw [hR3]; first | assumption | (simp [go_sem, *]; done)
  have cR3_r_2 : R3.cell? ⟨w.heap.size + 1 + 1, 2, none⟩ = some (.int .i64 0) := by rw [hR3]; first | assumption | (simp [go_sem, *]; done)
  have fR3_r : ∀ j, R3.frozen? ⟨w.heap.size + 1 + 1, j, none⟩ = false := fun j => by rw [hR3]; first | (simp [go_sem, *]; done) | (simp only [frozen?_alloc_cells]; rw [hfrw3 _ _ (by first | omega | (simp <;> omega))]; simp [frozen?_alloc_cells, World.frozen?]; done) | (simp [frozen?_alloc_cells, World.frozen?, *]; done)
  have zR3_d : bX1d < R3.heap.size := by rw [hR3]; first | omega | (simp <;> omega)
  have yR3_d : bX1d < R3.heap.size + 1 := by omega
  have yyR3_d : bX1d < R3.heap.size + 1 + 1 := by omega
  have cR3_d_0 : R3.cell? ⟨bX1d, 0, none⟩ = some (.int .u64 d1) := by rw [hR3]; first | assumption | (simp [go_sem, *]; done)
  have cR3_d_1 : R3.cell? ⟨bX1d, 1, none⟩ = some (.int .u64 d0) := by rw [hR3]; first | assumption | (simp [go_sem, *]; done)
  have zR3_g : bX1g < R3.heap.size := by rw [hR3]; first | omega | (simp <;> omega)
  have yR3_g : bX1g < R3.heap.size + 1 := by omega
  have yyR3_g : bX1g < R3.heap.size + 1 + 1 := by omega
  have cR3_g_0 : R3.cell? ⟨bX1g, 0, none⟩ = some (.int .u64 g1) := by rw [hR3]; first | assumption | (simp [go_sem, *]; done)
  have cR3_g_1 : R3.cell? ⟨bX1g, 1, none⟩ = some (.int .u64 g0) := by rw [hR3]; first | assumption | (simp [go_sem, *]; done)
  have HBR3 : Hid (Below w.heap.size w R3) := by rw [hR3]; show Below _ _ _; exact (by repeat (first | with_reducible exact Below.refl _ _ | with_reducible exact Hid.out (by assumption) | with_reducible refine Below.setCell ?_ (by first | (simp; done) | omega | (simp <;> omega)) _ | with_reducible refine bl_al ?_ _ | with_reducible apply Below.drew))
  clear hR3
  clear zR2_a yR2_a yyR2_a cR2_a_0 cR2_a_1 zR2_b yR2_b yyR2_b cR2_b_0 cR2_b_1 zR2_r yR2_r yyR2_r cR2_r_0 cR2_r_1 cR2_r_2 fR2_r zR2_d yR2_d yyR2_d cR2_d_0 cR2_d_1 zR2_g yR2_g yyR2_g cR2_g_0 cR2_g_1 HBR2 zw3_a yw3_a yyw3_a zw3_b yw3_b yyw3_b zw3_r yw3_r yyw3_r zw3_d yw3_d yyw3_d zw3_g yw3_g yyw3_g sxw3_0 hclw3 hfrw3 HBw3 fw3_r
  go_region_held3 (fun w' => w'.cell? ⟨w.heap.size, 0, none⟩ = some (.int .i64 h) ∧ w'.cell? ⟨w.heap.size, 1, none⟩ = some (.int .u64 l) ∧ w'.cell? ⟨bX1d, 0, none⟩ = some (.int .u64 d1) ∧ w'.cell? ⟨bX1d, 1, none⟩ = some (.int .u64 d0) ∧ w'.cell? ⟨bX1g, 0, none⟩ = some (.int .u64 g1) ∧ w'.cell? ⟨bX1g, 1, none⟩ = some (.int .u64 g0)) (first | (simp [*, go_sem]; done) | (simp [*, go_sem, World.cell?_alloc_past]; done))
    (first
      | (go_at_call 38; (with_reducible refine (K4.out _).mono ?_); rintro e w4 ⟨rfl, hb⟩; (first | (with_reducible (obtain ⟨hclw4, hfrw4⟩ := bcell_drew hb)) | (obtain ⟨hclw4, hfrw4⟩ := bcell hb)); have zw4_a : w.heap.size < w4.heap.size := (by first | omega | (have hz := hb.size; (try simp at hz); omega)); have yw4_a : w.heap.size < w4.heap.size + 1 := (by omega); have yyw4_a : w.heap.size < w4.heap.size + 1 + 1 := (by omega); have zw4_b : w.heap.size + 1 < w4.heap.size := (by first | omega | (have hz := hb.size; (try simp at hz); omega)); have yw4_b : w.heap.size + 1 < w4.heap.size + 1 := (by omega); have yyw4_b : w.heap.size + 1 < w4.heap.size + 1 + 1 := (by omega); have zw4_r : w.heap.size + 1 + 1 < w4.heap.size := (by first | omega | (have hz := hb.size; (try simp at hz); omega)); have yw4_r : w.heap.size + 1 + 1 < w4.heap.size + 1 := (by omega); have yyw4_r : w.heap.size + 1 + 1 < w4.heap.size + 1 + 1 := (by omega); have zw4_d : bX1d < w4.heap.size := (by first | omega | (have hz := hb.size; (try simp at hz); omega)); have yw4_d : bX1d < w4.heap.size + 1 := (by omega); have yyw4_d : bX1d < w4.heap.size + 1 + 1 := (by omega); have zw4_g : bX1g < w4.heap.size := (by first | omega | (have hz := hb.size; (try simp at hz); omega)); have yw4_g : bX1g < w4.heap.size + 1 := (by omega); have yyw4_g : bX1g < w4.heap.size + 1 + 1 := (by omega); have sxw4_0 : R3.heap.size ≤ w4.heap.size := (by first | omega | (have hz := hb.size; (try simp at hz); omega)); have HBw4 : Hid (Below w.heap.size w w4) := (bl_trans (by repeat (first | with_reducible exact Below.refl _ _ | with_reducible exact Hid.out (by assumption) | with_reducible refine Below.setCell ?_ (by first | (simp; done) | omega | (simp <;> omega)) _ | with_reducible refine bl_al ?_ _ | with_reducible apply Below.drew)) hb); clear hb; clear K4)
      | (go_at_call 42; (with_reducible refine (K5.out _).mono ?_); rintro e w5 ⟨rfl, hb⟩; obtain ⟨hclw5, hfrw5⟩ := bcell hb; have zw5_a : w.heap.size < w5.heap.size := (by first | omega | (have hz := hb.size; (try simp at hz); omega)); have yw5_a : w.heap.size < w5.heap.size + 1 := (by omega); have yyw5_a : w.heap.size < w5.heap.size + 1 + 1 := (by omega); have zw5_b : w.heap.size + 1 < w5.heap.size := (by first | omega | (have hz := hb.size; (try simp at hz); omega)); have yw5_b : w.heap.size + 1 < w5.heap.size + 1 := (by omega); have yyw5_b : w.heap.size + 1 < w5.heap.size + 1 + 1 := (by omega); have zw5_r : w.heap.size + 1 + 1 < w5.heap.size := (by first | omega | (have hz := hb.size; (try simp at hz); omega)); have yw5_r : w.heap.size + 1 + 1 < w5.heap.size + 1 := (by omega); have yyw5_r : w.heap.size + 1 + 1 < w5.heap.size + 1 + 1 := (by omega); have zw5_d : bX1d < w5.heap.size := (by first | omega | (have hz := hb.size; (try simp at hz); omega)); have yw5_d : bX1d < w5.heap.size + 1 := (by omega); have yyw5_d : bX1d < w5.heap.size + 1 + 1 := (by omega); have zw5_g : bX1g < w5.heap.size := (by first | omega | (have hz := hb.size; (try simp at hz); omega)); have yw5_g : bX1g < w5.heap.size + 1 := (by omega); have yyw5_g : bX1g < w5.heap.size + 1 + 1 := (by omega); have sxw5_0 : R3.heap.size ≤ w5.heap.size := (by first | omega | (have hz := hb.size; (try simp at hz); omega)); have sxw5_w4 : w4.heap.size ≤ w5.heap.size := (by first | omega | (have hz := hb.size; (try simp at hz); omega)); have HBw5 : Hid (Below w.heap.size w w5) := (bl_trans (by repeat (first | with_reducible exact Below.refl _ _ | with_reducible exact Hid.out (by assumption) | with_reducible refine Below.setCell ?_ (by first | (simp; done) | omega | (simp <;> omega)) _ | with_reducible refine bl_al ?_ _ | with_reducible apply Below.drew)) hb); clear hb; clear K5))
  rename_i hHeld
  clear hHeld
  go_wp2_with fail
  refine bodyPost_ret (by simp [results, Try.results26, go_sem, *]; try rfl) rfl ?_
  exact ⟨rfl, by repeat (first | with_reducible exact Below.refl _ _ | with_reducible exact Hid.out (by assumption) | with_reducible refine Below.setCell ?_ (by first | (simp; done) | omega | (simp <;> omega)) _ | with_reducible refine bl_al ?_ _ | with_reducible apply Below.drew)⟩
set_option maxRecDepth 20000 in
set_option maxHeartbeats 16000000 in
theorem rsub_core (h l m n i j x1 x0 k : Int)  (w : World)
    (C1 : ∀ W, Calls Try.prog 18 #[.agg #[.int .i64 m, .int .u64 n]] W fun e w' => e = .returned (.agg #[.int .i64 i, .int .u64 j]) ∧ Below W.heap.size W w')
    (C2 : ∀ W, Calls Try.prog 26 #[.agg #[.int .i64 h, .int .u64 l], .agg #[.int .i64 i, .int .u64 j]] W fun e w' => e = .returned (.agg #[.int .i64 x1, .int .u64 x0, .int .i64 k]) ∧ Below W.heap.size W w') :
    Calls Try.prog 21 #[.agg #[.int .i64 h, .int .u64 l], .agg #[.int .i64 m, .int .u64 n]] w fun e w' => e = .returned (.agg #[.int .i64 x1, .int .u64 x0, .int .i64 k]) ∧ Below w.heap.size w w' := by
  have K1 := Lib.hid C1; have K2 := Lib.hid C2
  clear C1 C2
  go_enter Try.func21, Try.ntmps21
  go_upto_region 1 with fail
  refine name_world (P := fun W => Code.wp _ _ _ _ W) _ (fun R1 hR1 => ?_)
  have zR1_a : w.heap.size < R1.heap.size := by rw [hR1]; first | omega | (simp <;> omega)
  have yR1_a : w.heap.size < R1.heap.size + 1 := by omega
  have yyR1_a : w.heap.size < R1.heap.size + 1 + 1 := by omega
  have cR1_a_0 : R1.cell? ⟨w.heap.size, 0, none⟩ = some (.int .i64 h) := by rw [hR1]; first | assumption | (simp [go_sem, *]; done)
  have cR1_a_1 : R1.cell? ⟨w.heap.size, 1, none⟩ = some (.int .u64 l) := by rw [hR1]; first | assumption | (simp [go_sem, *]; done)
  have zR1_b : w.heap.size + 1 < R1.heap.size := by rw [hR1]; first | omega | (simp <;> omega)
  have yR1_b : w.heap.size + 1 < R1.heap.size + 1 := by omega
  have yyR1_b : w.heap.size + 1 < R1.heap.size + 1 + 1 := by omega
  have cR1_b_0 : R1.cell? ⟨w.heap.size + 1, 0, none⟩ = some (.int .i64 m) := by rw [hR1]; first | assumption | (simp [go_sem, *]; done)
  have cR1_b_1 : R1.cell? ⟨w.heap.size + 1, 1, none⟩ = some (.int .u64 n) := by rw [hR1]; first | assumption | (simp [go_sem, *]; done)
  have zR1_r : w.heap.size + 1 + 1 < R1.heap.size := by rw [hR1]; first | omega | (simp <;> omega)
  have yR1_r : w.heap.size + 1 + 1 < R1.heap.size + 1 := by omega
  have yyR1_r : w.heap.size + 1 + 1 < R1.heap.size + 1 + 1 := by omega
  have cR1_r_0 : R1.cell? ⟨w.heap.size + 1 + 1, 0, none⟩ = some (.int .i64 0) := by rw [hR1]; first | assumption | (simp [go_sem, *]; done)
  have cR1_r_1 : R1.cell? ⟨w.heap.size + 1 + 1, 1, none⟩ = some (.int .u64 0) := by rw [hR1]; first | assumption | (simp [go_sem, *]; done)
  have cR1_r_2 : R1.cell? ⟨w.heap.size + 1 + 1, 2, none⟩ = some (.int .i64 0) := by rw [hR1]; first | assumption | (simp [go_sem, *]; done)
  have fR1_r : ∀ j, R1.frozen? ⟨w.heap.size + 1 + 1, j, none⟩ = false := fun j => by rw [hR1]; first | (simp [go_sem, *]; done) | (simp only [frozen?_alloc_cells]; rw [hfrw0 _ _ (by first | omega | (simp <;> omega))]; simp [frozen?_alloc_cells, World.frozen?]; done) | (simp [frozen?_alloc_cells, World.frozen?, *]; done)
  have lo_r : w.heap.size ≤ w.heap.size + 1 + 1 := by omega
  have na_r_a : ¬ (w.heap.size + 1 + 1 = w.heap.size) := by omega
  have nb_r_a : ¬ (w.heap.size = w.heap.size + 1 + 1) := by omega
  have na_r_b : ¬ (w.heap.size + 1 + 1 = w.heap.size + 1) := by omega
  have nb_r_b : ¬ (w.heap.size + 1 = w.heap.size + 1 + 1) := by omega
  have HBR1 : Hid (Below w.heap.size w R1) := by rw [hR1]; show Below _ _ _; exact (by repeat (first | with_reducible exact Below.refl _ _ | with_reducible exact Hid.out (by assumption) | with_reducible refine Below.setCell ?_ (by first | (simp; done) | omega | (simp <;> omega)) _ | with_reducible refine bl_al ?_ _ | with_reducible apply Below.drew))
  clear hR1
  go_region_held3 (fun w' => w'.cell? ⟨w.heap.size, 0, none⟩ = some (.int .i64 h) ∧ w'.cell? ⟨w.heap.size, 1, none⟩ = some (.int .u64 l) ∧ w'.cell? ⟨w.heap.size + 1, 0, none⟩ = some (.int .i64 m) ∧ w'.cell? ⟨w.heap.size + 1, 1, none⟩ = some (.int .u64 n)) (first | (simp [*, go_sem]; done) | (simp [*, go_sem, World.cell?_alloc_past]; done))
    (first
      | (go_at_call 18; (with_reducible refine (K1.out _).mono ?_); rintro e w1 ⟨rfl, hb⟩; (first | (with_reducible (obtain ⟨hclw1, hfrw1⟩ := bcell_drew hb)) | (obtain ⟨hclw1, hfrw1⟩ := bcell hb)); have zw1_a : w.heap.size < w1.heap.size := (by first | omega | (have hz := hb.size; (try simp at hz); omega)); have yw1_a : w.heap.size < w1.heap.size + 1 := (by omega); have yyw1_a : w.heap.size < w1.heap.size + 1 + 1 := (by omega); have zw1_b : w.heap.size + 1 < w1.heap.size := (by first | omega | (have hz := hb.size; (try simp at hz); omega)); have yw1_b : w.heap.size + 1 < w1.heap.size + 1 := (by omega); have yyw1_b : w.heap.size + 1 < w1.heap.size + 1 + 1 := (by omega); have zw1_r : w.heap.size + 1 + 1 < w1.heap.size := (by first | omega | (have hz := hb.size; (try simp at hz); omega)); have yw1_r : w.heap.size + 1 + 1 < w1.heap.size + 1 := (by omega); have yyw1_r : w.heap.size + 1 + 1 < w1.heap.size + 1 + 1 := (by omega); have sxw1_0 : R1.heap.size ≤ w1.heap.size := (by first | omega | (have hz := hb.size; (try simp at hz); omega)); have HBw1 : Hid (Below w.heap.size w w1) := (bl_trans (by repeat (first | with_reducible exact Below.refl _ _ | with_reducible exact Hid.out (by assumption) | with_reducible refine Below.setCell ?_ (by first | (simp; done) | omega | (simp <;> omega)) _ | with_reducible refine bl_al ?_ _ | with_reducible apply Below.drew)) hb); clear hb; clear K1)
      | (go_at_call 26; (with_reducible refine (K2.out _).mono ?_); rintro e w2 ⟨rfl, hb⟩; obtain ⟨hclw2, hfrw2⟩ := bcell hb; have zw2_a : w.heap.size < w2.heap.size := (by first | omega | (have hz := hb.size; (try simp at hz); omega)); have yw2_a : w.heap.size < w2.heap.size + 1 := (by omega); have yyw2_a : w.heap.size < w2.heap.size + 1 + 1 := (by omega); have zw2_b : w.heap.size + 1 < w2.heap.size := (by first | omega | (have hz := hb.size; (try simp at hz); omega)); have yw2_b : w.heap.size + 1 < w2.heap.size + 1 := (by omega); have yyw2_b : w.heap.size + 1 < w2.heap.size + 1 + 1 := (by omega); have zw2_r : w.heap.size + 1 + 1 < w2.heap.size := (by first | omega | (have hz := hb.size; (try simp at hz); omega)); have yw2_r : w.heap.size + 1 + 1 < w2.heap.size + 1 := (by omega); have yyw2_r : w.heap.size + 1 + 1 < w2.heap.size + 1 + 1 := (by omega); have sxw2_0 : R1.heap.size ≤ w2.heap.size := (by first | omega | (have hz := hb.size; (try simp at hz); omega)); have sxw2_w1 : w1.heap.size ≤ w2.heap.size := (by first | omega | (have hz := hb.size; (try simp at hz); omega)); have HBw2 : Hid (Below w.heap.size w w2) := (bl_trans (by repeat (first | with_reducible exact Below.refl _ _ | with_reducible exact Hid.out (by assumption) | with_reducible refine Below.setCell ?_ (by first | (simp; done) | omega | (simp <;> omega)) _ | with_reducible refine bl_al ?_ _ | with_reducible apply Below.drew)) hb); clear hb; clear K2))
  rename_i hHeld
  clear hHeld
  go_wp2_with fail
  refine bodyPost_ret (by simp [results, Try.results21, go_sem, *]; try rfl) rfl ?_
  exact ⟨rfl, by repeat (first | with_reducible exact Below.refl _ _ | with_reducible exact Hid.out (by assumption) | with_reducible refine Below.setCell ?_ (by first | (simp; done) | omega | (simp <;> omega)) _ | with_reducible refine bl_al ?_ _ | with_reducible apply Below.drew)⟩
end Go.Proofs.Ytmelipbanbihdaa
