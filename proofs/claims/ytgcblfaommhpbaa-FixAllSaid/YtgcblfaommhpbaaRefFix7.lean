/- The document's quotient of numbers with a point: the walks. -/
import Derived.Test.YtgcblfaommhpbaaRefFix5
import Derived.Test.YtgcblfaommhpbaaRefDivRel
namespace Go.Proofs.Ytgcblfaommhpbaa
open Go.RowKit

set_option maxRecDepth 20000 in
set_option maxHeartbeats 16000000 in
theorem rdivf_none (h l : Int) (q : ∀ W, (Go.binOp .eql 44 (.agg #[.int .i64 0, .int .u64 0]) (.agg #[.int .i64 0, .int .u64 0])).run Try.prog W = .ok (.bool true) W) (w : World) :
    Calls Try.prog 43 #[.agg #[.int .i64 h, .int .u64 l], .agg #[.int .i64 0, .int .u64 0]] w fun e w' => e = .returned (.agg #[.int .i64 0, .int .u64 0, .int .i64 2]) ∧ Below w.heap.size w w' := by
  go_enter Try.func43, Try.ntmps43
  go_wp2_with fail
  refine bodyPost_ret (by simp [results, Try.results43, go_sem, *]; try rfl) rfl ?_
  exact ⟨rfl, by repeat (first | with_reducible exact Below.refl _ _ | with_reducible exact Hid.out (by assumption) | with_reducible refine Below.setCell ?_ (by first | (simp; done) | omega | (simp <;> omega)) _ | with_reducible refine bl_al ?_ _ | with_reducible apply Below.drew)⟩
set_option maxRecDepth 20000 in
set_option maxHeartbeats 16000000 in
theorem rdivf_false (h l m n d1 d0 e3 e2 e1 e0 g1 g0 s1 s0 y1 y0 t3 t2 t1 t0 u1 u0 x1 x0 k : Int) (p q cy ok : Bool) (ha : decide (h < 0) = p) (hb : decide (m < 0) = q) (qz : ∀ W, (Go.binOp .eql 44 (.agg #[.int .i64 m, .int .u64 n]) (.agg #[.int .i64 0, .int .u64 0])).run Try.prog W = .ok (.bool false) W) (w : World)
    (C1 : ∀ W, Calls Try.prog 57 #[.agg #[.int .i64 h, .int .u64 l]] W fun e w' => e = .returned (.agg #[.int .u64 d1, .int .u64 d0]) ∧ Below W.heap.size W w')
    (C2 : ∀ W, Calls Try.prog 20 #[.agg #[.int .u64 0, .int .u64 0, .int .u64 d1, .int .u64 d0], .int .i64 65] W fun e w' => e = .returned (.agg #[.int .u64 e3, .int .u64 e2, .int .u64 e1, .int .u64 e0]) ∧ Below W.heap.size W w')
    (C3 : ∀ W, Calls Try.prog 57 #[.agg #[.int .i64 m, .int .u64 n]] W fun e w' => e = .returned (.agg #[.int .u64 g1, .int .u64 g0]) ∧ Below W.heap.size W w')
    (C4 : ∀ W, Calls Try.prog 58 #[.agg #[.int .u64 e1, .int .u64 e0], .agg #[.int .u64 g1, .int .u64 g0]] W fun e w' => e = .returned (.agg #[.int .u64 s1, .int .u64 s0, .bool false]) ∧ Below W.heap.size W w')
    (C5 : ∀ W, Calls Try.prog 58 #[.agg #[.int .u64 g1, .int .u64 g0], .agg #[.int .u64 g1, .int .u64 g0]] W fun e w' => e = .returned (.agg #[.int .u64 y1, .int .u64 y0, .bool cy]) ∧ Below W.heap.size W w')
    (C6 : ∀ W, Calls Try.prog 15 #[.agg #[.int .u64 e3, .int .u64 e2, .int .u64 s1, .int .u64 s0], .agg #[.int .u64 y1, .int .u64 y0]] W fun e w' => e = .returned (.agg #[.int .u64 t3, .int .u64 t2, .int .u64 t1, .int .u64 t0, .int .u64 u1, .int .u64 u0, .bool ok]) ∧ Below W.heap.size W w')
    (C7 : ∀ W, Calls Try.prog 95 #[.bool (!(p == q)), .agg #[.int .u64 t3, .int .u64 t2, .int .u64 t1, .int .u64 t0]] W fun e w' => e = .returned (.agg #[.int .i64 x1, .int .u64 x0, .int .i64 k]) ∧ Below W.heap.size W w') :
    Calls Try.prog 43 #[.agg #[.int .i64 h, .int .u64 l], .agg #[.int .i64 m, .int .u64 n]] w fun e w' => e = .returned (.agg #[.int .i64 x1, .int .u64 x0, .int .i64 k]) ∧ Below w.heap.size w w' := by
  have K1 := Lib.hid C1; have K2 := Lib.hid C2; have K3 := Lib.hid C3; have K4 := Lib.hid C4; have K5 := Lib.hid C5; have K6 := Lib.hid C6; have K7 := Lib.hid C7
  clear C1 C2 C3 C4 C5 C6 C7
  have fld := field_part
  go_enter Try.func43, Try.ntmps43
  go_upto_region 3 with fail
  refine name_world (P := fun W => Code.wp _ _ _ _ W) _ (fun R1 hR1 => ?_)
  have zR1_a : w.heap.size < R1.heap.size := by rw [hR1]; first | omega | (simp <;> omega)
  have yR1_a : w.heap.size < R1.heap.size + 1 := by omega
  have yyR1_a : w.heap.size < R1.heap.size + 1 + 1 := by omega
  have cR1_a_0 : R1.cell? ⟨w.heap.size, 0, none⟩ = some (.int .i64 h) := by rw [hR1]; first | assumption | (simp [go_sem, *]; done)
  have cR1_a_1 : R1.cell? ⟨w.heap.size, 1, none⟩ = some (.int .u64 l) := by rw [hR1]; first | assumption | (simp [go_sem, *]; done)
  have zR1_b : w.heap.size + 1 < R1.heap.size := by rw [hR1]; first | omega | (simp <;> omega)
  have yR1_b : w.heap.size + 1 < R1.heap.size + 1 := by omega
  have yyR1_b : w.heap.size + 1 < R1.heap.size + 1 + 1 := by omega
  have cR1_b_0 : R1.cell? ⟨w.heap.size + 1, 0, none⟩ = some (.int .i64 m) := by rw [hR1]; first | assumption | (simp [go_sem, *]; done)
  have cR1_b_1 : R1.cell? ⟨w.heap.size + 1, 1, none⟩ = some (.int .u64 n) := by rw [hR1]; first | assumption | (simp [go_sem, *]; done)
  have zR1_r : w.heap.size + 1 + 1 < R1.heap.size := by rw [hR1]; first | omega | (simp <;> omega)
  have yR1_r : w.heap.size + 1 + 1 < R1.heap.size + 1 := by omega
  have yyR1_r : w.heap.size + 1 + 1 < R1.heap.size + 1 + 1 := by omega
  have cR1_r_0 : R1.cell? ⟨w.heap.size + 1 + 1, 0, none⟩ = some (.int .i64 0) := by rw [hR1]; first | assumption | (simp [go_sem, *]; done)
  have cR1_r_1 : R1.cell? ⟨w.heap.size + 1 + 1, 1, none⟩ = some (.int .u64 0) := by rw [hR1]; first | assumption | (simp [go_sem, *]; done)
  have cR1_r_2 : R1.cell? ⟨w.heap.size + 1 + 1, 2, none⟩ = some (.int .i64 0) := by rw [hR1]; first | assumption | (simp [go_sem, *]; done)
  have fR1_r : ∀ j, R1.frozen? ⟨w.heap.size + 1 + 1, j, none⟩ = false := fun j => by rw [hR1]; first | (simp [go_sem, *]; done) | (simp only [frozen?_alloc_cells]; rw [hfrw0 _ _ (by first | omega | (simp <;> omega))]; simp [frozen?_alloc_cells, World.frozen?]; done) | (simp [frozen?_alloc_cells, World.frozen?, *]; done)
  have lo_r : w.heap.size ≤ w.heap.size + 1 + 1 := by omega
  have na_r_a : ¬ (w.heap.size + 1 + 1 = w.heap.size) := by omega
  have nb_r_a : ¬ (w.heap.size = w.heap.size + 1 + 1) := by omega
  have na_r_b : ¬ (w.heap.size + 1 + 1 = w.heap.size + 1) := by omega
  have nb_r_b : ¬ (w.heap.size + 1 = w.heap.size + 1 + 1) := by omega
  have HBR1 : Hid (Below w.heap.size w R1) := by rw [hR1]; show Below _ _ _; exact (by repeat (first | with_reducible exact Below.refl _ _ | with_reducible exact Hid.out (by assumption) | with_reducible refine Below.setCell ?_ (by first | (simp; done) | omega | (simp <;> omega)) _ | with_reducible refine bl_al ?_ _ | with_reducible apply Below.drew))
  clear hR1
  go_cut [5, 6] (fun slot0 slot1 X1 => ∃ bX1x bX1y : Nat, slot0 = .pointer (some ⟨bX1x, 0, none⟩) ∧ slot1 = .pointer (some ⟨bX1y, 0, none⟩) ∧ R1.heap.size ≤ bX1x ∧ R1.heap.size ≤ bX1y ∧ bX1y ≠ bX1x ∧ Below R1.heap.size R1 X1 ∧ Has (bX1x) [.int .u64 e3, .int .u64 e2, .int .u64 e1, .int .u64 e0] X1 ∧ Clear (bX1x) X1 ∧ Has (bX1y) [.int .u64 g1, .int .u64 g0] X1)
  case first =>
    clear HBR1
    have ltt : ∀ n : Nat, n < n + 1 + 1 := fun n => by omega
    have lttt : ∀ n : Nat, n + 1 < n + 1 + 1 := fun n => by omega
    go_region_held3 (fun w' => w'.cell? ⟨w.heap.size, 0, none⟩ = some (.int .i64 h) ∧ w'.cell? ⟨w.heap.size, 1, none⟩ = some (.int .u64 l) ∧ w'.cell? ⟨w.heap.size + 1, 0, none⟩ = some (.int .i64 m) ∧ w'.cell? ⟨w.heap.size + 1, 1, none⟩ = some (.int .u64 n)) (first | (simp [*, go_sem]; done) | (simp [*, go_sem, World.cell?_alloc_past]; done))
      (first
        | (go_at_call 57; (with_reducible refine (K1.out _).mono ?_); rintro e w1 ⟨rfl, hb⟩; (first | (with_reducible (obtain ⟨hclw1, hfrw1⟩ := bcell_drew hb)) | (obtain ⟨hclw1, hfrw1⟩ := bcell hb)); have zw1_a : w.heap.size < w1.heap.size := (by first | omega | (have hz := hb.size; (try simp at hz); omega)); have yw1_a : w.heap.size < w1.heap.size + 1 := (by omega); have yyw1_a : w.heap.size < w1.heap.size + 1 + 1 := (by omega); have zw1_b : w.heap.size + 1 < w1.heap.size := (by first | omega | (have hz := hb.size; (try simp at hz); omega)); have yw1_b : w.heap.size + 1 < w1.heap.size + 1 := (by omega); have yyw1_b : w.heap.size + 1 < w1.heap.size + 1 + 1 := (by omega); (try have sw1_0 : R1.heap.size < w1.heap.size := (by first | omega | (have hz := hb.size; (try simp at hz); omega))); (try have syw1_0 : R1.heap.size < w1.heap.size + 1 := (by omega)); (try have stw1_0 : R1.heap.size + 1 < w1.heap.size := (by first | omega | (have hz := hb.size; (try simp at hz); omega))); have sxw1_0 : R1.heap.size ≤ w1.heap.size := (by first | omega | (have hz := hb.size; (try simp at hz); omega)); have HBw1 : Hid (Below R1.heap.size R1 w1) := (bl_trans (by repeat (first | with_reducible exact Below.refl _ _ | with_reducible exact Hid.out (by assumption) | with_reducible refine Below.setCell ?_ (by first | (simp; done) | omega | (simp <;> omega)) _ | with_reducible refine bl_al ?_ _ | with_reducible apply Below.drew)) hb); clear hb; clear K1)
        | (go_at_call 20; (with_reducible refine (K2.out _).mono ?_); rintro e w2 ⟨rfl, hb⟩; obtain ⟨hclw2, hfrw2⟩ := bcell hb; have zw2_a : w.heap.size < w2.heap.size := (by first | omega | (have hz := hb.size; (try simp at hz); omega)); have yw2_a : w.heap.size < w2.heap.size + 1 := (by omega); have yyw2_a : w.heap.size < w2.heap.size + 1 + 1 := (by omega); have zw2_b : w.heap.size + 1 < w2.heap.size := (by first | omega | (have hz := hb.size; (try simp at hz); omega)); have yw2_b : w.heap.size + 1 < w2.heap.size + 1 := (by omega); have yyw2_b : w.heap.size + 1 < w2.heap.size + 1 + 1 := (by omega); (try have sw2_0 : R1.heap.size < w2.heap.size := (by first | omega | (have hz := hb.size; (try simp at hz); omega))); (try have syw2_0 : R1.heap.size < w2.heap.size + 1 := (by omega)); (try have stw2_0 : R1.heap.size + 1 < w2.heap.size := (by first | omega | (have hz := hb.size; (try simp at hz); omega))); have sxw2_0 : R1.heap.size ≤ w2.heap.size := (by first | omega | (have hz := hb.size; (try simp at hz); omega)); (try have sw2_w1 : w1.heap.size < w2.heap.size := (by first | omega | (have hz := hb.size; (try simp at hz); omega))); (try have syw2_w1 : w1.heap.size < w2.heap.size + 1 := (by omega)); (try have stw2_w1 : w1.heap.size + 1 < w2.heap.size := (by first | omega | (have hz := hb.size; (try simp at hz); omega))); have sxw2_w1 : w1.heap.size ≤ w2.heap.size := (by first | omega | (have hz := hb.size; (try simp at hz); omega)); have HBw2 : Hid (Below R1.heap.size R1 w2) := (bl_trans (by repeat (first | with_reducible exact Below.refl _ _ | with_reducible exact Hid.out (by assumption) | with_reducible refine Below.setCell ?_ (by first | (simp; done) | omega | (simp <;> omega)) _ | with_reducible refine bl_al ?_ _ | with_reducible apply Below.drew)) hb); clear hb; clear K2)
        | (go_at_call 57; (with_reducible refine (K3.out _).mono ?_); rintro e w3 ⟨rfl, hb⟩; obtain ⟨hclw3, hfrw3⟩ := bcell hb; have zw3_a : w.heap.size < w3.heap.size := (by first | omega | (have hz := hb.size; (try simp at hz); omega)); have yw3_a : w.heap.size < w3.heap.size + 1 := (by omega); have yyw3_a : w.heap.size < w3.heap.size + 1 + 1 := (by omega); have zw3_b : w.heap.size + 1 < w3.heap.size := (by first | omega | (have hz := hb.size; (try simp at hz); omega)); have yw3_b : w.heap.size + 1 < w3.heap.size + 1 := (by omega); have yyw3_b : w.heap.size + 1 < w3.heap.size + 1 + 1 := (by omega); (try have sw3_0 : R1.heap.size < w3.heap.size := (by first | omega | (have hz := hb.size; (try simp at hz); omega))); (try have syw3_0 : R1.heap.size < w3.heap.size + 1 := (by omega)); (try have stw3_0 : R1.heap.size + 1 < w3.heap.size := (by first | omega | (have hz := hb.size; (try simp at hz); omega))); have sxw3_0 : R1.heap.size ≤ w3.heap.size := (by first | omega | (have hz := hb.size; (try simp at hz); omega)); (try have sw3_w1 : w1.heap.size < w3.heap.size := (by first | omega | (have hz := hb.size; (try simp at hz); omega))); (try have syw3_w1 : w1.heap.size < w3.heap.size + 1 := (by omega)); (try have stw3_w1 : w1.heap.size + 1 < w3.heap.size := (by first | omega | (have hz := hb.size; (try simp at hz); omega))); have sxw3_w1 : w1.heap.size ≤ w3.heap.size := (by first | omega | (have hz := hb.size; (try simp at hz); omega)); (try have sw3_w2 : w2.heap.size < w3.heap.size := (by first | omega | (have hz := hb.size; (try simp at hz); omega))); (try have syw3_w2 : w2.heap.size < w3.heap.size + 1 := (by omega)); (try have stw3_w2 : w2.heap.size + 1 < w3.heap.size := (by first | omega | (have hz := hb.size; (try simp at hz); omega))); have sxw3_w2 : w2.heap.size ≤ w3.heap.size := (by first | omega | (have hz := hb.size; (try simp at hz); omega)); have HBw3 : Hid (Below R1.heap.size R1 w3) := (bl_trans (by repeat (first | with_reducible exact Below.refl _ _ | with_reducible exact Hid.out (by assumption) | with_reducible refine Below.setCell ?_ (by first | (simp; done) | omega | (simp <;> omega)) _ | with_reducible refine bl_al ?_ _ | with_reducible apply Below.drew)) hb); clear hb; clear K3))
    all_goals (rename_i hHeld; clear hHeld; go_wp2_with fail; go_meet; exact ⟨_, _, rfl, rfl, (by first | omega | (simp <;> omega)), (by first | omega | (simp <;> omega)), (by first | omega | (simp <;> omega)), (by repeat (first | with_reducible exact Below.refl _ _ | with_reducible exact Hid.out (by assumption) | with_reducible refine Below.setCell ?_ (by first | (simp; done) | omega | (simp <;> omega)) _ | with_reducible refine bl_al ?_ _ | with_reducible apply Below.drew)), Has.mk4 (by first | (simp <;> omega) | omega) (by simp [go_sem, *]) (by simp [go_sem, *]) (by simp [go_sem, *]) (by simp [go_sem, *]), (fun j => by first | (simp [go_sem, *]; done) | (simp [frozen?_alloc_cells, World.frozen?_setCell, World.frozen?, *]; done) | (simp only [World.frozen?_setCell, frozen?_alloc_cells]; first | exact frozen_fix (by first | omega | (simp <;> omega)) | (simp [*]; done)) | (simp only [World.frozen?_setCell, frozen?_alloc_cells, World.frozen?_drew]; exact frozen_fix (by first | omega | (simp <;> omega)))), Has.mk2 (by first | (simp <;> omega) | omega) (by simp [go_sem, *]) (by simp [go_sem, *])⟩)
  case rest =>
  obtain ⟨X1, hX1⟩ : ∃ X, X = wc := ⟨wc, rfl⟩
  subst hX1
  obtain ⟨bX1x, bX1y, rfl, rfl, m_bX1x, m_bX1y, n_bX1y_bX1x, hX, g_x, c_x, g_y⟩ := hcut
  have lw_bX1x : w.heap.size + 1 + 1 + 1 ≤ bX1x := by omega
  have lw_bX1y : w.heap.size + 1 + 1 + 1 ≤ bX1y := by omega
  have lv_bX1y_bX1x : bX1y ≠ bX1x := by omega
  have zX1_a : w.heap.size < X1.heap.size := Nat.lt_of_lt_of_le zR1_a hX.size
  have cX1_a_0 : X1.cell? ⟨w.heap.size, 0, none⟩ = some (.int .i64 h) := by rw [(bcell hX).1 _ _ zR1_a]; exact cR1_a_0
  have cX1_a_1 : X1.cell? ⟨w.heap.size, 1, none⟩ = some (.int .u64 l) := by rw [(bcell hX).1 _ _ zR1_a]; exact cR1_a_1
  have zX1_b : w.heap.size + 1 < X1.heap.size := Nat.lt_of_lt_of_le zR1_b hX.size
  have cX1_b_0 : X1.cell? ⟨w.heap.size + 1, 0, none⟩ = some (.int .i64 m) := by rw [(bcell hX).1 _ _ zR1_b]; exact cR1_b_0
  have cX1_b_1 : X1.cell? ⟨w.heap.size + 1, 1, none⟩ = some (.int .u64 n) := by rw [(bcell hX).1 _ _ zR1_b]; exact cR1_b_1
  have zX1_r : w.heap.size + 1 + 1 < X1.heap.size := Nat.lt_of_lt_of_le zR1_r hX.size
  have cX1_r_0 : X1.cell? ⟨w.heap.size + 1 + 1, 0, none⟩ = some (.int .i64 0) := by rw [(bcell hX).1 _ _ zR1_r]; exact cR1_r_0
  have cX1_r_1 : X1.cell? ⟨w.heap.size + 1 + 1, 1, none⟩ = some (.int .u64 0) := by rw [(bcell hX).1 _ _ zR1_r]; exact cR1_r_1
  have cX1_r_2 : X1.cell? ⟨w.heap.size + 1 + 1, 2, none⟩ = some (.int .i64 0) := by rw [(bcell hX).1 _ _ zR1_r]; exact cR1_r_2
  have fX1_r : ∀ j, X1.frozen? ⟨w.heap.size + 1 + 1, j, none⟩ = false := fun j => by rw [(bcell hX).2 _ _ zR1_r]; exact fR1_r j
  have zX1_x := g_x.1; have cX1_x_0 := g_x.2 0 _ rfl; have cX1_x_1 := g_x.2 1 _ rfl; have cX1_x_2 := g_x.2 2 _ rfl; have cX1_x_3 := g_x.2 3 _ rfl; clear g_x
  have fX1_x : ∀ j, X1.frozen? ⟨bX1x, j, none⟩ = false := c_x; clear c_x
  have zX1_y := g_y.1; have cX1_y_0 := g_y.2 0 _ rfl; have cX1_y_1 := g_y.2 1 _ rfl; clear g_y
  have nebX1x_r : ¬ (bX1x = w.heap.size + 1 + 1) := by omega
  have ndbX1x_r : ¬ (w.heap.size + 1 + 1 = bX1x) := by omega
  have nebX1y_r : ¬ (bX1y = w.heap.size + 1 + 1) := by omega
  have ndbX1y_r : ¬ (w.heap.size + 1 + 1 = bX1y) := by omega
  have HBX1 : Hid (Below w.heap.size w X1) := bl_trans HBR1.out hX
  clear hX
  clear zR1_a yR1_a yyR1_a cR1_a_0 cR1_a_1 zR1_b yR1_b yyR1_b cR1_b_0 cR1_b_1 zR1_r yR1_r yyR1_r cR1_r_0 cR1_r_1 cR1_r_2 fR1_r HBR1 m_bX1x m_bX1y n_bX1y_bX1x
  go_upto_region 4 with fail
  refine name_world (P := fun W => Code.wp _ _ _ _ W) _ (fun R2 hR2 => ?_)
  have zR2_a : w.heap.size < R2.heap.size := by rw [hR2]; first | omega | (simp <;> omega)
  have yR2_a : w.heap.size < R2.heap.size + 1 := by omega
  have yyR2_a : w.heap.size < R2.heap.size + 1 + 1 := by omega
  have cR2_a_0 : R2.cell? ⟨w.heap.size, 0, none⟩ = some (.int .i64 h) := by rw [hR2]; first | assumption | (simp [go_sem, *]; done)
  have cR2_a_1 : R2.cell? ⟨w.heap.size, 1, none⟩ = some (.int .u64 l) := by rw [hR2]; first | assumption | (simp [go_sem, *]; done)
  have zR2_b : w.heap.size + 1 < R2.heap.size := by rw [hR2]; first | omega | (simp <;> omega)
  have yR2_b : w.heap.size + 1 < R2.heap.size + 1 := by omega
  have yyR2_b : w.heap.size + 1 < R2.heap.size + 1 + 1 := by omega
  have cR2_b_0 : R2.cell? ⟨w.heap.size + 1, 0, none⟩ = some (.int .i64 m) := by rw [hR2]; first | assumption | (simp [go_sem, *]; done)
  have cR2_b_1 : R2.cell? ⟨w.heap.size + 1, 1, none⟩ = some (.int .u64 n) := by rw [hR2]; first | assumption | (simp [go_sem, *]; done)
  have zR2_r : w.heap.size + 1 + 1 < R2.heap.size := by rw [hR2]; first | omega | (simp <;> omega)
  have yR2_r : w.heap.size + 1 + 1 < R2.heap.size + 1 := by omega
  have yyR2_r : w.heap.size + 1 + 1 < R2.heap.size + 1 + 1 := by omega
  have cR2_r_0 : R2.cell? ⟨w.heap.size + 1 + 1, 0, none⟩ = some (.int .i64 0) := by rw [hR2]; first | assumption | (simp [go_sem, *]; done)
  have cR2_r_1 : R2.cell? ⟨w.heap.size + 1 + 1, 1, none⟩ = some (.int .u64 0) := by rw [hR2]; first | assumption | (simp [go_sem, *]; done)
  have cR2_r_2 : R2.cell? ⟨w.heap.size + 1 + 1, 2, none⟩ = some (.int .i64 0) := by rw [hR2]; first | assumption | (simp [go_sem, *]; done)
  have fR2_r : ∀ j, R2.frozen? ⟨w.heap.size + 1 + 1, j, none⟩ = false := fun j => by rw [hR2]; first | (simp [go_sem, *]; done) | (simp only [frozen?_alloc_cells]; rw [hfrX1 _ _ (by first | omega | (simp <;> omega))]; simp [frozen?_alloc_cells, World.frozen?]; done) | (simp [frozen?_alloc_cells, World.frozen?, *]; done)
  have zR2_x : bX1x < R2.heap.size := by rw [hR2]; first | omega | (simp <;> omega)
  have yR2_x : bX1x < R2.heap.size + 1 := by omega
  have yyR2_x : bX1x < R2.heap.size + 1 + 1 := by omega
  have cR2_x_0 : R2.cell? ⟨bX1x, 0, none⟩ = some (.int .u64 e3) := by rw [hR2]; first | assumption | (simp [go_sem, *]; done)
  have cR2_x_1 : R2.cell? ⟨bX1x, 1, none⟩ = some (.int .u64 e2) := by rw [hR2]; first | assumption | (simp [go_sem, *]; done)
  have cR2_x_2 : R2.cell? ⟨bX1x, 2, none⟩ = some (.int .u64 e1) := by rw [hR2]; first | assumption | (simp [go_sem, *]; done)
  have cR2_x_3 : R2.cell? ⟨bX1x, 3, none⟩ = some (.int .u64 e0) := by rw [hR2]; first | assumption | (simp [go_sem, *]; done)
  have fR2_x : ∀ j, R2.frozen? ⟨bX1x, j, none⟩ = false := fun j => by rw [hR2]; first | (simp [go_sem, *]; done) | (simp only [frozen?_alloc_cells]; rw [hfrX1 _ _ (by first | omega | (simp <;> omega))]; simp [frozen?_alloc_cells, World.frozen?]; done) | (simp [frozen?_alloc_cells, World.frozen?, *]; done)
  have lo_x : w.heap.size ≤ bX1x := by omega
  have zR2_y : bX1y < R2.heap.size := by rw [hR2]; first | omega | (simp <;> omega)
  have yR2_y : bX1y < R2.heap.size + 1 := by omega
  have yyR2_y : bX1y < R2.heap.size + 1 + 1 := by omega
  have cR2_y_0 : R2.cell? ⟨bX1y, 0, none⟩ = some (.int .u64 g1) := by rw [hR2]; first | assumption | (simp [go_sem, *]; done)
  have cR2_y_1 : R2.cell? ⟨bX1y, 1, none⟩ = some (.int .u64 g0) := by rw [hR2]; first | assumption | (simp [go_sem, *]; done)
  have na_r_x : ¬ (w.heap.size + 1 + 1 = bX1x) := by omega
  have nb_r_x : ¬ (bX1x = w.heap.size + 1 + 1) := by omega
  have na_r_y : ¬ (w.heap.size + 1 + 1 = bX1y) := by omega
  have nb_r_y : ¬ (bX1y = w.heap.size + 1 + 1) := by omega
  have na_x_a : ¬ (bX1x = w.heap.size) := by omega
  have nb_x_a : ¬ (w.heap.size = bX1x) := by omega
  have na_x_b : ¬ (bX1x = w.heap.size + 1) := by omega
  have nb_x_b : ¬ (w.heap.size + 1 = bX1x) := by omega
  have na_x_r : ¬ (bX1x = w.heap.size + 1 + 1) := by omega
  have nb_x_r : ¬ (w.heap.size + 1 + 1 = bX1x) := by omega
  have na_x_y : ¬ (bX1x = bX1y) := by omega
  have nb_x_y : ¬ (bX1y = bX1x) := by omega
  have HBR2 : Hid (Below w.heap.size w R2) := by rw [hR2]; show Below _ _ _; exact (by repeat (first | with_reducible exact Below.refl _ _ | with_reducible exact Hid.out (by assumption) | with_reducible refine Below.setCell ?_ (by first | (simp; done) | omega | (simp <;> omega)) _ | with_reducible refine bl_al ?_ _ | with_reducible apply Below.drew))
  clear hR2
  clear HBX1 zX1_a cX1_a_0 cX1_a_1 zX1_b cX1_b_0 cX1_b_1 zX1_r cX1_r_0 cX1_r_1 cX1_r_2 fX1_r zX1_x cX1_x_0 cX1_x_1 cX1_x_2 cX1_x_3 zX1_y cX1_y_0 cX1_y_1 fX1_x
  go_wp2_with fail
  (with_reducible refine (K4.out _).mono ?_); rintro e w4 ⟨rfl, hb⟩; obtain ⟨hclw4, hfrw4⟩ := bcell hb; have zw4_a : w.heap.size < w4.heap.size := (by first | omega | (have hz := hb.size; (try simp at hz); omega)); have yw4_a : w.heap.size < w4.heap.size + 1 := (by omega); have yyw4_a : w.heap.size < w4.heap.size + 1 + 1 := (by omega); have zw4_b : w.heap.size + 1 < w4.heap.size := (by first | omega | (have hz := hb.size; (try simp at hz); omega)); have yw4_b : w.heap.size + 1 < w4.heap.size + 1 := (by omega); have yyw4_b : w.heap.size + 1 < w4.heap.size + 1 + 1 := (by omega); have zw4_r : w.heap.size + 1 + 1 < w4.heap.size := (by first | omega | (have hz := hb.size; (try simp at hz); omega)); have yw4_r : w.heap.size + 1 + 1 < w4.heap.size + 1 := (by omega); have yyw4_r : w.heap.size + 1 + 1 < w4.heap.size + 1 + 1 := (by omega); have zw4_x : bX1x < w4.heap.size := (by first | omega | (have hz := hb.size; (try simp at hz); omega)); have yw4_x : bX1x < w4.heap.size + 1 := (by omega); have yyw4_x : bX1x < w4.heap.size + 1 + 1 := (by omega); have zw4_y : bX1y < w4.heap.size := (by first | omega | (have hz := hb.size; (try simp at hz); omega)); have yw4_y : bX1y < w4.heap.size + 1 := (by omega); have yyw4_y : bX1y < w4.heap.size + 1 + 1 := (by omega); have sxw4_0 : R2.heap.size ≤ w4.heap.size := (by first | omega | (have hz := hb.size; (try simp at hz); omega)); have HBw4 : Hid (Below w.heap.size w w4) := (bl_trans (by repeat (first | with_reducible exact Below.refl _ _ | with_reducible exact Hid.out (by assumption) | with_reducible refine Below.setCell ?_ (by first | (simp; done) | omega | (simp <;> omega)) _ | with_reducible refine bl_al ?_ _ | with_reducible apply Below.drew)) hb); clear hb
  have fw4_r : ∀ j, w4.frozen? ⟨w.heap.size + 1 + 1, j, none⟩ = false := fun j => by rw [hfrw4 _ _ (by first | exact zR2_r | (simp; exact zR2_r))]; exact fR2_r j
  have fw4_x : ∀ j, w4.frozen? ⟨bX1x, j, none⟩ = false := fun j => by rw [hfrw4 _ _ (by first | exact zR2_x | (simp; exact zR2_x))]; exact fR2_x j
  go_upto_region 8 with fail
  refine name_world (P := fun W => Code.wp _ _ _ _ W) _ (fun R3 hR3 => ?_)
  have zR3_a : w.heap.size < R3.heap.size := by rw [hR3]; first | omega | (simp <;> omega)
  have yR3_a : w.heap.size < R3.heap.size + 1 := by omega
  have yyR3_a : w.heap.size < R3.heap.size + 1 + 1 := by omega
  have cR3_a_0 : R3.cell? ⟨w.heap.size, 0, none⟩ = some (.int .i64 h) := by rw [hR3]; first | assumption | (simp [go_sem, *]; done)
  have cR3_a_1 : R3.cell? ⟨w.heap.size, 1, none⟩ = some (.int .u64 l) := by rw [hR3]; first | assumption | (simp [go_sem, *]; done)
  have zR3_b : w.heap.size + 1 < R3.heap.size := by rw [hR3]; first | omega | (simp <;> omega)
  have yR3_b : w.heap.size + 1 < R3.heap.size + 1 := by omega
  have yyR3_b : w.heap.size + 1 < R3.heap.size + 1 + 1 := by omega
  have cR3_b_0 : R3.cell? ⟨w.heap.size + 1, 0, none⟩ = some (.int .i64 m) := by rw [hR3]; first | assumption | (simp [go_sem, *]; done)
  have cR3_b_1 : R3.cell? ⟨w.heap.size + 1, 1, none⟩ = some (.int .u64 n) := by rw [hR3]; first | assumption | (simp [go_sem, *]; done)
  have zR3_r : w.heap.size + 1 + 1 < R3.heap.size := by rw [hR3]; first | omega | (simp <;> omega)
  have yR3_r : w.heap.size + 1 + 1 < R3.heap.size + 1 := by omega
  have yyR3_r : w.heap.size + 1 + 1 < R3.heap.size + 1 + 1 := by omega
  have cR3_r_0 : R3.cell? ⟨w.heap.size + 1 + 1, 0, none⟩ = some (.int .i64 0) := by rw [hR3]; first | assumption | (simp [go_sem, *]; done)
  have cR3_r_1 : R3.cell? ⟨w.heap.size + 1 + 1, 1, none⟩ = some (.int .u64 0) := by rw [hR3]; first | assumption | (simp [go_sem, *]; done)
  have cR3_r_2 : R3.cell? ⟨w.heap.size + 1 + 1, 2, none⟩ = some (.int .i64 0) := by rw [hR3]; first | assumption | (simp [go_sem, *]; done)
  have fR3_r : ∀ j, R3.frozen? ⟨w.heap.size + 1 + 1, j, none⟩ = false := fun j => by rw [hR3]; first | (simp [go_sem, *]; done) | (simp only [frozen?_alloc_cells]; rw [hfrw4 _ _ (by first | omega | (simp <;> omega))]; simp [frozen?_alloc_cells, World.frozen?]; done) | (simp [frozen?_alloc_cells, World.frozen?, *]; done)
  have zR3_x : bX1x < R3.heap.size := by rw [hR3]; first | omega | (simp <;> omega)
  have yR3_x : bX1x < R3.heap.size + 1 := by omega
  have yyR3_x : bX1x < R3.heap.size + 1 + 1 := by omega
  have cR3_x_0 : R3.cell? ⟨bX1x, 0, none⟩ = some (.int .u64 e3) := by rw [hR3]; first | assumption | (simp [go_sem, *]; done)
  have cR3_x_1 : R3.cell? ⟨bX1x, 1, none⟩ = some (.int .u64 e2) := by rw [hR3]; first | assumption | (simp [go_sem, *]; done)
  have cR3_x_2 : R3.cell? ⟨bX1x, 2, none⟩ = some (.int .u64 s1) := by rw [hR3]; first | assumption | (simp [go_sem, *]; done)
  have cR3_x_3 : R3.cell? ⟨bX1x, 3, none⟩ = some (.int .u64 s0) := by rw [hR3]; first | assumption | (simp [go_sem, *]; done)
  have fR3_x : ∀ j, R3.frozen? ⟨bX1x, j, none⟩ = false := fun j => by rw [hR3]; first | (simp [go_sem, *]; done) | (simp only [frozen?_alloc_cells]; rw [hfrw4 _ _ (by first | omega | (simp <;> omega))]; simp [frozen?_alloc_cells, World.frozen?]; done) | (simp [frozen?_alloc_cells, World.frozen?, *]; done)
  have zR3_y : bX1y < R3.heap.size := by rw [hR3]; first | omega | (simp <;> omega)
  have yR3_y : bX1y < R3.heap.size + 1 := by omega
  have yyR3_y : bX1y < R3.heap.size + 1 + 1 := by omega
  have cR3_y_0 : R3.cell? ⟨bX1y, 0, none⟩ = some (.int .u64 g1) := by rw [hR3]; first | assumption | (simp [go_sem, *]; done)
  have cR3_y_1 : R3.cell? ⟨bX1y, 1, none⟩ = some (.int .u64 g0) := by rw [hR3]; first | assumption | (simp [go_sem, *]; done)
  have zR3_s : w4.heap.size < R3.heap.size := by rw [hR3]; first | omega | (simp <;> omega)
  have yR3_s : w4.heap.size < R3.heap.size + 1 := by omega
  have yyR3_s : w4.heap.size < R3.heap.size + 1 + 1 := by omega
  have cR3_s_0 : R3.cell? ⟨w4.heap.size, 0, none⟩ = some (.int .u64 s1) := by rw [hR3]; first | assumption | (simp [go_sem, *]; done)
  have cR3_s_1 : R3.cell? ⟨w4.heap.size, 1, none⟩ = some (.int .u64 s0) := by rw [hR3]; first | assumption | (simp [go_sem, *]; done)
  have cR3_s_2 : R3.cell? ⟨w4.heap.size, 2, none⟩ = some (.bool false) := by rw [hR3]; first | assumption | (simp [go_sem, *]; done)
  have na_r_s : ¬ (w.heap.size + 1 + 1 = w4.heap.size) := by omega
  have nb_r_s : ¬ (w4.heap.size = w.heap.size + 1 + 1) := by omega
  have na_x_s : ¬ (bX1x = w4.heap.size) := by omega
  have nb_x_s : ¬ (w4.heap.size = bX1x) := by omega
  have HBR3 : Hid (Below w.heap.size w R3) := by rw [hR3]; show Below _ _ _; exact (by repeat (first | with_reducible exact Below.refl _ _ | with_reducible exact Hid.out (by assumption) | with_reducible refine Below.setCell ?_ (by first | (simp; done) | omega | (simp <;> omega)) _ | with_reducible refine bl_al ?_ _ | with_reducible apply Below.drew))
  clear hR3
  clear zR2_a yR2_a yyR2_a cR2_a_0 cR2_a_1 zR2_b yR2_b yyR2_b cR2_b_0 cR2_b_1 zR2_r yR2_r yyR2_r cR2_r_0 cR2_r_1 cR2_r_2 fR2_r zR2_x yR2_x yyR2_x cR2_x_0 cR2_x_1 cR2_x_2 cR2_x_3 fR2_x zR2_y yR2_y yyR2_y cR2_y_0 cR2_y_1 HBR2 zw4_a yw4_a yyw4_a zw4_b yw4_b yyw4_b zw4_r yw4_r yyw4_r zw4_x yw4_x yyw4_x zw4_y yw4_y yyw4_y sxw4_0 hclw4 hfrw4 HBw4 fw4_r fw4_x
  go_cut [8] (fun slot0 X2 => ∃ bX2dd : Nat, slot0 = .pointer (some ⟨bX2dd, 0, none⟩) ∧ R3.heap.size ≤ bX2dd ∧ Below R3.heap.size R3 X2 ∧ Has (bX2dd) [.int .u64 t3, .int .u64 t2, .int .u64 t1, .int .u64 t0, .int .u64 u1, .int .u64 u0, .bool ok] X2)
  case first =>
    clear HBR3
    have ltt : ∀ n : Nat, n < n + 1 + 1 := fun n => by omega
    have lttt : ∀ n : Nat, n + 1 < n + 1 + 1 := fun n => by omega
    go_region_held3 (fun w' => w'.cell? ⟨bX1x, 0, none⟩ = some (.int .u64 e3) ∧ w'.cell? ⟨bX1x, 1, none⟩ = some (.int .u64 e2) ∧ w'.cell? ⟨bX1x, 2, none⟩ = some (.int .u64 s1) ∧ w'.cell? ⟨bX1x, 3, none⟩ = some (.int .u64 s0) ∧ w'.cell? ⟨bX1y, 0, none⟩ = some (.int .u64 g1) ∧ w'.cell? ⟨bX1y, 1, none⟩ = some (.int .u64 g0)) (first | (simp [*, go_sem]; done) | (simp [*, go_sem, World.cell?_alloc_past]; done))
      (first
        | (go_at_call 58; (with_reducible refine (K5.out _).mono ?_); rintro e w5 ⟨rfl, hb⟩; (first | (with_reducible (obtain ⟨hclw5, hfrw5⟩ := bcell_drew hb)) | (obtain ⟨hclw5, hfrw5⟩ := bcell hb)); have zw5_x : bX1x < w5.heap.size := (by first | omega | (have hz := hb.size; (try simp at hz); omega)); have yw5_x : bX1x < w5.heap.size + 1 := (by omega); have yyw5_x : bX1x < w5.heap.size + 1 + 1 := (by omega); have zw5_y : bX1y < w5.heap.size := (by first | omega | (have hz := hb.size; (try simp at hz); omega)); have yw5_y : bX1y < w5.heap.size + 1 := (by omega); have yyw5_y : bX1y < w5.heap.size + 1 + 1 := (by omega); (try have sw5_0 : R3.heap.size < w5.heap.size := (by first | omega | (have hz := hb.size; (try simp at hz); omega))); (try have syw5_0 : R3.heap.size < w5.heap.size + 1 := (by omega)); (try have stw5_0 : R3.heap.size + 1 < w5.heap.size := (by first | omega | (have hz := hb.size; (try simp at hz); omega))); have sxw5_0 : R3.heap.size ≤ w5.heap.size := (by first | omega | (have hz := hb.size; (try simp at hz); omega)); have HBw5 : Hid (Below R3.heap.size R3 w5) := (bl_trans (by repeat (first | with_reducible exact Below.refl _ _ | with_reducible exact Hid.out (by assumption) | with_reducible refine Below.setCell ?_ (by first | (simp; done) | omega | (simp <;> omega)) _ | with_reducible refine bl_al ?_ _ | with_reducible apply Below.drew)) hb); clear hb; clear K5)
        | (go_at_call 15; (with_reducible refine (K6.out _).mono ?_); rintro e w6 ⟨rfl, hb⟩; obtain ⟨hclw6, hfrw6⟩ := bcell hb; have zw6_x : bX1x < w6.heap.size := (by first | omega | (have hz := hb.size; (try simp at hz); omega)); have yw6_x : bX1x < w6.heap.size + 1 := (by omega); have yyw6_x : bX1x < w6.heap.size + 1 + 1 := (by omega); have zw6_y : bX1y < w6.heap.size := (by first | omega | (have hz := hb.size; (try simp at hz); omega)); have yw6_y : bX1y < w6.heap.size + 1 := (by omega); have yyw6_y : bX1y < w6.heap.size + 1 + 1 := (by omega); (try have sw6_0 : R3.heap.size < w6.heap.size := (by first | omega | (have hz := hb.size; (try simp at hz); omega))); (try have syw6_0 : R3.heap.size < w6.heap.size + 1 := (by omega)); (try have stw6_0 : R3.heap.size + 1 < w6.heap.size := (by first | omega | (have hz := hb.size; (try simp at hz); omega))); have sxw6_0 : R3.heap.size ≤ w6.heap.size := (by first | omega | (have hz := hb.size; (try simp at hz); omega)); (try have sw6_w5 : w5.heap.size < w6.heap.size := (by first | omega | (have hz := hb.size; (try simp at hz); omega))); (try have syw6_w5 : w5.heap.size < w6.heap.size + 1 := (by omega)); (try have stw6_w5 : w5.heap.size + 1 < w6.heap.size := (by first | omega | (have hz := hb.size; (try simp at hz); omega))); have sxw6_w5 : w5.heap.size ≤ w6.heap.size := (by first | omega | (have hz := hb.size; (try simp at hz); omega)); have HBw6 : Hid (Below R3.heap.size R3 w6) := (bl_trans (by repeat (first | with_reducible exact Below.refl _ _ | with_reducible exact Hid.out (by assumption) | with_reducible refine Below.setCell ?_ (by first | (simp; done) | omega | (simp <;> omega)) _ | with_reducible refine bl_al ?_ _ | with_reducible apply Below.drew)) hb); clear hb; clear K6))
    all_goals (rename_i hHeld; clear hHeld; go_wp2_with fail; go_meet; exact ⟨_, rfl, (by first | omega | (simp <;> omega)), (by repeat (first | with_reducible exact Below.refl _ _ | with_reducible exact Hid.out (by assumption) | with_reducible refine Below.setCell ?_ (by first | (simp; done) | omega | (simp <;> omega)) _ | with_reducible refine bl_al ?_ _ | with_reducible apply Below.drew)), Has.mk7 (by first | (simp <;> omega) | omega) (by simp [go_sem, *]) (by simp [go_sem, *]) (by simp [go_sem, *]) (by simp [go_sem, *]) (by simp [go_sem, *]) (by simp [go_sem, *]) (by simp [go_sem, *])⟩)
  case rest =>
  obtain ⟨X2, hX2⟩ : ∃ X, X = wc := ⟨wc, rfl⟩
  subst hX2
  obtain ⟨bX2dd, rfl, m_bX2dd, hX, g_dd⟩ := hcut
  have zX2_a : w.heap.size < X2.heap.size := Nat.lt_of_lt_of_le zR3_a hX.size
  have cX2_a_0 : X2.cell? ⟨w.heap.size, 0, none⟩ = some (.int .i64 h) := by rw [(bcell hX).1 _ _ zR3_a]; exact cR3_a_0
  have cX2_a_1 : X2.cell? ⟨w.heap.size, 1, none⟩ = some (.int .u64 l) := by rw [(bcell hX).1 _ _ zR3_a]; exact cR3_a_1
  have zX2_b : w.heap.size + 1 < X2.heap.size := Nat.lt_of_lt_of_le zR3_b hX.size
  have cX2_b_0 : X2.cell? ⟨w.heap.size + 1, 0, none⟩ = some (.int .i64 m) := by rw [(bcell hX).1 _ _ zR3_b]; exact cR3_b_0
  have cX2_b_1 : X2.cell? ⟨w.heap.size + 1, 1, none⟩ = some (.int .u64 n) := by rw [(bcell hX).1 _ _ zR3_b]; exact cR3_b_1
  have zX2_r : w.heap.size + 1 + 1 < X2.heap.size := Nat.lt_of_lt_of_le zR3_r hX.size
  have cX2_r_0 : X2.cell? ⟨w.heap.size + 1 + 1, 0, none⟩ = some (.int .i64 0) := by rw [(bcell hX).1 _ _ zR3_r]; exact cR3_r_0
  have cX2_r_1 : X2.cell? ⟨w.heap.size + 1 + 1, 1, none⟩ = some (.int .u64 0) := by rw [(bcell hX).1 _ _ zR3_r]; exact cR3_r_1
  have cX2_r_2 : X2.cell? ⟨w.heap.size + 1 + 1, 2, none⟩ = some (.int .i64 0) := by rw [(bcell hX).1 _ _ zR3_r]; exact cR3_r_2
  have fX2_r : ∀ j, X2.frozen? ⟨w.heap.size + 1 + 1, j, none⟩ = false := fun j => by rw [(bcell hX).2 _ _ zR3_r]; exact fR3_r j
  have zX2_x : bX1x < X2.heap.size := Nat.lt_of_lt_of_le zR3_x hX.size
  have cX2_x_0 : X2.cell? ⟨bX1x, 0, none⟩ = some (.int .u64 e3) := by rw [(bcell hX).1 _ _ zR3_x]; exact cR3_x_0
  have cX2_x_1 : X2.cell? ⟨bX1x, 1, none⟩ = some (.int .u64 e2) := by rw [(bcell hX).1 _ _ zR3_x]; exact cR3_x_1
  have cX2_x_2 : X2.cell? ⟨bX1x, 2, none⟩ = some (.int .u64 s1) := by rw [(bcell hX).1 _ _ zR3_x]; exact cR3_x_2
  have cX2_x_3 : X2.cell? ⟨bX1x, 3, none⟩ = some (.int .u64 s0) := by rw [(bcell hX).1 _ _ zR3_x]; exact cR3_x_3
  have fX2_x : ∀ j, X2.frozen? ⟨bX1x, j, none⟩ = false := fun j => by rw [(bcell hX).2 _ _ zR3_x]; exact fR3_x j
  have zX2_y : bX1y < X2.heap.size := Nat.lt_of_lt_of_le zR3_y hX.size
  have cX2_y_0 : X2.cell? ⟨bX1y, 0, none⟩ = some (.int .u64 g1) := by rw [(bcell hX).1 _ _ zR3_y]; exact cR3_y_0
  have cX2_y_1 : X2.cell? ⟨bX1y, 1, none⟩ = some (.int .u64 g0) := by rw [(bcell hX).1 _ _ zR3_y]; exact cR3_y_1
  have zX2_s : w4.heap.size < X2.heap.size := Nat.lt_of_lt_of_le zR3_s hX.size
  have cX2_s_0 : X2.cell? ⟨w4.heap.size, 0, none⟩ = some (.int .u64 s1) := by rw [(bcell hX).1 _ _ zR3_s]; exact cR3_s_0
  have cX2_s_1 : X2.cell? ⟨w4.heap.size, 1, none⟩ = some (.int .u64 s0) := by rw [(bcell hX).1 _ _ zR3_s]; exact cR3_s_1
  have cX2_s_2 : X2.cell? ⟨w4.heap.size, 2, none⟩ = some (.bool false) := by rw [(bcell hX).1 _ _ zR3_s]; exact cR3_s_2
  have zX2_dd := g_dd.1; have cX2_dd_0 := g_dd.2 0 _ rfl; have cX2_dd_1 := g_dd.2 1 _ rfl; have cX2_dd_2 := g_dd.2 2 _ rfl; have cX2_dd_3 := g_dd.2 3 _ rfl; have cX2_dd_4 := g_dd.2 4 _ rfl; have cX2_dd_5 := g_dd.2 5 _ rfl; have cX2_dd_6 := g_dd.2 6 _ rfl; clear g_dd
  have nebX2dd_r : ¬ (bX2dd = w.heap.size + 1 + 1) := by omega
  have ndbX2dd_r : ¬ (w.heap.size + 1 + 1 = bX2dd) := by omega
  have nebX2dd_x : ¬ (bX2dd = bX1x) := by omega
  have ndbX2dd_x : ¬ (bX1x = bX2dd) := by omega
  have HBX2 : Hid (Below w.heap.size w X2) := bl_trans HBR3.out hX
  clear hX
  clear zR3_a yR3_a yyR3_a cR3_a_0 cR3_a_1 zR3_b yR3_b yyR3_b cR3_b_0 cR3_b_1 zR3_r yR3_r yyR3_r cR3_r_0 cR3_r_1 cR3_r_2 fR3_r zR3_x yR3_x yyR3_x cR3_x_0 cR3_x_1 cR3_x_2 cR3_x_3 fR3_x zR3_y yR3_y yyR3_y cR3_y_0 cR3_y_1 zR3_s yR3_s yyR3_s cR3_s_0 cR3_s_1 cR3_s_2 HBR3 m_bX2dd
  go_upto_region 9 with fail
  refine name_world (P := fun W => Code.wp _ _ _ _ W) _ (fun R4 hR4 => ?_)
  have zR4_a : w.heap.size < R4.heap.size := by rw [hR4]; first | omega | (simp <;> omega)
  have yR4_a : w.heap.size < R4.heap.size + 1 := by omega
  have yyR4_a : w.heap.size < R4.heap.size + 1 + 1 := by omega
  have cR4_a_0 : R4.cell? ⟨w.heap.size, 0, none⟩ = some (.int .i64 h) := by rw [hR4]; first | assumption | (simp [go_sem, *]; done)
  have cR4_a_1 : R4.cell? ⟨w.heap.size, 1, none⟩ = some (.int .u64 l) := by rw [hR4]; first | assumption | (simp [go_sem, *]; done)
  have zR4_b : w.heap.size + 1 < R4.heap.size := by rw [hR4]; first | omega | (simp <;> omega)
  have yR4_b : w.heap.size + 1 < R4.heap.size + 1 := by omega
  have yyR4_b : w.heap.size + 1 < R4.heap.size + 1 + 1 := by omega
  have cR4_b_0 : R4.cell? ⟨w.heap.size + 1, 0, none⟩ = some (.int .i64 m) := by rw [hR4]; first | assumption | (simp [go_sem, *]; done)
  have cR4_b_1 : R4.cell? ⟨w.heap.size + 1, 1, none⟩ = some (.int .u64 n) := by rw [hR4]; first | assumption | (simp [go_sem, *]; done)
  have zR4_r : w.heap.size + 1 + 1 < R4.heap.size := by rw [hR4]; first | omega | (simp <;> omega)
  have yR4_r : w.heap.size + 1 + 1 < R4.heap.size + 1 := by omega
  have yyR4_r : w.heap.size + 1 + 1 < R4.heap.size + 1 + 1 := by omega
  have cR4_r_0 : R4.cell? ⟨w.heap.size + 1 + 1, 0, none⟩ = some (.int .i64 0) := by rw [hR4]; first | assumption | (simp [go_sem, *]; done)
  have cR4_r_1 : R4.cell? ⟨w.heap.size + 1 + 1, 1, none⟩ = some (.int .u64 0) := by rw [hR4]; first | assumption | (simp [go_sem, *]; done)
  have cR4_r_2 : R4.cell? ⟨w.heap.size + 1 + 1, 2, none⟩ = some (.int .i64 0) := by rw [hR4]; first | assumption | (simp [go_sem, *]; done)
  have fR4_r : ∀ j, R4.frozen? ⟨w.heap.size + 1 + 1, j, none⟩ = false := fun j => by rw [hR4]; first | (simp [go_sem, *]; done) | (simp only [frozen?_alloc_cells]; rw [hfrX2 _ _ (by first | omega | (simp <;> omega))]; simp [frozen?_alloc_cells, World.frozen?]; done) | (simp [frozen?_alloc_cells, World.frozen?, *]; done)
  have zR4_x : bX1x < R4.heap.size := by rw [hR4]; first | omega | (simp <;> omega)
  have yR4_x : bX1x < R4.heap.size + 1 := by omega
  have yyR4_x : bX1x < R4.heap.size + 1 + 1 := by omega
  have cR4_x_0 : R4.cell? ⟨bX1x, 0, none⟩ = some (.int .u64 e3) := by rw [hR4]; first | assumption | (simp [go_sem, *]; done)
  have cR4_x_1 : R4.cell? ⟨bX1x, 1, none⟩ = some (.int .u64 e2) := by rw [hR4]; first | assumption | (simp [go_sem, *]; done)
  have cR4_x_2 : R4.cell? ⟨bX1x, 2, none⟩ = some (.int .u64 s1) := by rw [hR4]; first | assumption | (simp [go_sem, *]; done)
  have cR4_x_3 : R4.cell? ⟨bX1x, 3, none⟩ = some (.int .u64 s0) := by rw [hR4]; first | assumption | (simp [go_sem, *]; done)
  have fR4_x : ∀ j, R4.frozen? ⟨bX1x, j, none⟩ = false := fun j => by rw [hR4]; first | (simp [go_sem, *]; done) | (simp only [frozen?_alloc_cells]; rw [hfrX2 _ _ (by first | omega | (simp <;> omega))]; simp [frozen?_alloc_cells, World.frozen?]; done) | (simp [frozen?_alloc_cells, World.frozen?, *]; done)
  have zR4_y : bX1y < R4.heap.size := by rw [hR4]; first | omega | (simp <;> omega)
  have yR4_y : bX1y < R4.heap.size + 1 := by omega
  have yyR4_y : bX1y < R4.heap.size + 1 + 1 := by omega
  have cR4_y_0 : R4.cell? ⟨bX1y, 0, none⟩ = some (.int .u64 g1) := by rw [hR4]; first | assumption | (simp [go_sem, *]; done)
  have cR4_y_1 : R4.cell? ⟨bX1y, 1, none⟩ = some (.int .u64 g0) := by rw [hR4]; first | assumption | (simp [go_sem, *]; done)
  have zR4_s : w4.heap.size < R4.heap.size := by rw [hR4]; first | omega | (simp <;> omega)
  have yR4_s : w4.heap.size < R4.heap.size + 1 := by omega
  have yyR4_s : w4.heap.size < R4.heap.size + 1 + 1 := by omega
  have cR4_s_0 : R4.cell? ⟨w4.heap.size, 0, none⟩ = some (.int .u64 s1) := by rw [hR4]; first | assumption | (simp [go_sem, *]; done)
  have cR4_s_1 : R4.cell? ⟨w4.heap.size, 1, none⟩ = some (.int .u64 s0) := by rw [hR4]; first | assumption | (simp [go_sem, *]; done)
  have cR4_s_2 : R4.cell? ⟨w4.heap.size, 2, none⟩ = some (.bool false) := by rw [hR4]; first | assumption | (simp [go_sem, *]; done)
  have zR4_dd : bX2dd < R4.heap.size := by rw [hR4]; first | omega | (simp <;> omega)
  have yR4_dd : bX2dd < R4.heap.size + 1 := by omega
  have yyR4_dd : bX2dd < R4.heap.size + 1 + 1 := by omega
  have cR4_dd_0 : R4.cell? ⟨bX2dd, 0, none⟩ = some (.int .u64 t3) := by rw [hR4]; first | assumption | (simp [go_sem, *]; done)
  have cR4_dd_1 : R4.cell? ⟨bX2dd, 1, none⟩ = some (.int .u64 t2) := by rw [hR4]; first | assumption | (simp [go_sem, *]; done)
  have cR4_dd_2 : R4.cell? ⟨bX2dd, 2, none⟩ = some (.int .u64 t1) := by rw [hR4]; first | assumption | (simp [go_sem, *]; done)
  have cR4_dd_3 : R4.cell? ⟨bX2dd, 3, none⟩ = some (.int .u64 t0) := by rw [hR4]; first | assumption | (simp [go_sem, *]; done)
  have cR4_dd_4 : R4.cell? ⟨bX2dd, 4, none⟩ = some (.int .u64 u1) := by rw [hR4]; first | assumption | (simp [go_sem, *]; done)
  have cR4_dd_5 : R4.cell? ⟨bX2dd, 5, none⟩ = some (.int .u64 u0) := by rw [hR4]; first | assumption | (simp [go_sem, *]; done)
  have cR4_dd_6 : R4.cell? ⟨bX2dd, 6, none⟩ = some (.bool ok) := by rw [hR4]; first | assumption | (simp [go_sem, *]; done)
  have na_r_dd : ¬ (w.heap.size + 1 + 1 = bX2dd) := by omega
  have nb_r_dd : ¬ (bX2dd = w.heap.size + 1 + 1) := by omega
  have na_x_dd : ¬ (bX1x = bX2dd) := by omega
  have nb_x_dd : ¬ (bX2dd = bX1x) := by omega
  have HBR4 : Hid (Below w.heap.size w R4) := by rw [hR4]; show Below _ _ _; exact (by repeat (first | with_reducible exact Below.refl _ _ | with_reducible exact Hid.out (by assumption) | with_reducible refine Below.setCell ?_ (by first | (simp; done) | omega | (simp <;> omega)) _ | with_reducible refine bl_al ?_ _ | with_reducible apply Below.drew))
  clear hR4
  clear HBX2 zX2_a cX2_a_0 cX2_a_1 zX2_b cX2_b_0 cX2_b_1 zX2_r cX2_r_0 cX2_r_1 cX2_r_2 fX2_r zX2_x cX2_x_0 cX2_x_1 cX2_x_2 cX2_x_3 fX2_x zX2_y cX2_y_0 cX2_y_1 zX2_s cX2_s_0 cX2_s_1 cX2_s_2 zX2_dd cX2_dd_0 cX2_dd_1 cX2_dd_2 cX2_dd_3 cX2_dd_4 cX2_dd_5 cX2_dd_6
  go_wp2_with fail
  (with_reducible refine (K7.out _).mono ?_); rintro e w7 ⟨rfl, hb⟩; obtain ⟨hclw7, hfrw7⟩ := bcell hb; have zw7_a : w.heap.size < w7.heap.size := (by first | omega | (have hz := hb.size; (try simp at hz); omega)); have yw7_a : w.heap.size < w7.heap.size + 1 := (by omega); have yyw7_a : w.heap.size < w7.heap.size + 1 + 1 := (by omega); have zw7_b : w.heap.size + 1 < w7.heap.size := (by first | omega | (have hz := hb.size; (try simp at hz); omega)); have yw7_b : w.heap.size + 1 < w7.heap.size + 1 := (by omega); have yyw7_b : w.heap.size + 1 < w7.heap.size + 1 + 1 := (by omega); have zw7_r : w.heap.size + 1 + 1 < w7.heap.size := (by first | omega | (have hz := hb.size; (try simp at hz); omega)); have yw7_r : w.heap.size + 1 + 1 < w7.heap.size + 1 := (by omega); have yyw7_r : w.heap.size + 1 + 1 < w7.heap.size + 1 + 1 := (by omega); have zw7_x : bX1x < w7.heap.size := (by first | omega | (have hz := hb.size; (try simp at hz); omega)); have yw7_x : bX1x < w7.heap.size + 1 := (by omega); have yyw7_x : bX1x < w7.heap.size + 1 + 1 := (by omega); have zw7_y : bX1y < w7.heap.size := (by first | omega | (have hz := hb.size; (try simp at hz); omega)); have yw7_y : bX1y < w7.heap.size + 1 := (by omega); have yyw7_y : bX1y < w7.heap.size + 1 + 1 := (by omega); have zw7_s : w4.heap.size < w7.heap.size := (by first | omega | (have hz := hb.size; (try simp at hz); omega)); have yw7_s : w4.heap.size < w7.heap.size + 1 := (by omega); have yyw7_s : w4.heap.size < w7.heap.size + 1 + 1 := (by omega); have zw7_dd : bX2dd < w7.heap.size := (by first | omega | (have hz := hb.size; (try simp at hz); omega)); have yw7_dd : bX2dd < w7.heap.size + 1 := (by omega); have yyw7_dd : bX2dd < w7.heap.size + 1 + 1 := (by omega); have sxw7_0 : R4.heap.size ≤ w7.heap.size := (by first | omega | (have hz := hb.size; (try simp at hz); omega)); have HBw7 : Hid (Below w.heap.size w w7) := (bl_trans (by repeat (first | with_reducible exact Below.refl _ _ | with_reducible exact Hid.out (by assumption) | with_reducible refine Below.setCell ?_ (by first | (simp; done) | omega | (simp <;> omega)) _ | with_reducible refine bl_al ?_ _ | with_reducible apply Below.drew)) hb); clear hb
  have fw7_r : ∀ j, w7.frozen? ⟨w.heap.size + 1 + 1, j, none⟩ = false := fun j => by rw [hfrw7 _ _ (by first | exact zR4_r | (simp; exact zR4_r))]; exact fR4_r j
  have fw7_x : ∀ j, w7.frozen? ⟨bX1x, j, none⟩ = false := fun j => by rw [hfrw7 _ _ (by first | exact zR4_x | (simp; exact zR4_x))]; exact fR4_x j
  go_wp2_with fail
  refine bodyPost_ret (by simp [results, Try.results43, go_sem, *]; try rfl) rfl ?_
  exact ⟨rfl, by repeat (first | with_reducible exact Below.refl _ _ | with_reducible exact Hid.out (by assumption) | with_reducible refine Below.setCell ?_ (by first | (simp; done) | omega | (simp <;> omega)) _ | with_reducible refine bl_al ?_ _ | with_reducible apply Below.drew)⟩
set_option maxRecDepth 20000 in
set_option maxHeartbeats 16000000 in
theorem rdivf_true (h l m n d1 d0 e3 e2 e1 e0 g1 g0 s1 s0 y1 y0 t3 t2 t1 t0 u1 u0 x1 x0 k q3 q2 : Int) (p q cy ok c : Bool) (ha : decide (h < 0) = p) (hb : decide (m < 0) = q) (qz : ∀ W, (Go.binOp .eql 44 (.agg #[.int .i64 m, .int .u64 n]) (.agg #[.int .i64 0, .int .u64 0])).run Try.prog W = .ok (.bool false) W) (w : World)
    (C1 : ∀ W, Calls Try.prog 57 #[.agg #[.int .i64 h, .int .u64 l]] W fun e w' => e = .returned (.agg #[.int .u64 d1, .int .u64 d0]) ∧ Below W.heap.size W w')
    (C2 : ∀ W, Calls Try.prog 20 #[.agg #[.int .u64 0, .int .u64 0, .int .u64 d1, .int .u64 d0], .int .i64 65] W fun e w' => e = .returned (.agg #[.int .u64 e3, .int .u64 e2, .int .u64 e1, .int .u64 e0]) ∧ Below W.heap.size W w')
    (C3 : ∀ W, Calls Try.prog 57 #[.agg #[.int .i64 m, .int .u64 n]] W fun e w' => e = .returned (.agg #[.int .u64 g1, .int .u64 g0]) ∧ Below W.heap.size W w')
    (C4 : ∀ W, Calls Try.prog 58 #[.agg #[.int .u64 e1, .int .u64 e0], .agg #[.int .u64 g1, .int .u64 g0]] W fun e w' => e = .returned (.agg #[.int .u64 s1, .int .u64 s0, .bool true]) ∧ Below W.heap.size W w')
    (C5 : ∀ W, Calls Try.prog 58 #[.agg #[.int .u64 e3, .int .u64 e2], .agg #[.int .u64 0, .int .u64 1]] W fun e w' => e = .returned (.agg #[.int .u64 q3, .int .u64 q2, .bool c]) ∧ Below W.heap.size W w')
    (C6 : ∀ W, Calls Try.prog 58 #[.agg #[.int .u64 g1, .int .u64 g0], .agg #[.int .u64 g1, .int .u64 g0]] W fun e w' => e = .returned (.agg #[.int .u64 y1, .int .u64 y0, .bool cy]) ∧ Below W.heap.size W w')
    (C7 : ∀ W, Calls Try.prog 15 #[.agg #[.int .u64 q3, .int .u64 q2, .int .u64 s1, .int .u64 s0], .agg #[.int .u64 y1, .int .u64 y0]] W fun e w' => e = .returned (.agg #[.int .u64 t3, .int .u64 t2, .int .u64 t1, .int .u64 t0, .int .u64 u1, .int .u64 u0, .bool ok]) ∧ Below W.heap.size W w')
    (C8 : ∀ W, Calls Try.prog 95 #[.bool (!(p == q)), .agg #[.int .u64 t3, .int .u64 t2, .int .u64 t1, .int .u64 t0]] W fun e w' => e = .returned (.agg #[.int .i64 x1, .int .u64 x0, .int .i64 k]) ∧ Below W.heap.size W w') :
    Calls Try.prog 43 #[.agg #[.int .i64 h, .int .u64 l], .agg #[.int .i64 m, .int .u64 n]] w fun e w' => e = .returned (.agg #[.int .i64 x1, .int .u64 x0, .int .i64 k]) ∧ Below w.heap.size w w' := by
  have K1 := Lib.hid C1; have K2 := Lib.hid C2; have K3 := Lib.hid C3; have K4 := Lib.hid C4; have K5 := Lib.hid C5; have K6 := Lib.hid C6; have K7 := Lib.hid C7; have K8 := Lib.hid C8
  clear C1 C2 C3 C4 C5 C6 C7 C8
  have fld := field_part
  go_enter Try.func43, Try.ntmps43
  go_upto_region 3 with fail
  refine name_world (P := fun W => Code.wp _ _ _ _ W) _ (fun R1 hR1 => ?_)
  have zR1_a : w.heap.size < R1.heap.size := by rw [hR1]; first | omega | (simp <;> omega)
  have yR1_a : w.heap.size < R1.heap.size + 1 := by omega
  have yyR1_a : w.heap.size < R1.heap.size + 1 + 1 := by omega
  have cR1_a_0 : R1.cell? ⟨w.heap.size, 0, none⟩ = some (.int .i64 h) := by rw [hR1]; first | assumption | (simp [go_sem, *]; done)
  have cR1_a_1 : R1.cell? ⟨w.heap.size, 1, none⟩ = some (.int .u64 l) := by rw [hR1]; first | assumption | (simp [go_sem, *]; done)
  have zR1_b : w.heap.size + 1 < R1.heap.size := by rw [hR1]; first | omega | (simp <;> omega)
  have yR1_b : w.heap.size + 1 < R1.heap.size + 1 := by omega
  have yyR1_b : w.heap.size + 1 < R1.heap.size + 1 + 1 := by omega
  have cR1_b_0 : R1.cell? ⟨w.heap.size + 1, 0, none⟩ = some (.int .i64 m) := by rw [hR1]; first | assumption | (simp [go_sem, *]; done)
  have cR1_b_1 : R1.cell? ⟨w.heap.size + 1, 1, none⟩ = some (.int .u64 n) := by rw [hR1]; first | assumption | (simp [go_sem, *]; done)
  have zR1_r : w.heap.size + 1 + 1 < R1.heap.size := by rw [hR1]; first | omega | (simp <;> omega)
  have yR1_r : w.heap.size + 1 + 1 < R1.heap.size + 1 := by omega
  have yyR1_r : w.heap.size + 1 + 1 < R1.heap.size + 1 + 1 := by omega
  have cR1_r_0 : R1.cell? ⟨w.heap.size + 1 + 1, 0, none⟩ = some (.int .i64 0) := by rw [hR1]; first | assumption | (simp [go_sem, *]; done)
  have cR1_r_1 : R1.cell? ⟨w.heap.size + 1 + 1, 1, none⟩ = some (.int .u64 0) := by rw [hR1]; first | assumption | (simp [go_sem, *]; done)
  have cR1_r_2 : R1.cell? ⟨w.heap.size + 1 + 1, 2, none⟩ = some (.int .i64 0) := by rw [hR1]; first | assumption | (simp [go_sem, *]; done)
  have fR1_r : ∀ j, R1.frozen? ⟨w.heap.size + 1 + 1, j, none⟩ = false := fun j => by rw [hR1]; first | (simp [go_sem, *]; done) | (simp only [frozen?_alloc_cells]; rw [hfrw0 _ _ (by first | omega | (simp <;> omega))]; simp [frozen?_alloc_cells, World.frozen?]; done) | (simp [frozen?_alloc_cells, World.frozen?, *]; done)
  have lo_r : w.heap.size ≤ w.heap.size + 1 + 1 := by omega
  have na_r_a : ¬ (w.heap.size + 1 + 1 = w.heap.size) := by omega
  have nb_r_a : ¬ (w.heap.size = w.heap.size + 1 + 1) := by omega
  have na_r_b : ¬ (w.heap.size + 1 + 1 = w.heap.size + 1) := by omega
  have nb_r_b : ¬ (w.heap.size + 1 = w.heap.size + 1 + 1) := by omega
  have HBR1 : Hid (Below w.heap.size w R1) := by rw [hR1]; show Below _ _ _; exact (by repeat (first | with_reducible exact Below.refl _ _ | with_reducible exact Hid.out (by assumption) | with_reducible refine Below.setCell ?_ (by first | (simp; done) | omega | (simp <;> omega)) _ | with_reducible refine bl_al ?_ _ | with_reducible apply Below.drew))
  clear hR1
  go_cut [5, 6] (fun slot0 slot1 X1 => ∃ bX1x bX1y : Nat, slot0 = .pointer (some ⟨bX1x, 0, none⟩) ∧ slot1 = .pointer (some ⟨bX1y, 0, none⟩) ∧ R1.heap.size ≤ bX1x ∧ R1.heap.size ≤ bX1y ∧ bX1y ≠ bX1x ∧ Below R1.heap.size R1 X1 ∧ Has (bX1x) [.int .u64 e3, .int .u64 e2, .int .u64 e1, .int .u64 e0] X1 ∧ Clear (bX1x) X1 ∧ Has (bX1y) [.int .u64 g1, .int .u64 g0] X1)
  case first =>
    clear HBR1
    have ltt : ∀ n : Nat, n < n + 1 + 1 := fun n => by omega
    have lttt : ∀ n : Nat, n + 1 < n + 1 + 1 := fun n => by omega
    go_region_held3 (fun w' => w'.cell? ⟨w.heap.size, 0, none⟩ = some (.int .i64 h) ∧ w'.cell? ⟨w.heap.size, 1, none⟩ = some (.int .u64 l) ∧ w'.cell? ⟨w.heap.size + 1, 0, none⟩ = some (.int .i64 m) ∧ w'.cell? ⟨w.heap.size + 1, 1, none⟩ = some (.int .u64 n)) (first | (simp [*, go_sem]; done) | (simp [*, go_sem, World.cell?_alloc_past]; done))
      (first
        | (go_at_call 57; (with_reducible refine (K1.out _).mono ?_); rintro e w1 ⟨rfl, hb⟩; (first | (with_reducible (obtain ⟨hclw1, hfrw1⟩ := bcell_drew hb)) | (obtain ⟨hclw1, hfrw1⟩ := bcell hb)); have zw1_a : w.heap.size < w1.heap.size := (by first | omega | (have hz := hb.size; (try simp at hz); omega)); have yw1_a : w.heap.size < w1.heap.size + 1 := (by omega); have yyw1_a : w.heap.size < w1.heap.size + 1 + 1 := (by omega); have zw1_b : w.heap.size + 1 < w1.heap.size := (by first | omega | (have hz := hb.size; (try simp at hz); omega)); have yw1_b : w.heap.size + 1 < w1.heap.size + 1 := (by omega); have yyw1_b : w.heap.size + 1 < w1.heap.size + 1 + 1 := (by omega); (try have sw1_0 : R1.heap.size < w1.heap.size := (by first | omega | (have hz := hb.size; (try simp at hz); omega))); (try have syw1_0 : R1.heap.size < w1.heap.size + 1 := (by omega)); (try have stw1_0 : R1.heap.size + 1 < w1.heap.size := (by first | omega | (have hz := hb.size; (try simp at hz); omega))); have sxw1_0 : R1.heap.size ≤ w1.heap.size := (by first | omega | (have hz := hb.size; (try simp at hz); omega)); have HBw1 : Hid (Below R1.heap.size R1 w1) := (bl_trans (by repeat (first | with_reducible exact Below.refl _ _ | with_reducible exact Hid.out (by assumption) | with_reducible refine Below.setCell ?_ (by first | (simp; done) | omega | (simp <;> omega)) _ | with_reducible refine bl_al ?_ _ | with_reducible apply Below.drew)) hb); clear hb; clear K1)
        | (go_at_call 20; (with_reducible refine (K2.out _).mono ?_); rintro e w2 ⟨rfl, hb⟩; obtain ⟨hclw2, hfrw2⟩ := bcell hb; have zw2_a : w.heap.size < w2.heap.size := (by first | omega | (have hz := hb.size; (try simp at hz); omega)); have yw2_a : w.heap.size < w2.heap.size + 1 := (by omega); have yyw2_a : w.heap.size < w2.heap.size + 1 + 1 := (by omega); have zw2_b : w.heap.size + 1 < w2.heap.size := (by first | omega | (have hz := hb.size; (try simp at hz); omega)); have yw2_b : w.heap.size + 1 < w2.heap.size + 1 := (by omega); have yyw2_b : w.heap.size + 1 < w2.heap.size + 1 + 1 := (by omega); (try have sw2_0 : R1.heap.size < w2.heap.size := (by first | omega | (have hz := hb.size; (try simp at hz); omega))); (try have syw2_0 : R1.heap.size < w2.heap.size + 1 := (by omega)); (try have stw2_0 : R1.heap.size + 1 < w2.heap.size := (by first | omega | (have hz := hb.size; (try simp at hz); omega))); have sxw2_0 : R1.heap.size ≤ w2.heap.size := (by first | omega | (have hz := hb.size; (try simp at hz); omega)); (try have sw2_w1 : w1.heap.size < w2.heap.size := (by first | omega | (have hz := hb.size; (try simp at hz); omega))); (try have syw2_w1 : w1.heap.size < w2.heap.size + 1 := (by omega)); (try have stw2_w1 : w1.heap.size + 1 < w2.heap.size := (by first | omega | (have hz := hb.size; (try simp at hz); omega))); have sxw2_w1 : w1.heap.size ≤ w2.heap.size := (by first | omega | (have hz := hb.size; (try simp at hz); omega)); have HBw2 : Hid (Below R1.heap.size R1 w2) := (bl_trans (by repeat (first | with_reducible exact Below.refl _ _ | with_reducible exact Hid.out (by assumption) | with_reducible refine Below.setCell ?_ (by first | (simp; done) | omega | (simp <;> omega)) _ | with_reducible refine bl_al ?_ _ | with_reducible apply Below.drew)) hb); clear hb; clear K2)
        | (go_at_call 57; (with_reducible refine (K3.out _).mono ?_); rintro e w3 ⟨rfl, hb⟩; obtain ⟨hclw3, hfrw3⟩ := bcell hb; have zw3_a : w.heap.size < w3.heap.size := (by first | omega | (have hz := hb.size; (try simp at hz); omega)); have yw3_a : w.heap.size < w3.heap.size + 1 := (by omega); have yyw3_a : w.heap.size < w3.heap.size + 1 + 1 := (by omega); have zw3_b : w.heap.size + 1 < w3.heap.size := (by first | omega | (have hz := hb.size; (try simp at hz); omega)); have yw3_b : w.heap.size + 1 < w3.heap.size + 1 := (by omega); have yyw3_b : w.heap.size + 1 < w3.heap.size + 1 + 1 := (by omega); (try have sw3_0 : R1.heap.size < w3.heap.size := (by first | omega | (have hz := hb.size; (try simp at hz); omega))); (try have syw3_0 : R1.heap.size < w3.heap.size + 1 := (by omega)); (try have stw3_0 : R1.heap.size + 1 < w3.heap.size := (by first | omega | (have hz := hb.size; (try simp at hz); omega))); have sxw3_0 : R1.heap.size ≤ w3.heap.size := (by first | omega | (have hz := hb.size; (try simp at hz); omega)); (try have sw3_w1 : w1.heap.size < w3.heap.size := (by first | omega | (have hz := hb.size; (try simp at hz); omega))); (try have syw3_w1 : w1.heap.size < w3.heap.size + 1 := (by omega)); (try have stw3_w1 : w1.heap.size + 1 < w3.heap.size := (by first | omega | (have hz := hb.size; (try simp at hz); omega))); have sxw3_w1 : w1.heap.size ≤ w3.heap.size := (by first | omega | (have hz := hb.size; (try simp at hz); omega)); (try have sw3_w2 : w2.heap.size < w3.heap.size := (by first | omega | (have hz := hb.size; (try simp at hz); omega))); (try have syw3_w2 : w2.heap.size < w3.heap.size + 1 := (by omega)); (try have stw3_w2 : w2.heap.size + 1 < w3.heap.size := (by first | omega | (have hz := hb.size; (try simp at hz); omega))); have sxw3_w2 : w2.heap.size ≤ w3.heap.size := (by first | omega | (have hz := hb.size; (try simp at hz); omega)); have HBw3 : Hid (Below R1.heap.size R1 w3) := (bl_trans (by repeat (first | with_reducible exact Below.refl _ _ | with_reducible exact Hid.out (by assumption) | with_reducible refine Below.setCell ?_ (by first | (simp; done) | omega | (simp <;> omega)) _ | with_reducible refine bl_al ?_ _ | with_reducible apply Below.drew)) hb); clear hb; clear K3))
    all_goals (rename_i hHeld; clear hHeld; go_wp2_with fail; go_meet; exact ⟨_, _, rfl, rfl, (by first | omega | (simp <;> omega)), (by first | omega | (simp <;> omega)), (by first | omega | (simp <;> omega)), (by repeat (first | with_reducible exact Below.refl _ _ | with_reducible exact Hid.out (by assumption) | with_reducible refine Below.setCell ?_ (by first | (simp; done) | omega | (simp <;> omega)) _ | with_reducible refine bl_al ?_ _ | with_reducible apply Below.drew)), Has.mk4 (by first | (simp <;> omega) | omega) (by simp [go_sem, *]) (by simp [go_sem, *]) (by simp [go_sem, *]) (by simp [go_sem, *]), (fun j => by first | (simp [go_sem, *]; done) | (simp [frozen?_alloc_cells, World.frozen?_setCell, World.frozen?, *]; done) | (simp only [World.frozen?_setCell, frozen?_alloc_cells]; first | exact frozen_fix (by first | omega | (simp <;> omega)) | (simp [*]; done)) | (simp only [World.frozen?_setCell, frozen?_alloc_cells, World.frozen?_drew]; exact frozen_fix (by first | omega | (simp <;> omega)))), Has.mk2 (by first | (simp <;> omega) | omega) (by simp [go_sem, *]) (by simp [go_sem, *])⟩)
  case rest =>
  obtain ⟨X1, hX1⟩ : ∃ X, X = wc := ⟨wc, rfl⟩
  subst hX1
  obtain ⟨bX1x, bX1y, rfl, rfl, m_bX1x, m_bX1y, n_bX1y_bX1x, hX, g_x, c_x, g_y⟩ := hcut
  have lw_bX1x : w.heap.size + 1 + 1 + 1 ≤ bX1x := by omega
  have lw_bX1y : w.heap.size + 1 + 1 + 1 ≤ bX1y := by omega
  have lv_bX1y_bX1x : bX1y ≠ bX1x := by omega
  have zX1_a : w.heap.size < X1.heap.size := Nat.lt_of_lt_of_le zR1_a hX.size
  have cX1_a_0 : X1.cell? ⟨w.heap.size, 0, none⟩ = some (.int .i64 h) := by rw [(bcell hX).1 _ _ zR1_a]; exact cR1_a_0
  have cX1_a_1 : X1.cell? ⟨w.heap.size, 1, none⟩ = some (.int .u64 l) := by rw [(bcell hX).1 _ _ zR1_a]; exact cR1_a_1
  have zX1_b : w.heap.size + 1 < X1.heap.size := Nat.lt_of_lt_of_le zR1_b hX.size
  have cX1_b_0 : X1.cell? ⟨w.heap.size + 1, 0, none⟩ = some (.int .i64 m) := by rw [(bcell hX).1 _ _ zR1_b]; exact cR1_b_0
  have cX1_b_1 : X1.cell? ⟨w.heap.size + 1, 1, none⟩ = some (.int .u64 n) := by rw [(bcell hX).1 _ _ zR1_b]; exact cR1_b_1
  have zX1_r : w.heap.size + 1 + 1 < X1.heap.size := Nat.lt_of_lt_of_le zR1_r hX.size
  have cX1_r_0 : X1.cell? ⟨w.heap.size + 1 + 1, 0, none⟩ = some (.int .i64 0) := by rw [(bcell hX).1 _ _ zR1_r]; exact cR1_r_0
  have cX1_r_1 : X1.cell? ⟨w.heap.size + 1 + 1, 1, none⟩ = some (.int .u64 0) := by rw [(bcell hX).1 _ _ zR1_r]; exact cR1_r_1
  have cX1_r_2 : X1.cell? ⟨w.heap.size + 1 + 1, 2, none⟩ = some (.int .i64 0) := by rw [(bcell hX).1 _ _ zR1_r]; exact cR1_r_2
  have fX1_r : ∀ j, X1.frozen? ⟨w.heap.size + 1 + 1, j, none⟩ = false := fun j => by rw [(bcell hX).2 _ _ zR1_r]; exact fR1_r j
  have zX1_x := g_x.1; have cX1_x_0 := g_x.2 0 _ rfl; have cX1_x_1 := g_x.2 1 _ rfl; have cX1_x_2 := g_x.2 2 _ rfl; have cX1_x_3 := g_x.2 3 _ rfl; clear g_x
  have fX1_x : ∀ j, X1.frozen? ⟨bX1x, j, none⟩ = false := c_x; clear c_x
  have zX1_y := g_y.1; have cX1_y_0 := g_y.2 0 _ rfl; have cX1_y_1 := g_y.2 1 _ rfl; clear g_y
  have nebX1x_r : ¬ (bX1x = w.heap.size + 1 + 1) := by omega
  have ndbX1x_r : ¬ (w.heap.size + 1 + 1 = bX1x) := by omega
  have nebX1y_r : ¬ (bX1y = w.heap.size + 1 + 1) := by omega
  have ndbX1y_r : ¬ (w.heap.size + 1 + 1 = bX1y) := by omega
  have HBX1 : Hid (Below w.heap.size w X1) := bl_trans HBR1.out hX
  clear hX
  clear zR1_a yR1_a yyR1_a cR1_a_0 cR1_a_1 zR1_b yR1_b yyR1_b cR1_b_0 cR1_b_1 zR1_r yR1_r yyR1_r cR1_r_0 cR1_r_1 cR1_r_2 fR1_r HBR1 m_bX1x m_bX1y n_bX1y_bX1x
  go_upto_region 4 with fail
  refine name_world (P := fun W => Code.wp _ _ _ _ W) _ (fun R2 hR2 => ?_)
  have zR2_a : w.heap.size < R2.heap.size := by rw [hR2]; first | omega | (simp <;> omega)
  have yR2_a : w.heap.size < R2.heap.size + 1 := by omega
  have yyR2_a : w.heap.size < R2.heap.size + 1 + 1 := by omega
  have cR2_a_0 : R2.cell? ⟨w.heap.size, 0, none⟩ = some (.int .i64 h) := by rw [hR2]; first | assumption | (simp [go_sem, *]; done)
  have cR2_a_1 : R2.cell? ⟨w.heap.size, 1, none⟩ = some (.int .u64 l) := by rw [hR2]; first | assumption | (simp [go_sem, *]; done)
  have zR2_b : w.heap.size + 1 < R2.heap.size := by rw [hR2]; first | omega | (simp <;> omega)
  have yR2_b : w.heap.size + 1 < R2.heap.size + 1 := by omega
  have yyR2_b : w.heap.size + 1 < R2.heap.size + 1 + 1 := by omega
  have cR2_b_0 : R2.cell? ⟨w.heap.size + 1, 0, none⟩ = some (.int .i64 m) := by rw [hR2]; first | assumption | (simp [go_sem, *]; done)
  have cR2_b_1 : R2.cell? ⟨w.heap.size + 1, 1, none⟩ = some (.int .u64 n) := by rw [hR2]; first | assumption | (simp [go_sem, *]; done)
  have zR2_r : w.heap.size + 1 + 1 < R2.heap.size := by rw [hR2]; first | omega | (simp <;> omega)
  have yR2_r : w.heap.size + 1 + 1 < R2.heap.size + 1 := by omega
  have yyR2_r : w.heap.size + 1 + 1 < R2.heap.size + 1 + 1 := by omega
  have cR2_r_0 : R2.cell? ⟨w.heap.size + 1 + 1, 0, none⟩ = some (.int .i64 0) := by rw [hR2]; first | assumption | (simp [go_sem, *]; done)
  have cR2_r_1 : R2.cell? ⟨w.heap.size + 1 + 1, 1, none⟩ = some (.int .u64 0) := by rw [hR2]; first | assumption | (simp [go_sem, *]; done)
  have cR2_r_2 : R2.cell? ⟨w.heap.size + 1 + 1, 2, none⟩ = some (.int .i64 0) := by rw [hR2]; first | assumption | (simp [go_sem, *]; done)
  have fR2_r : ∀ j, R2.frozen? ⟨w.heap.size + 1 + 1, j, none⟩ = false := fun j => by rw [hR2]; first | (simp [go_sem, *]; done) | (simp only [frozen?_alloc_cells]; rw [hfrX1 _ _ (by first | omega | (simp <;> omega))]; simp [frozen?_alloc_cells, World.frozen?]; done) | (simp [frozen?_alloc_cells, World.frozen?, *]; done)
  have zR2_x : bX1x < R2.heap.size := by rw [hR2]; first | omega | (simp <;> omega)
  have yR2_x : bX1x < R2.heap.size + 1 := by omega
  have yyR2_x : bX1x < R2.heap.size + 1 + 1 := by omega
  have cR2_x_0 : R2.cell? ⟨bX1x, 0, none⟩ = some (.int .u64 e3) := by rw [hR2]; first | assumption | (simp [go_sem, *]; done)
  have cR2_x_1 : R2.cell? ⟨bX1x, 1, none⟩ = some (.int .u64 e2) := by rw [hR2]; first | assumption | (simp [go_sem, *]; done)
  have cR2_x_2 : R2.cell? ⟨bX1x, 2, none⟩ = some (.int .u64 e1) := by rw [hR2]; first | assumption | (simp [go_sem, *]; done)
  have cR2_x_3 : R2.cell? ⟨bX1x, 3, none⟩ = some (.int .u64 e0) := by rw [hR2]; first | assumption | (simp [go_sem, *]; done)
  have fR2_x : ∀ j, R2.frozen? ⟨bX1x, j, none⟩ = false := fun j => by rw [hR2]; first | (simp [go_sem, *]; done) | (simp only [frozen?_alloc_cells]; rw [hfrX1 _ _ (by first | omega | (simp <;> omega))]; simp [frozen?_alloc_cells, World.frozen?]; done) | (simp [frozen?_alloc_cells, World.frozen?, *]; done)
  have lo_x : w.heap.size ≤ bX1x := by omega
  have zR2_y : bX1y < R2.heap.size := by rw [hR2]; first | omega | (simp <;> omega)
  have yR2_y : bX1y < R2.heap.size + 1 := by omega
  have yyR2_y : bX1y < R2.heap.size + 1 + 1 := by omega
  have cR2_y_0 : R2.cell? ⟨bX1y, 0, none⟩ = some (.int .u64 g1) := by rw [hR2]; first | assumption | (simp [go_sem, *]; done)
  have cR2_y_1 : R2.cell? ⟨bX1y, 1, none⟩ = some (.int .u64 g0) := by rw [hR2]; first | assumption | (simp [go_sem, *]; done)
  have na_r_x : ¬ (w.heap.size + 1 + 1 = bX1x) := by omega
  have nb_r_x : ¬ (bX1x = w.heap.size + 1 + 1) := by omega
  have na_r_y : ¬ (w.heap.size + 1 + 1 = bX1y) := by omega
  have nb_r_y : ¬ (bX1y = w.heap.size + 1 + 1) := by omega
  have na_x_a : ¬ (bX1x = w.heap.size) := by omega
  have nb_x_a : ¬ (w.heap.size = bX1x) := by omega
  have na_x_b : ¬ (bX1x = w.heap.size + 1) := by omega
  have nb_x_b : ¬ (w.heap.size + 1 = bX1x) := by omega
  have na_x_r : ¬ (bX1x = w.heap.size + 1 + 1) := by omega
  have nb_x_r : ¬ (w.heap.size + 1 + 1 = bX1x) := by omega
  have na_x_y : ¬ (bX1x = bX1y) := by omega
  have nb_x_y : ¬ (bX1y = bX1x) := by omega
  have HBR2 : Hid (Below w.heap.size w R2) := by rw [hR2]; show Below _ _ _; exact (by repeat (first | with_reducible exact Below.refl _ _ | with_reducible exact Hid.out (by assumption) | with_reducible refine Below.setCell ?_ (by first | (simp; done) | omega | (simp <;> omega)) _ | with_reducible refine bl_al ?_ _ | with_reducible apply Below.drew))
  clear hR2
  clear HBX1 zX1_a cX1_a_0 cX1_a_1 zX1_b cX1_b_0 cX1_b_1 zX1_r cX1_r_0 cX1_r_1 cX1_r_2 fX1_r zX1_x cX1_x_0 cX1_x_1 cX1_x_2 cX1_x_3 zX1_y cX1_y_0 cX1_y_1 fX1_x
  go_wp2_with fail
  (with_reducible refine (K4.out _).mono ?_); rintro e w4 ⟨rfl, hb⟩; obtain ⟨hclw4, hfrw4⟩ := bcell hb; have zw4_a : w.heap.size < w4.heap.size := (by first | omega | (have hz := hb.size; (try simp at hz); omega)); have yw4_a : w.heap.size < w4.heap.size + 1 := (by omega); have yyw4_a : w.heap.size < w4.heap.size + 1 + 1 := (by omega); have zw4_b : w.heap.size + 1 < w4.heap.size := (by first | omega | (have hz := hb.size; (try simp at hz); omega)); have yw4_b : w.heap.size + 1 < w4.heap.size + 1 := (by omega); have yyw4_b : w.heap.size + 1 < w4.heap.size + 1 + 1 := (by omega); have zw4_r : w.heap.size + 1 + 1 < w4.heap.size := (by first | omega | (have hz := hb.size; (try simp at hz); omega)); have yw4_r : w.heap.size + 1 + 1 < w4.heap.size + 1 := (by omega); have yyw4_r : w.heap.size + 1 + 1 < w4.heap.size + 1 + 1 := (by omega); have zw4_x : bX1x < w4.heap.size := (by first | omega | (have hz := hb.size; (try simp at hz); omega)); have yw4_x : bX1x < w4.heap.size + 1 := (by omega); have yyw4_x : bX1x < w4.heap.size + 1 + 1 := (by omega); have zw4_y : bX1y < w4.heap.size := (by first | omega | (have hz := hb.size; (try simp at hz); omega)); have yw4_y : bX1y < w4.heap.size + 1 := (by omega); have yyw4_y : bX1y < w4.heap.size + 1 + 1 := (by omega); have sxw4_0 : R2.heap.size ≤ w4.heap.size := (by first | omega | (have hz := hb.size; (try simp at hz); omega)); have HBw4 : Hid (Below w.heap.size w w4) := (bl_trans (by repeat (first | with_reducible exact Below.refl _ _ | with_reducible exact Hid.out (by assumption) | with_reducible refine Below.setCell ?_ (by first | (simp; done) | omega | (simp <;> omega)) _ | with_reducible refine bl_al ?_ _ | with_reducible apply Below.drew)) hb); clear hb
  have fw4_r : ∀ j, w4.frozen? ⟨w.heap.size + 1 + 1, j, none⟩ = false := fun j => by rw [hfrw4 _ _ (by first | exact zR2_r | (simp; exact zR2_r))]; exact fR2_r j
  have fw4_x : ∀ j, w4.frozen? ⟨bX1x, j, none⟩ = false := fun j => by rw [hfrw4 _ _ (by first | exact zR2_x | (simp; exact zR2_x))]; exact fR2_x j
  go_upto_region 7 with fail
  refine name_world (P := fun W => Code.wp _ _ _ _ W) _ (fun R3 hR3 => ?_)
  have zR3_a : w.heap.size < R3.heap.size := by rw [hR3]; first | omega | (simp <;> omega)
  have yR3_a : w.heap.size < R3.heap.size + 1 := by omega
  have yyR3_a : w.heap.size < R3.heap.size + 1 + 1 := by omega
  have cR3_a_0 : R3.cell? ⟨w.heap.size, 0, none⟩ = some (.int .i64 h) := by rw [hR3]; first | assumption | (simp [go_sem, *]; done)
  have cR3_a_1 : R3.cell? ⟨w.heap.size, 1, none⟩ = some (.int .u64 l) := by rw [hR3]; first | assumption | (simp [go_sem, *]; done)
  have zR3_b : w.heap.size + 1 < R3.heap.size := by rw [hR3]; first | omega | (simp <;> omega)
  have yR3_b : w.heap.size + 1 < R3.heap.size + 1 := by omega
  have yyR3_b : w.heap.size + 1 < R3.heap.size + 1 + 1 := by omega
  have cR3_b_0 : R3.cell? ⟨w.heap.size + 1, 0, none⟩ = some (.int .i64 m) := by rw [hR3]; first | assumption | (simp [go_sem, *]; done)
  have cR3_b_1 : R3.cell? ⟨w.heap.size + 1, 1, none⟩ = some (.int .u64 n) := by rw [hR3]; first | assumption | (simp [go_sem, *]; done)
  have zR3_r : w.heap.size + 1 + 1 < R3.heap.size := by rw [hR3]; first | omega | (simp <;> omega)
  have yR3_r : w.heap.size + 1 + 1 < R3.heap.size + 1 := by omega
  have yyR3_r : w.heap.size + 1 + 1 < R3.heap.size + 1 + 1 := by omega
  have cR3_r_0 : R3.cell? ⟨w.heap.size + 1 + 1, 0, none⟩ = some (.int .i64 0) := by rw [hR3]; first | assumption | (simp [go_sem, *]; done)
  have cR3_r_1 : R3.cell? ⟨w.heap.size + 1 + 1, 1, none⟩ = some (.int .u64 0) := by rw [hR3]; first | assumption | (simp [go_sem, *]; done)
  have cR3_r_2 : R3.cell? ⟨w.heap.size + 1 + 1, 2, none⟩ = some (.int .i64 0) := by rw [hR3]; first | assumption | (simp [go_sem, *]; done)
  have fR3_r : ∀ j, R3.frozen? ⟨w.heap.size + 1 + 1, j, none⟩ = false := fun j => by rw [hR3]; first | (simp [go_sem, *]; done) | (simp only [frozen?_alloc_cells]; rw [hfrw4 _ _ (by first | omega | (simp <;> omega))]; simp [frozen?_alloc_cells, World.frozen?]; done) | (simp [frozen?_alloc_cells, World.frozen?, *]; done)
  have zR3_x : bX1x < R3.heap.size := by rw [hR3]; first | omega | (simp <;> omega)
  have yR3_x : bX1x < R3.heap.size + 1 := by omega
  have yyR3_x : bX1x < R3.heap.size + 1 + 1 := by omega
  have cR3_x_0 : R3.cell? ⟨bX1x, 0, none⟩ = some (.int .u64 e3) := by rw [hR3]; first | assumption | (simp [go_sem, *]; done)
  have cR3_x_1 : R3.cell? ⟨bX1x, 1, none⟩ = some (.int .u64 e2) := by rw [hR3]; first | assumption | (simp [go_sem, *]; done)
  have cR3_x_2 : R3.cell? ⟨bX1x, 2, none⟩ = some (.int .u64 s1) := by rw [hR3]; first | assumption | (simp [go_sem, *]; done)
  have cR3_x_3 : R3.cell? ⟨bX1x, 3, none⟩ = some (.int .u64 s0) := by rw [hR3]; first | assumption | (simp [go_sem, *]; done)
  have fR3_x : ∀ j, R3.frozen? ⟨bX1x, j, none⟩ = false := fun j => by rw [hR3]; first | (simp [go_sem, *]; done) | (simp only [frozen?_alloc_cells]; rw [hfrw4 _ _ (by first | omega | (simp <;> omega))]; simp [frozen?_alloc_cells, World.frozen?]; done) | (simp [frozen?_alloc_cells, World.frozen?, *]; done)
  have zR3_y : bX1y < R3.heap.size := by rw [hR3]; first | omega | (simp <;> omega)
  have yR3_y : bX1y < R3.heap.size + 1 := by omega
  have yyR3_y : bX1y < R3.heap.size + 1 + 1 := by omega
  have cR3_y_0 : R3.cell? ⟨bX1y, 0, none⟩ = some (.int .u64 g1) := by rw [hR3]; first | assumption | (simp [go_sem, *]; done)
  have cR3_y_1 : R3.cell? ⟨bX1y, 1, none⟩ = some (.int .u64 g0) := by rw [hR3]; first | assumption | (simp [go_sem, *]; done)
  have zR3_s : w4.heap.size < R3.heap.size := by rw [hR3]; first | omega | (simp <;> omega)
  have yR3_s : w4.heap.size < R3.heap.size + 1 := by omega
  have yyR3_s : w4.heap.size < R3.heap.size + 1 + 1 := by omega
  have cR3_s_0 : R3.cell? ⟨w4.heap.size, 0, none⟩ = some (.int .u64 s1) := by rw [hR3]; first | assumption | (simp [go_sem, *]; done)
  have cR3_s_1 : R3.cell? ⟨w4.heap.size, 1, none⟩ = some (.int .u64 s0) := by rw [hR3]; first | assumption | (simp [go_sem, *]; done)
  have cR3_s_2 : R3.cell? ⟨w4.heap.size, 2, none⟩ = some (.bool true) := by rw [hR3]; first | assumption | (simp [go_sem, *]; done)
  have na_r_s : ¬ (w.heap.size + 1 + 1 = w4.heap.size) := by omega
  have nb_r_s : ¬ (w4.heap.size = w.heap.size + 1 + 1) := by omega
  have na_x_s : ¬ (bX1x = w4.heap.size) := by omega
  have nb_x_s : ¬ (w4.heap.size = bX1x) := by omega
  have HBR3 : Hid (Below w.heap.size w R3) := by rw [hR3]; show Below _ _ _; exact (by repeat (first | with_reducible exact Below.refl _ _ | with_reducible exact Hid.out (by assumption) | with_reducible refine Below.setCell ?_ (by first | (simp; done) | omega | (simp <;> omega)) _ | with_reducible refine bl_al ?_ _ | with_reducible apply Below.drew))
  clear hR3
  clear zR2_a yR2_a yyR2_a cR2_a_0 cR2_a_1 zR2_b yR2_b yyR2_b cR2_b_0 cR2_b_1 zR2_r yR2_r yyR2_r cR2_r_0 cR2_r_1 cR2_r_2 fR2_r zR2_x yR2_x yyR2_x cR2_x_0 cR2_x_1 cR2_x_2 cR2_x_3 fR2_x zR2_y yR2_y yyR2_y cR2_y_0 cR2_y_1 HBR2 zw4_a yw4_a yyw4_a zw4_b yw4_b yyw4_b zw4_r yw4_r yyw4_r zw4_x yw4_x yyw4_x zw4_y yw4_y yyw4_y sxw4_0 hclw4 hfrw4 HBw4 fw4_r fw4_x
  go_wp2_with fail
  (with_reducible refine (K5.out _).mono ?_); rintro e w5 ⟨rfl, hb⟩; obtain ⟨hclw5, hfrw5⟩ := bcell hb; have zw5_a : w.heap.size < w5.heap.size := (by first | omega | (have hz := hb.size; (try simp at hz); omega)); have yw5_a : w.heap.size < w5.heap.size + 1 := (by omega); have yyw5_a : w.heap.size < w5.heap.size + 1 + 1 := (by omega); have zw5_b : w.heap.size + 1 < w5.heap.size := (by first | omega | (have hz := hb.size; (try simp at hz); omega)); have yw5_b : w.heap.size + 1 < w5.heap.size + 1 := (by omega); have yyw5_b : w.heap.size + 1 < w5.heap.size + 1 + 1 := (by omega); have zw5_r : w.heap.size + 1 + 1 < w5.heap.size := (by first | omega | (have hz := hb.size; (try simp at hz); omega)); have yw5_r : w.heap.size + 1 + 1 < w5.heap.size + 1 := (by omega); have yyw5_r : w.heap.size + 1 + 1 < w5.heap.size + 1 + 1 := (by omega); have zw5_x : bX1x < w5.heap.size := (by first | omega | (have hz := hb.size; (try simp at hz); omega)); have yw5_x : bX1x < w5.heap.size + 1 := (by omega); have yyw5_x : bX1x < w5.heap.size + 1 + 1 := (by omega); have zw5_y : bX1y < w5.heap.size := (by first | omega | (have hz := hb.size; (try simp at hz); omega)); have yw5_y : bX1y < w5.heap.size + 1 := (by omega); have yyw5_y : bX1y < w5.heap.size + 1 + 1 := (by omega); have zw5_s : w4.heap.size < w5.heap.size := (by first | omega | (have hz := hb.size; (try simp at hz); omega)); have yw5_s : w4.heap.size < w5.heap.size + 1 := (by omega); have yyw5_s : w4.heap.size < w5.heap.size + 1 + 1 := (by omega); have sxw5_0 : R3.heap.size ≤ w5.heap.size := (by first | omega | (have hz := hb.size; (try simp at hz); omega)); have HBw5 : Hid (Below w.heap.size w w5) := (bl_trans (by repeat (first | with_reducible exact Below.refl _ _ | with_reducible exact Hid.out (by assumption) | with_reducible refine Below.setCell ?_ (by first | (simp; done) | omega | (simp <;> omega)) _ | with_reducible refine bl_al ?_ _ | with_reducible apply Below.drew)) hb); clear hb
  have fw5_r : ∀ j, w5.frozen? ⟨w.heap.size + 1 + 1, j, none⟩ = false := fun j => by rw [hfrw5 _ _ (by first | exact zR3_r | (simp; exact zR3_r))]; exact fR3_r j
  have fw5_x : ∀ j, w5.frozen? ⟨bX1x, j, none⟩ = false := fun j => by rw [hfrw5 _ _ (by first | exact zR3_x | (simp; exact zR3_x))]; exact fR3_x j
  go_upto_region 8 with fail
  refine name_world (P := fun W => Code.wp _ _ _ _ W) _ (fun R4 hR4 => ?_)
  have zR4_a : w.heap.size < R4.heap.size := by rw [hR4]; first | omega | (simp <;> omega)
  have yR4_a : w.heap.size < R4.heap.size + 1 := by omega
  have yyR4_a : w.heap.size < R4.heap.size + 1 + 1 := by omega
  have cR4_a_0 : R4.cell? ⟨w.heap.size, 0, none⟩ = some (.int .i64 h) := by rw [hR4]; first | assumption | (simp [go_sem, *]; done)
  have cR4_a_1 : R4.cell? ⟨w.heap.size, 1, none⟩ = some (.int .u64 l) := by rw [hR4]; first | assumption | (simp [go_sem, *]; done)
  have zR4_b : w.heap.size + 1 < R4.heap.size := by rw [hR4]; first | omega | (simp <;> omega)
  have yR4_b : w.heap.size + 1 < R4.heap.size + 1 := by omega
  have yyR4_b : w.heap.size + 1 < R4.heap.size + 1 + 1 := by omega
  have cR4_b_0 : R4.cell? ⟨w.heap.size + 1, 0, none⟩ = some (.int .i64 m) := by rw [hR4]; first | assumption | (simp [go_sem, *]; done)
  have cR4_b_1 : R4.cell? ⟨w.heap.size + 1, 1, none⟩ = some (.int .u64 n) := by rw [hR4]; first | assumption | (simp [go_sem, *]; done)
  have zR4_r : w.heap.size + 1 + 1 < R4.heap.size := by rw [hR4]; first | omega | (simp <;> omega)
  have yR4_r : w.heap.size + 1 + 1 < R4.heap.size + 1 := by omega
  have yyR4_r : w.heap.size + 1 + 1 < R4.heap.size + 1 + 1 := by omega
  have cR4_r_0 : R4.cell? ⟨w.heap.size + 1 + 1, 0, none⟩ = some (.int .i64 0) := by rw [hR4]; first | assumption | (simp [go_sem, *]; done)
  have cR4_r_1 : R4.cell? ⟨w.heap.size + 1 + 1, 1, none⟩ = some (.int .u64 0) := by rw [hR4]; first | assumption | (simp [go_sem, *]; done)
  have cR4_r_2 : R4.cell? ⟨w.heap.size + 1 + 1, 2, none⟩ = some (.int .i64 0) := by rw [hR4]; first | assumption | (simp [go_sem, *]; done)
  have fR4_r : ∀ j, R4.frozen? ⟨w.heap.size + 1 + 1, j, none⟩ = false := fun j => by rw [hR4]; first | (simp [go_sem, *]; done) | (simp only [frozen?_alloc_cells]; rw [hfrw5 _ _ (by first | omega | (simp <;> omega))]; simp [frozen?_alloc_cells, World.frozen?]; done) | (simp [frozen?_alloc_cells, World.frozen?, *]; done)
  have zR4_x : bX1x < R4.heap.size := by rw [hR4]; first | omega | (simp <;> omega)
  have yR4_x : bX1x < R4.heap.size + 1 := by omega
  have yyR4_x : bX1x < R4.heap.size + 1 + 1 := by omega
  have cR4_x_0 : R4.cell? ⟨bX1x, 0, none⟩ = some (.int .u64 q3) := by rw [hR4]; first | assumption | (simp [go_sem, *]; done)
  have cR4_x_1 : R4.cell? ⟨bX1x, 1, none⟩ = some (.int .u64 q2) := by rw [hR4]; first | assumption | (simp [go_sem, *]; done)
  have cR4_x_2 : R4.cell? ⟨bX1x, 2, none⟩ = some (.int .u64 s1) := by rw [hR4]; first | assumption | (simp [go_sem, *]; done)
  have cR4_x_3 : R4.cell? ⟨bX1x, 3, none⟩ = some (.int .u64 s0) := by rw [hR4]; first | assumption | (simp [go_sem, *]; done)
  have fR4_x : ∀ j, R4.frozen? ⟨bX1x, j, none⟩ = false := fun j => by rw [hR4]; first | (simp [go_sem, *]; done) | (simp only [frozen?_alloc_cells]; rw [hfrw5 _ _ (by first | omega | (simp <;> omega))]; simp [frozen?_alloc_cells, World.frozen?]; done) | (simp [frozen?_alloc_cells, World.frozen?, *]; done)
  have zR4_y : bX1y < R4.heap.size := by rw [hR4]; first | omega | (simp <;> omega)
  have yR4_y : bX1y < R4.heap.size + 1 := by omega
  have yyR4_y : bX1y < R4.heap.size + 1 + 1 := by omega
  have cR4_y_0 : R4.cell? ⟨bX1y, 0, none⟩ = some (.int .u64 g1) := by rw [hR4]; first | assumption | (simp [go_sem, *]; done)
  have cR4_y_1 : R4.cell? ⟨bX1y, 1, none⟩ = some (.int .u64 g0) := by rw [hR4]; first | assumption | (simp [go_sem, *]; done)
  have zR4_s : w4.heap.size < R4.heap.size := by rw [hR4]; first | omega | (simp <;> omega)
  have yR4_s : w4.heap.size < R4.heap.size + 1 := by omega
  have yyR4_s : w4.heap.size < R4.heap.size + 1 + 1 := by omega
  have cR4_s_0 : R4.cell? ⟨w4.heap.size, 0, none⟩ = some (.int .u64 s1) := by rw [hR4]; first | assumption | (simp [go_sem, *]; done)
  have cR4_s_1 : R4.cell? ⟨w4.heap.size, 1, none⟩ = some (.int .u64 s0) := by rw [hR4]; first | assumption | (simp [go_sem, *]; done)
  have cR4_s_2 : R4.cell? ⟨w4.heap.size, 2, none⟩ = some (.bool true) := by rw [hR4]; first | assumption | (simp [go_sem, *]; done)
  have HBR4 : Hid (Below w.heap.size w R4) := by rw [hR4]; show Below _ _ _; exact (by repeat (first | with_reducible exact Below.refl _ _ | with_reducible exact Hid.out (by assumption) | with_reducible refine Below.setCell ?_ (by first | (simp; done) | omega | (simp <;> omega)) _ | with_reducible refine bl_al ?_ _ | with_reducible apply Below.drew))
  clear hR4
  clear zR3_a yR3_a yyR3_a cR3_a_0 cR3_a_1 zR3_b yR3_b yyR3_b cR3_b_0 cR3_b_1 zR3_r yR3_r yyR3_r cR3_r_0 cR3_r_1 cR3_r_2 fR3_r zR3_x yR3_x yyR3_x cR3_x_0 cR3_x_1 cR3_x_2 cR3_x_3 fR3_x zR3_y yR3_y yyR3_y cR3_y_0 cR3_y_1 zR3_s yR3_s yyR3_s cR3_s_0 cR3_s_1 cR3_s_2 HBR3 zw5_a yw5_a yyw5_a zw5_b yw5_b yyw5_b zw5_r yw5_r yyw5_r zw5_x yw5_x yyw5_x zw5_y yw5_y yyw5_y zw5_s yw5_s yyw5_s sxw5_0 hclw5 hfrw5 HBw5 fw5_r fw5_x
  go_cut [8] (fun slot0 X2 => ∃ bX2dd : Nat, slot0 = .pointer (some ⟨bX2dd, 0, none⟩) ∧ R4.heap.size ≤ bX2dd ∧ Below R4.heap.size R4 X2 ∧ Has (bX2dd) [.int .u64 t3, .int .u64 t2, .int .u64 t1, .int .u64 t0, .int .u64 u1, .int .u64 u0, .bool ok] X2)
  case first =>
    clear HBR4
    have ltt : ∀ n : Nat, n < n + 1 + 1 := fun n => by omega
    have lttt : ∀ n : Nat, n + 1 < n + 1 + 1 := fun n => by omega
    go_region_held3 (fun w' => w'.cell? ⟨bX1x, 0, none⟩ = some (.int .u64 q3) ∧ w'.cell? ⟨bX1x, 1, none⟩ = some (.int .u64 q2) ∧ w'.cell? ⟨bX1x, 2, none⟩ = some (.int .u64 s1) ∧ w'.cell? ⟨bX1x, 3, none⟩ = some (.int .u64 s0) ∧ w'.cell? ⟨bX1y, 0, none⟩ = some (.int .u64 g1) ∧ w'.cell? ⟨bX1y, 1, none⟩ = some (.int .u64 g0)) (first | (simp [*, go_sem]; done) | (simp [*, go_sem, World.cell?_alloc_past]; done))
      (first
        | (go_at_call 58; (with_reducible refine (K6.out _).mono ?_); rintro e w6 ⟨rfl, hb⟩; (first | (with_reducible (obtain ⟨hclw6, hfrw6⟩ := bcell_drew hb)) | (obtain ⟨hclw6, hfrw6⟩ := bcell hb)); have zw6_x : bX1x < w6.heap.size := (by first | omega | (have hz := hb.size; (try simp at hz); omega)); have yw6_x : bX1x < w6.heap.size + 1 := (by omega); have yyw6_x : bX1x < w6.heap.size + 1 + 1 := (by omega); have zw6_y : bX1y < w6.heap.size := (by first | omega | (have hz := hb.size; (try simp at hz); omega)); have yw6_y : bX1y < w6.heap.size + 1 := (by omega); have yyw6_y : bX1y < w6.heap.size + 1 + 1 := (by omega); (try have sw6_0 : R4.heap.size < w6.heap.size := (by first | omega | (have hz := hb.size; (try simp at hz); omega))); (try have syw6_0 : R4.heap.size < w6.heap.size + 1 := (by omega)); (try have stw6_0 : R4.heap.size + 1 < w6.heap.size := (by first | omega | (have hz := hb.size; (try simp at hz); omega))); have sxw6_0 : R4.heap.size ≤ w6.heap.size := (by first | omega | (have hz := hb.size; (try simp at hz); omega)); have HBw6 : Hid (Below R4.heap.size R4 w6) := (bl_trans (by repeat (first | with_reducible exact Below.refl _ _ | with_reducible exact Hid.out (by assumption) | with_reducible refine Below.setCell ?_ (by first | (simp; done) | omega | (simp <;> omega)) _ | with_reducible refine bl_al ?_ _ | with_reducible apply Below.drew)) hb); clear hb; clear K6)
        | (go_at_call 15; (with_reducible refine (K7.out _).mono ?_); rintro e w7 ⟨rfl, hb⟩; obtain ⟨hclw7, hfrw7⟩ := bcell hb; have zw7_x : bX1x < w7.heap.size := (by first | omega | (have hz := hb.size; (try simp at hz); omega)); have yw7_x : bX1x < w7.heap.size + 1 := (by omega); have yyw7_x : bX1x < w7.heap.size + 1 + 1 := (by omega); have zw7_y : bX1y < w7.heap.size := (by first | omega | (have hz := hb.size; (try simp at hz); omega)); have yw7_y : bX1y < w7.heap.size + 1 := (by omega); have yyw7_y : bX1y < w7.heap.size + 1 + 1 := (by omega); (try have sw7_0 : R4.heap.size < w7.heap.size := (by first | omega | (have hz := hb.size; (try simp at hz); omega))); (try have syw7_0 : R4.heap.size < w7.heap.size + 1 := (by omega)); (try have stw7_0 : R4.heap.size + 1 < w7.heap.size := (by first | omega | (have hz := hb.size; (try simp at hz); omega))); have sxw7_0 : R4.heap.size ≤ w7.heap.size := (by first | omega | (have hz := hb.size; (try simp at hz); omega)); (try have sw7_w6 : w6.heap.size < w7.heap.size := (by first | omega | (have hz := hb.size; (try simp at hz); omega))); (try have syw7_w6 : w6.heap.size < w7.heap.size + 1 := (by omega)); (try have stw7_w6 : w6.heap.size + 1 < w7.heap.size := (by first | omega | (have hz := hb.size; (try simp at hz); omega))); have sxw7_w6 : w6.heap.size ≤ w7.heap.size := (by first | omega | (have hz := hb.size; (try simp at hz); omega)); have HBw7 : Hid (Below R4.heap.size R4 w7) := (bl_trans (by repeat (first | with_reducible exact Below.refl _ _ | with_reducible exact Hid.out (by assumption) | with_reducible refine Below.setCell ?_ (by first | (simp; done) | omega | (simp <;> omega)) _ | with_reducible refine bl_al ?_ _ | with_reducible apply Below.drew)) hb); clear hb; clear K7))
    all_goals (rename_i hHeld; clear hHeld; go_wp2_with fail; go_meet; exact ⟨_, rfl, (by first | omega | (simp <;> omega)), (by repeat (first | with_reducible exact Below.refl _ _ | with_reducible exact Hid.out (by assumption) | with_reducible refine Below.setCell ?_ (by first | (simp; done) | omega | (simp <;> omega)) _ | with_reducible refine bl_al ?_ _ | with_reducible apply Below.drew)), Has.mk7 (by first | (simp <;> omega) | omega) (by simp [go_sem, *]) (by simp [go_sem, *]) (by simp [go_sem, *]) (by simp [go_sem, *]) (by simp [go_sem, *]) (by simp [go_sem, *]) (by simp [go_sem, *])⟩)
  case rest =>
  obtain ⟨X2, hX2⟩ : ∃ X, X = wc := ⟨wc, rfl⟩
  subst hX2
  obtain ⟨bX2dd, rfl, m_bX2dd, hX, g_dd⟩ := hcut
  have zX2_a : w.heap.size < X2.heap.size := Nat.lt_of_lt_of_le zR4_a hX.size
  have cX2_a_0 : X2.cell? ⟨w.heap.size, 0, none⟩ = some (.int .i64 h) := by rw [(bcell hX).1 _ _ zR4_a]; exact cR4_a_0
  have cX2_a_1 : X2.cell? ⟨w.heap.size, 1, none⟩ = some (.int .u64 l) := by rw [(bcell hX).1 _ _ zR4_a]; exact cR4_a_1
  have zX2_b : w.heap.size + 1 < X2.heap.size := Nat.lt_of_lt_of_le zR4_b hX.size
  have cX2_b_0 : X2.cell? ⟨w.heap.size + 1, 0, none⟩ = some (.int .i64 m) := by rw [(bcell hX).1 _ _ zR4_b]; exact cR4_b_0
  have cX2_b_1 : X2.cell? ⟨w.heap.size + 1, 1, none⟩ = some (.int .u64 n) := by rw [(bcell hX).1 _ _ zR4_b]; exact cR4_b_1
  have zX2_r : w.heap.size + 1 + 1 < X2.heap.size := Nat.lt_of_lt_of_le zR4_r hX.size
  have cX2_r_0 : X2.cell? ⟨w.heap.size + 1 + 1, 0, none⟩ = some (.int .i64 0) := by rw [(bcell hX).1 _ _ zR4_r]; exact cR4_r_0
  have cX2_r_1 : X2.cell? ⟨w.heap.size + 1 + 1, 1, none⟩ = some (.int .u64 0) := by rw [(bcell hX).1 _ _ zR4_r]; exact cR4_r_1
  have cX2_r_2 : X2.cell? ⟨w.heap.size + 1 + 1, 2, none⟩ = some (.int .i64 0) := by rw [(bcell hX).1 _ _ zR4_r]; exact cR4_r_2
  have fX2_r : ∀ j, X2.frozen? ⟨w.heap.size + 1 + 1, j, none⟩ = false := fun j => by rw [(bcell hX).2 _ _ zR4_r]; exact fR4_r j
  have zX2_x : bX1x < X2.heap.size := Nat.lt_of_lt_of_le zR4_x hX.size
  have cX2_x_0 : X2.cell? ⟨bX1x, 0, none⟩ = some (.int .u64 q3) := by rw [(bcell hX).1 _ _ zR4_x]; exact cR4_x_0
  have cX2_x_1 : X2.cell? ⟨bX1x, 1, none⟩ = some (.int .u64 q2) := by rw [(bcell hX).1 _ _ zR4_x]; exact cR4_x_1
  have cX2_x_2 : X2.cell? ⟨bX1x, 2, none⟩ = some (.int .u64 s1) := by rw [(bcell hX).1 _ _ zR4_x]; exact cR4_x_2
  have cX2_x_3 : X2.cell? ⟨bX1x, 3, none⟩ = some (.int .u64 s0) := by rw [(bcell hX).1 _ _ zR4_x]; exact cR4_x_3
  have fX2_x : ∀ j, X2.frozen? ⟨bX1x, j, none⟩ = false := fun j => by rw [(bcell hX).2 _ _ zR4_x]; exact fR4_x j
  have zX2_y : bX1y < X2.heap.size := Nat.lt_of_lt_of_le zR4_y hX.size
  have cX2_y_0 : X2.cell? ⟨bX1y, 0, none⟩ = some (.int .u64 g1) := by rw [(bcell hX).1 _ _ zR4_y]; exact cR4_y_0
  have cX2_y_1 : X2.cell? ⟨bX1y, 1, none⟩ = some (.int .u64 g0) := by rw [(bcell hX).1 _ _ zR4_y]; exact cR4_y_1
  have zX2_s : w4.heap.size < X2.heap.size := Nat.lt_of_lt_of_le zR4_s hX.size
  have cX2_s_0 : X2.cell? ⟨w4.heap.size, 0, none⟩ = some (.int .u64 s1) := by rw [(bcell hX).1 _ _ zR4_s]; exact cR4_s_0
  have cX2_s_1 : X2.cell? ⟨w4.heap.size, 1, none⟩ = some (.int .u64 s0) := by rw [(bcell hX).1 _ _ zR4_s]; exact cR4_s_1
  have cX2_s_2 : X2.cell? ⟨w4.heap.size, 2, none⟩ = some (.bool true) := by rw [(bcell hX).1 _ _ zR4_s]; exact cR4_s_2
  have zX2_dd := g_dd.1; have cX2_dd_0 := g_dd.2 0 _ rfl; have cX2_dd_1 := g_dd.2 1 _ rfl; have cX2_dd_2 := g_dd.2 2 _ rfl; have cX2_dd_3 := g_dd.2 3 _ rfl; have cX2_dd_4 := g_dd.2 4 _ rfl; have cX2_dd_5 := g_dd.2 5 _ rfl; have cX2_dd_6 := g_dd.2 6 _ rfl; clear g_dd
  have nebX2dd_r : ¬ (bX2dd = w.heap.size + 1 + 1) := by omega
  have ndbX2dd_r : ¬ (w.heap.size + 1 + 1 = bX2dd) := by omega
  have nebX2dd_x : ¬ (bX2dd = bX1x) := by omega
  have ndbX2dd_x : ¬ (bX1x = bX2dd) := by omega
  have HBX2 : Hid (Below w.heap.size w X2) := bl_trans HBR4.out hX
  clear hX
  clear zR4_a yR4_a yyR4_a cR4_a_0 cR4_a_1 zR4_b yR4_b yyR4_b cR4_b_0 cR4_b_1 zR4_r yR4_r yyR4_r cR4_r_0 cR4_r_1 cR4_r_2 fR4_r zR4_x yR4_x yyR4_x cR4_x_0 cR4_x_1 cR4_x_2 cR4_x_3 fR4_x zR4_y yR4_y yyR4_y cR4_y_0 cR4_y_1 zR4_s yR4_s yyR4_s cR4_s_0 cR4_s_1 cR4_s_2 HBR4 m_bX2dd
  go_upto_region 9 with fail
  refine name_world (P := fun W => Code.wp _ _ _ _ W) _ (fun R5 hR5 => ?_)
  have zR5_a : w.heap.size < R5.heap.size := by rw [hR5]; first | omega | (simp <;> omega)
  have yR5_a : w.heap.size < R5.heap.size + 1 := by omega
  have yyR5_a : w.heap.size < R5.heap.size + 1 + 1 := by omega
  have cR5_a_0 : R5.cell? ⟨w.heap.size, 0, none⟩ = some (.int .i64 h) := by rw [hR5]; first | assumption | (simp [go_sem, *]; done)
  have cR5_a_1 : R5.cell? ⟨w.heap.size, 1, none⟩ = some (.int .u64 l) := by rw [hR5]; first | assumption | (simp [go_sem, *]; done)
  have zR5_b : w.heap.size + 1 < R5.heap.size := by rw [hR5]; first | omega | (simp <;> omega)
  have yR5_b : w.heap.size + 1 < R5.heap.size + 1 := by omega
  have yyR5_b : w.heap.size + 1 < R5.heap.size + 1 + 1 := by omega
  have cR5_b_0 : R5.cell? ⟨w.heap.size + 1, 0, none⟩ = some (.int .i64 m) := by rw [hR5]; first | assumption | (simp [go_sem, *]; done)
  have cR5_b_1 : R5.cell? ⟨w.heap.size + 1, 1, none⟩ = some (.int .u64 n) := by rw [hR5]; first | assumption | (simp [go_sem, *]; done)
  have zR5_r : w.heap.size + 1 + 1 < R5.heap.size := by rw [hR5]; first | omega | (simp <;> omega)
  have yR5_r : w.heap.size + 1 + 1 < R5.heap.size + 1 := by omega
  have yyR5_r : w.heap.size + 1 + 1 < R5.heap.size + 1 + 1 := by omega
  have cR5_r_0 : R5.cell? ⟨w.heap.size + 1 + 1, 0, none⟩ = some (.int .i64 0) := by rw [hR5]; first | assumption | (simp [go_sem, *]; done)
  have cR5_r_1 : R5.cell? ⟨w.heap.size + 1 + 1, 1, none⟩ = some (.int .u64 0) := by rw [hR5]; first | assumption | (simp [go_sem, *]; done)
  have cR5_r_2 : R5.cell? ⟨w.heap.size + 1 + 1, 2, none⟩ = some (.int .i64 0) := by rw [hR5]; first | assumption | (simp [go_sem, *]; done)
  have fR5_r : ∀ j, R5.frozen? ⟨w.heap.size + 1 + 1, j, none⟩ = false := fun j => by rw [hR5]; first | (simp [go_sem, *]; done) | (simp only [frozen?_alloc_cells]; rw [hfrX2 _ _ (by first | omega | (simp <;> omega))]; simp [frozen?_alloc_cells, World.frozen?]; done) | (simp [frozen?_alloc_cells, World.frozen?, *]; done)
  have zR5_x : bX1x < R5.heap.size := by rw [hR5]; first | omega | (simp <;> omega)
  have yR5_x : bX1x < R5.heap.size + 1 := by omega
  have yyR5_x : bX1x < R5.heap.size + 1 + 1 := by omega
  have cR5_x_0 : R5.cell? ⟨bX1x, 0, none⟩ = some (.int .u64 q3) := by rw [hR5]; first | assumption | (simp [go_sem, *]; done)
  have cR5_x_1 : R5.cell? ⟨bX1x, 1, none⟩ = some (.int .u64 q2) := by rw [hR5]; first | assumption | (simp [go_sem, *]; done)
  have cR5_x_2 : R5.cell? ⟨bX1x, 2, none⟩ = some (.int .u64 s1) := by rw [hR5]; first | assumption | (simp [go_sem, *]; done)
  have cR5_x_3 : R5.cell? ⟨bX1x, 3, none⟩ = some (.int .u64 s0) := by rw [hR5]; first | assumption | (simp [go_sem, *]; done)
  have fR5_x : ∀ j, R5.frozen? ⟨bX1x, j, none⟩ = false := fun j => by rw [hR5]; first | (simp [go_sem, *]; done) | (simp only [frozen?_alloc_cells]; rw [hfrX2 _ _ (by first | omega | (simp <;> omega))]; simp [frozen?_alloc_cells, World.frozen?]; done) | (simp [frozen?_alloc_cells, World.frozen?, *]; done)
  have zR5_y : bX1y < R5.heap.size := by rw [hR5]; first | omega | (simp <;> omega)
  have yR5_y : bX1y < R5.heap.size + 1 := by omega
  have yyR5_y : bX1y < R5.heap.size + 1 + 1 := by omega
  have cR5_y_0 : R5.cell? ⟨bX1y, 0, none⟩ = some (.int .u64 g1) := by rw [hR5]; first | assumption | (simp [go_sem, *]; done)
  have cR5_y_1 : R5.cell? ⟨bX1y, 1, none⟩ = some (.int .u64 g0) := by rw [hR5]; first | assumption | (simp [go_sem, *]; done)
  have zR5_s : w4.heap.size < R5.heap.size := by rw [hR5]; first | omega | (simp <;> omega)
  have yR5_s : w4.heap.size < R5.heap.size + 1 := by omega
  have yyR5_s : w4.heap.size < R5.heap.size + 1 + 1 := by omega
  have cR5_s_0 : R5.cell? ⟨w4.heap.size, 0, none⟩ = some (.int .u64 s1) := by rw [hR5]; first | assumption | (simp [go_sem, *]; done)
  have cR5_s_1 : R5.cell? ⟨w4.heap.size, 1, none⟩ = some (.int .u64 s0) := by rw [hR5]; first | assumption | (simp [go_sem, *]; done)
  have cR5_s_2 : R5.cell? ⟨w4.heap.size, 2, none⟩ = some (.bool true) := by rw [hR5]; first | assumption | (simp [go_sem, *]; done)
  have zR5_dd : bX2dd < R5.heap.size := by rw [hR5]; first | omega | (simp <;> omega)
  have yR5_dd : bX2dd < R5.heap.size + 1 := by omega
  have yyR5_dd : bX2dd < R5.heap.size + 1 + 1 := by omega
  have cR5_dd_0 : R5.cell? ⟨bX2dd, 0, none⟩ = some (.int .u64 t3) := by rw [hR5]; first | assumption | (simp [go_sem, *]; done)
  have cR5_dd_1 : R5.cell? ⟨bX2dd, 1, none⟩ = some (.int .u64 t2) := by rw [hR5]; first | assumption | (simp [go_sem, *]; done)
  have cR5_dd_2 : R5.cell? ⟨bX2dd, 2, none⟩ = some (.int .u64 t1) := by rw [hR5]; first | assumption | (simp [go_sem, *]; done)
  have cR5_dd_3 : R5.cell? ⟨bX2dd, 3, none⟩ = some (.int .u64 t0) := by rw [hR5]; first | assumption | (simp [go_sem, *]; done)
  have cR5_dd_4 : R5.cell? ⟨bX2dd, 4, none⟩ = some (.int .u64 u1) := by rw [hR5]; first | assumption | (simp [go_sem, *]; done)
  have cR5_dd_5 : R5.cell? ⟨bX2dd, 5, none⟩ = some (.int .u64 u0) := by rw [hR5]; first | assumption | (simp [go_sem, *]; done)
  have cR5_dd_6 : R5.cell? ⟨bX2dd, 6, none⟩ = some (.bool ok) := by rw [hR5]; first | assumption | (simp [go_sem, *]; done)
  have na_r_dd : ¬ (w.heap.size + 1 + 1 = bX2dd) := by omega
  have nb_r_dd : ¬ (bX2dd = w.heap.size + 1 + 1) := by omega
  have na_x_dd : ¬ (bX1x = bX2dd) := by omega
  have nb_x_dd : ¬ (bX2dd = bX1x) := by omega
  have HBR5 : Hid (Below w.heap.size w R5) := by rw [hR5]; show Below _ _ _; exact (by repeat (first | with_reducible exact Below.refl _ _ | with_reducible exact Hid.out (by assumption) | with_reducible refine Below.setCell ?_ (by first | (simp; done) | omega | (simp <;> omega)) _ | with_reducible refine bl_al ?_ _ | with_reducible apply Below.drew))
  clear hR5
  clear HBX2 zX2_a cX2_a_0 cX2_a_1 zX2_b cX2_b_0 cX2_b_1 zX2_r cX2_r_0 cX2_r_1 cX2_r_2 fX2_r zX2_x cX2_x_0 cX2_x_1 cX2_x_2 cX2_x_3 fX2_x zX2_y cX2_y_0 cX2_y_1 zX2_s cX2_s_0 cX2_s_1 cX2_s_2 zX2_dd cX2_dd_0 cX2_dd_1 cX2_dd_2 cX2_dd_3 cX2_dd_4 cX2_dd_5 cX2_dd_6
  go_wp2_with fail
  (with_reducible refine (K8.out _).mono ?_); rintro e w8 ⟨rfl, hb⟩; obtain ⟨hclw8, hfrw8⟩ := bcell hb; have zw8_a : w.heap.size < w8.heap.size := (by first | omega | (have hz := hb.size; (try simp at hz); omega)); have yw8_a : w.heap.size < w8.heap.size + 1 := (by omega); have yyw8_a : w.heap.size < w8.heap.size + 1 + 1 := (by omega); have zw8_b : w.heap.size + 1 < w8.heap.size := (by first | omega | (have hz := hb.size; (try simp at hz); omega)); have yw8_b : w.heap.size + 1 < w8.heap.size + 1 := (by omega); have yyw8_b : w.heap.size + 1 < w8.heap.size + 1 + 1 := (by omega); have zw8_r : w.heap.size + 1 + 1 < w8.heap.size := (by first | omega | (have hz := hb.size; (try simp at hz); omega)); have yw8_r : w.heap.size + 1 + 1 < w8.heap.size + 1 := (by omega); have yyw8_r : w.heap.size + 1 + 1 < w8.heap.size + 1 + 1 := (by omega); have zw8_x : bX1x < w8.heap.size := (by first | omega | (have hz := hb.size; (try simp at hz); omega)); have yw8_x : bX1x < w8.heap.size + 1 := (by omega); have yyw8_x : bX1x < w8.heap.size + 1 + 1 := (by omega); have zw8_y : bX1y < w8.heap.size := (by first | omega | (have hz := hb.size; (try simp at hz); omega)); have yw8_y : bX1y < w8.heap.size + 1 := (by omega); have yyw8_y : bX1y < w8.heap.size + 1 + 1 := (by omega); have zw8_s : w4.heap.size < w8.heap.size := (by first | omega | (have hz := hb.size; (try simp at hz); omega)); have yw8_s : w4.heap.size < w8.heap.size + 1 := (by omega); have yyw8_s : w4.heap.size < w8.heap.size + 1 + 1 := (by omega); have zw8_dd : bX2dd < w8.heap.size := (by first | omega | (have hz := hb.size; (try simp at hz); omega)); have yw8_dd : bX2dd < w8.heap.size + 1 := (by omega); have yyw8_dd : bX2dd < w8.heap.size + 1 + 1 := (by omega); have sxw8_0 : R5.heap.size ≤ w8.heap.size := (by first | omega | (have hz := hb.size; (try simp at hz); omega)); have HBw8 : Hid (Below w.heap.size w w8) := (bl_trans (by repeat (first | with_reducible exact Below.refl _ _ | with_reducible exact Hid.out (by assumption) | with_reducible refine Below.setCell ?_ (by first | (simp; done) | omega | (simp <;> omega)) _ | with_reducible refine bl_al ?_ _ | with_reducible apply Below.drew)) hb); clear hb
  have fw8_r : ∀ j, w8.frozen? ⟨w.heap.size + 1 + 1, j, none⟩ = false := fun j => by rw [hfrw8 _ _ (by first | exact zR5_r | (simp; exact zR5_r))]; exact fR5_r j
  have fw8_x : ∀ j, w8.frozen? ⟨bX1x, j, none⟩ = false := fun j => by rw [hfrw8 _ _ (by first | exact zR5_x | (simp; exact zR5_x))]; exact fR5_x j
  go_wp2_with fail
  refine bodyPost_ret (by simp [results, Try.results43, go_sem, *]; try rfl) rfl ?_
  exact ⟨rfl, by repeat (first | with_reducible exact Below.refl _ _ | with_reducible exact Hid.out (by assumption) | with_reducible refine Below.setCell ?_ (by first | (simp; done) | omega | (simp <;> omega)) _ | with_reducible refine bl_al ?_ _ | with_reducible apply Below.drew)⟩
end Go.Proofs.Ytgcblfaommhpbaa
