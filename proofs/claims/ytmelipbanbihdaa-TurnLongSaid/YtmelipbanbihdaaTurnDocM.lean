/- The document's way by one direction. -/
import Derived.Test.YtmelipbanbihdaaTurnBaseM
namespace Go.Proofs.Ytmelipbanbihdaa
open Go.RowKit
set_option maxRecDepth 20000 in
set_option maxHeartbeats 60000000 in
theorem rturned_ok (axh axl ayh ayl bxh bxl byh byl m1h m1l m2h m2l m3h m3l m4h m4l ph pl qh ql rxh rxl ryh ryl ep eq er : Int)  (w : World)
    (C1 : ∀ W, Calls Try.prog 25 #[.agg #[.int .i64 axh, .int .u64 axl], .agg #[.int .i64 bxh, .int .u64 bxl]] W fun e w' => e = .returned (.agg #[.int .i64 m1h, .int .u64 m1l, .int .i64 0]) ∧ Below W.heap.size W w')
    (C2 : ∀ W, Calls Try.prog 25 #[.agg #[.int .i64 ayh, .int .u64 ayl], .agg #[.int .i64 byh, .int .u64 byl]] W fun e w' => e = .returned (.agg #[.int .i64 m2h, .int .u64 m2l, .int .i64 0]) ∧ Below W.heap.size W w')
    (C3 : ∀ W, Calls Try.prog 25 #[.agg #[.int .i64 axh, .int .u64 axl], .agg #[.int .i64 byh, .int .u64 byl]] W fun e w' => e = .returned (.agg #[.int .i64 m3h, .int .u64 m3l, .int .i64 0]) ∧ Below W.heap.size W w')
    (C4 : ∀ W, Calls Try.prog 25 #[.agg #[.int .i64 ayh, .int .u64 ayl], .agg #[.int .i64 bxh, .int .u64 bxl]] W fun e w' => e = .returned (.agg #[.int .i64 m4h, .int .u64 m4l, .int .i64 0]) ∧ Below W.heap.size W w')
    (C5 : ∀ W, Calls Try.prog 21 #[.agg #[.int .i64 m1h, .int .u64 m1l], .agg #[.int .i64 m2h, .int .u64 m2l]] W fun e w' => e = .returned (.agg #[.int .i64 ph, .int .u64 pl, .int .i64 ep]) ∧ Below W.heap.size W w')
    (C6 : ∀ W, Calls Try.prog 26 #[.agg #[.int .i64 m3h, .int .u64 m3l], .agg #[.int .i64 m4h, .int .u64 m4l]] W fun e w' => e = .returned (.agg #[.int .i64 qh, .int .u64 ql, .int .i64 eq]) ∧ Below W.heap.size W w')
    (C7 : ∀ W, Calls Try.prog 56 #[.agg #[.int .i64 ph, .int .u64 pl, .int .i64 ep], .agg #[.int .i64 qh, .int .u64 ql, .int .i64 eq]] W fun e w' => e = .returned (.agg #[.int .i64 rxh, .int .u64 rxl, .int .i64 ryh, .int .u64 ryl, .int .i64 er]) ∧ Below W.heap.size W w') :
    Calls Try.prog 53 #[.agg #[.int .i64 axh, .int .u64 axl, .int .i64 ayh, .int .u64 ayl], .agg #[.int .i64 bxh, .int .u64 bxl, .int .i64 byh, .int .u64 byl]] w fun e w' => e = .returned (.agg #[.int .i64 rxh, .int .u64 rxl, .int .i64 ryh, .int .u64 ryl, .int .i64 er]) ∧ Below w.heap.size w w' := by
  have K1 := Lib.hid C1; have K2 := Lib.hid C2; have K3 := Lib.hid C3; have K4 := Lib.hid C4; have K5 := Lib.hid C5; have K6 := Lib.hid C6; have K7 := Lib.hid C7
  clear C1 C2 C3 C4 C5 C6 C7
  have wz : IntKind.i64.wrap 0 = 0 := by decide
  go_enter Try.func53, Try.ntmps53
  go_upto_region 1 with fail
  refine name_world (P := fun W => Code.wp _ _ _ _ W) _ (fun R1 hR1 => ?_)
  have zR1_a : w.heap.size < R1.heap.size := by rw [hR1]; first | omega | (simp <;> omega)
  have yR1_a : w.heap.size < R1.heap.size + 1 := by omega
  have yyR1_a : w.heap.size < R1.heap.size + 1 + 1 := by omega
  have cR1_a_0 : R1.cell? ⟨w.heap.size, 0, none⟩ = some (.int .i64 axh) := by rw [hR1]; first | assumption | (simp [go_sem, *]; done)
  have cR1_a_1 : R1.cell? ⟨w.heap.size, 1, none⟩ = some (.int .u64 axl) := by rw [hR1]; first | assumption | (simp [go_sem, *]; done)
  have cR1_a_2 : R1.cell? ⟨w.heap.size, 2, none⟩ = some (.int .i64 ayh) := by rw [hR1]; first | assumption | (simp [go_sem, *]; done)
  have cR1_a_3 : R1.cell? ⟨w.heap.size, 3, none⟩ = some (.int .u64 ayl) := by rw [hR1]; first | assumption | (simp [go_sem, *]; done)
  have zR1_b : w.heap.size + 1 < R1.heap.size := by rw [hR1]; first | omega | (simp <;> omega)
  have yR1_b : w.heap.size + 1 < R1.heap.size + 1 := by omega
  have yyR1_b : w.heap.size + 1 < R1.heap.size + 1 + 1 := by omega
  have cR1_b_0 : R1.cell? ⟨w.heap.size + 1, 0, none⟩ = some (.int .i64 bxh) := by rw [hR1]; first | assumption | (simp [go_sem, *]; done)
  have cR1_b_1 : R1.cell? ⟨w.heap.size + 1, 1, none⟩ = some (.int .u64 bxl) := by rw [hR1]; first | assumption | (simp [go_sem, *]; done)
  have cR1_b_2 : R1.cell? ⟨w.heap.size + 1, 2, none⟩ = some (.int .i64 byh) := by rw [hR1]; first | assumption | (simp [go_sem, *]; done)
  have cR1_b_3 : R1.cell? ⟨w.heap.size + 1, 3, none⟩ = some (.int .u64 byl) := by rw [hR1]; first | assumption | (simp [go_sem, *]; done)
  have zR1_r : w.heap.size + 1 + 1 < R1.heap.size := by rw [hR1]; first | omega | (simp <;> omega)
  have yR1_r : w.heap.size + 1 + 1 < R1.heap.size + 1 := by omega
  have yyR1_r : w.heap.size + 1 + 1 < R1.heap.size + 1 + 1 := by omega
  have cR1_r_0 : R1.cell? ⟨w.heap.size + 1 + 1, 0, none⟩ = some (.int .i64 0) := by rw [hR1]; first | assumption | (simp [go_sem, *]; done)
  have cR1_r_1 : R1.cell? ⟨w.heap.size + 1 + 1, 1, none⟩ = some (.int .u64 0) := by rw [hR1]; first | assumption | (simp [go_sem, *]; done)
  have cR1_r_2 : R1.cell? ⟨w.heap.size + 1 + 1, 2, none⟩ = some (.int .i64 0) := by rw [hR1]; first | assumption | (simp [go_sem, *]; done)
  have cR1_r_3 : R1.cell? ⟨w.heap.size + 1 + 1, 3, none⟩ = some (.int .u64 0) := by rw [hR1]; first | assumption | (simp [go_sem, *]; done)
  have cR1_r_4 : R1.cell? ⟨w.heap.size + 1 + 1, 4, none⟩ = some (.int .i64 0) := by rw [hR1]; first | assumption | (simp [go_sem, *]; done)
  have fR1_r : ∀ j, R1.frozen? ⟨w.heap.size + 1 + 1, j, none⟩ = false := fun j => by rw [hR1]; first | (simp [go_sem, *]; done) | (simp only [frozen?_alloc_cells]; rw [hfrw0 _ _ (by first | omega | (simp <;> omega))]; simp [frozen?_alloc_cells, World.frozen?]; done) | (simp [frozen?_alloc_cells, World.frozen?, *]; done)
  have lo_r : w.heap.size ≤ w.heap.size + 1 + 1 := by omega
  have HBR1 : Hid (Below w.heap.size w R1) := by rw [hR1]; show Below _ _ _; exact (by repeat (first | with_reducible exact Below.refl _ _ | with_reducible exact Hid.out (by assumption) | with_reducible refine Below.setCell ?_ (by first | (simp; done) | omega | (simp <;> omega)) _ | with_reducible refine bl_al ?_ _ | with_reducible apply Below.drew))
  clear hR1
  go_cut [5, 6] (fun slot0 slot1 X1 => ∃ bX1m1 bX1m2 : Nat, slot0 = .pointer (some ⟨bX1m1, 0, none⟩) ∧ slot1 = .pointer (some ⟨bX1m2, 0, none⟩) ∧ R1.heap.size ≤ bX1m1 ∧ R1.heap.size ≤ bX1m2 ∧ bX1m2 ≠ bX1m1 ∧ Below R1.heap.size R1 X1 ∧ Has (bX1m1) [.int .i64 m1h, .int .u64 m1l, .int .i64 0] X1 ∧ Has (bX1m2) [.int .i64 m2h, .int .u64 m2l, .int .i64 0] X1)
  case first =>
    clear HBR1
    have ltt : ∀ n : Nat, n < n + 1 + 1 := fun n => by omega
    have lttt : ∀ n : Nat, n + 1 < n + 1 + 1 := fun n => by omega
    go_region_held3 (fun w' => w'.cell? ⟨w.heap.size, 0, none⟩ = some (.int .i64 axh) ∧ w'.cell? ⟨w.heap.size, 1, none⟩ = some (.int .u64 axl) ∧ w'.cell? ⟨w.heap.size, 2, none⟩ = some (.int .i64 ayh) ∧ w'.cell? ⟨w.heap.size, 3, none⟩ = some (.int .u64 ayl) ∧ w'.cell? ⟨w.heap.size + 1, 0, none⟩ = some (.int .i64 bxh) ∧ w'.cell? ⟨w.heap.size + 1, 1, none⟩ = some (.int .u64 bxl) ∧ w'.cell? ⟨w.heap.size + 1, 2, none⟩ = some (.int .i64 byh) ∧ w'.cell? ⟨w.heap.size + 1, 3, none⟩ = some (.int .u64 byl)) (first | (simp [*, go_sem]; done) | (simp [*, go_sem, World.cell?_alloc_past]; done))
      (first
        | (go_at_call 25; (with_reducible refine (K1.out _).mono ?_); rintro e w1 ⟨rfl, hb⟩; (first | (with_reducible (obtain ⟨hclw1, hfrw1⟩ := bcell_drew hb)) | (obtain ⟨hclw1, hfrw1⟩ := bcell hb)); have zw1_a : w.heap.size < w1.heap.size := (by first | omega | (have hz := hb.size; (try simp at hz); omega)); have yw1_a : w.heap.size < w1.heap.size + 1 := (by omega); have yyw1_a : w.heap.size < w1.heap.size + 1 + 1 := (by omega); have zw1_b : w.heap.size + 1 < w1.heap.size := (by first | omega | (have hz := hb.size; (try simp at hz); omega)); have yw1_b : w.heap.size + 1 < w1.heap.size + 1 := (by omega); have yyw1_b : w.heap.size + 1 < w1.heap.size + 1 + 1 := (by omega); (try have sw1_0 : R1.heap.size < w1.heap.size := (by first | omega | (have hz := hb.size; (try simp at hz); omega))); (try have syw1_0 : R1.heap.size < w1.heap.size + 1 := (by omega)); (try have stw1_0 : R1.heap.size + 1 < w1.heap.size := (by first | omega | (have hz := hb.size; (try simp at hz); omega))); have sxw1_0 : R1.heap.size ≤ w1.heap.size := (by first | omega | (have hz := hb.size; (try simp at hz); omega)); have HBw1 : Hid (Below R1.heap.size R1 w1) := (bl_trans (by repeat (first | with_reducible exact Below.refl _ _ | with_reducible exact Hid.out (by assumption) | with_reducible refine Below.setCell ?_ (by first | (simp; done) | omega | (simp <;> omega)) _ | with_reducible refine bl_al ?_ _ | with_reducible apply Below.drew)) hb); clear hb; clear K1)
        | (go_at_call 25; (with_reducible refine (K2.out _).mono ?_); rintro e w2 ⟨rfl, hb⟩; obtain ⟨hclw2, hfrw2⟩ := bcell hb; have zw2_a : w.heap.size < w2.heap.size := (by first | omega | (have hz := hb.size; (try simp at hz); omega)); have yw2_a : w.heap.size < w2.heap.size + 1 := (by omega); have yyw2_a : w.heap.size < w2.heap.size + 1 + 1 := (by omega); have zw2_b : w.heap.size + 1 < w2.heap.size := (by first | omega | (have hz := hb.size; (try simp at hz); omega)); have yw2_b : w.heap.size + 1 < w2.heap.size + 1 := (by omega); have yyw2_b : w.heap.size + 1 < w2.heap.size + 1 + 1 := (by omega); (try have sw2_0 : R1.heap.size < w2.heap.size := (by first | omega | (have hz := hb.size; (try simp at hz); omega))); (try have syw2_0 : R1.heap.size < w2.heap.size + 1 := (by omega)); (try have stw2_0 : R1.heap.size + 1 < w2.heap.size := (by first | omega | (have hz := hb.size; (try simp at hz); omega))); have sxw2_0 : R1.heap.size ≤ w2.heap.size := (by first | omega | (have hz := hb.size; (try simp at hz); omega)); (try have sw2_w1 : w1.heap.size < w2.heap.size := (by first | omega | (have hz := hb.size; (try simp at hz); omega))); (try have syw2_w1 : w1.heap.size < w2.heap.size + 1 := (by omega)); (try have stw2_w1 : w1.heap.size + 1 < w2.heap.size := (by first | omega | (have hz := hb.size; (try simp at hz); omega))); have sxw2_w1 : w1.heap.size ≤ w2.heap.size := (by first | omega | (have hz := hb.size; (try simp at hz); omega)); have HBw2 : Hid (Below R1.heap.size R1 w2) := (bl_trans (by repeat (first | with_reducible exact Below.refl _ _ | with_reducible exact Hid.out (by assumption) | with_reducible refine Below.setCell ?_ (by first | (simp; done) | omega | (simp <;> omega)) _ | with_reducible refine bl_al ?_ _ | with_reducible apply Below.drew)) hb); clear hb; clear K2))
    all_goals (rename_i hHeld; clear hHeld; go_wp2_with fail; go_meet; exact ⟨_, _, rfl, rfl, (by first | omega | (simp <;> omega)), (by first | omega | (simp <;> omega)), (by first | omega | (simp <;> omega)), (by repeat (first | with_reducible exact Below.refl _ _ | with_reducible exact Hid.out (by assumption) | with_reducible refine Below.setCell ?_ (by first | (simp; done) | omega | (simp <;> omega)) _ | with_reducible refine bl_al ?_ _ | with_reducible apply Below.drew)), Has.mk3 (by first | (simp <;> omega) | omega) (by simp [go_sem, *]) (by simp [go_sem, *]) (by simp [go_sem, *]), Has.mk3 (by first | (simp <;> omega) | omega) (by simp [go_sem, *]) (by simp [go_sem, *]) (by simp [go_sem, *])⟩)
  case rest =>
  obtain ⟨X1, hX1⟩ : ∃ X, X = wc := ⟨wc, rfl⟩
  subst hX1
  obtain ⟨bX1m1, bX1m2, rfl, rfl, m_bX1m1, m_bX1m2, n_bX1m2_bX1m1, hX, g_m1, g_m2⟩ := hcut
  have zX1_a : w.heap.size < X1.heap.size := Nat.lt_of_lt_of_le zR1_a hX.size
  have cX1_a_0 : X1.cell? ⟨w.heap.size, 0, none⟩ = some (.int .i64 axh) := by rw [(bcell hX).1 _ _ zR1_a]; exact cR1_a_0
  have cX1_a_1 : X1.cell? ⟨w.heap.size, 1, none⟩ = some (.int .u64 axl) := by rw [(bcell hX).1 _ _ zR1_a]; exact cR1_a_1
  have cX1_a_2 : X1.cell? ⟨w.heap.size, 2, none⟩ = some (.int .i64 ayh) := by rw [(bcell hX).1 _ _ zR1_a]; exact cR1_a_2
  have cX1_a_3 : X1.cell? ⟨w.heap.size, 3, none⟩ = some (.int .u64 ayl) := by rw [(bcell hX).1 _ _ zR1_a]; exact cR1_a_3
  have zX1_b : w.heap.size + 1 < X1.heap.size := Nat.lt_of_lt_of_le zR1_b hX.size
  have cX1_b_0 : X1.cell? ⟨w.heap.size + 1, 0, none⟩ = some (.int .i64 bxh) := by rw [(bcell hX).1 _ _ zR1_b]; exact cR1_b_0
  have cX1_b_1 : X1.cell? ⟨w.heap.size + 1, 1, none⟩ = some (.int .u64 bxl) := by rw [(bcell hX).1 _ _ zR1_b]; exact cR1_b_1
  have cX1_b_2 : X1.cell? ⟨w.heap.size + 1, 2, none⟩ = some (.int .i64 byh) := by rw [(bcell hX).1 _ _ zR1_b]; exact cR1_b_2
  have cX1_b_3 : X1.cell? ⟨w.heap.size + 1, 3, none⟩ = some (.int .u64 byl) := by rw [(bcell hX).1 _ _ zR1_b]; exact cR1_b_3
  have zX1_r : w.heap.size + 1 + 1 < X1.heap.size := Nat.lt_of_lt_of_le zR1_r hX.size
  have cX1_r_0 : X1.cell? ⟨w.heap.size + 1 + 1, 0, none⟩ = some (.int .i64 0) := by rw [(bcell hX).1 _ _ zR1_r]; exact cR1_r_0
  have cX1_r_1 : X1.cell? ⟨w.heap.size + 1 + 1, 1, none⟩ = some (.int .u64 0) := by rw [(bcell hX).1 _ _ zR1_r]; exact cR1_r_1
  have cX1_r_2 : X1.cell? ⟨w.heap.size + 1 + 1, 2, none⟩ = some (.int .i64 0) := by rw [(bcell hX).1 _ _ zR1_r]; exact cR1_r_2
  have cX1_r_3 : X1.cell? ⟨w.heap.size + 1 + 1, 3, none⟩ = some (.int .u64 0) := by rw [(bcell hX).1 _ _ zR1_r]; exact cR1_r_3
  have cX1_r_4 : X1.cell? ⟨w.heap.size + 1 + 1, 4, none⟩ = some (.int .i64 0) := by rw [(bcell hX).1 _ _ zR1_r]; exact cR1_r_4
  have fX1_r : ∀ j, X1.frozen? ⟨w.heap.size + 1 + 1, j, none⟩ = false := fun j => by rw [(bcell hX).2 _ _ zR1_r]; exact fR1_r j
  have zX1_m1 := g_m1.1; have cX1_m1_0 := g_m1.2 0 _ rfl; have cX1_m1_1 := g_m1.2 1 _ rfl; have cX1_m1_2 := g_m1.2 2 _ rfl; clear g_m1
  have zX1_m2 := g_m2.1; have cX1_m2_0 := g_m2.2 0 _ rfl; have cX1_m2_1 := g_m2.2 1 _ rfl; have cX1_m2_2 := g_m2.2 2 _ rfl; clear g_m2
  have nebX1m1_r : ¬ (bX1m1 = w.heap.size + 1 + 1) := by omega
  have ndbX1m1_r : ¬ (w.heap.size + 1 + 1 = bX1m1) := by omega
  have nebX1m2_r : ¬ (bX1m2 = w.heap.size + 1 + 1) := by omega
  have ndbX1m2_r : ¬ (w.heap.size + 1 + 1 = bX1m2) := by omega
  have HBX1 : Hid (Below w.heap.size w X1) := bl_trans HBR1.out hX
  clear hX
  clear zR1_a yR1_a yyR1_a cR1_a_0 cR1_a_1 cR1_a_2 cR1_a_3 zR1_b yR1_b yyR1_b cR1_b_0 cR1_b_1 cR1_b_2 cR1_b_3 zR1_r yR1_r yyR1_r cR1_r_0 cR1_r_1 cR1_r_2 cR1_r_3 cR1_r_4 fR1_r HBR1 m_bX1m1 m_bX1m2 n_bX1m2_bX1m1
  go_upto_region 2 with fail
  refine name_world (P := fun W => Code.wp _ _ _ _ W) _ (fun R2 hR2 => ?_)
  have zR2_a : w.heap.size < R2.heap.size := by rw [hR2]; first | omega | (simp <;> omega)
  have yR2_a : w.heap.size < R2.heap.size + 1 := by omega
  have yyR2_a : w.heap.size < R2.heap.size + 1 + 1 := by omega
  have cR2_a_0 : R2.cell? ⟨w.heap.size, 0, none⟩ = some (.int .i64 axh) := by rw [hR2]; first | assumption | (simp [go_sem, *]; done)
  have cR2_a_1 : R2.cell? ⟨w.heap.size, 1, none⟩ = some (.int .u64 axl) := by rw [hR2]; first | assumption | (simp [go_sem, *]; done)
  have cR2_a_2 : R2.cell? ⟨w.heap.size, 2, none⟩ = some (.int .i64 ayh) := by rw [hR2]; first | assumption | (simp [go_sem, *]; done)
  have cR2_a_3 : R2.cell? ⟨w.heap.size, 3, none⟩ = some (.int .u64 ayl) := by rw [hR2]; first | assumption | (simp [go_sem, *]; done)
  have zR2_b : w.heap.size + 1 < R2.heap.size := by rw [hR2]; first | omega | (simp <;> omega)
  have yR2_b : w.heap.size + 1 < R2.heap.size + 1 := by omega
  have yyR2_b : w.heap.size + 1 < R2.heap.size + 1 + 1 := by omega
  have cR2_b_0 : R2.cell? ⟨w.heap.size + 1, 0, none⟩ = some (.int .i64 bxh) := by rw [hR2]; first | assumption | (simp [go_sem, *]; done)
  have cR2_b_1 : R2.cell? ⟨w.heap.size + 1, 1, none⟩ = some (.int .u64 bxl) := by rw [hR2]; first | assumption | (simp [go_sem, *]; done)
  have cR2_b_2 : R2.cell? ⟨w.heap.size + 1, 2, none⟩ = some (.int .i64 byh) := by rw [hR2]; first | assumption | (simp [go_sem, *]; done)
  have cR2_b_3 : R2.cell? ⟨w.heap.size + 1, 3, none⟩ = some (.int .u64 byl) := by rw [hR2]; first | assumption | (simp [go_sem, *]; done)
  have zR2_r : w.heap.size + 1 + 1 < R2.heap.size := by rw [hR2]; first | omega | (simp <;> omega)
  have yR2_r : w.heap.size + 1 + 1 < R2.heap.size + 1 := by omega
  have yyR2_r : w.heap.size + 1 + 1 < R2.heap.size + 1 + 1 := by omega
  have cR2_r_0 : R2.cell? ⟨w.heap.size + 1 + 1, 0, none⟩ = some (.int .i64 0) := by rw [hR2]; first | assumption | (simp [go_sem, *]; done)
  have cR2_r_1 : R2.cell? ⟨w.heap.size + 1 + 1, 1, none⟩ = some (.int .u64 0) := by rw [hR2]; first | assumption | (simp [go_sem, *]; done)
  have cR2_r_2 : R2.cell? ⟨w.heap.size + 1 + 1, 2, none⟩ = some (.int .i64 0) := by rw [hR2]; first | assumption | (simp [go_sem, *]; done)
  have cR2_r_3 : R2.cell? ⟨w.heap.size + 1 + 1, 3, none⟩ = some (.int .u64 0) := by rw [hR2]; first | assumption | (simp [go_sem, *]; done)
  have cR2_r_4 : R2.cell? ⟨w.heap.size + 1 + 1, 4, none⟩ = some (.int .i64 0) := by rw [hR2]; first | assumption | (simp [go_sem, *]; done)
  have fR2_r : ∀ j, R2.frozen? ⟨w.heap.size + 1 + 1, j, none⟩ = false := fun j => by rw [hR2]; first | (simp [go_sem, *]; done) | (simp only [frozen?_alloc_cells]; rw [hfrX1 _ _ (by first | omega | (simp <;> omega))]; simp [frozen?_alloc_cells, World.frozen?]; done) | (simp [frozen?_alloc_cells, World.frozen?, *]; done)
  have zR2_m1 : bX1m1 < R2.heap.size := by rw [hR2]; first | omega | (simp <;> omega)
  have yR2_m1 : bX1m1 < R2.heap.size + 1 := by omega
  have yyR2_m1 : bX1m1 < R2.heap.size + 1 + 1 := by omega
  have cR2_m1_0 : R2.cell? ⟨bX1m1, 0, none⟩ = some (.int .i64 m1h) := by rw [hR2]; first | assumption | (simp [go_sem, *]; done)
  have cR2_m1_1 : R2.cell? ⟨bX1m1, 1, none⟩ = some (.int .u64 m1l) := by rw [hR2]; first | assumption | (simp [go_sem, *]; done)
  have cR2_m1_2 : R2.cell? ⟨bX1m1, 2, none⟩ = some (.int .i64 0) := by rw [hR2]; first | assumption | (simp [go_sem, *]; done)
  have zR2_m2 : bX1m2 < R2.heap.size := by rw [hR2]; first | omega | (simp <;> omega)
  have yR2_m2 : bX1m2 < R2.heap.size + 1 := by omega
  have yyR2_m2 : bX1m2 < R2.heap.size + 1 + 1 := by omega
  have cR2_m2_0 : R2.cell? ⟨bX1m2, 0, none⟩ = some (.int .i64 m2h) := by rw [hR2]; first | assumption | (simp [go_sem, *]; done)
  have cR2_m2_1 : R2.cell? ⟨bX1m2, 1, none⟩ = some (.int .u64 m2l) := by rw [hR2]; first | assumption | (simp [go_sem, *]; done)
  have cR2_m2_2 : R2.cell? ⟨bX1m2, 2, none⟩ = some (.int .i64 0) := by rw [hR2]; first | assumption | (simp [go_sem, *]; done)
  have HBR2 : Hid (Below w.heap.size w R2) := by rw [hR2]; show Below _ _ _; exact (by repeat (first | with_reducible exact Below.refl _ _ | with_reducible exact Hid.out (by assumption) | with_reducible refine Below.setCell ?_ (by first | (simp; done) | omega | (simp <;> omega)) _ | with_reducible refine bl_al ?_ _ | with_reducible apply Below.drew))
  clear hR2
  clear HBX1 zX1_a cX1_a_0 cX1_a_1 cX1_a_2 cX1_a_3 zX1_b cX1_b_0 cX1_b_1 cX1_b_2 cX1_b_3 zX1_r cX1_r_0 cX1_r_1 cX1_r_2 cX1_r_3 cX1_r_4 fX1_r zX1_m1 cX1_m1_0 cX1_m1_1 cX1_m1_2 zX1_m2 cX1_m2_0 cX1_m2_1 cX1_m2_2
  go_cut [7, 8] (fun slot0 slot1 X2 => ∃ bX2m3 bX2m4 : Nat, slot0 = .pointer (some ⟨bX2m3, 0, none⟩) ∧ slot1 = .pointer (some ⟨bX2m4, 0, none⟩) ∧ R2.heap.size ≤ bX2m3 ∧ R2.heap.size ≤ bX2m4 ∧ bX2m4 ≠ bX2m3 ∧ Below R2.heap.size R2 X2 ∧ Has (bX2m3) [.int .i64 m3h, .int .u64 m3l, .int .i64 0] X2 ∧ Has (bX2m4) [.int .i64 m4h, .int .u64 m4l, .int .i64 0] X2)
  case first =>
    clear HBR2
    have ltt : ∀ n : Nat, n < n + 1 + 1 := fun n => by omega
    have lttt : ∀ n : Nat, n + 1 < n + 1 + 1 := fun n => by omega
    go_region_held3 (fun w' => w'.cell? ⟨w.heap.size, 0, none⟩ = some (.int .i64 axh) ∧ w'.cell? ⟨w.heap.size, 1, none⟩ = some (.int .u64 axl) ∧ w'.cell? ⟨w.heap.size, 2, none⟩ = some (.int .i64 ayh) ∧ w'.cell? ⟨w.heap.size, 3, none⟩ = some (.int .u64 ayl) ∧ w'.cell? ⟨w.heap.size + 1, 0, none⟩ = some (.int .i64 bxh) ∧ w'.cell? ⟨w.heap.size + 1, 1, none⟩ = some (.int .u64 bxl) ∧ w'.cell? ⟨w.heap.size + 1, 2, none⟩ = some (.int .i64 byh) ∧ w'.cell? ⟨w.heap.size + 1, 3, none⟩ = some (.int .u64 byl)) (first | (simp [*, go_sem]; done) | (simp [*, go_sem, World.cell?_alloc_past]; done))
      (first
        | (go_at_call 25; (with_reducible refine (K3.out _).mono ?_); rintro e w3 ⟨rfl, hb⟩; (first | (with_reducible (obtain ⟨hclw3, hfrw3⟩ := bcell_drew hb)) | (obtain ⟨hclw3, hfrw3⟩ := bcell hb)); have zw3_a : w.heap.size < w3.heap.size := (by first | omega | (have hz := hb.size; (try simp at hz); omega)); have yw3_a : w.heap.size < w3.heap.size + 1 := (by omega); have yyw3_a : w.heap.size < w3.heap.size + 1 + 1 := (by omega); have zw3_b : w.heap.size + 1 < w3.heap.size := (by first | omega | (have hz := hb.size; (try simp at hz); omega)); have yw3_b : w.heap.size + 1 < w3.heap.size + 1 := (by omega); have yyw3_b : w.heap.size + 1 < w3.heap.size + 1 + 1 := (by omega); (try have sw3_0 : R2.heap.size < w3.heap.size := (by first | omega | (have hz := hb.size; (try simp at hz); omega))); (try have syw3_0 : R2.heap.size < w3.heap.size + 1 := (by omega)); (try have stw3_0 : R2.heap.size + 1 < w3.heap.size := (by first | omega | (have hz := hb.size; (try simp at hz); omega))); have sxw3_0 : R2.heap.size ≤ w3.heap.size := (by first | omega | (have hz := hb.size; (try simp at hz); omega)); have HBw3 : Hid (Below R2.heap.size R2 w3) := (bl_trans (by repeat (first | with_reducible exact Below.refl _ _ | with_reducible exact Hid.out (by assumption) | with_reducible refine Below.setCell ?_ (by first | (simp; done) | omega | (simp <;> omega)) _ | with_reducible refine bl_al ?_ _ | with_reducible apply Below.drew)) hb); clear hb; clear K3)
        | (go_at_call 25; (with_reducible refine (K4.out _).mono ?_); rintro e w4 ⟨rfl, hb⟩; obtain ⟨hclw4, hfrw4⟩ := bcell hb; have zw4_a : w.heap.size < w4.heap.size := (by first | omega | (have hz := hb.size; (try simp at hz); omega)); have yw4_a : w.heap.size < w4.heap.size + 1 := (by omega); have yyw4_a : w.heap.size < w4.heap.size + 1 + 1 := (by omega); have zw4_b : w.heap.size + 1 < w4.heap.size := (by first | omega | (have hz := hb.size; (try simp at hz); omega)); have yw4_b : w.heap.size + 1 < w4.heap.size + 1 := (by omega); have yyw4_b : w.heap.size + 1 < w4.heap.size + 1 + 1 := (by omega); (try have sw4_0 : R2.heap.size < w4.heap.size := (by first | omega | (have hz := hb.size; (try simp at hz); omega))); (try have syw4_0 : R2.heap.size < w4.heap.size + 1 := (by omega)); (try have stw4_0 : R2.heap.size + 1 < w4.heap.size := (by first | omega | (have hz := hb.size; (try simp at hz); omega))); have sxw4_0 : R2.heap.size ≤ w4.heap.size := (by first | omega | (have hz := hb.size; (try simp at hz); omega)); (try have sw4_w3 : w3.heap.size < w4.heap.size := (by first | omega | (have hz := hb.size; (try simp at hz); omega))); (try have syw4_w3 : w3.heap.size < w4.heap.size + 1 := (by omega)); (try have stw4_w3 : w3.heap.size + 1 < w4.heap.size := (by first | omega | (have hz := hb.size; (try simp at hz); omega))); have sxw4_w3 : w3.heap.size ≤ w4.heap.size := (by first | omega | (have hz := hb.size; (try simp at hz); omega)); have HBw4 : Hid (Below R2.heap.size R2 w4) := (bl_trans (by repeat (first | with_reducible exact Below.refl _ _ | with_reducible exact Hid.out (by assumption) | with_reducible refine Below.setCell ?_ (by first | (simp; done) | omega | (simp <;> omega)) _ | with_reducible refine bl_al ?_ _ | with_reducible apply Below.drew)) hb); clear hb; clear K4))
    all_goals (rename_i hHeld; clear hHeld; go_wp2_with fail; go_meet; exact ⟨_, _, rfl, rfl, (by first | omega | (simp <;> omega)), (by first | omega | (simp <;> omega)), (by first | omega | (simp <;> omega)), (by repeat (first | with_reducible exact Below.refl _ _ | with_reducible exact Hid.out (by assumption) | with_reducible refine Below.setCell ?_ (by first | (simp; done) | omega | (simp <;> omega)) _ | with_reducible refine bl_al ?_ _ | with_reducible apply Below.drew)), Has.mk3 (by first | (simp <;> omega) | omega) (by simp [go_sem, *]) (by simp [go_sem, *]) (by simp [go_sem, *]), Has.mk3 (by first | (simp <;> omega) | omega) (by simp [go_sem, *]) (by simp [go_sem, *]) (by simp [go_sem, *])⟩)
  case rest =>
  obtain ⟨X2, hX2⟩ : ∃ X, X = wc := ⟨wc, rfl⟩
  subst hX2
  obtain ⟨bX2m3, bX2m4, rfl, rfl, m_bX2m3, m_bX2m4, n_bX2m4_bX2m3, hX, g_m3, g_m4⟩ := hcut
  have zX2_a : w.heap.size < X2.heap.size := Nat.lt_of_lt_of_le zR2_a hX.size
  have cX2_a_0 : X2.cell? ⟨w.heap.size, 0, none⟩ = some (.int .i64 axh) := by rw [(bcell hX).1 _ _ zR2_a]; exact cR2_a_0
  have cX2_a_1 : X2.cell? ⟨w.heap.size, 1, none⟩ = some (.int .u64 axl) := by rw [(bcell hX).1 _ _ zR2_a]; exact cR2_a_1
  have cX2_a_2 : X2.cell? ⟨w.heap.size, 2, none⟩ = some (.int .i64 ayh) := by rw [(bcell hX).1 _ _ zR2_a]; exact cR2_a_2
  have cX2_a_3 : X2.cell? ⟨w.heap.size, 3, none⟩ = some (.int .u64 ayl) := by rw [(bcell hX).1 _ _ zR2_a]; exact cR2_a_3
  have zX2_b : w.heap.size + 1 < X2.heap.size := Nat.lt_of_lt_of_le zR2_b hX.size
  have cX2_b_0 : X2.cell? ⟨w.heap.size + 1, 0, none⟩ = some (.int .i64 bxh) := by rw [(bcell hX).1 _ _ zR2_b]; exact cR2_b_0
  have cX2_b_1 : X2.cell? ⟨w.heap.size + 1, 1, none⟩ = some (.int .u64 bxl) := by rw [(bcell hX).1 _ _ zR2_b]; exact cR2_b_1
  have cX2_b_2 : X2.cell? ⟨w.heap.size + 1, 2, none⟩ = some (.int .i64 byh) := by rw [(bcell hX).1 _ _ zR2_b]; exact cR2_b_2
  have cX2_b_3 : X2.cell? ⟨w.heap.size + 1, 3, none⟩ = some (.int .u64 byl) := by rw [(bcell hX).1 _ _ zR2_b]; exact cR2_b_3
  have zX2_r : w.heap.size + 1 + 1 < X2.heap.size := Nat.lt_of_lt_of_le zR2_r hX.size
  have cX2_r_0 : X2.cell? ⟨w.heap.size + 1 + 1, 0, none⟩ = some (.int .i64 0) := by rw [(bcell hX).1 _ _ zR2_r]; exact cR2_r_0
  have cX2_r_1 : X2.cell? ⟨w.heap.size + 1 + 1, 1, none⟩ = some (.int .u64 0) := by rw [(bcell hX).1 _ _ zR2_r]; exact cR2_r_1
  have cX2_r_2 : X2.cell? ⟨w.heap.size + 1 + 1, 2, none⟩ = some (.int .i64 0) := by rw [(bcell hX).1 _ _ zR2_r]; exact cR2_r_2
  have cX2_r_3 : X2.cell? ⟨w.heap.size + 1 + 1, 3, none⟩ = some (.int .u64 0) := by rw [(bcell hX).1 _ _ zR2_r]; exact cR2_r_3
  have cX2_r_4 : X2.cell? ⟨w.heap.size + 1 + 1, 4, none⟩ = some (.int .i64 0) := by rw [(bcell hX).1 _ _ zR2_r]; exact cR2_r_4
  have fX2_r : ∀ j, X2.frozen? ⟨w.heap.size + 1 + 1, j, none⟩ = false := fun j => by rw [(bcell hX).2 _ _ zR2_r]; exact fR2_r j
  have zX2_m1 : bX1m1 < X2.heap.size := Nat.lt_of_lt_of_le zR2_m1 hX.size
  have cX2_m1_0 : X2.cell? ⟨bX1m1, 0, none⟩ = some (.int .i64 m1h) := by rw [(bcell hX).1 _ _ zR2_m1]; exact cR2_m1_0
  have cX2_m1_1 : X2.cell? ⟨bX1m1, 1, none⟩ = some (.int .u64 m1l) := by rw [(bcell hX).1 _ _ zR2_m1]; exact cR2_m1_1
  have cX2_m1_2 : X2.cell? ⟨bX1m1, 2, none⟩ = some (.int .i64 0) := by rw [(bcell hX).1 _ _ zR2_m1]; exact cR2_m1_2
  have zX2_m2 : bX1m2 < X2.heap.size := Nat.lt_of_lt_of_le zR2_m2 hX.size
  have cX2_m2_0 : X2.cell? ⟨bX1m2, 0, none⟩ = some (.int .i64 m2h) := by rw [(bcell hX).1 _ _ zR2_m2]; exact cR2_m2_0
  have cX2_m2_1 : X2.cell? ⟨bX1m2, 1, none⟩ = some (.int .u64 m2l) := by rw [(bcell hX).1 _ _ zR2_m2]; exact cR2_m2_1
  have cX2_m2_2 : X2.cell? ⟨bX1m2, 2, none⟩ = some (.int .i64 0) := by rw [(bcell hX).1 _ _ zR2_m2]; exact cR2_m2_2
  have zX2_m3 := g_m3.1; have cX2_m3_0 := g_m3.2 0 _ rfl; have cX2_m3_1 := g_m3.2 1 _ rfl; have cX2_m3_2 := g_m3.2 2 _ rfl; clear g_m3
  have zX2_m4 := g_m4.1; have cX2_m4_0 := g_m4.2 0 _ rfl; have cX2_m4_1 := g_m4.2 1 _ rfl; have cX2_m4_2 := g_m4.2 2 _ rfl; clear g_m4
  have nebX2m3_r : ¬ (bX2m3 = w.heap.size + 1 + 1) := by omega
  have ndbX2m3_r : ¬ (w.heap.size + 1 + 1 = bX2m3) := by omega
  have nebX2m4_r : ¬ (bX2m4 = w.heap.size + 1 + 1) := by omega
  have ndbX2m4_r : ¬ (w.heap.size + 1 + 1 = bX2m4) := by omega
  have HBX2 : Hid (Below w.heap.size w X2) := bl_trans HBR2.out hX
  clear hX
  clear zR2_a yR2_a yyR2_a cR2_a_0 cR2_a_1 cR2_a_2 cR2_a_3 zR2_b yR2_b yyR2_b cR2_b_0 cR2_b_1 cR2_b_2 cR2_b_3 zR2_r yR2_r yyR2_r cR2_r_0 cR2_r_1 cR2_r_2 cR2_r_3 cR2_r_4 fR2_r zR2_m1 yR2_m1 yyR2_m1 cR2_m1_0 cR2_m1_1 cR2_m1_2 zR2_m2 yR2_m2 yyR2_m2 cR2_m2_0 cR2_m2_1 cR2_m2_2 HBR2 m_bX2m3 m_bX2m4 n_bX2m4_bX2m3
  go_upto_region 5 with fail
  refine name_world (P := fun W => Code.wp _ _ _ _ W) _ (fun R3 hR3 => ?_)
  have zR3_a : w.heap.size < R3.heap.size := by rw [hR3]; first | omega | (simp <;> omega)
  have yR3_a : w.heap.size < R3.heap.size + 1 := by omega
  have yyR3_a : w.heap.size < R3.heap.size + 1 + 1 := by omega
  have cR3_a_0 : R3.cell? ⟨w.heap.size, 0, none⟩ = some (.int .i64 axh) := by rw [hR3]; first | assumption | (simp [go_sem, *]; done)
  have cR3_a_1 : R3.cell? ⟨w.heap.size, 1, none⟩ = some (.int .u64 axl) := by rw [hR3]; first | assumption | (simp [go_sem, *]; done)
  have cR3_a_2 : R3.cell? ⟨w.heap.size, 2, none⟩ = some (.int .i64 ayh) := by rw [hR3]; first | assumption | (simp [go_sem, *]; done)
  have cR3_a_3 : R3.cell? ⟨w.heap.size, 3, none⟩ = some (.int .u64 ayl) := by rw [hR3]; first | assumption | (simp [go_sem, *]; done)
  have zR3_b : w.heap.size + 1 < R3.heap.size := by rw [hR3]; first | omega | (simp <;> omega)
  have yR3_b : w.heap.size + 1 < R3.heap.size + 1 := by omega
  have yyR3_b : w.heap.size + 1 < R3.heap.size + 1 + 1 := by omega
  have cR3_b_0 : R3.cell? ⟨w.heap.size + 1, 0, none⟩ = some (.int .i64 bxh) := by rw [hR3]; first | assumption | (simp [go_sem, *]; done)
  have cR3_b_1 : R3.cell? ⟨w.heap.size + 1, 1, none⟩ = some (.int .u64 bxl) := by rw [hR3]; first | assumption | (simp [go_sem, *]; done)
  have cR3_b_2 : R3.cell? ⟨w.heap.size + 1, 2, none⟩ = some (.int .i64 byh) := by rw [hR3]; first | assumption | (simp [go_sem, *]; done)
  have cR3_b_3 : R3.cell? ⟨w.heap.size + 1, 3, none⟩ = some (.int .u64 byl) := by rw [hR3]; first | assumption | (simp [go_sem, *]; done)
  have zR3_r : w.heap.size + 1 + 1 < R3.heap.size := by rw [hR3]; first | omega | (simp <;> omega)
  have yR3_r : w.heap.size + 1 + 1 < R3.heap.size + 1 := by omega
  have yyR3_r : w.heap.size + 1 + 1 < R3.heap.size + 1 + 1 := by omega
  have cR3_r_0 : R3.cell? ⟨w.heap.size + 1 + 1, 0, none⟩ = some (.int .i64 0) := by rw [hR3]; first | assumption | (simp [go_sem, *]; done)
  have cR3_r_1 : R3.cell? ⟨w.heap.size + 1 + 1, 1, none⟩ = some (.int .u64 0) := by rw [hR3]; first | assumption | (simp [go_sem, *]; done)
  have cR3_r_2 : R3.cell? ⟨w.heap.size + 1 + 1, 2, none⟩ = some (.int .i64 0) := by rw [hR3]; first | assumption | (simp [go_sem, *]; done)
  have cR3_r_3 : R3.cell? ⟨w.heap.size + 1 + 1, 3, none⟩ = some (.int .u64 0) := by rw [hR3]; first | assumption | (simp [go_sem, *]; done)
  have cR3_r_4 : R3.cell? ⟨w.heap.size + 1 + 1, 4, none⟩ = some (.int .i64 0) := by rw [hR3]; first | assumption | (simp [go_sem, *]; done)
  have fR3_r : ∀ j, R3.frozen? ⟨w.heap.size + 1 + 1, j, none⟩ = false := fun j => by rw [hR3]; first | (simp [go_sem, *]; done) | (simp only [frozen?_alloc_cells]; rw [hfrX2 _ _ (by first | omega | (simp <;> omega))]; simp [frozen?_alloc_cells, World.frozen?]; done) | (simp [frozen?_alloc_cells, World.frozen?, *]; done)
  have zR3_m1 : bX1m1 < R3.heap.size := by rw [hR3]; first | omega | (simp <;> omega)
  have yR3_m1 : bX1m1 < R3.heap.size + 1 := by omega
  have yyR3_m1 : bX1m1 < R3.heap.size + 1 + 1 := by omega
  have cR3_m1_0 : R3.cell? ⟨bX1m1, 0, none⟩ = some (.int .i64 m1h) := by rw [hR3]; first | assumption | (simp [go_sem, *]; done)
  have cR3_m1_1 : R3.cell? ⟨bX1m1, 1, none⟩ = some (.int .u64 m1l) := by rw [hR3]; first | assumption | (simp [go_sem, *]; done)
  have cR3_m1_2 : R3.cell? ⟨bX1m1, 2, none⟩ = some (.int .i64 0) := by rw [hR3]; first | assumption | (simp [go_sem, *]; done)
  have zR3_m2 : bX1m2 < R3.heap.size := by rw [hR3]; first | omega | (simp <;> omega)
  have yR3_m2 : bX1m2 < R3.heap.size + 1 := by omega
  have yyR3_m2 : bX1m2 < R3.heap.size + 1 + 1 := by omega
  have cR3_m2_0 : R3.cell? ⟨bX1m2, 0, none⟩ = some (.int .i64 m2h) := by rw [hR3]; first | assumption | (simp [go_sem, *]; done)
  have cR3_m2_1 : R3.cell? ⟨bX1m2, 1, none⟩ = some (.int .u64 m2l) := by rw [hR3]; first | assumption | (simp [go_sem, *]; done)
  have cR3_m2_2 : R3.cell? ⟨bX1m2, 2, none⟩ = some (.int .i64 0) := by rw [hR3]; first | assumption | (simp [go_sem, *]; done)
  have zR3_m3 : bX2m3 < R3.heap.size := by rw [hR3]; first | omega | (simp <;> omega)
  have yR3_m3 : bX2m3 < R3.heap.size + 1 := by omega
  have yyR3_m3 : bX2m3 < R3.heap.size + 1 + 1 := by omega
  have cR3_m3_0 : R3.cell? ⟨bX2m3, 0, none⟩ = some (.int .i64 m3h) := by rw [hR3]; first | assumption | (simp [go_sem, *]; done)
  have cR3_m3_1 : R3.cell? ⟨bX2m3, 1, none⟩ = some (.int .u64 m3l) := by rw [hR3]; first | assumption | (simp [go_sem, *]; done)
  have cR3_m3_2 : R3.cell? ⟨bX2m3, 2, none⟩ = some (.int .i64 0) := by rw [hR3]; first | assumption | (simp [go_sem, *]; done)
  have zR3_m4 : bX2m4 < R3.heap.size := by rw [hR3]; first | omega | (simp <;> omega)
  have yR3_m4 : bX2m4 < R3.heap.size + 1 := by omega
  have yyR3_m4 : bX2m4 < R3.heap.size + 1 + 1 := by omega
  have cR3_m4_0 : R3.cell? ⟨bX2m4, 0, none⟩ = some (.int .i64 m4h) := by rw [hR3]; first | assumption | (simp [go_sem, *]; done)
  have cR3_m4_1 : R3.cell? ⟨bX2m4, 1, none⟩ = some (.int .u64 m4l) := by rw [hR3]; first | assumption | (simp [go_sem, *]; done)
  have cR3_m4_2 : R3.cell? ⟨bX2m4, 2, none⟩ = some (.int .i64 0) := by rw [hR3]; first | assumption | (simp [go_sem, *]; done)
  have HBR3 : Hid (Below w.heap.size w R3) := by rw [hR3]; show Below _ _ _; exact (by repeat (first | with_reducible exact Below.refl _ _ | with_reducible exact Hid.out (by assumption) | with_reducible refine Below.setCell ?_ (by first | (simp; done) | omega | (simp <;> omega)) _ | with_reducible refine bl_al ?_ _ | with_reducible apply Below.drew))
  clear hR3
  clear HBX2 zX2_a cX2_a_0 cX2_a_1 cX2_a_2 cX2_a_3 zX2_b cX2_b_0 cX2_b_1 cX2_b_2 cX2_b_3 zX2_r cX2_r_0 cX2_r_1 cX2_r_2 cX2_r_3 cX2_r_4 fX2_r zX2_m1 cX2_m1_0 cX2_m1_1 cX2_m1_2 zX2_m2 cX2_m2_0 cX2_m2_1 cX2_m2_2 zX2_m3 cX2_m3_0 cX2_m3_1 cX2_m3_2 zX2_m4 cX2_m4_0 cX2_m4_1 cX2_m4_2
  go_region_held3 (fun w' => w'.cell? ⟨bX1m1, 0, none⟩ = some (.int .i64 m1h) ∧ w'.cell? ⟨bX1m1, 1, none⟩ = some (.int .u64 m1l) ∧ w'.cell? ⟨bX1m1, 2, none⟩ = some (.int .i64 0) ∧ w'.cell? ⟨bX1m2, 0, none⟩ = some (.int .i64 m2h) ∧ w'.cell? ⟨bX1m2, 1, none⟩ = some (.int .u64 m2l) ∧ w'.cell? ⟨bX1m2, 2, none⟩ = some (.int .i64 0) ∧ w'.cell? ⟨bX2m3, 0, none⟩ = some (.int .i64 m3h) ∧ w'.cell? ⟨bX2m3, 1, none⟩ = some (.int .u64 m3l) ∧ w'.cell? ⟨bX2m3, 2, none⟩ = some (.int .i64 0) ∧ w'.cell? ⟨bX2m4, 0, none⟩ = some (.int .i64 m4h) ∧ w'.cell? ⟨bX2m4, 1, none⟩ = some (.int .u64 m4l) ∧ w'.cell? ⟨bX2m4, 2, none⟩ = some (.int .i64 0)) (first | (simp [*, go_sem]; done) | (simp [*, go_sem, World.cell?_alloc_past]; done))
    (first
      | (go_at_call 21; (with_reducible refine (K5.out _).mono ?_); rintro e w5 ⟨rfl, hb⟩; (first | (with_reducible (obtain ⟨hclw5, hfrw5⟩ := bcell_drew hb)) | (obtain ⟨hclw5, hfrw5⟩ := bcell hb)); have zw5_a : w.heap.size < w5.heap.size := (by first | omega | (have hz := hb.size; (try simp at hz); omega)); have yw5_a : w.heap.size < w5.heap.size + 1 := (by omega); have yyw5_a : w.heap.size < w5.heap.size + 1 + 1 := (by omega); have zw5_b : w.heap.size + 1 < w5.heap.size := (by first | omega | (have hz := hb.size; (try simp at hz); omega)); have yw5_b : w.heap.size + 1 < w5.heap.size + 1 := (by omega); have yyw5_b : w.heap.size + 1 < w5.heap.size + 1 + 1 := (by omega); have zw5_r : w.heap.size + 1 + 1 < w5.heap.size := (by first | omega | (have hz := hb.size; (try simp at hz); omega)); have yw5_r : w.heap.size + 1 + 1 < w5.heap.size + 1 := (by omega); have yyw5_r : w.heap.size + 1 + 1 < w5.heap.size + 1 + 1 := (by omega); have zw5_m1 : bX1m1 < w5.heap.size := (by first | omega | (have hz := hb.size; (try simp at hz); omega)); have yw5_m1 : bX1m1 < w5.heap.size + 1 := (by omega); have yyw5_m1 : bX1m1 < w5.heap.size + 1 + 1 := (by omega); have zw5_m2 : bX1m2 < w5.heap.size := (by first | omega | (have hz := hb.size; (try simp at hz); omega)); have yw5_m2 : bX1m2 < w5.heap.size + 1 := (by omega); have yyw5_m2 : bX1m2 < w5.heap.size + 1 + 1 := (by omega); have zw5_m3 : bX2m3 < w5.heap.size := (by first | omega | (have hz := hb.size; (try simp at hz); omega)); have yw5_m3 : bX2m3 < w5.heap.size + 1 := (by omega); have yyw5_m3 : bX2m3 < w5.heap.size + 1 + 1 := (by omega); have zw5_m4 : bX2m4 < w5.heap.size := (by first | omega | (have hz := hb.size; (try simp at hz); omega)); have yw5_m4 : bX2m4 < w5.heap.size + 1 := (by omega); have yyw5_m4 : bX2m4 < w5.heap.size + 1 + 1 := (by omega); have sxw5_0 : R3.heap.size ≤ w5.heap.size := (by first | omega | (have hz := hb.size; (try simp at hz); omega)); have HBw5 : Hid (Below w.heap.size w w5) := (bl_trans (by repeat (first | with_reducible exact Below.refl _ _ | with_reducible exact Hid.out (by assumption) | with_reducible refine Below.setCell ?_ (by first | (simp; done) | omega | (simp <;> omega)) _ | with_reducible refine bl_al ?_ _ | with_reducible apply Below.drew)) hb); clear hb; clear K5)
      | (go_at_call 26; (with_reducible refine (K6.out _).mono ?_); rintro e w6 ⟨rfl, hb⟩; obtain ⟨hclw6, hfrw6⟩ := bcell hb; have zw6_a : w.heap.size < w6.heap.size := (by first | omega | (have hz := hb.size; (try simp at hz); omega)); have yw6_a : w.heap.size < w6.heap.size + 1 := (by omega); have yyw6_a : w.heap.size < w6.heap.size + 1 + 1 := (by omega); have zw6_b : w.heap.size + 1 < w6.heap.size := (by first | omega | (have hz := hb.size; (try simp at hz); omega)); have yw6_b : w.heap.size + 1 < w6.heap.size + 1 := (by omega); have yyw6_b : w.heap.size + 1 < w6.heap.size + 1 + 1 := (by omega); have zw6_r : w.heap.size + 1 + 1 < w6.heap.size := (by first | omega | (have hz := hb.size; (try simp at hz); omega)); have yw6_r : w.heap.size + 1 + 1 < w6.heap.size + 1 := (by omega); have yyw6_r : w.heap.size + 1 + 1 < w6.heap.size + 1 + 1 := (by omega); have zw6_m1 : bX1m1 < w6.heap.size := (by first | omega | (have hz := hb.size; (try simp at hz); omega)); have yw6_m1 : bX1m1 < w6.heap.size + 1 := (by omega); have yyw6_m1 : bX1m1 < w6.heap.size + 1 + 1 := (by omega); have zw6_m2 : bX1m2 < w6.heap.size := (by first | omega | (have hz := hb.size; (try simp at hz); omega)); have yw6_m2 : bX1m2 < w6.heap.size + 1 := (by omega); have yyw6_m2 : bX1m2 < w6.heap.size + 1 + 1 := (by omega); have zw6_m3 : bX2m3 < w6.heap.size := (by first | omega | (have hz := hb.size; (try simp at hz); omega)); have yw6_m3 : bX2m3 < w6.heap.size + 1 := (by omega); have yyw6_m3 : bX2m3 < w6.heap.size + 1 + 1 := (by omega); have zw6_m4 : bX2m4 < w6.heap.size := (by first | omega | (have hz := hb.size; (try simp at hz); omega)); have yw6_m4 : bX2m4 < w6.heap.size + 1 := (by omega); have yyw6_m4 : bX2m4 < w6.heap.size + 1 + 1 := (by omega); have sxw6_0 : R3.heap.size ≤ w6.heap.size := (by first | omega | (have hz := hb.size; (try simp at hz); omega)); have sxw6_w5 : w5.heap.size ≤ w6.heap.size := (by first | omega | (have hz := hb.size; (try simp at hz); omega)); have HBw6 : Hid (Below w.heap.size w w6) := (bl_trans (by repeat (first | with_reducible exact Below.refl _ _ | with_reducible exact Hid.out (by assumption) | with_reducible refine Below.setCell ?_ (by first | (simp; done) | omega | (simp <;> omega)) _ | with_reducible refine bl_al ?_ _ | with_reducible apply Below.drew)) hb); clear hb; clear K6)
      | (go_at_call 56; (with_reducible refine (K7.out _).mono ?_); rintro e w7 ⟨rfl, hb⟩; obtain ⟨hclw7, hfrw7⟩ := bcell hb; have zw7_a : w.heap.size < w7.heap.size := (by first | omega | (have hz := hb.size; (try simp at hz); omega)); have yw7_a : w.heap.size < w7.heap.size + 1 := (by omega); have yyw7_a : w.heap.size < w7.heap.size + 1 + 1 := (by omega); have zw7_b : w.heap.size + 1 < w7.heap.size := (by first | omega | (have hz := hb.size; (try simp at hz); omega)); have yw7_b : w.heap.size + 1 < w7.heap.size + 1 := (by omega); have yyw7_b : w.heap.size + 1 < w7.heap.size + 1 + 1 := (by omega); have zw7_r : w.heap.size + 1 + 1 < w7.heap.size := (by first | omega | (have hz := hb.size; (try simp at hz); omega)); have yw7_r : w.heap.size + 1 + 1 < w7.heap.size + 1 := (by omega); have yyw7_r : w.heap.size + 1 + 1 < w7.heap.size + 1 + 1 := (by omega); have zw7_m1 : bX1m1 < w7.heap.size := (by first | omega | (have hz := hb.size; (try simp at hz); omega)); have yw7_m1 : bX1m1 < w7.heap.size + 1 := (by omega); have yyw7_m1 : bX1m1 < w7.heap.size + 1 + 1 := (by omega); have zw7_m2 : bX1m2 < w7.heap.size := (by first | omega | (have hz := hb.size; (try simp at hz); omega)); have yw7_m2 : bX1m2 < w7.heap.size + 1 := (by omega); have yyw7_m2 : bX1m2 < w7.heap.size + 1 + 1 := (by omega); have zw7_m3 : bX2m3 < w7.heap.size := (by first | omega | (have hz := hb.size; (try simp at hz); omega)); have yw7_m3 : bX2m3 < w7.heap.size + 1 := (by omega); have yyw7_m3 : bX2m3 < w7.heap.size + 1 + 1 := (by omega); have zw7_m4 : bX2m4 < w7.heap.size := (by first | omega | (have hz := hb.size; (try simp at hz); omega)); have yw7_m4 : bX2m4 < w7.heap.size + 1 := (by omega); have yyw7_m4 : bX2m4 < w7.heap.size + 1 + 1 := (by omega); have sxw7_0 : R3.heap.size ≤ w7.heap.size := (by first | omega | (have hz := hb.size; (try simp at hz); omega)); have sxw7_w5 : w5.heap.size ≤ w7.heap.size := (by first | omega | (have hz := hb.size; (try simp at hz); omega)); have sxw7_w6 : w6.heap.size ≤ w7.heap.size := (by first | omega | (have hz := hb.size; (try simp at hz); omega)); have HBw7 : Hid (Below w.heap.size w w7) := (bl_trans (by repeat (first | with_reducible exact Below.refl _ _ | with_reducible exact Hid.out (by assumption) | with_reducible refine Below.setCell ?_ (by first | (simp; done) | omega | (simp <;> omega)) _ | with_reducible refine bl_al ?_ _ | with_reducible apply Below.drew)) hb); clear hb; clear K7))
  rename_i hHeld
  clear hHeld
  go_wp2_with fail
  refine bodyPost_ret (by simp [results, Try.results53, go_sem, *]; try rfl) rfl ?_
  exact ⟨rfl, by repeat (first | with_reducible exact Below.refl _ _ | with_reducible exact Hid.out (by assumption) | with_reducible refine Below.setCell ?_ (by first | (simp; done) | omega | (simp <;> omega)) _ | with_reducible refine bl_al ?_ _ | with_reducible apply Below.drew)⟩
set_option maxRecDepth 20000 in
set_option maxHeartbeats 60000000 in
theorem rturned_err (axh axl ayh ayl bxh bxl byh byl m1h m1l m2h m2l m3h m3l m4h m4l e1 e2 e3 e4 f1 f2 f3 : Int) (s1 : IntKind.i64.wrap (e1 + e2) = f1) (s2 : IntKind.i64.wrap (f1 + e3) = f2) (s3 : IntKind.i64.wrap (f2 + e4) = f3) (hf : ¬ f3 = 0) (w : World)
    (C1 : ∀ W, Calls Try.prog 25 #[.agg #[.int .i64 axh, .int .u64 axl], .agg #[.int .i64 bxh, .int .u64 bxl]] W fun e w' => e = .returned (.agg #[.int .i64 m1h, .int .u64 m1l, .int .i64 e1]) ∧ Below W.heap.size W w')
    (C2 : ∀ W, Calls Try.prog 25 #[.agg #[.int .i64 ayh, .int .u64 ayl], .agg #[.int .i64 byh, .int .u64 byl]] W fun e w' => e = .returned (.agg #[.int .i64 m2h, .int .u64 m2l, .int .i64 e2]) ∧ Below W.heap.size W w')
    (C3 : ∀ W, Calls Try.prog 25 #[.agg #[.int .i64 axh, .int .u64 axl], .agg #[.int .i64 byh, .int .u64 byl]] W fun e w' => e = .returned (.agg #[.int .i64 m3h, .int .u64 m3l, .int .i64 e3]) ∧ Below W.heap.size W w')
    (C4 : ∀ W, Calls Try.prog 25 #[.agg #[.int .i64 ayh, .int .u64 ayl], .agg #[.int .i64 bxh, .int .u64 bxl]] W fun e w' => e = .returned (.agg #[.int .i64 m4h, .int .u64 m4l, .int .i64 e4]) ∧ Below W.heap.size W w') :
    Calls Try.prog 53 #[.agg #[.int .i64 axh, .int .u64 axl, .int .i64 ayh, .int .u64 ayl], .agg #[.int .i64 bxh, .int .u64 bxl, .int .i64 byh, .int .u64 byl]] w fun e w' => e = .returned (.agg #[.int .i64 0, .int .u64 0, .int .i64 0, .int .u64 0, .int .i64 3]) ∧ Below w.heap.size w w' := by
  have K1 := Lib.hid C1; have K2 := Lib.hid C2; have K3 := Lib.hid C3; have K4 := Lib.hid C4
  clear C1 C2 C3 C4
  go_enter Try.func53, Try.ntmps53
  go_upto_region 1 with fail
  refine name_world (P := fun W => Code.wp _ _ _ _ W) _ (fun R1 hR1 => ?_)
  have zR1_a : w.heap.size < R1.heap.size := by rw [hR1]; first | omega | (simp <;> omega)
  have yR1_a : w.heap.size < R1.heap.size + 1 := by omega
  have yyR1_a : w.heap.size < R1.heap.size + 1 + 1 := by omega
  have cR1_a_0 : R1.cell? ⟨w.heap.size, 0, none⟩ = some (.int .i64 axh) := by rw [hR1]; first | assumption | (simp [go_sem, *]; done)
  have cR1_a_1 : R1.cell? ⟨w.heap.size, 1, none⟩ = some (.int .u64 axl) := by rw [hR1]; first | assumption | (simp [go_sem, *]; done)
  have cR1_a_2 : R1.cell? ⟨w.heap.size, 2, none⟩ = some (.int .i64 ayh) := by rw [hR1]; first | assumption | (simp [go_sem, *]; done)
  have cR1_a_3 : R1.cell? ⟨w.heap.size, 3, none⟩ = some (.int .u64 ayl) := by rw [hR1]; first | assumption | (simp [go_sem, *]; done)
  have zR1_b : w.heap.size + 1 < R1.heap.size := by rw [hR1]; first | omega | (simp <;> omega)
  have yR1_b : w.heap.size + 1 < R1.heap.size + 1 := by omega
  have yyR1_b : w.heap.size + 1 < R1.heap.size + 1 + 1 := by omega
  have cR1_b_0 : R1.cell? ⟨w.heap.size + 1, 0, none⟩ = some (.int .i64 bxh) := by rw [hR1]; first | assumption | (simp [go_sem, *]; done)
  have cR1_b_1 : R1.cell? ⟨w.heap.size + 1, 1, none⟩ = some (.int .u64 bxl) := by rw [hR1]; first | assumption | (simp [go_sem, *]; done)
  have cR1_b_2 : R1.cell? ⟨w.heap.size + 1, 2, none⟩ = some (.int .i64 byh) := by rw [hR1]; first | assumption | (simp [go_sem, *]; done)
  have cR1_b_3 : R1.cell? ⟨w.heap.size + 1, 3, none⟩ = some (.int .u64 byl) := by rw [hR1]; first | assumption | (simp [go_sem, *]; done)
  have zR1_r : w.heap.size + 1 + 1 < R1.heap.size := by rw [hR1]; first | omega | (simp <;> omega)
  have yR1_r : w.heap.size + 1 + 1 < R1.heap.size + 1 := by omega
  have yyR1_r : w.heap.size + 1 + 1 < R1.heap.size + 1 + 1 := by omega
  have cR1_r_0 : R1.cell? ⟨w.heap.size + 1 + 1, 0, none⟩ = some (.int .i64 0) := by rw [hR1]; first | assumption | (simp [go_sem, *]; done)
  have cR1_r_1 : R1.cell? ⟨w.heap.size + 1 + 1, 1, none⟩ = some (.int .u64 0) := by rw [hR1]; first | assumption | (simp [go_sem, *]; done)
  have cR1_r_2 : R1.cell? ⟨w.heap.size + 1 + 1, 2, none⟩ = some (.int .i64 0) := by rw [hR1]; first | assumption | (simp [go_sem, *]; done)
  have cR1_r_3 : R1.cell? ⟨w.heap.size + 1 + 1, 3, none⟩ = some (.int .u64 0) := by rw [hR1]; first | assumption | (simp [go_sem, *]; done)
  have cR1_r_4 : R1.cell? ⟨w.heap.size + 1 + 1, 4, none⟩ = some (.int .i64 0) := by rw [hR1]; first | assumption | (simp [go_sem, *]; done)
  have fR1_r : ∀ j, R1.frozen? ⟨w.heap.size + 1 + 1, j, none⟩ = false := fun j => by rw [hR1]; first | (simp [go_sem, *]; done) | (simp only [frozen?_alloc_cells]; rw [hfrw0 _ _ (by first | omega | (simp <;> omega))]; simp [frozen?_alloc_cells, World.frozen?]; done) | (simp [frozen?_alloc_cells, World.frozen?, *]; done)
  have lo_r : w.heap.size ≤ w.heap.size + 1 + 1 := by omega
  have HBR1 : Hid (Below w.heap.size w R1) := by rw [hR1]; show Below _ _ _; exact (by repeat (first | with_reducible exact Below.refl _ _ | with_reducible exact Hid.out (by assumption) | with_reducible refine Below.setCell ?_ (by first | (simp; done) | omega | (simp <;> omega)) _ | with_reducible refine bl_al ?_ _ | with_reducible apply Below.drew))
  clear hR1
  go_cut [5, 6] (fun slot0 slot1 X1 => ∃ bX1m1 bX1m2 : Nat, slot0 = .pointer (some ⟨bX1m1, 0, none⟩) ∧ slot1 = .pointer (some ⟨bX1m2, 0, none⟩) ∧ R1.heap.size ≤ bX1m1 ∧ R1.heap.size ≤ bX1m2 ∧ bX1m2 ≠ bX1m1 ∧ Below R1.heap.size R1 X1 ∧ Has (bX1m1) [.int .i64 m1h, .int .u64 m1l, .int .i64 e1] X1 ∧ Has (bX1m2) [.int .i64 m2h, .int .u64 m2l, .int .i64 e2] X1)
  case first =>
    clear HBR1
    have ltt : ∀ n : Nat, n < n + 1 + 1 := fun n => by omega
    have lttt : ∀ n : Nat, n + 1 < n + 1 + 1 := fun n => by omega
    go_region_held3 (fun w' => w'.cell? ⟨w.heap.size, 0, none⟩ = some (.int .i64 axh) ∧ w'.cell? ⟨w.heap.size, 1, none⟩ = some (.int .u64 axl) ∧ w'.cell? ⟨w.heap.size, 2, none⟩ = some (.int .i64 ayh) ∧ w'.cell? ⟨w.heap.size, 3, none⟩ = some (.int .u64 ayl) ∧ w'.cell? ⟨w.heap.size + 1, 0, none⟩ = some (.int .i64 bxh) ∧ w'.cell? ⟨w.heap.size + 1, 1, none⟩ = some (.int .u64 bxl) ∧ w'.cell? ⟨w.heap.size + 1, 2, none⟩ = some (.int .i64 byh) ∧ w'.cell? ⟨w.heap.size + 1, 3, none⟩ = some (.int .u64 byl)) (first | (simp [*, go_sem]; done) | (simp [*, go_sem, World.cell?_alloc_past]; done))
      (first
        | (go_at_call 25; (with_reducible refine (K1.out _).mono ?_); rintro e w1 ⟨rfl, hb⟩; (first | (with_reducible (obtain ⟨hclw1, hfrw1⟩ := bcell_drew hb)) | (obtain ⟨hclw1, hfrw1⟩ := bcell hb)); have zw1_a : w.heap.size < w1.heap.size := (by first | omega | (have hz := hb.size; (try simp at hz); omega)); have yw1_a : w.heap.size < w1.heap.size + 1 := (by omega); have yyw1_a : w.heap.size < w1.heap.size + 1 + 1 := (by omega); have zw1_b : w.heap.size + 1 < w1.heap.size := (by first | omega | (have hz := hb.size; (try simp at hz); omega)); have yw1_b : w.heap.size + 1 < w1.heap.size + 1 := (by omega); have yyw1_b : w.heap.size + 1 < w1.heap.size + 1 + 1 := (by omega); (try have sw1_0 : R1.heap.size < w1.heap.size := (by first | omega | (have hz := hb.size; (try simp at hz); omega))); (try have syw1_0 : R1.heap.size < w1.heap.size + 1 := (by omega)); (try have stw1_0 : R1.heap.size + 1 < w1.heap.size := (by first | omega | (have hz := hb.size; (try simp at hz); omega))); have sxw1_0 : R1.heap.size ≤ w1.heap.size := (by first | omega | (have hz := hb.size; (try simp at hz); omega)); have HBw1 : Hid (Below R1.heap.size R1 w1) := (bl_trans (by repeat (first | with_reducible exact Below.refl _ _ | with_reducible exact Hid.out (by assumption) | with_reducible refine Below.setCell ?_ (by first | (simp; done) | omega | (simp <;> omega)) _ | with_reducible refine bl_al ?_ _ | with_reducible apply Below.drew)) hb); clear hb; clear K1)
        | (go_at_call 25; (with_reducible refine (K2.out _).mono ?_); rintro e w2 ⟨rfl, hb⟩; obtain ⟨hclw2, hfrw2⟩ := bcell hb; have zw2_a : w.heap.size < w2.heap.size := (by first | omega | (have hz := hb.size; (try simp at hz); omega)); have yw2_a : w.heap.size < w2.heap.size + 1 := (by omega); have yyw2_a : w.heap.size < w2.heap.size + 1 + 1 := (by omega); have zw2_b : w.heap.size + 1 < w2.heap.size := (by first | omega | (have hz := hb.size; (try simp at hz); omega)); have yw2_b : w.heap.size + 1 < w2.heap.size + 1 := (by omega); have yyw2_b : w.heap.size + 1 < w2.heap.size + 1 + 1 := (by omega); (try have sw2_0 : R1.heap.size < w2.heap.size := (by first | omega | (have hz := hb.size; (try simp at hz); omega))); (try have syw2_0 : R1.heap.size < w2.heap.size + 1 := (by omega)); (try have stw2_0 : R1.heap.size + 1 < w2.heap.size := (by first | omega | (have hz := hb.size; (try simp at hz); omega))); have sxw2_0 : R1.heap.size ≤ w2.heap.size := (by first | omega | (have hz := hb.size; (try simp at hz); omega)); (try have sw2_w1 : w1.heap.size < w2.heap.size := (by first | omega | (have hz := hb.size; (try simp at hz); omega))); (try have syw2_w1 : w1.heap.size < w2.heap.size + 1 := (by omega)); (try have stw2_w1 : w1.heap.size + 1 < w2.heap.size := (by first | omega | (have hz := hb.size; (try simp at hz); omega))); have sxw2_w1 : w1.heap.size ≤ w2.heap.size := (by first | omega | (have hz := hb.size; (try simp at hz); omega)); have HBw2 : Hid (Below R1.heap.size R1 w2) := (bl_trans (by repeat (first | with_reducible exact Below.refl _ _ | with_reducible exact Hid.out (by assumption) | with_reducible refine Below.setCell ?_ (by first | (simp; done) | omega | (simp <;> omega)) _ | with_reducible refine bl_al ?_ _ | with_reducible apply Below.drew)) hb); clear hb; clear K2))
    all_goals (rename_i hHeld; clear hHeld; go_wp2_with fail; go_meet; exact ⟨_, _, rfl, rfl, (by first | omega | (simp <;> omega)), (by first | omega | (simp <;> omega)), (by first | omega | (simp <;> omega)), (by repeat (first | with_reducible exact Below.refl _ _ | with_reducible exact Hid.out (by assumption) | with_reducible refine Below.setCell ?_ (by first | (simp; done) | omega | (simp <;> omega)) _ | with_reducible refine bl_al ?_ _ | with_reducible apply Below.drew)), Has.mk3 (by first | (simp <;> omega) | omega) (by simp [go_sem, *]) (by simp [go_sem, *]) (by simp [go_sem, *]), Has.mk3 (by first | (simp <;> omega) | omega) (by simp [go_sem, *]) (by simp [go_sem, *]) (by simp [go_sem, *])⟩)
  case rest =>
  obtain ⟨X1, hX1⟩ : ∃ X, X = wc := ⟨wc, rfl⟩
  subst hX1
  obtain ⟨bX1m1, bX1m2, rfl, rfl, m_bX1m1, m_bX1m2, n_bX1m2_bX1m1, hX, g_m1, g_m2⟩ := hcut
  have zX1_a : w.heap.size < X1.heap.size := Nat.lt_of_lt_of_le zR1_a hX.size
  have cX1_a_0 : X1.cell? ⟨w.heap.size, 0, none⟩ = some (.int .i64 axh) := by rw [(bcell hX).1 _ _ zR1_a]; exact cR1_a_0
  have cX1_a_1 : X1.cell? ⟨w.heap.size, 1, none⟩ = some (.int .u64 axl) := by rw [(bcell hX).1 _ _ zR1_a]; exact cR1_a_1
  have cX1_a_2 : X1.cell? ⟨w.heap.size, 2, none⟩ = some (.int .i64 ayh) := by rw [(bcell hX).1 _ _ zR1_a]; exact cR1_a_2
  have cX1_a_3 : X1.cell? ⟨w.heap.size, 3, none⟩ = some (.int .u64 ayl) := by rw [(bcell hX).1 _ _ zR1_a]; exact cR1_a_3
  have zX1_b : w.heap.size + 1 < X1.heap.size := Nat.lt_of_lt_of_le zR1_b hX.size
  have cX1_b_0 : X1.cell? ⟨w.heap.size + 1, 0, none⟩ = some (.int .i64 bxh) := by rw [(bcell hX).1 _ _ zR1_b]; exact cR1_b_0
  have cX1_b_1 : X1.cell? ⟨w.heap.size + 1, 1, none⟩ = some (.int .u64 bxl) := by rw [(bcell hX).1 _ _ zR1_b]; exact cR1_b_1
  have cX1_b_2 : X1.cell? ⟨w.heap.size + 1, 2, none⟩ = some (.int .i64 byh) := by rw [(bcell hX).1 _ _ zR1_b]; exact cR1_b_2
  have cX1_b_3 : X1.cell? ⟨w.heap.size + 1, 3, none⟩ = some (.int .u64 byl) := by rw [(bcell hX).1 _ _ zR1_b]; exact cR1_b_3
  have zX1_r : w.heap.size + 1 + 1 < X1.heap.size := Nat.lt_of_lt_of_le zR1_r hX.size
  have cX1_r_0 : X1.cell? ⟨w.heap.size + 1 + 1, 0, none⟩ = some (.int .i64 0) := by rw [(bcell hX).1 _ _ zR1_r]; exact cR1_r_0
  have cX1_r_1 : X1.cell? ⟨w.heap.size + 1 + 1, 1, none⟩ = some (.int .u64 0) := by rw [(bcell hX).1 _ _ zR1_r]; exact cR1_r_1
  have cX1_r_2 : X1.cell? ⟨w.heap.size + 1 + 1, 2, none⟩ = some (.int .i64 0) := by rw [(bcell hX).1 _ _ zR1_r]; exact cR1_r_2
  have cX1_r_3 : X1.cell? ⟨w.heap.size + 1 + 1, 3, none⟩ = some (.int .u64 0) := by rw [(bcell hX).1 _ _ zR1_r]; exact cR1_r_3
  have cX1_r_4 : X1.cell? ⟨w.heap.size + 1 + 1, 4, none⟩ = some (.int .i64 0) := by rw [(bcell hX).1 _ _ zR1_r]; exact cR1_r_4
  have fX1_r : ∀ j, X1.frozen? ⟨w.heap.size + 1 + 1, j, none⟩ = false := fun j => by rw [(bcell hX).2 _ _ zR1_r]; exact fR1_r j
  have zX1_m1 := g_m1.1; have cX1_m1_0 := g_m1.2 0 _ rfl; have cX1_m1_1 := g_m1.2 1 _ rfl; have cX1_m1_2 := g_m1.2 2 _ rfl; clear g_m1
  have zX1_m2 := g_m2.1; have cX1_m2_0 := g_m2.2 0 _ rfl; have cX1_m2_1 := g_m2.2 1 _ rfl; have cX1_m2_2 := g_m2.2 2 _ rfl; clear g_m2
  have nebX1m1_r : ¬ (bX1m1 = w.heap.size + 1 + 1) := by omega
  have ndbX1m1_r : ¬ (w.heap.size + 1 + 1 = bX1m1) := by omega
  have nebX1m2_r : ¬ (bX1m2 = w.heap.size + 1 + 1) := by omega
  have ndbX1m2_r : ¬ (w.heap.size + 1 + 1 = bX1m2) := by omega
  have HBX1 : Hid (Below w.heap.size w X1) := bl_trans HBR1.out hX
  clear hX
  clear zR1_a yR1_a yyR1_a cR1_a_0 cR1_a_1 cR1_a_2 cR1_a_3 zR1_b yR1_b yyR1_b cR1_b_0 cR1_b_1 cR1_b_2 cR1_b_3 zR1_r yR1_r yyR1_r cR1_r_0 cR1_r_1 cR1_r_2 cR1_r_3 cR1_r_4 fR1_r HBR1 m_bX1m1 m_bX1m2 n_bX1m2_bX1m1
  go_upto_region 2 with fail
  refine name_world (P := fun W => Code.wp _ _ _ _ W) _ (fun R2 hR2 => ?_)
  have zR2_a : w.heap.size < R2.heap.size := by rw [hR2]; first | omega | (simp <;> omega)
  have yR2_a : w.heap.size < R2.heap.size + 1 := by omega
  have yyR2_a : w.heap.size < R2.heap.size + 1 + 1 := by omega
  have cR2_a_0 : R2.cell? ⟨w.heap.size, 0, none⟩ = some (.int .i64 axh) := by rw [hR2]; first | assumption | (simp [go_sem, *]; done)
  have cR2_a_1 : R2.cell? ⟨w.heap.size, 1, none⟩ = some (.int .u64 axl) := by rw [hR2]; first | assumption | (simp [go_sem, *]; done)
  have cR2_a_2 : R2.cell? ⟨w.heap.size, 2, none⟩ = some (.int .i64 ayh) := by rw [hR2]; first | assumption | (simp [go_sem, *]; done)
  have cR2_a_3 : R2.cell? ⟨w.heap.size, 3, none⟩ = some (.int .u64 ayl) := by rw [hR2]; first | assumption | (simp [go_sem, *]; done)
  have zR2_b : w.heap.size + 1 < R2.heap.size := by rw [hR2]; first | omega | (simp <;> omega)
  have yR2_b : w.heap.size + 1 < R2.heap.size + 1 := by omega
  have yyR2_b : w.heap.size + 1 < R2.heap.size + 1 + 1 := by omega
  have cR2_b_0 : R2.cell? ⟨w.heap.size + 1, 0, none⟩ = some (.int .i64 bxh) := by rw [hR2]; first | assumption | (simp [go_sem, *]; done)
  have cR2_b_1 : R2.cell? ⟨w.heap.size + 1, 1, none⟩ = some (.int .u64 bxl) := by rw [hR2]; first | assumption | (simp [go_sem, *]; done)
  have cR2_b_2 : R2.cell? ⟨w.heap.size + 1, 2, none⟩ = some (.int .i64 byh) := by rw [hR2]; first | assumption | (simp [go_sem, *]; done)
  have cR2_b_3 : R2.cell? ⟨w.heap.size + 1, 3, none⟩ = some (.int .u64 byl) := by rw [hR2]; first | assumption | (simp [go_sem, *]; done)
  have zR2_r : w.heap.size + 1 + 1 < R2.heap.size := by rw [hR2]; first | omega | (simp <;> omega)
  have yR2_r : w.heap.size + 1 + 1 < R2.heap.size + 1 := by omega
  have yyR2_r : w.heap.size + 1 + 1 < R2.heap.size + 1 + 1 := by omega
  have cR2_r_0 : R2.cell? ⟨w.heap.size + 1 + 1, 0, none⟩ = some (.int .i64 0) := by rw [hR2]; first | assumption | (simp [go_sem, *]; done)
  have cR2_r_1 : R2.cell? ⟨w.heap.size + 1 + 1, 1, none⟩ = some (.int .u64 0) := by rw [hR2]; first | assumption | (simp [go_sem, *]; done)
  have cR2_r_2 : R2.cell? ⟨w.heap.size + 1 + 1, 2, none⟩ = some (.int .i64 0) := by rw [hR2]; first | assumption | (simp [go_sem, *]; done)
  have cR2_r_3 : R2.cell? ⟨w.heap.size + 1 + 1, 3, none⟩ = some (.int .u64 0) := by rw [hR2]; first | assumption | (simp [go_sem, *]; done)
  have cR2_r_4 : R2.cell? ⟨w.heap.size + 1 + 1, 4, none⟩ = some (.int .i64 0) := by rw [hR2]; first | assumption | (simp [go_sem, *]; done)
  have fR2_r : ∀ j, R2.frozen? ⟨w.heap.size + 1 + 1, j, none⟩ = false := fun j => by rw [hR2]; first | (simp [go_sem, *]; done) | (simp only [frozen?_alloc_cells]; rw [hfrX1 _ _ (by first | omega | (simp <;> omega))]; simp [frozen?_alloc_cells, World.frozen?]; done) | (simp [frozen?_alloc_cells, World.frozen?, *]; done)
  have zR2_m1 : bX1m1 < R2.heap.size := by rw [hR2]; first | omega | (simp <;> omega)
  have yR2_m1 : bX1m1 < R2.heap.size + 1 := by omega
  have yyR2_m1 : bX1m1 < R2.heap.size + 1 + 1 := by omega
  have cR2_m1_0 : R2.cell? ⟨bX1m1, 0, none⟩ = some (.int .i64 m1h) := by rw [hR2]; first | assumption | (simp [go_sem, *]; done)
  have cR2_m1_1 : R2.cell? ⟨bX1m1, 1, none⟩ = some (.int .u64 m1l) := by rw [hR2]; first | assumption | (simp [go_sem, *]; done)
  have cR2_m1_2 : R2.cell? ⟨bX1m1, 2, none⟩ = some (.int .i64 e1) := by rw [hR2]; first | assumption | (simp [go_sem, *]; done)
  have zR2_m2 : bX1m2 < R2.heap.size := by rw [hR2]; first | omega | (simp <;> omega)
  have yR2_m2 : bX1m2 < R2.heap.size + 1 := by omega
  have yyR2_m2 : bX1m2 < R2.heap.size + 1 + 1 := by omega
  have cR2_m2_0 : R2.cell? ⟨bX1m2, 0, none⟩ = some (.int .i64 m2h) := by rw [hR2]; first | assumption | (simp [go_sem, *]; done)
  have cR2_m2_1 : R2.cell? ⟨bX1m2, 1, none⟩ = some (.int .u64 m2l) := by rw [hR2]; first | assumption | (simp [go_sem, *]; done)
  have cR2_m2_2 : R2.cell? ⟨bX1m2, 2, none⟩ = some (.int .i64 e2) := by rw [hR2]; first | assumption | (simp [go_sem, *]; done)
  have HBR2 : Hid (Below w.heap.size w R2) := by rw [hR2]; show Below _ _ _; exact (by repeat (first | with_reducible exact Below.refl _ _ | with_reducible exact Hid.out (by assumption) | with_reducible refine Below.setCell ?_ (by first | (simp; done) | omega | (simp <;> omega)) _ | with_reducible refine bl_al ?_ _ | with_reducible apply Below.drew))
  clear hR2
  clear HBX1 zX1_a cX1_a_0 cX1_a_1 cX1_a_2 cX1_a_3 zX1_b cX1_b_0 cX1_b_1 cX1_b_2 cX1_b_3 zX1_r cX1_r_0 cX1_r_1 cX1_r_2 cX1_r_3 cX1_r_4 fX1_r zX1_m1 cX1_m1_0 cX1_m1_1 cX1_m1_2 zX1_m2 cX1_m2_0 cX1_m2_1 cX1_m2_2
  go_cut [7, 8] (fun slot0 slot1 X2 => ∃ bX2m3 bX2m4 : Nat, slot0 = .pointer (some ⟨bX2m3, 0, none⟩) ∧ slot1 = .pointer (some ⟨bX2m4, 0, none⟩) ∧ R2.heap.size ≤ bX2m3 ∧ R2.heap.size ≤ bX2m4 ∧ bX2m4 ≠ bX2m3 ∧ Below R2.heap.size R2 X2 ∧ Has (bX2m3) [.int .i64 m3h, .int .u64 m3l, .int .i64 e3] X2 ∧ Has (bX2m4) [.int .i64 m4h, .int .u64 m4l, .int .i64 e4] X2)
  case first =>
    clear HBR2
    have ltt : ∀ n : Nat, n < n + 1 + 1 := fun n => by omega
    have lttt : ∀ n : Nat, n + 1 < n + 1 + 1 := fun n => by omega
    go_region_held3 (fun w' => w'.cell? ⟨w.heap.size, 0, none⟩ = some (.int .i64 axh) ∧ w'.cell? ⟨w.heap.size, 1, none⟩ = some (.int .u64 axl) ∧ w'.cell? ⟨w.heap.size, 2, none⟩ = some (.int .i64 ayh) ∧ w'.cell? ⟨w.heap.size, 3, none⟩ = some (.int .u64 ayl) ∧ w'.cell? ⟨w.heap.size + 1, 0, none⟩ = some (.int .i64 bxh) ∧ w'.cell? ⟨w.heap.size + 1, 1, none⟩ = some (.int .u64 bxl) ∧ w'.cell? ⟨w.heap.size + 1, 2, none⟩ = some (.int .i64 byh) ∧ w'.cell? ⟨w.heap.size + 1, 3, none⟩ = some (.int .u64 byl)) (first | (simp [*, go_sem]; done) | (simp [*, go_sem, World.cell?_alloc_past]; done))
      (first
        | (go_at_call 25; (with_reducible refine (K3.out _).mono ?_); rintro e w3 ⟨rfl, hb⟩; (first | (with_reducible (obtain ⟨hclw3, hfrw3⟩ := bcell_drew hb)) | (obtain ⟨hclw3, hfrw3⟩ := bcell hb)); have zw3_a : w.heap.size < w3.heap.size := (by first | omega | (have hz := hb.size; (try simp at hz); omega)); have yw3_a : w.heap.size < w3.heap.size + 1 := (by omega); have yyw3_a : w.heap.size < w3.heap.size + 1 + 1 := (by omega); have zw3_b : w.heap.size + 1 < w3.heap.size := (by first | omega | (have hz := hb.size; (try simp at hz); omega)); have yw3_b : w.heap.size + 1 < w3.heap.size + 1 := (by omega); have yyw3_b : w.heap.size + 1 < w3.heap.size + 1 + 1 := (by omega); (try have sw3_0 : R2.heap.size < w3.heap.size := (by first | omega | (have hz := hb.size; (try simp at hz); omega))); (try have syw3_0 : R2.heap.size < w3.heap.size + 1 := (by omega)); (try have stw3_0 : R2.heap.size + 1 < w3.heap.size := (by first | omega | (have hz := hb.size; (try simp at hz); omega))); have sxw3_0 : R2.heap.size ≤ w3.heap.size := (by first | omega | (have hz := hb.size; (try simp at hz); omega)); have HBw3 : Hid (Below R2.heap.size R2 w3) := (bl_trans (by repeat (first | with_reducible exact Below.refl _ _ | with_reducible exact Hid.out (by assumption) | with_reducible refine Below.setCell ?_ (by first | (simp; done) | omega | (simp <;> omega)) _ | with_reducible refine bl_al ?_ _ | with_reducible apply Below.drew)) hb); clear hb; clear K3)
        | (go_at_call 25; (with_reducible refine (K4.out _).mono ?_); rintro e w4 ⟨rfl, hb⟩; obtain ⟨hclw4, hfrw4⟩ := bcell hb; have zw4_a : w.heap.size < w4.heap.size := (by first | omega | (have hz := hb.size; (try simp at hz); omega)); have yw4_a : w.heap.size < w4.heap.size + 1 := (by omega); have yyw4_a : w.heap.size < w4.heap.size + 1 + 1 := (by omega); have zw4_b : w.heap.size + 1 < w4.heap.size := (by first | omega | (have hz := hb.size; (try simp at hz); omega)); have yw4_b : w.heap.size + 1 < w4.heap.size + 1 := (by omega); have yyw4_b : w.heap.size + 1 < w4.heap.size + 1 + 1 := (by omega); (try have sw4_0 : R2.heap.size < w4.heap.size := (by first | omega | (have hz := hb.size; (try simp at hz); omega))); (try have syw4_0 : R2.heap.size < w4.heap.size + 1 := (by omega)); (try have stw4_0 : R2.heap.size + 1 < w4.heap.size := (by first | omega | (have hz := hb.size; (try simp at hz); omega))); have sxw4_0 : R2.heap.size ≤ w4.heap.size := (by first | omega | (have hz := hb.size; (try simp at hz); omega)); (try have sw4_w3 : w3.heap.size < w4.heap.size := (by first | omega | (have hz := hb.size; (try simp at hz); omega))); (try have syw4_w3 : w3.heap.size < w4.heap.size + 1 := (by omega)); (try have stw4_w3 : w3.heap.size + 1 < w4.heap.size := (by first | omega | (have hz := hb.size; (try simp at hz); omega))); have sxw4_w3 : w3.heap.size ≤ w4.heap.size := (by first | omega | (have hz := hb.size; (try simp at hz); omega)); have HBw4 : Hid (Below R2.heap.size R2 w4) := (bl_trans (by repeat (first | with_reducible exact Below.refl _ _ | with_reducible exact Hid.out (by assumption) | with_reducible refine Below.setCell ?_ (by first | (simp; done) | omega | (simp <;> omega)) _ | with_reducible refine bl_al ?_ _ | with_reducible apply Below.drew)) hb); clear hb; clear K4))
    all_goals (rename_i hHeld; clear hHeld; go_wp2_with fail; go_meet; exact ⟨_, _, rfl, rfl, (by first | omega | (simp <;> omega)), (by first | omega | (simp <;> omega)), (by first | omega | (simp <;> omega)), (by repeat (first | with_reducible exact Below.refl _ _ | with_reducible exact Hid.out (by assumption) | with_reducible refine Below.setCell ?_ (by first | (simp; done) | omega | (simp <;> omega)) _ | with_reducible refine bl_al ?_ _ | with_reducible apply Below.drew)), Has.mk3 (by first | (simp <;> omega) | omega) (by simp [go_sem, *]) (by simp [go_sem, *]) (by simp [go_sem, *]), Has.mk3 (by first | (simp <;> omega) | omega) (by simp [go_sem, *]) (by simp [go_sem, *]) (by simp [go_sem, *])⟩)
  case rest =>
  obtain ⟨X2, hX2⟩ : ∃ X, X = wc := ⟨wc, rfl⟩
  subst hX2
  obtain ⟨bX2m3, bX2m4, rfl, rfl, m_bX2m3, m_bX2m4, n_bX2m4_bX2m3, hX, g_m3, g_m4⟩ := hcut
  have zX2_a : w.heap.size < X2.heap.size := Nat.lt_of_lt_of_le zR2_a hX.size
  have cX2_a_0 : X2.cell? ⟨w.heap.size, 0, none⟩ = some (.int .i64 axh) := by rw [(bcell hX).1 _ _ zR2_a]; exact cR2_a_0
  have cX2_a_1 : X2.cell? ⟨w.heap.size, 1, none⟩ = some (.int .u64 axl) := by rw [(bcell hX).1 _ _ zR2_a]; exact cR2_a_1
  have cX2_a_2 : X2.cell? ⟨w.heap.size, 2, none⟩ = some (.int .i64 ayh) := by rw [(bcell hX).1 _ _ zR2_a]; exact cR2_a_2
  have cX2_a_3 : X2.cell? ⟨w.heap.size, 3, none⟩ = some (.int .u64 ayl) := by rw [(bcell hX).1 _ _ zR2_a]; exact cR2_a_3
  have zX2_b : w.heap.size + 1 < X2.heap.size := Nat.lt_of_lt_of_le zR2_b hX.size
  have cX2_b_0 : X2.cell? ⟨w.heap.size + 1, 0, none⟩ = some (.int .i64 bxh) := by rw [(bcell hX).1 _ _ zR2_b]; exact cR2_b_0
  have cX2_b_1 : X2.cell? ⟨w.heap.size + 1, 1, none⟩ = some (.int .u64 bxl) := by rw [(bcell hX).1 _ _ zR2_b]; exact cR2_b_1
  have cX2_b_2 : X2.cell? ⟨w.heap.size + 1, 2, none⟩ = some (.int .i64 byh) := by rw [(bcell hX).1 _ _ zR2_b]; exact cR2_b_2
  have cX2_b_3 : X2.cell? ⟨w.heap.size + 1, 3, none⟩ = some (.int .u64 byl) := by rw [(bcell hX).1 _ _ zR2_b]; exact cR2_b_3
  have zX2_r : w.heap.size + 1 + 1 < X2.heap.size := Nat.lt_of_lt_of_le zR2_r hX.size
  have cX2_r_0 : X2.cell? ⟨w.heap.size + 1 + 1, 0, none⟩ = some (.int .i64 0) := by rw [(bcell hX).1 _ _ zR2_r]; exact cR2_r_0
  have cX2_r_1 : X2.cell? ⟨w.heap.size + 1 + 1, 1, none⟩ = some (.int .u64 0) := by rw [(bcell hX).1 _ _ zR2_r]; exact cR2_r_1
  have cX2_r_2 : X2.cell? ⟨w.heap.size + 1 + 1, 2, none⟩ = some (.int .i64 0) := by rw [(bcell hX).1 _ _ zR2_r]; exact cR2_r_2
  have cX2_r_3 : X2.cell? ⟨w.heap.size + 1 + 1, 3, none⟩ = some (.int .u64 0) := by rw [(bcell hX).1 _ _ zR2_r]; exact cR2_r_3
  have cX2_r_4 : X2.cell? ⟨w.heap.size + 1 + 1, 4, none⟩ = some (.int .i64 0) := by rw [(bcell hX).1 _ _ zR2_r]; exact cR2_r_4
  have fX2_r : ∀ j, X2.frozen? ⟨w.heap.size + 1 + 1, j, none⟩ = false := fun j => by rw [(bcell hX).2 _ _ zR2_r]; exact fR2_r j
  have zX2_m1 : bX1m1 < X2.heap.size := Nat.lt_of_lt_of_le zR2_m1 hX.size
  have cX2_m1_0 : X2.cell? ⟨bX1m1, 0, none⟩ = some (.int .i64 m1h) := by rw [(bcell hX).1 _ _ zR2_m1]; exact cR2_m1_0
  have cX2_m1_1 : X2.cell? ⟨bX1m1, 1, none⟩ = some (.int .u64 m1l) := by rw [(bcell hX).1 _ _ zR2_m1]; exact cR2_m1_1
  have cX2_m1_2 : X2.cell? ⟨bX1m1, 2, none⟩ = some (.int .i64 e1) := by rw [(bcell hX).1 _ _ zR2_m1]; exact cR2_m1_2
  have zX2_m2 : bX1m2 < X2.heap.size := Nat.lt_of_lt_of_le zR2_m2 hX.size
  have cX2_m2_0 : X2.cell? ⟨bX1m2, 0, none⟩ = some (.int .i64 m2h) := by rw [(bcell hX).1 _ _ zR2_m2]; exact cR2_m2_0
  have cX2_m2_1 : X2.cell? ⟨bX1m2, 1, none⟩ = some (.int .u64 m2l) := by rw [(bcell hX).1 _ _ zR2_m2]; exact cR2_m2_1
  have cX2_m2_2 : X2.cell? ⟨bX1m2, 2, none⟩ = some (.int .i64 e2) := by rw [(bcell hX).1 _ _ zR2_m2]; exact cR2_m2_2
  have zX2_m3 := g_m3.1; have cX2_m3_0 := g_m3.2 0 _ rfl; have cX2_m3_1 := g_m3.2 1 _ rfl; have cX2_m3_2 := g_m3.2 2 _ rfl; clear g_m3
  have zX2_m4 := g_m4.1; have cX2_m4_0 := g_m4.2 0 _ rfl; have cX2_m4_1 := g_m4.2 1 _ rfl; have cX2_m4_2 := g_m4.2 2 _ rfl; clear g_m4
  have nebX2m3_r : ¬ (bX2m3 = w.heap.size + 1 + 1) := by omega
  have ndbX2m3_r : ¬ (w.heap.size + 1 + 1 = bX2m3) := by omega
  have nebX2m4_r : ¬ (bX2m4 = w.heap.size + 1 + 1) := by omega
  have ndbX2m4_r : ¬ (w.heap.size + 1 + 1 = bX2m4) := by omega
  have HBX2 : Hid (Below w.heap.size w X2) := bl_trans HBR2.out hX
  clear hX
  clear zR2_a yR2_a yyR2_a cR2_a_0 cR2_a_1 cR2_a_2 cR2_a_3 zR2_b yR2_b yyR2_b cR2_b_0 cR2_b_1 cR2_b_2 cR2_b_3 zR2_r yR2_r yyR2_r cR2_r_0 cR2_r_1 cR2_r_2 cR2_r_3 cR2_r_4 fR2_r zR2_m1 yR2_m1 yyR2_m1 cR2_m1_0 cR2_m1_1 cR2_m1_2 zR2_m2 yR2_m2 yyR2_m2 cR2_m2_0 cR2_m2_1 cR2_m2_2 HBR2 m_bX2m3 m_bX2m4 n_bX2m4_bX2m3
  go_wp2_with fail
  refine bodyPost_ret (by simp [results, Try.results53, go_sem, *]; try rfl) rfl ?_
  exact ⟨rfl, by repeat (first | with_reducible exact Below.refl _ _ | with_reducible exact Hid.out (by assumption) | with_reducible refine Below.setCell ?_ (by first | (simp; done) | omega | (simp <;> omega)) _ | with_reducible refine bl_al ?_ _ | with_reducible apply Below.drew)⟩
theorem rturned_any (a b c d : Int) (ha : My a) (hb : My b) (hc : My c) (hd : My d) (w : World) :
    Calls Try.prog 53 #[vec a b, vec c d] w fun e w' => e = .returned (wayv (tx a b c d) (ty a b c d) (te a b c d)) ∧ Below w.heap.size w w' := by
  have A1 := rmul_any a c ha hc; have A2 := rmul_any b d hb hd; have A3 := rmul_any a d ha hd; have A4 := rmul_any b c hb hc
  have h1 := oe_two (mulr a c); have h2 := oe_two (mulr b d); have h3 := oe_two (mulr a d); have h4 := oe_two (mulr b c)
  by_cases k : oe (mulr a c) = 0 ∧ oe (mulr b d) = 0 ∧ oe (mulr a d) = 0 ∧ oe (mulr b c) = 0
  · obtain ⟨k1, k2, k3, k4⟩ := k
    have A5 := rsub_any _ _ (ov_My (mulr a c)) (ov_My (mulr b d))
    have A6 := radd_any _ _ (ov_My (mulr a d)) (ov_My (mulr b c))
    have A7 := rboth_any (ov (mulr a c) - ov (mulr b d)) (ov (mulr a d) + ov (mulr b c))
    rw [k1] at A1; rw [k2] at A2; rw [k3] at A3; rw [k4] at A4
    have K := rturned_ok _ _ _ _ _ _ _ _ _ _ _ _ _ _ _ _ _ _ _ _ _ _ _ _ _ _ _ w A1 A2 A3 A4 A5 A6 A7
    have e : ve (tp a b c d) (tq a b c d) = te a b c d ∧ vx (tp a b c d) (tq a b c d) = tx a b c d ∧ vy (tp a b c d) (tq a b c d) = ty a b c d := by
      rcases te_cases a b c d with ⟨g, ⟨_, _, _, _, g5, g6⟩, e1, e2⟩ | ⟨g, n, e1, e2⟩
      · rw [g, e1, e2]; exact ve_in g5 g6
      · rw [g, e1, e2]
        rcases oe_two (tp a b c d) with p | p
        · have q : oe (tq a b c d) = 3 := by
            rcases oe_two (tq a b c d) with q | q
            · exact absurd ⟨k1, k2, k3, k4, p, q⟩ n
            · exact q
          obtain ⟨x1, x2, x3⟩ := ve_mid p (show ¬ oe (tq a b c d) = 0 by rw [q]; decide)
          exact ⟨x1.trans q, x2, x3⟩
        · obtain ⟨x1, x2, x3⟩ := ve_out (q := tq a b c d) (show ¬ oe (tp a b c d) = 0 by rw [p]; decide)
          exact ⟨x1.trans p, x2, x3⟩
    rw [← e.1, ← e.2.1, ← e.2.2]
    exact K
  · have g : te a b c d = 3 ∧ tx a b c d = 0 ∧ ty a b c d = 0 := by
      rcases te_cases a b c d with ⟨_, ⟨k1, k2, k3, k4, _, _⟩, _, _⟩ | ⟨g, _, e1, e2⟩
      · exact absurd ⟨k1, k2, k3, k4⟩ k
      · exact ⟨g, e1, e2⟩
    rw [g.1, g.2.1, g.2.2]
    unfold wayv; rw [zero_words.1, zero_words.2]
    exact rturned_err _ _ _ _ _ _ _ _ _ _ _ _ _ _ _ _ _ _ _ _ _ _ _ (IntWalk.i64_in _ (by omega)) (IntWalk.i64_in _ (by omega)) (IntWalk.i64_in _ (by omega)) (by omega) w A1 A2 A3 A4
end Go.Proofs.Ytmelipbanbihdaa
