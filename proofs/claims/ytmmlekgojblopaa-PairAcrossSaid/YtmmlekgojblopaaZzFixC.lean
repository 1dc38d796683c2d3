/- The examples that every statement of the layer looks at. -/
import Derived.Test.YtmmlekgojblopaaZzFixA
import Derived.Test.YtmmlekgojblopaaZzFixB
import Derived.Test.YtmmlekgojblopaaZzLimC
namespace Go.Proofs.Ytmmlekgojblopaa
open Go.RowKit

set_option maxRecDepth 20000 in
set_option maxHeartbeats 60000000 in
theorem fdiv_core (h l k m d1 d0 i1 i0 n3 n2 n1 n0 q3 q2 q1 q0 r1 r0 t3 t2 t1 t0 x u sa sb s f1 f0 z g1 g0 y : Int) (ok : Bool) (e2 : bits .xor .u64 sa sb = s) (hx : (0 ≤ x ∧ u = 1) ∨ (¬ 0 ≤ x ∧ u = 0)) (hk : (ok = false ∧ g1 = 0 ∧ g0 = 0 ∧ y = 2) ∨ (ok = true ∧ g1 = f1 ∧ g0 = f0 ∧ y = z)) (w : World)
    (C1 : Ct 41 #[.agg #[.int .i64 k, .int .u64 m]] (.agg #[.int .u64 d1, .int .u64 d0]))
    (C2 : Ct 41 #[.agg #[.int .i64 h, .int .u64 l]] (.agg #[.int .u64 i1, .int .u64 i0]))
    (C3 : Ct 43 #[.agg #[.int .u64 0, .int .u64 0, .int .u64 i1, .int .u64 i0], .int .i64 64] (.agg #[.int .u64 n3, .int .u64 n2, .int .u64 n1, .int .u64 n0]))
    (C4 : Ct 42 #[.agg #[.int .u64 n3, .int .u64 n2, .int .u64 n1, .int .u64 n0], .agg #[.int .u64 d1, .int .u64 d0]] (.tuple #[.agg #[.int .u64 q3, .int .u64 q2, .int .u64 q1, .int .u64 q0], .agg #[.int .u64 r1, .int .u64 r0], .bool ok]))
    (C5 : Ct 43 #[.agg #[.int .u64 0, .int .u64 0, .int .u64 r1, .int .u64 r0], .int .i64 1] (.agg #[.int .u64 t3, .int .u64 t2, .int .u64 t1, .int .u64 t0]))
    (C6 : Ct 44 #[.agg #[.int .u64 t3, .int .u64 t2, .int .u64 t1, .int .u64 t0], .agg #[.int .u64 0, .int .u64 0, .int .u64 d1, .int .u64 d0]] (.int .i64 x))
    (C7 : Ct 46 #[.agg #[.int .i64 h, .int .u64 l]] (.int .u64 sa))
    (C8 : Ct 46 #[.agg #[.int .i64 k, .int .u64 m]] (.int .u64 sb))
    (C9 : Ct 45 #[.agg #[.int .u64 q3, .int .u64 q2, .int .u64 q1, .int .u64 q0], .int .u64 u, .int .u64 s] (.tuple #[.agg #[.int .i64 f1, .int .u64 f0], .int .i64 z])) :
    Calls Try.prog 23 #[.agg #[.int .i64 h, .int .u64 l], .agg #[.int .i64 k, .int .u64 m]] w fun e w' => e = .returned (.tuple #[.agg #[.int .i64 g1, .int .u64 g0], .int .i64 y]) ∧ Below w.heap.size w w' := by
  have K1 := Lib.hid C1; have K2 := Lib.hid C2; have K3 := Lib.hid C3; have K4 := Lib.hid C4; have K5 := Lib.hid C5; have K6 := Lib.hid C6; have K7 := Lib.hid C7; have K8 := Lib.hid C8; have K9 := Lib.hid C9
  clear C1 C2 C3 C4 C5 C6 C7 C8 C9
  have HX := Lib.hid hx; have HK := Lib.hid hk
  clear hx hk
  go_enter Try.func23, Try.ntmps23
  go_wp2_with fail
  (with_reducible refine cm (K1.out _) fun w1 hclw1 hfrw1 hb => ?_); obtain ⟨zw1_a, yw1_a, yyw1_a⟩ := sz3 (B := w.heap.size) hb; obtain ⟨zw1_b, yw1_b, yyw1_b⟩ := sz3 (B := w.heap.size + 1) hb; obtain ⟨zw1_r, yw1_r, yyw1_r⟩ := sz3 (B := w.heap.size + 1 + 1) hb; have sxw1_0 := sz1 (b := w.heap.size + 1 + 1 + 1) hb; have HBw1 := hbw (a := w) hb; clear hb
  go_upto_region 2 with fail
  refine nw _ fun R1 hR1 => ?_
  obtain ⟨zR1_a, yR1_a, yyR1_a, cR1_a_0, cR1_a_1⟩ := cz2 hR1 w.heap.size (.int .i64 h) (.int .u64 l)
  obtain ⟨zR1_b, yR1_b, yyR1_b, cR1_b_0, cR1_b_1⟩ := cz2 hR1 (w.heap.size + 1) (.int .i64 k) (.int .u64 m)
  obtain ⟨zR1_r, yR1_r, yyR1_r, cR1_r_0, cR1_r_1⟩ := cz2 hR1 (w.heap.size + 1 + 1) (.int .i64 0) (.int .u64 0)
  have fR1_r := fzc (b := w.heap.size + 1 + 1) hfrw1 hR1
  have lo_r : w.heap.size ≤ w.heap.size + 1 + 1 := by omega
  obtain ⟨zR1_by, yR1_by, yyR1_by, cR1_by_0, cR1_by_1⟩ := cz2 hR1 w1.heap.size (.int .u64 d1) (.int .u64 d0)
  have HBR1 := bhr (a := w) hR1
  clear hR1
  clear zw1_a yw1_a yyw1_a zw1_b yw1_b yyw1_b zw1_r yw1_r yyw1_r sxw1_0 hclw1 hfrw1 HBw1
  go_cut [7, 8, 9] (fun slot0 slot1 slot2 X1 => ∃ bX1q bX1rest : Nat, slot0 = .pointer (some ⟨bX1q, 0, none⟩) ∧ slot1 = .pointer (some ⟨bX1rest, 0, none⟩) ∧ slot2 = .bool ok ∧ R1.heap.size ≤ bX1q ∧ R1.heap.size ≤ bX1rest ∧ bX1rest ≠ bX1q ∧ Below R1.heap.size R1 X1 ∧ Has (bX1q) [.int .u64 q3, .int .u64 q2, .int .u64 q1, .int .u64 q0] X1 ∧ Has (bX1rest) [.int .u64 r1, .int .u64 r0] X1)
  case first =>
    clear HBR1
    have ltt : ∀ n : Nat, n < n + 1 + 1 := fun n => by omega
    have lttt : ∀ n : Nat, n + 1 < n + 1 + 1 := fun n => by omega
    go_region_held3 (fun w' => w'.cell? ⟨w.heap.size, 0, none⟩ = some (.int .i64 h) ∧ w'.cell? ⟨w.heap.size, 1, none⟩ = some (.int .u64 l) ∧ w'.cell? ⟨w1.heap.size, 0, none⟩ = some (.int .u64 d1) ∧ w'.cell? ⟨w1.heap.size, 1, none⟩ = some (.int .u64 d0)) (first | (simp [*, go_sem]; done) | (simp [*, go_sem, World.cell?_alloc_past]; done))
      (first
        | (go_at_call 41; (with_reducible refine (K2.out _).mono ?_); rintro e w2 ⟨rfl, hb⟩; (first | (with_reducible (obtain ⟨hclw2, hfrw2⟩ := bcell_drew hb)) | (obtain ⟨hclw2, hfrw2⟩ := bcell hb)); obtain ⟨zw2_a, yw2_a, yyw2_a⟩ := sz3 (B := w.heap.size) hb; obtain ⟨zw2_by, yw2_by, yyw2_by⟩ := sz3 (B := w1.heap.size) hb; (try have sw2_0 := sz (B := R1.heap.size) hb); (try have stw2_0 := sz (B := R1.heap.size + 1) hb); obtain ⟨sxw2_0, syw2_0⟩ := szx (b := R1.heap.size) hb; have HBw2 := hbw (a := R1) hb; clear hb; clear K2)
        | (go_at_call 43; (with_reducible refine cm (K3.out _) fun w3 hclw3 hfrw3 hb => ?_); obtain ⟨zw3_a, yw3_a, yyw3_a⟩ := sz3 (B := w.heap.size) hb; obtain ⟨zw3_by, yw3_by, yyw3_by⟩ := sz3 (B := w1.heap.size) hb; (try have sw3_0 := sz (B := R1.heap.size) hb); (try have stw3_0 := sz (B := R1.heap.size + 1) hb); obtain ⟨sxw3_0, syw3_0⟩ := szx (b := R1.heap.size) hb; (try have sw3_w2 := sz (B := w2.heap.size) hb); (try have stw3_w2 := sz (B := w2.heap.size + 1) hb); obtain ⟨sxw3_w2, syw3_w2⟩ := szx (b := w2.heap.size) hb; have HBw3 := hbw (a := R1) hb; clear hb; clear K3)
        | (go_at_call 42; (with_reducible refine cm (K4.out _) fun w4 hclw4 hfrw4 hb => ?_); obtain ⟨zw4_a, yw4_a, yyw4_a⟩ := sz3 (B := w.heap.size) hb; obtain ⟨zw4_by, yw4_by, yyw4_by⟩ := sz3 (B := w1.heap.size) hb; (try have sw4_0 := sz (B := R1.heap.size) hb); (try have stw4_0 := sz (B := R1.heap.size + 1) hb); obtain ⟨sxw4_0, syw4_0⟩ := szx (b := R1.heap.size) hb; (try have sw4_w2 := sz (B := w2.heap.size) hb); (try have stw4_w2 := sz (B := w2.heap.size + 1) hb); obtain ⟨sxw4_w2, syw4_w2⟩ := szx (b := w2.heap.size) hb; (try have sw4_w3 := sz (B := w3.heap.size) hb); (try have stw4_w3 := sz (B := w3.heap.size + 1) hb); obtain ⟨sxw4_w3, syw4_w3⟩ := szx (b := w3.heap.size) hb; have HBw4 := hbw (a := R1) hb; clear hb; clear K4))
    all_goals (rename_i hHeld; clear hHeld; go_wp2_with fail; go_meet; exact ⟨_, _, rfl, rfl, rfl, (by first | omega | (simp <;> omega)), (by first | omega | (simp <;> omega)), (by first | omega | (simp <;> omega)), bb, Has.mk4 (by first | (simp <;> omega) | omega) (by simp [go_sem, *]) (by simp [go_sem, *]) (by simp [go_sem, *]) (by simp [go_sem, *]), Has.mk2 (by first | (simp <;> omega) | omega) (by simp [go_sem, *]) (by simp [go_sem, *])⟩)
  case rest =>
  obtain ⟨X1, hX1⟩ : ∃ X, X = wc := ⟨wc, rfl⟩
  subst hX1
  obtain ⟨bX1q, bX1rest, rfl, rfl, rfl, m_bX1q, m_bX1rest, n_bX1rest_bX1q, hX, g_q, g_rest⟩ := hcut
  have zX1_a := Nat.lt_of_lt_of_le zR1_a hX.size
  have cX1_a_0 := (bcl hX zR1_a).trans cR1_a_0
  have cX1_a_1 := (bcl hX zR1_a).trans cR1_a_1
  have zX1_b := Nat.lt_of_lt_of_le zR1_b hX.size
  have cX1_b_0 := (bcl hX zR1_b).trans cR1_b_0
  have cX1_b_1 := (bcl hX zR1_b).trans cR1_b_1
  have zX1_r := Nat.lt_of_lt_of_le zR1_r hX.size
  have cX1_r_0 := (bcl hX zR1_r).trans cR1_r_0
  have cX1_r_1 := (bcl hX zR1_r).trans cR1_r_1
  have fX1_r := bfz hX zR1_r fR1_r
  have zX1_by := Nat.lt_of_lt_of_le zR1_by hX.size
  have cX1_by_0 := (bcl hX zR1_by).trans cR1_by_0
  have cX1_by_1 := (bcl hX zR1_by).trans cR1_by_1
  have zX1_q := g_q.1; have cX1_q_0 := g_q.2 0 _ rfl; have cX1_q_1 := g_q.2 1 _ rfl; have cX1_q_2 := g_q.2 2 _ rfl; have cX1_q_3 := g_q.2 3 _ rfl; clear g_q
  have zX1_rest := g_rest.1; have cX1_rest_0 := g_rest.2 0 _ rfl; have cX1_rest_1 := g_rest.2 1 _ rfl; clear g_rest
  obtain ⟨nebX1q_r, ndbX1q_r⟩ := nn (a := bX1q) (b := w.heap.size + 1 + 1)
  obtain ⟨nebX1rest_r, ndbX1rest_r⟩ := nn (a := bX1rest) (b := w.heap.size + 1 + 1)
  have HBX1 : Hid (Below w.heap.size w X1) := bl_trans HBR1.out hX
  clear hX
  clear zR1_a yR1_a yyR1_a cR1_a_0 cR1_a_1 zR1_b yR1_b yyR1_b cR1_b_0 cR1_b_1 zR1_r yR1_r yyR1_r cR1_r_0 cR1_r_1 fR1_r zR1_by yR1_by yyR1_by cR1_by_0 cR1_by_1 HBR1 m_bX1q m_bX1rest n_bX1rest_bX1q
  rcases HK.out with ⟨rfl, rfl, rfl, rfl⟩ | ⟨rfl, rfl, rfl, rfl⟩
  · clear HK HX K5 K6 K7 K8 K9
    go_wp2_with fail
    refine bodyPost_ret (by simp [results, Try.results23, go_sem, *]; try rfl) rfl ?_
    exact ⟨rfl, bb⟩
  clear HK
  rcases HX.out with ⟨hx, rfl⟩ | ⟨hx, rfl⟩
  · clear HX
    have dx : decide (x ≥ 0) = true := by simp; omega
    clear hx
    go_upto_region 6 with fail
    refine nw _ fun R2 hR2 => ?_
    have zR2_a : w.heap.size < R2.heap.size := by rw [hR2]; first | omega | (simp <;> omega)
    have yR2_a : w.heap.size < R2.heap.size + 1 := by omega
    have yyR2_a : w.heap.size < R2.heap.size + 1 + 1 := by omega
    have cR2_a_0 : R2.cell? ⟨w.heap.size, 0, none⟩ = some (.int .i64 h) := cel hR2
    have cR2_a_1 : R2.cell? ⟨w.heap.size, 1, none⟩ = some (.int .u64 l) := cel hR2
    have zR2_b : w.heap.size + 1 < R2.heap.size := by rw [hR2]; first | omega | (simp <;> omega)
    have yR2_b : w.heap.size + 1 < R2.heap.size + 1 := by omega
    have yyR2_b : w.heap.size + 1 < R2.heap.size + 1 + 1 := by omega
    have cR2_b_0 : R2.cell? ⟨w.heap.size + 1, 0, none⟩ = some (.int .i64 k) := cel hR2
    have cR2_b_1 : R2.cell? ⟨w.heap.size + 1, 1, none⟩ = some (.int .u64 m) := cel hR2
    have zR2_r : w.heap.size + 1 + 1 < R2.heap.size := by rw [hR2]; first | omega | (simp <;> omega)
    have yR2_r : w.heap.size + 1 + 1 < R2.heap.size + 1 := by omega
    have yyR2_r : w.heap.size + 1 + 1 < R2.heap.size + 1 + 1 := by omega
    have cR2_r_0 : R2.cell? ⟨w.heap.size + 1 + 1, 0, none⟩ = some (.int .i64 0) := cel hR2
    have cR2_r_1 : R2.cell? ⟨w.heap.size + 1 + 1, 1, none⟩ = some (.int .u64 0) := cel hR2
    have fR2_r := fz (b := w.heap.size + 1 + 1) hR2
    have zR2_by : w1.heap.size < R2.heap.size := by rw [hR2]; first | omega | (simp <;> omega)
    have yR2_by : w1.heap.size < R2.heap.size + 1 := by omega
    have yyR2_by : w1.heap.size < R2.heap.size + 1 + 1 := by omega
    have cR2_by_0 : R2.cell? ⟨w1.heap.size, 0, none⟩ = some (.int .u64 d1) := cel hR2
    have cR2_by_1 : R2.cell? ⟨w1.heap.size, 1, none⟩ = some (.int .u64 d0) := cel hR2
    have zR2_q : bX1q < R2.heap.size := by rw [hR2]; first | omega | (simp <;> omega)
    have yR2_q : bX1q < R2.heap.size + 1 := by omega
    have yyR2_q : bX1q < R2.heap.size + 1 + 1 := by omega
    have cR2_q_0 : R2.cell? ⟨bX1q, 0, none⟩ = some (.int .u64 q3) := cel hR2
    have cR2_q_1 : R2.cell? ⟨bX1q, 1, none⟩ = some (.int .u64 q2) := cel hR2
    have cR2_q_2 : R2.cell? ⟨bX1q, 2, none⟩ = some (.int .u64 q1) := cel hR2
    have cR2_q_3 : R2.cell? ⟨bX1q, 3, none⟩ = some (.int .u64 q0) := cel hR2
    have zR2_rest : bX1rest < R2.heap.size := by rw [hR2]; first | omega | (simp <;> omega)
    have yR2_rest : bX1rest < R2.heap.size + 1 := by omega
    have yyR2_rest : bX1rest < R2.heap.size + 1 + 1 := by omega
    have cR2_rest_0 : R2.cell? ⟨bX1rest, 0, none⟩ = some (.int .u64 r1) := cel hR2
    have cR2_rest_1 : R2.cell? ⟨bX1rest, 1, none⟩ = some (.int .u64 r0) := cel hR2
    have HBR2 := bhr (a := w) hR2
    clear hR2
    clear HBX1 zX1_a cX1_a_0 cX1_a_1 zX1_b cX1_b_0 cX1_b_1 zX1_r cX1_r_0 cX1_r_1 fX1_r zX1_by cX1_by_0 cX1_by_1 zX1_q cX1_q_0 cX1_q_1 cX1_q_2 cX1_q_3 zX1_rest cX1_rest_0 cX1_rest_1
    go_region_held3 (fun w' => w'.cell? ⟨w1.heap.size, 0, none⟩ = some (.int .u64 d1) ∧ w'.cell? ⟨w1.heap.size, 1, none⟩ = some (.int .u64 d0) ∧ w'.cell? ⟨bX1rest, 0, none⟩ = some (.int .u64 r1) ∧ w'.cell? ⟨bX1rest, 1, none⟩ = some (.int .u64 r0)) (first | (simp [*, go_sem]; done) | (simp [*, go_sem, World.cell?_alloc_past]; done))
      (first
        | (go_at_call 43; (with_reducible refine (K5.out _).mono ?_); rintro e w5 ⟨rfl, hb⟩; (first | (with_reducible (obtain ⟨hclw5, hfrw5⟩ := bcell_drew hb)) | (obtain ⟨hclw5, hfrw5⟩ := bcell hb)); obtain ⟨zw5_a, yw5_a, yyw5_a⟩ := sz3 (B := w.heap.size) hb; obtain ⟨zw5_b, yw5_b, yyw5_b⟩ := sz3 (B := w.heap.size + 1) hb; obtain ⟨zw5_r, yw5_r, yyw5_r⟩ := sz3 (B := w.heap.size + 1 + 1) hb; obtain ⟨zw5_by, yw5_by, yyw5_by⟩ := sz3 (B := w1.heap.size) hb; obtain ⟨zw5_q, yw5_q, yyw5_q⟩ := sz3 (B := bX1q) hb; obtain ⟨zw5_rest, yw5_rest, yyw5_rest⟩ := sz3 (B := bX1rest) hb; have sxw5_0 := sz1 (b := R2.heap.size) hb; have HBw5 := hbw (a := w) hb; clear hb; clear K5)
        | (go_at_call 44; (with_reducible refine cm (K6.out _) fun w6 hclw6 hfrw6 hb => ?_); obtain ⟨zw6_a, yw6_a, yyw6_a⟩ := sz3 (B := w.heap.size) hb; obtain ⟨zw6_b, yw6_b, yyw6_b⟩ := sz3 (B := w.heap.size + 1) hb; obtain ⟨zw6_r, yw6_r, yyw6_r⟩ := sz3 (B := w.heap.size + 1 + 1) hb; obtain ⟨zw6_by, yw6_by, yyw6_by⟩ := sz3 (B := w1.heap.size) hb; obtain ⟨zw6_q, yw6_q, yyw6_q⟩ := sz3 (B := bX1q) hb; obtain ⟨zw6_rest, yw6_rest, yyw6_rest⟩ := sz3 (B := bX1rest) hb; have sxw6_0 := sz1 (b := R2.heap.size) hb; have sxw6_w5 := sz1 (b := w5.heap.size) hb; have HBw6 := hbw (a := w) hb; clear hb; clear K6))
    rename_i hHeld
    clear hHeld
    go_upto_region 8 with fail
    refine nw _ fun R3 hR3 => ?_
    have zR3_a : w.heap.size < R3.heap.size := by rw [hR3]; first | omega | (simp <;> omega)
    have yR3_a : w.heap.size < R3.heap.size + 1 := by omega
    have yyR3_a : w.heap.size < R3.heap.size + 1 + 1 := by omega
    have cR3_a_0 : R3.cell? ⟨w.heap.size, 0, none⟩ = some (.int .i64 h) := cel hR3
    have cR3_a_1 : R3.cell? ⟨w.heap.size, 1, none⟩ = some (.int .u64 l) := cel hR3
    have zR3_b : w.heap.size + 1 < R3.heap.size := by rw [hR3]; first | omega | (simp <;> omega)
    have yR3_b : w.heap.size + 1 < R3.heap.size + 1 := by omega
    have yyR3_b : w.heap.size + 1 < R3.heap.size + 1 + 1 := by omega
    have cR3_b_0 : R3.cell? ⟨w.heap.size + 1, 0, none⟩ = some (.int .i64 k) := cel hR3
    have cR3_b_1 : R3.cell? ⟨w.heap.size + 1, 1, none⟩ = some (.int .u64 m) := cel hR3
    have zR3_r : w.heap.size + 1 + 1 < R3.heap.size := by rw [hR3]; first | omega | (simp <;> omega)
    have yR3_r : w.heap.size + 1 + 1 < R3.heap.size + 1 := by omega
    have yyR3_r : w.heap.size + 1 + 1 < R3.heap.size + 1 + 1 := by omega
    have cR3_r_0 : R3.cell? ⟨w.heap.size + 1 + 1, 0, none⟩ = some (.int .i64 0) := cel hR3
    have cR3_r_1 : R3.cell? ⟨w.heap.size + 1 + 1, 1, none⟩ = some (.int .u64 0) := cel hR3
    have fR3_r := fzc (b := w.heap.size + 1 + 1) hfrw6 hR3
    have zR3_by : w1.heap.size < R3.heap.size := by rw [hR3]; first | omega | (simp <;> omega)
    have yR3_by : w1.heap.size < R3.heap.size + 1 := by omega
    have yyR3_by : w1.heap.size < R3.heap.size + 1 + 1 := by omega
    have cR3_by_0 : R3.cell? ⟨w1.heap.size, 0, none⟩ = some (.int .u64 d1) := cel hR3
    have cR3_by_1 : R3.cell? ⟨w1.heap.size, 1, none⟩ = some (.int .u64 d0) := cel hR3
    have zR3_q : bX1q < R3.heap.size := by rw [hR3]; first | omega | (simp <;> omega)
    have yR3_q : bX1q < R3.heap.size + 1 := by omega
    have yyR3_q : bX1q < R3.heap.size + 1 + 1 := by omega
    have cR3_q_0 : R3.cell? ⟨bX1q, 0, none⟩ = some (.int .u64 q3) := cel hR3
    have cR3_q_1 : R3.cell? ⟨bX1q, 1, none⟩ = some (.int .u64 q2) := cel hR3
    have cR3_q_2 : R3.cell? ⟨bX1q, 2, none⟩ = some (.int .u64 q1) := cel hR3
    have cR3_q_3 : R3.cell? ⟨bX1q, 3, none⟩ = some (.int .u64 q0) := cel hR3
    have zR3_rest : bX1rest < R3.heap.size := by rw [hR3]; first | omega | (simp <;> omega)
    have yR3_rest : bX1rest < R3.heap.size + 1 := by omega
    have yyR3_rest : bX1rest < R3.heap.size + 1 + 1 := by omega
    have cR3_rest_0 : R3.cell? ⟨bX1rest, 0, none⟩ = some (.int .u64 r1) := cel hR3
    have cR3_rest_1 : R3.cell? ⟨bX1rest, 1, none⟩ = some (.int .u64 r0) := cel hR3
    have HBR3 := bhr (a := w) hR3
    clear hR3
    clear zR2_a yR2_a yyR2_a cR2_a_0 cR2_a_1 zR2_b yR2_b yyR2_b cR2_b_0 cR2_b_1 zR2_r yR2_r yyR2_r cR2_r_0 cR2_r_1 fR2_r zR2_by yR2_by yyR2_by cR2_by_0 cR2_by_1 zR2_q yR2_q yyR2_q cR2_q_0 cR2_q_1 cR2_q_2 cR2_q_3 zR2_rest yR2_rest yyR2_rest cR2_rest_0 cR2_rest_1 HBR2 zw5_a yw5_a yyw5_a zw5_b yw5_b yyw5_b zw5_r yw5_r yyw5_r zw5_by yw5_by yyw5_by zw5_q yw5_q yyw5_q zw5_rest yw5_rest yyw5_rest sxw5_0 hclw5 hfrw5 HBw5 zw6_a yw6_a yyw6_a zw6_b yw6_b yyw6_b zw6_r yw6_r yyw6_r zw6_by yw6_by yyw6_by zw6_q yw6_q yyw6_q zw6_rest yw6_rest yyw6_rest sxw6_0 sxw6_w5 hclw6 hfrw6 HBw6
    go_region_held3 (fun w' => w'.cell? ⟨w.heap.size, 0, none⟩ = some (.int .i64 h) ∧ w'.cell? ⟨w.heap.size, 1, none⟩ = some (.int .u64 l) ∧ w'.cell? ⟨w.heap.size + 1, 0, none⟩ = some (.int .i64 k) ∧ w'.cell? ⟨w.heap.size + 1, 1, none⟩ = some (.int .u64 m) ∧ w'.cell? ⟨bX1q, 0, none⟩ = some (.int .u64 q3) ∧ w'.cell? ⟨bX1q, 1, none⟩ = some (.int .u64 q2) ∧ w'.cell? ⟨bX1q, 2, none⟩ = some (.int .u64 q1) ∧ w'.cell? ⟨bX1q, 3, none⟩ = some (.int .u64 q0)) (first | (simp [*, go_sem]; done) | (simp [*, go_sem, World.cell?_alloc_past]; done))
      (first
        | (go_at_call 46; (with_reducible refine (K7.out _).mono ?_); rintro e w7 ⟨rfl, hb⟩; (first | (with_reducible (obtain ⟨hclw7, hfrw7⟩ := bcell_drew hb)) | (obtain ⟨hclw7, hfrw7⟩ := bcell hb)); obtain ⟨zw7_a, yw7_a, yyw7_a⟩ := sz3 (B := w.heap.size) hb; obtain ⟨zw7_b, yw7_b, yyw7_b⟩ := sz3 (B := w.heap.size + 1) hb; obtain ⟨zw7_r, yw7_r, yyw7_r⟩ := sz3 (B := w.heap.size + 1 + 1) hb; obtain ⟨zw7_by, yw7_by, yyw7_by⟩ := sz3 (B := w1.heap.size) hb; obtain ⟨zw7_q, yw7_q, yyw7_q⟩ := sz3 (B := bX1q) hb; obtain ⟨zw7_rest, yw7_rest, yyw7_rest⟩ := sz3 (B := bX1rest) hb; have sxw7_0 := sz1 (b := R3.heap.size) hb; have HBw7 := hbw (a := w) hb; clear hb; clear K7)
        | (go_at_call 46; (with_reducible refine cm (K8.out _) fun w8 hclw8 hfrw8 hb => ?_); obtain ⟨zw8_a, yw8_a, yyw8_a⟩ := sz3 (B := w.heap.size) hb; obtain ⟨zw8_b, yw8_b, yyw8_b⟩ := sz3 (B := w.heap.size + 1) hb; obtain ⟨zw8_r, yw8_r, yyw8_r⟩ := sz3 (B := w.heap.size + 1 + 1) hb; obtain ⟨zw8_by, yw8_by, yyw8_by⟩ := sz3 (B := w1.heap.size) hb; obtain ⟨zw8_q, yw8_q, yyw8_q⟩ := sz3 (B := bX1q) hb; obtain ⟨zw8_rest, yw8_rest, yyw8_rest⟩ := sz3 (B := bX1rest) hb; have sxw8_0 := sz1 (b := R3.heap.size) hb; have sxw8_w7 := sz1 (b := w7.heap.size) hb; have HBw8 := hbw (a := w) hb; clear hb; clear K8)
        | (go_at_call 45; (with_reducible refine cm (K9.out _) fun w9 hclw9 hfrw9 hb => ?_); obtain ⟨zw9_a, yw9_a, yyw9_a⟩ := sz3 (B := w.heap.size) hb; obtain ⟨zw9_b, yw9_b, yyw9_b⟩ := sz3 (B := w.heap.size + 1) hb; obtain ⟨zw9_r, yw9_r, yyw9_r⟩ := sz3 (B := w.heap.size + 1 + 1) hb; obtain ⟨zw9_by, yw9_by, yyw9_by⟩ := sz3 (B := w1.heap.size) hb; obtain ⟨zw9_q, yw9_q, yyw9_q⟩ := sz3 (B := bX1q) hb; obtain ⟨zw9_rest, yw9_rest, yyw9_rest⟩ := sz3 (B := bX1rest) hb; have sxw9_0 := sz1 (b := R3.heap.size) hb; have sxw9_w7 := sz1 (b := w7.heap.size) hb; have sxw9_w8 := sz1 (b := w8.heap.size) hb; have HBw9 := hbw (a := w) hb; clear hb; clear K9))
    rename_i hHeld
    clear hHeld
    go_wp2_with fail
    refine bodyPost_ret (by simp [results, Try.results23, go_sem, *]; try rfl) rfl ?_
    exact ⟨rfl, bb⟩
  · clear HX
    have dx : decide (x ≥ 0) = false := by simp; omega
    clear hx
    go_upto_region 6 with fail
    refine nw _ fun R2 hR2 => ?_
    have zR2_a : w.heap.size < R2.heap.size := by rw [hR2]; first | omega | (simp <;> omega)
    have yR2_a : w.heap.size < R2.heap.size + 1 := by omega
    have yyR2_a : w.heap.size < R2.heap.size + 1 + 1 := by omega
    have cR2_a_0 : R2.cell? ⟨w.heap.size, 0, none⟩ = some (.int .i64 h) := cel hR2
    have cR2_a_1 : R2.cell? ⟨w.heap.size, 1, none⟩ = some (.int .u64 l) := cel hR2
    have zR2_b : w.heap.size + 1 < R2.heap.size := by rw [hR2]; first | omega | (simp <;> omega)
    have yR2_b : w.heap.size + 1 < R2.heap.size + 1 := by omega
    have yyR2_b : w.heap.size + 1 < R2.heap.size + 1 + 1 := by omega
    have cR2_b_0 : R2.cell? ⟨w.heap.size + 1, 0, none⟩ = some (.int .i64 k) := cel hR2
    have cR2_b_1 : R2.cell? ⟨w.heap.size + 1, 1, none⟩ = some (.int .u64 m) := cel hR2
    have zR2_r : w.heap.size + 1 + 1 < R2.heap.size := by rw [hR2]; first | omega | (simp <;> omega)
    have yR2_r : w.heap.size + 1 + 1 < R2.heap.size + 1 := by omega
    have yyR2_r : w.heap.size + 1 + 1 < R2.heap.size + 1 + 1 := by omega
    have cR2_r_0 : R2.cell? ⟨w.heap.size + 1 + 1, 0, none⟩ = some (.int .i64 0) := cel hR2
    have cR2_r_1 : R2.cell? ⟨w.heap.size + 1 + 1, 1, none⟩ = some (.int .u64 0) := cel hR2
    have fR2_r := fz (b := w.heap.size + 1 + 1) hR2
    have zR2_by : w1.heap.size < R2.heap.size := by rw [hR2]; first | omega | (simp <;> omega)
    have yR2_by : w1.heap.size < R2.heap.size + 1 := by omega
    have yyR2_by : w1.heap.size < R2.heap.size + 1 + 1 := by omega
    have cR2_by_0 : R2.cell? ⟨w1.heap.size, 0, none⟩ = some (.int .u64 d1) := cel hR2
    have cR2_by_1 : R2.cell? ⟨w1.heap.size, 1, none⟩ = some (.int .u64 d0) := cel hR2
    have zR2_q : bX1q < R2.heap.size := by rw [hR2]; first | omega | (simp <;> omega)
    have yR2_q : bX1q < R2.heap.size + 1 := by omega
    have yyR2_q : bX1q < R2.heap.size + 1 + 1 := by omega
    have cR2_q_0 : R2.cell? ⟨bX1q, 0, none⟩ = some (.int .u64 q3) := cel hR2
    have cR2_q_1 : R2.cell? ⟨bX1q, 1, none⟩ = some (.int .u64 q2) := cel hR2
    have cR2_q_2 : R2.cell? ⟨bX1q, 2, none⟩ = some (.int .u64 q1) := cel hR2
    have cR2_q_3 : R2.cell? ⟨bX1q, 3, none⟩ = some (.int .u64 q0) := cel hR2
    have zR2_rest : bX1rest < R2.heap.size := by rw [hR2]; first | omega | (simp <;> omega)
    have yR2_rest : bX1rest < R2.heap.size + 1 := by omega
    have yyR2_rest : bX1rest < R2.heap.size + 1 + 1 := by omega
    have cR2_rest_0 : R2.cell? ⟨bX1rest, 0, none⟩ = some (.int .u64 r1) := cel hR2
    have cR2_rest_1 : R2.cell? ⟨bX1rest, 1, none⟩ = some (.int .u64 r0) := cel hR2
    have HBR2 := bhr (a := w) hR2
    clear hR2
    clear HBX1 zX1_a cX1_a_0 cX1_a_1 zX1_b cX1_b_0 cX1_b_1 zX1_r cX1_r_0 cX1_r_1 fX1_r zX1_by cX1_by_0 cX1_by_1 zX1_q cX1_q_0 cX1_q_1 cX1_q_2 cX1_q_3 zX1_rest cX1_rest_0 cX1_rest_1
    go_region_held3 (fun w' => w'.cell? ⟨w1.heap.size, 0, none⟩ = some (.int .u64 d1) ∧ w'.cell? ⟨w1.heap.size, 1, none⟩ = some (.int .u64 d0) ∧ w'.cell? ⟨bX1rest, 0, none⟩ = some (.int .u64 r1) ∧ w'.cell? ⟨bX1rest, 1, none⟩ = some (.int .u64 r0)) (first | (simp [*, go_sem]; done) | (simp [*, go_sem, World.cell?_alloc_past]; done))
      (first
        | (go_at_call 43; (with_reducible refine (K5.out _).mono ?_); rintro e w5 ⟨rfl, hb⟩; (first | (with_reducible (obtain ⟨hclw5, hfrw5⟩ := bcell_drew hb)) | (obtain ⟨hclw5, hfrw5⟩ := bcell hb)); obtain ⟨zw5_a, yw5_a, yyw5_a⟩ := sz3 (B := w.heap.size) hb; obtain ⟨zw5_b, yw5_b, yyw5_b⟩ := sz3 (B := w.heap.size + 1) hb; obtain ⟨zw5_r, yw5_r, yyw5_r⟩ := sz3 (B := w.heap.size + 1 + 1) hb; obtain ⟨zw5_by, yw5_by, yyw5_by⟩ := sz3 (B := w1.heap.size) hb; obtain ⟨zw5_q, yw5_q, yyw5_q⟩ := sz3 (B := bX1q) hb; obtain ⟨zw5_rest, yw5_rest, yyw5_rest⟩ := sz3 (B := bX1rest) hb; have sxw5_0 := sz1 (b := R2.heap.size) hb; have HBw5 := hbw (a := w) hb; clear hb; clear K5)
        | (go_at_call 44; (with_reducible refine cm (K6.out _) fun w6 hclw6 hfrw6 hb => ?_); obtain ⟨zw6_a, yw6_a, yyw6_a⟩ := sz3 (B := w.heap.size) hb; obtain ⟨zw6_b, yw6_b, yyw6_b⟩ := sz3 (B := w.heap.size + 1) hb; obtain ⟨zw6_r, yw6_r, yyw6_r⟩ := sz3 (B := w.heap.size + 1 + 1) hb; obtain ⟨zw6_by, yw6_by, yyw6_by⟩ := sz3 (B := w1.heap.size) hb; obtain ⟨zw6_q, yw6_q, yyw6_q⟩ := sz3 (B := bX1q) hb; obtain ⟨zw6_rest, yw6_rest, yyw6_rest⟩ := sz3 (B := bX1rest) hb; have sxw6_0 := sz1 (b := R2.heap.size) hb; have sxw6_w5 := sz1 (b := w5.heap.size) hb; have HBw6 := hbw (a := w) hb; clear hb; clear K6))
    rename_i hHeld
    clear hHeld
    go_upto_region 8 with fail
    refine nw _ fun R3 hR3 => ?_
    have zR3_a : w.heap.size < R3.heap.size := by rw [hR3]; first | omega | (simp <;> omega)
    have yR3_a : w.heap.size < R3.heap.size + 1 := by omega
    have yyR3_a : w.heap.size < R3.heap.size + 1 + 1 := by omega
    have cR3_a_0 : R3.cell? ⟨w.heap.size, 0, none⟩ = some (.int .i64 h) := cel hR3
    have cR3_a_1 : R3.cell? ⟨w.heap.size, 1, none⟩ = some (.int .u64 l) := cel hR3
    have zR3_b : w.heap.size + 1 < R3.heap.size := by rw [hR3]; first | omega | (simp <;> omega)
    have yR3_b : w.heap.size + 1 < R3.heap.size + 1 := by omega
    have yyR3_b : w.heap.size + 1 < R3.heap.size + 1 + 1 := by omega
    have cR3_b_0 : R3.cell? ⟨w.heap.size + 1, 0, none⟩ = some (.int .i64 k) := cel hR3
    have cR3_b_1 : R3.cell? ⟨w.heap.size + 1, 1, none⟩ = some (.int .u64 m) := cel hR3
    have zR3_r : w.heap.size + 1 + 1 < R3.heap.size := by rw [hR3]; first | omega | (simp <;> omega)
    have yR3_r : w.heap.size + 1 + 1 < R3.heap.size + 1 := by omega
    have yyR3_r : w.heap.size + 1 + 1 < R3.heap.size + 1 + 1 := by omega
    have cR3_r_0 : R3.cell? ⟨w.heap.size + 1 + 1, 0, none⟩ = some (.int .i64 0) := cel hR3
    have cR3_r_1 : R3.cell? ⟨w.heap.size + 1 + 1, 1, none⟩ = some (.int .u64 0) := cel hR3
    have fR3_r := fzc (b := w.heap.size + 1 + 1) hfrw6 hR3
    have zR3_by : w1.heap.size < R3.heap.size := by rw [hR3]; first | omega | (simp <;> omega)
    have yR3_by : w1.heap.size < R3.heap.size + 1 := by omega
    have yyR3_by : w1.heap.size < R3.heap.size + 1 + 1 := by omega
    have cR3_by_0 : R3.cell? ⟨w1.heap.size, 0, none⟩ = some (.int .u64 d1) := cel hR3
    have cR3_by_1 : R3.cell? ⟨w1.heap.size, 1, none⟩ = some (.int .u64 d0) := cel hR3
    have zR3_q : bX1q < R3.heap.size := by rw [hR3]; first | omega | (simp <;> omega)
    have yR3_q : bX1q < R3.heap.size + 1 := by omega
    have yyR3_q : bX1q < R3.heap.size + 1 + 1 := by omega
    have cR3_q_0 : R3.cell? ⟨bX1q, 0, none⟩ = some (.int .u64 q3) := cel hR3
    have cR3_q_1 : R3.cell? ⟨bX1q, 1, none⟩ = some (.int .u64 q2) := cel hR3
    have cR3_q_2 : R3.cell? ⟨bX1q, 2, none⟩ = some (.int .u64 q1) := cel hR3
    have cR3_q_3 : R3.cell? ⟨bX1q, 3, none⟩ = some (.int .u64 q0) := cel hR3
    have zR3_rest : bX1rest < R3.heap.size := by rw [hR3]; first | omega | (simp <;> omega)
    have yR3_rest : bX1rest < R3.heap.size + 1 := by omega
    have yyR3_rest : bX1rest < R3.heap.size + 1 + 1 := by omega
    have cR3_rest_0 : R3.cell? ⟨bX1rest, 0, none⟩ = some (.int .u64 r1) := cel hR3
    have cR3_rest_1 : R3.cell? ⟨bX1rest, 1, none⟩ = some (.int .u64 r0) := cel hR3
    have HBR3 := bhr (a := w) hR3
    clear hR3
    clear zR2_a yR2_a yyR2_a cR2_a_0 cR2_a_1 zR2_b yR2_b yyR2_b cR2_b_0 cR2_b_1 zR2_r yR2_r yyR2_r cR2_r_0 cR2_r_1 fR2_r zR2_by yR2_by yyR2_by cR2_by_0 cR2_by_1 zR2_q yR2_q yyR2_q cR2_q_0 cR2_q_1 cR2_q_2 cR2_q_3 zR2_rest yR2_rest yyR2_rest cR2_rest_0 cR2_rest_1 HBR2 zw5_a yw5_a yyw5_a zw5_b yw5_b yyw5_b zw5_r yw5_r yyw5_r zw5_by yw5_by yyw5_by zw5_q yw5_q yyw5_q zw5_rest yw5_rest yyw5_rest sxw5_0 hclw5 hfrw5 HBw5 zw6_a yw6_a yyw6_a zw6_b yw6_b yyw6_b zw6_r yw6_r yyw6_r zw6_by yw6_by yyw6_by zw6_q yw6_q yyw6_q zw6_rest yw6_rest yyw6_rest sxw6_0 sxw6_w5 hclw6 hfrw6 HBw6
    go_region_held3 (fun w' => w'.cell? ⟨w.heap.size, 0, none⟩ = some (.int .i64 h) ∧ w'.cell? ⟨w.heap.size, 1, none⟩ = some (.int .u64 l) ∧ w'.cell? ⟨w.heap.size + 1, 0, none⟩ = some (.int .i64 k) ∧ w'.cell? ⟨w.heap.size + 1, 1, none⟩ = some (.int .u64 m) ∧ w'.cell? ⟨bX1q, 0, none⟩ = some (.int .u64 q3) ∧ w'.cell? ⟨bX1q, 1, none⟩ = some (.int .u64 q2) ∧ w'.cell? ⟨bX1q, 2, none⟩ = some (.int .u64 q1) ∧ w'.cell? ⟨bX1q, 3, none⟩ = some (.int .u64 q0)) (first | (simp [*, go_sem]; done) | (simp [*, go_sem, World.cell?_alloc_past]; done))
      (first
        | (go_at_call 46; (with_reducible refine (K7.out _).mono ?_); rintro e w7 ⟨rfl, hb⟩; (first | (with_reducible (obtain ⟨hclw7, hfrw7⟩ := bcell_drew hb)) | (obtain ⟨hclw7, hfrw7⟩ := bcell hb)); obtain ⟨zw7_a, yw7_a, yyw7_a⟩ := sz3 (B := w.heap.size) hb; obtain ⟨zw7_b, yw7_b, yyw7_b⟩ := sz3 (B := w.heap.size + 1) hb; obtain ⟨zw7_r, yw7_r, yyw7_r⟩ := sz3 (B := w.heap.size + 1 + 1) hb; obtain ⟨zw7_by, yw7_by, yyw7_by⟩ := sz3 (B := w1.heap.size) hb; obtain ⟨zw7_q, yw7_q, yyw7_q⟩ := sz3 (B := bX1q) hb; obtain ⟨zw7_rest, yw7_rest, yyw7_rest⟩ := sz3 (B := bX1rest) hb; have sxw7_0 := sz1 (b := R3.heap.size) hb; have HBw7 := hbw (a := w) hb; clear hb; clear K7)
        | (go_at_call 46; (with_reducible refine cm (K8.out _) fun w8 hclw8 hfrw8 hb => ?_); obtain ⟨zw8_a, yw8_a, yyw8_a⟩ := sz3 (B := w.heap.size) hb; obtain ⟨zw8_b, yw8_b, yyw8_b⟩ := sz3 (B := w.heap.size + 1) hb; obtain ⟨zw8_r, yw8_r, yyw8_r⟩ := sz3 (B := w.heap.size + 1 + 1) hb; obtain ⟨zw8_by, yw8_by, yyw8_by⟩ := sz3 (B := w1.heap.size) hb; obtain ⟨zw8_q, yw8_q, yyw8_q⟩ := sz3 (B := bX1q) hb; obtain ⟨zw8_rest, yw8_rest, yyw8_rest⟩ := sz3 (B := bX1rest) hb; have sxw8_0 := sz1 (b := R3.heap.size) hb; have sxw8_w7 := sz1 (b := w7.heap.size) hb; have HBw8 := hbw (a := w) hb; clear hb; clear K8)
        | (go_at_call 45; (with_reducible refine cm (K9.out _) fun w9 hclw9 hfrw9 hb => ?_); obtain ⟨zw9_a, yw9_a, yyw9_a⟩ := sz3 (B := w.heap.size) hb; obtain ⟨zw9_b, yw9_b, yyw9_b⟩ := sz3 (B := w.heap.size + 1) hb; obtain ⟨zw9_r, yw9_r, yyw9_r⟩ := sz3 (B := w.heap.size + 1 + 1) hb; obtain ⟨zw9_by, yw9_by, yyw9_by⟩ := sz3 (B := w1.heap.size) hb; obtain ⟨zw9_q, yw9_q, yyw9_q⟩ := sz3 (B := bX1q) hb; obtain ⟨zw9_rest, yw9_rest, yyw9_rest⟩ := sz3 (B := bX1rest) hb; have sxw9_0 := sz1 (b := R3.heap.size) hb; have sxw9_w7 := sz1 (b := w7.heap.size) hb; have sxw9_w8 := sz1 (b := w8.heap.size) hb; have HBw9 := hbw (a := w) hb; clear hb; clear K9))
    rename_i hHeld
    clear hHeld
    go_wp2_with fail
    refine bodyPost_ret (by simp [results, Try.results23, go_sem, *]; try rfl) rfl ?_
    exact ⟨rfl, bb⟩
end Go.Proofs.Ytmmlekgojblopaa
namespace Go.Proofs.Ytmmlekgojblopaa
open Go.RowKit

theorem div_round {N d : Nat} (hd : d ≠ 0) : (N * 2 + d) / (2 * d) = N / d + (if d ≤ N % d * 2 then 1 else 0) := by
  have e := Nat.div_add_mod N d
  have hr := Nat.mod_lt N (show 0 < d by omega)
  generalize N / d = q at *
  generalize N % d = r at *
  have h1 : N * 2 + d = 2 * d * q + (r * 2 + d) := by rw [← e, Nat.mul_assoc]; omega
  rw [h1, Nat.mul_add_div (by omega)]
  congr 1
  by_cases c : d ≤ r * 2
  · rw [if_pos c]; exact Nat.div_eq_of_lt_le (by omega) (by omega)
  · rw [if_neg c]; exact Nat.div_eq_of_lt (by omega)
theorem icmp_ge {a b : Nat} : 0 ≤ icmp (a : Int) (b : Int) ↔ b ≤ a := by
  unfold icmp; repeat' split
  all_goals omega
theorem fdiv_any (x y : Int) (hx : My x) (hy : My y) (h0 : y ≠ 0) (w : World) :
    Calls Try.prog 23 #[.agg #[.int .i64 (fh x), .int .u64 (fl x)], .agg #[.int .i64 (fh y), .int .u64 (fl y)]] w fun e w' => e = .returned (.tuple #[.agg #[.int .i64 (fh (ov (divr x y))), .int .u64 (fl (ov (divr x y)))], .int .i64 (oe (divr x y))]) ∧ Below w.heap.size w w' := by
  have z : Wd 0 := ⟨by omega, by omega⟩
  have ax := abs_lt hx
  have ay := abs_lt hy
  have hd : y.natAbs ≠ 0 := by omega
  have C3 := shl_any 0 0 _ _ 64 z z (wd_wd x.natAbs 1) (wd_wd x.natAbs 0) (by decide)
  rw [v4_lower, abs_v2 hx.fx, pow_64] at C3
  have C4 := div_any _ _ _ _ _ _ (wd_wd (x.natAbs * 18446744073709551616) 3) (wd_wd (x.natAbs * 18446744073709551616) 2) (wd_wd (x.natAbs * 18446744073709551616) 1) (wd_wd (x.natAbs * 18446744073709551616) 0) (wd_wd y.natAbs 1) (wd_wd y.natAbs 0) (by rw [abs_v2 hy.fx]; exact hd)
  have hN : x.natAbs * 18446744073709551616 < 115792089237316195423570985008687907853269984665640564039457584007913129639936 := by omega
  rw [v4_of hN, abs_v2 hy.fx] at C4
  have hs : divr x y = sg (decide (x < 0) != decide (y < 0)) ((x.natAbs * 18446744073709551616 / y.natAbs + (if y.natAbs ≤ x.natAbs * 18446744073709551616 % y.natAbs * 2 then 1 else 0) : Nat) : Int) := by
    unfold divr
    rw [show x.natAbs * 36893488147419103232 = x.natAbs * 18446744073709551616 * 2 by omega, div_round hd]
  rw [hs]
  have C1 := size_any y hy.fx
  have B := abs_v2 hy.fx
  generalize x.natAbs * 18446744073709551616 = N at *
  have hR := Nat.mod_lt N (show 0 < y.natAbs by omega)
  have hQ := Nat.lt_of_le_of_lt (Nat.div_le_self N y.natAbs) hN
  generalize y.natAbs = d at *
  generalize N / d = Q at *
  generalize N % d = R at *
  have C5 := shl_any 0 0 _ _ 1 z z (wd_wd R 1) (wd_wd R 0) (by decide)
  rw [v4_lower, v2_wd, Nat.mod_eq_of_lt (show R < _ by omega), pow_1] at C5
  have C6 := cmp_any _ _ _ _ 0 0 _ _ (wd_wd (R * 2) 3) (wd_wd (R * 2) 2) (wd_wd (R * 2) 1) (wd_wd (R * 2) 0) z z (wd_wd d 1) (wd_wd d 0)
  rw [v4_of (show R * 2 < _ by omega), v4_lower, B] at C6
  have C9 := nearest_any _ _ _ _ (if d ≤ R * 2 then 1 else 0) (decide (x < 0) != decide (y < 0)) (wd_wd Q 3) (wd_wd Q 2) (wd_wd Q 1) (wd_wd Q 0) (by split <;> omega)
  rw [v4_of hQ] at C9
  refine fdiv_core _ _ _ _ _ _ _ _ _ _ _ _ _ _ _ _ _ _ _ _ _ _ _ _ _ _ _ _ _ _ _ _ _ true (sw_xor _ _) ?_ (Or.inr ⟨rfl, rfl, rfl, rfl⟩) w C1 (size_any x hx.fx) C3 C4 C5 C6 (sign_any x hx.fx) (sign_any y hy.fx) C9
  by_cases c : d ≤ R * 2
  · exact Or.inl ⟨icmp_ge.2 c, by rw [if_pos c]; rfl⟩
  · exact Or.inr ⟨fun h => c (icmp_ge.1 h), by rw [if_neg c]; rfl⟩
theorem fdiv_none (x : Int) (hx : My x) (w : World) :
    Calls Try.prog 23 #[.agg #[.int .i64 (fh x), .int .u64 (fl x)], .agg #[.int .i64 0, .int .u64 0]] w fun e w' => e = .returned (.tuple #[.agg #[.int .i64 0, .int .u64 0], .int .i64 2]) ∧ Below w.heap.size w w' := by
  have z : Wd 0 := ⟨by omega, by omega⟩
  have h0 : Fx 0 := ⟨by decide, by decide⟩
  have C3 := shl_any 0 0 _ _ 64 z z (wd_wd x.natAbs 1) (wd_wd x.natAbs 0) (by decide)
  have C1 := size_any 0 h0
  have S := sign_any 0 h0
  rw [fh_zero, fl_zero] at C1 S
  rw [show wd (0 : Int).natAbs 1 = 0 from rfl, show wd (0 : Int).natAbs 0 = 0 from rfl] at C1
  have C5 := shl_any 0 0 0 0 1 z z z z (by decide)
  have C6 := cmp_any _ _ _ _ 0 0 0 0 (wd_wd (v4 0 0 0 0 * 2 ^ (1 : Int).toNat) 3) (wd_wd (v4 0 0 0 0 * 2 ^ (1 : Int).toNat) 2) (wd_wd (v4 0 0 0 0 * 2 ^ (1 : Int).toNat) 1) (wd_wd (v4 0 0 0 0 * 2 ^ (1 : Int).toNat) 0) z z z z
  have C9 := nearest_any 0 0 0 0 (if v4 0 0 0 0 ≤ v4 (wd (v4 0 0 0 0 * 2 ^ (1 : Int).toNat) 3) (wd (v4 0 0 0 0 * 2 ^ (1 : Int).toNat) 2) (wd (v4 0 0 0 0 * 2 ^ (1 : Int).toNat) 1) (wd (v4 0 0 0 0 * 2 ^ (1 : Int).toNat) 0) then 1 else 0) (decide (x < 0) != decide ((0 : Int) < 0)) z z z z (by split <;> omega)
  refine fdiv_core _ _ _ _ _ _ _ _ _ _ _ _ _ _ _ _ _ _ _ _ _ _ _ _ _ _ _ _ _ _ _ _ _ false (sw_xor _ _) ?_ (Or.inl ⟨rfl, rfl, rfl, rfl⟩) w C1 (size_any x hx.fx) C3 (div_zero _ _ _ _) C5 C6 (sign_any x hx.fx) S C9
  by_cases c : v4 0 0 0 0 ≤ v4 (wd (v4 0 0 0 0 * 2 ^ (1 : Int).toNat) 3) (wd (v4 0 0 0 0 * 2 ^ (1 : Int).toNat) 2) (wd (v4 0 0 0 0 * 2 ^ (1 : Int).toNat) 1) (wd (v4 0 0 0 0 * 2 ^ (1 : Int).toNat) 0)
  · exact Or.inl ⟨icmp_ge.2 c, by rw [if_pos c]; rfl⟩
  · exact Or.inr ⟨fun h => c (icmp_ge.1 h), by rw [if_neg c]; rfl⟩
end Go.Proofs.Ytmmlekgojblopaa
namespace Go.Proofs.Ytmmlekgojblopaa
open Go.RowKit

end Go.Proofs.Ytmmlekgojblopaa
