/- The document's product of numbers with a point: the walks. -/
import Derived.Test.YtmmlekgojblopaaZzRefA
import Derived.Test.YtmmlekgojblopaaZzFixA
namespace Go.Proofs.Ytmmlekgojblopaa
open Go.RowKit

theorem field_part (x0 x1 x2 : Value) (w : World) : (Instr.field 64 (.agg #[x0, x1, x2]) 0).run Try.prog w = .ok (.agg #[x0, x1]) w := by kernel_rfl
theorem field_quot (x0 x1 x2 x3 x4 x5 x6 : Value) (w : World) : (Instr.field 71 (.agg #[x0, x1, x2, x3, x4, x5, x6]) 0).run Try.prog w = .ok (.agg #[x0, x1, x2, x3]) w := by kernel_rfl
theorem frozen_fix {W : World} {B j : Nat} (h : W.heap.size ≤ B) : W.frozen? ⟨B, j, none⟩ = false := by simp [World.frozen?, Array.getElem?_eq_none h]
set_option maxRecDepth 20000 in
set_option maxHeartbeats 16000000 in
theorem radd_same (h l m n d1 d0 g1 g0 s1 s0 x1 x0 k : Int) (c p : Bool) (ha : decide (h < 0) = p) (hb : decide (m < 0) = p) (w : World)
    (C1 : Ct 32 #[.agg #[.int .i64 h, .int .u64 l]] (.agg #[.int .u64 d1, .int .u64 d0]))
    (C2 : Ct 32 #[.agg #[.int .i64 m, .int .u64 n]] (.agg #[.int .u64 g1, .int .u64 g0]))
    (C3 : Ct 33 #[.agg #[.int .u64 d1, .int .u64 d0], .agg #[.int .u64 g1, .int .u64 g0]] (.agg #[.int .u64 s1, .int .u64 s0, .bool c]))
    (C4 : Ct 35 #[.bool p, .agg #[.int .u64 0, .int .u64 0, .int .u64 s1, .int .u64 s0]] (.agg #[.int .i64 x1, .int .u64 x0, .int .i64 k])) :
    Calls Try.prog 27 #[.agg #[.int .i64 h, .int .u64 l], .agg #[.int .i64 m, .int .u64 n]] w fun e w' => e = .returned (.agg #[.int .i64 x1, .int .u64 x0, .int .i64 k]) ∧ Below w.heap.size w w' := by
  have K1 := Lib.hid C1; have K2 := Lib.hid C2; have K3 := Lib.hid C3; have K4 := Lib.hid C4
  clear C1 C2 C3 C4
  have fld := field_part
  go_enter Try.func27, Try.ntmps27
  go_upto_region 1 with fail
  refine nw _ fun R1 hR1 => ?_
  obtain ⟨zR1_a, yR1_a, yyR1_a, cR1_a_0, cR1_a_1⟩ := cz2 hR1 w.heap.size (.int .i64 h) (.int .u64 l)
  obtain ⟨zR1_b, yR1_b, yyR1_b, cR1_b_0, cR1_b_1⟩ := cz2 hR1 (w.heap.size + 1) (.int .i64 m) (.int .u64 n)
  obtain ⟨zR1_r, yR1_r, yyR1_r, cR1_r_0, cR1_r_1, cR1_r_2⟩ := cz3 hR1 (w.heap.size + 1 + 1) (.int .i64 0) (.int .u64 0) (.int .i64 0)
  have fR1_r := fz (b := w.heap.size + 1 + 1) hR1
  have lo_r : w.heap.size ≤ w.heap.size + 1 + 1 := by omega
  have na_r_a : ¬ (w.heap.size + 1 + 1 = w.heap.size) := by omega
  have nb_r_a : ¬ (w.heap.size = w.heap.size + 1 + 1) := by omega
  have na_r_b : ¬ (w.heap.size + 1 + 1 = w.heap.size + 1) := by omega
  have nb_r_b : ¬ (w.heap.size + 1 = w.heap.size + 1 + 1) := by omega
  have HBR1 := bhr (a := w) hR1
  clear hR1
  go_cut [5, 6] (fun slot0 slot1 X1 => ∃ bX1d bX1g : Nat, slot0 = .pointer (some ⟨bX1d, 0, none⟩) ∧ slot1 = .pointer (some ⟨bX1g, 0, none⟩) ∧ R1.heap.size ≤ bX1d ∧ R1.heap.size ≤ bX1g ∧ bX1g ≠ bX1d ∧ Below R1.heap.size R1 X1 ∧ Has (bX1d) [.int .u64 d1, .int .u64 d0] X1 ∧ Has (bX1g) [.int .u64 g1, .int .u64 g0] X1)
  case first =>
    clear HBR1
    have ltt : ∀ n : Nat, n < n + 1 + 1 := fun n => by omega
    have lttt : ∀ n : Nat, n + 1 < n + 1 + 1 := fun n => by omega
    go_region_held3 (fun w' => w'.cell? ⟨w.heap.size, 0, none⟩ = some (.int .i64 h) ∧ w'.cell? ⟨w.heap.size, 1, none⟩ = some (.int .u64 l) ∧ w'.cell? ⟨w.heap.size + 1, 0, none⟩ = some (.int .i64 m) ∧ w'.cell? ⟨w.heap.size + 1, 1, none⟩ = some (.int .u64 n)) (first | (simp [*, go_sem]; done) | (simp [*, go_sem, World.cell?_alloc_past]; done))
      (first
        | (go_at_call 32; (with_reducible refine (K1.out _).mono ?_); rintro e w1 ⟨rfl, hb⟩; (first | (with_reducible (obtain ⟨hclw1, hfrw1⟩ := bcell_drew hb)) | (obtain ⟨hclw1, hfrw1⟩ := bcell hb)); obtain ⟨zw1_a, yw1_a, yyw1_a⟩ := sz3 (B := w.heap.size) hb; obtain ⟨zw1_b, yw1_b, yyw1_b⟩ := sz3 (B := w.heap.size + 1) hb; (try have sw1_0 := sz (B := R1.heap.size) hb); (try have stw1_0 := sz (B := R1.heap.size + 1) hb); obtain ⟨sxw1_0, syw1_0⟩ := szx (b := R1.heap.size) hb; have HBw1 := hbw (a := R1) hb; clear hb; clear K1)
        | (go_at_call 32; (with_reducible refine cm (K2.out _) fun w2 hclw2 hfrw2 hb => ?_); obtain ⟨zw2_a, yw2_a, yyw2_a⟩ := sz3 (B := w.heap.size) hb; obtain ⟨zw2_b, yw2_b, yyw2_b⟩ := sz3 (B := w.heap.size + 1) hb; (try have sw2_0 := sz (B := R1.heap.size) hb); (try have stw2_0 := sz (B := R1.heap.size + 1) hb); obtain ⟨sxw2_0, syw2_0⟩ := szx (b := R1.heap.size) hb; (try have sw2_w1 := sz (B := w1.heap.size) hb); (try have stw2_w1 := sz (B := w1.heap.size + 1) hb); obtain ⟨sxw2_w1, syw2_w1⟩ := szx (b := w1.heap.size) hb; have HBw2 := hbw (a := R1) hb; clear hb; clear K2))
    all_goals (rename_i hHeld; clear hHeld; go_wp2_with fail; go_meet; exact ⟨_, _, rfl, rfl, (by first | omega | (simp <;> omega)), (by first | omega | (simp <;> omega)), (by first | omega | (simp <;> omega)), bb, Has.mk2 (by first | (simp <;> omega) | omega) (by simp [go_sem, *]) (by simp [go_sem, *]), Has.mk2 (by first | (simp <;> omega) | omega) (by simp [go_sem, *]) (by simp [go_sem, *])⟩)
  case rest =>
  obtain ⟨X1, hX1⟩ : ∃ X, X = wc := ⟨wc, rfl⟩
  subst hX1
  obtain ⟨bX1d, bX1g, rfl, rfl, m_bX1d, m_bX1g, n_bX1g_bX1d, hX, g_d, g_g⟩ := hcut
  have zX1_a := Nat.lt_of_lt_of_le zR1_a hX.size
  have cX1_a_0 := (bcl hX zR1_a).trans cR1_a_0
  have cX1_a_1 := (bcl hX zR1_a).trans cR1_a_1
  have zX1_b := Nat.lt_of_lt_of_le zR1_b hX.size
  have cX1_b_0 := (bcl hX zR1_b).trans cR1_b_0
  have cX1_b_1 := (bcl hX zR1_b).trans cR1_b_1
  have zX1_r := Nat.lt_of_lt_of_le zR1_r hX.size
  have cX1_r_0 := (bcl hX zR1_r).trans cR1_r_0
  have cX1_r_1 := (bcl hX zR1_r).trans cR1_r_1
  have cX1_r_2 := (bcl hX zR1_r).trans cR1_r_2
  have fX1_r := bfz hX zR1_r fR1_r
  have zX1_d := g_d.1; have cX1_d_0 := g_d.2 0 _ rfl; have cX1_d_1 := g_d.2 1 _ rfl; clear g_d
  have zX1_g := g_g.1; have cX1_g_0 := g_g.2 0 _ rfl; have cX1_g_1 := g_g.2 1 _ rfl; clear g_g
  obtain ⟨nebX1d_r, ndbX1d_r⟩ := nn (a := bX1d) (b := w.heap.size + 1 + 1)
  obtain ⟨nebX1g_r, ndbX1g_r⟩ := nn (a := bX1g) (b := w.heap.size + 1 + 1)
  have HBX1 : Hid (Below w.heap.size w X1) := bl_trans HBR1.out hX
  clear hX
  clear zR1_a yR1_a yyR1_a cR1_a_0 cR1_a_1 zR1_b yR1_b yyR1_b cR1_b_0 cR1_b_1 zR1_r yR1_r yyR1_r cR1_r_0 cR1_r_1 cR1_r_2 fR1_r HBR1 m_bX1d m_bX1g n_bX1g_bX1d
  go_upto_region 3 with fail
  refine nw _ fun R2 hR2 => ?_
  obtain ⟨zR2_a, yR2_a, yyR2_a, cR2_a_0, cR2_a_1⟩ := cz2 hR2 w.heap.size (.int .i64 h) (.int .u64 l)
  obtain ⟨zR2_b, yR2_b, yyR2_b, cR2_b_0, cR2_b_1⟩ := cz2 hR2 (w.heap.size + 1) (.int .i64 m) (.int .u64 n)
  obtain ⟨zR2_r, yR2_r, yyR2_r, cR2_r_0, cR2_r_1, cR2_r_2⟩ := cz3 hR2 (w.heap.size + 1 + 1) (.int .i64 0) (.int .u64 0) (.int .i64 0)
  have fR2_r := fz (b := w.heap.size + 1 + 1) hR2
  obtain ⟨zR2_d, yR2_d, yyR2_d, cR2_d_0, cR2_d_1⟩ := cz2 hR2 bX1d (.int .u64 d1) (.int .u64 d0)
  obtain ⟨zR2_g, yR2_g, yyR2_g, cR2_g_0, cR2_g_1⟩ := cz2 hR2 bX1g (.int .u64 g1) (.int .u64 g0)
  have na_r_d : ¬ (w.heap.size + 1 + 1 = bX1d) := by omega
  have nb_r_d : ¬ (bX1d = w.heap.size + 1 + 1) := by omega
  have na_r_g : ¬ (w.heap.size + 1 + 1 = bX1g) := by omega
  have nb_r_g : ¬ (bX1g = w.heap.size + 1 + 1) := by omega
  have HBR2 := bhr (a := w) hR2
  clear hR2
  clear HBX1 zX1_a cX1_a_0 cX1_a_1 zX1_b cX1_b_0 cX1_b_1 zX1_r cX1_r_0 cX1_r_1 cX1_r_2 fX1_r zX1_d cX1_d_0 cX1_d_1 zX1_g cX1_g_0 cX1_g_1
  go_region_held3 (fun w' => w'.cell? ⟨w.heap.size, 0, none⟩ = some (.int .i64 h) ∧ w'.cell? ⟨w.heap.size, 1, none⟩ = some (.int .u64 l) ∧ w'.cell? ⟨bX1d, 0, none⟩ = some (.int .u64 d1) ∧ w'.cell? ⟨bX1d, 1, none⟩ = some (.int .u64 d0) ∧ w'.cell? ⟨bX1g, 0, none⟩ = some (.int .u64 g1) ∧ w'.cell? ⟨bX1g, 1, none⟩ = some (.int .u64 g0)) (first | (simp [*, go_sem]; done) | (simp [*, go_sem, World.cell?_alloc_past]; done))
    (first
      | (go_at_call 33; (with_reducible refine (K3.out _).mono ?_); rintro e w3 ⟨rfl, hb⟩; (first | (with_reducible (obtain ⟨hclw3, hfrw3⟩ := bcell_drew hb)) | (obtain ⟨hclw3, hfrw3⟩ := bcell hb)); obtain ⟨zw3_a, yw3_a, yyw3_a⟩ := sz3 (B := w.heap.size) hb; obtain ⟨zw3_b, yw3_b, yyw3_b⟩ := sz3 (B := w.heap.size + 1) hb; obtain ⟨zw3_r, yw3_r, yyw3_r⟩ := sz3 (B := w.heap.size + 1 + 1) hb; obtain ⟨zw3_d, yw3_d, yyw3_d⟩ := sz3 (B := bX1d) hb; obtain ⟨zw3_g, yw3_g, yyw3_g⟩ := sz3 (B := bX1g) hb; have sxw3_0 := sz1 (b := R2.heap.size) hb; have HBw3 := hbw (a := w) hb; clear hb; clear K3)
      | (go_at_call 35; (with_reducible refine cm (K4.out _) fun w4 hclw4 hfrw4 hb => ?_); obtain ⟨zw4_a, yw4_a, yyw4_a⟩ := sz3 (B := w.heap.size) hb; obtain ⟨zw4_b, yw4_b, yyw4_b⟩ := sz3 (B := w.heap.size + 1) hb; obtain ⟨zw4_r, yw4_r, yyw4_r⟩ := sz3 (B := w.heap.size + 1 + 1) hb; obtain ⟨zw4_d, yw4_d, yyw4_d⟩ := sz3 (B := bX1d) hb; obtain ⟨zw4_g, yw4_g, yyw4_g⟩ := sz3 (B := bX1g) hb; have sxw4_0 := sz1 (b := R2.heap.size) hb; have sxw4_w3 := sz1 (b := w3.heap.size) hb; have HBw4 := hbw (a := w) hb; clear hb; clear K4))
  rename_i hHeld
  clear hHeld
  go_wp2_with fail
  refine bodyPost_ret (by simp [results, Try.results27, go_sem, *]; try rfl) rfl ?_
  exact ⟨rfl, bb⟩
set_option maxRecDepth 20000 in
set_option maxHeartbeats 16000000 in
theorem radd_less (h l m n d1 d0 g1 g0 s1 s0 x1 x0 k : Int) (c p q : Bool) (ha : decide (h < 0) = p) (hb : decide (m < 0) = q) (hne : (p == q) = false) (w : World)
    (C1 : Ct 32 #[.agg #[.int .i64 h, .int .u64 l]] (.agg #[.int .u64 d1, .int .u64 d0]))
    (C2 : Ct 32 #[.agg #[.int .i64 m, .int .u64 n]] (.agg #[.int .u64 g1, .int .u64 g0]))
    (C3 : Ct 51 #[.agg #[.int .u64 d1, .int .u64 d0], .agg #[.int .u64 g1, .int .u64 g0]] (.bool true))
    (C4 : Ct 30 #[.agg #[.int .u64 g1, .int .u64 g0], .agg #[.int .u64 d1, .int .u64 d0]] (.agg #[.int .u64 s1, .int .u64 s0, .bool c]))
    (C5 : Ct 35 #[.bool q, .agg #[.int .u64 0, .int .u64 0, .int .u64 s1, .int .u64 s0]] (.agg #[.int .i64 x1, .int .u64 x0, .int .i64 k])) :
    Calls Try.prog 27 #[.agg #[.int .i64 h, .int .u64 l], .agg #[.int .i64 m, .int .u64 n]] w fun e w' => e = .returned (.agg #[.int .i64 x1, .int .u64 x0, .int .i64 k]) ∧ Below w.heap.size w w' := by
  have K1 := Lib.hid C1; have K2 := Lib.hid C2; have K3 := Lib.hid C3; have K4 := Lib.hid C4; have K5 := Lib.hid C5
  clear C1 C2 C3 C4 C5
  have fld := field_part
  go_enter Try.func27, Try.ntmps27
  go_upto_region 1 with fail
  refine nw _ fun R1 hR1 => ?_
  obtain ⟨zR1_a, yR1_a, yyR1_a, cR1_a_0, cR1_a_1⟩ := cz2 hR1 w.heap.size (.int .i64 h) (.int .u64 l)
  obtain ⟨zR1_b, yR1_b, yyR1_b, cR1_b_0, cR1_b_1⟩ := cz2 hR1 (w.heap.size + 1) (.int .i64 m) (.int .u64 n)
  obtain ⟨zR1_r, yR1_r, yyR1_r, cR1_r_0, cR1_r_1, cR1_r_2⟩ := cz3 hR1 (w.heap.size + 1 + 1) (.int .i64 0) (.int .u64 0) (.int .i64 0)
  have fR1_r := fz (b := w.heap.size + 1 + 1) hR1
  have lo_r : w.heap.size ≤ w.heap.size + 1 + 1 := by omega
  have na_r_a : ¬ (w.heap.size + 1 + 1 = w.heap.size) := by omega
  have nb_r_a : ¬ (w.heap.size = w.heap.size + 1 + 1) := by omega
  have na_r_b : ¬ (w.heap.size + 1 + 1 = w.heap.size + 1) := by omega
  have nb_r_b : ¬ (w.heap.size + 1 = w.heap.size + 1 + 1) := by omega
  have HBR1 := bhr (a := w) hR1
  clear hR1
  go_cut [5, 6] (fun slot0 slot1 X1 => ∃ bX1d bX1g : Nat, slot0 = .pointer (some ⟨bX1d, 0, none⟩) ∧ slot1 = .pointer (some ⟨bX1g, 0, none⟩) ∧ R1.heap.size ≤ bX1d ∧ R1.heap.size ≤ bX1g ∧ bX1g ≠ bX1d ∧ Below R1.heap.size R1 X1 ∧ Has (bX1d) [.int .u64 d1, .int .u64 d0] X1 ∧ Has (bX1g) [.int .u64 g1, .int .u64 g0] X1)
  case first =>
    clear HBR1
    have ltt : ∀ n : Nat, n < n + 1 + 1 := fun n => by omega
    have lttt : ∀ n : Nat, n + 1 < n + 1 + 1 := fun n => by omega
    go_region_held3 (fun w' => w'.cell? ⟨w.heap.size, 0, none⟩ = some (.int .i64 h) ∧ w'.cell? ⟨w.heap.size, 1, none⟩ = some (.int .u64 l) ∧ w'.cell? ⟨w.heap.size + 1, 0, none⟩ = some (.int .i64 m) ∧ w'.cell? ⟨w.heap.size + 1, 1, none⟩ = some (.int .u64 n)) (first | (simp [*, go_sem]; done) | (simp [*, go_sem, World.cell?_alloc_past]; done))
      (first
        | (go_at_call 32; (with_reducible refine (K1.out _).mono ?_); rintro e w1 ⟨rfl, hb⟩; (first | (with_reducible (obtain ⟨hclw1, hfrw1⟩ := bcell_drew hb)) | (obtain ⟨hclw1, hfrw1⟩ := bcell hb)); obtain ⟨zw1_a, yw1_a, yyw1_a⟩ := sz3 (B := w.heap.size) hb; obtain ⟨zw1_b, yw1_b, yyw1_b⟩ := sz3 (B := w.heap.size + 1) hb; (try have sw1_0 := sz (B := R1.heap.size) hb); (try have stw1_0 := sz (B := R1.heap.size + 1) hb); obtain ⟨sxw1_0, syw1_0⟩ := szx (b := R1.heap.size) hb; have HBw1 := hbw (a := R1) hb; clear hb; clear K1)
        | (go_at_call 32; (with_reducible refine cm (K2.out _) fun w2 hclw2 hfrw2 hb => ?_); obtain ⟨zw2_a, yw2_a, yyw2_a⟩ := sz3 (B := w.heap.size) hb; obtain ⟨zw2_b, yw2_b, yyw2_b⟩ := sz3 (B := w.heap.size + 1) hb; (try have sw2_0 := sz (B := R1.heap.size) hb); (try have stw2_0 := sz (B := R1.heap.size + 1) hb); obtain ⟨sxw2_0, syw2_0⟩ := szx (b := R1.heap.size) hb; (try have sw2_w1 := sz (B := w1.heap.size) hb); (try have stw2_w1 := sz (B := w1.heap.size + 1) hb); obtain ⟨sxw2_w1, syw2_w1⟩ := szx (b := w1.heap.size) hb; have HBw2 := hbw (a := R1) hb; clear hb; clear K2))
    all_goals (rename_i hHeld; clear hHeld; go_wp2_with fail; go_meet; exact ⟨_, _, rfl, rfl, (by first | omega | (simp <;> omega)), (by first | omega | (simp <;> omega)), (by first | omega | (simp <;> omega)), bb, Has.mk2 (by first | (simp <;> omega) | omega) (by simp [go_sem, *]) (by simp [go_sem, *]), Has.mk2 (by first | (simp <;> omega) | omega) (by simp [go_sem, *]) (by simp [go_sem, *])⟩)
  case rest =>
  obtain ⟨X1, hX1⟩ : ∃ X, X = wc := ⟨wc, rfl⟩
  subst hX1
  obtain ⟨bX1d, bX1g, rfl, rfl, m_bX1d, m_bX1g, n_bX1g_bX1d, hX, g_d, g_g⟩ := hcut
  have zX1_a := Nat.lt_of_lt_of_le zR1_a hX.size
  have cX1_a_0 := (bcl hX zR1_a).trans cR1_a_0
  have cX1_a_1 := (bcl hX zR1_a).trans cR1_a_1
  have zX1_b := Nat.lt_of_lt_of_le zR1_b hX.size
  have cX1_b_0 := (bcl hX zR1_b).trans cR1_b_0
  have cX1_b_1 := (bcl hX zR1_b).trans cR1_b_1
  have zX1_r := Nat.lt_of_lt_of_le zR1_r hX.size
  have cX1_r_0 := (bcl hX zR1_r).trans cR1_r_0
  have cX1_r_1 := (bcl hX zR1_r).trans cR1_r_1
  have cX1_r_2 := (bcl hX zR1_r).trans cR1_r_2
  have fX1_r := bfz hX zR1_r fR1_r
  have zX1_d := g_d.1; have cX1_d_0 := g_d.2 0 _ rfl; have cX1_d_1 := g_d.2 1 _ rfl; clear g_d
  have zX1_g := g_g.1; have cX1_g_0 := g_g.2 0 _ rfl; have cX1_g_1 := g_g.2 1 _ rfl; clear g_g
  obtain ⟨nebX1d_r, ndbX1d_r⟩ := nn (a := bX1d) (b := w.heap.size + 1 + 1)
  obtain ⟨nebX1g_r, ndbX1g_r⟩ := nn (a := bX1g) (b := w.heap.size + 1 + 1)
  have HBX1 : Hid (Below w.heap.size w X1) := bl_trans HBR1.out hX
  clear hX
  clear zR1_a yR1_a yyR1_a cR1_a_0 cR1_a_1 zR1_b yR1_b yyR1_b cR1_b_0 cR1_b_1 zR1_r yR1_r yyR1_r cR1_r_0 cR1_r_1 cR1_r_2 fR1_r HBR1 m_bX1d m_bX1g n_bX1g_bX1d
  go_upto_region 4 with fail
  refine nw _ fun R2 hR2 => ?_
  obtain ⟨zR2_a, yR2_a, yyR2_a, cR2_a_0, cR2_a_1⟩ := cz2 hR2 w.heap.size (.int .i64 h) (.int .u64 l)
  obtain ⟨zR2_b, yR2_b, yyR2_b, cR2_b_0, cR2_b_1⟩ := cz2 hR2 (w.heap.size + 1) (.int .i64 m) (.int .u64 n)
  obtain ⟨zR2_r, yR2_r, yyR2_r, cR2_r_0, cR2_r_1, cR2_r_2⟩ := cz3 hR2 (w.heap.size + 1 + 1) (.int .i64 0) (.int .u64 0) (.int .i64 0)
  have fR2_r := fz (b := w.heap.size + 1 + 1) hR2
  obtain ⟨zR2_d, yR2_d, yyR2_d, cR2_d_0, cR2_d_1⟩ := cz2 hR2 bX1d (.int .u64 d1) (.int .u64 d0)
  obtain ⟨zR2_g, yR2_g, yyR2_g, cR2_g_0, cR2_g_1⟩ := cz2 hR2 bX1g (.int .u64 g1) (.int .u64 g0)
  have na_r_d : ¬ (w.heap.size + 1 + 1 = bX1d) := by omega
  have nb_r_d : ¬ (bX1d = w.heap.size + 1 + 1) := by omega
  have na_r_g : ¬ (w.heap.size + 1 + 1 = bX1g) := by omega
  have nb_r_g : ¬ (bX1g = w.heap.size + 1 + 1) := by omega
  have HBR2 := bhr (a := w) hR2
  clear hR2
  clear HBX1 zX1_a cX1_a_0 cX1_a_1 zX1_b cX1_b_0 cX1_b_1 zX1_r cX1_r_0 cX1_r_1 cX1_r_2 fX1_r zX1_d cX1_d_0 cX1_d_1 zX1_g cX1_g_0 cX1_g_1
  go_wp2_with fail
  (with_reducible refine cm (K3.out _) fun w3 hclw3 hfrw3 hb => ?_); obtain ⟨zw3_a, yw3_a, yyw3_a⟩ := sz3 (B := w.heap.size) hb; obtain ⟨zw3_b, yw3_b, yyw3_b⟩ := sz3 (B := w.heap.size + 1) hb; obtain ⟨zw3_r, yw3_r, yyw3_r⟩ := sz3 (B := w.heap.size + 1 + 1) hb; obtain ⟨zw3_d, yw3_d, yyw3_d⟩ := sz3 (B := bX1d) hb; obtain ⟨zw3_g, yw3_g, yyw3_g⟩ := sz3 (B := bX1g) hb; have sxw3_0 := sz1 (b := R2.heap.size) hb; have HBw3 := hbw (a := w) hb; clear hb
  have fw3_r : ∀ j, w3.frozen? ⟨w.heap.size + 1 + 1, j, none⟩ = false := fun j => by rw [hfrw3 _ _ (by first | exact zR2_r | (simp; exact zR2_r))]; exact fR2_r j
  go_upto_region 5 with fail
  refine nw _ fun R3 hR3 => ?_
  obtain ⟨zR3_a, yR3_a, yyR3_a, cR3_a_0, cR3_a_1⟩ := cz2 hR3 w.heap.size (.int .i64 h) (.int .u64 l)
  obtain ⟨zR3_b, yR3_b, yyR3_b, cR3_b_0, cR3_b_1⟩ := cz2 hR3 (w.heap.size + 1) (.int .i64 m) (.int .u64 n)
  obtain ⟨zR3_r, yR3_r, yyR3_r, cR3_r_0, cR3_r_1, cR3_r_2⟩ := cz3 hR3 (w.heap.size + 1 + 1) (.int .i64 0) (.int .u64 0) (.int .i64 0)
  have fR3_r := fzc (b := w.heap.size + 1 + 1) hfrw3 hR3
  obtain ⟨zR3_d, yR3_d, yyR3_d, cR3_d_0, cR3_d_1⟩ := cz2 hR3 bX1d (.int .u64 d1) (.int .u64 d0)
  obtain ⟨zR3_g, yR3_g, yyR3_g, cR3_g_0, cR3_g_1⟩ := cz2 hR3 bX1g (.int .u64 g1) (.int .u64 g0)
  have HBR3 := bhr (a := w) hR3
  clear hR3
  clear zR2_a yR2_a yyR2_a cR2_a_0 cR2_a_1 zR2_b yR2_b yyR2_b cR2_b_0 cR2_b_1 zR2_r yR2_r yyR2_r cR2_r_0 cR2_r_1 cR2_r_2 fR2_r zR2_d yR2_d yyR2_d cR2_d_0 cR2_d_1 zR2_g yR2_g yyR2_g cR2_g_0 cR2_g_1 HBR2 zw3_a yw3_a yyw3_a zw3_b yw3_b yyw3_b zw3_r yw3_r yyw3_r zw3_d yw3_d yyw3_d zw3_g yw3_g yyw3_g sxw3_0 hclw3 hfrw3 HBw3 fw3_r
  go_region_held3 (fun w' => w'.cell? ⟨w.heap.size + 1, 0, none⟩ = some (.int .i64 m) ∧ w'.cell? ⟨w.heap.size + 1, 1, none⟩ = some (.int .u64 n) ∧ w'.cell? ⟨bX1d, 0, none⟩ = some (.int .u64 d1) ∧ w'.cell? ⟨bX1d, 1, none⟩ = some (.int .u64 d0) ∧ w'.cell? ⟨bX1g, 0, none⟩ = some (.int .u64 g1) ∧ w'.cell? ⟨bX1g, 1, none⟩ = some (.int .u64 g0)) (first | (simp [*, go_sem]; done) | (simp [*, go_sem, World.cell?_alloc_past]; done))
    (first
      | (go_at_call 30; (with_reducible refine (K4.out _).mono ?_); rintro e w4 ⟨rfl, hb⟩; (first | (with_reducible (obtain ⟨hclw4, hfrw4⟩ := bcell_drew hb)) | (obtain ⟨hclw4, hfrw4⟩ := bcell hb)); obtain ⟨zw4_a, yw4_a, yyw4_a⟩ := sz3 (B := w.heap.size) hb; obtain ⟨zw4_b, yw4_b, yyw4_b⟩ := sz3 (B := w.heap.size + 1) hb; obtain ⟨zw4_r, yw4_r, yyw4_r⟩ := sz3 (B := w.heap.size + 1 + 1) hb; obtain ⟨zw4_d, yw4_d, yyw4_d⟩ := sz3 (B := bX1d) hb; obtain ⟨zw4_g, yw4_g, yyw4_g⟩ := sz3 (B := bX1g) hb; have sxw4_0 := sz1 (b := R3.heap.size) hb; have HBw4 := hbw (a := w) hb; clear hb; clear K4)
      | (go_at_call 35; (with_reducible refine cm (K5.out _) fun w5 hclw5 hfrw5 hb => ?_); obtain ⟨zw5_a, yw5_a, yyw5_a⟩ := sz3 (B := w.heap.size) hb; obtain ⟨zw5_b, yw5_b, yyw5_b⟩ := sz3 (B := w.heap.size + 1) hb; obtain ⟨zw5_r, yw5_r, yyw5_r⟩ := sz3 (B := w.heap.size + 1 + 1) hb; obtain ⟨zw5_d, yw5_d, yyw5_d⟩ := sz3 (B := bX1d) hb; obtain ⟨zw5_g, yw5_g, yyw5_g⟩ := sz3 (B := bX1g) hb; have sxw5_0 := sz1 (b := R3.heap.size) hb; have sxw5_w4 := sz1 (b := w4.heap.size) hb; have HBw5 := hbw (a := w) hb; clear hb; clear K5))
  rename_i hHeld
  clear hHeld
  go_wp2_with fail
  refine bodyPost_ret (by simp [results, Try.results27, go_sem, *]; try rfl) rfl ?_
  exact ⟨rfl, bb⟩
set_option maxRecDepth 20000 in
set_option maxHeartbeats 16000000 in
theorem radd_more (h l m n d1 d0 g1 g0 s1 s0 x1 x0 k : Int) (c p q : Bool) (ha : decide (h < 0) = p) (hb : decide (m < 0) = q) (hne : (p == q) = false) (w : World)
    (C1 : Ct 32 #[.agg #[.int .i64 h, .int .u64 l]] (.agg #[.int .u64 d1, .int .u64 d0]))
    (C2 : Ct 32 #[.agg #[.int .i64 m, .int .u64 n]] (.agg #[.int .u64 g1, .int .u64 g0]))
    (C3 : Ct 51 #[.agg #[.int .u64 d1, .int .u64 d0], .agg #[.int .u64 g1, .int .u64 g0]] (.bool false))
    (C4 : Ct 30 #[.agg #[.int .u64 d1, .int .u64 d0], .agg #[.int .u64 g1, .int .u64 g0]] (.agg #[.int .u64 s1, .int .u64 s0, .bool c]))
    (C5 : Ct 35 #[.bool p, .agg #[.int .u64 0, .int .u64 0, .int .u64 s1, .int .u64 s0]] (.agg #[.int .i64 x1, .int .u64 x0, .int .i64 k])) :
    Calls Try.prog 27 #[.agg #[.int .i64 h, .int .u64 l], .agg #[.int .i64 m, .int .u64 n]] w fun e w' => e = .returned (.agg #[.int .i64 x1, .int .u64 x0, .int .i64 k]) ∧ Below w.heap.size w w' := by
  have K1 := Lib.hid C1; have K2 := Lib.hid C2; have K3 := Lib.hid C3; have K4 := Lib.hid C4; have K5 := Lib.hid C5
  clear C1 C2 C3 C4 C5
  have fld := field_part
  go_enter Try.func27, Try.ntmps27
  go_upto_region 1 with fail
  refine nw _ fun R1 hR1 => ?_
  obtain ⟨zR1_a, yR1_a, yyR1_a, cR1_a_0, cR1_a_1⟩ := cz2 hR1 w.heap.size (.int .i64 h) (.int .u64 l)
  obtain ⟨zR1_b, yR1_b, yyR1_b, cR1_b_0, cR1_b_1⟩ := cz2 hR1 (w.heap.size + 1) (.int .i64 m) (.int .u64 n)
  obtain ⟨zR1_r, yR1_r, yyR1_r, cR1_r_0, cR1_r_1, cR1_r_2⟩ := cz3 hR1 (w.heap.size + 1 + 1) (.int .i64 0) (.int .u64 0) (.int .i64 0)
  have fR1_r := fz (b := w.heap.size + 1 + 1) hR1
  have lo_r : w.heap.size ≤ w.heap.size + 1 + 1 := by omega
  have na_r_a : ¬ (w.heap.size + 1 + 1 = w.heap.size) := by omega
  have nb_r_a : ¬ (w.heap.size = w.heap.size + 1 + 1) := by omega
  have na_r_b : ¬ (w.heap.size + 1 + 1 = w.heap.size + 1) := by omega
  have nb_r_b : ¬ (w.heap.size + 1 = w.heap.size + 1 + 1) := by omega
  have HBR1 := bhr (a := w) hR1
  clear hR1
  go_cut [5, 6] (fun slot0 slot1 X1 => ∃ bX1d bX1g : Nat, slot0 = .pointer (some ⟨bX1d, 0, none⟩) ∧ slot1 = .pointer (some ⟨bX1g, 0, none⟩) ∧ R1.heap.size ≤ bX1d ∧ R1.heap.size ≤ bX1g ∧ bX1g ≠ bX1d ∧ Below R1.heap.size R1 X1 ∧ Has (bX1d) [.int .u64 d1, .int .u64 d0] X1 ∧ Has (bX1g) [.int .u64 g1, .int .u64 g0] X1)
  case first =>
    clear HBR1
    have ltt : ∀ n : Nat, n < n + 1 + 1 := fun n => by omega
    have lttt : ∀ n : Nat, n + 1 < n + 1 + 1 := fun n => by omega
    go_region_held3 (fun w' => w'.cell? ⟨w.heap.size, 0, none⟩ = some (.int .i64 h) ∧ w'.cell? ⟨w.heap.size, 1, none⟩ = some (.int .u64 l) ∧ w'.cell? ⟨w.heap.size + 1, 0, none⟩ = some (.int .i64 m) ∧ w'.cell? ⟨w.heap.size + 1, 1, none⟩ = some (.int .u64 n)) (first | (simp [*, go_sem]; done) | (simp [*, go_sem, World.cell?_alloc_past]; done))
      (first
        | (go_at_call 32; (with_reducible refine (K1.out _).mono ?_); rintro e w1 ⟨rfl, hb⟩; (first | (with_reducible (obtain ⟨hclw1, hfrw1⟩ := bcell_drew hb)) | (obtain ⟨hclw1, hfrw1⟩ := bcell hb)); obtain ⟨zw1_a, yw1_a, yyw1_a⟩ := sz3 (B := w.heap.size) hb; obtain ⟨zw1_b, yw1_b, yyw1_b⟩ := sz3 (B := w.heap.size + 1) hb; (try have sw1_0 := sz (B := R1.heap.size) hb); (try have stw1_0 := sz (B := R1.heap.size + 1) hb); obtain ⟨sxw1_0, syw1_0⟩ := szx (b := R1.heap.size) hb; have HBw1 := hbw (a := R1) hb; clear hb; clear K1)
        | (go_at_call 32; (with_reducible refine cm (K2.out _) fun w2 hclw2 hfrw2 hb => ?_); obtain ⟨zw2_a, yw2_a, yyw2_a⟩ := sz3 (B := w.heap.size) hb; obtain ⟨zw2_b, yw2_b, yyw2_b⟩ := sz3 (B := w.heap.size + 1) hb; (try have sw2_0 := sz (B := R1.heap.size) hb); (try have stw2_0 := sz (B := R1.heap.size + 1) hb); obtain ⟨sxw2_0, syw2_0⟩ := szx (b := R1.heap.size) hb; (try have sw2_w1 := sz (B := w1.heap.size) hb); (try have stw2_w1 := sz (B := w1.heap.size + 1) hb); obtain ⟨sxw2_w1, syw2_w1⟩ := szx (b := w1.heap.size) hb; have HBw2 := hbw (a := R1) hb; clear hb; clear K2))
    all_goals (rename_i hHeld; clear hHeld; go_wp2_with fail; go_meet; exact ⟨_, _, rfl, rfl, (by first | omega | (simp <;> omega)), (by first | omega | (simp <;> omega)), (by first | omega | (simp <;> omega)), bb, Has.mk2 (by first | (simp <;> omega) | omega) (by simp [go_sem, *]) (by simp [go_sem, *]), Has.mk2 (by first | (simp <;> omega) | omega) (by simp [go_sem, *]) (by simp [go_sem, *])⟩)
  case rest =>
  obtain ⟨X1, hX1⟩ : ∃ X, X = wc := ⟨wc, rfl⟩
  subst hX1
  obtain ⟨bX1d, bX1g, rfl, rfl, m_bX1d, m_bX1g, n_bX1g_bX1d, hX, g_d, g_g⟩ := hcut
  have zX1_a := Nat.lt_of_lt_of_le zR1_a hX.size
  have cX1_a_0 := (bcl hX zR1_a).trans cR1_a_0
  have cX1_a_1 := (bcl hX zR1_a).trans cR1_a_1
  have zX1_b := Nat.lt_of_lt_of_le zR1_b hX.size
  have cX1_b_0 := (bcl hX zR1_b).trans cR1_b_0
  have cX1_b_1 := (bcl hX zR1_b).trans cR1_b_1
  have zX1_r := Nat.lt_of_lt_of_le zR1_r hX.size
  have cX1_r_0 := (bcl hX zR1_r).trans cR1_r_0
  have cX1_r_1 := (bcl hX zR1_r).trans cR1_r_1
  have cX1_r_2 := (bcl hX zR1_r).trans cR1_r_2
  have fX1_r := bfz hX zR1_r fR1_r
  have zX1_d := g_d.1; have cX1_d_0 := g_d.2 0 _ rfl; have cX1_d_1 := g_d.2 1 _ rfl; clear g_d
  have zX1_g := g_g.1; have cX1_g_0 := g_g.2 0 _ rfl; have cX1_g_1 := g_g.2 1 _ rfl; clear g_g
  obtain ⟨nebX1d_r, ndbX1d_r⟩ := nn (a := bX1d) (b := w.heap.size + 1 + 1)
  obtain ⟨nebX1g_r, ndbX1g_r⟩ := nn (a := bX1g) (b := w.heap.size + 1 + 1)
  have HBX1 : Hid (Below w.heap.size w X1) := bl_trans HBR1.out hX
  clear hX
  clear zR1_a yR1_a yyR1_a cR1_a_0 cR1_a_1 zR1_b yR1_b yyR1_b cR1_b_0 cR1_b_1 zR1_r yR1_r yyR1_r cR1_r_0 cR1_r_1 cR1_r_2 fR1_r HBR1 m_bX1d m_bX1g n_bX1g_bX1d
  go_upto_region 4 with fail
  refine nw _ fun R2 hR2 => ?_
  obtain ⟨zR2_a, yR2_a, yyR2_a, cR2_a_0, cR2_a_1⟩ := cz2 hR2 w.heap.size (.int .i64 h) (.int .u64 l)
  obtain ⟨zR2_b, yR2_b, yyR2_b, cR2_b_0, cR2_b_1⟩ := cz2 hR2 (w.heap.size + 1) (.int .i64 m) (.int .u64 n)
  obtain ⟨zR2_r, yR2_r, yyR2_r, cR2_r_0, cR2_r_1, cR2_r_2⟩ := cz3 hR2 (w.heap.size + 1 + 1) (.int .i64 0) (.int .u64 0) (.int .i64 0)
  have fR2_r := fz (b := w.heap.size + 1 + 1) hR2
  obtain ⟨zR2_d, yR2_d, yyR2_d, cR2_d_0, cR2_d_1⟩ := cz2 hR2 bX1d (.int .u64 d1) (.int .u64 d0)
  obtain ⟨zR2_g, yR2_g, yyR2_g, cR2_g_0, cR2_g_1⟩ := cz2 hR2 bX1g (.int .u64 g1) (.int .u64 g0)
  have na_r_d : ¬ (w.heap.size + 1 + 1 = bX1d) := by omega
  have nb_r_d : ¬ (bX1d = w.heap.size + 1 + 1) := by omega
  have na_r_g : ¬ (w.heap.size + 1 + 1 = bX1g) := by omega
  have nb_r_g : ¬ (bX1g = w.heap.size + 1 + 1) := by omega
  have HBR2 := bhr (a := w) hR2
  clear hR2
  clear HBX1 zX1_a cX1_a_0 cX1_a_1 zX1_b cX1_b_0 cX1_b_1 zX1_r cX1_r_0 cX1_r_1 cX1_r_2 fX1_r zX1_d cX1_d_0 cX1_d_1 zX1_g cX1_g_0 cX1_g_1
  go_wp2_with fail
  (with_reducible refine cm (K3.out _) fun w3 hclw3 hfrw3 hb => ?_); obtain ⟨zw3_a, yw3_a, yyw3_a⟩ := sz3 (B := w.heap.size) hb; obtain ⟨zw3_b, yw3_b, yyw3_b⟩ := sz3 (B := w.heap.size + 1) hb; obtain ⟨zw3_r, yw3_r, yyw3_r⟩ := sz3 (B := w.heap.size + 1 + 1) hb; obtain ⟨zw3_d, yw3_d, yyw3_d⟩ := sz3 (B := bX1d) hb; obtain ⟨zw3_g, yw3_g, yyw3_g⟩ := sz3 (B := bX1g) hb; have sxw3_0 := sz1 (b := R2.heap.size) hb; have HBw3 := hbw (a := w) hb; clear hb
  have fw3_r : ∀ j, w3.frozen? ⟨w.heap.size + 1 + 1, j, none⟩ = false := fun j => by rw [hfrw3 _ _ (by first | exact zR2_r | (simp; exact zR2_r))]; exact fR2_r j
  go_upto_region 6 with fail
  refine nw _ fun R3 hR3 => ?_
  obtain ⟨zR3_a, yR3_a, yyR3_a, cR3_a_0, cR3_a_1⟩ := cz2 hR3 w.heap.size (.int .i64 h) (.int .u64 l)
  obtain ⟨zR3_b, yR3_b, yyR3_b, cR3_b_0, cR3_b_1⟩ := cz2 hR3 (w.heap.size + 1) (.int .i64 m) (.int .u64 n)
  obtain ⟨zR3_r, yR3_r, yyR3_r, cR3_r_0, cR3_r_1, cR3_r_2⟩ := cz3 hR3 (w.heap.size + 1 + 1) (.int .i64 0) (.int .u64 0) (.int .i64 0)
  have fR3_r := fzc (b := w.heap.size + 1 + 1) hfrw3 hR3
  obtain ⟨zR3_d, yR3_d, yyR3_d, cR3_d_0, cR3_d_1⟩ := cz2 hR3 bX1d (.int .u64 d1) (.int .u64 d0)
  obtain ⟨zR3_g, yR3_g, yyR3_g, cR3_g_0, cR3_g_1⟩ := cz2 hR3 bX1g (.int .u64 g1) (.int .u64 g0)
  have HBR3 := bhr (a := w) hR3
  clear hR3
  clear zR2_a yR2_a yyR2_a cR2_a_0 cR2_a_1 zR2_b yR2_b yyR2_b cR2_b_0 cR2_b_1 zR2_r yR2_r yyR2_r cR2_r_0 cR2_r_1 cR2_r_2 fR2_r zR2_d yR2_d yyR2_d cR2_d_0 cR2_d_1 zR2_g yR2_g yyR2_g cR2_g_0 cR2_g_1 HBR2 zw3_a yw3_a yyw3_a zw3_b yw3_b yyw3_b zw3_r yw3_r yyw3_r zw3_d yw3_d yyw3_d zw3_g yw3_g yyw3_g sxw3_0 hclw3 hfrw3 HBw3 fw3_r
  go_region_held3 (fun w' => w'.cell? ⟨w.heap.size, 0, none⟩ = some (.int .i64 h) ∧ w'.cell? ⟨w.heap.size, 1, none⟩ = some (.int .u64 l) ∧ w'.cell? ⟨bX1d, 0, none⟩ = some (.int .u64 d1) ∧ w'.cell? ⟨bX1d, 1, none⟩ = some (.int .u64 d0) ∧ w'.cell? ⟨bX1g, 0, none⟩ = some (.int .u64 g1) ∧ w'.cell? ⟨bX1g, 1, none⟩ = some (.int .u64 g0)) (first | (simp [*, go_sem]; done) | (simp [*, go_sem, World.cell?_alloc_past]; done))
    (first
      | (go_at_call 30; (with_reducible refine (K4.out _).mono ?_); rintro e w4 ⟨rfl, hb⟩; (first | (with_reducible (obtain ⟨hclw4, hfrw4⟩ := bcell_drew hb)) | (obtain ⟨hclw4, hfrw4⟩ := bcell hb)); obtain ⟨zw4_a, yw4_a, yyw4_a⟩ := sz3 (B := w.heap.size) hb; obtain ⟨zw4_b, yw4_b, yyw4_b⟩ := sz3 (B := w.heap.size + 1) hb; obtain ⟨zw4_r, yw4_r, yyw4_r⟩ := sz3 (B := w.heap.size + 1 + 1) hb; obtain ⟨zw4_d, yw4_d, yyw4_d⟩ := sz3 (B := bX1d) hb; obtain ⟨zw4_g, yw4_g, yyw4_g⟩ := sz3 (B := bX1g) hb; have sxw4_0 := sz1 (b := R3.heap.size) hb; have HBw4 := hbw (a := w) hb; clear hb; clear K4)
      | (go_at_call 35; (with_reducible refine cm (K5.out _) fun w5 hclw5 hfrw5 hb => ?_); obtain ⟨zw5_a, yw5_a, yyw5_a⟩ := sz3 (B := w.heap.size) hb; obtain ⟨zw5_b, yw5_b, yyw5_b⟩ := sz3 (B := w.heap.size + 1) hb; obtain ⟨zw5_r, yw5_r, yyw5_r⟩ := sz3 (B := w.heap.size + 1 + 1) hb; obtain ⟨zw5_d, yw5_d, yyw5_d⟩ := sz3 (B := bX1d) hb; obtain ⟨zw5_g, yw5_g, yyw5_g⟩ := sz3 (B := bX1g) hb; have sxw5_0 := sz1 (b := R3.heap.size) hb; have sxw5_w4 := sz1 (b := w4.heap.size) hb; have HBw5 := hbw (a := w) hb; clear hb; clear K5))
  rename_i hHeld
  clear hHeld
  go_wp2_with fail
  refine bodyPost_ret (by simp [results, Try.results27, go_sem, *]; try rfl) rfl ?_
  exact ⟨rfl, bb⟩
set_option maxRecDepth 20000 in
set_option maxHeartbeats 16000000 in
theorem rfcmp_lt (h l m n : Int) (h1 : h < m) (w : World) :
    Calls Try.prog 18 #[.agg #[.int .i64 h, .int .u64 l], .agg #[.int .i64 m, .int .u64 n]] w fun e w' => e = .returned (.int .i64 (-1)) ∧ Below w.heap.size w w' := by
  go_enter Try.func18, Try.ntmps18
  go_wp2_with fail
  go_returns
  exact ⟨rfl, bb⟩
set_option maxRecDepth 20000 in
set_option maxHeartbeats 16000000 in
theorem rfcmp_eqlt (h l m n : Int) (h1 : ¬ h < m) (h2 : (h == m) = true) (h3 : l < n) (w : World) :
    Calls Try.prog 18 #[.agg #[.int .i64 h, .int .u64 l], .agg #[.int .i64 m, .int .u64 n]] w fun e w' => e = .returned (.int .i64 (-1)) ∧ Below w.heap.size w w' := by
  go_enter Try.func18, Try.ntmps18
  go_wp2_with fail
  go_returns
  exact ⟨rfl, bb⟩
set_option maxRecDepth 20000 in
set_option maxHeartbeats 16000000 in
theorem rfcmp_same (h l m n : Int) (h1 : ¬ h < m) (h3 : ¬ l < n) (h2 : (h == m) = true) (q : ∀ W, (Go.binOp .eql 24 (.agg #[.int .i64 h, .int .u64 l]) (.agg #[.int .i64 m, .int .u64 n])).run Try.prog W = .ok (.bool true) W) (w : World) :
    Calls Try.prog 18 #[.agg #[.int .i64 h, .int .u64 l], .agg #[.int .i64 m, .int .u64 n]] w fun e w' => e = .returned (.int .i64 0) ∧ Below w.heap.size w w' := by
  go_enter Try.func18, Try.ntmps18
  go_wp2_with fail
  go_returns
  exact ⟨rfl, bb⟩
set_option maxRecDepth 20000 in
set_option maxHeartbeats 16000000 in
theorem rfcmp_eqgt (h l m n : Int) (h1 : ¬ h < m) (h2 : (h == m) = true) (h3 : ¬ l < n) (q : ∀ W, (Go.binOp .eql 24 (.agg #[.int .i64 h, .int .u64 l]) (.agg #[.int .i64 m, .int .u64 n])).run Try.prog W = .ok (.bool false) W) (w : World) :
    Calls Try.prog 18 #[.agg #[.int .i64 h, .int .u64 l], .agg #[.int .i64 m, .int .u64 n]] w fun e w' => e = .returned (.int .i64 1) ∧ Below w.heap.size w w' := by
  go_enter Try.func18, Try.ntmps18
  go_wp2_with fail
  go_returns
  exact ⟨rfl, bb⟩
set_option maxRecDepth 20000 in
set_option maxHeartbeats 16000000 in
theorem rfcmp_gt (h l m n : Int) (h1 : ¬ h < m) (h2 : (h == m) = false) (q : ∀ W, (Go.binOp .eql 24 (.agg #[.int .i64 h, .int .u64 l]) (.agg #[.int .i64 m, .int .u64 n])).run Try.prog W = .ok (.bool false) W) (w : World) :
    Calls Try.prog 18 #[.agg #[.int .i64 h, .int .u64 l], .agg #[.int .i64 m, .int .u64 n]] w fun e w' => e = .returned (.int .i64 1) ∧ Below w.heap.size w w' := by
  go_enter Try.func18, Try.ntmps18
  go_wp2_with fail
  go_returns
  exact ⟨rfl, bb⟩
end Go.Proofs.Ytmmlekgojblopaa
namespace Go.Proofs.Ytmmlekgojblopaa
open Go.RowKit

set_option maxRecDepth 20000 in
set_option maxHeartbeats 16000000 in
theorem rmul_false (h l m n d1 d0 g1 g0 p3 p2 p1 p0 s1 s0 t3 t2 t1 t0 x1 x0 k : Int) (p q : Bool) (ha : decide (h < 0) = p) (hb : decide (m < 0) = q) (w : World)
    (C1 : Ct 32 #[.agg #[.int .i64 h, .int .u64 l]] (.agg #[.int .u64 d1, .int .u64 d0]))
    (C2 : Ct 32 #[.agg #[.int .i64 m, .int .u64 n]] (.agg #[.int .u64 g1, .int .u64 g0]))
    (C3 : Ct 49 #[.agg #[.int .u64 d1, .int .u64 d0], .agg #[.int .u64 g1, .int .u64 g0]] (.agg #[.int .u64 p3, .int .u64 p2, .int .u64 p1, .int .u64 p0]))
    (C4 : Ct 33 #[.agg #[.int .u64 p1, .int .u64 p0], .agg #[.int .u64 0, .int .u64 9223372036854775808]] (.agg #[.int .u64 s1, .int .u64 s0, .bool false]))
    (C5 : Ct 50 #[.agg #[.int .u64 p3, .int .u64 p2, .int .u64 s1, .int .u64 s0], .int .i64 64] (.agg #[.int .u64 t3, .int .u64 t2, .int .u64 t1, .int .u64 t0]))
    (C6 : Ct 35 #[.bool (!(p == q)), .agg #[.int .u64 t3, .int .u64 t2, .int .u64 t1, .int .u64 t0]] (.agg #[.int .i64 x1, .int .u64 x0, .int .i64 k])) :
    Calls Try.prog 26 #[.agg #[.int .i64 h, .int .u64 l], .agg #[.int .i64 m, .int .u64 n]] w fun e w' => e = .returned (.agg #[.int .i64 x1, .int .u64 x0, .int .i64 k]) ∧ Below w.heap.size w w' := by
  have K1 := Lib.hid C1; have K2 := Lib.hid C2; have K3 := Lib.hid C3; have K4 := Lib.hid C4; have K5 := Lib.hid C5; have K6 := Lib.hid C6
  clear C1 C2 C3 C4 C5 C6
  have fld := field_part
  go_enter Try.func26, Try.ntmps26
  go_upto_region 1 with fail
  refine nw _ fun R1 hR1 => ?_
  obtain ⟨zR1_a, yR1_a, yyR1_a, cR1_a_0, cR1_a_1⟩ := cz2 hR1 w.heap.size (.int .i64 h) (.int .u64 l)
  obtain ⟨zR1_b, yR1_b, yyR1_b, cR1_b_0, cR1_b_1⟩ := cz2 hR1 (w.heap.size + 1) (.int .i64 m) (.int .u64 n)
  obtain ⟨zR1_r, yR1_r, yyR1_r, cR1_r_0, cR1_r_1, cR1_r_2⟩ := cz3 hR1 (w.heap.size + 1 + 1) (.int .i64 0) (.int .u64 0) (.int .i64 0)
  have fR1_r := fz (b := w.heap.size + 1 + 1) hR1
  have lo_r : w.heap.size ≤ w.heap.size + 1 + 1 := by omega
  have na_r_a : ¬ (w.heap.size + 1 + 1 = w.heap.size) := by omega
  have nb_r_a : ¬ (w.heap.size = w.heap.size + 1 + 1) := by omega
  have na_r_b : ¬ (w.heap.size + 1 + 1 = w.heap.size + 1) := by omega
  have nb_r_b : ¬ (w.heap.size + 1 = w.heap.size + 1 + 1) := by omega
  have HBR1 := bhr (a := w) hR1
  clear hR1
  go_cut [5] (fun slot0 X1 => ∃ bX1p : Nat, slot0 = .pointer (some ⟨bX1p, 0, none⟩) ∧ R1.heap.size ≤ bX1p ∧ Below R1.heap.size R1 X1 ∧ Has (bX1p) [.int .u64 p3, .int .u64 p2, .int .u64 p1, .int .u64 p0] X1 ∧ Clear (bX1p) X1)
  case first =>
    clear HBR1
    have ltt : ∀ n : Nat, n < n + 1 + 1 := fun n => by omega
    have lttt : ∀ n : Nat, n + 1 < n + 1 + 1 := fun n => by omega
    go_region_held3 (fun w' => w'.cell? ⟨w.heap.size, 0, none⟩ = some (.int .i64 h) ∧ w'.cell? ⟨w.heap.size, 1, none⟩ = some (.int .u64 l) ∧ w'.cell? ⟨w.heap.size + 1, 0, none⟩ = some (.int .i64 m) ∧ w'.cell? ⟨w.heap.size + 1, 1, none⟩ = some (.int .u64 n)) (first | (simp [*, go_sem]; done) | (simp [*, go_sem, World.cell?_alloc_past]; done))
      (first
        | (go_at_call 32; (with_reducible refine (K1.out _).mono ?_); rintro e w1 ⟨rfl, hb⟩; (first | (with_reducible (obtain ⟨hclw1, hfrw1⟩ := bcell_drew hb)) | (obtain ⟨hclw1, hfrw1⟩ := bcell hb)); obtain ⟨zw1_a, yw1_a, yyw1_a⟩ := sz3 (B := w.heap.size) hb; obtain ⟨zw1_b, yw1_b, yyw1_b⟩ := sz3 (B := w.heap.size + 1) hb; (try have sw1_0 := sz (B := R1.heap.size) hb); (try have stw1_0 := sz (B := R1.heap.size + 1) hb); obtain ⟨sxw1_0, syw1_0⟩ := szx (b := R1.heap.size) hb; have HBw1 := hbw (a := R1) hb; clear hb; clear K1)
        | (go_at_call 32; (with_reducible refine cm (K2.out _) fun w2 hclw2 hfrw2 hb => ?_); obtain ⟨zw2_a, yw2_a, yyw2_a⟩ := sz3 (B := w.heap.size) hb; obtain ⟨zw2_b, yw2_b, yyw2_b⟩ := sz3 (B := w.heap.size + 1) hb; (try have sw2_0 := sz (B := R1.heap.size) hb); (try have stw2_0 := sz (B := R1.heap.size + 1) hb); obtain ⟨sxw2_0, syw2_0⟩ := szx (b := R1.heap.size) hb; (try have sw2_w1 := sz (B := w1.heap.size) hb); (try have stw2_w1 := sz (B := w1.heap.size + 1) hb); obtain ⟨sxw2_w1, syw2_w1⟩ := szx (b := w1.heap.size) hb; have HBw2 := hbw (a := R1) hb; clear hb; clear K2)
        | (go_at_call 49; (with_reducible refine cm (K3.out _) fun w3 hclw3 hfrw3 hb => ?_); obtain ⟨zw3_a, yw3_a, yyw3_a⟩ := sz3 (B := w.heap.size) hb; obtain ⟨zw3_b, yw3_b, yyw3_b⟩ := sz3 (B := w.heap.size + 1) hb; (try have sw3_0 := sz (B := R1.heap.size) hb); (try have stw3_0 := sz (B := R1.heap.size + 1) hb); obtain ⟨sxw3_0, syw3_0⟩ := szx (b := R1.heap.size) hb; (try have sw3_w1 := sz (B := w1.heap.size) hb); (try have stw3_w1 := sz (B := w1.heap.size + 1) hb); obtain ⟨sxw3_w1, syw3_w1⟩ := szx (b := w1.heap.size) hb; (try have sw3_w2 := sz (B := w2.heap.size) hb); (try have stw3_w2 := sz (B := w2.heap.size + 1) hb); obtain ⟨sxw3_w2, syw3_w2⟩ := szx (b := w2.heap.size) hb; have HBw3 := hbw (a := R1) hb; clear hb; clear K3))
    all_goals (rename_i hHeld; clear hHeld; go_wp2_with fail; go_meet; exact ⟨_, rfl, (by first | omega | (simp <;> omega)), bb, Has.mk4 (by first | (simp <;> omega) | omega) (by simp [go_sem, *]) (by simp [go_sem, *]) (by simp [go_sem, *]) (by simp [go_sem, *]), (fun j => by first | (simp [go_sem, *]; done) | (simp [frozen?_alloc_cells, World.frozen?_setCell, World.frozen?, *]; done) | (simp only [World.frozen?_setCell, frozen?_alloc_cells]; first | exact frozen_fix (by first | omega | (simp <;> omega)) | (simp [*]; done)) | (simp only [World.frozen?_setCell, frozen?_alloc_cells, World.frozen?_drew]; exact frozen_fix (by first | omega | (simp <;> omega))))⟩)
  case rest =>
  obtain ⟨X1, hX1⟩ : ∃ X, X = wc := ⟨wc, rfl⟩
  subst hX1
  obtain ⟨bX1p, rfl, m_bX1p, hX, g_p, c_p⟩ := hcut
  have lw_bX1p : w.heap.size + 1 + 1 + 1 ≤ bX1p := by omega
  have zX1_a := Nat.lt_of_lt_of_le zR1_a hX.size
  have cX1_a_0 := (bcl hX zR1_a).trans cR1_a_0
  have cX1_a_1 := (bcl hX zR1_a).trans cR1_a_1
  have zX1_b := Nat.lt_of_lt_of_le zR1_b hX.size
  have cX1_b_0 := (bcl hX zR1_b).trans cR1_b_0
  have cX1_b_1 := (bcl hX zR1_b).trans cR1_b_1
  have zX1_r := Nat.lt_of_lt_of_le zR1_r hX.size
  have cX1_r_0 := (bcl hX zR1_r).trans cR1_r_0
  have cX1_r_1 := (bcl hX zR1_r).trans cR1_r_1
  have cX1_r_2 := (bcl hX zR1_r).trans cR1_r_2
  have fX1_r := bfz hX zR1_r fR1_r
  have zX1_p := g_p.1; have cX1_p_0 := g_p.2 0 _ rfl; have cX1_p_1 := g_p.2 1 _ rfl; have cX1_p_2 := g_p.2 2 _ rfl; have cX1_p_3 := g_p.2 3 _ rfl; clear g_p
  have fX1_p : ∀ j, X1.frozen? ⟨bX1p, j, none⟩ = false := c_p; clear c_p
  obtain ⟨nebX1p_r, ndbX1p_r⟩ := nn (a := bX1p) (b := w.heap.size + 1 + 1)
  have HBX1 : Hid (Below w.heap.size w X1) := bl_trans HBR1.out hX
  clear hX
  clear zR1_a yR1_a yyR1_a cR1_a_0 cR1_a_1 zR1_b yR1_b yyR1_b cR1_b_0 cR1_b_1 zR1_r yR1_r yyR1_r cR1_r_0 cR1_r_1 cR1_r_2 fR1_r HBR1 m_bX1p
  go_upto_region 2 with fail
  refine nw _ fun R2 hR2 => ?_
  obtain ⟨zR2_a, yR2_a, yyR2_a, cR2_a_0, cR2_a_1⟩ := cz2 hR2 w.heap.size (.int .i64 h) (.int .u64 l)
  obtain ⟨zR2_b, yR2_b, yyR2_b, cR2_b_0, cR2_b_1⟩ := cz2 hR2 (w.heap.size + 1) (.int .i64 m) (.int .u64 n)
  obtain ⟨zR2_r, yR2_r, yyR2_r, cR2_r_0, cR2_r_1, cR2_r_2⟩ := cz3 hR2 (w.heap.size + 1 + 1) (.int .i64 0) (.int .u64 0) (.int .i64 0)
  have fR2_r := fz (b := w.heap.size + 1 + 1) hR2
  obtain ⟨zR2_p, yR2_p, yyR2_p, cR2_p_0, cR2_p_1, cR2_p_2, cR2_p_3⟩ := cz4 hR2 bX1p (.int .u64 p3) (.int .u64 p2) (.int .u64 p1) (.int .u64 p0)
  have fR2_p := fz (b := bX1p) hR2
  have lo_p : w.heap.size ≤ bX1p := by omega
  have na_r_p : ¬ (w.heap.size + 1 + 1 = bX1p) := by omega
  have nb_r_p : ¬ (bX1p = w.heap.size + 1 + 1) := by omega
  have na_p_a : ¬ (bX1p = w.heap.size) := by omega
  have nb_p_a : ¬ (w.heap.size = bX1p) := by omega
  have na_p_b : ¬ (bX1p = w.heap.size + 1) := by omega
  have nb_p_b : ¬ (w.heap.size + 1 = bX1p) := by omega
  have na_p_r : ¬ (bX1p = w.heap.size + 1 + 1) := by omega
  have nb_p_r : ¬ (w.heap.size + 1 + 1 = bX1p) := by omega
  have HBR2 := bhr (a := w) hR2
  clear hR2
  clear HBX1 zX1_a cX1_a_0 cX1_a_1 zX1_b cX1_b_0 cX1_b_1 zX1_r cX1_r_0 cX1_r_1 cX1_r_2 fX1_r zX1_p cX1_p_0 cX1_p_1 cX1_p_2 cX1_p_3 fX1_p
  go_wp2_with fail
  (with_reducible refine cm (K4.out _) fun w4 hclw4 hfrw4 hb => ?_); obtain ⟨zw4_a, yw4_a, yyw4_a⟩ := sz3 (B := w.heap.size) hb; obtain ⟨zw4_b, yw4_b, yyw4_b⟩ := sz3 (B := w.heap.size + 1) hb; obtain ⟨zw4_r, yw4_r, yyw4_r⟩ := sz3 (B := w.heap.size + 1 + 1) hb; obtain ⟨zw4_p, yw4_p, yyw4_p⟩ := sz3 (B := bX1p) hb; have sxw4_0 := sz1 (b := R2.heap.size) hb; have HBw4 := hbw (a := w) hb; clear hb
  have fw4_r : ∀ j, w4.frozen? ⟨w.heap.size + 1 + 1, j, none⟩ = false := fun j => by rw [hfrw4 _ _ (by first | exact zR2_r | (simp; exact zR2_r))]; exact fR2_r j
  have fw4_p : ∀ j, w4.frozen? ⟨bX1p, j, none⟩ = false := fun j => by rw [hfrw4 _ _ (by first | exact zR2_p | (simp; exact zR2_p))]; exact fR2_p j
  go_upto_region 6 with fail
  refine nw _ fun R3 hR3 => ?_
  obtain ⟨zR3_a, yR3_a, yyR3_a, cR3_a_0, cR3_a_1⟩ := cz2 hR3 w.heap.size (.int .i64 h) (.int .u64 l)
  obtain ⟨zR3_b, yR3_b, yyR3_b, cR3_b_0, cR3_b_1⟩ := cz2 hR3 (w.heap.size + 1) (.int .i64 m) (.int .u64 n)
  obtain ⟨zR3_r, yR3_r, yyR3_r, cR3_r_0, cR3_r_1, cR3_r_2⟩ := cz3 hR3 (w.heap.size + 1 + 1) (.int .i64 0) (.int .u64 0) (.int .i64 0)
  have fR3_r := fzc (b := w.heap.size + 1 + 1) hfrw4 hR3
  obtain ⟨zR3_p, yR3_p, yyR3_p, cR3_p_0, cR3_p_1, cR3_p_2, cR3_p_3⟩ := cz4 hR3 bX1p (.int .u64 p3) (.int .u64 p2) (.int .u64 s1) (.int .u64 s0)
  have fR3_p := fzc (b := bX1p) hfrw4 hR3
  obtain ⟨zR3_s, yR3_s, yyR3_s, cR3_s_0, cR3_s_1, cR3_s_2⟩ := cz3 hR3 w4.heap.size (.int .u64 s1) (.int .u64 s0) (.bool false)
  have na_r_s : ¬ (w.heap.size + 1 + 1 = w4.heap.size) := by omega
  have nb_r_s : ¬ (w4.heap.size = w.heap.size + 1 + 1) := by omega
  have na_p_s : ¬ (bX1p = w4.heap.size) := by omega
  have nb_p_s : ¬ (w4.heap.size = bX1p) := by omega
  have HBR3 := bhr (a := w) hR3
  clear hR3
  clear zR2_a yR2_a yyR2_a cR2_a_0 cR2_a_1 zR2_b yR2_b yyR2_b cR2_b_0 cR2_b_1 zR2_r yR2_r yyR2_r cR2_r_0 cR2_r_1 cR2_r_2 fR2_r zR2_p yR2_p yyR2_p cR2_p_0 cR2_p_1 cR2_p_2 cR2_p_3 fR2_p HBR2 zw4_a yw4_a yyw4_a zw4_b yw4_b yyw4_b zw4_r yw4_r yyw4_r zw4_p yw4_p yyw4_p sxw4_0 hclw4 hfrw4 HBw4 fw4_r fw4_p
  go_region_held3 (fun w' => w'.cell? ⟨w.heap.size, 0, none⟩ = some (.int .i64 h) ∧ w'.cell? ⟨w.heap.size, 1, none⟩ = some (.int .u64 l) ∧ w'.cell? ⟨w.heap.size + 1, 0, none⟩ = some (.int .i64 m) ∧ w'.cell? ⟨w.heap.size + 1, 1, none⟩ = some (.int .u64 n) ∧ w'.cell? ⟨bX1p, 0, none⟩ = some (.int .u64 p3) ∧ w'.cell? ⟨bX1p, 1, none⟩ = some (.int .u64 p2) ∧ w'.cell? ⟨bX1p, 2, none⟩ = some (.int .u64 s1) ∧ w'.cell? ⟨bX1p, 3, none⟩ = some (.int .u64 s0)) (first | (simp [*, go_sem]; done) | (simp [*, go_sem, World.cell?_alloc_past]; done))
    (first
      | (go_at_call 50; (with_reducible refine (K5.out _).mono ?_); rintro e w5 ⟨rfl, hb⟩; (first | (with_reducible (obtain ⟨hclw5, hfrw5⟩ := bcell_drew hb)) | (obtain ⟨hclw5, hfrw5⟩ := bcell hb)); obtain ⟨zw5_a, yw5_a, yyw5_a⟩ := sz3 (B := w.heap.size) hb; obtain ⟨zw5_b, yw5_b, yyw5_b⟩ := sz3 (B := w.heap.size + 1) hb; obtain ⟨zw5_r, yw5_r, yyw5_r⟩ := sz3 (B := w.heap.size + 1 + 1) hb; obtain ⟨zw5_p, yw5_p, yyw5_p⟩ := sz3 (B := bX1p) hb; obtain ⟨zw5_s, yw5_s, yyw5_s⟩ := sz3 (B := w4.heap.size) hb; have sxw5_0 := sz1 (b := R3.heap.size) hb; have HBw5 := hbw (a := w) hb; clear hb; clear K5)
      | (go_at_call 35; (with_reducible refine cm (K6.out _) fun w6 hclw6 hfrw6 hb => ?_); obtain ⟨zw6_a, yw6_a, yyw6_a⟩ := sz3 (B := w.heap.size) hb; obtain ⟨zw6_b, yw6_b, yyw6_b⟩ := sz3 (B := w.heap.size + 1) hb; obtain ⟨zw6_r, yw6_r, yyw6_r⟩ := sz3 (B := w.heap.size + 1 + 1) hb; obtain ⟨zw6_p, yw6_p, yyw6_p⟩ := sz3 (B := bX1p) hb; obtain ⟨zw6_s, yw6_s, yyw6_s⟩ := sz3 (B := w4.heap.size) hb; have sxw6_0 := sz1 (b := R3.heap.size) hb; have sxw6_w5 := sz1 (b := w5.heap.size) hb; have HBw6 := hbw (a := w) hb; clear hb; clear K6))
  rename_i hHeld
  clear hHeld
  go_wp2_with fail
  refine bodyPost_ret (by simp [results, Try.results26, go_sem, *]; try rfl) rfl ?_
  exact ⟨rfl, bb⟩
set_option maxRecDepth 20000 in
set_option maxHeartbeats 16000000 in
theorem rmul_true (h l m n d1 d0 g1 g0 p3 p2 p1 p0 s1 s0 t3 t2 t1 t0 x1 x0 k q3 q2 : Int) (p q c : Bool) (ha : decide (h < 0) = p) (hb : decide (m < 0) = q) (w : World)
    (C1 : Ct 32 #[.agg #[.int .i64 h, .int .u64 l]] (.agg #[.int .u64 d1, .int .u64 d0]))
    (C2 : Ct 32 #[.agg #[.int .i64 m, .int .u64 n]] (.agg #[.int .u64 g1, .int .u64 g0]))
    (C3 : Ct 49 #[.agg #[.int .u64 d1, .int .u64 d0], .agg #[.int .u64 g1, .int .u64 g0]] (.agg #[.int .u64 p3, .int .u64 p2, .int .u64 p1, .int .u64 p0]))
    (C4 : Ct 33 #[.agg #[.int .u64 p1, .int .u64 p0], .agg #[.int .u64 0, .int .u64 9223372036854775808]] (.agg #[.int .u64 s1, .int .u64 s0, .bool true]))
    (C5 : Ct 33 #[.agg #[.int .u64 p3, .int .u64 p2], .agg #[.int .u64 0, .int .u64 1]] (.agg #[.int .u64 q3, .int .u64 q2, .bool c]))
    (C6 : Ct 50 #[.agg #[.int .u64 q3, .int .u64 q2, .int .u64 s1, .int .u64 s0], .int .i64 64] (.agg #[.int .u64 t3, .int .u64 t2, .int .u64 t1, .int .u64 t0]))
    (C7 : Ct 35 #[.bool (!(p == q)), .agg #[.int .u64 t3, .int .u64 t2, .int .u64 t1, .int .u64 t0]] (.agg #[.int .i64 x1, .int .u64 x0, .int .i64 k])) :
    Calls Try.prog 26 #[.agg #[.int .i64 h, .int .u64 l], .agg #[.int .i64 m, .int .u64 n]] w fun e w' => e = .returned (.agg #[.int .i64 x1, .int .u64 x0, .int .i64 k]) ∧ Below w.heap.size w w' := by
  have K1 := Lib.hid C1; have K2 := Lib.hid C2; have K3 := Lib.hid C3; have K4 := Lib.hid C4; have K5 := Lib.hid C5; have K6 := Lib.hid C6; have K7 := Lib.hid C7
  clear C1 C2 C3 C4 C5 C6 C7
  have fld := field_part
  go_enter Try.func26, Try.ntmps26
  go_upto_region 1 with fail
  refine nw _ fun R1 hR1 => ?_
  obtain ⟨zR1_a, yR1_a, yyR1_a, cR1_a_0, cR1_a_1⟩ := cz2 hR1 w.heap.size (.int .i64 h) (.int .u64 l)
  obtain ⟨zR1_b, yR1_b, yyR1_b, cR1_b_0, cR1_b_1⟩ := cz2 hR1 (w.heap.size + 1) (.int .i64 m) (.int .u64 n)
  obtain ⟨zR1_r, yR1_r, yyR1_r, cR1_r_0, cR1_r_1, cR1_r_2⟩ := cz3 hR1 (w.heap.size + 1 + 1) (.int .i64 0) (.int .u64 0) (.int .i64 0)
  have fR1_r := fz (b := w.heap.size + 1 + 1) hR1
  have lo_r : w.heap.size ≤ w.heap.size + 1 + 1 := by omega
  have na_r_a : ¬ (w.heap.size + 1 + 1 = w.heap.size) := by omega
  have nb_r_a : ¬ (w.heap.size = w.heap.size + 1 + 1) := by omega
  have na_r_b : ¬ (w.heap.size + 1 + 1 = w.heap.size + 1) := by omega
  have nb_r_b : ¬ (w.heap.size + 1 = w.heap.size + 1 + 1) := by omega
  have HBR1 := bhr (a := w) hR1
  clear hR1
  go_cut [5] (fun slot0 X1 => ∃ bX1p : Nat, slot0 = .pointer (some ⟨bX1p, 0, none⟩) ∧ R1.heap.size ≤ bX1p ∧ Below R1.heap.size R1 X1 ∧ Has (bX1p) [.int .u64 p3, .int .u64 p2, .int .u64 p1, .int .u64 p0] X1 ∧ Clear (bX1p) X1)
  case first =>
    clear HBR1
    have ltt : ∀ n : Nat, n < n + 1 + 1 := fun n => by omega
    have lttt : ∀ n : Nat, n + 1 < n + 1 + 1 := fun n => by omega
    go_region_held3 (fun w' => w'.cell? ⟨w.heap.size, 0, none⟩ = some (.int .i64 h) ∧ w'.cell? ⟨w.heap.size, 1, none⟩ = some (.int .u64 l) ∧ w'.cell? ⟨w.heap.size + 1, 0, none⟩ = some (.int .i64 m) ∧ w'.cell? ⟨w.heap.size + 1, 1, none⟩ = some (.int .u64 n)) (first | (simp [*, go_sem]; done) | (simp [*, go_sem, World.cell?_alloc_past]; done))
      (first
        | (go_at_call 32; (with_reducible refine (K1.out _).mono ?_); rintro e w1 ⟨rfl, hb⟩; (first | (with_reducible (obtain ⟨hclw1, hfrw1⟩ := bcell_drew hb)) | (obtain ⟨hclw1, hfrw1⟩ := bcell hb)); obtain ⟨zw1_a, yw1_a, yyw1_a⟩ := sz3 (B := w.heap.size) hb; obtain ⟨zw1_b, yw1_b, yyw1_b⟩ := sz3 (B := w.heap.size + 1) hb; (try have sw1_0 := sz (B := R1.heap.size) hb); (try have stw1_0 := sz (B := R1.heap.size + 1) hb); obtain ⟨sxw1_0, syw1_0⟩ := szx (b := R1.heap.size) hb; have HBw1 := hbw (a := R1) hb; clear hb; clear K1)
        | (go_at_call 32; (with_reducible refine cm (K2.out _) fun w2 hclw2 hfrw2 hb => ?_); obtain ⟨zw2_a, yw2_a, yyw2_a⟩ := sz3 (B := w.heap.size) hb; obtain ⟨zw2_b, yw2_b, yyw2_b⟩ := sz3 (B := w.heap.size + 1) hb; (try have sw2_0 := sz (B := R1.heap.size) hb); (try have stw2_0 := sz (B := R1.heap.size + 1) hb); obtain ⟨sxw2_0, syw2_0⟩ := szx (b := R1.heap.size) hb; (try have sw2_w1 := sz (B := w1.heap.size) hb); (try have stw2_w1 := sz (B := w1.heap.size + 1) hb); obtain ⟨sxw2_w1, syw2_w1⟩ := szx (b := w1.heap.size) hb; have HBw2 := hbw (a := R1) hb; clear hb; clear K2)
        | (go_at_call 49; (with_reducible refine cm (K3.out _) fun w3 hclw3 hfrw3 hb => ?_); obtain ⟨zw3_a, yw3_a, yyw3_a⟩ := sz3 (B := w.heap.size) hb; obtain ⟨zw3_b, yw3_b, yyw3_b⟩ := sz3 (B := w.heap.size + 1) hb; (try have sw3_0 := sz (B := R1.heap.size) hb); (try have stw3_0 := sz (B := R1.heap.size + 1) hb); obtain ⟨sxw3_0, syw3_0⟩ := szx (b := R1.heap.size) hb; (try have sw3_w1 := sz (B := w1.heap.size) hb); (try have stw3_w1 := sz (B := w1.heap.size + 1) hb); obtain ⟨sxw3_w1, syw3_w1⟩ := szx (b := w1.heap.size) hb; (try have sw3_w2 := sz (B := w2.heap.size) hb); (try have stw3_w2 := sz (B := w2.heap.size + 1) hb); obtain ⟨sxw3_w2, syw3_w2⟩ := szx (b := w2.heap.size) hb; have HBw3 := hbw (a := R1) hb; clear hb; clear K3))
    all_goals (rename_i hHeld; clear hHeld; go_wp2_with fail; go_meet; exact ⟨_, rfl, (by first | omega | (simp <;> omega)), bb, Has.mk4 (by first | (simp <;> omega) | omega) (by simp [go_sem, *]) (by simp [go_sem, *]) (by simp [go_sem, *]) (by simp [go_sem, *]), (fun j => by first | (simp [go_sem, *]; done) | (simp [frozen?_alloc_cells, World.frozen?_setCell, World.frozen?, *]; done) | (simp only [World.frozen?_setCell, frozen?_alloc_cells]; first | exact frozen_fix (by first | omega | (simp <;> omega)) | (simp [*]; done)) | (simp only [World.frozen?_setCell, frozen?_alloc_cells, World.frozen?_drew]; exact frozen_fix (by first | omega | (simp <;> omega))))⟩)
  case rest =>
  obtain ⟨X1, hX1⟩ : ∃ X, X = wc := ⟨wc, rfl⟩
  subst hX1
  obtain ⟨bX1p, rfl, m_bX1p, hX, g_p, c_p⟩ := hcut
  have lw_bX1p : w.heap.size + 1 + 1 + 1 ≤ bX1p := by omega
  have zX1_a := Nat.lt_of_lt_of_le zR1_a hX.size
  have cX1_a_0 := (bcl hX zR1_a).trans cR1_a_0
  have cX1_a_1 := (bcl hX zR1_a).trans cR1_a_1
  have zX1_b := Nat.lt_of_lt_of_le zR1_b hX.size
  have cX1_b_0 := (bcl hX zR1_b).trans cR1_b_0
  have cX1_b_1 := (bcl hX zR1_b).trans cR1_b_1
  have zX1_r := Nat.lt_of_lt_of_le zR1_r hX.size
  have cX1_r_0 := (bcl hX zR1_r).trans cR1_r_0
  have cX1_r_1 := (bcl hX zR1_r).trans cR1_r_1
  have cX1_r_2 := (bcl hX zR1_r).trans cR1_r_2
  have fX1_r := bfz hX zR1_r fR1_r
  have zX1_p := g_p.1; have cX1_p_0 := g_p.2 0 _ rfl; have cX1_p_1 := g_p.2 1 _ rfl; have cX1_p_2 := g_p.2 2 _ rfl; have cX1_p_3 := g_p.2 3 _ rfl; clear g_p
  have fX1_p : ∀ j, X1.frozen? ⟨bX1p, j, none⟩ = false := c_p; clear c_p
  obtain ⟨nebX1p_r, ndbX1p_r⟩ := nn (a := bX1p) (b := w.heap.size + 1 + 1)
  have HBX1 : Hid (Below w.heap.size w X1) := bl_trans HBR1.out hX
  clear hX
  clear zR1_a yR1_a yyR1_a cR1_a_0 cR1_a_1 zR1_b yR1_b yyR1_b cR1_b_0 cR1_b_1 zR1_r yR1_r yyR1_r cR1_r_0 cR1_r_1 cR1_r_2 fR1_r HBR1 m_bX1p
  go_upto_region 2 with fail
  refine nw _ fun R2 hR2 => ?_
  obtain ⟨zR2_a, yR2_a, yyR2_a, cR2_a_0, cR2_a_1⟩ := cz2 hR2 w.heap.size (.int .i64 h) (.int .u64 l)
  obtain ⟨zR2_b, yR2_b, yyR2_b, cR2_b_0, cR2_b_1⟩ := cz2 hR2 (w.heap.size + 1) (.int .i64 m) (.int .u64 n)
  obtain ⟨zR2_r, yR2_r, yyR2_r, cR2_r_0, cR2_r_1, cR2_r_2⟩ := cz3 hR2 (w.heap.size + 1 + 1) (.int .i64 0) (.int .u64 0) (.int .i64 0)
  have fR2_r := fz (b := w.heap.size + 1 + 1) hR2
  obtain ⟨zR2_p, yR2_p, yyR2_p, cR2_p_0, cR2_p_1, cR2_p_2, cR2_p_3⟩ := cz4 hR2 bX1p (.int .u64 p3) (.int .u64 p2) (.int .u64 p1) (.int .u64 p0)
  have fR2_p := fz (b := bX1p) hR2
  have lo_p : w.heap.size ≤ bX1p := by omega
  have na_r_p : ¬ (w.heap.size + 1 + 1 = bX1p) := by omega
  have nb_r_p : ¬ (bX1p = w.heap.size + 1 + 1) := by omega
  have na_p_a : ¬ (bX1p = w.heap.size) := by omega
  have nb_p_a : ¬ (w.heap.size = bX1p) := by omega
  have na_p_b : ¬ (bX1p = w.heap.size + 1) := by omega
  have nb_p_b : ¬ (w.heap.size + 1 = bX1p) := by omega
  have na_p_r : ¬ (bX1p = w.heap.size + 1 + 1) := by omega
  have nb_p_r : ¬ (w.heap.size + 1 + 1 = bX1p) := by omega
  have HBR2 := bhr (a := w) hR2
  clear hR2
  clear HBX1 zX1_a cX1_a_0 cX1_a_1 zX1_b cX1_b_0 cX1_b_1 zX1_r cX1_r_0 cX1_r_1 cX1_r_2 fX1_r zX1_p cX1_p_0 cX1_p_1 cX1_p_2 cX1_p_3 fX1_p
  go_wp2_with fail
  (with_reducible refine cm (K4.out _) fun w4 hclw4 hfrw4 hb => ?_); obtain ⟨zw4_a, yw4_a, yyw4_a⟩ := sz3 (B := w.heap.size) hb; obtain ⟨zw4_b, yw4_b, yyw4_b⟩ := sz3 (B := w.heap.size + 1) hb; obtain ⟨zw4_r, yw4_r, yyw4_r⟩ := sz3 (B := w.heap.size + 1 + 1) hb; obtain ⟨zw4_p, yw4_p, yyw4_p⟩ := sz3 (B := bX1p) hb; have sxw4_0 := sz1 (b := R2.heap.size) hb; have HBw4 := hbw (a := w) hb; clear hb
  have fw4_r : ∀ j, w4.frozen? ⟨w.heap.size + 1 + 1, j, none⟩ = false := fun j => by rw [hfrw4 _ _ (by first | exact zR2_r | (simp; exact zR2_r))]; exact fR2_r j
  have fw4_p : ∀ j, w4.frozen? ⟨bX1p, j, none⟩ = false := fun j => by rw [hfrw4 _ _ (by first | exact zR2_p | (simp; exact zR2_p))]; exact fR2_p j
  go_upto_region 5 with fail
  refine nw _ fun R3 hR3 => ?_
  obtain ⟨zR3_a, yR3_a, yyR3_a, cR3_a_0, cR3_a_1⟩ := cz2 hR3 w.heap.size (.int .i64 h) (.int .u64 l)
  obtain ⟨zR3_b, yR3_b, yyR3_b, cR3_b_0, cR3_b_1⟩ := cz2 hR3 (w.heap.size + 1) (.int .i64 m) (.int .u64 n)
  obtain ⟨zR3_r, yR3_r, yyR3_r, cR3_r_0, cR3_r_1, cR3_r_2⟩ := cz3 hR3 (w.heap.size + 1 + 1) (.int .i64 0) (.int .u64 0) (.int .i64 0)
  have fR3_r := fzc (b := w.heap.size + 1 + 1) hfrw4 hR3
  obtain ⟨zR3_p, yR3_p, yyR3_p, cR3_p_0, cR3_p_1, cR3_p_2, cR3_p_3⟩ := cz4 hR3 bX1p (.int .u64 p3) (.int .u64 p2) (.int .u64 s1) (.int .u64 s0)
  have fR3_p := fzc (b := bX1p) hfrw4 hR3
  obtain ⟨zR3_s, yR3_s, yyR3_s, cR3_s_0, cR3_s_1, cR3_s_2⟩ := cz3 hR3 w4.heap.size (.int .u64 s1) (.int .u64 s0) (.bool true)
  have na_r_s : ¬ (w.heap.size + 1 + 1 = w4.heap.size) := by omega
  have nb_r_s : ¬ (w4.heap.size = w.heap.size + 1 + 1) := by omega
  have na_p_s : ¬ (bX1p = w4.heap.size) := by omega
  have nb_p_s : ¬ (w4.heap.size = bX1p) := by omega
  have HBR3 := bhr (a := w) hR3
  clear hR3
  clear zR2_a yR2_a yyR2_a cR2_a_0 cR2_a_1 zR2_b yR2_b yyR2_b cR2_b_0 cR2_b_1 zR2_r yR2_r yyR2_r cR2_r_0 cR2_r_1 cR2_r_2 fR2_r zR2_p yR2_p yyR2_p cR2_p_0 cR2_p_1 cR2_p_2 cR2_p_3 fR2_p HBR2 zw4_a yw4_a yyw4_a zw4_b yw4_b yyw4_b zw4_r yw4_r yyw4_r zw4_p yw4_p yyw4_p sxw4_0 hclw4 hfrw4 HBw4 fw4_r fw4_p
  go_wp2_with fail
  (with_reducible refine cm (K5.out _) fun w5 hclw5 hfrw5 hb => ?_); obtain ⟨zw5_a, yw5_a, yyw5_a⟩ := sz3 (B := w.heap.size) hb; obtain ⟨zw5_b, yw5_b, yyw5_b⟩ := sz3 (B := w.heap.size + 1) hb; obtain ⟨zw5_r, yw5_r, yyw5_r⟩ := sz3 (B := w.heap.size + 1 + 1) hb; obtain ⟨zw5_p, yw5_p, yyw5_p⟩ := sz3 (B := bX1p) hb; obtain ⟨zw5_s, yw5_s, yyw5_s⟩ := sz3 (B := w4.heap.size) hb; have sxw5_0 := sz1 (b := R3.heap.size) hb; have HBw5 := hbw (a := w) hb; clear hb
  have fw5_r : ∀ j, w5.frozen? ⟨w.heap.size + 1 + 1, j, none⟩ = false := fun j => by rw [hfrw5 _ _ (by first | exact zR3_r | (simp; exact zR3_r))]; exact fR3_r j
  have fw5_p : ∀ j, w5.frozen? ⟨bX1p, j, none⟩ = false := fun j => by rw [hfrw5 _ _ (by first | exact zR3_p | (simp; exact zR3_p))]; exact fR3_p j
  go_upto_region 6 with fail
  refine nw _ fun R4 hR4 => ?_
  obtain ⟨zR4_a, yR4_a, yyR4_a, cR4_a_0, cR4_a_1⟩ := cz2 hR4 w.heap.size (.int .i64 h) (.int .u64 l)
  obtain ⟨zR4_b, yR4_b, yyR4_b, cR4_b_0, cR4_b_1⟩ := cz2 hR4 (w.heap.size + 1) (.int .i64 m) (.int .u64 n)
  obtain ⟨zR4_r, yR4_r, yyR4_r, cR4_r_0, cR4_r_1, cR4_r_2⟩ := cz3 hR4 (w.heap.size + 1 + 1) (.int .i64 0) (.int .u64 0) (.int .i64 0)
  have fR4_r := fzc (b := w.heap.size + 1 + 1) hfrw5 hR4
  obtain ⟨zR4_p, yR4_p, yyR4_p, cR4_p_0, cR4_p_1, cR4_p_2, cR4_p_3⟩ := cz4 hR4 bX1p (.int .u64 q3) (.int .u64 q2) (.int .u64 s1) (.int .u64 s0)
  have fR4_p := fzc (b := bX1p) hfrw5 hR4
  obtain ⟨zR4_s, yR4_s, yyR4_s, cR4_s_0, cR4_s_1, cR4_s_2⟩ := cz3 hR4 w4.heap.size (.int .u64 s1) (.int .u64 s0) (.bool true)
  have HBR4 := bhr (a := w) hR4
  clear hR4
  clear zR3_a yR3_a yyR3_a cR3_a_0 cR3_a_1 zR3_b yR3_b yyR3_b cR3_b_0 cR3_b_1 zR3_r yR3_r yyR3_r cR3_r_0 cR3_r_1 cR3_r_2 fR3_r zR3_p yR3_p yyR3_p cR3_p_0 cR3_p_1 cR3_p_2 cR3_p_3 fR3_p zR3_s yR3_s yyR3_s cR3_s_0 cR3_s_1 cR3_s_2 HBR3 zw5_a yw5_a yyw5_a zw5_b yw5_b yyw5_b zw5_r yw5_r yyw5_r zw5_p yw5_p yyw5_p zw5_s yw5_s yyw5_s sxw5_0 hclw5 hfrw5 HBw5 fw5_r fw5_p
  go_region_held3 (fun w' => w'.cell? ⟨w.heap.size, 0, none⟩ = some (.int .i64 h) ∧ w'.cell? ⟨w.heap.size, 1, none⟩ = some (.int .u64 l) ∧ w'.cell? ⟨w.heap.size + 1, 0, none⟩ = some (.int .i64 m) ∧ w'.cell? ⟨w.heap.size + 1, 1, none⟩ = some (.int .u64 n) ∧ w'.cell? ⟨bX1p, 0, none⟩ = some (.int .u64 q3) ∧ w'.cell? ⟨bX1p, 1, none⟩ = some (.int .u64 q2) ∧ w'.cell? ⟨bX1p, 2, none⟩ = some (.int .u64 s1) ∧ w'.cell? ⟨bX1p, 3, none⟩ = some (.int .u64 s0)) (first | (simp [*, go_sem]; done) | (simp [*, go_sem, World.cell?_alloc_past]; done))
    (first
      | (go_at_call 50; (with_reducible refine (K6.out _).mono ?_); rintro e w6 ⟨rfl, hb⟩; (first | (with_reducible (obtain ⟨hclw6, hfrw6⟩ := bcell_drew hb)) | (obtain ⟨hclw6, hfrw6⟩ := bcell hb)); obtain ⟨zw6_a, yw6_a, yyw6_a⟩ := sz3 (B := w.heap.size) hb; obtain ⟨zw6_b, yw6_b, yyw6_b⟩ := sz3 (B := w.heap.size + 1) hb; obtain ⟨zw6_r, yw6_r, yyw6_r⟩ := sz3 (B := w.heap.size + 1 + 1) hb; obtain ⟨zw6_p, yw6_p, yyw6_p⟩ := sz3 (B := bX1p) hb; obtain ⟨zw6_s, yw6_s, yyw6_s⟩ := sz3 (B := w4.heap.size) hb; have sxw6_0 := sz1 (b := R4.heap.size) hb; have HBw6 := hbw (a := w) hb; clear hb; clear K6)
      | (go_at_call 35; (with_reducible refine cm (K7.out _) fun w7 hclw7 hfrw7 hb => ?_); obtain ⟨zw7_a, yw7_a, yyw7_a⟩ := sz3 (B := w.heap.size) hb; obtain ⟨zw7_b, yw7_b, yyw7_b⟩ := sz3 (B := w.heap.size + 1) hb; obtain ⟨zw7_r, yw7_r, yyw7_r⟩ := sz3 (B := w.heap.size + 1 + 1) hb; obtain ⟨zw7_p, yw7_p, yyw7_p⟩ := sz3 (B := bX1p) hb; obtain ⟨zw7_s, yw7_s, yyw7_s⟩ := sz3 (B := w4.heap.size) hb; have sxw7_0 := sz1 (b := R4.heap.size) hb; have sxw7_w6 := sz1 (b := w6.heap.size) hb; have HBw7 := hbw (a := w) hb; clear hb; clear K7))
  rename_i hHeld
  clear hHeld
  go_wp2_with fail
  refine bodyPost_ret (by simp [results, Try.results26, go_sem, *]; try rfl) rfl ?_
  exact ⟨rfl, bb⟩
end Go.Proofs.Ytmmlekgojblopaa
