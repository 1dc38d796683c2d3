/- The document's halves, roundings, roots. -/
import Derived.Test.YtmmlekgojblopaaZzLimC
import Derived.Test.YtmmlekgojblopaaZzLimA
namespace Go.Proofs.Ytmmlekgojblopaa
open Go.RowKit

theorem field_sum (x0 x1 x2 : Value) (w : World) : (Instr.field 64 (.agg #[x0, x1, x2]) 0).run Try.prog w = .ok (.agg #[x0, x1]) w := by kernel_rfl
set_option maxRecDepth 20000 in
set_option maxHeartbeats 4000000 in
theorem plus_hi (a3 a2 a1 a0 b1 b0 n1 n0 : Int) (c : Bool)  (w : World)
    (C1 : Ct 33 #[.agg #[.int .u64 a3, .int .u64 a2], .agg #[.int .u64 b1, .int .u64 b0]] (.agg #[.int .u64 n1, .int .u64 n0, .bool c])) :
    Calls Try.prog 77 #[.agg #[.int .u64 a3, .int .u64 a2, .int .u64 a1, .int .u64 a0], .agg #[.int .u64 b1, .int .u64 b0], .bool false] w fun e w' => e = .returned (.agg #[.int .u64 n1, .int .u64 n0, .int .u64 a1, .int .u64 a0]) ∧ Below w.heap.size w w' := by
  have K1 := Lib.hid C1
  clear C1
  have fld := field_sum
  go_enter Try.func77, Try.ntmps77
  go_upto_region 2 with fail
  refine nw _ fun R1 hR1 => ?_
  obtain ⟨zR1_a, yR1_a, yyR1_a, cR1_a_0, cR1_a_1, cR1_a_2, cR1_a_3⟩ := cz4 hR1 w.heap.size (.int .u64 a3) (.int .u64 a2) (.int .u64 a1) (.int .u64 a0)
  have fR1_a := fz (b := w.heap.size) hR1
  have lo_a : w.heap.size ≤ w.heap.size := by omega
  obtain ⟨zR1_b, yR1_b, yyR1_b, cR1_b_0, cR1_b_1⟩ := cz2 hR1 (w.heap.size + 1) (.int .u64 b1) (.int .u64 b0)
  obtain ⟨zR1_r, yR1_r, yyR1_r, cR1_r_0, cR1_r_1, cR1_r_2, cR1_r_3⟩ := cz4 hR1 (w.heap.size + 1 + 1) (.int .u64 0) (.int .u64 0) (.int .u64 0) (.int .u64 0)
  have fR1_r := fz (b := w.heap.size + 1 + 1) hR1
  have lo_r : w.heap.size ≤ w.heap.size + 1 + 1 := by omega
  have na_a_b : ¬ (w.heap.size = w.heap.size + 1) := by omega
  have nb_a_b : ¬ (w.heap.size + 1 = w.heap.size) := by omega
  have na_a_r : ¬ (w.heap.size = w.heap.size + 1 + 1) := by omega
  have nb_a_r : ¬ (w.heap.size + 1 + 1 = w.heap.size) := by omega
  have na_r_a : ¬ (w.heap.size + 1 + 1 = w.heap.size) := by omega
  have nb_r_a : ¬ (w.heap.size = w.heap.size + 1 + 1) := by omega
  have na_r_b : ¬ (w.heap.size + 1 + 1 = w.heap.size + 1) := by omega
  have nb_r_b : ¬ (w.heap.size + 1 = w.heap.size + 1 + 1) := by omega
  have HBR1 := bhr (a := w) hR1
  clear hR1
  go_wp2_with fail
  (with_reducible refine cm (K1.out _) fun w1 hclw1 hfrw1 hb => ?_); obtain ⟨zw1_a, yw1_a, yyw1_a⟩ := sz3 (B := w.heap.size) hb; obtain ⟨zw1_b, yw1_b, yyw1_b⟩ := sz3 (B := w.heap.size + 1) hb; obtain ⟨zw1_r, yw1_r, yyw1_r⟩ := sz3 (B := w.heap.size + 1 + 1) hb; have sxw1_0 := sz1 (b := R1.heap.size) hb; have HBw1 := hbw (a := w) hb; clear hb
  have fw1_a : ∀ j, w1.frozen? ⟨w.heap.size, j, none⟩ = false := fun j => by rw [hfrw1 _ _ (by first | exact zR1_a | (simp; exact zR1_a))]; exact fR1_a j
  have fw1_r : ∀ j, w1.frozen? ⟨w.heap.size + 1 + 1, j, none⟩ = false := fun j => by rw [hfrw1 _ _ (by first | exact zR1_r | (simp; exact zR1_r))]; exact fR1_r j
  go_wp2_with fail
  refine bodyPost_ret (by simp [results, Try.results77, go_sem, *]; try rfl) rfl ?_
  exact ⟨rfl, bb⟩
set_option maxRecDepth 20000 in
set_option maxHeartbeats 4000000 in
theorem plus_mid_false (a3 a2 a1 a0 b1 b0 l1 l0 n1 n0 : Int) (e' : Bool)  (w : World)
    (C1 : Ct 33 #[.agg #[.int .u64 a1, .int .u64 a0], .agg #[.int .u64 b0, .int .u64 0]] (.agg #[.int .u64 l1, .int .u64 l0, .bool false]))
    (C2 : Ct 33 #[.agg #[.int .u64 a3, .int .u64 a2], .agg #[.int .u64 0, .int .u64 b1]] (.agg #[.int .u64 n1, .int .u64 n0, .bool e'])) :
    Calls Try.prog 77 #[.agg #[.int .u64 a3, .int .u64 a2, .int .u64 a1, .int .u64 a0], .agg #[.int .u64 b1, .int .u64 b0], .bool true] w fun e w' => e = .returned (.agg #[.int .u64 n1, .int .u64 n0, .int .u64 l1, .int .u64 l0]) ∧ Below w.heap.size w w' := by
  have K1 := Lib.hid C1; have K2 := Lib.hid C2
  clear C1 C2
  have fld := field_sum
  go_enter Try.func77, Try.ntmps77
  go_upto_region 4 with fail
  refine nw _ fun R1 hR1 => ?_
  obtain ⟨zR1_a, yR1_a, yyR1_a, cR1_a_0, cR1_a_1, cR1_a_2, cR1_a_3⟩ := cz4 hR1 w.heap.size (.int .u64 a3) (.int .u64 a2) (.int .u64 a1) (.int .u64 a0)
  have fR1_a := fz (b := w.heap.size) hR1
  have lo_a : w.heap.size ≤ w.heap.size := by omega
  obtain ⟨zR1_b, yR1_b, yyR1_b, cR1_b_0, cR1_b_1⟩ := cz2 hR1 (w.heap.size + 1) (.int .u64 b1) (.int .u64 b0)
  obtain ⟨zR1_r, yR1_r, yyR1_r, cR1_r_0, cR1_r_1, cR1_r_2, cR1_r_3⟩ := cz4 hR1 (w.heap.size + 1 + 1) (.int .u64 0) (.int .u64 0) (.int .u64 0) (.int .u64 0)
  have fR1_r := fz (b := w.heap.size + 1 + 1) hR1
  have lo_r : w.heap.size ≤ w.heap.size + 1 + 1 := by omega
  have na_a_b : ¬ (w.heap.size = w.heap.size + 1) := by omega
  have nb_a_b : ¬ (w.heap.size + 1 = w.heap.size) := by omega
  have na_a_r : ¬ (w.heap.size = w.heap.size + 1 + 1) := by omega
  have nb_a_r : ¬ (w.heap.size + 1 + 1 = w.heap.size) := by omega
  have na_r_a : ¬ (w.heap.size + 1 + 1 = w.heap.size) := by omega
  have nb_r_a : ¬ (w.heap.size = w.heap.size + 1 + 1) := by omega
  have na_r_b : ¬ (w.heap.size + 1 + 1 = w.heap.size + 1) := by omega
  have nb_r_b : ¬ (w.heap.size + 1 = w.heap.size + 1 + 1) := by omega
  have HBR1 := bhr (a := w) hR1
  clear hR1
  go_wp2_with fail
  (with_reducible refine cm (K1.out _) fun w1 hclw1 hfrw1 hb => ?_); obtain ⟨zw1_a, yw1_a, yyw1_a⟩ := sz3 (B := w.heap.size) hb; obtain ⟨zw1_b, yw1_b, yyw1_b⟩ := sz3 (B := w.heap.size + 1) hb; obtain ⟨zw1_r, yw1_r, yyw1_r⟩ := sz3 (B := w.heap.size + 1 + 1) hb; have sxw1_0 := sz1 (b := R1.heap.size) hb; have HBw1 := hbw (a := w) hb; clear hb
  have fw1_a : ∀ j, w1.frozen? ⟨w.heap.size, j, none⟩ = false := fun j => by rw [hfrw1 _ _ (by first | exact zR1_a | (simp; exact zR1_a))]; exact fR1_a j
  have fw1_r : ∀ j, w1.frozen? ⟨w.heap.size + 1 + 1, j, none⟩ = false := fun j => by rw [hfrw1 _ _ (by first | exact zR1_r | (simp; exact zR1_r))]; exact fR1_r j
  go_upto_region 9 with fail
  refine nw _ fun R2 hR2 => ?_
  obtain ⟨zR2_a, yR2_a, yyR2_a, cR2_a_0, cR2_a_1, cR2_a_2, cR2_a_3⟩ := cz4 hR2 w.heap.size (.int .u64 a3) (.int .u64 a2) (.int .u64 l1) (.int .u64 l0)
  have fR2_a := fzc (b := w.heap.size) hfrw1 hR2
  obtain ⟨zR2_b, yR2_b, yyR2_b, cR2_b_0, cR2_b_1⟩ := cz2 hR2 (w.heap.size + 1) (.int .u64 b1) (.int .u64 b0)
  obtain ⟨zR2_r, yR2_r, yyR2_r, cR2_r_0, cR2_r_1, cR2_r_2, cR2_r_3⟩ := cz4 hR2 (w.heap.size + 1 + 1) (.int .u64 0) (.int .u64 0) (.int .u64 0) (.int .u64 0)
  have fR2_r := fzc (b := w.heap.size + 1 + 1) hfrw1 hR2
  obtain ⟨zR2_s, yR2_s, yyR2_s, cR2_s_0, cR2_s_1, cR2_s_2⟩ := cz3 hR2 w1.heap.size (.int .u64 l1) (.int .u64 l0) (.bool false)
  obtain ⟨zR2_up, yR2_up, yyR2_up, cR2_up_0, cR2_up_1⟩ := cz2 hR2 (w1.heap.size + 1) (.int .u64 0) (.int .u64 b1)
  have fR2_up := fzc (b := w1.heap.size + 1) hfrw1 hR2
  have lo_up : w.heap.size ≤ w1.heap.size + 1 := by omega
  have na_a_s : ¬ (w.heap.size = w1.heap.size) := by omega
  have nb_a_s : ¬ (w1.heap.size = w.heap.size) := by omega
  have na_a_up : ¬ (w.heap.size = w1.heap.size + 1) := by omega
  have nb_a_up : ¬ (w1.heap.size + 1 = w.heap.size) := by omega
  have na_r_s : ¬ (w.heap.size + 1 + 1 = w1.heap.size) := by omega
  have nb_r_s : ¬ (w1.heap.size = w.heap.size + 1 + 1) := by omega
  have na_r_up : ¬ (w.heap.size + 1 + 1 = w1.heap.size + 1) := by omega
  have nb_r_up : ¬ (w1.heap.size + 1 = w.heap.size + 1 + 1) := by omega
  have na_up_a : ¬ (w1.heap.size + 1 = w.heap.size) := by omega
  have nb_up_a : ¬ (w.heap.size = w1.heap.size + 1) := by omega
  have na_up_b : ¬ (w1.heap.size + 1 = w.heap.size + 1) := by omega
  have nb_up_b : ¬ (w.heap.size + 1 = w1.heap.size + 1) := by omega
  have na_up_r : ¬ (w1.heap.size + 1 = w.heap.size + 1 + 1) := by omega
  have nb_up_r : ¬ (w.heap.size + 1 + 1 = w1.heap.size + 1) := by omega
  have na_up_s : ¬ (w1.heap.size + 1 = w1.heap.size) := by omega
  have nb_up_s : ¬ (w1.heap.size = w1.heap.size + 1) := by omega
  have HBR2 := bhr (a := w) hR2
  clear hR2
  clear zR1_a yR1_a yyR1_a cR1_a_0 cR1_a_1 cR1_a_2 cR1_a_3 fR1_a zR1_b yR1_b yyR1_b cR1_b_0 cR1_b_1 zR1_r yR1_r yyR1_r cR1_r_0 cR1_r_1 cR1_r_2 cR1_r_3 fR1_r HBR1 zw1_a yw1_a yyw1_a zw1_b yw1_b yyw1_b zw1_r yw1_r yyw1_r sxw1_0 hclw1 hfrw1 HBw1 fw1_a fw1_r
  go_wp2_with fail
  (with_reducible refine cm (K2.out _) fun w2 hclw2 hfrw2 hb => ?_); obtain ⟨zw2_a, yw2_a, yyw2_a⟩ := sz3 (B := w.heap.size) hb; obtain ⟨zw2_b, yw2_b, yyw2_b⟩ := sz3 (B := w.heap.size + 1) hb; obtain ⟨zw2_r, yw2_r, yyw2_r⟩ := sz3 (B := w.heap.size + 1 + 1) hb; obtain ⟨zw2_s, yw2_s, yyw2_s⟩ := sz3 (B := w1.heap.size) hb; obtain ⟨zw2_up, yw2_up, yyw2_up⟩ := sz3 (B := w1.heap.size + 1) hb; have sxw2_0 := sz1 (b := R2.heap.size) hb; have HBw2 := hbw (a := w) hb; clear hb
  have fw2_a : ∀ j, w2.frozen? ⟨w.heap.size, j, none⟩ = false := fun j => by rw [hfrw2 _ _ (by first | exact zR2_a | (simp; exact zR2_a))]; exact fR2_a j
  have fw2_r : ∀ j, w2.frozen? ⟨w.heap.size + 1 + 1, j, none⟩ = false := fun j => by rw [hfrw2 _ _ (by first | exact zR2_r | (simp; exact zR2_r))]; exact fR2_r j
  have fw2_up : ∀ j, w2.frozen? ⟨w1.heap.size + 1, j, none⟩ = false := fun j => by rw [hfrw2 _ _ (by first | exact zR2_up | (simp; exact zR2_up))]; exact fR2_up j
  go_wp2_with fail
  refine bodyPost_ret (by simp [results, Try.results77, go_sem, *]; try rfl) rfl ?_
  exact ⟨rfl, bb⟩
set_option maxRecDepth 20000 in
set_option maxHeartbeats 4000000 in
theorem plus_mid_true (a3 a2 a1 a0 b1 b0 l1 l0 n1 n0 u1 u0 : Int) (d e' : Bool)  (w : World)
    (C1 : Ct 33 #[.agg #[.int .u64 a1, .int .u64 a0], .agg #[.int .u64 b0, .int .u64 0]] (.agg #[.int .u64 l1, .int .u64 l0, .bool true]))
    (C2 : Ct 33 #[.agg #[.int .u64 0, .int .u64 b1], .agg #[.int .u64 0, .int .u64 1]] (.agg #[.int .u64 u1, .int .u64 u0, .bool d]))
    (C3 : Ct 33 #[.agg #[.int .u64 a3, .int .u64 a2], .agg #[.int .u64 u1, .int .u64 u0]] (.agg #[.int .u64 n1, .int .u64 n0, .bool e'])) :
    Calls Try.prog 77 #[.agg #[.int .u64 a3, .int .u64 a2, .int .u64 a1, .int .u64 a0], .agg #[.int .u64 b1, .int .u64 b0], .bool true] w fun e w' => e = .returned (.agg #[.int .u64 n1, .int .u64 n0, .int .u64 l1, .int .u64 l0]) ∧ Below w.heap.size w w' := by
  have K1 := Lib.hid C1; have K2 := Lib.hid C2; have K3 := Lib.hid C3
  clear C1 C2 C3
  have fld := field_sum
  go_enter Try.func77, Try.ntmps77
  go_upto_region 4 with fail
  refine nw _ fun R1 hR1 => ?_
  obtain ⟨zR1_a, yR1_a, yyR1_a, cR1_a_0, cR1_a_1, cR1_a_2, cR1_a_3⟩ := cz4 hR1 w.heap.size (.int .u64 a3) (.int .u64 a2) (.int .u64 a1) (.int .u64 a0)
  have fR1_a := fz (b := w.heap.size) hR1
  have lo_a : w.heap.size ≤ w.heap.size := by omega
  obtain ⟨zR1_b, yR1_b, yyR1_b, cR1_b_0, cR1_b_1⟩ := cz2 hR1 (w.heap.size + 1) (.int .u64 b1) (.int .u64 b0)
  obtain ⟨zR1_r, yR1_r, yyR1_r, cR1_r_0, cR1_r_1, cR1_r_2, cR1_r_3⟩ := cz4 hR1 (w.heap.size + 1 + 1) (.int .u64 0) (.int .u64 0) (.int .u64 0) (.int .u64 0)
  have fR1_r := fz (b := w.heap.size + 1 + 1) hR1
  have lo_r : w.heap.size ≤ w.heap.size + 1 + 1 := by omega
  have na_a_b : ¬ (w.heap.size = w.heap.size + 1) := by omega
  have nb_a_b : ¬ (w.heap.size + 1 = w.heap.size) := by omega
  have na_a_r : ¬ (w.heap.size = w.heap.size + 1 + 1) := by omega
  have nb_a_r : ¬ (w.heap.size + 1 + 1 = w.heap.size) := by omega
  have na_r_a : ¬ (w.heap.size + 1 + 1 = w.heap.size) := by omega
  have nb_r_a : ¬ (w.heap.size = w.heap.size + 1 + 1) := by omega
  have na_r_b : ¬ (w.heap.size + 1 + 1 = w.heap.size + 1) := by omega
  have nb_r_b : ¬ (w.heap.size + 1 = w.heap.size + 1 + 1) := by omega
  have HBR1 := bhr (a := w) hR1
  clear hR1
  go_wp2_with fail
  (with_reducible refine cm (K1.out _) fun w1 hclw1 hfrw1 hb => ?_); obtain ⟨zw1_a, yw1_a, yyw1_a⟩ := sz3 (B := w.heap.size) hb; obtain ⟨zw1_b, yw1_b, yyw1_b⟩ := sz3 (B := w.heap.size + 1) hb; obtain ⟨zw1_r, yw1_r, yyw1_r⟩ := sz3 (B := w.heap.size + 1 + 1) hb; have sxw1_0 := sz1 (b := R1.heap.size) hb; have HBw1 := hbw (a := w) hb; clear hb
  have fw1_a : ∀ j, w1.frozen? ⟨w.heap.size, j, none⟩ = false := fun j => by rw [hfrw1 _ _ (by first | exact zR1_a | (simp; exact zR1_a))]; exact fR1_a j
  have fw1_r : ∀ j, w1.frozen? ⟨w.heap.size + 1 + 1, j, none⟩ = false := fun j => by rw [hfrw1 _ _ (by first | exact zR1_r | (simp; exact zR1_r))]; exact fR1_r j
  go_upto_region 8 with fail
  refine nw _ fun R2 hR2 => ?_
  obtain ⟨zR2_a, yR2_a, yyR2_a, cR2_a_0, cR2_a_1, cR2_a_2, cR2_a_3⟩ := cz4 hR2 w.heap.size (.int .u64 a3) (.int .u64 a2) (.int .u64 l1) (.int .u64 l0)
  have fR2_a := fzc (b := w.heap.size) hfrw1 hR2
  obtain ⟨zR2_b, yR2_b, yyR2_b, cR2_b_0, cR2_b_1⟩ := cz2 hR2 (w.heap.size + 1) (.int .u64 b1) (.int .u64 b0)
  obtain ⟨zR2_r, yR2_r, yyR2_r, cR2_r_0, cR2_r_1, cR2_r_2, cR2_r_3⟩ := cz4 hR2 (w.heap.size + 1 + 1) (.int .u64 0) (.int .u64 0) (.int .u64 0) (.int .u64 0)
  have fR2_r := fzc (b := w.heap.size + 1 + 1) hfrw1 hR2
  obtain ⟨zR2_s, yR2_s, yyR2_s, cR2_s_0, cR2_s_1, cR2_s_2⟩ := cz3 hR2 w1.heap.size (.int .u64 l1) (.int .u64 l0) (.bool true)
  obtain ⟨zR2_up, yR2_up, yyR2_up, cR2_up_0, cR2_up_1⟩ := cz2 hR2 (w1.heap.size + 1) (.int .u64 0) (.int .u64 b1)
  have fR2_up := fzc (b := w1.heap.size + 1) hfrw1 hR2
  have lo_up : w.heap.size ≤ w1.heap.size + 1 := by omega
  have na_a_s : ¬ (w.heap.size = w1.heap.size) := by omega
  have nb_a_s : ¬ (w1.heap.size = w.heap.size) := by omega
  have na_a_up : ¬ (w.heap.size = w1.heap.size + 1) := by omega
  have nb_a_up : ¬ (w1.heap.size + 1 = w.heap.size) := by omega
  have na_r_s : ¬ (w.heap.size + 1 + 1 = w1.heap.size) := by omega
  have nb_r_s : ¬ (w1.heap.size = w.heap.size + 1 + 1) := by omega
  have na_r_up : ¬ (w.heap.size + 1 + 1 = w1.heap.size + 1) := by omega
  have nb_r_up : ¬ (w1.heap.size + 1 = w.heap.size + 1 + 1) := by omega
  have na_up_a : ¬ (w1.heap.size + 1 = w.heap.size) := by omega
  have nb_up_a : ¬ (w.heap.size = w1.heap.size + 1) := by omega
  have na_up_b : ¬ (w1.heap.size + 1 = w.heap.size + 1) := by omega
  have nb_up_b : ¬ (w.heap.size + 1 = w1.heap.size + 1) := by omega
  have na_up_r : ¬ (w1.heap.size + 1 = w.heap.size + 1 + 1) := by omega
  have nb_up_r : ¬ (w.heap.size + 1 + 1 = w1.heap.size + 1) := by omega
  have na_up_s : ¬ (w1.heap.size + 1 = w1.heap.size) := by omega
  have nb_up_s : ¬ (w1.heap.size = w1.heap.size + 1) := by omega
  have HBR2 := bhr (a := w) hR2
  clear hR2
  clear zR1_a yR1_a yyR1_a cR1_a_0 cR1_a_1 cR1_a_2 cR1_a_3 fR1_a zR1_b yR1_b yyR1_b cR1_b_0 cR1_b_1 zR1_r yR1_r yyR1_r cR1_r_0 cR1_r_1 cR1_r_2 cR1_r_3 fR1_r HBR1 zw1_a yw1_a yyw1_a zw1_b yw1_b yyw1_b zw1_r yw1_r yyw1_r sxw1_0 hclw1 hfrw1 HBw1 fw1_a fw1_r
  go_wp2_with fail
  (with_reducible refine cm (K2.out _) fun w2 hclw2 hfrw2 hb => ?_); obtain ⟨zw2_a, yw2_a, yyw2_a⟩ := sz3 (B := w.heap.size) hb; obtain ⟨zw2_b, yw2_b, yyw2_b⟩ := sz3 (B := w.heap.size + 1) hb; obtain ⟨zw2_r, yw2_r, yyw2_r⟩ := sz3 (B := w.heap.size + 1 + 1) hb; obtain ⟨zw2_s, yw2_s, yyw2_s⟩ := sz3 (B := w1.heap.size) hb; obtain ⟨zw2_up, yw2_up, yyw2_up⟩ := sz3 (B := w1.heap.size + 1) hb; have sxw2_0 := sz1 (b := R2.heap.size) hb; have HBw2 := hbw (a := w) hb; clear hb
  have fw2_a : ∀ j, w2.frozen? ⟨w.heap.size, j, none⟩ = false := fun j => by rw [hfrw2 _ _ (by first | exact zR2_a | (simp; exact zR2_a))]; exact fR2_a j
  have fw2_r : ∀ j, w2.frozen? ⟨w.heap.size + 1 + 1, j, none⟩ = false := fun j => by rw [hfrw2 _ _ (by first | exact zR2_r | (simp; exact zR2_r))]; exact fR2_r j
  have fw2_up : ∀ j, w2.frozen? ⟨w1.heap.size + 1, j, none⟩ = false := fun j => by rw [hfrw2 _ _ (by first | exact zR2_up | (simp; exact zR2_up))]; exact fR2_up j
  go_upto_region 9 with fail
  refine nw _ fun R3 hR3 => ?_
  obtain ⟨zR3_a, yR3_a, yyR3_a, cR3_a_0, cR3_a_1, cR3_a_2, cR3_a_3⟩ := cz4 hR3 w.heap.size (.int .u64 a3) (.int .u64 a2) (.int .u64 l1) (.int .u64 l0)
  have fR3_a := fzc (b := w.heap.size) hfrw2 hR3
  obtain ⟨zR3_b, yR3_b, yyR3_b, cR3_b_0, cR3_b_1⟩ := cz2 hR3 (w.heap.size + 1) (.int .u64 b1) (.int .u64 b0)
  obtain ⟨zR3_r, yR3_r, yyR3_r, cR3_r_0, cR3_r_1, cR3_r_2, cR3_r_3⟩ := cz4 hR3 (w.heap.size + 1 + 1) (.int .u64 0) (.int .u64 0) (.int .u64 0) (.int .u64 0)
  have fR3_r := fzc (b := w.heap.size + 1 + 1) hfrw2 hR3
  obtain ⟨zR3_s, yR3_s, yyR3_s, cR3_s_0, cR3_s_1, cR3_s_2⟩ := cz3 hR3 w1.heap.size (.int .u64 l1) (.int .u64 l0) (.bool true)
  obtain ⟨zR3_up, yR3_up, yyR3_up, cR3_up_0, cR3_up_1⟩ := cz2 hR3 (w1.heap.size + 1) (.int .u64 u1) (.int .u64 u0)
  have fR3_up := fzc (b := w1.heap.size + 1) hfrw2 hR3
  have HBR3 := bhr (a := w) hR3
  clear hR3
  clear zR2_a yR2_a yyR2_a cR2_a_0 cR2_a_1 cR2_a_2 cR2_a_3 fR2_a zR2_b yR2_b yyR2_b cR2_b_0 cR2_b_1 zR2_r yR2_r yyR2_r cR2_r_0 cR2_r_1 cR2_r_2 cR2_r_3 fR2_r zR2_s yR2_s yyR2_s cR2_s_0 cR2_s_1 cR2_s_2 zR2_up yR2_up yyR2_up cR2_up_0 cR2_up_1 fR2_up HBR2 zw2_a yw2_a yyw2_a zw2_b yw2_b yyw2_b zw2_r yw2_r yyw2_r zw2_s yw2_s yyw2_s zw2_up yw2_up yyw2_up sxw2_0 hclw2 hfrw2 HBw2 fw2_a fw2_r fw2_up
  go_wp2_with fail
  (with_reducible refine cm (K3.out _) fun w3 hclw3 hfrw3 hb => ?_); obtain ⟨zw3_a, yw3_a, yyw3_a⟩ := sz3 (B := w.heap.size) hb; obtain ⟨zw3_b, yw3_b, yyw3_b⟩ := sz3 (B := w.heap.size + 1) hb; obtain ⟨zw3_r, yw3_r, yyw3_r⟩ := sz3 (B := w.heap.size + 1 + 1) hb; obtain ⟨zw3_s, yw3_s, yyw3_s⟩ := sz3 (B := w1.heap.size) hb; obtain ⟨zw3_up, yw3_up, yyw3_up⟩ := sz3 (B := w1.heap.size + 1) hb; have sxw3_0 := sz1 (b := R3.heap.size) hb; have HBw3 := hbw (a := w) hb; clear hb
  have fw3_a : ∀ j, w3.frozen? ⟨w.heap.size, j, none⟩ = false := fun j => by rw [hfrw3 _ _ (by first | exact zR3_a | (simp; exact zR3_a))]; exact fR3_a j
  have fw3_r : ∀ j, w3.frozen? ⟨w.heap.size + 1 + 1, j, none⟩ = false := fun j => by rw [hfrw3 _ _ (by first | exact zR3_r | (simp; exact zR3_r))]; exact fR3_r j
  have fw3_up : ∀ j, w3.frozen? ⟨w1.heap.size + 1, j, none⟩ = false := fun j => by rw [hfrw3 _ _ (by first | exact zR3_up | (simp; exact zR3_up))]; exact fR3_up j
  go_wp2_with fail
  refine bodyPost_ret (by simp [results, Try.results77, go_sem, *]; try rfl) rfl ?_
  exact ⟨rfl, bb⟩
theorem plus_hi_any (a3 a2 a1 a0 b1 b0 : Int) (h3 : Wd a3) (h2 : Wd a2) (h1 : Wd a1) (h0 : Wd a0) (k1 : Wd b1) (k0 : Wd b0) (w : World) :
    Calls Try.prog 77 #[.agg #[.int .u64 a3, .int .u64 a2, .int .u64 a1, .int .u64 a0], .agg #[.int .u64 b1, .int .u64 b0], .bool false] w fun e w' =>
      e = .returned (.agg #[.int .u64 (wd (v4 a3 a2 a1 a0 + v2 b1 b0 * 340282366920938463463374607431768211456) 3), .int .u64 (wd (v4 a3 a2 a1 a0 + v2 b1 b0 * 340282366920938463463374607431768211456) 2), .int .u64 (wd (v4 a3 a2 a1 a0 + v2 b1 b0 * 340282366920938463463374607431768211456) 1), .int .u64 (wd (v4 a3 a2 a1 a0 + v2 b1 b0 * 340282366920938463463374607431768211456) 0)]) ∧ Below w.heap.size w w' := by
  have e1 : wd (v4 a3 a2 a1 a0 + v2 b1 b0 * 340282366920938463463374607431768211456) 1 = a1 := by have k := wd_v4_1 h3 h2 h1 h0; rw [wd1] at k ⊢; omega
  have e0 : wd (v4 a3 a2 a1 a0 + v2 b1 b0 * 340282366920938463463374607431768211456) 0 = a0 := by have k := wd_v4_0 h3 h2 h1 h0; rw [wd0] at k ⊢; omega
  have hl := v2_lt h1 h0
  have hx : v4 a3 a2 a1 a0 = v2 a3 a2 * 340282366920938463463374607431768211456 + v2 a1 a0 := rfl
  have e3 : wd (v4 a3 a2 a1 a0 + v2 b1 b0 * 340282366920938463463374607431768211456) 3 = wd (v2 a3 a2 + v2 b1 b0) 1 := by rw [hx, wd3, wd1]; omega
  have e2 : wd (v4 a3 a2 a1 a0 + v2 b1 b0 * 340282366920938463463374607431768211456) 2 = wd (v2 a3 a2 + v2 b1 b0) 0 := by rw [hx, wd2, wd0]; omega
  rw [e3, e2, e1, e0]
  exact plus_hi _ _ _ _ _ _ _ _ _ w (addTwo_any a3 a2 b1 b0 h3 h2 k1 k0)
end Go.Proofs.Ytmmlekgojblopaa
namespace Go.Proofs.Ytmmlekgojblopaa
open Go.RowKit

theorem field_got (x0 x1 x2 : Value) (w : World) : (Instr.field 40 (.agg #[x0, x1, x2]) 0).run Try.prog w = .ok (.agg #[x0, x1]) w := by kernel_rfl
theorem ne_two_one (a1 a0 b1 b0 : Int) (W : World) : (Go.binOp .neq 62 (.agg #[.int .u64 a1, .int .u64 a0]) (.agg #[.int .u64 b1, .int .u64 b0])).run Try.prog W = .ok (.bool (!decide (a1 = b1 ∧ a0 = b0))) W := by
  by_cases c : a1 = b1 <;> by_cases d : a0 = b0 <;> simp [go_sem, *]
set_option maxRecDepth 20000 in
set_option maxHeartbeats 8000000 in
theorem rneg_core (h l u s1 s0 r1 : Int) (c : Bool) (e1 : IntKind.u64.wrap h = u) (e2 : IntKind.i64.wrap s1 = r1) (w : World)
    (C1 : Ct 30 #[.agg #[.int .u64 0, .int .u64 0], .agg #[.int .u64 u, .int .u64 l]] (.agg #[.int .u64 s1, .int .u64 s0, .bool c])) :
    Calls Try.prog 15 #[.agg #[.int .i64 h, .int .u64 l]] w fun e w' => e = .returned (.agg #[.int .i64 r1, .int .u64 s0]) ∧ Below w.heap.size w w' := by
  have K1 := Lib.hid C1
  clear C1
  have fld := field_sum
  go_enter Try.func15, Try.ntmps15
  go_upto_region 1 with fail
  refine nw _ fun R1 hR1 => ?_
  obtain ⟨zR1_a, yR1_a, yyR1_a, cR1_a_0, cR1_a_1⟩ := cz2 hR1 w.heap.size (.int .i64 h) (.int .u64 l)
  obtain ⟨zR1_r, yR1_r, yyR1_r, cR1_r_0, cR1_r_1⟩ := cz2 hR1 (w.heap.size + 1) (.int .i64 0) (.int .u64 0)
  have fR1_r := fz (b := w.heap.size + 1) hR1
  have lo_r : w.heap.size ≤ w.heap.size + 1 := by omega
  have na_r_a : ¬ (w.heap.size + 1 = w.heap.size) := by omega
  have nb_r_a : ¬ (w.heap.size = w.heap.size + 1) := by omega
  have HBR1 := bhr (a := w) hR1
  clear hR1
  go_wp2_with fail
  (with_reducible refine cm (K1.out _) fun w1 hclw1 hfrw1 hb => ?_); obtain ⟨zw1_a, yw1_a, yyw1_a⟩ := sz3 (B := w.heap.size) hb; obtain ⟨zw1_r, yw1_r, yyw1_r⟩ := sz3 (B := w.heap.size + 1) hb; have sxw1_0 := sz1 (b := R1.heap.size) hb; have HBw1 := hbw (a := w) hb; clear hb
  have fw1_r : ∀ j, w1.frozen? ⟨w.heap.size + 1, j, none⟩ = false := fun j => by rw [hfrw1 _ _ (by first | exact zR1_r | (simp; exact zR1_r))]; exact fR1_r j
  go_wp2_with fail
  refine bodyPost_ret (by simp [results, Try.results15, go_sem, *]; try rfl) rfl ?_
  exact ⟨rfl, bb⟩
set_option maxRecDepth 20000 in
set_option maxHeartbeats 8000000 in
theorem rmag_neg (h l h' l' u : Int) (hlt : h < 0) (e1 : IntKind.u64.wrap h' = u) (w : World)
    (C1 : Ct 15 #[.agg #[.int .i64 h, .int .u64 l]] (.agg #[.int .i64 h', .int .u64 l'])) :
    Calls Try.prog 32 #[.agg #[.int .i64 h, .int .u64 l]] w fun e w' => e = .returned (.agg #[.int .u64 u, .int .u64 (l')]) ∧ Below w.heap.size w w' := by
  have K1 := Lib.hid C1
  clear C1
  go_enter Try.func32, Try.ntmps32
  go_upto_region 2 with fail
  refine nw _ fun R1 hR1 => ?_
  obtain ⟨zR1_a, yR1_a, yyR1_a, cR1_a_0, cR1_a_1⟩ := cz2 hR1 w.heap.size (.int .i64 h) (.int .u64 l)
  have fR1_a := fz (b := w.heap.size) hR1
  have lo_a : w.heap.size ≤ w.heap.size := by omega
  obtain ⟨zR1_r, yR1_r, yyR1_r, cR1_r_0, cR1_r_1⟩ := cz2 hR1 (w.heap.size + 1) (.int .u64 0) (.int .u64 0)
  have fR1_r := fz (b := w.heap.size + 1) hR1
  have lo_r : w.heap.size ≤ w.heap.size + 1 := by omega
  have na_a_r : ¬ (w.heap.size = w.heap.size + 1) := by omega
  have nb_a_r : ¬ (w.heap.size + 1 = w.heap.size) := by omega
  have na_r_a : ¬ (w.heap.size + 1 = w.heap.size) := by omega
  have nb_r_a : ¬ (w.heap.size = w.heap.size + 1) := by omega
  have HBR1 := bhr (a := w) hR1
  clear hR1
  go_wp2_with fail
  (with_reducible refine cm (K1.out _) fun w1 hclw1 hfrw1 hb => ?_); obtain ⟨zw1_a, yw1_a, yyw1_a⟩ := sz3 (B := w.heap.size) hb; obtain ⟨zw1_r, yw1_r, yyw1_r⟩ := sz3 (B := w.heap.size + 1) hb; have sxw1_0 := sz1 (b := R1.heap.size) hb; have HBw1 := hbw (a := w) hb; clear hb
  have fw1_a : ∀ j, w1.frozen? ⟨w.heap.size, j, none⟩ = false := fun j => by rw [hfrw1 _ _ (by first | exact zR1_a | (simp; exact zR1_a))]; exact fR1_a j
  have fw1_r : ∀ j, w1.frozen? ⟨w.heap.size + 1, j, none⟩ = false := fun j => by rw [hfrw1 _ _ (by first | exact zR1_r | (simp; exact zR1_r))]; exact fR1_r j
  go_wp2_with fail
  refine bodyPost_ret (by simp [results, Try.results32, go_sem, *]; try rfl) rfl ?_
  exact ⟨rfl, bb⟩
set_option maxRecDepth 20000 in
set_option maxHeartbeats 8000000 in
theorem rmag_pos (h l u : Int) (hlt : ¬ h < 0) (e1 : IntKind.u64.wrap h = u) (w : World) :
    Calls Try.prog 32 #[.agg #[.int .i64 h, .int .u64 l]] w fun e w' => e = .returned (.agg #[.int .u64 u, .int .u64 l]) ∧ Below w.heap.size w w' := by
  go_enter Try.func32, Try.ntmps32
  go_wp2_with fail
  refine bodyPost_ret (by simp [results, Try.results32, go_sem, *]; try rfl) rfl ?_
  exact ⟨rfl, bb⟩
set_option maxRecDepth 20000 in
set_option maxHeartbeats 8000000 in
theorem rsigned_hi (m3 m2 m1 m0 : Int) (b : Bool) (q : ∀ W, (Go.binOp .neq 62 (.agg #[.int .u64 m3, .int .u64 m2]) (.agg #[.int .u64 0, .int .u64 0])).run Try.prog W = .ok (.bool true) W) (w : World) :
    Calls Try.prog 35 #[.bool b, .agg #[.int .u64 m3, .int .u64 m2, .int .u64 m1, .int .u64 m0]] w fun e w' => e = .returned (.agg #[.int .i64 0, .int .u64 0, .int .i64 3]) ∧ Below w.heap.size w w' := by
  go_enter Try.func35, Try.ntmps35
  go_wp2_with fail
  refine bodyPost_ret (by simp [results, Try.results35, go_sem, *]; try rfl) rfl ?_
  exact ⟨rfl, bb⟩
set_option maxRecDepth 20000 in
set_option maxHeartbeats 8000000 in
theorem rsigned_mid (m3 m2 m1 m0 : Int) (b : Bool) (q : ∀ W, (Go.binOp .neq 62 (.agg #[.int .u64 m3, .int .u64 m2]) (.agg #[.int .u64 0, .int .u64 0])).run Try.prog W = .ok (.bool false) W) (hge : 9223372036854775808 ≤ m1) (w : World) :
    Calls Try.prog 35 #[.bool b, .agg #[.int .u64 m3, .int .u64 m2, .int .u64 m1, .int .u64 m0]] w fun e w' => e = .returned (.agg #[.int .i64 0, .int .u64 0, .int .i64 3]) ∧ Below w.heap.size w w' := by
  go_enter Try.func35, Try.ntmps35
  go_wp2_with fail
  refine bodyPost_ret (by simp [results, Try.results35, go_sem, *]; try rfl) rfl ?_
  exact ⟨rfl, bb⟩
set_option maxRecDepth 20000 in
set_option maxHeartbeats 8000000 in
theorem rsigned_pos (m3 m2 m1 m0 r1 : Int) (q : ∀ W, (Go.binOp .neq 62 (.agg #[.int .u64 m3, .int .u64 m2]) (.agg #[.int .u64 0, .int .u64 0])).run Try.prog W = .ok (.bool false) W) (hge : ¬ 9223372036854775808 ≤ m1) (e1 : IntKind.i64.wrap m1 = r1) (w : World) :
    Calls Try.prog 35 #[.bool false, .agg #[.int .u64 m3, .int .u64 m2, .int .u64 m1, .int .u64 m0]] w fun e w' => e = .returned (.agg #[.int .i64 r1, .int .u64 m0, .int .i64 0]) ∧ Below w.heap.size w w' := by
  go_enter Try.func35, Try.ntmps35
  go_wp2_with fail
  refine bodyPost_ret (by simp [results, Try.results35, go_sem, *]; try rfl) rfl ?_
  exact ⟨rfl, bb⟩
set_option maxRecDepth 20000 in
set_option maxHeartbeats 8000000 in
theorem rsigned_neg (m3 m2 m1 m0 r1 n1 n0 : Int) (q : ∀ W, (Go.binOp .neq 62 (.agg #[.int .u64 m3, .int .u64 m2]) (.agg #[.int .u64 0, .int .u64 0])).run Try.prog W = .ok (.bool false) W) (hge : ¬ 9223372036854775808 ≤ m1) (e1 : IntKind.i64.wrap m1 = r1) (w : World)
    (C1 : Ct 15 #[.agg #[.int .i64 r1, .int .u64 m0]] (.agg #[.int .i64 n1, .int .u64 n0])) :
    Calls Try.prog 35 #[.bool true, .agg #[.int .u64 m3, .int .u64 m2, .int .u64 m1, .int .u64 m0]] w fun e w' => e = .returned (.agg #[.int .i64 n1, .int .u64 n0, .int .i64 0]) ∧ Below w.heap.size w w' := by
  have K1 := Lib.hid C1
  clear C1
  go_enter Try.func35, Try.ntmps35
  go_upto_region 5 with fail
  refine nw _ fun R1 hR1 => ?_
  obtain ⟨zR1_m, yR1_m, yyR1_m, cR1_m_0, cR1_m_1, cR1_m_2, cR1_m_3⟩ := cz4 hR1 w.heap.size (.int .u64 m3) (.int .u64 m2) (.int .u64 m1) (.int .u64 m0)
  obtain ⟨zR1_r, yR1_r, yyR1_r, cR1_r_0, cR1_r_1, cR1_r_2⟩ := cz3 hR1 (w.heap.size + 1) (.int .i64 0) (.int .u64 0) (.int .i64 0)
  have fR1_r := fz (b := w.heap.size + 1) hR1
  have lo_r : w.heap.size ≤ w.heap.size + 1 := by omega
  obtain ⟨zR1_n, yR1_n, yyR1_n, cR1_n_0, cR1_n_1⟩ := cz2 hR1 (w.heap.size + 1 + 1) (.int .i64 r1) (.int .u64 m0)
  have fR1_n := fz (b := w.heap.size + 1 + 1) hR1
  have lo_n : w.heap.size ≤ w.heap.size + 1 + 1 := by omega
  have na_r_m : ¬ (w.heap.size + 1 = w.heap.size) := by omega
  have nb_r_m : ¬ (w.heap.size = w.heap.size + 1) := by omega
  have na_r_n : ¬ (w.heap.size + 1 = w.heap.size + 1 + 1) := by omega
  have nb_r_n : ¬ (w.heap.size + 1 + 1 = w.heap.size + 1) := by omega
  have na_n_m : ¬ (w.heap.size + 1 + 1 = w.heap.size) := by omega
  have nb_n_m : ¬ (w.heap.size = w.heap.size + 1 + 1) := by omega
  have na_n_r : ¬ (w.heap.size + 1 + 1 = w.heap.size + 1) := by omega
  have nb_n_r : ¬ (w.heap.size + 1 = w.heap.size + 1 + 1) := by omega
  have HBR1 := bhr (a := w) hR1
  clear hR1
  go_wp2_with fail
  (with_reducible refine cm (K1.out _) fun w1 hclw1 hfrw1 hb => ?_); obtain ⟨zw1_m, yw1_m, yyw1_m⟩ := sz3 (B := w.heap.size) hb; obtain ⟨zw1_r, yw1_r, yyw1_r⟩ := sz3 (B := w.heap.size + 1) hb; obtain ⟨zw1_n, yw1_n, yyw1_n⟩ := sz3 (B := w.heap.size + 1 + 1) hb; have sxw1_0 := sz1 (b := R1.heap.size) hb; have HBw1 := hbw (a := w) hb; clear hb
  have fw1_r : ∀ j, w1.frozen? ⟨w.heap.size + 1, j, none⟩ = false := fun j => by rw [hfrw1 _ _ (by first | exact zR1_r | (simp; exact zR1_r))]; exact fR1_r j
  have fw1_n : ∀ j, w1.frozen? ⟨w.heap.size + 1 + 1, j, none⟩ = false := fun j => by rw [hfrw1 _ _ (by first | exact zR1_n | (simp; exact zR1_n))]; exact fR1_n j
  go_wp2_with fail
  refine bodyPost_ret (by simp [results, Try.results35, go_sem, *]; try rfl) rfl ?_
  exact ⟨rfl, bb⟩
set_option maxRecDepth 20000 in
set_option maxHeartbeats 8000000 in
theorem rint_lo (n : Int) (hc : n < -9223372036854775807) (w : World) :
    Calls Try.prog 16 #[.int .i64 n] w fun e w' => e = .returned (.agg #[.int .i64 (-9223372036854775807), .int .u64 0]) ∧ Below w.heap.size w w' := by
  go_enter Try.func16, Try.ntmps16
  go_wp2_with fail
  refine bodyPost_ret (by simp [results, Try.results16, go_sem, *]; try rfl) rfl ?_
  exact ⟨rfl, bb⟩
set_option maxRecDepth 20000 in
set_option maxHeartbeats 8000000 in
theorem rint_hi (n : Int) (hc : ¬ n < -9223372036854775807) (w : World) :
    Calls Try.prog 16 #[.int .i64 n] w fun e w' => e = .returned (.agg #[.int .i64 n, .int .u64 0]) ∧ Below w.heap.size w w' := by
  go_enter Try.func16, Try.ntmps16
  go_wp2_with fail
  refine bodyPost_ret (by simp [results, Try.results16, go_sem, *]; try rfl) rfl ?_
  exact ⟨rfl, bb⟩
end Go.Proofs.Ytmmlekgojblopaa
namespace Go.Proofs.Ytmmlekgojblopaa
open Go.RowKit

theorem rneg_any (x : Int) (h : My x) (w : World) :
    Calls Try.prog 15 #[.agg #[.int .i64 (fh x), .int .u64 (fl x)]] w fun e w' => e = .returned (.agg #[.int .i64 (fh (-x)), .int .u64 (fl (-x))]) ∧ Below w.heap.size w w' := by
  have z : Wd 0 := ⟨by omega, by omega⟩
  have C := subTwo_any 0 0 (IntKind.u64.wrap (fh x)) (fl x) z z (by rw [ub_1]; exact wd_wd _ _) (fl_wd x)
  have e1 := ub_1 (x := x)
  have e0 := ub_0 x
  have hv : v2 (IntKind.u64.wrap (fh x)) (fl x) = ub x := by rw [e1, e0]; exact ub_v2 x
  rw [hv, show v2 0 0 = 0 from rfl, Nat.zero_add] at C
  have hl := ub_lt x
  have hn : Fx (-x) := by obtain ⟨_, _⟩ := h; exact ⟨by omega, by omega⟩
  have k := of_ub (x := -x) (n := 340282366920938463463374607431768211456 - ub x) hn (by unfold ub at hl ⊢; omega)
  rw [← wrap_i64] at k
  rw [← k.2]
  exact rneg_core _ _ _ _ _ _ _ rfl k.1 w C
theorem ub_abs {x : Int} (h0 : 0 ≤ x) (h : My x) : ub x = x.natAbs := by obtain ⟨_, _⟩ := h; unfold ub; omega
theorem rmag_any (x : Int) (h : My x) (w : World) :
    Calls Try.prog 32 #[.agg #[.int .i64 (fh x), .int .u64 (fl x)]] w fun e w' => e = .returned (.agg #[.int .u64 (wd x.natAbs 1), .int .u64 (wd x.natAbs 0)]) ∧ Below w.heap.size w w' := by
  by_cases c : x < 0
  · have hm : My (-x) := by obtain ⟨_, _⟩ := h; exact ⟨by omega, by omega⟩
    have e1 := ub_1 (x := -x)
    have e0 := ub_0 (-x)
    rw [ub_abs (by omega) hm, Int.natAbs_neg] at e1 e0
    rw [← e0]
    exact rmag_neg _ _ _ _ _ (by unfold fh; omega) e1 w (rneg_any x h)
  · have e1 := ub_1 (x := x)
    have e0 := ub_0 x
    rw [ub_abs (by omega) h] at e1 e0
    rw [← e0]
    exact rmag_pos _ _ _ (by unfold fh; omega) e1 w
theorem sg_out {b : Bool} {n : Nat} (h : 170141183460469231731687303715884105728 ≤ n) : ¬ My (sg b n) := by
  unfold My sg; cases b <;> simp <;> omega
theorem sg_in {b : Bool} {n : Nat} (h : n < 170141183460469231731687303715884105728) : My (sg b n) := by
  unfold My sg; cases b <;> simp <;> omega
theorem rsigned_any (b : Bool) (n : Nat) (h : n < 115792089237316195423570985008687907853269984665640564039457584007913129639936) (w : World) :
    Calls Try.prog 35 #[.bool b, .agg #[.int .u64 (wd n 3), .int .u64 (wd n 2), .int .u64 (wd n 1), .int .u64 (wd n 0)]] w fun e w' =>
      e = .returned (.agg #[.int .i64 (fh (ov (sg b n))), .int .u64 (fl (ov (sg b n))), .int .i64 (oe (sg b n))]) ∧ Below w.heap.size w w' := by
  by_cases c : 340282366920938463463374607431768211456 ≤ n
  · rw [ov_out (sg_out (b := b) (by omega)), oe_out (sg_out (b := b) (by omega)), show fh 0 = 0 from rfl, show fl 0 = 0 from rfl]
    refine rsigned_hi _ _ _ _ b (fun W => ?_) w
    rw [ne_two_one, decide_eq_false]
    · rfl
    · rw [wd3, wd2]; omega
  have q : ∀ W, (Go.binOp .neq 62 (.agg #[.int .u64 (wd n 3), .int .u64 (wd n 2)]) (.agg #[.int .u64 0, .int .u64 0])).run Try.prog W = .ok (.bool false) W := fun W => by
    rw [ne_two_one, decide_eq_true]
    · rfl
    · rw [wd3, wd2]; omega
  by_cases d : 170141183460469231731687303715884105728 ≤ n
  · rw [ov_out (sg_out (b := b) d), oe_out (sg_out (b := b) d), show fh 0 = 0 from rfl, show fl 0 = 0 from rfl]
    exact rsigned_mid _ _ _ _ b q (by rw [wd1]; omega) w
  · rw [ov_in (sg_in (b := b) (by omega)), oe_in (sg_in (b := b) (by omega))]
    have hm : My (n : Int) := ⟨by omega, by omega⟩
    have e1 : wd n 1 = fh (n : Int) := by rw [wd1]; unfold fh; omega
    have e0 : wd n 0 = fl (n : Int) := by rw [wd0]; unfold fl; omega
    have ew : IntKind.i64.wrap (wd n 1) = fh (n : Int) := by rw [e1]; exact IntWalk.i64_in _ (by unfold fh; omega)
    have hg : ¬ 9223372036854775808 ≤ wd n 1 := by rw [wd1]; omega
    cases b
    · show Calls _ _ _ _ (fun e w' => e = .returned (.agg #[.int .i64 (fh (n : Int)), .int .u64 (fl (n : Int)), .int .i64 0]) ∧ _)
      rw [← e0]
      exact rsigned_pos _ _ _ _ _ q hg ew w
    · show Calls _ _ _ _ (fun e w' => e = .returned (.agg #[.int .i64 (fh (-(n : Int))), .int .u64 (fl (-(n : Int))), .int .i64 0]) ∧ _)
      have C := rneg_any (n : Int) hm
      rw [← e0] at C
      exact rsigned_neg _ _ _ _ _ _ _ q hg ew w C
theorem rint_any (n : Int) (w : World) :
    Calls Try.prog 16 #[.int .i64 n] w fun e w' => e = .returned (.agg #[.int .i64 (fh (intr n)), .int .u64 (fl (intr n))]) ∧ Below w.heap.size w w' := by
  unfold intr
  by_cases c : n < -9223372036854775807
  · rw [if_pos c]; exact rint_lo n c w
  · rw [if_neg c, show fh (n * 18446744073709551616) = n by unfold fh; omega, show fl (n * 18446744073709551616) = 0 by unfold fl; omega]
    exact rint_hi n c w
end Go.Proofs.Ytmmlekgojblopaa
namespace Go.Proofs.Ytmmlekgojblopaa
open Go.RowKit

set_option maxRecDepth 20000 in
set_option maxHeartbeats 8000000 in
theorem rsqrt_none (h l : Int) (hlt : h < 0) (w : World) :
    Calls Try.prog 28 #[.agg #[.int .i64 h, .int .u64 l]] w fun e w' => e = .returned (.agg #[.int .i64 0, .int .u64 0, .int .i64 1]) ∧ Below w.heap.size w w' := by
  go_enter Try.func28, Try.ntmps28
  go_wp2_with fail
  refine bodyPost_ret (by simp [results, Try.results28, go_sem, *]; try rfl) rfl ?_
  exact ⟨rfl, bb⟩
set_option maxRecDepth 20000 in
set_option maxHeartbeats 8000000 in
theorem rsqrt_core (h l d1 d0 s3 s2 s1 s0 r1 r0 g1 g0 k : Int) (hlt : ¬ h < 0) (w : World)
    (C1 : Ct 32 #[.agg #[.int .i64 h, .int .u64 l]] (.agg #[.int .u64 d1, .int .u64 d0]))
    (C2 : Ct 31 #[.agg #[.int .u64 0, .int .u64 0, .int .u64 d1, .int .u64 d0], .int .i64 64] (.agg #[.int .u64 s3, .int .u64 s2, .int .u64 s1, .int .u64 s0]))
    (C3 : Ct 52 #[.agg #[.int .u64 s3, .int .u64 s2, .int .u64 s1, .int .u64 s0]] (.agg #[.int .u64 r1, .int .u64 r0]))
    (C4 : Ct 35 #[.bool false, .agg #[.int .u64 0, .int .u64 0, .int .u64 r1, .int .u64 r0]] (.agg #[.int .i64 g1, .int .u64 g0, .int .i64 k])) :
    Calls Try.prog 28 #[.agg #[.int .i64 h, .int .u64 l]] w fun e w' => e = .returned (.agg #[.int .i64 g1, .int .u64 g0, .int .i64 k]) ∧ Below w.heap.size w w' := by
  have K1 := Lib.hid C1; have K2 := Lib.hid C2; have K3 := Lib.hid C3; have K4 := Lib.hid C4
  clear C1 C2 C3 C4
  go_enter Try.func28, Try.ntmps28
  go_upto_region 3 with fail
  refine nw _ fun R1 hR1 => ?_
  obtain ⟨zR1_a, yR1_a, yyR1_a, cR1_a_0, cR1_a_1⟩ := cz2 hR1 w.heap.size (.int .i64 h) (.int .u64 l)
  obtain ⟨zR1_r, yR1_r, yyR1_r, cR1_r_0, cR1_r_1, cR1_r_2⟩ := cz3 hR1 (w.heap.size + 1) (.int .i64 0) (.int .u64 0) (.int .i64 0)
  have fR1_r := fz (b := w.heap.size + 1) hR1
  have lo_r : w.heap.size ≤ w.heap.size + 1 := by omega
  have na_r_a : ¬ (w.heap.size + 1 = w.heap.size) := by omega
  have nb_r_a : ¬ (w.heap.size = w.heap.size + 1) := by omega
  have HBR1 := bhr (a := w) hR1
  clear hR1
  go_wp2_with fail
  (with_reducible refine cm (K1.out _) fun w1 hclw1 hfrw1 hb => ?_); obtain ⟨zw1_a, yw1_a, yyw1_a⟩ := sz3 (B := w.heap.size) hb; obtain ⟨zw1_r, yw1_r, yyw1_r⟩ := sz3 (B := w.heap.size + 1) hb; have sxw1_0 := sz1 (b := R1.heap.size) hb; have HBw1 := hbw (a := w) hb; clear hb
  have fw1_r : ∀ j, w1.frozen? ⟨w.heap.size + 1, j, none⟩ = false := fun j => by rw [hfrw1 _ _ (by first | exact zR1_r | (simp; exact zR1_r))]; exact fR1_r j
  go_wp2_with fail
  (with_reducible refine cm (K2.out _) fun w2 hclw2 hfrw2 hb => ?_); obtain ⟨zw2_a, yw2_a, yyw2_a⟩ := sz3 (B := w.heap.size) hb; obtain ⟨zw2_r, yw2_r, yyw2_r⟩ := sz3 (B := w.heap.size + 1) hb; have sxw2_0 := sz1 (b := w1.heap.size) hb; have HBw2 := hbw (a := w) hb; clear hb
  go_wp2_with fail
  (with_reducible refine cm (K3.out _) fun w3 hclw3 hfrw3 hb => ?_); obtain ⟨zw3_a, yw3_a, yyw3_a⟩ := sz3 (B := w.heap.size) hb; obtain ⟨zw3_r, yw3_r, yyw3_r⟩ := sz3 (B := w.heap.size + 1) hb; have sxw3_0 := sz1 (b := w2.heap.size) hb; have HBw3 := hbw (a := w) hb; clear hb
  go_wp2_with fail
  (with_reducible refine cm (K4.out _) fun w4 hclw4 hfrw4 hb => ?_); obtain ⟨zw4_a, yw4_a, yyw4_a⟩ := sz3 (B := w.heap.size) hb; obtain ⟨zw4_r, yw4_r, yyw4_r⟩ := sz3 (B := w.heap.size + 1) hb; have sxw4_0 := sz1 (b := w3.heap.size) hb; have HBw4 := hbw (a := w) hb; clear hb
  go_wp2_with fail
  refine bodyPost_ret (by simp [results, Try.results28, go_sem, *]; try rfl) rfl ?_
  exact ⟨rfl, bb⟩
end Go.Proofs.Ytmmlekgojblopaa
