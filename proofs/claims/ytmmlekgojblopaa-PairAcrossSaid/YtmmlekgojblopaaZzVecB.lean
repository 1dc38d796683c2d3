/- The document's ways, at every way that may be: they are the package's. -/
import Derived.Test.YtmmlekgojblopaaZzVecA
import Derived.Test.YtmmlekgojblopaaZzRefE
namespace Go.Proofs.Ytmmlekgojblopaa
open Go.RowKit
set_option maxRecDepth 20000 in
set_option maxHeartbeats 60000000 in
theorem rboth_x (xh xl yh yl ex ey : Int) (he : ¬ ex = 0) (w : World) :
    Calls Try.prog 53 #[.agg #[.int .i64 xh, .int .u64 xl, .int .i64 ex], .agg #[.int .i64 yh, .int .u64 yl, .int .i64 ey]] w fun e w' => e = .returned (.agg #[.int .i64 0, .int .u64 0, .int .i64 0, .int .u64 0, .int .i64 ex]) ∧ Below w.heap.size w w' := by
  go_enter Try.func53, Try.ntmps53
  go_wp2_with fail
  refine bodyPost_ret (by simp [results, Try.results53, go_sem, *]; try rfl) rfl ?_
  exact ⟨rfl, bb⟩
set_option maxRecDepth 20000 in
set_option maxHeartbeats 60000000 in
theorem rboth_y (xh xl yh yl ex ey : Int) (hx : ex = 0) (he : ¬ ey = 0) (w : World) :
    Calls Try.prog 53 #[.agg #[.int .i64 xh, .int .u64 xl, .int .i64 ex], .agg #[.int .i64 yh, .int .u64 yl, .int .i64 ey]] w fun e w' => e = .returned (.agg #[.int .i64 0, .int .u64 0, .int .i64 0, .int .u64 0, .int .i64 ey]) ∧ Below w.heap.size w w' := by
  subst hx
  go_enter Try.func53, Try.ntmps53
  go_wp2_with fail
  refine bodyPost_ret (by simp [results, Try.results53, go_sem, *]; try rfl) rfl ?_
  exact ⟨rfl, bb⟩
set_option maxRecDepth 20000 in
set_option maxHeartbeats 60000000 in
theorem rboth_ok (xh xl yh yl ex ey : Int) (hx : ex = 0) (hy : ey = 0) (w : World) :
    Calls Try.prog 53 #[.agg #[.int .i64 xh, .int .u64 xl, .int .i64 ex], .agg #[.int .i64 yh, .int .u64 yl, .int .i64 ey]] w fun e w' => e = .returned (.agg #[.int .i64 xh, .int .u64 xl, .int .i64 yh, .int .u64 yl, .int .i64 0]) ∧ Below w.heap.size w w' := by
  subst hx
  subst hy
  go_enter Try.func53, Try.ntmps53
  go_wp2_with fail
  refine bodyPost_ret (by simp [results, Try.results53, go_sem, *]; try rfl) rfl ?_
  exact ⟨rfl, bb⟩
set_option maxRecDepth 20000 in
set_option maxHeartbeats 60000000 in
theorem rscale_core (axh axl ayh ayl kh kl ph pl qh ql rxh rxl ryh ryl ep eq er : Int)  (w : World)
    (C1 : Ct 26 #[.agg #[.int .i64 axh, .int .u64 axl], .agg #[.int .i64 kh, .int .u64 kl]] (.agg #[.int .i64 ph, .int .u64 pl, .int .i64 ep]))
    (C2 : Ct 26 #[.agg #[.int .i64 ayh, .int .u64 ayl], .agg #[.int .i64 kh, .int .u64 kl]] (.agg #[.int .i64 qh, .int .u64 ql, .int .i64 eq]))
    (C3 : Ct 53 #[.agg #[.int .i64 ph, .int .u64 pl, .int .i64 ep], .agg #[.int .i64 qh, .int .u64 ql, .int .i64 eq]] (.agg #[.int .i64 rxh, .int .u64 rxl, .int .i64 ryh, .int .u64 ryl, .int .i64 er])) :
    Calls Try.prog 29 #[.agg #[.int .i64 axh, .int .u64 axl, .int .i64 ayh, .int .u64 ayl], .agg #[.int .i64 kh, .int .u64 kl]] w fun e w' => e = .returned (.agg #[.int .i64 rxh, .int .u64 rxl, .int .i64 ryh, .int .u64 ryl, .int .i64 er]) ∧ Below w.heap.size w w' := by
  have K1 := Lib.hid C1; have K2 := Lib.hid C2; have K3 := Lib.hid C3
  clear C1 C2 C3
  go_enter Try.func29, Try.ntmps29
  go_upto_region 1 with fail
  refine nw _ fun R1 hR1 => ?_
  obtain ⟨zR1_a, yR1_a, yyR1_a, cR1_a_0, cR1_a_1, cR1_a_2, cR1_a_3⟩ := cz4 hR1 w.heap.size (.int .i64 axh) (.int .u64 axl) (.int .i64 ayh) (.int .u64 ayl)
  obtain ⟨zR1_k, yR1_k, yyR1_k, cR1_k_0, cR1_k_1⟩ := cz2 hR1 (w.heap.size + 1) (.int .i64 kh) (.int .u64 kl)
  obtain ⟨zR1_r, yR1_r, yyR1_r, cR1_r_0, cR1_r_1, cR1_r_2, cR1_r_3, cR1_r_4⟩ := cz5 hR1 (w.heap.size + 1 + 1) (.int .i64 0) (.int .u64 0) (.int .i64 0) (.int .u64 0) (.int .i64 0)
  have fR1_r := fz (b := w.heap.size + 1 + 1) hR1
  have lo_r : w.heap.size ≤ w.heap.size + 1 + 1 := by omega
  have HBR1 := bhr (a := w) hR1
  clear hR1
  go_region_held3 (fun w' => w'.cell? ⟨w.heap.size, 0, none⟩ = some (.int .i64 axh) ∧ w'.cell? ⟨w.heap.size, 1, none⟩ = some (.int .u64 axl) ∧ w'.cell? ⟨w.heap.size, 2, none⟩ = some (.int .i64 ayh) ∧ w'.cell? ⟨w.heap.size, 3, none⟩ = some (.int .u64 ayl) ∧ w'.cell? ⟨w.heap.size + 1, 0, none⟩ = some (.int .i64 kh) ∧ w'.cell? ⟨w.heap.size + 1, 1, none⟩ = some (.int .u64 kl)) (first | (simp [*, go_sem]; done) | (simp [*, go_sem, World.cell?_alloc_past]; done))
    (first
      | (go_at_call 26; (with_reducible refine (K1.out _).mono ?_); rintro e w1 ⟨rfl, hb⟩; (first | (with_reducible (obtain ⟨hclw1, hfrw1⟩ := bcell_drew hb)) | (obtain ⟨hclw1, hfrw1⟩ := bcell hb)); obtain ⟨zw1_a, yw1_a, yyw1_a⟩ := sz3 (B := w.heap.size) hb; obtain ⟨zw1_k, yw1_k, yyw1_k⟩ := sz3 (B := w.heap.size + 1) hb; obtain ⟨zw1_r, yw1_r, yyw1_r⟩ := sz3 (B := w.heap.size + 1 + 1) hb; have sxw1_0 := sz1 (b := R1.heap.size) hb; have HBw1 := hbw (a := w) hb; clear hb; clear K1)
      | (go_at_call 26; (with_reducible refine cm (K2.out _) fun w2 hclw2 hfrw2 hb => ?_); obtain ⟨zw2_a, yw2_a, yyw2_a⟩ := sz3 (B := w.heap.size) hb; obtain ⟨zw2_k, yw2_k, yyw2_k⟩ := sz3 (B := w.heap.size + 1) hb; obtain ⟨zw2_r, yw2_r, yyw2_r⟩ := sz3 (B := w.heap.size + 1 + 1) hb; have sxw2_0 := sz1 (b := R1.heap.size) hb; have sxw2_w1 := sz1 (b := w1.heap.size) hb; have HBw2 := hbw (a := w) hb; clear hb; clear K2)
      | (go_at_call 53; (with_reducible refine cm (K3.out _) fun w3 hclw3 hfrw3 hb => ?_); obtain ⟨zw3_a, yw3_a, yyw3_a⟩ := sz3 (B := w.heap.size) hb; obtain ⟨zw3_k, yw3_k, yyw3_k⟩ := sz3 (B := w.heap.size + 1) hb; obtain ⟨zw3_r, yw3_r, yyw3_r⟩ := sz3 (B := w.heap.size + 1 + 1) hb; have sxw3_0 := sz1 (b := R1.heap.size) hb; have sxw3_w1 := sz1 (b := w1.heap.size) hb; have sxw3_w2 := sz1 (b := w2.heap.size) hb; have HBw3 := hbw (a := w) hb; clear hb; clear K3))
  rename_i hHeld
  clear hHeld
  go_wp2_with fail
  refine bodyPost_ret (by simp [results, Try.results29, go_sem, *]; try rfl) rfl ?_
  exact ⟨rfl, bb⟩
theorem Has.mk5 {B : Nat} {x0 x1 x2 x3 x4 : Value} {W : World} (h : B < W.heap.size) (h0 : W.cell? ⟨B, 0, none⟩ = some x0) (h1 : W.cell? ⟨B, 1, none⟩ = some x1) (h2 : W.cell? ⟨B, 2, none⟩ = some x2) (h3 : W.cell? ⟨B, 3, none⟩ = some x3) (h4 : W.cell? ⟨B, 4, none⟩ = some x4) : Has B [x0, x1, x2, x3, x4] W := by
  refine ⟨h, fun j x e => ?_⟩
  rcases (show j = 0 ∨ j = 1 ∨ j = 2 ∨ j = 3 ∨ j = 4 ∨ 5 ≤ j by omega) with rfl | rfl | rfl | rfl | rfl | g
  · cases e; exact h0
  · cases e; exact h1
  · cases e; exact h2
  · cases e; exact h3
  · cases e; exact h4
  · rw [List.getElem?_eq_none (by simpa using g)] at e; cases e
set_option maxRecDepth 20000 in
set_option maxHeartbeats 60000000 in
theorem rdot_err (axh axl ayh ayl bxh bxl byh byl wxh wxl wyh wyl ph pl qh ql ep eq er : Int) (he : ¬ er = 0) (w : World)
    (C1 : Ct 26 #[.agg #[.int .i64 axh, .int .u64 axl], .agg #[.int .i64 bxh, .int .u64 bxl]] (.agg #[.int .i64 ph, .int .u64 pl, .int .i64 ep]))
    (C2 : Ct 26 #[.agg #[.int .i64 ayh, .int .u64 ayl], .agg #[.int .i64 byh, .int .u64 byl]] (.agg #[.int .i64 qh, .int .u64 ql, .int .i64 eq]))
    (C3 : Ct 53 #[.agg #[.int .i64 ph, .int .u64 pl, .int .i64 ep], .agg #[.int .i64 qh, .int .u64 ql, .int .i64 eq]] (.agg #[.int .i64 wxh, .int .u64 wxl, .int .i64 wyh, .int .u64 wyl, .int .i64 er])) :
    Calls Try.prog 48 #[.agg #[.int .i64 axh, .int .u64 axl, .int .i64 ayh, .int .u64 ayl], .agg #[.int .i64 bxh, .int .u64 bxl, .int .i64 byh, .int .u64 byl]] w fun e w' => e = .returned (.agg #[.int .i64 0, .int .u64 0, .int .i64 er]) ∧ Below w.heap.size w w' := by
  have K1 := Lib.hid C1; have K2 := Lib.hid C2; have K3 := Lib.hid C3
  clear C1 C2 C3
  go_enter Try.func48, Try.ntmps48
  go_upto_region 1 with fail
  refine nw _ fun R1 hR1 => ?_
  obtain ⟨zR1_a, yR1_a, yyR1_a, cR1_a_0, cR1_a_1, cR1_a_2, cR1_a_3⟩ := cz4 hR1 w.heap.size (.int .i64 axh) (.int .u64 axl) (.int .i64 ayh) (.int .u64 ayl)
  obtain ⟨zR1_b, yR1_b, yyR1_b, cR1_b_0, cR1_b_1, cR1_b_2, cR1_b_3⟩ := cz4 hR1 (w.heap.size + 1) (.int .i64 bxh) (.int .u64 bxl) (.int .i64 byh) (.int .u64 byl)
  obtain ⟨zR1_r, yR1_r, yyR1_r, cR1_r_0, cR1_r_1, cR1_r_2⟩ := cz3 hR1 (w.heap.size + 1 + 1) (.int .i64 0) (.int .u64 0) (.int .i64 0)
  have fR1_r := fz (b := w.heap.size + 1 + 1) hR1
  have lo_r : w.heap.size ≤ w.heap.size + 1 + 1 := by omega
  have HBR1 := bhr (a := w) hR1
  clear hR1
  go_cut [5] (fun slot0 X1 => ∃ bX1w : Nat, slot0 = .pointer (some ⟨bX1w, 0, none⟩) ∧ R1.heap.size ≤ bX1w ∧ Below R1.heap.size R1 X1 ∧ Has (bX1w) [.int .i64 wxh, .int .u64 wxl, .int .i64 wyh, .int .u64 wyl, .int .i64 er] X1)
  case first =>
    clear HBR1
    have ltt : ∀ n : Nat, n < n + 1 + 1 := fun n => by omega
    have lttt : ∀ n : Nat, n + 1 < n + 1 + 1 := fun n => by omega
    go_region_held3 (fun w' => w'.cell? ⟨w.heap.size, 0, none⟩ = some (.int .i64 axh) ∧ w'.cell? ⟨w.heap.size, 1, none⟩ = some (.int .u64 axl) ∧ w'.cell? ⟨w.heap.size, 2, none⟩ = some (.int .i64 ayh) ∧ w'.cell? ⟨w.heap.size, 3, none⟩ = some (.int .u64 ayl) ∧ w'.cell? ⟨w.heap.size + 1, 0, none⟩ = some (.int .i64 bxh) ∧ w'.cell? ⟨w.heap.size + 1, 1, none⟩ = some (.int .u64 bxl) ∧ w'.cell? ⟨w.heap.size + 1, 2, none⟩ = some (.int .i64 byh) ∧ w'.cell? ⟨w.heap.size + 1, 3, none⟩ = some (.int .u64 byl)) (first | (simp [*, go_sem]; done) | (simp [*, go_sem, World.cell?_alloc_past]; done))
      (first
        | (go_at_call 26; (with_reducible refine (K1.out _).mono ?_); rintro e w1 ⟨rfl, hb⟩; (first | (with_reducible (obtain ⟨hclw1, hfrw1⟩ := bcell_drew hb)) | (obtain ⟨hclw1, hfrw1⟩ := bcell hb)); obtain ⟨zw1_a, yw1_a, yyw1_a⟩ := sz3 (B := w.heap.size) hb; obtain ⟨zw1_b, yw1_b, yyw1_b⟩ := sz3 (B := w.heap.size + 1) hb; (try have sw1_0 := sz (B := R1.heap.size) hb); (try have stw1_0 := sz (B := R1.heap.size + 1) hb); obtain ⟨sxw1_0, syw1_0⟩ := szx (b := R1.heap.size) hb; have HBw1 := hbw (a := R1) hb; clear hb; clear K1)
        | (go_at_call 26; (with_reducible refine cm (K2.out _) fun w2 hclw2 hfrw2 hb => ?_); obtain ⟨zw2_a, yw2_a, yyw2_a⟩ := sz3 (B := w.heap.size) hb; obtain ⟨zw2_b, yw2_b, yyw2_b⟩ := sz3 (B := w.heap.size + 1) hb; (try have sw2_0 := sz (B := R1.heap.size) hb); (try have stw2_0 := sz (B := R1.heap.size + 1) hb); obtain ⟨sxw2_0, syw2_0⟩ := szx (b := R1.heap.size) hb; (try have sw2_w1 := sz (B := w1.heap.size) hb); (try have stw2_w1 := sz (B := w1.heap.size + 1) hb); obtain ⟨sxw2_w1, syw2_w1⟩ := szx (b := w1.heap.size) hb; have HBw2 := hbw (a := R1) hb; clear hb; clear K2)
        | (go_at_call 53; (with_reducible refine cm (K3.out _) fun w3 hclw3 hfrw3 hb => ?_); obtain ⟨zw3_a, yw3_a, yyw3_a⟩ := sz3 (B := w.heap.size) hb; obtain ⟨zw3_b, yw3_b, yyw3_b⟩ := sz3 (B := w.heap.size + 1) hb; (try have sw3_0 := sz (B := R1.heap.size) hb); (try have stw3_0 := sz (B := R1.heap.size + 1) hb); obtain ⟨sxw3_0, syw3_0⟩ := szx (b := R1.heap.size) hb; (try have sw3_w1 := sz (B := w1.heap.size) hb); (try have stw3_w1 := sz (B := w1.heap.size + 1) hb); obtain ⟨sxw3_w1, syw3_w1⟩ := szx (b := w1.heap.size) hb; (try have sw3_w2 := sz (B := w2.heap.size) hb); (try have stw3_w2 := sz (B := w2.heap.size + 1) hb); obtain ⟨sxw3_w2, syw3_w2⟩ := szx (b := w2.heap.size) hb; have HBw3 := hbw (a := R1) hb; clear hb; clear K3))
    all_goals (rename_i hHeld; clear hHeld; go_wp2_with fail; go_meet; exact ⟨_, rfl, (by first | omega | (simp <;> omega)), bb, Has.mk5 (by first | (simp <;> omega) | omega) (by simp [go_sem, *]) (by simp [go_sem, *]) (by simp [go_sem, *]) (by simp [go_sem, *]) (by simp [go_sem, *])⟩)
  case rest =>
  obtain ⟨X1, hX1⟩ : ∃ X, X = wc := ⟨wc, rfl⟩
  subst hX1
  obtain ⟨bX1w, rfl, m_bX1w, hX, g_w⟩ := hcut
  have zX1_a := Nat.lt_of_lt_of_le zR1_a hX.size
  have cX1_a_0 := (bcl hX zR1_a).trans cR1_a_0
  have cX1_a_1 := (bcl hX zR1_a).trans cR1_a_1
  have cX1_a_2 := (bcl hX zR1_a).trans cR1_a_2
  have cX1_a_3 := (bcl hX zR1_a).trans cR1_a_3
  have zX1_b := Nat.lt_of_lt_of_le zR1_b hX.size
  have cX1_b_0 := (bcl hX zR1_b).trans cR1_b_0
  have cX1_b_1 := (bcl hX zR1_b).trans cR1_b_1
  have cX1_b_2 := (bcl hX zR1_b).trans cR1_b_2
  have cX1_b_3 := (bcl hX zR1_b).trans cR1_b_3
  have zX1_r := Nat.lt_of_lt_of_le zR1_r hX.size
  have cX1_r_0 := (bcl hX zR1_r).trans cR1_r_0
  have cX1_r_1 := (bcl hX zR1_r).trans cR1_r_1
  have cX1_r_2 := (bcl hX zR1_r).trans cR1_r_2
  have fX1_r := bfz hX zR1_r fR1_r
  have zX1_w := g_w.1; have cX1_w_0 := g_w.2 0 _ rfl; have cX1_w_1 := g_w.2 1 _ rfl; have cX1_w_2 := g_w.2 2 _ rfl; have cX1_w_3 := g_w.2 3 _ rfl; have cX1_w_4 := g_w.2 4 _ rfl; clear g_w
  obtain ⟨nebX1w_r, ndbX1w_r⟩ := nn (a := bX1w) (b := w.heap.size + 1 + 1)
  have HBX1 : Hid (Below w.heap.size w X1) := bl_trans HBR1.out hX
  clear hX
  clear zR1_a yR1_a yyR1_a cR1_a_0 cR1_a_1 cR1_a_2 cR1_a_3 zR1_b yR1_b yyR1_b cR1_b_0 cR1_b_1 cR1_b_2 cR1_b_3 zR1_r yR1_r yyR1_r cR1_r_0 cR1_r_1 cR1_r_2 fR1_r HBR1 m_bX1w
  go_wp2_with fail
  refine bodyPost_ret (by simp [results, Try.results48, go_sem, *]; try rfl) rfl ?_
  exact ⟨rfl, bb⟩
set_option maxRecDepth 20000 in
set_option maxHeartbeats 60000000 in
theorem rdot_ok (axh axl ayh ayl bxh bxl byh byl wxh wxl wyh wyl ph pl qh ql sh sl ep eq er es : Int) (he : er = 0) (w : World)
    (C1 : Ct 26 #[.agg #[.int .i64 axh, .int .u64 axl], .agg #[.int .i64 bxh, .int .u64 bxl]] (.agg #[.int .i64 ph, .int .u64 pl, .int .i64 ep]))
    (C2 : Ct 26 #[.agg #[.int .i64 ayh, .int .u64 ayl], .agg #[.int .i64 byh, .int .u64 byl]] (.agg #[.int .i64 qh, .int .u64 ql, .int .i64 eq]))
    (C3 : Ct 53 #[.agg #[.int .i64 ph, .int .u64 pl, .int .i64 ep], .agg #[.int .i64 qh, .int .u64 ql, .int .i64 eq]] (.agg #[.int .i64 wxh, .int .u64 wxl, .int .i64 wyh, .int .u64 wyl, .int .i64 er]))
    (C4 : Ct 27 #[.agg #[.int .i64 wxh, .int .u64 wxl], .agg #[.int .i64 wyh, .int .u64 wyl]] (.agg #[.int .i64 sh, .int .u64 sl, .int .i64 es])) :
    Calls Try.prog 48 #[.agg #[.int .i64 axh, .int .u64 axl, .int .i64 ayh, .int .u64 ayl], .agg #[.int .i64 bxh, .int .u64 bxl, .int .i64 byh, .int .u64 byl]] w fun e w' => e = .returned (.agg #[.int .i64 sh, .int .u64 sl, .int .i64 es]) ∧ Below w.heap.size w w' := by
  have K1 := Lib.hid C1; have K2 := Lib.hid C2; have K3 := Lib.hid C3; have K4 := Lib.hid C4
  clear C1 C2 C3 C4
  subst he
  go_enter Try.func48, Try.ntmps48
  go_upto_region 1 with fail
  refine nw _ fun R1 hR1 => ?_
  obtain ⟨zR1_a, yR1_a, yyR1_a, cR1_a_0, cR1_a_1, cR1_a_2, cR1_a_3⟩ := cz4 hR1 w.heap.size (.int .i64 axh) (.int .u64 axl) (.int .i64 ayh) (.int .u64 ayl)
  obtain ⟨zR1_b, yR1_b, yyR1_b, cR1_b_0, cR1_b_1, cR1_b_2, cR1_b_3⟩ := cz4 hR1 (w.heap.size + 1) (.int .i64 bxh) (.int .u64 bxl) (.int .i64 byh) (.int .u64 byl)
  obtain ⟨zR1_r, yR1_r, yyR1_r, cR1_r_0, cR1_r_1, cR1_r_2⟩ := cz3 hR1 (w.heap.size + 1 + 1) (.int .i64 0) (.int .u64 0) (.int .i64 0)
  have fR1_r := fz (b := w.heap.size + 1 + 1) hR1
  have lo_r : w.heap.size ≤ w.heap.size + 1 + 1 := by omega
  have HBR1 := bhr (a := w) hR1
  clear hR1
  go_cut [5] (fun slot0 X1 => ∃ bX1w : Nat, slot0 = .pointer (some ⟨bX1w, 0, none⟩) ∧ R1.heap.size ≤ bX1w ∧ Below R1.heap.size R1 X1 ∧ Has (bX1w) [.int .i64 wxh, .int .u64 wxl, .int .i64 wyh, .int .u64 wyl, .int .i64 0] X1)
  case first =>
    clear HBR1
    have ltt : ∀ n : Nat, n < n + 1 + 1 := fun n => by omega
    have lttt : ∀ n : Nat, n + 1 < n + 1 + 1 := fun n => by omega
    go_region_held3 (fun w' => w'.cell? ⟨w.heap.size, 0, none⟩ = some (.int .i64 axh) ∧ w'.cell? ⟨w.heap.size, 1, none⟩ = some (.int .u64 axl) ∧ w'.cell? ⟨w.heap.size, 2, none⟩ = some (.int .i64 ayh) ∧ w'.cell? ⟨w.heap.size, 3, none⟩ = some (.int .u64 ayl) ∧ w'.cell? ⟨w.heap.size + 1, 0, none⟩ = some (.int .i64 bxh) ∧ w'.cell? ⟨w.heap.size + 1, 1, none⟩ = some (.int .u64 bxl) ∧ w'.cell? ⟨w.heap.size + 1, 2, none⟩ = some (.int .i64 byh) ∧ w'.cell? ⟨w.heap.size + 1, 3, none⟩ = some (.int .u64 byl)) (first | (simp [*, go_sem]; done) | (simp [*, go_sem, World.cell?_alloc_past]; done))
      (first
        | (go_at_call 26; (with_reducible refine (K1.out _).mono ?_); rintro e w1 ⟨rfl, hb⟩; (first | (with_reducible (obtain ⟨hclw1, hfrw1⟩ := bcell_drew hb)) | (obtain ⟨hclw1, hfrw1⟩ := bcell hb)); obtain ⟨zw1_a, yw1_a, yyw1_a⟩ := sz3 (B := w.heap.size) hb; obtain ⟨zw1_b, yw1_b, yyw1_b⟩ := sz3 (B := w.heap.size + 1) hb; (try have sw1_0 := sz (B := R1.heap.size) hb); (try have stw1_0 := sz (B := R1.heap.size + 1) hb); obtain ⟨sxw1_0, syw1_0⟩ := szx (b := R1.heap.size) hb; have HBw1 := hbw (a := R1) hb; clear hb; clear K1)
        | (go_at_call 26; (with_reducible refine cm (K2.out _) fun w2 hclw2 hfrw2 hb => ?_); obtain ⟨zw2_a, yw2_a, yyw2_a⟩ := sz3 (B := w.heap.size) hb; obtain ⟨zw2_b, yw2_b, yyw2_b⟩ := sz3 (B := w.heap.size + 1) hb; (try have sw2_0 := sz (B := R1.heap.size) hb); (try have stw2_0 := sz (B := R1.heap.size + 1) hb); obtain ⟨sxw2_0, syw2_0⟩ := szx (b := R1.heap.size) hb; (try have sw2_w1 := sz (B := w1.heap.size) hb); (try have stw2_w1 := sz (B := w1.heap.size + 1) hb); obtain ⟨sxw2_w1, syw2_w1⟩ := szx (b := w1.heap.size) hb; have HBw2 := hbw (a := R1) hb; clear hb; clear K2)
        | (go_at_call 53; (with_reducible refine cm (K3.out _) fun w3 hclw3 hfrw3 hb => ?_); obtain ⟨zw3_a, yw3_a, yyw3_a⟩ := sz3 (B := w.heap.size) hb; obtain ⟨zw3_b, yw3_b, yyw3_b⟩ := sz3 (B := w.heap.size + 1) hb; (try have sw3_0 := sz (B := R1.heap.size) hb); (try have stw3_0 := sz (B := R1.heap.size + 1) hb); obtain ⟨sxw3_0, syw3_0⟩ := szx (b := R1.heap.size) hb; (try have sw3_w1 := sz (B := w1.heap.size) hb); (try have stw3_w1 := sz (B := w1.heap.size + 1) hb); obtain ⟨sxw3_w1, syw3_w1⟩ := szx (b := w1.heap.size) hb; (try have sw3_w2 := sz (B := w2.heap.size) hb); (try have stw3_w2 := sz (B := w2.heap.size + 1) hb); obtain ⟨sxw3_w2, syw3_w2⟩ := szx (b := w2.heap.size) hb; have HBw3 := hbw (a := R1) hb; clear hb; clear K3))
    all_goals (rename_i hHeld; clear hHeld; go_wp2_with fail; go_meet; exact ⟨_, rfl, (by first | omega | (simp <;> omega)), bb, Has.mk5 (by first | (simp <;> omega) | omega) (by simp [go_sem, *]) (by simp [go_sem, *]) (by simp [go_sem, *]) (by simp [go_sem, *]) (by simp [go_sem, *])⟩)
  case rest =>
  obtain ⟨X1, hX1⟩ : ∃ X, X = wc := ⟨wc, rfl⟩
  subst hX1
  obtain ⟨bX1w, rfl, m_bX1w, hX, g_w⟩ := hcut
  have zX1_a := Nat.lt_of_lt_of_le zR1_a hX.size
  have cX1_a_0 := (bcl hX zR1_a).trans cR1_a_0
  have cX1_a_1 := (bcl hX zR1_a).trans cR1_a_1
  have cX1_a_2 := (bcl hX zR1_a).trans cR1_a_2
  have cX1_a_3 := (bcl hX zR1_a).trans cR1_a_3
  have zX1_b := Nat.lt_of_lt_of_le zR1_b hX.size
  have cX1_b_0 := (bcl hX zR1_b).trans cR1_b_0
  have cX1_b_1 := (bcl hX zR1_b).trans cR1_b_1
  have cX1_b_2 := (bcl hX zR1_b).trans cR1_b_2
  have cX1_b_3 := (bcl hX zR1_b).trans cR1_b_3
  have zX1_r := Nat.lt_of_lt_of_le zR1_r hX.size
  have cX1_r_0 := (bcl hX zR1_r).trans cR1_r_0
  have cX1_r_1 := (bcl hX zR1_r).trans cR1_r_1
  have cX1_r_2 := (bcl hX zR1_r).trans cR1_r_2
  have fX1_r := bfz hX zR1_r fR1_r
  have zX1_w := g_w.1; have cX1_w_0 := g_w.2 0 _ rfl; have cX1_w_1 := g_w.2 1 _ rfl; have cX1_w_2 := g_w.2 2 _ rfl; have cX1_w_3 := g_w.2 3 _ rfl; have cX1_w_4 := g_w.2 4 _ rfl; clear g_w
  obtain ⟨nebX1w_r, ndbX1w_r⟩ := nn (a := bX1w) (b := w.heap.size + 1 + 1)
  have HBX1 : Hid (Below w.heap.size w X1) := bl_trans HBR1.out hX
  clear hX
  clear zR1_a yR1_a yyR1_a cR1_a_0 cR1_a_1 cR1_a_2 cR1_a_3 zR1_b yR1_b yyR1_b cR1_b_0 cR1_b_1 cR1_b_2 cR1_b_3 zR1_r yR1_r yyR1_r cR1_r_0 cR1_r_1 cR1_r_2 fR1_r HBR1 m_bX1w
  go_upto_region 4 with fail
  refine nw _ fun R2 hR2 => ?_
  obtain ⟨zR2_a, yR2_a, yyR2_a, cR2_a_0, cR2_a_1, cR2_a_2, cR2_a_3⟩ := cz4 hR2 w.heap.size (.int .i64 axh) (.int .u64 axl) (.int .i64 ayh) (.int .u64 ayl)
  obtain ⟨zR2_b, yR2_b, yyR2_b, cR2_b_0, cR2_b_1, cR2_b_2, cR2_b_3⟩ := cz4 hR2 (w.heap.size + 1) (.int .i64 bxh) (.int .u64 bxl) (.int .i64 byh) (.int .u64 byl)
  obtain ⟨zR2_r, yR2_r, yyR2_r, cR2_r_0, cR2_r_1, cR2_r_2⟩ := cz3 hR2 (w.heap.size + 1 + 1) (.int .i64 0) (.int .u64 0) (.int .i64 0)
  have fR2_r := fz (b := w.heap.size + 1 + 1) hR2
  obtain ⟨zR2_w, yR2_w, yyR2_w, cR2_w_0, cR2_w_1, cR2_w_2, cR2_w_3, cR2_w_4⟩ := cz5 hR2 bX1w (.int .i64 wxh) (.int .u64 wxl) (.int .i64 wyh) (.int .u64 wyl) (.int .i64 0)
  have HBR2 := bhr (a := w) hR2
  clear hR2
  clear HBX1 zX1_a cX1_a_0 cX1_a_1 cX1_a_2 cX1_a_3 zX1_b cX1_b_0 cX1_b_1 cX1_b_2 cX1_b_3 zX1_r cX1_r_0 cX1_r_1 cX1_r_2 fX1_r zX1_w cX1_w_0 cX1_w_1 cX1_w_2 cX1_w_3 cX1_w_4
  go_wp2_with fail
  (with_reducible refine cm (K4.out _) fun w4 hclw4 hfrw4 hb => ?_); obtain ⟨zw4_a, yw4_a, yyw4_a⟩ := sz3 (B := w.heap.size) hb; obtain ⟨zw4_b, yw4_b, yyw4_b⟩ := sz3 (B := w.heap.size + 1) hb; obtain ⟨zw4_r, yw4_r, yyw4_r⟩ := sz3 (B := w.heap.size + 1 + 1) hb; obtain ⟨zw4_w, yw4_w, yyw4_w⟩ := sz3 (B := bX1w) hb; have sxw4_0 := sz1 (b := R2.heap.size) hb; have HBw4 := hbw (a := w) hb; clear hb
  have fw4_r : ∀ j, w4.frozen? ⟨w.heap.size + 1 + 1, j, none⟩ = false := fun j => by rw [hfrw4 _ _ (by first | exact zR2_r | (simp; exact zR2_r))]; exact fR2_r j
  go_wp2_with fail
  refine bodyPost_ret (by simp [results, Try.results48, go_sem, *]; try rfl) rfl ?_
  exact ⟨rfl, bb⟩
set_option maxRecDepth 20000 in
set_option maxHeartbeats 60000000 in
theorem rlen2_core (axh axl ayh ayl sh sl es : Int)  (w : World)
    (C1 : Ct 48 #[.agg #[.int .i64 axh, .int .u64 axl, .int .i64 ayh, .int .u64 ayl], .agg #[.int .i64 axh, .int .u64 axl, .int .i64 ayh, .int .u64 ayl]] (.agg #[.int .i64 sh, .int .u64 sl, .int .i64 es])) :
    Calls Try.prog 25 #[.agg #[.int .i64 axh, .int .u64 axl, .int .i64 ayh, .int .u64 ayl]] w fun e w' => e = .returned (.agg #[.int .i64 sh, .int .u64 sl, .int .i64 es]) ∧ Below w.heap.size w w' := by
  have K1 := Lib.hid C1
  clear C1
  go_enter Try.func25, Try.ntmps25
  go_upto_region 1 with fail
  refine nw _ fun R1 hR1 => ?_
  obtain ⟨zR1_a, yR1_a, yyR1_a, cR1_a_0, cR1_a_1, cR1_a_2, cR1_a_3⟩ := cz4 hR1 w.heap.size (.int .i64 axh) (.int .u64 axl) (.int .i64 ayh) (.int .u64 ayl)
  obtain ⟨zR1_r, yR1_r, yyR1_r, cR1_r_0, cR1_r_1, cR1_r_2⟩ := cz3 hR1 (w.heap.size + 1) (.int .i64 0) (.int .u64 0) (.int .i64 0)
  have fR1_r := fz (b := w.heap.size + 1) hR1
  have lo_r : w.heap.size ≤ w.heap.size + 1 := by omega
  have HBR1 := bhr (a := w) hR1
  clear hR1
  go_wp2_with fail
  (with_reducible refine cm (K1.out _) fun w1 hclw1 hfrw1 hb => ?_); obtain ⟨zw1_a, yw1_a, yyw1_a⟩ := sz3 (B := w.heap.size) hb; obtain ⟨zw1_r, yw1_r, yyw1_r⟩ := sz3 (B := w.heap.size + 1) hb; have sxw1_0 := sz1 (b := R1.heap.size) hb; have HBw1 := hbw (a := w) hb; clear hb
  have fw1_r : ∀ j, w1.frozen? ⟨w.heap.size + 1, j, none⟩ = false := fun j => by rw [hfrw1 _ _ (by first | exact zR1_r | (simp; exact zR1_r))]; exact fR1_r j
  go_wp2_with fail
  refine bodyPost_ret (by simp [results, Try.results25, go_sem, *]; try rfl) rfl ?_
  exact ⟨rfl, bb⟩
end Go.Proofs.Ytmmlekgojblopaa
namespace Go.Proofs.Ytmmlekgojblopaa
open Go.RowKit
/-- A way and an error; a number and an error. -/
def wayv (x y e : Int) : Value := .agg #[.int .i64 (fh x), .int .u64 (fl x), .int .i64 (fh y), .int .u64 (fl y), .int .i64 e]
def gotv (x e : Int) : Value := .agg #[.int .i64 (fh x), .int .u64 (fl x), .int .i64 e]
/-- Two steps together. -/
theorem rboth_any (p q : Int) (w : World) : Calls Try.prog 53 #[gotv (ov p) (oe p), gotv (ov q) (oe q)] w fun e w' => e = .returned (wayv (vx p q) (vy p q) (ve p q)) ∧ Below w.heap.size w w' := by
  by_cases c1 : oe p = 0
  · by_cases c2 : oe q = 0
    · obtain ⟨e1, e2, e3⟩ := ve_in c1 c2
      have h := rboth_ok (fh (ov p)) (fl (ov p)) (fh (ov q)) (fl (ov q)) _ _ c1 c2 w
      rw [e1, e2, e3]
      rw [ov_in (oe_my c1), ov_in (oe_my c2)] at h
      unfold gotv
      rw [ov_in (oe_my c1), ov_in (oe_my c2)]
      exact h
    · obtain ⟨e1, e2, e3⟩ := ve_mid c1 c2
      have h := rboth_y (fh (ov p)) (fl (ov p)) (fh (ov q)) (fl (ov q)) _ _ c1 c2 w
      rw [e1, e2, e3]
      unfold wayv
      rw [zero_words.1, zero_words.2]
      exact h
  · obtain ⟨e1, e2, e3⟩ := ve_out (q := q) c1
    have h := rboth_x (fh (ov p)) (fl (ov p)) (fh (ov q)) (fl (ov q)) _ (oe q) c1 w
    rw [e1, e2, e3]
    unfold wayv
    rw [zero_words.1, zero_words.2]
    exact h
theorem rscale_any (ax ay k : Int) (hax : My ax) (hay : My ay) (hk : My k) (w : World) :
    Calls Try.prog 29 #[vec ax ay, .agg #[.int .i64 (fh k), .int .u64 (fl k)]] w fun e w' => e = .returned (wayv (vx (mulr ax k) (mulr ay k)) (vy (mulr ax k) (mulr ay k)) (ve (mulr ax k) (mulr ay k))) ∧ Below w.heap.size w w' :=
  rscale_core _ _ _ _ _ _ _ _ _ _ _ _ _ _ _ _ _ w (rmul_any ax k hax hk) (rmul_any ay k hay hk) (rboth_any _ _)
theorem rdot_any (ax ay bx by_ : Int) (hax : My ax) (hay : My ay) (hbx : My bx) (hby : My by_) (w : World) :
    Calls Try.prog 48 #[vec ax ay, vec bx by_] w fun e w' => e = .returned (gotv (dv (mulr ax bx) (mulr ay by_)) (de (mulr ax bx) (mulr ay by_))) ∧ Below w.heap.size w w' := by
  have M1 := rmul_any ax bx hax hbx
  have M2 := rmul_any ay by_ hay hby
  generalize mulr ax bx = p at *
  generalize mulr ay by_ = q at *
  have BO := rboth_any p q
  by_cases c : ve p q = 0
  · have c1 : oe p = 0 := by
      by_cases h : oe p = 0
      · exact h
      · rw [(ve_out (q := q) h).1] at c; exact c
    have c2 : oe q = 0 := by rw [show ve p q = oe q from if_pos c1] at c; exact c
    have e : de p q = oe (p + q) := by unfold de; rw [if_pos c1, if_pos c2]
    have d : dv p q = ov (p + q) := by
      unfold dv; rw [e]
      by_cases c3 : oe (p + q) = 0
      · rw [if_pos c3, ov_in (oe_my c3)]
      · rw [if_neg c3, ov_out (fun m => c3 (oe_in m))]
    rw [e, d]
    rw [(ve_in c1 c2).2.1, (ve_in c1 c2).2.2] at BO
    exact rdot_ok _ _ _ _ _ _ _ _ _ _ _ _ _ _ _ _ _ _ _ _ _ _ c w M1 M2 BO (radd_any p q (oe_my c1) (oe_my c2))
  · have e : de p q = ve p q := by
      by_cases h : oe p = 0
      · have g : ¬ oe q = 0 := fun g => c (by rw [show ve p q = oe q from if_pos h]; exact g)
        unfold de; rw [if_pos h, if_neg g, (ve_mid h g).1]
      · unfold de; rw [if_neg h, (ve_out (q := q) h).1]
    have d : dv p q = 0 := by unfold dv; rw [e, if_neg c]
    rw [e, d]
    unfold gotv
    rw [zero_words.1, zero_words.2]
    exact rdot_err _ _ _ _ _ _ _ _ _ _ _ _ _ _ _ _ _ _ _ c w M1 M2 BO
theorem rlen2_any (ax ay : Int) (hax : My ax) (hay : My ay) (w : World) :
    Calls Try.prog 25 #[vec ax ay] w fun e w' => e = .returned (gotv (dv (mulr ax ax) (mulr ay ay)) (de (mulr ax ax) (mulr ay ay))) ∧ Below w.heap.size w w' :=
  rlen2_core _ _ _ _ _ _ _ w (rdot_any ax ay ax ay hax hay hax hay)
set_option maxRecDepth 20000 in
set_option maxHeartbeats 8000000 in
theorem rnegvec_core (axh axl ayh ayl rh rl sh sl : Int) (w : World)
    (C1 : Ct 15 #[.agg #[.int .i64 axh, .int .u64 axl]] (.agg #[.int .i64 rh, .int .u64 rl]))
    (C2 : Ct 15 #[.agg #[.int .i64 ayh, .int .u64 ayl]] (.agg #[.int .i64 sh, .int .u64 sl])) :
    Calls Try.prog 14 #[.agg #[.int .i64 axh, .int .u64 axl, .int .i64 ayh, .int .u64 ayl]] w fun e w' => e = .returned (.agg #[.int .i64 rh, .int .u64 rl, .int .i64 sh, .int .u64 sl]) ∧ Below w.heap.size w w' := by
  have K1 := Lib.hid C1; have K2 := Lib.hid C2
  clear C1 C2
  go_enter Try.func14, Try.ntmps14
  go_upto_region 1 with fail
  refine nw _ fun R hR => ?_
  have zR_0 := sr (B := w.heap.size) hR
  have cR_0_0 : R.cell? ⟨w.heap.size, 0, none⟩ = some (.int .i64 axh) := cel hR
  have cR_0_1 : R.cell? ⟨w.heap.size, 1, none⟩ = some (.int .u64 axl) := cel hR
  have cR_0_2 : R.cell? ⟨w.heap.size, 2, none⟩ = some (.int .i64 ayh) := cel hR
  have cR_0_3 : R.cell? ⟨w.heap.size, 3, none⟩ = some (.int .u64 ayl) := cel hR
  have zR_1 := sr (B := w.heap.size + 1) hR
  have cR_1_0 : R.cell? ⟨w.heap.size + 1, 0, none⟩ = some (.int .i64 0) := cel hR
  have cR_1_1 : R.cell? ⟨w.heap.size + 1, 1, none⟩ = some (.int .u64 0) := cel hR
  have cR_1_2 : R.cell? ⟨w.heap.size + 1, 2, none⟩ = some (.int .i64 0) := cel hR
  have cR_1_3 : R.cell? ⟨w.heap.size + 1, 3, none⟩ = some (.int .u64 0) := cel hR
  have fR_1 := fz (b := w.heap.size + 1) hR
  have HBR := bhr (a := w) hR
  clear hR
  go_region_held3 (fun w' => w'.cell? ⟨w.heap.size, 0, none⟩ = some (.int .i64 axh) ∧ w'.cell? ⟨w.heap.size, 1, none⟩ = some (.int .u64 axl) ∧ w'.cell? ⟨w.heap.size, 2, none⟩ = some (.int .i64 ayh) ∧ w'.cell? ⟨w.heap.size, 3, none⟩ = some (.int .u64 ayl)) (first | (simp [*, go_sem]; done))
    (first
      | (go_at_call 15; (with_reducible refine (K1.out _).mono ?_); rintro e w1 ⟨rfl, hb⟩; obtain ⟨hclw1, hfrw1⟩ := bcell_drew hb; have zw1_0 : w.heap.size < w1.heap.size := (by have hz := hb.size; (try simp at hz); omega); have zw1_1 : w.heap.size + 1 < w1.heap.size := (by have hz := hb.size; (try simp at hz); omega); have HBw1 := hbw (a := w) hb; clear hb)
      | (go_at_call 15; (with_reducible refine cm (K2.out _) fun w2 hclw2 hfrw2 hb => ?_); have zw2_0 : w.heap.size < w2.heap.size := (by have hz := hb.size; (try simp at hz); omega); have zw2_1 : w.heap.size + 1 < w2.heap.size := (by have hz := hb.size; (try simp at hz); omega); have HBw2 := hbw (a := w) hb; clear hb))
  rename_i hHeld
  clear hHeld
  go_wp2_with fail
  refine bodyPost_ret (by simp [results, Try.results14, go_sem, *]; try rfl) rfl ?_
  exact ⟨rfl, bb⟩
theorem rnegvec_any (x y : Int) (hx : My x) (hy : My y) (w : World) :
    Calls Try.prog 14 #[vec x y] w fun e w' => e = .returned (vec (-x) (-y)) ∧ Below w.heap.size w w' :=
  rnegvec_core _ _ _ _ _ _ _ _ w (rneg_any x hx) (rneg_any y hy)
end Go.Proofs.Ytmmlekgojblopaa
