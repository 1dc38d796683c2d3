/- What each call of package fix comes to, by whole numbers: products, roots, halves, whole numbers. -/
import Derived.Test.YtmmlekgojblopaaZzFixA
import Derived.Test.YtmmlekgojblopaaZzLimC
namespace Go.Proofs.Ytmmlekgojblopaa
open Go.RowKit

set_option maxRecDepth 20000 in
set_option maxHeartbeats 4000000 in
theorem fadd_over (h l k m p1 p0 q1 q0 t1 t0 y1 y0 sa sb ss x1 x2 x3 : Int) (c : Bool) (e1 : bits .xor .u64 sa ss = x1) (e2 : bits .xor .u64 sb ss = x2) (e3 : bits .and .u64 x1 x2 = x3) (hn : x3 ≠ 0) (w : World)
    (C1 : Ct 61 #[.agg #[.int .i64 h, .int .u64 l]] (.agg #[.int .u64 p1, .int .u64 p0]))
    (C2 : Ct 61 #[.agg #[.int .i64 k, .int .u64 m]] (.agg #[.int .u64 q1, .int .u64 q0]))
    (C3 : Ct 60 #[.agg #[.int .u64 p1, .int .u64 p0], .agg #[.int .u64 q1, .int .u64 q0]] (.tuple #[.agg #[.int .u64 t1, .int .u64 t0], .bool c]))
    (C4 : Ct 62 #[.agg #[.int .u64 t1, .int .u64 t0]] (.agg #[.int .i64 y1, .int .u64 y0]))
    (C5 : Ct 46 #[.agg #[.int .i64 h, .int .u64 l]] (.int .u64 sa))
    (C6 : Ct 46 #[.agg #[.int .i64 k, .int .u64 m]] (.int .u64 sb))
    (C7 : Ct 46 #[.agg #[.int .i64 y1, .int .u64 y0]] (.int .u64 ss)) :
    Calls Try.prog 38 #[.agg #[.int .i64 h, .int .u64 l], .agg #[.int .i64 k, .int .u64 m]] w fun e w' => e = .returned (.tuple #[.agg #[.int .i64 0, .int .u64 0], .int .i64 3]) ∧ Below w.heap.size w w' := by
  have K1 := Lib.hid C1; have K2 := Lib.hid C2; have K3 := Lib.hid C3; have K4 := Lib.hid C4; have K5 := Lib.hid C5; have K6 := Lib.hid C6; have K7 := Lib.hid C7
  clear C1 C2 C3 C4 C5 C6 C7
  have K9 := K7
  have t1' : (x3 != 0) = true := by rw [bne_iff_ne]; exact hn
  go_enter Try.func38, Try.ntmps38
  go_upto_region 1 with fail
  go_cut [6] (fun slot0 X1 => ∃ bX1two : Nat, slot0 = .pointer (some ⟨bX1two, 0, none⟩) ∧ w.heap.size + 1 + 1 + 1 ≤ bX1two ∧ Below w.heap.size w X1 ∧ Has (w.heap.size) [.int .i64 h, .int .u64 l] X1 ∧ Has (w.heap.size + 1) [.int .i64 k, .int .u64 m] X1 ∧ Has (w.heap.size + 1 + 1) [.int .i64 0, .int .u64 0] X1 ∧ Has (bX1two) [.int .u64 t1, .int .u64 t0] X1 ∧ Clear (w.heap.size + 1 + 1) X1)
  case first =>
    go_region_held3 (fun w' => w'.cell? ⟨w.heap.size, 0, none⟩ = some (.int .i64 h) ∧ w'.cell? ⟨w.heap.size, 1, none⟩ = some (.int .u64 l) ∧ w'.cell? ⟨w.heap.size + 1, 0, none⟩ = some (.int .i64 k) ∧ w'.cell? ⟨w.heap.size + 1, 1, none⟩ = some (.int .u64 m)) (first | (simp [*, go_sem]; done) | (simp [*, go_sem, World.cell?_alloc_past]; done))
      (first
        | (go_at_call 61; (with_reducible refine (K1.out _).mono ?_); rintro e w1 ⟨rfl, hb⟩; (first | (with_reducible (obtain ⟨hclw1, hfrw1⟩ := bcell_drew hb)) | (obtain ⟨hclw1, hfrw1⟩ := bcell hb)); obtain ⟨zw1_a, yw1_a, yyw1_a⟩ := sz3 (B := w.heap.size) hb; obtain ⟨zw1_b, yw1_b, yyw1_b⟩ := sz3 (B := w.heap.size + 1) hb; obtain ⟨zw1_r, yw1_r, yyw1_r⟩ := sz3 (B := w.heap.size + 1 + 1) hb; (try have sw1_0 := sz (B := w.heap.size + 1 + 1 + 1) hb); (try have stw1_0 := sz (B := w.heap.size + 1 + 1 + 1 + 1) hb); obtain ⟨sxw1_0, syw1_0⟩ := szx (b := w.heap.size + 1 + 1 + 1) hb; have HBw1 := hbw (a := w) hb; clear hb; clear K1)
        | (go_at_call 61; (with_reducible refine cm (K2.out _) fun w2 hclw2 hfrw2 hb => ?_); obtain ⟨zw2_a, yw2_a, yyw2_a⟩ := sz3 (B := w.heap.size) hb; obtain ⟨zw2_b, yw2_b, yyw2_b⟩ := sz3 (B := w.heap.size + 1) hb; obtain ⟨zw2_r, yw2_r, yyw2_r⟩ := sz3 (B := w.heap.size + 1 + 1) hb; (try have sw2_0 := sz (B := w.heap.size + 1 + 1 + 1) hb); (try have stw2_0 := sz (B := w.heap.size + 1 + 1 + 1 + 1) hb); obtain ⟨sxw2_0, syw2_0⟩ := szx (b := w.heap.size + 1 + 1 + 1) hb; (try have sw2_w1 := sz (B := w1.heap.size) hb); (try have stw2_w1 := sz (B := w1.heap.size + 1) hb); obtain ⟨sxw2_w1, syw2_w1⟩ := szx (b := w1.heap.size) hb; have HBw2 := hbw (a := w) hb; clear hb; clear K2)
        | (go_at_call 60; (with_reducible refine cm (K3.out _) fun w3 hclw3 hfrw3 hb => ?_); obtain ⟨zw3_a, yw3_a, yyw3_a⟩ := sz3 (B := w.heap.size) hb; obtain ⟨zw3_b, yw3_b, yyw3_b⟩ := sz3 (B := w.heap.size + 1) hb; obtain ⟨zw3_r, yw3_r, yyw3_r⟩ := sz3 (B := w.heap.size + 1 + 1) hb; (try have sw3_0 := sz (B := w.heap.size + 1 + 1 + 1) hb); (try have stw3_0 := sz (B := w.heap.size + 1 + 1 + 1 + 1) hb); obtain ⟨sxw3_0, syw3_0⟩ := szx (b := w.heap.size + 1 + 1 + 1) hb; (try have sw3_w1 := sz (B := w1.heap.size) hb); (try have stw3_w1 := sz (B := w1.heap.size + 1) hb); obtain ⟨sxw3_w1, syw3_w1⟩ := szx (b := w1.heap.size) hb; (try have sw3_w2 := sz (B := w2.heap.size) hb); (try have stw3_w2 := sz (B := w2.heap.size + 1) hb); obtain ⟨sxw3_w2, syw3_w2⟩ := szx (b := w2.heap.size) hb; have HBw3 := hbw (a := w) hb; clear hb; clear K3))
    all_goals (rename_i hHeld; clear hHeld; go_wp2_with fail; go_meet; exact ⟨_, rfl, (by first | omega | (simp <;> omega)), bb, Has.mk2 (by first | (simp <;> omega) | omega) (by simp [go_sem, *]) (by simp [go_sem, *]), Has.mk2 (by first | (simp <;> omega) | omega) (by simp [go_sem, *]) (by simp [go_sem, *]), Has.mk2 (by first | (simp <;> omega) | omega) (by simp [go_sem, *]) (by simp [go_sem, *]), Has.mk2 (by first | (simp <;> omega) | omega) (by simp [go_sem, *]) (by simp [go_sem, *]), (fun j => by first | (simp [go_sem, *]; done) | (simp [frozen?_alloc_cells, World.frozen?, *]; done))⟩)
  case rest =>
  obtain ⟨X1, hX1⟩ : ∃ X, X = wc := ⟨wc, rfl⟩
  subst hX1
  obtain ⟨bX1two, rfl, m_bX1two, HBX1x, g_a, g_b, g_r, g_two, f_r⟩ := hcut
  have HBX1 := Lib.hid HBX1x; clear HBX1x
  have zX1_a := g_a.1; have cX1_a_0 := g_a.2 0 _ rfl; have cX1_a_1 := g_a.2 1 _ rfl; clear g_a
  have zX1_b := g_b.1; have cX1_b_0 := g_b.2 0 _ rfl; have cX1_b_1 := g_b.2 1 _ rfl; clear g_b
  have zX1_r := g_r.1; have cX1_r_0 := g_r.2 0 _ rfl; have cX1_r_1 := g_r.2 1 _ rfl; clear g_r
  have fX1_r : ∀ j, X1.frozen? ⟨w.heap.size + 1 + 1, j, none⟩ = false := f_r; clear f_r
  have zX1_two := g_two.1; have cX1_two_0 := g_two.2 0 _ rfl; have cX1_two_1 := g_two.2 1 _ rfl; clear g_two
  obtain ⟨nebX1two_a, ndbX1two_a⟩ := nn (a := bX1two) (b := w.heap.size)
  obtain ⟨nebX1two_b, ndbX1two_b⟩ := nn (a := bX1two) (b := w.heap.size + 1)
  obtain ⟨nebX1two_r, ndbX1two_r⟩ := nn (a := bX1two) (b := w.heap.size + 1 + 1)
  have lobX1two : w.heap.size ≤ bX1two := by omega
  go_wp2_with fail
  (with_reducible refine cm (K4.out _) fun w4 hclw4 hfrw4 hb => ?_); obtain ⟨zw4_a, yw4_a, yyw4_a⟩ := sz3 (B := w.heap.size) hb; obtain ⟨zw4_b, yw4_b, yyw4_b⟩ := sz3 (B := w.heap.size + 1) hb; obtain ⟨zw4_r, yw4_r, yyw4_r⟩ := sz3 (B := w.heap.size + 1 + 1) hb; obtain ⟨zw4_two, yw4_two, yyw4_two⟩ := sz3 (B := bX1two) hb; (try have sw4_0 := sz (B := X1.heap.size) hb); (try have stw4_0 := sz (B := X1.heap.size + 1) hb); obtain ⟨sxw4_0, syw4_0⟩ := szx (b := X1.heap.size) hb; have HBw4 := hbw (a := w) hb; clear hb
  go_upto_region 3 with fail
  refine wp_region_held_drew (S := fun w' => w'.cell? ⟨w.heap.size, 0, none⟩ = some (.int .i64 h) ∧ w'.cell? ⟨w.heap.size, 1, none⟩ = some (.int .u64 l) ∧ w'.cell? ⟨w.heap.size + 1, 0, none⟩ = some (.int .i64 k) ∧ w'.cell? ⟨w.heap.size + 1, 1, none⟩ = some (.int .u64 m) ∧ w'.cell? ⟨w4.heap.size, 0, none⟩ = some (.int .i64 y1) ∧ w'.cell? ⟨w4.heap.size, 1, none⟩ = some (.int .u64 y0)) kr ?_ (fun hHeld => ?_)
  · (try dsimp only); (first | (simp [*, go_sem]; done) | (simp [*, go_sem, World.cell?_alloc_past]; done))
  refine wpAnyH_take (i := 0) (oi := _) (v := ?_) ge kr kr kr (by exact fun _ _ _ h => h) (Or.inl ⟨by rfl, ?_⟩) (by assumption) ?_
  rotate_left 1
  · (intro w hSw; (try dsimp only at hSw); go_simp; try with_reducible rfl)
  try simp only [Act.put, List.setIfInBounds_toArray, List.set_cons_zero, List.set_cons_succ]
  refine wpAnyH_take (i := 2) (oi := _) (v := ?_) ge kr kr kr (by exact fun _ _ _ h => h) (Or.inl ⟨by rfl, ?_⟩) (by assumption) ?_
  rotate_left 1
  · (intro w hSw; (try dsimp only at hSw); go_simp; try with_reducible rfl)
  try simp only [Act.put, List.setIfInBounds_toArray, List.set_cons_zero, List.set_cons_succ]
  refine wpAnyH_take (i := 5) (oi := _) (v := ?_) ge kr kr kr (by exact fun _ _ _ h => h) (Or.inl ⟨by rfl, ?_⟩) (by assumption) ?_
  rotate_left 1
  · (intro w hSw; (try dsimp only at hSw); go_simp; try with_reducible rfl)
  try simp only [Act.put, List.setIfInBounds_toArray, List.set_cons_zero, List.set_cons_succ]
  refine wpAnyH_take (i := 7) (oi := _) (v := ?_) ge kr kr kr (by exact fun _ _ _ h => h) (Or.inl ⟨by rfl, ?_⟩) (by assumption) ?_
  rotate_left 1
  · (intro w hSw; (try dsimp only at hSw); go_simp; try with_reducible rfl)
  try simp only [Act.put, List.setIfInBounds_toArray, List.set_cons_zero, List.set_cons_succ]
  refine wpAnyH_ready (rs := [1]) kr (by simp) ?_
  refine AllReadyH.cons (o := _) ge (fun K hK => ?_) AllReadyH.nil
  go_simp
  (go_at_call 46; (with_reducible refine (K5.out _).mono ?_); rintro e w5 ⟨rfl, hb⟩; (first | (with_reducible (obtain ⟨hclw5, hfrw5⟩ := bcell_drew hb)) | (obtain ⟨hclw5, hfrw5⟩ := bcell hb)); obtain ⟨zw5_a, yw5_a, yyw5_a⟩ := sz3 (B := w.heap.size) hb; obtain ⟨zw5_b, yw5_b, yyw5_b⟩ := sz3 (B := w.heap.size + 1) hb; obtain ⟨zw5_r, yw5_r, yyw5_r⟩ := sz3 (B := w.heap.size + 1 + 1) hb; obtain ⟨zw5_two, yw5_two, yyw5_two⟩ := sz3 (B := bX1two) hb; obtain ⟨zw5_s, yw5_s, yyw5_s⟩ := sz3 (B := w4.heap.size) hb; (try have sw5_0 := sz (B := w4.heap.size + 1) hb); (try have stw5_0 := sz (B := w4.heap.size + 1 + 1) hb); obtain ⟨sxw5_0, syw5_0⟩ := szx (b := w4.heap.size + 1) hb; have HBw5 := hbw (a := w) hb; clear hb; clear K5)
  try go_wp2_with fail
  refine hK.out _ _ ?_ (fun hHeldN => ?_)
  · (try dsimp only); (first | (simp [*, go_sem]; done) | (simp [*, go_sem, World.cell?_alloc_past]; done))
  clear hK K hHeld; have hHeld := hHeldN; clear hHeldN
  try simp only [Act.put, List.setIfInBounds_toArray, List.set_cons_zero, List.set_cons_succ]
  refine wpAnyH_ready (rs := [3]) kr (by simp) ?_
  refine AllReadyH.cons (o := _) ge (fun K hK => ?_) AllReadyH.nil
  go_simp
  (go_at_call 46; (with_reducible refine cm (K7.out _) fun w6 hclw6 hfrw6 hb => ?_); obtain ⟨zw6_a, yw6_a, yyw6_a⟩ := sz3 (B := w.heap.size) hb; obtain ⟨zw6_b, yw6_b, yyw6_b⟩ := sz3 (B := w.heap.size + 1) hb; obtain ⟨zw6_r, yw6_r, yyw6_r⟩ := sz3 (B := w.heap.size + 1 + 1) hb; obtain ⟨zw6_two, yw6_two, yyw6_two⟩ := sz3 (B := bX1two) hb; obtain ⟨zw6_s, yw6_s, yyw6_s⟩ := sz3 (B := w4.heap.size) hb; (try have sw6_0 := sz (B := w4.heap.size + 1) hb); (try have stw6_0 := sz (B := w4.heap.size + 1 + 1) hb); obtain ⟨sxw6_0, syw6_0⟩ := szx (b := w4.heap.size + 1) hb; (try have sw6_w5 := sz (B := w5.heap.size) hb); (try have stw6_w5 := sz (B := w5.heap.size + 1) hb); obtain ⟨sxw6_w5, syw6_w5⟩ := szx (b := w5.heap.size) hb; have HBw6 := hbw (a := w) hb; clear hb; clear K7)
  try go_wp2_with fail
  refine hK.out _ _ ?_ (fun hHeldN => ?_)
  · (try dsimp only); (first | (simp [*, go_sem]; done) | (simp [*, go_sem, World.cell?_alloc_past]; done))
  clear hK K hHeld; have hHeld := hHeldN; clear hHeldN
  try simp only [Act.put, List.setIfInBounds_toArray, List.set_cons_zero, List.set_cons_succ]
  refine wpAnyH_take (i := 4) (oi := _) (v := ?_) ge kr kr kr (by exact fun _ _ _ h => h) (Or.inl ⟨by rfl, ?_⟩) (by assumption) ?_
  rotate_left 1
  · (intro w hSw; (try dsimp only at hSw); go_simp; try with_reducible rfl)
  try simp only [Act.put, List.setIfInBounds_toArray, List.set_cons_zero, List.set_cons_succ]
  refine wpAnyH_ready (rs := [6]) kr (by simp) ?_
  refine AllReadyH.cons (o := _) ge (fun K hK => ?_) AllReadyH.nil
  go_simp
  (go_at_call 46; (with_reducible refine cm (K6.out _) fun w7 hclw7 hfrw7 hb => ?_); obtain ⟨zw7_a, yw7_a, yyw7_a⟩ := sz3 (B := w.heap.size) hb; obtain ⟨zw7_b, yw7_b, yyw7_b⟩ := sz3 (B := w.heap.size + 1) hb; obtain ⟨zw7_r, yw7_r, yyw7_r⟩ := sz3 (B := w.heap.size + 1 + 1) hb; obtain ⟨zw7_two, yw7_two, yyw7_two⟩ := sz3 (B := bX1two) hb; obtain ⟨zw7_s, yw7_s, yyw7_s⟩ := sz3 (B := w4.heap.size) hb; (try have sw7_0 := sz (B := w4.heap.size + 1) hb); (try have stw7_0 := sz (B := w4.heap.size + 1 + 1) hb); obtain ⟨sxw7_0, syw7_0⟩ := szx (b := w4.heap.size + 1) hb; (try have sw7_w5 := sz (B := w5.heap.size) hb); (try have stw7_w5 := sz (B := w5.heap.size + 1) hb); obtain ⟨sxw7_w5, syw7_w5⟩ := szx (b := w5.heap.size) hb; (try have sw7_w6 := sz (B := w6.heap.size) hb); (try have stw7_w6 := sz (B := w6.heap.size + 1) hb); obtain ⟨sxw7_w6, syw7_w6⟩ := szx (b := w6.heap.size) hb; have HBw7 := hbw (a := w) hb; clear hb; clear K6)
  try go_wp2_with fail
  refine hK.out _ _ ?_ (fun hHeldN => ?_)
  · (try dsimp only); (first | (simp [*, go_sem]; done) | (simp [*, go_sem, World.cell?_alloc_past]; done))
  clear hK K hHeld; have hHeld := hHeldN; clear hHeldN
  try simp only [Act.put, List.setIfInBounds_toArray, List.set_cons_zero, List.set_cons_succ]
  refine wpAnyH_ready (rs := [8]) kr (by simp) ?_
  refine AllReadyH.cons (o := _) ge (fun K hK => ?_) AllReadyH.nil
  go_simp
  (go_at_call 46; (with_reducible refine cm (K9.out _) fun w8 hclw8 hfrw8 hb => ?_); obtain ⟨zw8_a, yw8_a, yyw8_a⟩ := sz3 (B := w.heap.size) hb; obtain ⟨zw8_b, yw8_b, yyw8_b⟩ := sz3 (B := w.heap.size + 1) hb; obtain ⟨zw8_r, yw8_r, yyw8_r⟩ := sz3 (B := w.heap.size + 1 + 1) hb; obtain ⟨zw8_two, yw8_two, yyw8_two⟩ := sz3 (B := bX1two) hb; obtain ⟨zw8_s, yw8_s, yyw8_s⟩ := sz3 (B := w4.heap.size) hb; (try have sw8_0 := sz (B := w4.heap.size + 1) hb); (try have stw8_0 := sz (B := w4.heap.size + 1 + 1) hb); obtain ⟨sxw8_0, syw8_0⟩ := szx (b := w4.heap.size + 1) hb; (try have sw8_w5 := sz (B := w5.heap.size) hb); (try have stw8_w5 := sz (B := w5.heap.size + 1) hb); obtain ⟨sxw8_w5, syw8_w5⟩ := szx (b := w5.heap.size) hb; (try have sw8_w6 := sz (B := w6.heap.size) hb); (try have stw8_w6 := sz (B := w6.heap.size + 1) hb); obtain ⟨sxw8_w6, syw8_w6⟩ := szx (b := w6.heap.size) hb; (try have sw8_w7 := sz (B := w7.heap.size) hb); (try have stw8_w7 := sz (B := w7.heap.size + 1) hb); obtain ⟨sxw8_w7, syw8_w7⟩ := szx (b := w7.heap.size) hb; have HBw8 := hbw (a := w) hb; clear hb; clear K9)
  try go_wp2_with fail
  refine hK.out _ _ ?_ (fun hHeldN => ?_)
  · (try dsimp only); (first | (simp [*, go_sem]; done) | (simp [*, go_sem, World.cell?_alloc_past]; done))
  clear hK K hHeld; have hHeld := hHeldN; clear hHeldN
  try simp only [Act.put, List.setIfInBounds_toArray, List.set_cons_zero, List.set_cons_succ]
  refine wpAnyH_take (i := 9) (oi := _) (v := ?_) ge kr kr kr (by exact fun _ _ _ h => h) (Or.inl ⟨by rfl, ?_⟩) (by assumption) ?_
  rotate_left 1
  · (intro w hSw; (try dsimp only at hSw); go_simp; try with_reducible rfl)
  try simp only [Act.put, List.setIfInBounds_toArray, List.set_cons_zero, List.set_cons_succ]
  refine wpAnyH_take (i := 10) (oi := _) (v := ?_) ge kr kr kr (by exact fun _ _ _ h => h) (Or.inl ⟨by rfl, ?_⟩) (by assumption) ?_
  rotate_left 1
  · (intro w hSw; (try dsimp only at hSw); go_simp; try with_reducible rfl)
  try simp only [Act.put, List.setIfInBounds_toArray, List.set_cons_zero, List.set_cons_succ]
  refine wpAnyH_take (i := 11) (oi := _) (v := ?_) ge kr kr kr (by exact fun _ _ _ h => h) (Or.inl ⟨by rfl, ?_⟩) (by assumption) ?_
  rotate_left 1
  · (intro w hSw; (try dsimp only at hSw); go_simp; try with_reducible rfl)
  try simp only [Act.put, List.setIfInBounds_toArray, List.set_cons_zero, List.set_cons_succ]
  refine wpAnyH_take (i := 12) (oi := _) (v := ?_) ge kr kr kr (by exact fun _ _ _ h => h) (Or.inl ⟨by rfl, ?_⟩) (by assumption) ?_
  rotate_left 1
  · (intro w hSw; (try dsimp only at hSw); go_simp; try with_reducible rfl)
  try simp only [Act.put, List.setIfInBounds_toArray, List.set_cons_zero, List.set_cons_succ]
  refine wpAnyH_take (i := 13) (oi := _) (v := undef) ge kr kr kr (by exact fun _ _ _ h => h) (Or.inr ⟨by rfl, rfl⟩) (by assumption) ?_
  try simp only [Act.put, List.setIfInBounds_toArray, List.set_cons_zero, List.set_cons_succ]
  refine wpAnyH_ready (rs := [14]) kr (by simp) ?_
  refine AllReadyH.cons (o := _) ge (fun K hK => ?_) AllReadyH.nil
  go_simp
  refine hK.out _ _ ?_ (fun hHeldN => ?_)
  · (try dsimp only); (first | (simp [*, go_sem]; done) | (simp [*, go_sem, World.cell?_alloc_past]; done))
  clear hK K hHeld; have hHeld := hHeldN; clear hHeldN
  try simp only [Act.put, List.setIfInBounds_toArray, List.set_cons_zero, List.set_cons_succ]
  refine wpAnyH_take (i := 15) (oi := _) (v := undef) ge kr kr kr (by exact fun _ _ _ h => h) (Or.inr ⟨by rfl, rfl⟩) (by assumption) ?_
  try simp only [Act.put, List.setIfInBounds_toArray, List.set_cons_zero, List.set_cons_succ]
  refine wpAnyH_take (i := 16) (oi := _) (v := ?_) ge kr kr kr (by exact fun _ _ _ h => h) (Or.inl ⟨by rfl, ?_⟩) (by assumption) ?_
  rotate_left 1
  · (intro w hSw; (try dsimp only at hSw); go_simp; try with_reducible rfl)
  try simp only [Act.put, List.setIfInBounds_toArray, List.set_cons_zero, List.set_cons_succ]
  refine wpAnyH_done kr ?_ _
  clear hHeld
  go_wp2_with fail
  refine bodyPost_ret (by simp [results, Try.results38, go_sem, *]; try rfl) rfl ?_
  exact ⟨rfl, bb⟩
set_option maxRecDepth 20000 in
set_option maxHeartbeats 4000000 in
theorem fadd_least (h l k m p1 p0 q1 q0 t1 t0 y1 y0 sa sb ss x1 x2 x3 : Int) (c : Bool) (e1 : bits .xor .u64 sa ss = x1) (e2 : bits .xor .u64 sb ss = x2) (e3 : bits .and .u64 x1 x2 = x3) (hn : x3 = 0) (w : World)
    (C1 : Ct 61 #[.agg #[.int .i64 h, .int .u64 l]] (.agg #[.int .u64 p1, .int .u64 p0]))
    (C2 : Ct 61 #[.agg #[.int .i64 k, .int .u64 m]] (.agg #[.int .u64 q1, .int .u64 q0]))
    (C3 : Ct 60 #[.agg #[.int .u64 p1, .int .u64 p0], .agg #[.int .u64 q1, .int .u64 q0]] (.tuple #[.agg #[.int .u64 t1, .int .u64 t0], .bool c]))
    (C4 : Ct 62 #[.agg #[.int .u64 t1, .int .u64 t0]] (.agg #[.int .i64 y1, .int .u64 y0]))
    (C5 : Ct 46 #[.agg #[.int .i64 h, .int .u64 l]] (.int .u64 sa))
    (C6 : Ct 46 #[.agg #[.int .i64 k, .int .u64 m]] (.int .u64 sb))
    (C7 : Ct 46 #[.agg #[.int .i64 y1, .int .u64 y0]] (.int .u64 ss))
    (C8 : Ct 63 #[.agg #[.int .i64 y1, .int .u64 y0]] (.bool false)) :
    Calls Try.prog 38 #[.agg #[.int .i64 h, .int .u64 l], .agg #[.int .i64 k, .int .u64 m]] w fun e w' => e = .returned (.tuple #[.agg #[.int .i64 0, .int .u64 0], .int .i64 3]) ∧ Below w.heap.size w w' := by
  have K1 := Lib.hid C1; have K2 := Lib.hid C2; have K3 := Lib.hid C3; have K4 := Lib.hid C4; have K5 := Lib.hid C5; have K6 := Lib.hid C6; have K7 := Lib.hid C7; have K8 := Lib.hid C8
  clear C1 C2 C3 C4 C5 C6 C7 C8
  have K9 := K7
  subst hn
  go_enter Try.func38, Try.ntmps38
  go_upto_region 1 with fail
  go_cut [6] (fun slot0 X1 => ∃ bX1two : Nat, slot0 = .pointer (some ⟨bX1two, 0, none⟩) ∧ w.heap.size + 1 + 1 + 1 ≤ bX1two ∧ Below w.heap.size w X1 ∧ Has (w.heap.size) [.int .i64 h, .int .u64 l] X1 ∧ Has (w.heap.size + 1) [.int .i64 k, .int .u64 m] X1 ∧ Has (w.heap.size + 1 + 1) [.int .i64 0, .int .u64 0] X1 ∧ Has (bX1two) [.int .u64 t1, .int .u64 t0] X1 ∧ Clear (w.heap.size + 1 + 1) X1)
  case first =>
    go_region_held3 (fun w' => w'.cell? ⟨w.heap.size, 0, none⟩ = some (.int .i64 h) ∧ w'.cell? ⟨w.heap.size, 1, none⟩ = some (.int .u64 l) ∧ w'.cell? ⟨w.heap.size + 1, 0, none⟩ = some (.int .i64 k) ∧ w'.cell? ⟨w.heap.size + 1, 1, none⟩ = some (.int .u64 m)) (first | (simp [*, go_sem]; done) | (simp [*, go_sem, World.cell?_alloc_past]; done))
      (first
        | (go_at_call 61; (with_reducible refine (K1.out _).mono ?_); rintro e w1 ⟨rfl, hb⟩; (first | (with_reducible (obtain ⟨hclw1, hfrw1⟩ := bcell_drew hb)) | (obtain ⟨hclw1, hfrw1⟩ := bcell hb)); obtain ⟨zw1_a, yw1_a, yyw1_a⟩ := sz3 (B := w.heap.size) hb; obtain ⟨zw1_b, yw1_b, yyw1_b⟩ := sz3 (B := w.heap.size + 1) hb; obtain ⟨zw1_r, yw1_r, yyw1_r⟩ := sz3 (B := w.heap.size + 1 + 1) hb; (try have sw1_0 := sz (B := w.heap.size + 1 + 1 + 1) hb); (try have stw1_0 := sz (B := w.heap.size + 1 + 1 + 1 + 1) hb); obtain ⟨sxw1_0, syw1_0⟩ := szx (b := w.heap.size + 1 + 1 + 1) hb; have HBw1 := hbw (a := w) hb; clear hb; clear K1)
        | (go_at_call 61; (with_reducible refine cm (K2.out _) fun w2 hclw2 hfrw2 hb => ?_); obtain ⟨zw2_a, yw2_a, yyw2_a⟩ := sz3 (B := w.heap.size) hb; obtain ⟨zw2_b, yw2_b, yyw2_b⟩ := sz3 (B := w.heap.size + 1) hb; obtain ⟨zw2_r, yw2_r, yyw2_r⟩ := sz3 (B := w.heap.size + 1 + 1) hb; (try have sw2_0 := sz (B := w.heap.size + 1 + 1 + 1) hb); (try have stw2_0 := sz (B := w.heap.size + 1 + 1 + 1 + 1) hb); obtain ⟨sxw2_0, syw2_0⟩ := szx (b := w.heap.size + 1 + 1 + 1) hb; (try have sw2_w1 := sz (B := w1.heap.size) hb); (try have stw2_w1 := sz (B := w1.heap.size + 1) hb); obtain ⟨sxw2_w1, syw2_w1⟩ := szx (b := w1.heap.size) hb; have HBw2 := hbw (a := w) hb; clear hb; clear K2)
        | (go_at_call 60; (with_reducible refine cm (K3.out _) fun w3 hclw3 hfrw3 hb => ?_); obtain ⟨zw3_a, yw3_a, yyw3_a⟩ := sz3 (B := w.heap.size) hb; obtain ⟨zw3_b, yw3_b, yyw3_b⟩ := sz3 (B := w.heap.size + 1) hb; obtain ⟨zw3_r, yw3_r, yyw3_r⟩ := sz3 (B := w.heap.size + 1 + 1) hb; (try have sw3_0 := sz (B := w.heap.size + 1 + 1 + 1) hb); (try have stw3_0 := sz (B := w.heap.size + 1 + 1 + 1 + 1) hb); obtain ⟨sxw3_0, syw3_0⟩ := szx (b := w.heap.size + 1 + 1 + 1) hb; (try have sw3_w1 := sz (B := w1.heap.size) hb); (try have stw3_w1 := sz (B := w1.heap.size + 1) hb); obtain ⟨sxw3_w1, syw3_w1⟩ := szx (b := w1.heap.size) hb; (try have sw3_w2 := sz (B := w2.heap.size) hb); (try have stw3_w2 := sz (B := w2.heap.size + 1) hb); obtain ⟨sxw3_w2, syw3_w2⟩ := szx (b := w2.heap.size) hb; have HBw3 := hbw (a := w) hb; clear hb; clear K3))
    all_goals (rename_i hHeld; clear hHeld; go_wp2_with fail; go_meet; exact ⟨_, rfl, (by first | omega | (simp <;> omega)), bb, Has.mk2 (by first | (simp <;> omega) | omega) (by simp [go_sem, *]) (by simp [go_sem, *]), Has.mk2 (by first | (simp <;> omega) | omega) (by simp [go_sem, *]) (by simp [go_sem, *]), Has.mk2 (by first | (simp <;> omega) | omega) (by simp [go_sem, *]) (by simp [go_sem, *]), Has.mk2 (by first | (simp <;> omega) | omega) (by simp [go_sem, *]) (by simp [go_sem, *]), (fun j => by first | (simp [go_sem, *]; done) | (simp [frozen?_alloc_cells, World.frozen?, *]; done))⟩)
  case rest =>
  obtain ⟨X1, hX1⟩ : ∃ X, X = wc := ⟨wc, rfl⟩
  subst hX1
  obtain ⟨bX1two, rfl, m_bX1two, HBX1x, g_a, g_b, g_r, g_two, f_r⟩ := hcut
  have HBX1 := Lib.hid HBX1x; clear HBX1x
  have zX1_a := g_a.1; have cX1_a_0 := g_a.2 0 _ rfl; have cX1_a_1 := g_a.2 1 _ rfl; clear g_a
  have zX1_b := g_b.1; have cX1_b_0 := g_b.2 0 _ rfl; have cX1_b_1 := g_b.2 1 _ rfl; clear g_b
  have zX1_r := g_r.1; have cX1_r_0 := g_r.2 0 _ rfl; have cX1_r_1 := g_r.2 1 _ rfl; clear g_r
  have fX1_r : ∀ j, X1.frozen? ⟨w.heap.size + 1 + 1, j, none⟩ = false := f_r; clear f_r
  have zX1_two := g_two.1; have cX1_two_0 := g_two.2 0 _ rfl; have cX1_two_1 := g_two.2 1 _ rfl; clear g_two
  obtain ⟨nebX1two_a, ndbX1two_a⟩ := nn (a := bX1two) (b := w.heap.size)
  obtain ⟨nebX1two_b, ndbX1two_b⟩ := nn (a := bX1two) (b := w.heap.size + 1)
  obtain ⟨nebX1two_r, ndbX1two_r⟩ := nn (a := bX1two) (b := w.heap.size + 1 + 1)
  have lobX1two : w.heap.size ≤ bX1two := by omega
  go_wp2_with fail
  (with_reducible refine cm (K4.out _) fun w4 hclw4 hfrw4 hb => ?_); obtain ⟨zw4_a, yw4_a, yyw4_a⟩ := sz3 (B := w.heap.size) hb; obtain ⟨zw4_b, yw4_b, yyw4_b⟩ := sz3 (B := w.heap.size + 1) hb; obtain ⟨zw4_r, yw4_r, yyw4_r⟩ := sz3 (B := w.heap.size + 1 + 1) hb; obtain ⟨zw4_two, yw4_two, yyw4_two⟩ := sz3 (B := bX1two) hb; (try have sw4_0 := sz (B := X1.heap.size) hb); (try have stw4_0 := sz (B := X1.heap.size + 1) hb); obtain ⟨sxw4_0, syw4_0⟩ := szx (b := X1.heap.size) hb; have HBw4 := hbw (a := w) hb; clear hb
  go_upto_region 3 with fail
  go_region_held3 (fun w' => w'.cell? ⟨w.heap.size, 0, none⟩ = some (.int .i64 h) ∧ w'.cell? ⟨w.heap.size, 1, none⟩ = some (.int .u64 l) ∧ w'.cell? ⟨w.heap.size + 1, 0, none⟩ = some (.int .i64 k) ∧ w'.cell? ⟨w.heap.size + 1, 1, none⟩ = some (.int .u64 m) ∧ w'.cell? ⟨w4.heap.size, 0, none⟩ = some (.int .i64 y1) ∧ w'.cell? ⟨w4.heap.size, 1, none⟩ = some (.int .u64 y0)) (first | (simp [*, go_sem]; done) | (simp [*, go_sem, World.cell?_alloc_past]; done))
    (first
      | (go_at_call 46; (with_reducible refine (K5.out _).mono ?_); rintro e w5 ⟨rfl, hb⟩; (first | (with_reducible (obtain ⟨hclw5, hfrw5⟩ := bcell_drew hb)) | (obtain ⟨hclw5, hfrw5⟩ := bcell hb)); obtain ⟨zw5_a, yw5_a, yyw5_a⟩ := sz3 (B := w.heap.size) hb; obtain ⟨zw5_b, yw5_b, yyw5_b⟩ := sz3 (B := w.heap.size + 1) hb; obtain ⟨zw5_r, yw5_r, yyw5_r⟩ := sz3 (B := w.heap.size + 1 + 1) hb; obtain ⟨zw5_two, yw5_two, yyw5_two⟩ := sz3 (B := bX1two) hb; obtain ⟨zw5_s, yw5_s, yyw5_s⟩ := sz3 (B := w4.heap.size) hb; (try have sw5_0 := sz (B := w4.heap.size + 1) hb); (try have stw5_0 := sz (B := w4.heap.size + 1 + 1) hb); obtain ⟨sxw5_0, syw5_0⟩ := szx (b := w4.heap.size + 1) hb; have HBw5 := hbw (a := w) hb; clear hb; clear K5)
      | (go_at_call 46; (with_reducible refine cm (K7.out _) fun w6 hclw6 hfrw6 hb => ?_); obtain ⟨zw6_a, yw6_a, yyw6_a⟩ := sz3 (B := w.heap.size) hb; obtain ⟨zw6_b, yw6_b, yyw6_b⟩ := sz3 (B := w.heap.size + 1) hb; obtain ⟨zw6_r, yw6_r, yyw6_r⟩ := sz3 (B := w.heap.size + 1 + 1) hb; obtain ⟨zw6_two, yw6_two, yyw6_two⟩ := sz3 (B := bX1two) hb; obtain ⟨zw6_s, yw6_s, yyw6_s⟩ := sz3 (B := w4.heap.size) hb; (try have sw6_0 := sz (B := w4.heap.size + 1) hb); (try have stw6_0 := sz (B := w4.heap.size + 1 + 1) hb); obtain ⟨sxw6_0, syw6_0⟩ := szx (b := w4.heap.size + 1) hb; (try have sw6_w5 := sz (B := w5.heap.size) hb); (try have stw6_w5 := sz (B := w5.heap.size + 1) hb); obtain ⟨sxw6_w5, syw6_w5⟩ := szx (b := w5.heap.size) hb; have HBw6 := hbw (a := w) hb; clear hb; clear K7)
      | (go_at_call 46; (with_reducible refine cm (K6.out _) fun w7 hclw7 hfrw7 hb => ?_); obtain ⟨zw7_a, yw7_a, yyw7_a⟩ := sz3 (B := w.heap.size) hb; obtain ⟨zw7_b, yw7_b, yyw7_b⟩ := sz3 (B := w.heap.size + 1) hb; obtain ⟨zw7_r, yw7_r, yyw7_r⟩ := sz3 (B := w.heap.size + 1 + 1) hb; obtain ⟨zw7_two, yw7_two, yyw7_two⟩ := sz3 (B := bX1two) hb; obtain ⟨zw7_s, yw7_s, yyw7_s⟩ := sz3 (B := w4.heap.size) hb; (try have sw7_0 := sz (B := w4.heap.size + 1) hb); (try have stw7_0 := sz (B := w4.heap.size + 1 + 1) hb); obtain ⟨sxw7_0, syw7_0⟩ := szx (b := w4.heap.size + 1) hb; (try have sw7_w5 := sz (B := w5.heap.size) hb); (try have stw7_w5 := sz (B := w5.heap.size + 1) hb); obtain ⟨sxw7_w5, syw7_w5⟩ := szx (b := w5.heap.size) hb; (try have sw7_w6 := sz (B := w6.heap.size) hb); (try have stw7_w6 := sz (B := w6.heap.size + 1) hb); obtain ⟨sxw7_w6, syw7_w6⟩ := szx (b := w6.heap.size) hb; have HBw7 := hbw (a := w) hb; clear hb; clear K6)
      | (go_at_call 46; (with_reducible refine cm (K9.out _) fun w8 hclw8 hfrw8 hb => ?_); obtain ⟨zw8_a, yw8_a, yyw8_a⟩ := sz3 (B := w.heap.size) hb; obtain ⟨zw8_b, yw8_b, yyw8_b⟩ := sz3 (B := w.heap.size + 1) hb; obtain ⟨zw8_r, yw8_r, yyw8_r⟩ := sz3 (B := w.heap.size + 1 + 1) hb; obtain ⟨zw8_two, yw8_two, yyw8_two⟩ := sz3 (B := bX1two) hb; obtain ⟨zw8_s, yw8_s, yyw8_s⟩ := sz3 (B := w4.heap.size) hb; (try have sw8_0 := sz (B := w4.heap.size + 1) hb); (try have stw8_0 := sz (B := w4.heap.size + 1 + 1) hb); obtain ⟨sxw8_0, syw8_0⟩ := szx (b := w4.heap.size + 1) hb; (try have sw8_w5 := sz (B := w5.heap.size) hb); (try have stw8_w5 := sz (B := w5.heap.size + 1) hb); obtain ⟨sxw8_w5, syw8_w5⟩ := szx (b := w5.heap.size) hb; (try have sw8_w6 := sz (B := w6.heap.size) hb); (try have stw8_w6 := sz (B := w6.heap.size + 1) hb); obtain ⟨sxw8_w6, syw8_w6⟩ := szx (b := w6.heap.size) hb; (try have sw8_w7 := sz (B := w7.heap.size) hb); (try have stw8_w7 := sz (B := w7.heap.size + 1) hb); obtain ⟨sxw8_w7, syw8_w7⟩ := szx (b := w7.heap.size) hb; have HBw8 := hbw (a := w) hb; clear hb; clear K9)
      | (go_at_call 63; (with_reducible refine cm (K8.out _) fun w9 hclw9 hfrw9 hb => ?_); obtain ⟨zw9_a, yw9_a, yyw9_a⟩ := sz3 (B := w.heap.size) hb; obtain ⟨zw9_b, yw9_b, yyw9_b⟩ := sz3 (B := w.heap.size + 1) hb; obtain ⟨zw9_r, yw9_r, yyw9_r⟩ := sz3 (B := w.heap.size + 1 + 1) hb; obtain ⟨zw9_two, yw9_two, yyw9_two⟩ := sz3 (B := bX1two) hb; obtain ⟨zw9_s, yw9_s, yyw9_s⟩ := sz3 (B := w4.heap.size) hb; (try have sw9_0 := sz (B := w4.heap.size + 1) hb); (try have stw9_0 := sz (B := w4.heap.size + 1 + 1) hb); obtain ⟨sxw9_0, syw9_0⟩ := szx (b := w4.heap.size + 1) hb; (try have sw9_w5 := sz (B := w5.heap.size) hb); (try have stw9_w5 := sz (B := w5.heap.size + 1) hb); obtain ⟨sxw9_w5, syw9_w5⟩ := szx (b := w5.heap.size) hb; (try have sw9_w6 := sz (B := w6.heap.size) hb); (try have stw9_w6 := sz (B := w6.heap.size + 1) hb); obtain ⟨sxw9_w6, syw9_w6⟩ := szx (b := w6.heap.size) hb; (try have sw9_w7 := sz (B := w7.heap.size) hb); (try have stw9_w7 := sz (B := w7.heap.size + 1) hb); obtain ⟨sxw9_w7, syw9_w7⟩ := szx (b := w7.heap.size) hb; (try have sw9_w8 := sz (B := w8.heap.size) hb); (try have stw9_w8 := sz (B := w8.heap.size + 1) hb); obtain ⟨sxw9_w8, syw9_w8⟩ := szx (b := w8.heap.size) hb; have HBw9 := hbw (a := w) hb; clear hb; clear K8))
  rename_i hHeld
  clear hHeld
  go_wp2_with fail
  refine bodyPost_ret (by simp [results, Try.results38, go_sem, *]; try rfl) rfl ?_
  exact ⟨rfl, bb⟩
set_option maxRecDepth 20000 in
set_option maxHeartbeats 4000000 in
theorem fadd_ok (h l k m p1 p0 q1 q0 t1 t0 y1 y0 sa sb ss x1 x2 x3 : Int) (c : Bool) (e1 : bits .xor .u64 sa ss = x1) (e2 : bits .xor .u64 sb ss = x2) (e3 : bits .and .u64 x1 x2 = x3) (hn : x3 = 0) (w : World)
    (C1 : Ct 61 #[.agg #[.int .i64 h, .int .u64 l]] (.agg #[.int .u64 p1, .int .u64 p0]))
    (C2 : Ct 61 #[.agg #[.int .i64 k, .int .u64 m]] (.agg #[.int .u64 q1, .int .u64 q0]))
    (C3 : Ct 60 #[.agg #[.int .u64 p1, .int .u64 p0], .agg #[.int .u64 q1, .int .u64 q0]] (.tuple #[.agg #[.int .u64 t1, .int .u64 t0], .bool c]))
    (C4 : Ct 62 #[.agg #[.int .u64 t1, .int .u64 t0]] (.agg #[.int .i64 y1, .int .u64 y0]))
    (C5 : Ct 46 #[.agg #[.int .i64 h, .int .u64 l]] (.int .u64 sa))
    (C6 : Ct 46 #[.agg #[.int .i64 k, .int .u64 m]] (.int .u64 sb))
    (C7 : Ct 46 #[.agg #[.int .i64 y1, .int .u64 y0]] (.int .u64 ss))
    (C8 : Ct 63 #[.agg #[.int .i64 y1, .int .u64 y0]] (.bool true)) :
    Calls Try.prog 38 #[.agg #[.int .i64 h, .int .u64 l], .agg #[.int .i64 k, .int .u64 m]] w fun e w' => e = .returned (.tuple #[.agg #[.int .i64 y1, .int .u64 y0], .int .i64 0]) ∧ Below w.heap.size w w' := by
  have K1 := Lib.hid C1; have K2 := Lib.hid C2; have K3 := Lib.hid C3; have K4 := Lib.hid C4; have K5 := Lib.hid C5; have K6 := Lib.hid C6; have K7 := Lib.hid C7; have K8 := Lib.hid C8
  clear C1 C2 C3 C4 C5 C6 C7 C8
  have K9 := K7
  subst hn
  go_enter Try.func38, Try.ntmps38
  go_upto_region 1 with fail
  go_cut [6] (fun slot0 X1 => ∃ bX1two : Nat, slot0 = .pointer (some ⟨bX1two, 0, none⟩) ∧ w.heap.size + 1 + 1 + 1 ≤ bX1two ∧ Below w.heap.size w X1 ∧ Has (w.heap.size) [.int .i64 h, .int .u64 l] X1 ∧ Has (w.heap.size + 1) [.int .i64 k, .int .u64 m] X1 ∧ Has (w.heap.size + 1 + 1) [.int .i64 0, .int .u64 0] X1 ∧ Has (bX1two) [.int .u64 t1, .int .u64 t0] X1 ∧ Clear (w.heap.size + 1 + 1) X1)
  case first =>
    go_region_held3 (fun w' => w'.cell? ⟨w.heap.size, 0, none⟩ = some (.int .i64 h) ∧ w'.cell? ⟨w.heap.size, 1, none⟩ = some (.int .u64 l) ∧ w'.cell? ⟨w.heap.size + 1, 0, none⟩ = some (.int .i64 k) ∧ w'.cell? ⟨w.heap.size + 1, 1, none⟩ = some (.int .u64 m)) (first | (simp [*, go_sem]; done) | (simp [*, go_sem, World.cell?_alloc_past]; done))
      (first
        | (go_at_call 61; (with_reducible refine (K1.out _).mono ?_); rintro e w1 ⟨rfl, hb⟩; (first | (with_reducible (obtain ⟨hclw1, hfrw1⟩ := bcell_drew hb)) | (obtain ⟨hclw1, hfrw1⟩ := bcell hb)); obtain ⟨zw1_a, yw1_a, yyw1_a⟩ := sz3 (B := w.heap.size) hb; obtain ⟨zw1_b, yw1_b, yyw1_b⟩ := sz3 (B := w.heap.size + 1) hb; obtain ⟨zw1_r, yw1_r, yyw1_r⟩ := sz3 (B := w.heap.size + 1 + 1) hb; (try have sw1_0 := sz (B := w.heap.size + 1 + 1 + 1) hb); (try have stw1_0 := sz (B := w.heap.size + 1 + 1 + 1 + 1) hb); obtain ⟨sxw1_0, syw1_0⟩ := szx (b := w.heap.size + 1 + 1 + 1) hb; have HBw1 := hbw (a := w) hb; clear hb; clear K1)
        | (go_at_call 61; (with_reducible refine cm (K2.out _) fun w2 hclw2 hfrw2 hb => ?_); obtain ⟨zw2_a, yw2_a, yyw2_a⟩ := sz3 (B := w.heap.size) hb; obtain ⟨zw2_b, yw2_b, yyw2_b⟩ := sz3 (B := w.heap.size + 1) hb; obtain ⟨zw2_r, yw2_r, yyw2_r⟩ := sz3 (B := w.heap.size + 1 + 1) hb; (try have sw2_0 := sz (B := w.heap.size + 1 + 1 + 1) hb); (try have stw2_0 := sz (B := w.heap.size + 1 + 1 + 1 + 1) hb); obtain ⟨sxw2_0, syw2_0⟩ := szx (b := w.heap.size + 1 + 1 + 1) hb; (try have sw2_w1 := sz (B := w1.heap.size) hb); (try have stw2_w1 := sz (B := w1.heap.size + 1) hb); obtain ⟨sxw2_w1, syw2_w1⟩ := szx (b := w1.heap.size) hb; have HBw2 := hbw (a := w) hb; clear hb; clear K2)
        | (go_at_call 60; (with_reducible refine cm (K3.out _) fun w3 hclw3 hfrw3 hb => ?_); obtain ⟨zw3_a, yw3_a, yyw3_a⟩ := sz3 (B := w.heap.size) hb; obtain ⟨zw3_b, yw3_b, yyw3_b⟩ := sz3 (B := w.heap.size + 1) hb; obtain ⟨zw3_r, yw3_r, yyw3_r⟩ := sz3 (B := w.heap.size + 1 + 1) hb; (try have sw3_0 := sz (B := w.heap.size + 1 + 1 + 1) hb); (try have stw3_0 := sz (B := w.heap.size + 1 + 1 + 1 + 1) hb); obtain ⟨sxw3_0, syw3_0⟩ := szx (b := w.heap.size + 1 + 1 + 1) hb; (try have sw3_w1 := sz (B := w1.heap.size) hb); (try have stw3_w1 := sz (B := w1.heap.size + 1) hb); obtain ⟨sxw3_w1, syw3_w1⟩ := szx (b := w1.heap.size) hb; (try have sw3_w2 := sz (B := w2.heap.size) hb); (try have stw3_w2 := sz (B := w2.heap.size + 1) hb); obtain ⟨sxw3_w2, syw3_w2⟩ := szx (b := w2.heap.size) hb; have HBw3 := hbw (a := w) hb; clear hb; clear K3))
    all_goals (rename_i hHeld; clear hHeld; go_wp2_with fail; go_meet; exact ⟨_, rfl, (by first | omega | (simp <;> omega)), bb, Has.mk2 (by first | (simp <;> omega) | omega) (by simp [go_sem, *]) (by simp [go_sem, *]), Has.mk2 (by first | (simp <;> omega) | omega) (by simp [go_sem, *]) (by simp [go_sem, *]), Has.mk2 (by first | (simp <;> omega) | omega) (by simp [go_sem, *]) (by simp [go_sem, *]), Has.mk2 (by first | (simp <;> omega) | omega) (by simp [go_sem, *]) (by simp [go_sem, *]), (fun j => by first | (simp [go_sem, *]; done) | (simp [frozen?_alloc_cells, World.frozen?, *]; done))⟩)
  case rest =>
  obtain ⟨X1, hX1⟩ : ∃ X, X = wc := ⟨wc, rfl⟩
  subst hX1
  obtain ⟨bX1two, rfl, m_bX1two, HBX1x, g_a, g_b, g_r, g_two, f_r⟩ := hcut
  have HBX1 := Lib.hid HBX1x; clear HBX1x
  have zX1_a := g_a.1; have cX1_a_0 := g_a.2 0 _ rfl; have cX1_a_1 := g_a.2 1 _ rfl; clear g_a
  have zX1_b := g_b.1; have cX1_b_0 := g_b.2 0 _ rfl; have cX1_b_1 := g_b.2 1 _ rfl; clear g_b
  have zX1_r := g_r.1; have cX1_r_0 := g_r.2 0 _ rfl; have cX1_r_1 := g_r.2 1 _ rfl; clear g_r
  have fX1_r : ∀ j, X1.frozen? ⟨w.heap.size + 1 + 1, j, none⟩ = false := f_r; clear f_r
  have zX1_two := g_two.1; have cX1_two_0 := g_two.2 0 _ rfl; have cX1_two_1 := g_two.2 1 _ rfl; clear g_two
  obtain ⟨nebX1two_a, ndbX1two_a⟩ := nn (a := bX1two) (b := w.heap.size)
  obtain ⟨nebX1two_b, ndbX1two_b⟩ := nn (a := bX1two) (b := w.heap.size + 1)
  obtain ⟨nebX1two_r, ndbX1two_r⟩ := nn (a := bX1two) (b := w.heap.size + 1 + 1)
  have lobX1two : w.heap.size ≤ bX1two := by omega
  go_wp2_with fail
  (with_reducible refine cm (K4.out _) fun w4 hclw4 hfrw4 hb => ?_); obtain ⟨zw4_a, yw4_a, yyw4_a⟩ := sz3 (B := w.heap.size) hb; obtain ⟨zw4_b, yw4_b, yyw4_b⟩ := sz3 (B := w.heap.size + 1) hb; obtain ⟨zw4_r, yw4_r, yyw4_r⟩ := sz3 (B := w.heap.size + 1 + 1) hb; obtain ⟨zw4_two, yw4_two, yyw4_two⟩ := sz3 (B := bX1two) hb; (try have sw4_0 := sz (B := X1.heap.size) hb); (try have stw4_0 := sz (B := X1.heap.size + 1) hb); obtain ⟨sxw4_0, syw4_0⟩ := szx (b := X1.heap.size) hb; have HBw4 := hbw (a := w) hb; clear hb
  go_upto_region 3 with fail
  go_region_held3 (fun w' => w'.cell? ⟨w.heap.size, 0, none⟩ = some (.int .i64 h) ∧ w'.cell? ⟨w.heap.size, 1, none⟩ = some (.int .u64 l) ∧ w'.cell? ⟨w.heap.size + 1, 0, none⟩ = some (.int .i64 k) ∧ w'.cell? ⟨w.heap.size + 1, 1, none⟩ = some (.int .u64 m) ∧ w'.cell? ⟨w4.heap.size, 0, none⟩ = some (.int .i64 y1) ∧ w'.cell? ⟨w4.heap.size, 1, none⟩ = some (.int .u64 y0)) (first | (simp [*, go_sem]; done) | (simp [*, go_sem, World.cell?_alloc_past]; done))
    (first
      | (go_at_call 46; (with_reducible refine (K5.out _).mono ?_); rintro e w5 ⟨rfl, hb⟩; (first | (with_reducible (obtain ⟨hclw5, hfrw5⟩ := bcell_drew hb)) | (obtain ⟨hclw5, hfrw5⟩ := bcell hb)); obtain ⟨zw5_a, yw5_a, yyw5_a⟩ := sz3 (B := w.heap.size) hb; obtain ⟨zw5_b, yw5_b, yyw5_b⟩ := sz3 (B := w.heap.size + 1) hb; obtain ⟨zw5_r, yw5_r, yyw5_r⟩ := sz3 (B := w.heap.size + 1 + 1) hb; obtain ⟨zw5_two, yw5_two, yyw5_two⟩ := sz3 (B := bX1two) hb; obtain ⟨zw5_s, yw5_s, yyw5_s⟩ := sz3 (B := w4.heap.size) hb; (try have sw5_0 := sz (B := w4.heap.size + 1) hb); (try have stw5_0 := sz (B := w4.heap.size + 1 + 1) hb); obtain ⟨sxw5_0, syw5_0⟩ := szx (b := w4.heap.size + 1) hb; have HBw5 := hbw (a := w) hb; clear hb; clear K5)
      | (go_at_call 46; (with_reducible refine cm (K7.out _) fun w6 hclw6 hfrw6 hb => ?_); obtain ⟨zw6_a, yw6_a, yyw6_a⟩ := sz3 (B := w.heap.size) hb; obtain ⟨zw6_b, yw6_b, yyw6_b⟩ := sz3 (B := w.heap.size + 1) hb; obtain ⟨zw6_r, yw6_r, yyw6_r⟩ := sz3 (B := w.heap.size + 1 + 1) hb; obtain ⟨zw6_two, yw6_two, yyw6_two⟩ := sz3 (B := bX1two) hb; obtain ⟨zw6_s, yw6_s, yyw6_s⟩ := sz3 (B := w4.heap.size) hb; (try have sw6_0 := sz (B := w4.heap.size + 1) hb); (try have stw6_0 := sz (B := w4.heap.size + 1 + 1) hb); obtain ⟨sxw6_0, syw6_0⟩ := szx (b := w4.heap.size + 1) hb; (try have sw6_w5 := sz (B := w5.heap.size) hb); (try have stw6_w5 := sz (B := w5.heap.size + 1) hb); obtain ⟨sxw6_w5, syw6_w5⟩ := szx (b := w5.heap.size) hb; have HBw6 := hbw (a := w) hb; clear hb; clear K7)
      | (go_at_call 46; (with_reducible refine cm (K6.out _) fun w7 hclw7 hfrw7 hb => ?_); obtain ⟨zw7_a, yw7_a, yyw7_a⟩ := sz3 (B := w.heap.size) hb; obtain ⟨zw7_b, yw7_b, yyw7_b⟩ := sz3 (B := w.heap.size + 1) hb; obtain ⟨zw7_r, yw7_r, yyw7_r⟩ := sz3 (B := w.heap.size + 1 + 1) hb; obtain ⟨zw7_two, yw7_two, yyw7_two⟩ := sz3 (B := bX1two) hb; obtain ⟨zw7_s, yw7_s, yyw7_s⟩ := sz3 (B := w4.heap.size) hb; (try have sw7_0 := sz (B := w4.heap.size + 1) hb); (try have stw7_0 := sz (B := w4.heap.size + 1 + 1) hb); obtain ⟨sxw7_0, syw7_0⟩ := szx (b := w4.heap.size + 1) hb; (try have sw7_w5 := sz (B := w5.heap.size) hb); (try have stw7_w5 := sz (B := w5.heap.size + 1) hb); obtain ⟨sxw7_w5, syw7_w5⟩ := szx (b := w5.heap.size) hb; (try have sw7_w6 := sz (B := w6.heap.size) hb); (try have stw7_w6 := sz (B := w6.heap.size + 1) hb); obtain ⟨sxw7_w6, syw7_w6⟩ := szx (b := w6.heap.size) hb; have HBw7 := hbw (a := w) hb; clear hb; clear K6)
      | (go_at_call 46; (with_reducible refine cm (K9.out _) fun w8 hclw8 hfrw8 hb => ?_); obtain ⟨zw8_a, yw8_a, yyw8_a⟩ := sz3 (B := w.heap.size) hb; obtain ⟨zw8_b, yw8_b, yyw8_b⟩ := sz3 (B := w.heap.size + 1) hb; obtain ⟨zw8_r, yw8_r, yyw8_r⟩ := sz3 (B := w.heap.size + 1 + 1) hb; obtain ⟨zw8_two, yw8_two, yyw8_two⟩ := sz3 (B := bX1two) hb; obtain ⟨zw8_s, yw8_s, yyw8_s⟩ := sz3 (B := w4.heap.size) hb; (try have sw8_0 := sz (B := w4.heap.size + 1) hb); (try have stw8_0 := sz (B := w4.heap.size + 1 + 1) hb); obtain ⟨sxw8_0, syw8_0⟩ := szx (b := w4.heap.size + 1) hb; (try have sw8_w5 := sz (B := w5.heap.size) hb); (try have stw8_w5 := sz (B := w5.heap.size + 1) hb); obtain ⟨sxw8_w5, syw8_w5⟩ := szx (b := w5.heap.size) hb; (try have sw8_w6 := sz (B := w6.heap.size) hb); (try have stw8_w6 := sz (B := w6.heap.size + 1) hb); obtain ⟨sxw8_w6, syw8_w6⟩ := szx (b := w6.heap.size) hb; (try have sw8_w7 := sz (B := w7.heap.size) hb); (try have stw8_w7 := sz (B := w7.heap.size + 1) hb); obtain ⟨sxw8_w7, syw8_w7⟩ := szx (b := w7.heap.size) hb; have HBw8 := hbw (a := w) hb; clear hb; clear K9)
      | (go_at_call 63; (with_reducible refine cm (K8.out _) fun w9 hclw9 hfrw9 hb => ?_); obtain ⟨zw9_a, yw9_a, yyw9_a⟩ := sz3 (B := w.heap.size) hb; obtain ⟨zw9_b, yw9_b, yyw9_b⟩ := sz3 (B := w.heap.size + 1) hb; obtain ⟨zw9_r, yw9_r, yyw9_r⟩ := sz3 (B := w.heap.size + 1 + 1) hb; obtain ⟨zw9_two, yw9_two, yyw9_two⟩ := sz3 (B := bX1two) hb; obtain ⟨zw9_s, yw9_s, yyw9_s⟩ := sz3 (B := w4.heap.size) hb; (try have sw9_0 := sz (B := w4.heap.size + 1) hb); (try have stw9_0 := sz (B := w4.heap.size + 1 + 1) hb); obtain ⟨sxw9_0, syw9_0⟩ := szx (b := w4.heap.size + 1) hb; (try have sw9_w5 := sz (B := w5.heap.size) hb); (try have stw9_w5 := sz (B := w5.heap.size + 1) hb); obtain ⟨sxw9_w5, syw9_w5⟩ := szx (b := w5.heap.size) hb; (try have sw9_w6 := sz (B := w6.heap.size) hb); (try have stw9_w6 := sz (B := w6.heap.size + 1) hb); obtain ⟨sxw9_w6, syw9_w6⟩ := szx (b := w6.heap.size) hb; (try have sw9_w7 := sz (B := w7.heap.size) hb); (try have stw9_w7 := sz (B := w7.heap.size + 1) hb); obtain ⟨sxw9_w7, syw9_w7⟩ := szx (b := w7.heap.size) hb; (try have sw9_w8 := sz (B := w8.heap.size) hb); (try have stw9_w8 := sz (B := w8.heap.size + 1) hb); obtain ⟨sxw9_w8, syw9_w8⟩ := szx (b := w8.heap.size) hb; have HBw9 := hbw (a := w) hb; clear hb; clear K8))
  rename_i hHeld
  clear hHeld
  go_wp2_with fail
  refine bodyPost_ret (by simp [results, Try.results38, go_sem, *]; try rfl) rfl ?_
  exact ⟨rfl, bb⟩
end Go.Proofs.Ytmmlekgojblopaa
namespace Go.Proofs.Ytmmlekgojblopaa
open Go.RowKit

end Go.Proofs.Ytmmlekgojblopaa
namespace Go.Proofs.Ytmmlekgojblopaa
open Go.RowKit

set_option maxRecDepth 20000 in
set_option maxHeartbeats 4000000 in
theorem fmul_core (h l k m i1 i0 j1 j0 p3 p2 p1 p0 q3 q2 q1 q0 u sa sb s r1 r0 z : Int) (e1 : p0 / 9223372036854775808 = u) (e2 : bits .xor .u64 sa sb = s) (w : World)
    (C1 : Ct 41 #[.agg #[.int .i64 h, .int .u64 l]] (.agg #[.int .u64 i1, .int .u64 i0]))
    (C2 : Ct 41 #[.agg #[.int .i64 k, .int .u64 m]] (.agg #[.int .u64 j1, .int .u64 j0]))
    (C3 : Ct 58 #[.agg #[.int .u64 i1, .int .u64 i0], .agg #[.int .u64 j1, .int .u64 j0]] (.agg #[.int .u64 p3, .int .u64 p2, .int .u64 p1, .int .u64 p0]))
    (C4 : Ct 59 #[.agg #[.int .u64 p3, .int .u64 p2, .int .u64 p1, .int .u64 p0], .int .i64 64] (.agg #[.int .u64 q3, .int .u64 q2, .int .u64 q1, .int .u64 q0]))
    (C5 : Ct 46 #[.agg #[.int .i64 h, .int .u64 l]] (.int .u64 sa))
    (C6 : Ct 46 #[.agg #[.int .i64 k, .int .u64 m]] (.int .u64 sb))
    (C7 : Ct 45 #[.agg #[.int .u64 q3, .int .u64 q2, .int .u64 q1, .int .u64 q0], .int .u64 u, .int .u64 s] (.tuple #[.agg #[.int .i64 r1, .int .u64 r0], .int .i64 z])) :
    Calls Try.prog 37 #[.agg #[.int .i64 h, .int .u64 l], .agg #[.int .i64 k, .int .u64 m]] w fun e w' => e = .returned (.tuple #[.agg #[.int .i64 r1, .int .u64 r0], .int .i64 z]) ∧ Below w.heap.size w w' := by
  have K1 := Lib.hid C1; have K2 := Lib.hid C2; have K3 := Lib.hid C3; have K4 := Lib.hid C4; have K5 := Lib.hid C5; have K6 := Lib.hid C6; have K7 := Lib.hid C7
  clear C1 C2 C3 C4 C5 C6 C7
  go_enter Try.func37, Try.ntmps37
  go_upto_region 1 with fail
  go_cut [6] (fun slot0 X1 => ∃ bX1p : Nat, slot0 = .pointer (some ⟨bX1p, 0, none⟩) ∧ w.heap.size + 1 + 1 + 1 ≤ bX1p ∧ Below w.heap.size w X1 ∧ Has (w.heap.size) [.int .i64 h, .int .u64 l] X1 ∧ Has (w.heap.size + 1) [.int .i64 k, .int .u64 m] X1 ∧ Has (w.heap.size + 1 + 1) [.int .i64 0, .int .u64 0] X1 ∧ Has (bX1p) [.int .u64 p3, .int .u64 p2, .int .u64 p1, .int .u64 p0] X1 ∧ Clear (w.heap.size + 1 + 1) X1)
  case first =>
    go_region_held3 (fun w' => w'.cell? ⟨w.heap.size, 0, none⟩ = some (.int .i64 h) ∧ w'.cell? ⟨w.heap.size, 1, none⟩ = some (.int .u64 l) ∧ w'.cell? ⟨w.heap.size + 1, 0, none⟩ = some (.int .i64 k) ∧ w'.cell? ⟨w.heap.size + 1, 1, none⟩ = some (.int .u64 m)) (first | (simp [*, go_sem]; done) | (simp [*, go_sem, World.cell?_alloc_past]; done))
      (first
        | (go_at_call 41; (with_reducible refine (K1.out _).mono ?_); rintro e w1 ⟨rfl, hb⟩; (first | (with_reducible (obtain ⟨hclw1, hfrw1⟩ := bcell_drew hb)) | (obtain ⟨hclw1, hfrw1⟩ := bcell hb)); obtain ⟨zw1_a, yw1_a, yyw1_a⟩ := sz3 (B := w.heap.size) hb; obtain ⟨zw1_b, yw1_b, yyw1_b⟩ := sz3 (B := w.heap.size + 1) hb; obtain ⟨zw1_r, yw1_r, yyw1_r⟩ := sz3 (B := w.heap.size + 1 + 1) hb; (try have sw1_0 := sz (B := w.heap.size + 1 + 1 + 1) hb); (try have stw1_0 := sz (B := w.heap.size + 1 + 1 + 1 + 1) hb); obtain ⟨sxw1_0, syw1_0⟩ := szx (b := w.heap.size + 1 + 1 + 1) hb; have HBw1 := hbw (a := w) hb; clear hb; clear K1)
        | (go_at_call 41; (with_reducible refine cm (K2.out _) fun w2 hclw2 hfrw2 hb => ?_); obtain ⟨zw2_a, yw2_a, yyw2_a⟩ := sz3 (B := w.heap.size) hb; obtain ⟨zw2_b, yw2_b, yyw2_b⟩ := sz3 (B := w.heap.size + 1) hb; obtain ⟨zw2_r, yw2_r, yyw2_r⟩ := sz3 (B := w.heap.size + 1 + 1) hb; (try have sw2_0 := sz (B := w.heap.size + 1 + 1 + 1) hb); (try have stw2_0 := sz (B := w.heap.size + 1 + 1 + 1 + 1) hb); obtain ⟨sxw2_0, syw2_0⟩ := szx (b := w.heap.size + 1 + 1 + 1) hb; (try have sw2_w1 := sz (B := w1.heap.size) hb); (try have stw2_w1 := sz (B := w1.heap.size + 1) hb); obtain ⟨sxw2_w1, syw2_w1⟩ := szx (b := w1.heap.size) hb; have HBw2 := hbw (a := w) hb; clear hb; clear K2)
        | (go_at_call 58; (with_reducible refine cm (K3.out _) fun w3 hclw3 hfrw3 hb => ?_); obtain ⟨zw3_a, yw3_a, yyw3_a⟩ := sz3 (B := w.heap.size) hb; obtain ⟨zw3_b, yw3_b, yyw3_b⟩ := sz3 (B := w.heap.size + 1) hb; obtain ⟨zw3_r, yw3_r, yyw3_r⟩ := sz3 (B := w.heap.size + 1 + 1) hb; (try have sw3_0 := sz (B := w.heap.size + 1 + 1 + 1) hb); (try have stw3_0 := sz (B := w.heap.size + 1 + 1 + 1 + 1) hb); obtain ⟨sxw3_0, syw3_0⟩ := szx (b := w.heap.size + 1 + 1 + 1) hb; (try have sw3_w1 := sz (B := w1.heap.size) hb); (try have stw3_w1 := sz (B := w1.heap.size + 1) hb); obtain ⟨sxw3_w1, syw3_w1⟩ := szx (b := w1.heap.size) hb; (try have sw3_w2 := sz (B := w2.heap.size) hb); (try have stw3_w2 := sz (B := w2.heap.size + 1) hb); obtain ⟨sxw3_w2, syw3_w2⟩ := szx (b := w2.heap.size) hb; have HBw3 := hbw (a := w) hb; clear hb; clear K3))
    all_goals (rename_i hHeld; clear hHeld; go_wp2_with fail; go_meet; exact ⟨_, rfl, (by first | omega | (simp <;> omega)), bb, Has.mk2 (by first | (simp <;> omega) | omega) (by simp [go_sem, *]) (by simp [go_sem, *]), Has.mk2 (by first | (simp <;> omega) | omega) (by simp [go_sem, *]) (by simp [go_sem, *]), Has.mk2 (by first | (simp <;> omega) | omega) (by simp [go_sem, *]) (by simp [go_sem, *]), Has.mk4 (by first | (simp <;> omega) | omega) (by simp [go_sem, *]) (by simp [go_sem, *]) (by simp [go_sem, *]) (by simp [go_sem, *]), (fun j => by first | (simp [go_sem, *]; done) | (simp [frozen?_alloc_cells, World.frozen?, *]; done))⟩)
  case rest =>
  obtain ⟨X1, hX1⟩ : ∃ X, X = wc := ⟨wc, rfl⟩
  subst hX1
  obtain ⟨bX1p, rfl, m_bX1p, HBX1x, g_a, g_b, g_r, g_p, f_r⟩ := hcut
  have HBX1 := Lib.hid HBX1x; clear HBX1x
  have zX1_a := g_a.1; have cX1_a_0 := g_a.2 0 _ rfl; have cX1_a_1 := g_a.2 1 _ rfl; clear g_a
  have zX1_b := g_b.1; have cX1_b_0 := g_b.2 0 _ rfl; have cX1_b_1 := g_b.2 1 _ rfl; clear g_b
  have zX1_r := g_r.1; have cX1_r_0 := g_r.2 0 _ rfl; have cX1_r_1 := g_r.2 1 _ rfl; clear g_r
  have fX1_r : ∀ j, X1.frozen? ⟨w.heap.size + 1 + 1, j, none⟩ = false := f_r; clear f_r
  have zX1_p := g_p.1; have cX1_p_0 := g_p.2 0 _ rfl; have cX1_p_1 := g_p.2 1 _ rfl; have cX1_p_2 := g_p.2 2 _ rfl; have cX1_p_3 := g_p.2 3 _ rfl; clear g_p
  obtain ⟨nebX1p_a, ndbX1p_a⟩ := nn (a := bX1p) (b := w.heap.size)
  obtain ⟨nebX1p_b, ndbX1p_b⟩ := nn (a := bX1p) (b := w.heap.size + 1)
  obtain ⟨nebX1p_r, ndbX1p_r⟩ := nn (a := bX1p) (b := w.heap.size + 1 + 1)
  have lobX1p : w.heap.size ≤ bX1p := by omega
  go_upto_region 2 with fail
  go_region_held3 (fun w' => w'.cell? ⟨w.heap.size, 0, none⟩ = some (.int .i64 h) ∧ w'.cell? ⟨w.heap.size, 1, none⟩ = some (.int .u64 l) ∧ w'.cell? ⟨w.heap.size + 1, 0, none⟩ = some (.int .i64 k) ∧ w'.cell? ⟨w.heap.size + 1, 1, none⟩ = some (.int .u64 m) ∧ w'.cell? ⟨bX1p, 0, none⟩ = some (.int .u64 p3) ∧ w'.cell? ⟨bX1p, 1, none⟩ = some (.int .u64 p2) ∧ w'.cell? ⟨bX1p, 2, none⟩ = some (.int .u64 p1) ∧ w'.cell? ⟨bX1p, 3, none⟩ = some (.int .u64 p0)) (first | (simp [*, go_sem]; done) | (simp [*, go_sem, World.cell?_alloc_past]; done))
    (first
      | (go_at_call 59; (with_reducible refine (K4.out _).mono ?_); rintro e w4 ⟨rfl, hb⟩; (first | (with_reducible (obtain ⟨hclw4, hfrw4⟩ := bcell_drew hb)) | (obtain ⟨hclw4, hfrw4⟩ := bcell hb)); obtain ⟨zw4_a, yw4_a, yyw4_a⟩ := sz3 (B := w.heap.size) hb; obtain ⟨zw4_b, yw4_b, yyw4_b⟩ := sz3 (B := w.heap.size + 1) hb; obtain ⟨zw4_r, yw4_r, yyw4_r⟩ := sz3 (B := w.heap.size + 1 + 1) hb; obtain ⟨zw4_p, yw4_p, yyw4_p⟩ := sz3 (B := bX1p) hb; (try have sw4_0 := sz (B := X1.heap.size) hb); (try have stw4_0 := sz (B := X1.heap.size + 1) hb); obtain ⟨sxw4_0, syw4_0⟩ := szx (b := X1.heap.size) hb; have HBw4 := hbw (a := w) hb; clear hb; clear K4)
      | (go_at_call 46; (with_reducible refine cm (K5.out _) fun w5 hclw5 hfrw5 hb => ?_); obtain ⟨zw5_a, yw5_a, yyw5_a⟩ := sz3 (B := w.heap.size) hb; obtain ⟨zw5_b, yw5_b, yyw5_b⟩ := sz3 (B := w.heap.size + 1) hb; obtain ⟨zw5_r, yw5_r, yyw5_r⟩ := sz3 (B := w.heap.size + 1 + 1) hb; obtain ⟨zw5_p, yw5_p, yyw5_p⟩ := sz3 (B := bX1p) hb; (try have sw5_0 := sz (B := X1.heap.size) hb); (try have stw5_0 := sz (B := X1.heap.size + 1) hb); obtain ⟨sxw5_0, syw5_0⟩ := szx (b := X1.heap.size) hb; (try have sw5_w4 := sz (B := w4.heap.size) hb); (try have stw5_w4 := sz (B := w4.heap.size + 1) hb); obtain ⟨sxw5_w4, syw5_w4⟩ := szx (b := w4.heap.size) hb; have HBw5 := hbw (a := w) hb; clear hb; clear K5)
      | (go_at_call 46; (with_reducible refine cm (K6.out _) fun w6 hclw6 hfrw6 hb => ?_); obtain ⟨zw6_a, yw6_a, yyw6_a⟩ := sz3 (B := w.heap.size) hb; obtain ⟨zw6_b, yw6_b, yyw6_b⟩ := sz3 (B := w.heap.size + 1) hb; obtain ⟨zw6_r, yw6_r, yyw6_r⟩ := sz3 (B := w.heap.size + 1 + 1) hb; obtain ⟨zw6_p, yw6_p, yyw6_p⟩ := sz3 (B := bX1p) hb; (try have sw6_0 := sz (B := X1.heap.size) hb); (try have stw6_0 := sz (B := X1.heap.size + 1) hb); obtain ⟨sxw6_0, syw6_0⟩ := szx (b := X1.heap.size) hb; (try have sw6_w4 := sz (B := w4.heap.size) hb); (try have stw6_w4 := sz (B := w4.heap.size + 1) hb); obtain ⟨sxw6_w4, syw6_w4⟩ := szx (b := w4.heap.size) hb; (try have sw6_w5 := sz (B := w5.heap.size) hb); (try have stw6_w5 := sz (B := w5.heap.size + 1) hb); obtain ⟨sxw6_w5, syw6_w5⟩ := szx (b := w5.heap.size) hb; have HBw6 := hbw (a := w) hb; clear hb; clear K6)
      | (go_at_call 45; (with_reducible refine cm (K7.out _) fun w7 hclw7 hfrw7 hb => ?_); obtain ⟨zw7_a, yw7_a, yyw7_a⟩ := sz3 (B := w.heap.size) hb; obtain ⟨zw7_b, yw7_b, yyw7_b⟩ := sz3 (B := w.heap.size + 1) hb; obtain ⟨zw7_r, yw7_r, yyw7_r⟩ := sz3 (B := w.heap.size + 1 + 1) hb; obtain ⟨zw7_p, yw7_p, yyw7_p⟩ := sz3 (B := bX1p) hb; (try have sw7_0 := sz (B := X1.heap.size) hb); (try have stw7_0 := sz (B := X1.heap.size + 1) hb); obtain ⟨sxw7_0, syw7_0⟩ := szx (b := X1.heap.size) hb; (try have sw7_w4 := sz (B := w4.heap.size) hb); (try have stw7_w4 := sz (B := w4.heap.size + 1) hb); obtain ⟨sxw7_w4, syw7_w4⟩ := szx (b := w4.heap.size) hb; (try have sw7_w5 := sz (B := w5.heap.size) hb); (try have stw7_w5 := sz (B := w5.heap.size + 1) hb); obtain ⟨sxw7_w5, syw7_w5⟩ := szx (b := w5.heap.size) hb; (try have sw7_w6 := sz (B := w6.heap.size) hb); (try have stw7_w6 := sz (B := w6.heap.size + 1) hb); obtain ⟨sxw7_w6, syw7_w6⟩ := szx (b := w6.heap.size) hb; have HBw7 := hbw (a := w) hb; clear hb; clear K7))
  rename_i hHeld
  clear hHeld
  go_wp2_with fail
  refine bodyPost_ret (by simp [results, Try.results37, go_sem, *]; try rfl) rfl ?_
  exact ⟨rfl, bb⟩
set_option maxRecDepth 20000 in
set_option maxHeartbeats 4000000 in
theorem fsqrt_below (h l s : Int) (hs : s ≠ 0) (w : World)
    (C1 : Ct 46 #[.agg #[.int .i64 h, .int .u64 l]] (.int .u64 s)) :
    Calls Try.prog 39 #[.agg #[.int .i64 h, .int .u64 l]] w fun e w' => e = .returned (.tuple #[.agg #[.int .i64 0, .int .u64 0], .int .i64 1]) ∧ Below w.heap.size w w' := by
  have K1 := Lib.hid C1
  clear C1
  have t1' : (s != 0) = true := by rw [bne_iff_ne]; exact hs
  go_enter Try.func39, Try.ntmps39
  go_wp2_with fail
  (with_reducible refine cm (K1.out _) fun w1 hclw1 hfrw1 hb => ?_); obtain ⟨zw1_a, yw1_a, yyw1_a⟩ := sz3 (B := w.heap.size) hb; obtain ⟨zw1_r, yw1_r, yyw1_r⟩ := sz3 (B := w.heap.size + 1) hb; (try have sw1_0 := sz (B := w.heap.size + 1 + 1) hb); (try have stw1_0 := sz (B := w.heap.size + 1 + 1 + 1) hb); obtain ⟨sxw1_0, syw1_0⟩ := szx (b := w.heap.size + 1 + 1) hb; have HBw1 := hbw (a := w) hb; clear hb
  go_wp2_with fail
  refine bodyPost_ret (by simp [results, Try.results39, go_sem, *]; try rfl) rfl ?_
  exact ⟨rfl, bb⟩
set_option maxRecDepth 20000 in
set_option maxHeartbeats 4000000 in
theorem fsqrt_ok (h l b1 b0 q3 q2 q1 q0 n1 n0 r1 r0 : Int)  (w : World)
    (C1 : Ct 46 #[.agg #[.int .i64 h, .int .u64 l]] (.int .u64 0))
    (C2 : Ct 61 #[.agg #[.int .i64 h, .int .u64 l]] (.agg #[.int .u64 b1, .int .u64 b0]))
    (C3 : Ct 43 #[.agg #[.int .u64 0, .int .u64 0, .int .u64 b1, .int .u64 b0], .int .i64 64] (.agg #[.int .u64 q3, .int .u64 q2, .int .u64 q1, .int .u64 q0]))
    (C4 : Ct 64 #[.agg #[.int .u64 q3, .int .u64 q2, .int .u64 q1, .int .u64 q0]] (.agg #[.int .u64 n1, .int .u64 n0]))
    (C5 : Ct 62 #[.agg #[.int .u64 n1, .int .u64 n0]] (.agg #[.int .i64 r1, .int .u64 r0])) :
    Calls Try.prog 39 #[.agg #[.int .i64 h, .int .u64 l]] w fun e w' => e = .returned (.tuple #[.agg #[.int .i64 r1, .int .u64 r0], .int .i64 0]) ∧ Below w.heap.size w w' := by
  have K1 := Lib.hid C1; have K2 := Lib.hid C2; have K3 := Lib.hid C3; have K4 := Lib.hid C4; have K5 := Lib.hid C5
  clear C1 C2 C3 C4 C5
  go_enter Try.func39, Try.ntmps39
  go_wp2_with fail
  (with_reducible refine cm (K1.out _) fun w1 hclw1 hfrw1 hb => ?_); obtain ⟨zw1_a, yw1_a, yyw1_a⟩ := sz3 (B := w.heap.size) hb; obtain ⟨zw1_r, yw1_r, yyw1_r⟩ := sz3 (B := w.heap.size + 1) hb; (try have sw1_0 := sz (B := w.heap.size + 1 + 1) hb); (try have stw1_0 := sz (B := w.heap.size + 1 + 1 + 1) hb); obtain ⟨sxw1_0, syw1_0⟩ := szx (b := w.heap.size + 1 + 1) hb; have HBw1 := hbw (a := w) hb; clear hb
  go_wp2_with fail
  (with_reducible refine cm (K2.out _) fun w2 hclw2 hfrw2 hb => ?_); obtain ⟨zw2_a, yw2_a, yyw2_a⟩ := sz3 (B := w.heap.size) hb; obtain ⟨zw2_r, yw2_r, yyw2_r⟩ := sz3 (B := w.heap.size + 1) hb; (try have sw2_0 := sz (B := w1.heap.size) hb); (try have stw2_0 := sz (B := w1.heap.size + 1) hb); obtain ⟨sxw2_0, syw2_0⟩ := szx (b := w1.heap.size) hb; have HBw2 := hbw (a := w) hb; clear hb
  go_wp2_with fail
  (with_reducible refine cm (K3.out _) fun w3 hclw3 hfrw3 hb => ?_); obtain ⟨zw3_a, yw3_a, yyw3_a⟩ := sz3 (B := w.heap.size) hb; obtain ⟨zw3_r, yw3_r, yyw3_r⟩ := sz3 (B := w.heap.size + 1) hb; (try have sw3_0 := sz (B := w2.heap.size) hb); (try have stw3_0 := sz (B := w2.heap.size + 1) hb); obtain ⟨sxw3_0, syw3_0⟩ := szx (b := w2.heap.size) hb; have HBw3 := hbw (a := w) hb; clear hb
  go_wp2_with fail
  (with_reducible refine cm (K4.out _) fun w4 hclw4 hfrw4 hb => ?_); obtain ⟨zw4_a, yw4_a, yyw4_a⟩ := sz3 (B := w.heap.size) hb; obtain ⟨zw4_r, yw4_r, yyw4_r⟩ := sz3 (B := w.heap.size + 1) hb; (try have sw4_0 := sz (B := w3.heap.size) hb); (try have stw4_0 := sz (B := w3.heap.size + 1) hb); obtain ⟨sxw4_0, syw4_0⟩ := szx (b := w3.heap.size) hb; have HBw4 := hbw (a := w) hb; clear hb
  go_wp2_with fail
  (with_reducible refine cm (K5.out _) fun w5 hclw5 hfrw5 hb => ?_); obtain ⟨zw5_a, yw5_a, yyw5_a⟩ := sz3 (B := w.heap.size) hb; obtain ⟨zw5_r, yw5_r, yyw5_r⟩ := sz3 (B := w.heap.size + 1) hb; (try have sw5_0 := sz (B := w4.heap.size) hb); (try have stw5_0 := sz (B := w4.heap.size + 1) hb); obtain ⟨sxw5_0, syw5_0⟩ := szx (b := w4.heap.size) hb; have HBw5 := hbw (a := w) hb; clear hb
  go_wp2_with fail
  refine bodyPost_ret (by simp [results, Try.results39, go_sem, *]; try rfl) rfl ?_
  exact ⟨rfl, bb⟩
end Go.Proofs.Ytmmlekgojblopaa
namespace Go.Proofs.Ytmmlekgojblopaa
open Go.RowKit

theorem sw_and (a b : Bool) : bits .and .u64 (sw a) (sw b) = sw (a && b) := by
  cases a <;> cases b <;> decide
theorem sw_ne {s : Bool} (h : s = true) : sw s ≠ 0 := by subst h; decide
theorem sw_eq {s : Bool} (h : ¬ s = true) : sw s = 0 := by cases s; rfl; exact absurd rfl h
/-- The sum's bits, read as a number. -/
def bmod (n : Int) : Int := (n + 170141183460469231731687303715884105728) % 340282366920938463463374607431768211456 - 170141183460469231731687303715884105728
theorem bmod_Fx (n : Int) : Fx (bmod n) := by unfold bmod; constructor <;> omega
theorem fadd_any (x y : Int) (hx : My x) (hy : My y) (w : World) :
    Calls Try.prog 38 #[.agg #[.int .i64 (fh x), .int .u64 (fl x)], .agg #[.int .i64 (fh y), .int .u64 (fl y)]] w fun e w' => e = .returned (.tuple #[.agg #[.int .i64 (fh (ov (x + y))), .int .u64 (fl (ov (x + y)))], .int .i64 (oe (x + y))]) ∧ Below w.heap.size w w' := by
  have C3 := add_any _ _ _ _ (wd_wd (ub x) 1) (wd_wd (ub x) 0) (wd_wd (ub y) 1) (wd_wd (ub y) 0)
  rw [ub_v2, ub_v2] at C3
  have C4 := ofBits_any (bmod (x + y)) (ub x + ub y) (bmod_Fx _) (by unfold bmod ub; omega)
  have C7 := sign_any (bmod (x + y)) (bmod_Fx _)
  have C8 := may_any (bmod (x + y))
  have hz : (bmod (x + y) = x + y ∧ My (x + y)) ∨ (¬ My (x + y) ∧ (bmod (x + y) = -170141183460469231731687303715884105728 ∨ (x < 0 ∧ y < 0 ∧ 0 ≤ bmod (x + y)) ∨ (0 ≤ x ∧ 0 ≤ y ∧ bmod (x + y) < 0))) := by
    obtain ⟨_, _⟩ := hx; obtain ⟨_, _⟩ := hy
    unfold bmod My; omega
  have hnot : My (x + y) → ¬ (x < 0 ∧ y < 0 ∧ 0 ≤ x + y) ∧ ¬ (0 ≤ x ∧ 0 ≤ y ∧ x + y < 0) := fun _ => by omega
  generalize bmod (x + y) = z at *
  by_cases c : ((decide (x < 0) != decide (z < 0)) && (decide (y < 0) != decide (z < 0))) = true
  · have hb : ¬ My (x + y) := by
      intro hm
      rcases hz with ⟨h1, _⟩ | ⟨h1, _⟩
      · have := hnot hm
        subst h1
        simp at c
        omega
      · exact h1 hm
    rw [ov_out hb, oe_out hb, fh_zero, fl_zero]
    exact fadd_over _ _ _ _ _ _ _ _ _ _ _ _ _ _ _ _ _ _ _ (sw_xor _ _) (sw_xor _ _) (sw_and _ _) (sw_ne c) w (bits_any x) (bits_any y) C3 C4 (sign_any x hx.fx) (sign_any y hy.fx) C7
  · by_cases d : z = -170141183460469231731687303715884105728
    · have hb : ¬ My (x + y) := by
        intro hm
        rcases hz with ⟨h1, h2⟩ | ⟨h1, _⟩
        · obtain ⟨_, _⟩ := h2; omega
        · exact h1 hm
      rw [ov_out hb, oe_out hb, fh_zero, fl_zero]
      rw [decide_eq_false (by simpa using d)] at C8
      exact fadd_least _ _ _ _ _ _ _ _ _ _ _ _ _ _ _ _ _ _ _ (sw_xor _ _) (sw_xor _ _) (sw_and _ _) (sw_eq c) w (bits_any x) (bits_any y) C3 C4 (sign_any x hx.fx) (sign_any y hy.fx) C7 C8
    · have hm : z = x + y ∧ My (x + y) := by
        rcases hz with h | ⟨h1, h2⟩
        · exact h
        · simp at c
          omega
      rw [ov_in hm.2, oe_in hm.2, ← hm.1]
      rw [decide_eq_true d] at C8
      exact fadd_ok _ _ _ _ _ _ _ _ _ _ _ _ _ _ _ _ _ _ _ (sw_xor _ _) (sw_xor _ _) (sw_and _ _) (sw_eq c) w (bits_any x) (bits_any y) C3 C4 (sign_any x hx.fx) (sign_any y hy.fx) C7 C8
theorem icmp_fix (x y : Int) : orI (icmp (fh x) (fh y)) (icmp (fl x) (fl y)) = icmp x y := by
  unfold orI icmp fh fl
  repeat' split
  all_goals omega
end Go.Proofs.Ytmmlekgojblopaa
namespace Go.Proofs.Ytmmlekgojblopaa
open Go.RowKit

theorem abs_v2 {x : Int} (h : Fx x) : v2 (wd x.natAbs 1) (wd x.natAbs 0) = x.natAbs := by
  obtain ⟨_, _⟩ := h
  rw [v2_wd]; omega
theorem v4_of {n : Nat} (h : n < 115792089237316195423570985008687907853269984665640564039457584007913129639936) : v4 (wd n 3) (wd n 2) (wd n 1) (wd n 0) = n := v4_small h
theorem v4_lower {h l : Int} : v4 0 0 h l = v2 h l := by unfold v4; rw [v2_zero, Nat.zero_mul, Nat.zero_add]
theorem up_bit (n : Nat) : wd n 0 / 9223372036854775808 = ((n / 9223372036854775808 % 2 : Nat) : Int) := by
  rw [wd0]; omega
theorem up_round (n : Nat) : n / 18446744073709551616 + n / 9223372036854775808 % 2 = (n + 9223372036854775808) / 18446744073709551616 := by omega
theorem pow_64 : (2 : Nat) ^ (64 : Int).toNat = 18446744073709551616 := by decide
theorem pow_1 : (2 : Nat) ^ (1 : Int).toNat = 2 := by decide
theorem abs_lt {x : Int} (h : My x) : x.natAbs < 170141183460469231731687303715884105728 := by obtain ⟨_, _⟩ := h; omega
theorem fmul_any (x y : Int) (hx : My x) (hy : My y) (w : World) :
    Calls Try.prog 37 #[.agg #[.int .i64 (fh x), .int .u64 (fl x)], .agg #[.int .i64 (fh y), .int .u64 (fl y)]] w fun e w' => e = .returned (.tuple #[.agg #[.int .i64 (fh (ov (mulr x y))), .int .u64 (fl (ov (mulr x y)))], .int .i64 (oe (mulr x y))]) ∧ Below w.heap.size w w' := by
  have C3 := mul_any _ _ _ _ (wd_wd x.natAbs 1) (wd_wd x.natAbs 0) (wd_wd y.natAbs 1) (wd_wd y.natAbs 0)
  rw [abs_v2 hx.fx, abs_v2 hy.fx] at C3
  have hp : x.natAbs * y.natAbs < 115792089237316195423570985008687907853269984665640564039457584007913129639936 :=
    Nat.lt_of_le_of_lt (Nat.mul_le_mul (Nat.le_of_lt (abs_lt hx)) (Nat.le_of_lt (abs_lt hy))) (by decide)
  have C4 := shr_any _ _ _ _ 64 (wd_wd (x.natAbs * y.natAbs) 3) (wd_wd (x.natAbs * y.natAbs) 2) (wd_wd (x.natAbs * y.natAbs) 1) (wd_wd (x.natAbs * y.natAbs) 0) (by decide)
  rw [v4_of hp, pow_64] at C4
  have hs : mulr x y = sg (decide (x < 0) != decide (y < 0)) ((x.natAbs * y.natAbs / 18446744073709551616 + x.natAbs * y.natAbs / 9223372036854775808 % 2 : Nat) : Int) := by
    unfold mulr; rw [up_round]
  rw [hs]
  generalize x.natAbs * y.natAbs = n at *
  have C7 := nearest_any _ _ _ _ (n / 9223372036854775808 % 2) (decide (x < 0) != decide (y < 0)) (wd_wd (n / 18446744073709551616) 3) (wd_wd (n / 18446744073709551616) 2) (wd_wd (n / 18446744073709551616) 1) (wd_wd (n / 18446744073709551616) 0) (by omega)
  rw [v4_of (show n / 18446744073709551616 < _ from Nat.lt_of_le_of_lt (Nat.div_le_self _ _) hp)] at C7
  exact fmul_core _ _ _ _ _ _ _ _ _ _ _ _ _ _ _ _ _ _ _ _ _ _ _ (up_bit n) (sw_xor _ _) w (size_any x hx.fx) (size_any y hy.fx) C3 C4 (sign_any x hx.fx) (sign_any y hy.fx) C7
/-- The greatest number whose square is at most x. -/
def sqr (x : Int) : Int := ((isq (x.toNat * 18446744073709551616) : Nat) : Int)
theorem sqr_My {x : Int} (h : My x) : My (sqr x) := by
  obtain ⟨_, _⟩ := h
  have := isq_lt (n := x.toNat * 18446744073709551616) (k := 170141183460469231731687303715884105728) (by omega)
  unfold sqr; constructor <;> omega
theorem fsqrt_any (x : Int) (hx : My x) (h0 : 0 ≤ x) (w : World) :
    Calls Try.prog 39 #[.agg #[.int .i64 (fh x), .int .u64 (fl x)]] w fun e w' => e = .returned (.tuple #[.agg #[.int .i64 (fh (sqr x)), .int .u64 (fl (sqr x))], .int .i64 0]) ∧ Below w.heap.size w w' := by
  have C1 := sign_any x hx.fx
  rw [decide_eq_false (show ¬ x < 0 by omega), sw_false] at C1
  have z : Wd 0 := ⟨by omega, by omega⟩
  have C3 := shl_any 0 0 _ _ 64 z z (wd_wd (ub x) 1) (wd_wd (ub x) 0) (by decide)
  have hu : ub x = x.toNat := by obtain ⟨_, _⟩ := hx; unfold ub; omega
  rw [v4_lower, ub_v2, pow_64, hu] at C3
  have hb : x.toNat * 18446744073709551616 < 115792089237316195423570985008687907853269984665640564039457584007913129639936 := by obtain ⟨_, _⟩ := hx; omega
  have C4 := sqrt_any _ _ _ _ (wd_wd (x.toNat * 18446744073709551616) 3) (wd_wd (x.toNat * 18446744073709551616) 2) (wd_wd (x.toNat * 18446744073709551616) 1) (wd_wd (x.toNat * 18446744073709551616) 0)
  rw [v4_of hb] at C4
  exact fsqrt_ok _ _ _ _ _ _ _ _ _ _ _ _ w C1 (bits_any x) (by rw [hu]; exact C3) C4 (ofBits_any (sqr x) _ (sqr_My hx).fx (by unfold sqr; rfl))
theorem fsqrt_none (x : Int) (hx : My x) (h0 : x < 0) (w : World) :
    Calls Try.prog 39 #[.agg #[.int .i64 (fh x), .int .u64 (fl x)]] w fun e w' => e = .returned (.tuple #[.agg #[.int .i64 (fh 0), .int .u64 (fl 0)], .int .i64 1]) ∧ Below w.heap.size w w' := by
  have C1 := sign_any x hx.fx
  rw [decide_eq_true h0, sw_true] at C1
  exact fsqrt_below _ _ _ (by decide) w C1
theorem u64_and1 (x : Int) (h : Wd x) : bits .and .u64 x 1 = x % 2 := bits_mask .u64 64 (by decide) (fun n h0 h1 => IntWalk.u64_in n (by omega)) 1 (by decide) x h.1 h.2
theorem half_My {x : Int} (h : My x) : My (halfr x) := by
  have := abs_lt h
  unfold halfr; exact sg_small (by omega)
theorem rnd_wrap (s : Bool) (n : Nat) (h : n < 9223372036854775808) : wrap64 (sg s n % 18446744073709551616) = sg s n := by
  unfold wrap64 sg; cases s <;> simp <;> omega
end Go.Proofs.Ytmmlekgojblopaa
