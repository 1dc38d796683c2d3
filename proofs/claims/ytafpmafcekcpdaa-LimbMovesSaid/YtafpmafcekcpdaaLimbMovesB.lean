/- LimbMoves: shifts are by one and one more; forth and back keeps what had room; a number's length is where it ends. For any number of four words and any two of 8 bits, without conditions. -/
import Derived.Test.YtafpmafcekcpdaaRefSum
import Derived.Test.YtafpmafcekcpdaaAwake
import Derived.Test.YtafpmafcekcpdaaMulAny
import Derived.Test.YtafpmafcekcpdaaShr
namespace Go.Proofs.Ytafpmafcekcpdaa
open Go.ChangeShapes Go.WideShapes Go.ChangeAt Go.RowKit Go.Joins

theorem ne_four_falseB (a3 a2 a1 a0 : Int) : ∀ W, (Go.binOp .neq 33 (.agg #[.int .u64 a3, .int .u64 a2, .int .u64 a1, .int .u64 a0]) (.agg #[.int .u64 a3, .int .u64 a2, .int .u64 a1, .int .u64 a0])).run Try.prog W = .ok (.bool false) W := fun W => by
  simp [go_sem]
theorem eq_four_trueB (a3 a2 a1 a0 : Int) : ∀ W, (Go.binOp .eql 33 (.agg #[.int .u64 a3, .int .u64 a2, .int .u64 a1, .int .u64 a0]) (.agg #[.int .u64 a3, .int .u64 a2, .int .u64 a1, .int .u64 a0])).run Try.prog W = .ok (.bool true) W := fun W => by
  simp [go_sem]
set_option maxRecDepth 20000 in
set_option maxHeartbeats 60000000 in
theorem limbMoves_room_all (a3 a2 a1 a0 b3 b2 b1 b0 c3 c2 c1 c0 d3 d2 d1 d0 y3 y2 y1 y0 g3 g2 g1 g0 i j k s t v l z ni : Int) (wi2 : IntKind.i64.wrap i = i) (wj2 : IntKind.i64.wrap j = j) (e1 : IntKind.i64.wrap (i + j) = s) (e2 : IntKind.i64.wrap (k + i) = t) (e3 : decide (t ≤ 256) = true) (e4 : decide (k ≥ 0) = true) (e5 : decide (k ≤ 256) = true) (e6 : (k == 256) = true) (e7 : (k == 0) = false) (e10 : IntKind.i64.wrap (-i) = ni) (e11 : IntKind.i64.wrap (ni - 1) = z) (e12 : IntKind.i64.wrap (k - 1) = l) (e9 : decide (v ≥ 0) = true) (w : World)
    (C1 : ∀ W, Calls Try.prog 27 #[.agg #[.int .u64 a3, .int .u64 a2, .int .u64 a1, .int .u64 a0]] W fun e w' => e = .returned (.int .i64 k) ∧ Below W.heap.size W w')
    (C2 : ∀ W, Calls Try.prog 21 #[.agg #[.int .u64 a3, .int .u64 a2, .int .u64 a1, .int .u64 a0], .int .i64 i] W fun e w' => e = .returned (.agg #[.int .u64 b3, .int .u64 b2, .int .u64 b1, .int .u64 b0]) ∧ Below W.heap.size W w')
    (C3 : ∀ W, Calls Try.prog 21 #[.agg #[.int .u64 b3, .int .u64 b2, .int .u64 b1, .int .u64 b0], .int .i64 j] W fun e w' => e = .returned (.agg #[.int .u64 c3, .int .u64 c2, .int .u64 c1, .int .u64 c0]) ∧ Below W.heap.size W w')
    (C4 : ∀ W, Calls Try.prog 21 #[.agg #[.int .u64 a3, .int .u64 a2, .int .u64 a1, .int .u64 a0], .int .i64 s] W fun e w' => e = .returned (.agg #[.int .u64 c3, .int .u64 c2, .int .u64 c1, .int .u64 c0]) ∧ Below W.heap.size W w')
    (C5 : ∀ W, Calls Try.prog 23 #[.agg #[.int .u64 a3, .int .u64 a2, .int .u64 a1, .int .u64 a0], .int .i64 i] W fun e w' => e = .returned (.agg #[.int .u64 d3, .int .u64 d2, .int .u64 d1, .int .u64 d0]) ∧ Below W.heap.size W w')
    (C6 : ∀ W, Calls Try.prog 23 #[.agg #[.int .u64 d3, .int .u64 d2, .int .u64 d1, .int .u64 d0], .int .i64 j] W fun e w' => e = .returned (.agg #[.int .u64 y3, .int .u64 y2, .int .u64 y1, .int .u64 y0]) ∧ Below W.heap.size W w')
    (C7 : ∀ W, Calls Try.prog 23 #[.agg #[.int .u64 a3, .int .u64 a2, .int .u64 a1, .int .u64 a0], .int .i64 s] W fun e w' => e = .returned (.agg #[.int .u64 y3, .int .u64 y2, .int .u64 y1, .int .u64 y0]) ∧ Below W.heap.size W w')
    (C8 : ∀ W, Calls Try.prog 23 #[.agg #[.int .u64 b3, .int .u64 b2, .int .u64 b1, .int .u64 b0], .int .i64 i] W fun e w' => e = .returned (.agg #[.int .u64 a3, .int .u64 a2, .int .u64 a1, .int .u64 a0]) ∧ Below W.heap.size W w')
    (C9 : ∀ W, Calls Try.prog 21 #[.agg #[.int .u64 0, .int .u64 0, .int .u64 0, .int .u64 1], .int .i64 l] W fun e w' => e = .returned (.agg #[.int .u64 g3, .int .u64 g2, .int .u64 g1, .int .u64 g0]) ∧ Below W.heap.size W w')
    (C10 : ∀ W, Calls Try.prog 25 #[.agg #[.int .u64 a3, .int .u64 a2, .int .u64 a1, .int .u64 a0], .agg #[.int .u64 g3, .int .u64 g2, .int .u64 g1, .int .u64 g0]] W fun e w' => e = .returned (.int .i64 v) ∧ Below W.heap.size W w')
    (C11 : ∀ W, Calls Try.prog 21 #[.agg #[.int .u64 a3, .int .u64 a2, .int .u64 a1, .int .u64 a0], .int .i64 z] W fun e w' => e = .returned (.agg #[.int .u64 a3, .int .u64 a2, .int .u64 a1, .int .u64 a0]) ∧ Below W.heap.size W w')
    (C12 : ∀ W, Calls Try.prog 23 #[.agg #[.int .u64 a3, .int .u64 a2, .int .u64 a1, .int .u64 a0], .int .i64 z] W fun e w' => e = .returned (.agg #[.int .u64 a3, .int .u64 a2, .int .u64 a1, .int .u64 a0]) ∧ Below W.heap.size W w')
    (C13 : ∀ W, Calls Try.prog 16 #[] W fun e w' => e = .returned (.bool true) ∧ Below W.heap.size W w') :
    Calls Try.prog 9 #[.agg #[.int .u64 a3, .int .u64 a2, .int .u64 a1, .int .u64 a0], .int .u8 i, .int .u8 j] w fun e w' => e = .returned (.bool true) ∧ Below w.heap.size w w' := by
  have K1 := Lib.hid C1; have K2 := Lib.hid C2; have K3 := Lib.hid C3; have K4 := Lib.hid C4; have K5 := Lib.hid C5; have K6 := Lib.hid C6; have K7 := Lib.hid C7; have K8 := Lib.hid C8; have K9 := Lib.hid C9; have K10 := Lib.hid C10; have K11 := Lib.hid C11; have K12 := Lib.hid C12; have K13 := Lib.hid C13
  clear C1 C2 C3 C4 C5 C6 C7 C8 C9 C10 C11 C12 C13
  have eqf1 := ne_four_falseB c3 c2 c1 c0; have eqf2 := ne_four_falseB y3 y2 y1 y0; have eqf3 := ne_four_falseB a3 a2 a1 a0; have eqf4 := eq_four_trueB a3 a2 a1 a0
  go_enter Try.func9, Try.ntmps9
  go_wp2_with fail
  (with_reducible refine (K1.out _).mono ?_); rintro e w1 ⟨rfl, hb⟩; obtain ⟨hclw1, hfrw1⟩ := bcell hb; have zw1_a : w.heap.size < w1.heap.size := (by first | omega | (have hz := hb.size; (try simp at hz); omega)); have yw1_a : w.heap.size < w1.heap.size + 1 := (by omega); have yyw1_a : w.heap.size < w1.heap.size + 1 + 1 := (by omega); have sxw1_0 : w.heap.size + 1 ≤ w1.heap.size := (by first | omega | (have hz := hb.size; (try simp at hz); omega)); have HBw1 : Hid (Below w.heap.size w w1) := (bl_trans (by repeat (first | with_reducible exact Below.refl _ _ | with_reducible exact Hid.out (by assumption) | with_reducible refine Below.setCell ?_ (by first | (simp; done) | omega | (simp <;> omega)) _ | with_reducible refine bl_al ?_ _ | with_reducible apply Below.drew)) hb); clear hb
  go_upto_region 4 with fail
  refine name_world (P := fun W => Code.wp _ _ _ _ W) _ (fun R1 hR1 => ?_)
  have zR1_a : w.heap.size < R1.heap.size := by rw [hR1]; first | omega | (simp <;> omega)
  have yR1_a : w.heap.size < R1.heap.size + 1 := by omega
  have yyR1_a : w.heap.size < R1.heap.size + 1 + 1 := by omega
  have cR1_a_0 : R1.cell? ⟨w.heap.size, 0, none⟩ = some (.int .u64 a3) := by rw [hR1]; first | assumption | (simp [go_sem, *]; done)
  have cR1_a_1 : R1.cell? ⟨w.heap.size, 1, none⟩ = some (.int .u64 a2) := by rw [hR1]; first | assumption | (simp [go_sem, *]; done)
  have cR1_a_2 : R1.cell? ⟨w.heap.size, 2, none⟩ = some (.int .u64 a1) := by rw [hR1]; first | assumption | (simp [go_sem, *]; done)
  have cR1_a_3 : R1.cell? ⟨w.heap.size, 3, none⟩ = some (.int .u64 a0) := by rw [hR1]; first | assumption | (simp [go_sem, *]; done)
  have zR1_one : w1.heap.size < R1.heap.size := by rw [hR1]; first | omega | (simp <;> omega)
  have yR1_one : w1.heap.size < R1.heap.size + 1 := by omega
  have yyR1_one : w1.heap.size < R1.heap.size + 1 + 1 := by omega
  have cR1_one_0 : R1.cell? ⟨w1.heap.size, 0, none⟩ = some (.int .u64 0) := by rw [hR1]; first | assumption | (simp [go_sem, *]; done)
  have cR1_one_1 : R1.cell? ⟨w1.heap.size, 1, none⟩ = some (.int .u64 0) := by rw [hR1]; first | assumption | (simp [go_sem, *]; done)
  have cR1_one_2 : R1.cell? ⟨w1.heap.size, 2, none⟩ = some (.int .u64 0) := by rw [hR1]; first | assumption | (simp [go_sem, *]; done)
  have cR1_one_3 : R1.cell? ⟨w1.heap.size, 3, none⟩ = some (.int .u64 1) := by rw [hR1]; first | assumption | (simp [go_sem, *]; done)
  have HBR1 : Hid (Below w.heap.size w R1) := by rw [hR1]; show Below _ _ _; exact (by repeat (first | with_reducible exact Below.refl _ _ | with_reducible exact Hid.out (by assumption) | with_reducible refine Below.setCell ?_ (by first | (simp; done) | omega | (simp <;> omega)) _ | with_reducible refine bl_al ?_ _ | with_reducible apply Below.drew))
  clear hR1
  clear zw1_a yw1_a yyw1_a sxw1_0 hclw1 hfrw1 HBw1
  refine wp_region_held_drew (S := fun w' => w'.cell? ⟨w.heap.size, 0, none⟩ = some (.int .u64 a3) ∧ w'.cell? ⟨w.heap.size, 1, none⟩ = some (.int .u64 a2) ∧ w'.cell? ⟨w.heap.size, 2, none⟩ = some (.int .u64 a1) ∧ w'.cell? ⟨w.heap.size, 3, none⟩ = some (.int .u64 a0)) (by kernel_rfl) ?_ (fun hHeld => ?_)
  · (try dsimp only); (first | (simp [*, go_sem]; done) | (simp [*, go_sem, World.cell?_alloc_past]; done))
  refine wpAnyH_take (i := 0) (oi := _) (v := ?_) (by simp only [List.getElem?_toArray, List.getElem?_cons_zero]; rfl) (by kernel_rfl) (by kernel_rfl) (by kernel_rfl) (by exact fun _ _ _ h => h) (Or.inl ⟨by rfl, ?_⟩) (by assumption) ?_
  rotate_left 1
  · (intro w hSw; (try dsimp only at hSw); go_simp; try with_reducible rfl)
  try simp only [Act.put, List.setIfInBounds_toArray, List.set_cons_zero, List.set_cons_succ]
  refine wpAnyH_take (i := 1) (oi := _) (v := ?_) (by simp only [List.getElem?_toArray, List.getElem?_cons_succ, List.getElem?_cons_zero]; rfl) (by kernel_rfl) (by kernel_rfl) (by kernel_rfl) (by exact fun _ _ _ h => h) (Or.inl ⟨by rfl, ?_⟩) (by assumption) ?_
  rotate_left 1
  · (intro w hSw; (try dsimp only at hSw); go_simp; try with_reducible rfl)
  try simp only [Act.put, List.setIfInBounds_toArray, List.set_cons_zero, List.set_cons_succ]
  refine wpAnyH_take (i := 3) (oi := _) (v := ?_) (by simp only [List.getElem?_toArray, List.getElem?_cons_succ, List.getElem?_cons_zero]; rfl) (by kernel_rfl) (by kernel_rfl) (by kernel_rfl) (by exact fun _ _ _ h => h) (Or.inl ⟨by rfl, ?_⟩) (by assumption) ?_
  rotate_left 1
  · (intro w hSw; (try dsimp only at hSw); go_simp; try with_reducible rfl)
  try simp only [Act.put, List.setIfInBounds_toArray, List.set_cons_zero, List.set_cons_succ]
  refine wpAnyH_take (i := 5) (oi := _) (v := ?_) (by simp only [List.getElem?_toArray, List.getElem?_cons_succ, List.getElem?_cons_zero]; rfl) (by kernel_rfl) (by kernel_rfl) (by kernel_rfl) (by exact fun _ _ _ h => h) (Or.inl ⟨by rfl, ?_⟩) (by assumption) ?_
  rotate_left 1
  · (intro w hSw; (try dsimp only at hSw); go_simp; try with_reducible rfl)
  try simp only [Act.put, List.setIfInBounds_toArray, List.set_cons_zero, List.set_cons_succ]
  refine wpAnyH_take (i := 6) (oi := _) (v := ?_) (by simp only [List.getElem?_toArray, List.getElem?_cons_succ, List.getElem?_cons_zero]; rfl) (by kernel_rfl) (by kernel_rfl) (by kernel_rfl) (by exact fun _ _ _ h => h) (Or.inl ⟨by rfl, ?_⟩) (by assumption) ?_
  rotate_left 1
  · (intro w hSw; (try dsimp only at hSw); go_simp; try with_reducible rfl)
  try simp only [Act.put, List.setIfInBounds_toArray, List.set_cons_zero, List.set_cons_succ]
  refine wpAnyH_take (i := 7) (oi := _) (v := ?_) (by simp only [List.getElem?_toArray, List.getElem?_cons_succ, List.getElem?_cons_zero]; rfl) (by kernel_rfl) (by kernel_rfl) (by kernel_rfl) (by exact fun _ _ _ h => h) (Or.inl ⟨by rfl, ?_⟩) (by assumption) ?_
  rotate_left 1
  · (intro w hSw; (try dsimp only at hSw); go_simp; try with_reducible rfl)
  try simp only [Act.put, List.setIfInBounds_toArray, List.set_cons_zero, List.set_cons_succ]
  refine wpAnyH_take (i := 8) (oi := _) (v := ?_) (by simp only [List.getElem?_toArray, List.getElem?_cons_succ, List.getElem?_cons_zero]; rfl) (by kernel_rfl) (by kernel_rfl) (by kernel_rfl) (by exact fun _ _ _ h => h) (Or.inl ⟨by rfl, ?_⟩) (by assumption) ?_
  rotate_left 1
  · (intro w hSw; (try dsimp only at hSw); go_simp; try with_reducible rfl)
  try simp only [Act.put, List.setIfInBounds_toArray, List.set_cons_zero, List.set_cons_succ]
  refine wpAnyH_ready (rs := [2]) (by kernel_rfl) (by simp) ?_
  refine AllReadyH.cons (o := _) (by simp only [List.getElem?_toArray, List.getElem?_cons_succ, List.getElem?_cons_zero]; rfl) (fun K hK => ?_) AllReadyH.nil
  go_simp
  (go_at_call 21; (with_reducible refine ((K2.out) _).mono ?_); rintro e w2 ⟨rfl, hb⟩; (first | (with_reducible (obtain ⟨hclw2, hfrw2⟩ := bcell_drew hb)) | (obtain ⟨hclw2, hfrw2⟩ := bcell hb)); have zw2_a : w.heap.size < w2.heap.size := (by first | omega | (have hz := hb.size; (try simp at hz); omega)); have yw2_a : w.heap.size < w2.heap.size + 1 := (by omega); have yyw2_a : w.heap.size < w2.heap.size + 1 + 1 := (by omega); have zw2_one : w1.heap.size < w2.heap.size := (by first | omega | (have hz := hb.size; (try simp at hz); omega)); have yw2_one : w1.heap.size < w2.heap.size + 1 := (by omega); have yyw2_one : w1.heap.size < w2.heap.size + 1 + 1 := (by omega); have sxw2_0 : R1.heap.size ≤ w2.heap.size := (by first | omega | (have hz := hb.size; (try simp at hz); omega)); have HBw2 : Hid (Below w.heap.size w w2) := (bl_trans (by repeat (first | with_reducible exact Below.refl _ _ | with_reducible exact Hid.out (by assumption) | with_reducible refine Below.setCell ?_ (by first | (simp; done) | omega | (simp <;> omega)) _ | with_reducible refine bl_al ?_ _ | with_reducible apply Below.drew)) hb); clear hb)
  try go_wp2_with fail
  refine hK.out _ _ ?_ (fun hHeldN => ?_)
  · (try dsimp only); (first | (simp [*, go_sem]; done) | (simp [*, go_sem, World.cell?_alloc_past]; done))
  clear hK K hHeld; have hHeld := hHeldN; clear hHeldN
  try simp only [Act.put, List.setIfInBounds_toArray, List.set_cons_zero, List.set_cons_succ]
  refine wpAnyH_ready (rs := [4]) (by kernel_rfl) (by simp) ?_
  refine AllReadyH.cons (o := _) (by simp only [List.getElem?_toArray, List.getElem?_cons_succ, List.getElem?_cons_zero]; rfl) (fun K hK => ?_) AllReadyH.nil
  go_simp
  (go_at_call 21; (with_reducible refine ((K3.out) _).mono ?_); rintro e w3 ⟨rfl, hb⟩; obtain ⟨hclw3, hfrw3⟩ := bcell hb; have zw3_a : w.heap.size < w3.heap.size := (by first | omega | (have hz := hb.size; (try simp at hz); omega)); have yw3_a : w.heap.size < w3.heap.size + 1 := (by omega); have yyw3_a : w.heap.size < w3.heap.size + 1 + 1 := (by omega); have zw3_one : w1.heap.size < w3.heap.size := (by first | omega | (have hz := hb.size; (try simp at hz); omega)); have yw3_one : w1.heap.size < w3.heap.size + 1 := (by omega); have yyw3_one : w1.heap.size < w3.heap.size + 1 + 1 := (by omega); have sxw3_0 : R1.heap.size ≤ w3.heap.size := (by first | omega | (have hz := hb.size; (try simp at hz); omega)); have sxw3_w2 : w2.heap.size ≤ w3.heap.size := (by first | omega | (have hz := hb.size; (try simp at hz); omega)); have HBw3 : Hid (Below w.heap.size w w3) := (bl_trans (by repeat (first | with_reducible exact Below.refl _ _ | with_reducible exact Hid.out (by assumption) | with_reducible refine Below.setCell ?_ (by first | (simp; done) | omega | (simp <;> omega)) _ | with_reducible refine bl_al ?_ _ | with_reducible apply Below.drew)) hb); clear hb)
  try go_wp2_with fail
  refine hK.out _ _ ?_ (fun hHeldN => ?_)
  · (try dsimp only); (first | (simp [*, go_sem]; done) | (simp [*, go_sem, World.cell?_alloc_past]; done))
  clear hK K hHeld; have hHeld := hHeldN; clear hHeldN
  try simp only [Act.put, List.setIfInBounds_toArray, List.set_cons_zero, List.set_cons_succ]
  refine wpAnyH_ready (rs := [9]) (by kernel_rfl) (by simp) ?_
  refine AllReadyH.cons (o := _) (by simp only [List.getElem?_toArray, List.getElem?_cons_succ, List.getElem?_cons_zero]; rfl) (fun K hK => ?_) AllReadyH.nil
  go_simp
  (go_at_call 21; (with_reducible refine ((K4.out) _).mono ?_); rintro e w4 ⟨rfl, hb⟩; obtain ⟨hclw4, hfrw4⟩ := bcell hb; have zw4_a : w.heap.size < w4.heap.size := (by first | omega | (have hz := hb.size; (try simp at hz); omega)); have yw4_a : w.heap.size < w4.heap.size + 1 := (by omega); have yyw4_a : w.heap.size < w4.heap.size + 1 + 1 := (by omega); have zw4_one : w1.heap.size < w4.heap.size := (by first | omega | (have hz := hb.size; (try simp at hz); omega)); have yw4_one : w1.heap.size < w4.heap.size + 1 := (by omega); have yyw4_one : w1.heap.size < w4.heap.size + 1 + 1 := (by omega); have sxw4_0 : R1.heap.size ≤ w4.heap.size := (by first | omega | (have hz := hb.size; (try simp at hz); omega)); have sxw4_w2 : w2.heap.size ≤ w4.heap.size := (by first | omega | (have hz := hb.size; (try simp at hz); omega)); have sxw4_w3 : w3.heap.size ≤ w4.heap.size := (by first | omega | (have hz := hb.size; (try simp at hz); omega)); have HBw4 : Hid (Below w.heap.size w w4) := (bl_trans (by repeat (first | with_reducible exact Below.refl _ _ | with_reducible exact Hid.out (by assumption) | with_reducible refine Below.setCell ?_ (by first | (simp; done) | omega | (simp <;> omega)) _ | with_reducible refine bl_al ?_ _ | with_reducible apply Below.drew)) hb); clear hb)
  try go_wp2_with fail
  refine hK.out _ _ ?_ (fun hHeldN => ?_)
  · (try dsimp only); (first | (simp [*, go_sem]; done) | (simp [*, go_sem, World.cell?_alloc_past]; done))
  clear hK K hHeld; have hHeld := hHeldN; clear hHeldN
  try simp only [Act.put, List.setIfInBounds_toArray, List.set_cons_zero, List.set_cons_succ]
  refine wpAnyH_take (i := 10) (oi := _) (v := ?_) (by simp only [List.getElem?_toArray, List.getElem?_cons_succ, List.getElem?_cons_zero]; rfl) (by kernel_rfl) (by kernel_rfl) (by kernel_rfl) (by exact fun _ _ _ h => h) (Or.inl ⟨by rfl, ?_⟩) (by assumption) ?_
  rotate_left 1
  · (intro w hSw; (try dsimp only at hSw); go_simp; try with_reducible rfl)
  try simp only [Act.put, List.setIfInBounds_toArray, List.set_cons_zero, List.set_cons_succ]
  refine wpAnyH_take (i := 11) (oi := _) (v := ?_) (by simp only [List.getElem?_toArray, List.getElem?_cons_succ, List.getElem?_cons_zero]; rfl) (by kernel_rfl) (by kernel_rfl) (by kernel_rfl) (by exact fun _ _ _ h => h) (Or.inl ⟨by rfl, ?_⟩) (by assumption) ?_
  rotate_left 1
  · (intro w hSw; (try dsimp only at hSw); go_simp; try with_reducible rfl)
  try simp only [Act.put, List.setIfInBounds_toArray, List.set_cons_zero, List.set_cons_succ]
  refine wpAnyH_take (i := 12) (oi := _) (v := ?_) (by simp only [List.getElem?_toArray, List.getElem?_cons_succ, List.getElem?_cons_zero]; rfl) (by kernel_rfl) (by kernel_rfl) (by kernel_rfl) (by exact fun _ _ _ h => h) (Or.inl ⟨by rfl, ?_⟩) (by assumption) ?_
  rotate_left 1
  · (intro w hSw; (try dsimp only at hSw); go_simp; try with_reducible rfl)
  try simp only [Act.put, List.setIfInBounds_toArray, List.set_cons_zero, List.set_cons_succ]
  refine wpAnyH_take (i := 13) (oi := _) (v := ?_) (by simp only [List.getElem?_toArray, List.getElem?_cons_succ, List.getElem?_cons_zero]; rfl) (by kernel_rfl) (by kernel_rfl) (by kernel_rfl) (by exact fun _ _ _ h => h) (Or.inl ⟨by rfl, ?_⟩) (by assumption) ?_
  rotate_left 1
  · (intro w hSw; (try dsimp only at hSw); go_simp; try with_reducible rfl)
  try simp only [Act.put, List.setIfInBounds_toArray, List.set_cons_zero, List.set_cons_succ]
  refine wpAnyH_take (i := 15) (oi := _) (v := ?_) (by simp only [List.getElem?_toArray, List.getElem?_cons_succ, List.getElem?_cons_zero]; rfl) (by kernel_rfl) (by kernel_rfl) (by kernel_rfl) (by exact fun _ _ _ h => h) (Or.inl ⟨by rfl, ?_⟩) (by assumption) ?_
  rotate_left 1
  · (intro w hSw; (try dsimp only at hSw); go_simp; try with_reducible rfl)
  try simp only [Act.put, List.setIfInBounds_toArray, List.set_cons_zero, List.set_cons_succ]
  refine wpAnyH_take (i := 17) (oi := _) (v := ?_) (by simp only [List.getElem?_toArray, List.getElem?_cons_succ, List.getElem?_cons_zero]; rfl) (by kernel_rfl) (by kernel_rfl) (by kernel_rfl) (by exact fun _ _ _ h => h) (Or.inl ⟨by rfl, ?_⟩) (by assumption) ?_
  rotate_left 1
  · (intro w hSw; (try dsimp only at hSw); go_simp; try with_reducible rfl)
  try simp only [Act.put, List.setIfInBounds_toArray, List.set_cons_zero, List.set_cons_succ]
  refine wpAnyH_take (i := 18) (oi := _) (v := ?_) (by simp only [List.getElem?_toArray, List.getElem?_cons_succ, List.getElem?_cons_zero]; rfl) (by kernel_rfl) (by kernel_rfl) (by kernel_rfl) (by exact fun _ _ _ h => h) (Or.inl ⟨by rfl, ?_⟩) (by assumption) ?_
  rotate_left 1
  · (intro w hSw; (try dsimp only at hSw); go_simp; try with_reducible rfl)
  try simp only [Act.put, List.setIfInBounds_toArray, List.set_cons_zero, List.set_cons_succ]
  refine wpAnyH_take (i := 19) (oi := _) (v := ?_) (by simp only [List.getElem?_toArray, List.getElem?_cons_succ, List.getElem?_cons_zero]; rfl) (by kernel_rfl) (by kernel_rfl) (by kernel_rfl) (by exact fun _ _ _ h => h) (Or.inl ⟨by rfl, ?_⟩) (by assumption) ?_
  rotate_left 1
  · (intro w hSw; (try dsimp only at hSw); go_simp; try with_reducible rfl)
  try simp only [Act.put, List.setIfInBounds_toArray, List.set_cons_zero, List.set_cons_succ]
  refine wpAnyH_take (i := 20) (oi := _) (v := ?_) (by simp only [List.getElem?_toArray, List.getElem?_cons_succ, List.getElem?_cons_zero]; rfl) (by kernel_rfl) (by kernel_rfl) (by kernel_rfl) (by exact fun _ _ _ h => h) (Or.inl ⟨by rfl, ?_⟩) (by assumption) ?_
  rotate_left 1
  · (intro w hSw; (try dsimp only at hSw); go_simp; try with_reducible rfl)
  try simp only [Act.put, List.setIfInBounds_toArray, List.set_cons_zero, List.set_cons_succ]
  refine wpAnyH_ready (rs := [14]) (by kernel_rfl) (by simp) ?_
  refine AllReadyH.cons (o := _) (by simp only [List.getElem?_toArray, List.getElem?_cons_succ, List.getElem?_cons_zero]; rfl) (fun K hK => ?_) AllReadyH.nil
  go_simp
  (go_at_call 23; (with_reducible refine ((K5.out) _).mono ?_); rintro e w5 ⟨rfl, hb⟩; obtain ⟨hclw5, hfrw5⟩ := bcell hb; have zw5_a : w.heap.size < w5.heap.size := (by first | omega | (have hz := hb.size; (try simp at hz); omega)); have yw5_a : w.heap.size < w5.heap.size + 1 := (by omega); have yyw5_a : w.heap.size < w5.heap.size + 1 + 1 := (by omega); have zw5_one : w1.heap.size < w5.heap.size := (by first | omega | (have hz := hb.size; (try simp at hz); omega)); have yw5_one : w1.heap.size < w5.heap.size + 1 := (by omega); have yyw5_one : w1.heap.size < w5.heap.size + 1 + 1 := (by omega); have sxw5_0 : R1.heap.size ≤ w5.heap.size := (by first | omega | (have hz := hb.size; (try simp at hz); omega)); have sxw5_w2 : w2.heap.size ≤ w5.heap.size := (by first | omega | (have hz := hb.size; (try simp at hz); omega)); have sxw5_w3 : w3.heap.size ≤ w5.heap.size := (by first | omega | (have hz := hb.size; (try simp at hz); omega)); have sxw5_w4 : w4.heap.size ≤ w5.heap.size := (by first | omega | (have hz := hb.size; (try simp at hz); omega)); have HBw5 : Hid (Below w.heap.size w w5) := (bl_trans (by repeat (first | with_reducible exact Below.refl _ _ | with_reducible exact Hid.out (by assumption) | with_reducible refine Below.setCell ?_ (by first | (simp; done) | omega | (simp <;> omega)) _ | with_reducible refine bl_al ?_ _ | with_reducible apply Below.drew)) hb); clear hb)
  try go_wp2_with fail
  refine hK.out _ _ ?_ (fun hHeldN => ?_)
  · (try dsimp only); (first | (simp [*, go_sem]; done) | (simp [*, go_sem, World.cell?_alloc_past]; done))
  clear hK K hHeld; have hHeld := hHeldN; clear hHeldN
  try simp only [Act.put, List.setIfInBounds_toArray, List.set_cons_zero, List.set_cons_succ]
  refine wpAnyH_ready (rs := [16]) (by kernel_rfl) (by simp) ?_
  refine AllReadyH.cons (o := _) (by simp only [List.getElem?_toArray, List.getElem?_cons_succ, List.getElem?_cons_zero]; rfl) (fun K hK => ?_) AllReadyH.nil
  go_simp
  (go_at_call 23; (with_reducible refine ((K6.out) _).mono ?_); rintro e w6 ⟨rfl, hb⟩; obtain ⟨hclw6, hfrw6⟩ := bcell hb; have zw6_a : w.heap.size < w6.heap.size := (by first | omega | (have hz := hb.size; (try simp at hz); omega)); have yw6_a : w.heap.size < w6.heap.size + 1 := (by omega); have yyw6_a : w.heap.size < w6.heap.size + 1 + 1 := (by omega); have zw6_one : w1.heap.size < w6.heap.size := (by first | omega | (have hz := hb.size; (try simp at hz); omega)); have yw6_one : w1.heap.size < w6.heap.size + 1 := (by omega); have yyw6_one : w1.heap.size < w6.heap.size + 1 + 1 := (by omega); have sxw6_0 : R1.heap.size ≤ w6.heap.size := (by first | omega | (have hz := hb.size; (try simp at hz); omega)); have sxw6_w2 : w2.heap.size ≤ w6.heap.size := (by first | omega | (have hz := hb.size; (try simp at hz); omega)); have sxw6_w3 : w3.heap.size ≤ w6.heap.size := (by first | omega | (have hz := hb.size; (try simp at hz); omega)); have sxw6_w4 : w4.heap.size ≤ w6.heap.size := (by first | omega | (have hz := hb.size; (try simp at hz); omega)); have sxw6_w5 : w5.heap.size ≤ w6.heap.size := (by first | omega | (have hz := hb.size; (try simp at hz); omega)); have HBw6 : Hid (Below w.heap.size w w6) := (bl_trans (by repeat (first | with_reducible exact Below.refl _ _ | with_reducible exact Hid.out (by assumption) | with_reducible refine Below.setCell ?_ (by first | (simp; done) | omega | (simp <;> omega)) _ | with_reducible refine bl_al ?_ _ | with_reducible apply Below.drew)) hb); clear hb)
  try go_wp2_with fail
  refine hK.out _ _ ?_ (fun hHeldN => ?_)
  · (try dsimp only); (first | (simp [*, go_sem]; done) | (simp [*, go_sem, World.cell?_alloc_past]; done))
  clear hK K hHeld; have hHeld := hHeldN; clear hHeldN
  try simp only [Act.put, List.setIfInBounds_toArray, List.set_cons_zero, List.set_cons_succ]
  refine wpAnyH_ready (rs := [21]) (by kernel_rfl) (by simp) ?_
  refine AllReadyH.cons (o := _) (by simp only [List.getElem?_toArray, List.getElem?_cons_succ, List.getElem?_cons_zero]; rfl) (fun K hK => ?_) AllReadyH.nil
  go_simp
  (go_at_call 23; (with_reducible refine ((K7.out) _).mono ?_); rintro e w7 ⟨rfl, hb⟩; obtain ⟨hclw7, hfrw7⟩ := bcell hb; have zw7_a : w.heap.size < w7.heap.size := (by first | omega | (have hz := hb.size; (try simp at hz); omega)); have yw7_a : w.heap.size < w7.heap.size + 1 := (by omega); have yyw7_a : w.heap.size < w7.heap.size + 1 + 1 := (by omega); have zw7_one : w1.heap.size < w7.heap.size := (by first | omega | (have hz := hb.size; (try simp at hz); omega)); have yw7_one : w1.heap.size < w7.heap.size + 1 := (by omega); have yyw7_one : w1.heap.size < w7.heap.size + 1 + 1 := (by omega); have sxw7_0 : R1.heap.size ≤ w7.heap.size := (by first | omega | (have hz := hb.size; (try simp at hz); omega)); have sxw7_w2 : w2.heap.size ≤ w7.heap.size := (by first | omega | (have hz := hb.size; (try simp at hz); omega)); have sxw7_w3 : w3.heap.size ≤ w7.heap.size := (by first | omega | (have hz := hb.size; (try simp at hz); omega)); have sxw7_w4 : w4.heap.size ≤ w7.heap.size := (by first | omega | (have hz := hb.size; (try simp at hz); omega)); have sxw7_w5 : w5.heap.size ≤ w7.heap.size := (by first | omega | (have hz := hb.size; (try simp at hz); omega)); have sxw7_w6 : w6.heap.size ≤ w7.heap.size := (by first | omega | (have hz := hb.size; (try simp at hz); omega)); have HBw7 : Hid (Below w.heap.size w w7) := (bl_trans (by repeat (first | with_reducible exact Below.refl _ _ | with_reducible exact Hid.out (by assumption) | with_reducible refine Below.setCell ?_ (by first | (simp; done) | omega | (simp <;> omega)) _ | with_reducible refine bl_al ?_ _ | with_reducible apply Below.drew)) hb); clear hb)
  try go_wp2_with fail
  refine hK.out _ _ ?_ (fun hHeldN => ?_)
  · (try dsimp only); (first | (simp [*, go_sem]; done) | (simp [*, go_sem, World.cell?_alloc_past]; done))
  clear hK K hHeld; have hHeld := hHeldN; clear hHeldN
  try simp only [Act.put, List.setIfInBounds_toArray, List.set_cons_zero, List.set_cons_succ]
  refine wpAnyH_take (i := 22) (oi := _) (v := ?_) (by simp only [List.getElem?_toArray, List.getElem?_cons_succ, List.getElem?_cons_zero]; rfl) (by kernel_rfl) (by kernel_rfl) (by kernel_rfl) (by exact fun _ _ _ h => h) (Or.inl ⟨by rfl, ?_⟩) (by assumption) ?_
  rotate_left 1
  · (intro w hSw; (try dsimp only at hSw); go_simp; try with_reducible rfl)
  try simp only [Act.put, List.setIfInBounds_toArray, List.set_cons_zero, List.set_cons_succ]
  refine wpAnyH_take (i := 23) (oi := _) (v := ?_) (by simp only [List.getElem?_toArray, List.getElem?_cons_succ, List.getElem?_cons_zero]; rfl) (by kernel_rfl) (by kernel_rfl) (by kernel_rfl) (by exact fun _ _ _ h => h) (Or.inl ⟨by rfl, ?_⟩) (by assumption) ?_
  rotate_left 1
  · (intro w hSw; (try dsimp only at hSw); go_simp; try with_reducible rfl)
  try simp only [Act.put, List.setIfInBounds_toArray, List.set_cons_zero, List.set_cons_succ]
  refine wpAnyH_done (by kernel_rfl) ?_ _
  clear hHeld
  go_upto_region 6 with fail
  refine name_world (P := fun W => Code.wp _ _ _ _ W) _ (fun R2 hR2 => ?_)
  have zR2_a : w.heap.size < R2.heap.size := by rw [hR2]; first | omega | (simp <;> omega)
  have yR2_a : w.heap.size < R2.heap.size + 1 := by omega
  have yyR2_a : w.heap.size < R2.heap.size + 1 + 1 := by omega
  have cR2_a_0 : R2.cell? ⟨w.heap.size, 0, none⟩ = some (.int .u64 a3) := by rw [hR2]; first | assumption | (simp [go_sem, *]; done)
  have cR2_a_1 : R2.cell? ⟨w.heap.size, 1, none⟩ = some (.int .u64 a2) := by rw [hR2]; first | assumption | (simp [go_sem, *]; done)
  have cR2_a_2 : R2.cell? ⟨w.heap.size, 2, none⟩ = some (.int .u64 a1) := by rw [hR2]; first | assumption | (simp [go_sem, *]; done)
  have cR2_a_3 : R2.cell? ⟨w.heap.size, 3, none⟩ = some (.int .u64 a0) := by rw [hR2]; first | assumption | (simp [go_sem, *]; done)
  have zR2_one : w1.heap.size < R2.heap.size := by rw [hR2]; first | omega | (simp <;> omega)
  have yR2_one : w1.heap.size < R2.heap.size + 1 := by omega
  have yyR2_one : w1.heap.size < R2.heap.size + 1 + 1 := by omega
  have cR2_one_0 : R2.cell? ⟨w1.heap.size, 0, none⟩ = some (.int .u64 0) := by rw [hR2]; first | assumption | (simp [go_sem, *]; done)
  have cR2_one_1 : R2.cell? ⟨w1.heap.size, 1, none⟩ = some (.int .u64 0) := by rw [hR2]; first | assumption | (simp [go_sem, *]; done)
  have cR2_one_2 : R2.cell? ⟨w1.heap.size, 2, none⟩ = some (.int .u64 0) := by rw [hR2]; first | assumption | (simp [go_sem, *]; done)
  have cR2_one_3 : R2.cell? ⟨w1.heap.size, 3, none⟩ = some (.int .u64 1) := by rw [hR2]; first | assumption | (simp [go_sem, *]; done)
  have HBR2 : Hid (Below w.heap.size w R2) := by rw [hR2]; show Below _ _ _; exact (by repeat (first | with_reducible exact Below.refl _ _ | with_reducible exact Hid.out (by assumption) | with_reducible refine Below.setCell ?_ (by first | (simp; done) | omega | (simp <;> omega)) _ | with_reducible refine bl_al ?_ _ | with_reducible apply Below.drew))
  clear hR2
  clear zR1_a yR1_a yyR1_a cR1_a_0 cR1_a_1 cR1_a_2 cR1_a_3 zR1_one yR1_one yyR1_one cR1_one_0 cR1_one_1 cR1_one_2 cR1_one_3 HBR1 zw2_a yw2_a yyw2_a zw2_one yw2_one yyw2_one sxw2_0 hclw2 hfrw2 HBw2 zw3_a yw3_a yyw3_a zw3_one yw3_one yyw3_one sxw3_0 sxw3_w2 hclw3 hfrw3 HBw3 zw4_a yw4_a yyw4_a zw4_one yw4_one yyw4_one sxw4_0 sxw4_w2 sxw4_w3 hclw4 hfrw4 HBw4 zw5_a yw5_a yyw5_a zw5_one yw5_one yyw5_one sxw5_0 sxw5_w2 sxw5_w3 sxw5_w4 hclw5 hfrw5 HBw5 zw6_a yw6_a yyw6_a zw6_one yw6_one yyw6_one sxw6_0 sxw6_w2 sxw6_w3 sxw6_w4 sxw6_w5 hclw6 hfrw6 HBw6 zw7_a yw7_a yyw7_a zw7_one yw7_one yyw7_one sxw7_0 sxw7_w2 sxw7_w3 sxw7_w4 sxw7_w5 sxw7_w6 hclw7 hfrw7 HBw7
  refine wp_region_held_drew (S := fun w' => w'.cell? ⟨w.heap.size, 0, none⟩ = some (.int .u64 a3) ∧ w'.cell? ⟨w.heap.size, 1, none⟩ = some (.int .u64 a2) ∧ w'.cell? ⟨w.heap.size, 2, none⟩ = some (.int .u64 a1) ∧ w'.cell? ⟨w.heap.size, 3, none⟩ = some (.int .u64 a0)) (by kernel_rfl) ?_ (fun hHeld => ?_)
  · (try dsimp only); (first | (simp [*, go_sem]; done) | (simp [*, go_sem, World.cell?_alloc_past]; done))
  refine wpAnyH_take (i := 0) (oi := _) (v := ?_) (by simp only [List.getElem?_toArray, List.getElem?_cons_zero]; rfl) (by kernel_rfl) (by kernel_rfl) (by kernel_rfl) (by exact fun _ _ _ h => h) (Or.inl ⟨by rfl, ?_⟩) (by assumption) ?_
  rotate_left 1
  · (intro w hSw; (try dsimp only at hSw); go_simp; try with_reducible rfl)
  try simp only [Act.put, List.setIfInBounds_toArray, List.set_cons_zero, List.set_cons_succ]
  refine wpAnyH_take (i := 1) (oi := _) (v := ?_) (by simp only [List.getElem?_toArray, List.getElem?_cons_succ, List.getElem?_cons_zero]; rfl) (by kernel_rfl) (by kernel_rfl) (by kernel_rfl) (by exact fun _ _ _ h => h) (Or.inl ⟨by rfl, ?_⟩) (by assumption) ?_
  rotate_left 1
  · (intro w hSw; (try dsimp only at hSw); go_simp; try with_reducible rfl)
  try simp only [Act.put, List.setIfInBounds_toArray, List.set_cons_zero, List.set_cons_succ]
  refine wpAnyH_take (i := 2) (oi := _) (v := ?_) (by simp only [List.getElem?_toArray, List.getElem?_cons_succ, List.getElem?_cons_zero]; rfl) (by kernel_rfl) (by kernel_rfl) (by kernel_rfl) (by exact fun _ _ _ h => h) (Or.inl ⟨by rfl, ?_⟩) (by assumption) ?_
  rotate_left 1
  · (intro w hSw; (try dsimp only at hSw); go_simp; try with_reducible rfl)
  try simp only [Act.put, List.setIfInBounds_toArray, List.set_cons_zero, List.set_cons_succ]
  refine wpAnyH_take (i := 3) (oi := _) (v := ?_) (by simp only [List.getElem?_toArray, List.getElem?_cons_succ, List.getElem?_cons_zero]; rfl) (by kernel_rfl) (by kernel_rfl) (by kernel_rfl) (by exact fun _ _ _ h => h) (Or.inl ⟨by rfl, ?_⟩) (by assumption) ?_
  rotate_left 1
  · (intro w hSw; (try dsimp only at hSw); go_simp; try with_reducible rfl)
  try simp only [Act.put, List.setIfInBounds_toArray, List.set_cons_zero, List.set_cons_succ]
  refine wpAnyH_take (i := 4) (oi := _) (v := ?_) (by simp only [List.getElem?_toArray, List.getElem?_cons_succ, List.getElem?_cons_zero]; rfl) (by kernel_rfl) (by kernel_rfl) (by kernel_rfl) (by exact fun _ _ _ h => h) (Or.inl ⟨by rfl, ?_⟩) (by assumption) ?_
  rotate_left 1
  · (intro w hSw; (try dsimp only at hSw); go_simp; try with_reducible rfl)
  try simp only [Act.put, List.setIfInBounds_toArray, List.set_cons_zero, List.set_cons_succ]
  refine wpAnyH_take (i := 5) (oi := _) (v := ?_) (by simp only [List.getElem?_toArray, List.getElem?_cons_succ, List.getElem?_cons_zero]; rfl) (by kernel_rfl) (by kernel_rfl) (by kernel_rfl) (by exact fun _ _ _ h => h) (Or.inl ⟨by rfl, ?_⟩) (by assumption) ?_
  rotate_left 1
  · (intro w hSw; (try dsimp only at hSw); go_simp; try with_reducible rfl)
  try simp only [Act.put, List.setIfInBounds_toArray, List.set_cons_zero, List.set_cons_succ]
  refine wpAnyH_take (i := 6) (oi := _) (v := ?_) (by simp only [List.getElem?_toArray, List.getElem?_cons_succ, List.getElem?_cons_zero]; rfl) (by kernel_rfl) (by kernel_rfl) (by kernel_rfl) (by exact fun _ _ _ h => h) (Or.inl ⟨by rfl, ?_⟩) (by assumption) ?_
  rotate_left 1
  · (intro w hSw; (try dsimp only at hSw); go_simp; try with_reducible rfl)
  try simp only [Act.put, List.setIfInBounds_toArray, List.set_cons_zero, List.set_cons_succ]
  refine wpAnyH_take (i := 8) (oi := _) (v := ?_) (by simp only [List.getElem?_toArray, List.getElem?_cons_succ, List.getElem?_cons_zero]; rfl) (by kernel_rfl) (by kernel_rfl) (by kernel_rfl) (by exact fun _ _ _ h => h) (Or.inl ⟨by rfl, ?_⟩) (by assumption) ?_
  rotate_left 1
  · (intro w hSw; (try dsimp only at hSw); go_simp; try with_reducible rfl)
  try simp only [Act.put, List.setIfInBounds_toArray, List.set_cons_zero, List.set_cons_succ]
  refine wpAnyH_take (i := 10) (oi := _) (v := ?_) (by simp only [List.getElem?_toArray, List.getElem?_cons_succ, List.getElem?_cons_zero]; rfl) (by kernel_rfl) (by kernel_rfl) (by kernel_rfl) (by exact fun _ _ _ h => h) (Or.inl ⟨by rfl, ?_⟩) (by assumption) ?_
  rotate_left 1
  · (intro w hSw; (try dsimp only at hSw); go_simp; try with_reducible rfl)
  try simp only [Act.put, List.setIfInBounds_toArray, List.set_cons_zero, List.set_cons_succ]
  refine wpAnyH_ready (rs := [7]) (by kernel_rfl) (by simp) ?_
  refine AllReadyH.cons (o := _) (by simp only [List.getElem?_toArray, List.getElem?_cons_succ, List.getElem?_cons_zero]; rfl) (fun K hK => ?_) AllReadyH.nil
  go_simp
  (go_at_call 21; (with_reducible refine ((K2.out) _).mono ?_); rintro e w8 ⟨rfl, hb⟩; (first | (with_reducible (obtain ⟨hclw8, hfrw8⟩ := bcell_drew hb)) | (obtain ⟨hclw8, hfrw8⟩ := bcell hb)); have zw8_a : w.heap.size < w8.heap.size := (by first | omega | (have hz := hb.size; (try simp at hz); omega)); have yw8_a : w.heap.size < w8.heap.size + 1 := (by omega); have yyw8_a : w.heap.size < w8.heap.size + 1 + 1 := (by omega); have zw8_one : w1.heap.size < w8.heap.size := (by first | omega | (have hz := hb.size; (try simp at hz); omega)); have yw8_one : w1.heap.size < w8.heap.size + 1 := (by omega); have yyw8_one : w1.heap.size < w8.heap.size + 1 + 1 := (by omega); have sxw8_0 : R2.heap.size ≤ w8.heap.size := (by first | omega | (have hz := hb.size; (try simp at hz); omega)); have HBw8 : Hid (Below w.heap.size w w8) := (bl_trans (by repeat (first | with_reducible exact Below.refl _ _ | with_reducible exact Hid.out (by assumption) | with_reducible refine Below.setCell ?_ (by first | (simp; done) | omega | (simp <;> omega)) _ | with_reducible refine bl_al ?_ _ | with_reducible apply Below.drew)) hb); clear hb)
  try go_wp2_with fail
  refine hK.out _ _ ?_ (fun hHeldN => ?_)
  · (try dsimp only); (first | (simp [*, go_sem]; done) | (simp [*, go_sem, World.cell?_alloc_past]; done))
  clear hK K hHeld; have hHeld := hHeldN; clear hHeldN
  try simp only [Act.put, List.setIfInBounds_toArray, List.set_cons_zero, List.set_cons_succ]
  refine wpAnyH_ready (rs := [9]) (by kernel_rfl) (by simp) ?_
  refine AllReadyH.cons (o := _) (by simp only [List.getElem?_toArray, List.getElem?_cons_succ, List.getElem?_cons_zero]; rfl) (fun K hK => ?_) AllReadyH.nil
  go_simp
  (go_at_call 23; (with_reducible refine ((K8.out) _).mono ?_); rintro e w9 ⟨rfl, hb⟩; obtain ⟨hclw9, hfrw9⟩ := bcell hb; have zw9_a : w.heap.size < w9.heap.size := (by first | omega | (have hz := hb.size; (try simp at hz); omega)); have yw9_a : w.heap.size < w9.heap.size + 1 := (by omega); have yyw9_a : w.heap.size < w9.heap.size + 1 + 1 := (by omega); have zw9_one : w1.heap.size < w9.heap.size := (by first | omega | (have hz := hb.size; (try simp at hz); omega)); have yw9_one : w1.heap.size < w9.heap.size + 1 := (by omega); have yyw9_one : w1.heap.size < w9.heap.size + 1 + 1 := (by omega); have sxw9_0 : R2.heap.size ≤ w9.heap.size := (by first | omega | (have hz := hb.size; (try simp at hz); omega)); have sxw9_w8 : w8.heap.size ≤ w9.heap.size := (by first | omega | (have hz := hb.size; (try simp at hz); omega)); have HBw9 : Hid (Below w.heap.size w w9) := (bl_trans (by repeat (first | with_reducible exact Below.refl _ _ | with_reducible exact Hid.out (by assumption) | with_reducible refine Below.setCell ?_ (by first | (simp; done) | omega | (simp <;> omega)) _ | with_reducible refine bl_al ?_ _ | with_reducible apply Below.drew)) hb); clear hb)
  try go_wp2_with fail
  refine hK.out _ _ ?_ (fun hHeldN => ?_)
  · (try dsimp only); (first | (simp [*, go_sem]; done) | (simp [*, go_sem, World.cell?_alloc_past]; done))
  clear hK K hHeld; have hHeld := hHeldN; clear hHeldN
  try simp only [Act.put, List.setIfInBounds_toArray, List.set_cons_zero, List.set_cons_succ]
  refine wpAnyH_take (i := 11) (oi := _) (v := ?_) (by simp only [List.getElem?_toArray, List.getElem?_cons_succ, List.getElem?_cons_zero]; rfl) (by kernel_rfl) (by kernel_rfl) (by kernel_rfl) (by exact fun _ _ _ h => h) (Or.inl ⟨by rfl, ?_⟩) (by assumption) ?_
  rotate_left 1
  · (intro w hSw; (try dsimp only at hSw); go_simp; try with_reducible rfl)
  try simp only [Act.put, List.setIfInBounds_toArray, List.set_cons_zero, List.set_cons_succ]
  refine wpAnyH_take (i := 12) (oi := _) (v := ?_) (by simp only [List.getElem?_toArray, List.getElem?_cons_succ, List.getElem?_cons_zero]; rfl) (by kernel_rfl) (by kernel_rfl) (by kernel_rfl) (by exact fun _ _ _ h => h) (Or.inl ⟨by rfl, ?_⟩) (by assumption) ?_
  rotate_left 1
  · (intro w hSw; (try dsimp only at hSw); go_simp; try with_reducible rfl)
  try simp only [Act.put, List.setIfInBounds_toArray, List.set_cons_zero, List.set_cons_succ]
  refine wpAnyH_done (by kernel_rfl) ?_ _
  clear hHeld
  go_upto_region 8 with fail
  refine name_world (P := fun W => Code.wp _ _ _ _ W) _ (fun R3 hR3 => ?_)
  have zR3_a : w.heap.size < R3.heap.size := by rw [hR3]; first | omega | (simp <;> omega)
  have yR3_a : w.heap.size < R3.heap.size + 1 := by omega
  have yyR3_a : w.heap.size < R3.heap.size + 1 + 1 := by omega
  have cR3_a_0 : R3.cell? ⟨w.heap.size, 0, none⟩ = some (.int .u64 a3) := by rw [hR3]; first | assumption | (simp [go_sem, *]; done)
  have cR3_a_1 : R3.cell? ⟨w.heap.size, 1, none⟩ = some (.int .u64 a2) := by rw [hR3]; first | assumption | (simp [go_sem, *]; done)
  have cR3_a_2 : R3.cell? ⟨w.heap.size, 2, none⟩ = some (.int .u64 a1) := by rw [hR3]; first | assumption | (simp [go_sem, *]; done)
  have cR3_a_3 : R3.cell? ⟨w.heap.size, 3, none⟩ = some (.int .u64 a0) := by rw [hR3]; first | assumption | (simp [go_sem, *]; done)
  have zR3_one : w1.heap.size < R3.heap.size := by rw [hR3]; first | omega | (simp <;> omega)
  have yR3_one : w1.heap.size < R3.heap.size + 1 := by omega
  have yyR3_one : w1.heap.size < R3.heap.size + 1 + 1 := by omega
  have cR3_one_0 : R3.cell? ⟨w1.heap.size, 0, none⟩ = some (.int .u64 0) := by rw [hR3]; first | assumption | (simp [go_sem, *]; done)
  have cR3_one_1 : R3.cell? ⟨w1.heap.size, 1, none⟩ = some (.int .u64 0) := by rw [hR3]; first | assumption | (simp [go_sem, *]; done)
  have cR3_one_2 : R3.cell? ⟨w1.heap.size, 2, none⟩ = some (.int .u64 0) := by rw [hR3]; first | assumption | (simp [go_sem, *]; done)
  have cR3_one_3 : R3.cell? ⟨w1.heap.size, 3, none⟩ = some (.int .u64 1) := by rw [hR3]; first | assumption | (simp [go_sem, *]; done)
  have HBR3 : Hid (Below w.heap.size w R3) := by rw [hR3]; show Below _ _ _; exact (by repeat (first | with_reducible exact Below.refl _ _ | with_reducible exact Hid.out (by assumption) | with_reducible refine Below.setCell ?_ (by first | (simp; done) | omega | (simp <;> omega)) _ | with_reducible refine bl_al ?_ _ | with_reducible apply Below.drew))
  clear hR3
  clear zR2_a yR2_a yyR2_a cR2_a_0 cR2_a_1 cR2_a_2 cR2_a_3 zR2_one yR2_one yyR2_one cR2_one_0 cR2_one_1 cR2_one_2 cR2_one_3 HBR2 zw8_a yw8_a yyw8_a zw8_one yw8_one yyw8_one sxw8_0 hclw8 hfrw8 HBw8 zw9_a yw9_a yyw9_a zw9_one yw9_one yyw9_one sxw9_0 sxw9_w8 hclw9 hfrw9 HBw9
  refine wp_region_held_drew (S := fun w' => w'.cell? ⟨w.heap.size, 0, none⟩ = some (.int .u64 a3) ∧ w'.cell? ⟨w.heap.size, 1, none⟩ = some (.int .u64 a2) ∧ w'.cell? ⟨w.heap.size, 2, none⟩ = some (.int .u64 a1) ∧ w'.cell? ⟨w.heap.size, 3, none⟩ = some (.int .u64 a0) ∧ w'.cell? ⟨w1.heap.size, 0, none⟩ = some (.int .u64 0) ∧ w'.cell? ⟨w1.heap.size, 1, none⟩ = some (.int .u64 0) ∧ w'.cell? ⟨w1.heap.size, 2, none⟩ = some (.int .u64 0) ∧ w'.cell? ⟨w1.heap.size, 3, none⟩ = some (.int .u64 1)) (by kernel_rfl) ?_ (fun hHeld => ?_)
  · (try dsimp only); (first | (simp [*, go_sem]; done) | (simp [*, go_sem, World.cell?_alloc_past]; done))
  refine wpAnyH_take (i := 0) (oi := _) (v := ?_) (by simp only [List.getElem?_toArray, List.getElem?_cons_zero]; rfl) (by kernel_rfl) (by kernel_rfl) (by kernel_rfl) (by exact fun _ _ _ h => h) (Or.inl ⟨by rfl, ?_⟩) (by assumption) ?_
  rotate_left 1
  · (intro w hSw; (try dsimp only at hSw); go_simp; try with_reducible rfl)
  try simp only [Act.put, List.setIfInBounds_toArray, List.set_cons_zero, List.set_cons_succ]
  refine wpAnyH_take (i := 1) (oi := _) (v := ?_) (by simp only [List.getElem?_toArray, List.getElem?_cons_succ, List.getElem?_cons_zero]; rfl) (by kernel_rfl) (by kernel_rfl) (by kernel_rfl) (by exact fun _ _ _ h => h) (Or.inl ⟨by rfl, ?_⟩) (by assumption) ?_
  rotate_left 1
  · (intro w hSw; (try dsimp only at hSw); go_simp; try with_reducible rfl)
  try simp only [Act.put, List.setIfInBounds_toArray, List.set_cons_zero, List.set_cons_succ]
  refine wpAnyH_take (i := 2) (oi := _) (v := ?_) (by simp only [List.getElem?_toArray, List.getElem?_cons_succ, List.getElem?_cons_zero]; rfl) (by kernel_rfl) (by kernel_rfl) (by kernel_rfl) (by exact fun _ _ _ h => h) (Or.inl ⟨by rfl, ?_⟩) (by assumption) ?_
  rotate_left 1
  · (intro w hSw; (try dsimp only at hSw); go_simp; try with_reducible rfl)
  try simp only [Act.put, List.setIfInBounds_toArray, List.set_cons_zero, List.set_cons_succ]
  refine wpAnyH_take (i := 3) (oi := _) (v := ?_) (by simp only [List.getElem?_toArray, List.getElem?_cons_succ, List.getElem?_cons_zero]; rfl) (by kernel_rfl) (by kernel_rfl) (by kernel_rfl) (by exact fun _ _ _ h => h) (Or.inl ⟨by rfl, ?_⟩) (by assumption) ?_
  rotate_left 1
  · (intro w hSw; (try dsimp only at hSw); go_simp; try with_reducible rfl)
  try simp only [Act.put, List.setIfInBounds_toArray, List.set_cons_zero, List.set_cons_succ]
  refine wpAnyH_take (i := 4) (oi := _) (v := ?_) (by simp only [List.getElem?_toArray, List.getElem?_cons_succ, List.getElem?_cons_zero]; rfl) (by kernel_rfl) (by kernel_rfl) (by kernel_rfl) (by exact fun _ _ _ h => h) (Or.inl ⟨by rfl, ?_⟩) (by assumption) ?_
  rotate_left 1
  · (intro w hSw; (try dsimp only at hSw); go_simp; try with_reducible rfl)
  try simp only [Act.put, List.setIfInBounds_toArray, List.set_cons_zero, List.set_cons_succ]
  refine wpAnyH_take (i := 5) (oi := _) (v := ?_) (by simp only [List.getElem?_toArray, List.getElem?_cons_succ, List.getElem?_cons_zero]; rfl) (by kernel_rfl) (by kernel_rfl) (by kernel_rfl) (by exact fun _ _ _ h => h) (Or.inl ⟨by rfl, ?_⟩) (by assumption) ?_
  rotate_left 1
  · (intro w hSw; (try dsimp only at hSw); go_simp; try with_reducible rfl)
  try simp only [Act.put, List.setIfInBounds_toArray, List.set_cons_zero, List.set_cons_succ]
  refine wpAnyH_take (i := 6) (oi := _) (v := ?_) (by simp only [List.getElem?_toArray, List.getElem?_cons_succ, List.getElem?_cons_zero]; rfl) (by kernel_rfl) (by kernel_rfl) (by kernel_rfl) (by exact fun _ _ _ h => h) (Or.inl ⟨by rfl, ?_⟩) (by assumption) ?_
  rotate_left 1
  · (intro w hSw; (try dsimp only at hSw); go_simp; try with_reducible rfl)
  try simp only [Act.put, List.setIfInBounds_toArray, List.set_cons_zero, List.set_cons_succ]
  refine wpAnyH_take (i := 7) (oi := _) (v := ?_) (by simp only [List.getElem?_toArray, List.getElem?_cons_succ, List.getElem?_cons_zero]; rfl) (by kernel_rfl) (by kernel_rfl) (by kernel_rfl) (by exact fun _ _ _ h => h) (Or.inl ⟨by rfl, ?_⟩) (by assumption) ?_
  rotate_left 1
  · (intro w hSw; (try dsimp only at hSw); go_simp; try with_reducible rfl)
  try simp only [Act.put, List.setIfInBounds_toArray, List.set_cons_zero, List.set_cons_succ]
  refine wpAnyH_take (i := 8) (oi := _) (v := ?_) (by simp only [List.getElem?_toArray, List.getElem?_cons_succ, List.getElem?_cons_zero]; rfl) (by kernel_rfl) (by kernel_rfl) (by kernel_rfl) (by exact fun _ _ _ h => h) (Or.inl ⟨by rfl, ?_⟩) (by assumption) ?_
  rotate_left 1
  · (intro w hSw; (try dsimp only at hSw); go_simp; try with_reducible rfl)
  try simp only [Act.put, List.setIfInBounds_toArray, List.set_cons_zero, List.set_cons_succ]
  refine wpAnyH_take (i := 9) (oi := _) (v := ?_) (by simp only [List.getElem?_toArray, List.getElem?_cons_succ, List.getElem?_cons_zero]; rfl) (by kernel_rfl) (by kernel_rfl) (by kernel_rfl) (by exact fun _ _ _ h => h) (Or.inl ⟨by rfl, ?_⟩) (by assumption) ?_
  rotate_left 1
  · (intro w hSw; (try dsimp only at hSw); go_simp; try with_reducible rfl)
  try simp only [Act.put, List.setIfInBounds_toArray, List.set_cons_zero, List.set_cons_succ]
  refine wpAnyH_take (i := 10) (oi := _) (v := undef) (by simp only [List.getElem?_toArray, List.getElem?_cons_succ, List.getElem?_cons_zero]; rfl) (by kernel_rfl) (by kernel_rfl) (by kernel_rfl) (by exact fun _ _ _ h => h) (Or.inr ⟨by rfl, rfl⟩) (by assumption) ?_
  try simp only [Act.put, List.setIfInBounds_toArray, List.set_cons_zero, List.set_cons_succ]
  refine wpAnyH_take (i := 11) (oi := _) (v := undef) (by simp only [List.getElem?_toArray, List.getElem?_cons_succ, List.getElem?_cons_zero]; rfl) (by kernel_rfl) (by kernel_rfl) (by kernel_rfl) (by exact fun _ _ _ h => h) (Or.inr ⟨by rfl, rfl⟩) (by assumption) ?_
  try simp only [Act.put, List.setIfInBounds_toArray, List.set_cons_zero, List.set_cons_succ]
  refine wpAnyH_take (i := 12) (oi := _) (v := undef) (by simp only [List.getElem?_toArray, List.getElem?_cons_succ, List.getElem?_cons_zero]; rfl) (by kernel_rfl) (by kernel_rfl) (by kernel_rfl) (by exact fun _ _ _ h => h) (Or.inr ⟨by rfl, rfl⟩) (by assumption) ?_
  try simp only [Act.put, List.setIfInBounds_toArray, List.set_cons_zero, List.set_cons_succ]
  refine wpAnyH_ready (rs := [13]) (by kernel_rfl) (by simp) ?_
  refine AllReadyH.cons (o := _) (by simp only [List.getElem?_toArray, List.getElem?_cons_succ, List.getElem?_cons_zero]; rfl) (fun K hK => ?_) AllReadyH.nil
  go_simp
  refine hK.out _ _ ?_ (fun hHeldN => ?_)
  · (try dsimp only); (first | (simp [*, go_sem]; done) | (simp [*, go_sem, World.cell?_alloc_past]; done))
  clear hK K hHeld; have hHeld := hHeldN; clear hHeldN
  try simp only [Act.put, List.setIfInBounds_toArray, List.set_cons_zero, List.set_cons_succ]
  refine wpAnyH_ready (rs := [14]) (by kernel_rfl) (by simp) ?_
  refine AllReadyH.cons (o := _) (by simp only [List.getElem?_toArray, List.getElem?_cons_succ, List.getElem?_cons_zero]; rfl) (fun K hK => ?_) AllReadyH.nil
  go_simp
  refine hK.out _ _ ?_ (fun hHeldN => ?_)
  · (try dsimp only); (first | (simp [*, go_sem]; done) | (simp [*, go_sem, World.cell?_alloc_past]; done))
  clear hK K hHeld; have hHeld := hHeldN; clear hHeldN
  try simp only [Act.put, List.setIfInBounds_toArray, List.set_cons_zero, List.set_cons_succ]
  refine wpAnyH_take (i := 15) (oi := _) (v := undef) (by simp only [List.getElem?_toArray, List.getElem?_cons_succ, List.getElem?_cons_zero]; rfl) (by kernel_rfl) (by kernel_rfl) (by kernel_rfl) (by exact fun _ _ _ h => h) (Or.inr ⟨by rfl, rfl⟩) (by assumption) ?_
  try simp only [Act.put, List.setIfInBounds_toArray, List.set_cons_zero, List.set_cons_succ]
  refine wpAnyH_take (i := 16) (oi := _) (v := ?_) (by simp only [List.getElem?_toArray, List.getElem?_cons_succ, List.getElem?_cons_zero]; rfl) (by kernel_rfl) (by kernel_rfl) (by kernel_rfl) (by exact fun _ _ _ h => h) (Or.inl ⟨by rfl, ?_⟩) (by assumption) ?_
  rotate_left 1
  · (intro w hSw; (try dsimp only at hSw); go_simp; try with_reducible rfl)
  try simp only [Act.put, List.setIfInBounds_toArray, List.set_cons_zero, List.set_cons_succ]
  refine wpAnyH_take (i := 17) (oi := _) (v := ?_) (by simp only [List.getElem?_toArray, List.getElem?_cons_succ, List.getElem?_cons_zero]; rfl) (by kernel_rfl) (by kernel_rfl) (by kernel_rfl) (by exact fun _ _ _ h => h) (Or.inl ⟨by rfl, ?_⟩) (by assumption) ?_
  rotate_left 1
  · (intro w hSw; (try dsimp only at hSw); go_simp; try with_reducible rfl)
  try simp only [Act.put, List.setIfInBounds_toArray, List.set_cons_zero, List.set_cons_succ]
  refine wpAnyH_take (i := 18) (oi := _) (v := ?_) (by simp only [List.getElem?_toArray, List.getElem?_cons_succ, List.getElem?_cons_zero]; rfl) (by kernel_rfl) (by kernel_rfl) (by kernel_rfl) (by exact fun _ _ _ h => h) (Or.inl ⟨by rfl, ?_⟩) (by assumption) ?_
  rotate_left 1
  · (intro w hSw; (try dsimp only at hSw); go_simp; try with_reducible rfl)
  try simp only [Act.put, List.setIfInBounds_toArray, List.set_cons_zero, List.set_cons_succ]
  refine wpAnyH_take (i := 19) (oi := _) (v := ?_) (by simp only [List.getElem?_toArray, List.getElem?_cons_succ, List.getElem?_cons_zero]; rfl) (by kernel_rfl) (by kernel_rfl) (by kernel_rfl) (by exact fun _ _ _ h => h) (Or.inl ⟨by rfl, ?_⟩) (by assumption) ?_
  rotate_left 1
  · (intro w hSw; (try dsimp only at hSw); go_simp; try with_reducible rfl)
  try simp only [Act.put, List.setIfInBounds_toArray, List.set_cons_zero, List.set_cons_succ]
  refine wpAnyH_take (i := 20) (oi := _) (v := ?_) (by simp only [List.getElem?_toArray, List.getElem?_cons_succ, List.getElem?_cons_zero]; rfl) (by kernel_rfl) (by kernel_rfl) (by kernel_rfl) (by exact fun _ _ _ h => h) (Or.inl ⟨by rfl, ?_⟩) (by assumption) ?_
  rotate_left 1
  · (intro w hSw; (try dsimp only at hSw); go_simp; try with_reducible rfl)
  try simp only [Act.put, List.setIfInBounds_toArray, List.set_cons_zero, List.set_cons_succ]
  refine wpAnyH_take (i := 21) (oi := _) (v := ?_) (by simp only [List.getElem?_toArray, List.getElem?_cons_succ, List.getElem?_cons_zero]; rfl) (by kernel_rfl) (by kernel_rfl) (by kernel_rfl) (by exact fun _ _ _ h => h) (Or.inl ⟨by rfl, ?_⟩) (by assumption) ?_
  rotate_left 1
  · (intro w hSw; (try dsimp only at hSw); go_simp; try with_reducible rfl)
  try simp only [Act.put, List.setIfInBounds_toArray, List.set_cons_zero, List.set_cons_succ]
  refine wpAnyH_take (i := 22) (oi := _) (v := ?_) (by simp only [List.getElem?_toArray, List.getElem?_cons_succ, List.getElem?_cons_zero]; rfl) (by kernel_rfl) (by kernel_rfl) (by kernel_rfl) (by exact fun _ _ _ h => h) (Or.inl ⟨by rfl, ?_⟩) (by assumption) ?_
  rotate_left 1
  · (intro w hSw; (try dsimp only at hSw); go_simp; try with_reducible rfl)
  try simp only [Act.put, List.setIfInBounds_toArray, List.set_cons_zero, List.set_cons_succ]
  refine wpAnyH_take (i := 23) (oi := _) (v := ?_) (by simp only [List.getElem?_toArray, List.getElem?_cons_succ, List.getElem?_cons_zero]; rfl) (by kernel_rfl) (by kernel_rfl) (by kernel_rfl) (by exact fun _ _ _ h => h) (Or.inl ⟨by rfl, ?_⟩) (by assumption) ?_
  rotate_left 1
  · (intro w hSw; (try dsimp only at hSw); go_simp; try with_reducible rfl)
  try simp only [Act.put, List.setIfInBounds_toArray, List.set_cons_zero, List.set_cons_succ]
  refine wpAnyH_take (i := 24) (oi := _) (v := ?_) (by simp only [List.getElem?_toArray, List.getElem?_cons_succ, List.getElem?_cons_zero]; rfl) (by kernel_rfl) (by kernel_rfl) (by kernel_rfl) (by exact fun _ _ _ h => h) (Or.inl ⟨by rfl, ?_⟩) (by assumption) ?_
  rotate_left 1
  · (intro w hSw; (try dsimp only at hSw); go_simp; try with_reducible rfl)
  try simp only [Act.put, List.setIfInBounds_toArray, List.set_cons_zero, List.set_cons_succ]
  refine wpAnyH_take (i := 25) (oi := _) (v := ?_) (by simp only [List.getElem?_toArray, List.getElem?_cons_succ, List.getElem?_cons_zero]; rfl) (by kernel_rfl) (by kernel_rfl) (by kernel_rfl) (by exact fun _ _ _ h => h) (Or.inl ⟨by rfl, ?_⟩) (by assumption) ?_
  rotate_left 1
  · (intro w hSw; (try dsimp only at hSw); go_simp; try with_reducible rfl)
  try simp only [Act.put, List.setIfInBounds_toArray, List.set_cons_zero, List.set_cons_succ]
  refine wpAnyH_ready (rs := [26]) (by kernel_rfl) (by simp) ?_
  refine AllReadyH.cons (o := _) (by simp only [List.getElem?_toArray, List.getElem?_cons_succ, List.getElem?_cons_zero]; rfl) (fun K hK => ?_) AllReadyH.nil
  go_simp
  (go_at_call 21; (with_reducible refine ((K9.out) _).mono ?_); rintro e w10 ⟨rfl, hb⟩; (first | (with_reducible (obtain ⟨hclw10, hfrw10⟩ := bcell_drew hb)) | (obtain ⟨hclw10, hfrw10⟩ := bcell hb)); have zw10_a : w.heap.size < w10.heap.size := (by first | omega | (have hz := hb.size; (try simp at hz); omega)); have yw10_a : w.heap.size < w10.heap.size + 1 := (by omega); have yyw10_a : w.heap.size < w10.heap.size + 1 + 1 := (by omega); have zw10_one : w1.heap.size < w10.heap.size := (by first | omega | (have hz := hb.size; (try simp at hz); omega)); have yw10_one : w1.heap.size < w10.heap.size + 1 := (by omega); have yyw10_one : w1.heap.size < w10.heap.size + 1 + 1 := (by omega); have sxw10_0 : R3.heap.size ≤ w10.heap.size := (by first | omega | (have hz := hb.size; (try simp at hz); omega)); have HBw10 : Hid (Below w.heap.size w w10) := (bl_trans (by repeat (first | with_reducible exact Below.refl _ _ | with_reducible exact Hid.out (by assumption) | with_reducible refine Below.setCell ?_ (by first | (simp; done) | omega | (simp <;> omega)) _ | with_reducible refine bl_al ?_ _ | with_reducible apply Below.drew)) hb); clear hb)
  try go_wp2_with fail
  refine hK.out _ _ ?_ (fun hHeldN => ?_)
  · (try dsimp only); (first | (simp [*, go_sem]; done) | (simp [*, go_sem, World.cell?_alloc_past]; done))
  clear hK K hHeld; have hHeld := hHeldN; clear hHeldN
  try simp only [Act.put, List.setIfInBounds_toArray, List.set_cons_zero, List.set_cons_succ]
  refine wpAnyH_ready (rs := [27]) (by kernel_rfl) (by simp) ?_
  refine AllReadyH.cons (o := _) (by simp only [List.getElem?_toArray, List.getElem?_cons_succ, List.getElem?_cons_zero]; rfl) (fun K hK => ?_) AllReadyH.nil
  go_simp
  (go_at_call 25; (with_reducible refine ((K10.out) _).mono ?_); rintro e w11 ⟨rfl, hb⟩; obtain ⟨hclw11, hfrw11⟩ := bcell hb; have zw11_a : w.heap.size < w11.heap.size := (by first | omega | (have hz := hb.size; (try simp at hz); omega)); have yw11_a : w.heap.size < w11.heap.size + 1 := (by omega); have yyw11_a : w.heap.size < w11.heap.size + 1 + 1 := (by omega); have zw11_one : w1.heap.size < w11.heap.size := (by first | omega | (have hz := hb.size; (try simp at hz); omega)); have yw11_one : w1.heap.size < w11.heap.size + 1 := (by omega); have yyw11_one : w1.heap.size < w11.heap.size + 1 + 1 := (by omega); have sxw11_0 : R3.heap.size ≤ w11.heap.size := (by first | omega | (have hz := hb.size; (try simp at hz); omega)); have sxw11_w10 : w10.heap.size ≤ w11.heap.size := (by first | omega | (have hz := hb.size; (try simp at hz); omega)); have HBw11 : Hid (Below w.heap.size w w11) := (bl_trans (by repeat (first | with_reducible exact Below.refl _ _ | with_reducible exact Hid.out (by assumption) | with_reducible refine Below.setCell ?_ (by first | (simp; done) | omega | (simp <;> omega)) _ | with_reducible refine bl_al ?_ _ | with_reducible apply Below.drew)) hb); clear hb)
  try go_wp2_with fail
  refine hK.out _ _ ?_ (fun hHeldN => ?_)
  · (try dsimp only); (first | (simp [*, go_sem]; done) | (simp [*, go_sem, World.cell?_alloc_past]; done))
  clear hK K hHeld; have hHeld := hHeldN; clear hHeldN
  try simp only [Act.put, List.setIfInBounds_toArray, List.set_cons_zero, List.set_cons_succ]
  refine wpAnyH_take (i := 28) (oi := _) (v := ?_) (by simp only [List.getElem?_toArray, List.getElem?_cons_succ, List.getElem?_cons_zero]; rfl) (by kernel_rfl) (by kernel_rfl) (by kernel_rfl) (by exact fun _ _ _ h => h) (Or.inl ⟨by rfl, ?_⟩) (by assumption) ?_
  rotate_left 1
  · (intro w hSw; (try dsimp only at hSw); go_simp; try with_reducible rfl)
  try simp only [Act.put, List.setIfInBounds_toArray, List.set_cons_zero, List.set_cons_succ]
  refine wpAnyH_take (i := 29) (oi := _) (v := ?_) (by simp only [List.getElem?_toArray, List.getElem?_cons_succ, List.getElem?_cons_zero]; rfl) (by kernel_rfl) (by kernel_rfl) (by kernel_rfl) (by exact fun _ _ _ h => h) (Or.inl ⟨by rfl, ?_⟩) (by assumption) ?_
  rotate_left 1
  · (intro w hSw; (try dsimp only at hSw); go_simp; try with_reducible rfl)
  try simp only [Act.put, List.setIfInBounds_toArray, List.set_cons_zero, List.set_cons_succ]
  refine wpAnyH_take (i := 30) (oi := _) (v := ?_) (by simp only [List.getElem?_toArray, List.getElem?_cons_succ, List.getElem?_cons_zero]; rfl) (by kernel_rfl) (by kernel_rfl) (by kernel_rfl) (by exact fun _ _ _ h => h) (Or.inl ⟨by rfl, ?_⟩) (by assumption) ?_
  rotate_left 1
  · (intro w hSw; (try dsimp only at hSw); go_simp; try with_reducible rfl)
  try simp only [Act.put, List.setIfInBounds_toArray, List.set_cons_zero, List.set_cons_succ]
  refine wpAnyH_take (i := 31) (oi := _) (v := ?_) (by simp only [List.getElem?_toArray, List.getElem?_cons_succ, List.getElem?_cons_zero]; rfl) (by kernel_rfl) (by kernel_rfl) (by kernel_rfl) (by exact fun _ _ _ h => h) (Or.inl ⟨by rfl, ?_⟩) (by assumption) ?_
  rotate_left 1
  · (intro w hSw; (try dsimp only at hSw); go_simp; try with_reducible rfl)
  try simp only [Act.put, List.setIfInBounds_toArray, List.set_cons_zero, List.set_cons_succ]
  refine wpAnyH_take (i := 32) (oi := _) (v := ?_) (by simp only [List.getElem?_toArray, List.getElem?_cons_succ, List.getElem?_cons_zero]; rfl) (by kernel_rfl) (by kernel_rfl) (by kernel_rfl) (by exact fun _ _ _ h => h) (Or.inl ⟨by rfl, ?_⟩) (by assumption) ?_
  rotate_left 1
  · (intro w hSw; (try dsimp only at hSw); go_simp; try with_reducible rfl)
  try simp only [Act.put, List.setIfInBounds_toArray, List.set_cons_zero, List.set_cons_succ]
  refine wpAnyH_take (i := 33) (oi := _) (v := ?_) (by simp only [List.getElem?_toArray, List.getElem?_cons_succ, List.getElem?_cons_zero]; rfl) (by kernel_rfl) (by kernel_rfl) (by kernel_rfl) (by exact fun _ _ _ h => h) (Or.inl ⟨by rfl, ?_⟩) (by assumption) ?_
  rotate_left 1
  · (intro w hSw; (try dsimp only at hSw); go_simp; try with_reducible rfl)
  try simp only [Act.put, List.setIfInBounds_toArray, List.set_cons_zero, List.set_cons_succ]
  refine wpAnyH_take (i := 34) (oi := _) (v := ?_) (by simp only [List.getElem?_toArray, List.getElem?_cons_succ, List.getElem?_cons_zero]; rfl) (by kernel_rfl) (by kernel_rfl) (by kernel_rfl) (by exact fun _ _ _ h => h) (Or.inl ⟨by rfl, ?_⟩) (by assumption) ?_
  rotate_left 1
  · (intro w hSw; (try dsimp only at hSw); go_simp; try with_reducible rfl)
  try simp only [Act.put, List.setIfInBounds_toArray, List.set_cons_zero, List.set_cons_succ]
  refine wpAnyH_take (i := 35) (oi := _) (v := ?_) (by simp only [List.getElem?_toArray, List.getElem?_cons_succ, List.getElem?_cons_zero]; rfl) (by kernel_rfl) (by kernel_rfl) (by kernel_rfl) (by exact fun _ _ _ h => h) (Or.inl ⟨by rfl, ?_⟩) (by assumption) ?_
  rotate_left 1
  · (intro w hSw; (try dsimp only at hSw); go_simp; try with_reducible rfl)
  try simp only [Act.put, List.setIfInBounds_toArray, List.set_cons_zero, List.set_cons_succ]
  refine wpAnyH_take (i := 37) (oi := _) (v := ?_) (by simp only [List.getElem?_toArray, List.getElem?_cons_succ, List.getElem?_cons_zero]; rfl) (by kernel_rfl) (by kernel_rfl) (by kernel_rfl) (by exact fun _ _ _ h => h) (Or.inl ⟨by rfl, ?_⟩) (by assumption) ?_
  rotate_left 1
  · (intro w hSw; (try dsimp only at hSw); go_simp; try with_reducible rfl)
  try simp only [Act.put, List.setIfInBounds_toArray, List.set_cons_zero, List.set_cons_succ]
  refine wpAnyH_ready (rs := [36]) (by kernel_rfl) (by simp) ?_
  refine AllReadyH.cons (o := _) (by simp only [List.getElem?_toArray, List.getElem?_cons_succ, List.getElem?_cons_zero]; rfl) (fun K hK => ?_) AllReadyH.nil
  go_simp
  (go_at_call 21; (with_reducible refine ((K11.out) _).mono ?_); rintro e w12 ⟨rfl, hb⟩; obtain ⟨hclw12, hfrw12⟩ := bcell hb; have zw12_a : w.heap.size < w12.heap.size := (by first | omega | (have hz := hb.size; (try simp at hz); omega)); have yw12_a : w.heap.size < w12.heap.size + 1 := (by omega); have yyw12_a : w.heap.size < w12.heap.size + 1 + 1 := (by omega); have zw12_one : w1.heap.size < w12.heap.size := (by first | omega | (have hz := hb.size; (try simp at hz); omega)); have yw12_one : w1.heap.size < w12.heap.size + 1 := (by omega); have yyw12_one : w1.heap.size < w12.heap.size + 1 + 1 := (by omega); have sxw12_0 : R3.heap.size ≤ w12.heap.size := (by first | omega | (have hz := hb.size; (try simp at hz); omega)); have sxw12_w10 : w10.heap.size ≤ w12.heap.size := (by first | omega | (have hz := hb.size; (try simp at hz); omega)); have sxw12_w11 : w11.heap.size ≤ w12.heap.size := (by first | omega | (have hz := hb.size; (try simp at hz); omega)); have HBw12 : Hid (Below w.heap.size w w12) := (bl_trans (by repeat (first | with_reducible exact Below.refl _ _ | with_reducible exact Hid.out (by assumption) | with_reducible refine Below.setCell ?_ (by first | (simp; done) | omega | (simp <;> omega)) _ | with_reducible refine bl_al ?_ _ | with_reducible apply Below.drew)) hb); clear hb)
  try go_wp2_with fail
  refine hK.out _ _ ?_ (fun hHeldN => ?_)
  · (try dsimp only); (first | (simp [*, go_sem]; done) | (simp [*, go_sem, World.cell?_alloc_past]; done))
  clear hK K hHeld; have hHeld := hHeldN; clear hHeldN
  try simp only [Act.put, List.setIfInBounds_toArray, List.set_cons_zero, List.set_cons_succ]
  refine wpAnyH_take (i := 38) (oi := _) (v := ?_) (by simp only [List.getElem?_toArray, List.getElem?_cons_succ, List.getElem?_cons_zero]; rfl) (by kernel_rfl) (by kernel_rfl) (by kernel_rfl) (by exact fun _ _ _ h => h) (Or.inl ⟨by rfl, ?_⟩) (by assumption) ?_
  rotate_left 1
  · (intro w hSw; (try dsimp only at hSw); go_simp; try with_reducible rfl)
  try simp only [Act.put, List.setIfInBounds_toArray, List.set_cons_zero, List.set_cons_succ]
  refine wpAnyH_take (i := 39) (oi := _) (v := ?_) (by simp only [List.getElem?_toArray, List.getElem?_cons_succ, List.getElem?_cons_zero]; rfl) (by kernel_rfl) (by kernel_rfl) (by kernel_rfl) (by exact fun _ _ _ h => h) (Or.inl ⟨by rfl, ?_⟩) (by assumption) ?_
  rotate_left 1
  · (intro w hSw; (try dsimp only at hSw); go_simp; try with_reducible rfl)
  try simp only [Act.put, List.setIfInBounds_toArray, List.set_cons_zero, List.set_cons_succ]
  refine wpAnyH_take (i := 40) (oi := _) (v := ?_) (by simp only [List.getElem?_toArray, List.getElem?_cons_succ, List.getElem?_cons_zero]; rfl) (by kernel_rfl) (by kernel_rfl) (by kernel_rfl) (by exact fun _ _ _ h => h) (Or.inl ⟨by rfl, ?_⟩) (by assumption) ?_
  rotate_left 1
  · (intro w hSw; (try dsimp only at hSw); go_simp; try with_reducible rfl)
  try simp only [Act.put, List.setIfInBounds_toArray, List.set_cons_zero, List.set_cons_succ]
  refine wpAnyH_take (i := 41) (oi := _) (v := ?_) (by simp only [List.getElem?_toArray, List.getElem?_cons_succ, List.getElem?_cons_zero]; rfl) (by kernel_rfl) (by kernel_rfl) (by kernel_rfl) (by exact fun _ _ _ h => h) (Or.inl ⟨by rfl, ?_⟩) (by assumption) ?_
  rotate_left 1
  · (intro w hSw; (try dsimp only at hSw); go_simp; try with_reducible rfl)
  try simp only [Act.put, List.setIfInBounds_toArray, List.set_cons_zero, List.set_cons_succ]
  refine wpAnyH_take (i := 42) (oi := _) (v := ?_) (by simp only [List.getElem?_toArray, List.getElem?_cons_succ, List.getElem?_cons_zero]; rfl) (by kernel_rfl) (by kernel_rfl) (by kernel_rfl) (by exact fun _ _ _ h => h) (Or.inl ⟨by rfl, ?_⟩) (by assumption) ?_
  rotate_left 1
  · (intro w hSw; (try dsimp only at hSw); go_simp; try with_reducible rfl)
  try simp only [Act.put, List.setIfInBounds_toArray, List.set_cons_zero, List.set_cons_succ]
  refine wpAnyH_take (i := 43) (oi := _) (v := ?_) (by simp only [List.getElem?_toArray, List.getElem?_cons_succ, List.getElem?_cons_zero]; rfl) (by kernel_rfl) (by kernel_rfl) (by kernel_rfl) (by exact fun _ _ _ h => h) (Or.inl ⟨by rfl, ?_⟩) (by assumption) ?_
  rotate_left 1
  · (intro w hSw; (try dsimp only at hSw); go_simp; try with_reducible rfl)
  try simp only [Act.put, List.setIfInBounds_toArray, List.set_cons_zero, List.set_cons_succ]
  refine wpAnyH_take (i := 44) (oi := _) (v := ?_) (by simp only [List.getElem?_toArray, List.getElem?_cons_succ, List.getElem?_cons_zero]; rfl) (by kernel_rfl) (by kernel_rfl) (by kernel_rfl) (by exact fun _ _ _ h => h) (Or.inl ⟨by rfl, ?_⟩) (by assumption) ?_
  rotate_left 1
  · (intro w hSw; (try dsimp only at hSw); go_simp; try with_reducible rfl)
  try simp only [Act.put, List.setIfInBounds_toArray, List.set_cons_zero, List.set_cons_succ]
  refine wpAnyH_take (i := 46) (oi := _) (v := ?_) (by simp only [List.getElem?_toArray, List.getElem?_cons_succ, List.getElem?_cons_zero]; rfl) (by kernel_rfl) (by kernel_rfl) (by kernel_rfl) (by exact fun _ _ _ h => h) (Or.inl ⟨by rfl, ?_⟩) (by assumption) ?_
  rotate_left 1
  · (intro w hSw; (try dsimp only at hSw); go_simp; try with_reducible rfl)
  try simp only [Act.put, List.setIfInBounds_toArray, List.set_cons_zero, List.set_cons_succ]
  refine wpAnyH_ready (rs := [45]) (by kernel_rfl) (by simp) ?_
  refine AllReadyH.cons (o := _) (by simp only [List.getElem?_toArray, List.getElem?_cons_succ, List.getElem?_cons_zero]; rfl) (fun K hK => ?_) AllReadyH.nil
  go_simp
  (go_at_call 23; (with_reducible refine ((K12.out) _).mono ?_); rintro e w13 ⟨rfl, hb⟩; obtain ⟨hclw13, hfrw13⟩ := bcell hb; have zw13_a : w.heap.size < w13.heap.size := (by first | omega | (have hz := hb.size; (try simp at hz); omega)); have yw13_a : w.heap.size < w13.heap.size + 1 := (by omega); have yyw13_a : w.heap.size < w13.heap.size + 1 + 1 := (by omega); have zw13_one : w1.heap.size < w13.heap.size := (by first | omega | (have hz := hb.size; (try simp at hz); omega)); have yw13_one : w1.heap.size < w13.heap.size + 1 := (by omega); have yyw13_one : w1.heap.size < w13.heap.size + 1 + 1 := (by omega); have sxw13_0 : R3.heap.size ≤ w13.heap.size := (by first | omega | (have hz := hb.size; (try simp at hz); omega)); have sxw13_w10 : w10.heap.size ≤ w13.heap.size := (by first | omega | (have hz := hb.size; (try simp at hz); omega)); have sxw13_w11 : w11.heap.size ≤ w13.heap.size := (by first | omega | (have hz := hb.size; (try simp at hz); omega)); have sxw13_w12 : w12.heap.size ≤ w13.heap.size := (by first | omega | (have hz := hb.size; (try simp at hz); omega)); have HBw13 : Hid (Below w.heap.size w w13) := (bl_trans (by repeat (first | with_reducible exact Below.refl _ _ | with_reducible exact Hid.out (by assumption) | with_reducible refine Below.setCell ?_ (by first | (simp; done) | omega | (simp <;> omega)) _ | with_reducible refine bl_al ?_ _ | with_reducible apply Below.drew)) hb); clear hb)
  try go_wp2_with fail
  refine hK.out _ _ ?_ (fun hHeldN => ?_)
  · (try dsimp only); (first | (simp [*, go_sem]; done) | (simp [*, go_sem, World.cell?_alloc_past]; done))
  clear hK K hHeld; have hHeld := hHeldN; clear hHeldN
  try simp only [Act.put, List.setIfInBounds_toArray, List.set_cons_zero, List.set_cons_succ]
  refine wpAnyH_take (i := 47) (oi := _) (v := ?_) (by simp only [List.getElem?_toArray, List.getElem?_cons_succ, List.getElem?_cons_zero]; rfl) (by kernel_rfl) (by kernel_rfl) (by kernel_rfl) (by exact fun _ _ _ h => h) (Or.inl ⟨by rfl, ?_⟩) (by assumption) ?_
  rotate_left 1
  · (intro w hSw; (try dsimp only at hSw); go_simp; try with_reducible rfl)
  try simp only [Act.put, List.setIfInBounds_toArray, List.set_cons_zero, List.set_cons_succ]
  refine wpAnyH_take (i := 48) (oi := _) (v := ?_) (by simp only [List.getElem?_toArray, List.getElem?_cons_succ, List.getElem?_cons_zero]; rfl) (by kernel_rfl) (by kernel_rfl) (by kernel_rfl) (by exact fun _ _ _ h => h) (Or.inl ⟨by rfl, ?_⟩) (by assumption) ?_
  rotate_left 1
  · (intro w hSw; (try dsimp only at hSw); go_simp; try with_reducible rfl)
  try simp only [Act.put, List.setIfInBounds_toArray, List.set_cons_zero, List.set_cons_succ]
  refine wpAnyH_take (i := 49) (oi := _) (v := ?_) (by simp only [List.getElem?_toArray, List.getElem?_cons_succ, List.getElem?_cons_zero]; rfl) (by kernel_rfl) (by kernel_rfl) (by kernel_rfl) (by exact fun _ _ _ h => h) (Or.inl ⟨by rfl, ?_⟩) (by assumption) ?_
  rotate_left 1
  · (intro w hSw; (try dsimp only at hSw); go_simp; try with_reducible rfl)
  try simp only [Act.put, List.setIfInBounds_toArray, List.set_cons_zero, List.set_cons_succ]
  refine wpAnyH_ready (rs := [50]) (by kernel_rfl) (by simp) ?_
  refine AllReadyH.cons (o := _) (by simp only [List.getElem?_toArray, List.getElem?_cons_succ, List.getElem?_cons_zero]; rfl) (fun K hK => ?_) AllReadyH.nil
  go_simp
  (go_at_call 16; (with_reducible refine ((K13.out) _).mono ?_); rintro e w14 ⟨rfl, hb⟩; obtain ⟨hclw14, hfrw14⟩ := bcell hb; have zw14_a : w.heap.size < w14.heap.size := (by first | omega | (have hz := hb.size; (try simp at hz); omega)); have yw14_a : w.heap.size < w14.heap.size + 1 := (by omega); have yyw14_a : w.heap.size < w14.heap.size + 1 + 1 := (by omega); have zw14_one : w1.heap.size < w14.heap.size := (by first | omega | (have hz := hb.size; (try simp at hz); omega)); have yw14_one : w1.heap.size < w14.heap.size + 1 := (by omega); have yyw14_one : w1.heap.size < w14.heap.size + 1 + 1 := (by omega); have sxw14_0 : R3.heap.size ≤ w14.heap.size := (by first | omega | (have hz := hb.size; (try simp at hz); omega)); have sxw14_w10 : w10.heap.size ≤ w14.heap.size := (by first | omega | (have hz := hb.size; (try simp at hz); omega)); have sxw14_w11 : w11.heap.size ≤ w14.heap.size := (by first | omega | (have hz := hb.size; (try simp at hz); omega)); have sxw14_w12 : w12.heap.size ≤ w14.heap.size := (by first | omega | (have hz := hb.size; (try simp at hz); omega)); have sxw14_w13 : w13.heap.size ≤ w14.heap.size := (by first | omega | (have hz := hb.size; (try simp at hz); omega)); have HBw14 : Hid (Below w.heap.size w w14) := (bl_trans (by repeat (first | with_reducible exact Below.refl _ _ | with_reducible exact Hid.out (by assumption) | with_reducible refine Below.setCell ?_ (by first | (simp; done) | omega | (simp <;> omega)) _ | with_reducible refine bl_al ?_ _ | with_reducible apply Below.drew)) hb); clear hb)
  try go_wp2_with fail
  refine hK.out _ _ ?_ (fun hHeldN => ?_)
  · (try dsimp only); (first | (simp [*, go_sem]; done) | (simp [*, go_sem, World.cell?_alloc_past]; done))
  clear hK K hHeld; have hHeld := hHeldN; clear hHeldN
  try simp only [Act.put, List.setIfInBounds_toArray, List.set_cons_zero, List.set_cons_succ]
  refine wpAnyH_take (i := 51) (oi := _) (v := ?_) (by simp only [List.getElem?_toArray, List.getElem?_cons_succ, List.getElem?_cons_zero]; rfl) (by kernel_rfl) (by kernel_rfl) (by kernel_rfl) (by exact fun _ _ _ h => h) (Or.inl ⟨by rfl, ?_⟩) (by assumption) ?_
  rotate_left 1
  · (intro w hSw; (try dsimp only at hSw); go_simp; try with_reducible rfl)
  try simp only [Act.put, List.setIfInBounds_toArray, List.set_cons_zero, List.set_cons_succ]
  refine wpAnyH_take (i := 52) (oi := _) (v := ?_) (by simp only [List.getElem?_toArray, List.getElem?_cons_succ, List.getElem?_cons_zero]; rfl) (by kernel_rfl) (by kernel_rfl) (by kernel_rfl) (by exact fun _ _ _ h => h) (Or.inl ⟨by rfl, ?_⟩) (by assumption) ?_
  rotate_left 1
  · (intro w hSw; (try dsimp only at hSw); go_simp; try with_reducible rfl)
  try simp only [Act.put, List.setIfInBounds_toArray, List.set_cons_zero, List.set_cons_succ]
  refine wpAnyH_done (by kernel_rfl) ?_ _
  clear hHeld
  go_wp2_with fail
  go_returns
  exact ⟨rfl, by repeat (first | with_reducible exact Below.refl _ _ | with_reducible exact Hid.out (by assumption) | with_reducible refine Below.setCell ?_ (by first | (simp; done) | omega | (simp <;> omega)) _ | with_reducible refine bl_al ?_ _ | with_reducible apply Below.drew)⟩
set_option maxRecDepth 20000 in
set_option maxHeartbeats 60000000 in
theorem limbMoves_lost_mid (a3 a2 a1 a0 b3 b2 b1 b0 c3 c2 c1 c0 d3 d2 d1 d0 y3 y2 y1 y0 f3 f2 f1 f0 g3 g2 g1 g0 i j k s t u v l z ni : Int) (wi2 : IntKind.i64.wrap i = i) (wj2 : IntKind.i64.wrap j = j) (e1 : IntKind.i64.wrap (i + j) = s) (e2 : IntKind.i64.wrap (k + i) = t) (e3 : decide (t ≤ 256) = false) (e4 : decide (k ≥ 0) = true) (e5 : decide (k ≤ 256) = true) (e6 : (k == 256) = false) (e7 : (k == 0) = false) (e10 : IntKind.i64.wrap (-i) = ni) (e11 : IntKind.i64.wrap (ni - 1) = z) (e8 : decide (u < 0) = true) (e12 : IntKind.i64.wrap (k - 1) = l) (e9 : decide (v ≥ 0) = true) (w : World)
    (C1 : ∀ W, Calls Try.prog 27 #[.agg #[.int .u64 a3, .int .u64 a2, .int .u64 a1, .int .u64 a0]] W fun e w' => e = .returned (.int .i64 k) ∧ Below W.heap.size W w')
    (C2 : ∀ W, Calls Try.prog 21 #[.agg #[.int .u64 a3, .int .u64 a2, .int .u64 a1, .int .u64 a0], .int .i64 i] W fun e w' => e = .returned (.agg #[.int .u64 b3, .int .u64 b2, .int .u64 b1, .int .u64 b0]) ∧ Below W.heap.size W w')
    (C3 : ∀ W, Calls Try.prog 21 #[.agg #[.int .u64 b3, .int .u64 b2, .int .u64 b1, .int .u64 b0], .int .i64 j] W fun e w' => e = .returned (.agg #[.int .u64 c3, .int .u64 c2, .int .u64 c1, .int .u64 c0]) ∧ Below W.heap.size W w')
    (C4 : ∀ W, Calls Try.prog 21 #[.agg #[.int .u64 a3, .int .u64 a2, .int .u64 a1, .int .u64 a0], .int .i64 s] W fun e w' => e = .returned (.agg #[.int .u64 c3, .int .u64 c2, .int .u64 c1, .int .u64 c0]) ∧ Below W.heap.size W w')
    (C5 : ∀ W, Calls Try.prog 23 #[.agg #[.int .u64 a3, .int .u64 a2, .int .u64 a1, .int .u64 a0], .int .i64 i] W fun e w' => e = .returned (.agg #[.int .u64 d3, .int .u64 d2, .int .u64 d1, .int .u64 d0]) ∧ Below W.heap.size W w')
    (C6 : ∀ W, Calls Try.prog 23 #[.agg #[.int .u64 d3, .int .u64 d2, .int .u64 d1, .int .u64 d0], .int .i64 j] W fun e w' => e = .returned (.agg #[.int .u64 y3, .int .u64 y2, .int .u64 y1, .int .u64 y0]) ∧ Below W.heap.size W w')
    (C7 : ∀ W, Calls Try.prog 23 #[.agg #[.int .u64 a3, .int .u64 a2, .int .u64 a1, .int .u64 a0], .int .i64 s] W fun e w' => e = .returned (.agg #[.int .u64 y3, .int .u64 y2, .int .u64 y1, .int .u64 y0]) ∧ Below W.heap.size W w')
    (C8 : ∀ W, Calls Try.prog 21 #[.agg #[.int .u64 0, .int .u64 0, .int .u64 0, .int .u64 1], .int .i64 k] W fun e w' => e = .returned (.agg #[.int .u64 f3, .int .u64 f2, .int .u64 f1, .int .u64 f0]) ∧ Below W.heap.size W w')
    (C9 : ∀ W, Calls Try.prog 25 #[.agg #[.int .u64 a3, .int .u64 a2, .int .u64 a1, .int .u64 a0], .agg #[.int .u64 f3, .int .u64 f2, .int .u64 f1, .int .u64 f0]] W fun e w' => e = .returned (.int .i64 u) ∧ Below W.heap.size W w')
    (C10 : ∀ W, Calls Try.prog 21 #[.agg #[.int .u64 0, .int .u64 0, .int .u64 0, .int .u64 1], .int .i64 l] W fun e w' => e = .returned (.agg #[.int .u64 g3, .int .u64 g2, .int .u64 g1, .int .u64 g0]) ∧ Below W.heap.size W w')
    (C11 : ∀ W, Calls Try.prog 25 #[.agg #[.int .u64 a3, .int .u64 a2, .int .u64 a1, .int .u64 a0], .agg #[.int .u64 g3, .int .u64 g2, .int .u64 g1, .int .u64 g0]] W fun e w' => e = .returned (.int .i64 v) ∧ Below W.heap.size W w')
    (C12 : ∀ W, Calls Try.prog 21 #[.agg #[.int .u64 a3, .int .u64 a2, .int .u64 a1, .int .u64 a0], .int .i64 z] W fun e w' => e = .returned (.agg #[.int .u64 a3, .int .u64 a2, .int .u64 a1, .int .u64 a0]) ∧ Below W.heap.size W w')
    (C13 : ∀ W, Calls Try.prog 23 #[.agg #[.int .u64 a3, .int .u64 a2, .int .u64 a1, .int .u64 a0], .int .i64 z] W fun e w' => e = .returned (.agg #[.int .u64 a3, .int .u64 a2, .int .u64 a1, .int .u64 a0]) ∧ Below W.heap.size W w')
    (C14 : ∀ W, Calls Try.prog 16 #[] W fun e w' => e = .returned (.bool true) ∧ Below W.heap.size W w') :
    Calls Try.prog 9 #[.agg #[.int .u64 a3, .int .u64 a2, .int .u64 a1, .int .u64 a0], .int .u8 i, .int .u8 j] w fun e w' => e = .returned (.bool true) ∧ Below w.heap.size w w' := by
  have K1 := Lib.hid C1; have K2 := Lib.hid C2; have K3 := Lib.hid C3; have K4 := Lib.hid C4; have K5 := Lib.hid C5; have K6 := Lib.hid C6; have K7 := Lib.hid C7; have K8 := Lib.hid C8; have K9 := Lib.hid C9; have K10 := Lib.hid C10; have K11 := Lib.hid C11; have K12 := Lib.hid C12; have K13 := Lib.hid C13; have K14 := Lib.hid C14
  clear C1 C2 C3 C4 C5 C6 C7 C8 C9 C10 C11 C12 C13 C14
  have eqf1 := ne_four_falseB c3 c2 c1 c0; have eqf2 := ne_four_falseB y3 y2 y1 y0; have eqf3 := ne_four_falseB a3 a2 a1 a0; have eqf4 := eq_four_trueB a3 a2 a1 a0
  go_enter Try.func9, Try.ntmps9
  go_wp2_with fail
  (with_reducible refine (K1.out _).mono ?_); rintro e w1 ⟨rfl, hb⟩; obtain ⟨hclw1, hfrw1⟩ := bcell hb; have zw1_a : w.heap.size < w1.heap.size := (by first | omega | (have hz := hb.size; (try simp at hz); omega)); have yw1_a : w.heap.size < w1.heap.size + 1 := (by omega); have yyw1_a : w.heap.size < w1.heap.size + 1 + 1 := (by omega); have sxw1_0 : w.heap.size + 1 ≤ w1.heap.size := (by first | omega | (have hz := hb.size; (try simp at hz); omega)); have HBw1 : Hid (Below w.heap.size w w1) := (bl_trans (by repeat (first | with_reducible exact Below.refl _ _ | with_reducible exact Hid.out (by assumption) | with_reducible refine Below.setCell ?_ (by first | (simp; done) | omega | (simp <;> omega)) _ | with_reducible refine bl_al ?_ _ | with_reducible apply Below.drew)) hb); clear hb
  go_upto_region 4 with fail
  refine name_world (P := fun W => Code.wp _ _ _ _ W) _ (fun R1 hR1 => ?_)
  have zR1_a : w.heap.size < R1.heap.size := by rw [hR1]; first | omega | (simp <;> omega)
  have yR1_a : w.heap.size < R1.heap.size + 1 := by omega
  have yyR1_a : w.heap.size < R1.heap.size + 1 + 1 := by omega
  have cR1_a_0 : R1.cell? ⟨w.heap.size, 0, none⟩ = some (.int .u64 a3) := by rw [hR1]; first | assumption | (simp [go_sem, *]; done)
  have cR1_a_1 : R1.cell? ⟨w.heap.size, 1, none⟩ = some (.int .u64 a2) := by rw [hR1]; first | assumption | (simp [go_sem, *]; done)
  have cR1_a_2 : R1.cell? ⟨w.heap.size, 2, none⟩ = some (.int .u64 a1) := by rw [hR1]; first | assumption | (simp [go_sem, *]; done)
  have cR1_a_3 : R1.cell? ⟨w.heap.size, 3, none⟩ = some (.int .u64 a0) := by rw [hR1]; first | assumption | (simp [go_sem, *]; done)
  have zR1_one : w1.heap.size < R1.heap.size := by rw [hR1]; first | omega | (simp <;> omega)
  have yR1_one : w1.heap.size < R1.heap.size + 1 := by omega
  have yyR1_one : w1.heap.size < R1.heap.size + 1 + 1 := by omega
  have cR1_one_0 : R1.cell? ⟨w1.heap.size, 0, none⟩ = some (.int .u64 0) := by rw [hR1]; first | assumption | (simp [go_sem, *]; done)
  have cR1_one_1 : R1.cell? ⟨w1.heap.size, 1, none⟩ = some (.int .u64 0) := by rw [hR1]; first | assumption | (simp [go_sem, *]; done)
  have cR1_one_2 : R1.cell? ⟨w1.heap.size, 2, none⟩ = some (.int .u64 0) := by rw [hR1]; first | assumption | (simp [go_sem, *]; done)
  have cR1_one_3 : R1.cell? ⟨w1.heap.size, 3, none⟩ = some (.int .u64 1) := by rw [hR1]; first | assumption | (simp [go_sem, *]; done)
  have HBR1 : Hid (Below w.heap.size w R1) := by rw [hR1]; show Below _ _ _; exact (by repeat (first | with_reducible exact Below.refl _ _ | with_reducible exact Hid.out (by assumption) | with_reducible refine Below.setCell ?_ (by first | (simp; done) | omega | (simp <;> omega)) _ | with_reducible refine bl_al ?_ _ | with_reducible apply Below.drew))
  clear hR1
  clear zw1_a yw1_a yyw1_a sxw1_0 hclw1 hfrw1 HBw1
  refine wp_region_held_drew (S := fun w' => w'.cell? ⟨w.heap.size, 0, none⟩ = some (.int .u64 a3) ∧ w'.cell? ⟨w.heap.size, 1, none⟩ = some (.int .u64 a2) ∧ w'.cell? ⟨w.heap.size, 2, none⟩ = some (.int .u64 a1) ∧ w'.cell? ⟨w.heap.size, 3, none⟩ = some (.int .u64 a0)) (by kernel_rfl) ?_ (fun hHeld => ?_)
  · (try dsimp only); (first | (simp [*, go_sem]; done) | (simp [*, go_sem, World.cell?_alloc_past]; done))
  refine wpAnyH_take (i := 0) (oi := _) (v := ?_) (by simp only [List.getElem?_toArray, List.getElem?_cons_zero]; rfl) (by kernel_rfl) (by kernel_rfl) (by kernel_rfl) (by exact fun _ _ _ h => h) (Or.inl ⟨by rfl, ?_⟩) (by assumption) ?_
  rotate_left 1
  · (intro w hSw; (try dsimp only at hSw); go_simp; try with_reducible rfl)
  try simp only [Act.put, List.setIfInBounds_toArray, List.set_cons_zero, List.set_cons_succ]
  refine wpAnyH_take (i := 1) (oi := _) (v := ?_) (by simp only [List.getElem?_toArray, List.getElem?_cons_succ, List.getElem?_cons_zero]; rfl) (by kernel_rfl) (by kernel_rfl) (by kernel_rfl) (by exact fun _ _ _ h => h) (Or.inl ⟨by rfl, ?_⟩) (by assumption) ?_
  rotate_left 1
  · (intro w hSw; (try dsimp only at hSw); go_simp; try with_reducible rfl)
  try simp only [Act.put, List.setIfInBounds_toArray, List.set_cons_zero, List.set_cons_succ]
  refine wpAnyH_take (i := 3) (oi := _) (v := ?_) (by simp only [List.getElem?_toArray, List.getElem?_cons_succ, List.getElem?_cons_zero]; rfl) (by kernel_rfl) (by kernel_rfl) (by kernel_rfl) (by exact fun _ _ _ h => h) (Or.inl ⟨by rfl, ?_⟩) (by assumption) ?_
  rotate_left 1
  · (intro w hSw; (try dsimp only at hSw); go_simp; try with_reducible rfl)
  try simp only [Act.put, List.setIfInBounds_toArray, List.set_cons_zero, List.set_cons_succ]
  refine wpAnyH_take (i := 5) (oi := _) (v := ?_) (by simp only [List.getElem?_toArray, List.getElem?_cons_succ, List.getElem?_cons_zero]; rfl) (by kernel_rfl) (by kernel_rfl) (by kernel_rfl) (by exact fun _ _ _ h => h) (Or.inl ⟨by rfl, ?_⟩) (by assumption) ?_
  rotate_left 1
  · (intro w hSw; (try dsimp only at hSw); go_simp; try with_reducible rfl)
  try simp only [Act.put, List.setIfInBounds_toArray, List.set_cons_zero, List.set_cons_succ]
  refine wpAnyH_take (i := 6) (oi := _) (v := ?_) (by simp only [List.getElem?_toArray, List.getElem?_cons_succ, List.getElem?_cons_zero]; rfl) (by kernel_rfl) (by kernel_rfl) (by kernel_rfl) (by exact fun _ _ _ h => h) (Or.inl ⟨by rfl, ?_⟩) (by assumption) ?_
  rotate_left 1
  · (intro w hSw; (try dsimp only at hSw); go_simp; try with_reducible rfl)
  try simp only [Act.put, List.setIfInBounds_toArray, List.set_cons_zero, List.set_cons_succ]
  refine wpAnyH_take (i := 7) (oi := _) (v := ?_) (by simp only [List.getElem?_toArray, List.getElem?_cons_succ, List.getElem?_cons_zero]; rfl) (by kernel_rfl) (by kernel_rfl) (by kernel_rfl) (by exact fun _ _ _ h => h) (Or.inl ⟨by rfl, ?_⟩) (by assumption) ?_
  rotate_left 1
  · (intro w hSw; (try dsimp only at hSw); go_simp; try with_reducible rfl)
  try simp only [Act.put, List.setIfInBounds_toArray, List.set_cons_zero, List.set_cons_succ]
  refine wpAnyH_take (i := 8) (oi := _) (v := ?_) (by simp only [List.getElem?_toArray, List.getElem?_cons_succ, List.getElem?_cons_zero]; rfl) (by kernel_rfl) (by kernel_rfl) (by kernel_rfl) (by exact fun _ _ _ h => h) (Or.inl ⟨by rfl, ?_⟩) (by assumption) ?_
  rotate_left 1
  · (intro w hSw; (try dsimp only at hSw); go_simp; try with_reducible rfl)
  try simp only [Act.put, List.setIfInBounds_toArray, List.set_cons_zero, List.set_cons_succ]
  refine wpAnyH_ready (rs := [2]) (by kernel_rfl) (by simp) ?_
  refine AllReadyH.cons (o := _) (by simp only [List.getElem?_toArray, List.getElem?_cons_succ, List.getElem?_cons_zero]; rfl) (fun K hK => ?_) AllReadyH.nil
  go_simp
  (go_at_call 21; (with_reducible refine ((K2.out) _).mono ?_); rintro e w2 ⟨rfl, hb⟩; (first | (with_reducible (obtain ⟨hclw2, hfrw2⟩ := bcell_drew hb)) | (obtain ⟨hclw2, hfrw2⟩ := bcell hb)); have zw2_a : w.heap.size < w2.heap.size := (by first | omega | (have hz := hb.size; (try simp at hz); omega)); have yw2_a : w.heap.size < w2.heap.size + 1 := (by omega); have yyw2_a : w.heap.size < w2.heap.size + 1 + 1 := (by omega); have zw2_one : w1.heap.size < w2.heap.size := (by first | omega | (have hz := hb.size; (try simp at hz); omega)); have yw2_one : w1.heap.size < w2.heap.size + 1 := (by omega); have yyw2_one : w1.heap.size < w2.heap.size + 1 + 1 := (by omega); have sxw2_0 : R1.heap.size ≤ w2.heap.size := (by first | omega | (have hz := hb.size; (try simp at hz); omega)); have HBw2 : Hid (Below w.heap.size w w2) := (bl_trans (by repeat (first | with_reducible exact Below.refl _ _ | with_reducible exact Hid.out (by assumption) | with_reducible refine Below.setCell ?_ (by first | (simp; done) | omega | (simp <;> omega)) _ | with_reducible refine bl_al ?_ _ | with_reducible apply Below.drew)) hb); clear hb)
  try go_wp2_with fail
  refine hK.out _ _ ?_ (fun hHeldN => ?_)
  · (try dsimp only); (first | (simp [*, go_sem]; done) | (simp [*, go_sem, World.cell?_alloc_past]; done))
  clear hK K hHeld; have hHeld := hHeldN; clear hHeldN
  try simp only [Act.put, List.setIfInBounds_toArray, List.set_cons_zero, List.set_cons_succ]
  refine wpAnyH_ready (rs := [4]) (by kernel_rfl) (by simp) ?_
  refine AllReadyH.cons (o := _) (by simp only [List.getElem?_toArray, List.getElem?_cons_succ, List.getElem?_cons_zero]; rfl) (fun K hK => ?_) AllReadyH.nil
  go_simp
  (go_at_call 21; (with_reducible refine ((K3.out) _).mono ?_); rintro e w3 ⟨rfl, hb⟩; obtain ⟨hclw3, hfrw3⟩ := bcell hb; have zw3_a : w.heap.size < w3.heap.size := (by first | omega | (have hz := hb.size; (try simp at hz); omega)); have yw3_a : w.heap.size < w3.heap.size + 1 := (by omega); have yyw3_a : w.heap.size < w3.heap.size + 1 + 1 := (by omega); have zw3_one : w1.heap.size < w3.heap.size := (by first | omega | (have hz := hb.size; (try simp at hz); omega)); have yw3_one : w1.heap.size < w3.heap.size + 1 := (by omega); have yyw3_one : w1.heap.size < w3.heap.size + 1 + 1 := (by omega); have sxw3_0 : R1.heap.size ≤ w3.heap.size := (by first | omega | (have hz := hb.size; (try simp at hz); omega)); have sxw3_w2 : w2.heap.size ≤ w3.heap.size := (by first | omega | (have hz := hb.size; (try simp at hz); omega)); have HBw3 : Hid (Below w.heap.size w w3) := (bl_trans (by repeat (first | with_reducible exact Below.refl _ _ | with_reducible exact Hid.out (by assumption) | with_reducible refine Below.setCell ?_ (by first | (simp; done) | omega | (simp <;> omega)) _ | with_reducible refine bl_al ?_ _ | with_reducible apply Below.drew)) hb); clear hb)
  try go_wp2_with fail
  refine hK.out _ _ ?_ (fun hHeldN => ?_)
  · (try dsimp only); (first | (simp [*, go_sem]; done) | (simp [*, go_sem, World.cell?_alloc_past]; done))
  clear hK K hHeld; have hHeld := hHeldN; clear hHeldN
  try simp only [Act.put, List.setIfInBounds_toArray, List.set_cons_zero, List.set_cons_succ]
  refine wpAnyH_ready (rs := [9]) (by kernel_rfl) (by simp) ?_
  refine AllReadyH.cons (o := _) (by simp only [List.getElem?_toArray, List.getElem?_cons_succ, List.getElem?_cons_zero]; rfl) (fun K hK => ?_) AllReadyH.nil
  go_simp
  (go_at_call 21; (with_reducible refine ((K4.out) _).mono ?_); rintro e w4 ⟨rfl, hb⟩; obtain ⟨hclw4, hfrw4⟩ := bcell hb; have zw4_a : w.heap.size < w4.heap.size := (by first | omega | (have hz := hb.size; (try simp at hz); omega)); have yw4_a : w.heap.size < w4.heap.size + 1 := (by omega); have yyw4_a : w.heap.size < w4.heap.size + 1 + 1 := (by omega); have zw4_one : w1.heap.size < w4.heap.size := (by first | omega | (have hz := hb.size; (try simp at hz); omega)); have yw4_one : w1.heap.size < w4.heap.size + 1 := (by omega); have yyw4_one : w1.heap.size < w4.heap.size + 1 + 1 := (by omega); have sxw4_0 : R1.heap.size ≤ w4.heap.size := (by first | omega | (have hz := hb.size; (try simp at hz); omega)); have sxw4_w2 : w2.heap.size ≤ w4.heap.size := (by first | omega | (have hz := hb.size; (try simp at hz); omega)); have sxw4_w3 : w3.heap.size ≤ w4.heap.size := (by first | omega | (have hz := hb.size; (try simp at hz); omega)); have HBw4 : Hid (Below w.heap.size w w4) := (bl_trans (by repeat (first | with_reducible exact Below.refl _ _ | with_reducible exact Hid.out (by assumption) | with_reducible refine Below.setCell ?_ (by first | (simp; done) | omega | (simp <;> omega)) _ | with_reducible refine bl_al ?_ _ | with_reducible apply Below.drew)) hb); clear hb)
  try go_wp2_with fail
  refine hK.out _ _ ?_ (fun hHeldN => ?_)
  · (try dsimp only); (first | (simp [*, go_sem]; done) | (simp [*, go_sem, World.cell?_alloc_past]; done))
  clear hK K hHeld; have hHeld := hHeldN; clear hHeldN
  try simp only [Act.put, List.setIfInBounds_toArray, List.set_cons_zero, List.set_cons_succ]
  refine wpAnyH_take (i := 10) (oi := _) (v := ?_) (by simp only [List.getElem?_toArray, List.getElem?_cons_succ, List.getElem?_cons_zero]; rfl) (by kernel_rfl) (by kernel_rfl) (by kernel_rfl) (by exact fun _ _ _ h => h) (Or.inl ⟨by rfl, ?_⟩) (by assumption) ?_
  rotate_left 1
  · (intro w hSw; (try dsimp only at hSw); go_simp; try with_reducible rfl)
  try simp only [Act.put, List.setIfInBounds_toArray, List.set_cons_zero, List.set_cons_succ]
  refine wpAnyH_take (i := 11) (oi := _) (v := ?_) (by simp only [List.getElem?_toArray, List.getElem?_cons_succ, List.getElem?_cons_zero]; rfl) (by kernel_rfl) (by kernel_rfl) (by kernel_rfl) (by exact fun _ _ _ h => h) (Or.inl ⟨by rfl, ?_⟩) (by assumption) ?_
  rotate_left 1
  · (intro w hSw; (try dsimp only at hSw); go_simp; try with_reducible rfl)
  try simp only [Act.put, List.setIfInBounds_toArray, List.set_cons_zero, List.set_cons_succ]
  refine wpAnyH_take (i := 12) (oi := _) (v := ?_) (by simp only [List.getElem?_toArray, List.getElem?_cons_succ, List.getElem?_cons_zero]; rfl) (by kernel_rfl) (by kernel_rfl) (by kernel_rfl) (by exact fun _ _ _ h => h) (Or.inl ⟨by rfl, ?_⟩) (by assumption) ?_
  rotate_left 1
  · (intro w hSw; (try dsimp only at hSw); go_simp; try with_reducible rfl)
  try simp only [Act.put, List.setIfInBounds_toArray, List.set_cons_zero, List.set_cons_succ]
  refine wpAnyH_take (i := 13) (oi := _) (v := ?_) (by simp only [List.getElem?_toArray, List.getElem?_cons_succ, List.getElem?_cons_zero]; rfl) (by kernel_rfl) (by kernel_rfl) (by kernel_rfl) (by exact fun _ _ _ h => h) (Or.inl ⟨by rfl, ?_⟩) (by assumption) ?_
  rotate_left 1
  · (intro w hSw; (try dsimp only at hSw); go_simp; try with_reducible rfl)
  try simp only [Act.put, List.setIfInBounds_toArray, List.set_cons_zero, List.set_cons_succ]
  refine wpAnyH_take (i := 15) (oi := _) (v := ?_) (by simp only [List.getElem?_toArray, List.getElem?_cons_succ, List.getElem?_cons_zero]; rfl) (by kernel_rfl) (by kernel_rfl) (by kernel_rfl) (by exact fun _ _ _ h => h) (Or.inl ⟨by rfl, ?_⟩) (by assumption) ?_
  rotate_left 1
  · (intro w hSw; (try dsimp only at hSw); go_simp; try with_reducible rfl)
  try simp only [Act.put, List.setIfInBounds_toArray, List.set_cons_zero, List.set_cons_succ]
  refine wpAnyH_take (i := 17) (oi := _) (v := ?_) (by simp only [List.getElem?_toArray, List.getElem?_cons_succ, List.getElem?_cons_zero]; rfl) (by kernel_rfl) (by kernel_rfl) (by kernel_rfl) (by exact fun _ _ _ h => h) (Or.inl ⟨by rfl, ?_⟩) (by assumption) ?_
  rotate_left 1
  · (intro w hSw; (try dsimp only at hSw); go_simp; try with_reducible rfl)
  try simp only [Act.put, List.setIfInBounds_toArray, List.set_cons_zero, List.set_cons_succ]
  refine wpAnyH_take (i := 18) (oi := _) (v := ?_) (by simp only [List.getElem?_toArray, List.getElem?_cons_succ, List.getElem?_cons_zero]; rfl) (by kernel_rfl) (by kernel_rfl) (by kernel_rfl) (by exact fun _ _ _ h => h) (Or.inl ⟨by rfl, ?_⟩) (by assumption) ?_
  rotate_left 1
  · (intro w hSw; (try dsimp only at hSw); go_simp; try with_reducible rfl)
  try simp only [Act.put, List.setIfInBounds_toArray, List.set_cons_zero, List.set_cons_succ]
  refine wpAnyH_take (i := 19) (oi := _) (v := ?_) (by simp only [List.getElem?_toArray, List.getElem?_cons_succ, List.getElem?_cons_zero]; rfl) (by kernel_rfl) (by kernel_rfl) (by kernel_rfl) (by exact fun _ _ _ h => h) (Or.inl ⟨by rfl, ?_⟩) (by assumption) ?_
  rotate_left 1
  · (intro w hSw; (try dsimp only at hSw); go_simp; try with_reducible rfl)
  try simp only [Act.put, List.setIfInBounds_toArray, List.set_cons_zero, List.set_cons_succ]
  refine wpAnyH_take (i := 20) (oi := _) (v := ?_) (by simp only [List.getElem?_toArray, List.getElem?_cons_succ, List.getElem?_cons_zero]; rfl) (by kernel_rfl) (by kernel_rfl) (by kernel_rfl) (by exact fun _ _ _ h => h) (Or.inl ⟨by rfl, ?_⟩) (by assumption) ?_
  rotate_left 1
  · (intro w hSw; (try dsimp only at hSw); go_simp; try with_reducible rfl)
  try simp only [Act.put, List.setIfInBounds_toArray, List.set_cons_zero, List.set_cons_succ]
  refine wpAnyH_ready (rs := [14]) (by kernel_rfl) (by simp) ?_
  refine AllReadyH.cons (o := _) (by simp only [List.getElem?_toArray, List.getElem?_cons_succ, List.getElem?_cons_zero]; rfl) (fun K hK => ?_) AllReadyH.nil
  go_simp
  (go_at_call 23; (with_reducible refine ((K5.out) _).mono ?_); rintro e w5 ⟨rfl, hb⟩; obtain ⟨hclw5, hfrw5⟩ := bcell hb; have zw5_a : w.heap.size < w5.heap.size := (by first | omega | (have hz := hb.size; (try simp at hz); omega)); have yw5_a : w.heap.size < w5.heap.size + 1 := (by omega); have yyw5_a : w.heap.size < w5.heap.size + 1 + 1 := (by omega); have zw5_one : w1.heap.size < w5.heap.size := (by first | omega | (have hz := hb.size; (try simp at hz); omega)); have yw5_one : w1.heap.size < w5.heap.size + 1 := (by omega); have yyw5_one : w1.heap.size < w5.heap.size + 1 + 1 := (by omega); have sxw5_0 : R1.heap.size ≤ w5.heap.size := (by first | omega | (have hz := hb.size; (try simp at hz); omega)); have sxw5_w2 : w2.heap.size ≤ w5.heap.size := (by first | omega | (have hz := hb.size; (try simp at hz); omega)); have sxw5_w3 : w3.heap.size ≤ w5.heap.size := (by first | omega | (have hz := hb.size; (try simp at hz); omega)); have sxw5_w4 : w4.heap.size ≤ w5.heap.size := (by first | omega | (have hz := hb.size; (try simp at hz); omega)); have HBw5 : Hid (Below w.heap.size w w5) := (bl_trans (by repeat (first | with_reducible exact Below.refl _ _ | with_reducible exact Hid.out (by assumption) | with_reducible refine Below.setCell ?_ (by first | (simp; done) | omega | (simp <;> omega)) _ | with_reducible refine bl_al ?_ _ | with_reducible apply Below.drew)) hb); clear hb)
  try go_wp2_with fail
  refine hK.out _ _ ?_ (fun hHeldN => ?_)
  · (try dsimp only); (first | (simp [*, go_sem]; done) | (simp [*, go_sem, World.cell?_alloc_past]; done))
  clear hK K hHeld; have hHeld := hHeldN; clear hHeldN
  try simp only [Act.put, List.setIfInBounds_toArray, List.set_cons_zero, List.set_cons_succ]
  refine wpAnyH_ready (rs := [16]) (by kernel_rfl) (by simp) ?_
  refine AllReadyH.cons (o := _) (by simp only [List.getElem?_toArray, List.getElem?_cons_succ, List.getElem?_cons_zero]; rfl) (fun K hK => ?_) AllReadyH.nil
  go_simp
  (go_at_call 23; (with_reducible refine ((K6.out) _).mono ?_); rintro e w6 ⟨rfl, hb⟩; obtain ⟨hclw6, hfrw6⟩ := bcell hb; have zw6_a : w.heap.size < w6.heap.size := (by first | omega | (have hz := hb.size; (try simp at hz); omega)); have yw6_a : w.heap.size < w6.heap.size + 1 := (by omega); have yyw6_a : w.heap.size < w6.heap.size + 1 + 1 := (by omega); have zw6_one : w1.heap.size < w6.heap.size := (by first | omega | (have hz := hb.size; (try simp at hz); omega)); have yw6_one : w1.heap.size < w6.heap.size + 1 := (by omega); have yyw6_one : w1.heap.size < w6.heap.size + 1 + 1 := (by omega); have sxw6_0 : R1.heap.size ≤ w6.heap.size := (by first | omega | (have hz := hb.size; (try simp at hz); omega)); have sxw6_w2 : w2.heap.size ≤ w6.heap.size := (by first | omega | (have hz := hb.size; (try simp at hz); omega)); have sxw6_w3 : w3.heap.size ≤ w6.heap.size := (by first | omega | (have hz := hb.size; (try simp at hz); omega)); have sxw6_w4 : w4.heap.size ≤ w6.heap.size := (by first | omega | (have hz := hb.size; (try simp at hz); omega)); have sxw6_w5 : w5.heap.size ≤ w6.heap.size := (by first | omega | (have hz := hb.size; (try simp at hz); omega)); have HBw6 : Hid (Below w.heap.size w w6) := (bl_trans (by repeat (first | with_reducible exact Below.refl _ _ | with_reducible exact Hid.out (by assumption) | with_reducible refine Below.setCell ?_ (by first | (simp; done) | omega | (simp <;> omega)) _ | with_reducible refine bl_al ?_ _ | with_reducible apply Below.drew)) hb); clear hb)
  try go_wp2_with fail
  refine hK.out _ _ ?_ (fun hHeldN => ?_)
  · (try dsimp only); (first | (simp [*, go_sem]; done) | (simp [*, go_sem, World.cell?_alloc_past]; done))
  clear hK K hHeld; have hHeld := hHeldN; clear hHeldN
  try simp only [Act.put, List.setIfInBounds_toArray, List.set_cons_zero, List.set_cons_succ]
  refine wpAnyH_ready (rs := [21]) (by kernel_rfl) (by simp) ?_
  refine AllReadyH.cons (o := _) (by simp only [List.getElem?_toArray, List.getElem?_cons_succ, List.getElem?_cons_zero]; rfl) (fun K hK => ?_) AllReadyH.nil
  go_simp
  (go_at_call 23; (with_reducible refine ((K7.out) _).mono ?_); rintro e w7 ⟨rfl, hb⟩; obtain ⟨hclw7, hfrw7⟩ := bcell hb; have zw7_a : w.heap.size < w7.heap.size := (by first | omega | (have hz := hb.size; (try simp at hz); omega)); have yw7_a : w.heap.size < w7.heap.size + 1 := (by omega); have yyw7_a : w.heap.size < w7.heap.size + 1 + 1 := (by omega); have zw7_one : w1.heap.size < w7.heap.size := (by first | omega | (have hz := hb.size; (try simp at hz); omega)); have yw7_one : w1.heap.size < w7.heap.size + 1 := (by omega); have yyw7_one : w1.heap.size < w7.heap.size + 1 + 1 := (by omega); have sxw7_0 : R1.heap.size ≤ w7.heap.size := (by first | omega | (have hz := hb.size; (try simp at hz); omega)); have sxw7_w2 : w2.heap.size ≤ w7.heap.size := (by first | omega | (have hz := hb.size; (try simp at hz); omega)); have sxw7_w3 : w3.heap.size ≤ w7.heap.size := (by first | omega | (have hz := hb.size; (try simp at hz); omega)); have sxw7_w4 : w4.heap.size ≤ w7.heap.size := (by first | omega | (have hz := hb.size; (try simp at hz); omega)); have sxw7_w5 : w5.heap.size ≤ w7.heap.size := (by first | omega | (have hz := hb.size; (try simp at hz); omega)); have sxw7_w6 : w6.heap.size ≤ w7.heap.size := (by first | omega | (have hz := hb.size; (try simp at hz); omega)); have HBw7 : Hid (Below w.heap.size w w7) := (bl_trans (by repeat (first | with_reducible exact Below.refl _ _ | with_reducible exact Hid.out (by assumption) | with_reducible refine Below.setCell ?_ (by first | (simp; done) | omega | (simp <;> omega)) _ | with_reducible refine bl_al ?_ _ | with_reducible apply Below.drew)) hb); clear hb)
  try go_wp2_with fail
  refine hK.out _ _ ?_ (fun hHeldN => ?_)
  · (try dsimp only); (first | (simp [*, go_sem]; done) | (simp [*, go_sem, World.cell?_alloc_past]; done))
  clear hK K hHeld; have hHeld := hHeldN; clear hHeldN
  try simp only [Act.put, List.setIfInBounds_toArray, List.set_cons_zero, List.set_cons_succ]
  refine wpAnyH_take (i := 22) (oi := _) (v := ?_) (by simp only [List.getElem?_toArray, List.getElem?_cons_succ, List.getElem?_cons_zero]; rfl) (by kernel_rfl) (by kernel_rfl) (by kernel_rfl) (by exact fun _ _ _ h => h) (Or.inl ⟨by rfl, ?_⟩) (by assumption) ?_
  rotate_left 1
  · (intro w hSw; (try dsimp only at hSw); go_simp; try with_reducible rfl)
  try simp only [Act.put, List.setIfInBounds_toArray, List.set_cons_zero, List.set_cons_succ]
  refine wpAnyH_take (i := 23) (oi := _) (v := ?_) (by simp only [List.getElem?_toArray, List.getElem?_cons_succ, List.getElem?_cons_zero]; rfl) (by kernel_rfl) (by kernel_rfl) (by kernel_rfl) (by exact fun _ _ _ h => h) (Or.inl ⟨by rfl, ?_⟩) (by assumption) ?_
  rotate_left 1
  · (intro w hSw; (try dsimp only at hSw); go_simp; try with_reducible rfl)
  try simp only [Act.put, List.setIfInBounds_toArray, List.set_cons_zero, List.set_cons_succ]
  refine wpAnyH_done (by kernel_rfl) ?_ _
  clear hHeld
  go_upto_region 6 with fail
  refine name_world (P := fun W => Code.wp _ _ _ _ W) _ (fun R2 hR2 => ?_)
  have zR2_a : w.heap.size < R2.heap.size := by rw [hR2]; first | omega | (simp <;> omega)
  have yR2_a : w.heap.size < R2.heap.size + 1 := by omega
  have yyR2_a : w.heap.size < R2.heap.size + 1 + 1 := by omega
  have cR2_a_0 : R2.cell? ⟨w.heap.size, 0, none⟩ = some (.int .u64 a3) := by rw [hR2]; first | assumption | (simp [go_sem, *]; done)
  have cR2_a_1 : R2.cell? ⟨w.heap.size, 1, none⟩ = some (.int .u64 a2) := by rw [hR2]; first | assumption | (simp [go_sem, *]; done)
  have cR2_a_2 : R2.cell? ⟨w.heap.size, 2, none⟩ = some (.int .u64 a1) := by rw [hR2]; first | assumption | (simp [go_sem, *]; done)
  have cR2_a_3 : R2.cell? ⟨w.heap.size, 3, none⟩ = some (.int .u64 a0) := by rw [hR2]; first | assumption | (simp [go_sem, *]; done)
  have zR2_one : w1.heap.size < R2.heap.size := by rw [hR2]; first | omega | (simp <;> omega)
  have yR2_one : w1.heap.size < R2.heap.size + 1 := by omega
  have yyR2_one : w1.heap.size < R2.heap.size + 1 + 1 := by omega
  have cR2_one_0 : R2.cell? ⟨w1.heap.size, 0, none⟩ = some (.int .u64 0) := by rw [hR2]; first | assumption | (simp [go_sem, *]; done)
  have cR2_one_1 : R2.cell? ⟨w1.heap.size, 1, none⟩ = some (.int .u64 0) := by rw [hR2]; first | assumption | (simp [go_sem, *]; done)
  have cR2_one_2 : R2.cell? ⟨w1.heap.size, 2, none⟩ = some (.int .u64 0) := by rw [hR2]; first | assumption | (simp [go_sem, *]; done)
  have cR2_one_3 : R2.cell? ⟨w1.heap.size, 3, none⟩ = some (.int .u64 1) := by rw [hR2]; first | assumption | (simp [go_sem, *]; done)
  have HBR2 : Hid (Below w.heap.size w R2) := by rw [hR2]; show Below _ _ _; exact (by repeat (first | with_reducible exact Below.refl _ _ | with_reducible exact Hid.out (by assumption) | with_reducible refine Below.setCell ?_ (by first | (simp; done) | omega | (simp <;> omega)) _ | with_reducible refine bl_al ?_ _ | with_reducible apply Below.drew))
  clear hR2
  clear zR1_a yR1_a yyR1_a cR1_a_0 cR1_a_1 cR1_a_2 cR1_a_3 zR1_one yR1_one yyR1_one cR1_one_0 cR1_one_1 cR1_one_2 cR1_one_3 HBR1 zw2_a yw2_a yyw2_a zw2_one yw2_one yyw2_one sxw2_0 hclw2 hfrw2 HBw2 zw3_a yw3_a yyw3_a zw3_one yw3_one yyw3_one sxw3_0 sxw3_w2 hclw3 hfrw3 HBw3 zw4_a yw4_a yyw4_a zw4_one yw4_one yyw4_one sxw4_0 sxw4_w2 sxw4_w3 hclw4 hfrw4 HBw4 zw5_a yw5_a yyw5_a zw5_one yw5_one yyw5_one sxw5_0 sxw5_w2 sxw5_w3 sxw5_w4 hclw5 hfrw5 HBw5 zw6_a yw6_a yyw6_a zw6_one yw6_one yyw6_one sxw6_0 sxw6_w2 sxw6_w3 sxw6_w4 sxw6_w5 hclw6 hfrw6 HBw6 zw7_a yw7_a yyw7_a zw7_one yw7_one yyw7_one sxw7_0 sxw7_w2 sxw7_w3 sxw7_w4 sxw7_w5 sxw7_w6 hclw7 hfrw7 HBw7
  refine wp_region_held_drew (S := fun w' => w'.cell? ⟨w.heap.size, 0, none⟩ = some (.int .u64 a3) ∧ w'.cell? ⟨w.heap.size, 1, none⟩ = some (.int .u64 a2) ∧ w'.cell? ⟨w.heap.size, 2, none⟩ = some (.int .u64 a1) ∧ w'.cell? ⟨w.heap.size, 3, none⟩ = some (.int .u64 a0)) (by kernel_rfl) ?_ (fun hHeld => ?_)
  · (try dsimp only); (first | (simp [*, go_sem]; done) | (simp [*, go_sem, World.cell?_alloc_past]; done))
  refine wpAnyH_take (i := 0) (oi := _) (v := ?_) (by simp only [List.getElem?_toArray, List.getElem?_cons_zero]; rfl) (by kernel_rfl) (by kernel_rfl) (by kernel_rfl) (by exact fun _ _ _ h => h) (Or.inl ⟨by rfl, ?_⟩) (by assumption) ?_
  rotate_left 1
  · (intro w hSw; (try dsimp only at hSw); go_simp; try with_reducible rfl)
  try simp only [Act.put, List.setIfInBounds_toArray, List.set_cons_zero, List.set_cons_succ]
  refine wpAnyH_take (i := 1) (oi := _) (v := ?_) (by simp only [List.getElem?_toArray, List.getElem?_cons_succ, List.getElem?_cons_zero]; rfl) (by kernel_rfl) (by kernel_rfl) (by kernel_rfl) (by exact fun _ _ _ h => h) (Or.inl ⟨by rfl, ?_⟩) (by assumption) ?_
  rotate_left 1
  · (intro w hSw; (try dsimp only at hSw); go_simp; try with_reducible rfl)
  try simp only [Act.put, List.setIfInBounds_toArray, List.set_cons_zero, List.set_cons_succ]
  refine wpAnyH_take (i := 2) (oi := _) (v := ?_) (by simp only [List.getElem?_toArray, List.getElem?_cons_succ, List.getElem?_cons_zero]; rfl) (by kernel_rfl) (by kernel_rfl) (by kernel_rfl) (by exact fun _ _ _ h => h) (Or.inl ⟨by rfl, ?_⟩) (by assumption) ?_
  rotate_left 1
  · (intro w hSw; (try dsimp only at hSw); go_simp; try with_reducible rfl)
  try simp only [Act.put, List.setIfInBounds_toArray, List.set_cons_zero, List.set_cons_succ]
  refine wpAnyH_take (i := 3) (oi := _) (v := ?_) (by simp only [List.getElem?_toArray, List.getElem?_cons_succ, List.getElem?_cons_zero]; rfl) (by kernel_rfl) (by kernel_rfl) (by kernel_rfl) (by exact fun _ _ _ h => h) (Or.inl ⟨by rfl, ?_⟩) (by assumption) ?_
  rotate_left 1
  · (intro w hSw; (try dsimp only at hSw); go_simp; try with_reducible rfl)
  try simp only [Act.put, List.setIfInBounds_toArray, List.set_cons_zero, List.set_cons_succ]
  refine wpAnyH_take (i := 4) (oi := _) (v := ?_) (by simp only [List.getElem?_toArray, List.getElem?_cons_succ, List.getElem?_cons_zero]; rfl) (by kernel_rfl) (by kernel_rfl) (by kernel_rfl) (by exact fun _ _ _ h => h) (Or.inl ⟨by rfl, ?_⟩) (by assumption) ?_
  rotate_left 1
  · (intro w hSw; (try dsimp only at hSw); go_simp; try with_reducible rfl)
  try simp only [Act.put, List.setIfInBounds_toArray, List.set_cons_zero, List.set_cons_succ]
  refine wpAnyH_take (i := 5) (oi := _) (v := undef) (by simp only [List.getElem?_toArray, List.getElem?_cons_succ, List.getElem?_cons_zero]; rfl) (by kernel_rfl) (by kernel_rfl) (by kernel_rfl) (by exact fun _ _ _ h => h) (Or.inr ⟨by rfl, rfl⟩) (by assumption) ?_
  try simp only [Act.put, List.setIfInBounds_toArray, List.set_cons_zero, List.set_cons_succ]
  refine wpAnyH_take (i := 6) (oi := _) (v := undef) (by simp only [List.getElem?_toArray, List.getElem?_cons_succ, List.getElem?_cons_zero]; rfl) (by kernel_rfl) (by kernel_rfl) (by kernel_rfl) (by exact fun _ _ _ h => h) (Or.inr ⟨by rfl, rfl⟩) (by assumption) ?_
  try simp only [Act.put, List.setIfInBounds_toArray, List.set_cons_zero, List.set_cons_succ]
  refine wpAnyH_take (i := 8) (oi := _) (v := undef) (by simp only [List.getElem?_toArray, List.getElem?_cons_succ, List.getElem?_cons_zero]; rfl) (by kernel_rfl) (by kernel_rfl) (by kernel_rfl) (by exact fun _ _ _ h => h) (Or.inr ⟨by rfl, rfl⟩) (by assumption) ?_
  try simp only [Act.put, List.setIfInBounds_toArray, List.set_cons_zero, List.set_cons_succ]
  refine wpAnyH_take (i := 10) (oi := _) (v := undef) (by simp only [List.getElem?_toArray, List.getElem?_cons_succ, List.getElem?_cons_zero]; rfl) (by kernel_rfl) (by kernel_rfl) (by kernel_rfl) (by exact fun _ _ _ h => h) (Or.inr ⟨by rfl, rfl⟩) (by assumption) ?_
  try simp only [Act.put, List.setIfInBounds_toArray, List.set_cons_zero, List.set_cons_succ]
  refine wpAnyH_ready (rs := [7]) (by kernel_rfl) (by simp) ?_
  refine AllReadyH.cons (o := _) (by simp only [List.getElem?_toArray, List.getElem?_cons_succ, List.getElem?_cons_zero]; rfl) (fun K hK => ?_) AllReadyH.nil
  go_simp
  refine hK.out _ _ ?_ (fun hHeldN => ?_)
  · (try dsimp only); (first | (simp [*, go_sem]; done) | (simp [*, go_sem, World.cell?_alloc_past]; done))
  clear hK K hHeld; have hHeld := hHeldN; clear hHeldN
  try simp only [Act.put, List.setIfInBounds_toArray, List.set_cons_zero, List.set_cons_succ]
  refine wpAnyH_ready (rs := [9]) (by kernel_rfl) (by simp) ?_
  refine AllReadyH.cons (o := _) (by simp only [List.getElem?_toArray, List.getElem?_cons_succ, List.getElem?_cons_zero]; rfl) (fun K hK => ?_) AllReadyH.nil
  go_simp
  refine hK.out _ _ ?_ (fun hHeldN => ?_)
  · (try dsimp only); (first | (simp [*, go_sem]; done) | (simp [*, go_sem, World.cell?_alloc_past]; done))
  clear hK K hHeld; have hHeld := hHeldN; clear hHeldN
  try simp only [Act.put, List.setIfInBounds_toArray, List.set_cons_zero, List.set_cons_succ]
  refine wpAnyH_take (i := 11) (oi := _) (v := undef) (by simp only [List.getElem?_toArray, List.getElem?_cons_succ, List.getElem?_cons_zero]; rfl) (by kernel_rfl) (by kernel_rfl) (by kernel_rfl) (by exact fun _ _ _ h => h) (Or.inr ⟨by rfl, rfl⟩) (by assumption) ?_
  try simp only [Act.put, List.setIfInBounds_toArray, List.set_cons_zero, List.set_cons_succ]
  refine wpAnyH_take (i := 12) (oi := _) (v := ?_) (by simp only [List.getElem?_toArray, List.getElem?_cons_succ, List.getElem?_cons_zero]; rfl) (by kernel_rfl) (by kernel_rfl) (by kernel_rfl) (by exact fun _ _ _ h => h) (Or.inl ⟨by rfl, ?_⟩) (by assumption) ?_
  rotate_left 1
  · (intro w hSw; (try dsimp only at hSw); go_simp; try with_reducible rfl)
  try simp only [Act.put, List.setIfInBounds_toArray, List.set_cons_zero, List.set_cons_succ]
  refine wpAnyH_done (by kernel_rfl) ?_ _
  clear hHeld
  go_upto_region 8 with fail
  refine name_world (P := fun W => Code.wp _ _ _ _ W) _ (fun R3 hR3 => ?_)
  have zR3_a : w.heap.size < R3.heap.size := by rw [hR3]; first | omega | (simp <;> omega)
  have yR3_a : w.heap.size < R3.heap.size + 1 := by omega
  have yyR3_a : w.heap.size < R3.heap.size + 1 + 1 := by omega
  have cR3_a_0 : R3.cell? ⟨w.heap.size, 0, none⟩ = some (.int .u64 a3) := by rw [hR3]; first | assumption | (simp [go_sem, *]; done)
  have cR3_a_1 : R3.cell? ⟨w.heap.size, 1, none⟩ = some (.int .u64 a2) := by rw [hR3]; first | assumption | (simp [go_sem, *]; done)
  have cR3_a_2 : R3.cell? ⟨w.heap.size, 2, none⟩ = some (.int .u64 a1) := by rw [hR3]; first | assumption | (simp [go_sem, *]; done)
  have cR3_a_3 : R3.cell? ⟨w.heap.size, 3, none⟩ = some (.int .u64 a0) := by rw [hR3]; first | assumption | (simp [go_sem, *]; done)
  have zR3_one : w1.heap.size < R3.heap.size := by rw [hR3]; first | omega | (simp <;> omega)
  have yR3_one : w1.heap.size < R3.heap.size + 1 := by omega
  have yyR3_one : w1.heap.size < R3.heap.size + 1 + 1 := by omega
  have cR3_one_0 : R3.cell? ⟨w1.heap.size, 0, none⟩ = some (.int .u64 0) := by rw [hR3]; first | assumption | (simp [go_sem, *]; done)
  have cR3_one_1 : R3.cell? ⟨w1.heap.size, 1, none⟩ = some (.int .u64 0) := by rw [hR3]; first | assumption | (simp [go_sem, *]; done)
  have cR3_one_2 : R3.cell? ⟨w1.heap.size, 2, none⟩ = some (.int .u64 0) := by rw [hR3]; first | assumption | (simp [go_sem, *]; done)
  have cR3_one_3 : R3.cell? ⟨w1.heap.size, 3, none⟩ = some (.int .u64 1) := by rw [hR3]; first | assumption | (simp [go_sem, *]; done)
  have HBR3 : Hid (Below w.heap.size w R3) := by rw [hR3]; show Below _ _ _; exact (by repeat (first | with_reducible exact Below.refl _ _ | with_reducible exact Hid.out (by assumption) | with_reducible refine Below.setCell ?_ (by first | (simp; done) | omega | (simp <;> omega)) _ | with_reducible refine bl_al ?_ _ | with_reducible apply Below.drew))
  clear hR3
  clear zR2_a yR2_a yyR2_a cR2_a_0 cR2_a_1 cR2_a_2 cR2_a_3 zR2_one yR2_one yyR2_one cR2_one_0 cR2_one_1 cR2_one_2 cR2_one_3 HBR2
  refine wp_region_held_drew (S := fun w' => w'.cell? ⟨w.heap.size, 0, none⟩ = some (.int .u64 a3) ∧ w'.cell? ⟨w.heap.size, 1, none⟩ = some (.int .u64 a2) ∧ w'.cell? ⟨w.heap.size, 2, none⟩ = some (.int .u64 a1) ∧ w'.cell? ⟨w.heap.size, 3, none⟩ = some (.int .u64 a0) ∧ w'.cell? ⟨w1.heap.size, 0, none⟩ = some (.int .u64 0) ∧ w'.cell? ⟨w1.heap.size, 1, none⟩ = some (.int .u64 0) ∧ w'.cell? ⟨w1.heap.size, 2, none⟩ = some (.int .u64 0) ∧ w'.cell? ⟨w1.heap.size, 3, none⟩ = some (.int .u64 1)) (by kernel_rfl) ?_ (fun hHeld => ?_)
  · (try dsimp only); (first | (simp [*, go_sem]; done) | (simp [*, go_sem, World.cell?_alloc_past]; done))
  refine wpAnyH_take (i := 0) (oi := _) (v := ?_) (by simp only [List.getElem?_toArray, List.getElem?_cons_zero]; rfl) (by kernel_rfl) (by kernel_rfl) (by kernel_rfl) (by exact fun _ _ _ h => h) (Or.inl ⟨by rfl, ?_⟩) (by assumption) ?_
  rotate_left 1
  · (intro w hSw; (try dsimp only at hSw); go_simp; try with_reducible rfl)
  try simp only [Act.put, List.setIfInBounds_toArray, List.set_cons_zero, List.set_cons_succ]
  refine wpAnyH_take (i := 1) (oi := _) (v := ?_) (by simp only [List.getElem?_toArray, List.getElem?_cons_succ, List.getElem?_cons_zero]; rfl) (by kernel_rfl) (by kernel_rfl) (by kernel_rfl) (by exact fun _ _ _ h => h) (Or.inl ⟨by rfl, ?_⟩) (by assumption) ?_
  rotate_left 1
  · (intro w hSw; (try dsimp only at hSw); go_simp; try with_reducible rfl)
  try simp only [Act.put, List.setIfInBounds_toArray, List.set_cons_zero, List.set_cons_succ]
  refine wpAnyH_take (i := 2) (oi := _) (v := ?_) (by simp only [List.getElem?_toArray, List.getElem?_cons_succ, List.getElem?_cons_zero]; rfl) (by kernel_rfl) (by kernel_rfl) (by kernel_rfl) (by exact fun _ _ _ h => h) (Or.inl ⟨by rfl, ?_⟩) (by assumption) ?_
  rotate_left 1
  · (intro w hSw; (try dsimp only at hSw); go_simp; try with_reducible rfl)
  try simp only [Act.put, List.setIfInBounds_toArray, List.set_cons_zero, List.set_cons_succ]
  refine wpAnyH_take (i := 3) (oi := _) (v := ?_) (by simp only [List.getElem?_toArray, List.getElem?_cons_succ, List.getElem?_cons_zero]; rfl) (by kernel_rfl) (by kernel_rfl) (by kernel_rfl) (by exact fun _ _ _ h => h) (Or.inl ⟨by rfl, ?_⟩) (by assumption) ?_
  rotate_left 1
  · (intro w hSw; (try dsimp only at hSw); go_simp; try with_reducible rfl)
  try simp only [Act.put, List.setIfInBounds_toArray, List.set_cons_zero, List.set_cons_succ]
  refine wpAnyH_take (i := 4) (oi := _) (v := ?_) (by simp only [List.getElem?_toArray, List.getElem?_cons_succ, List.getElem?_cons_zero]; rfl) (by kernel_rfl) (by kernel_rfl) (by kernel_rfl) (by exact fun _ _ _ h => h) (Or.inl ⟨by rfl, ?_⟩) (by assumption) ?_
  rotate_left 1
  · (intro w hSw; (try dsimp only at hSw); go_simp; try with_reducible rfl)
  try simp only [Act.put, List.setIfInBounds_toArray, List.set_cons_zero, List.set_cons_succ]
  refine wpAnyH_take (i := 5) (oi := _) (v := ?_) (by simp only [List.getElem?_toArray, List.getElem?_cons_succ, List.getElem?_cons_zero]; rfl) (by kernel_rfl) (by kernel_rfl) (by kernel_rfl) (by exact fun _ _ _ h => h) (Or.inl ⟨by rfl, ?_⟩) (by assumption) ?_
  rotate_left 1
  · (intro w hSw; (try dsimp only at hSw); go_simp; try with_reducible rfl)
  try simp only [Act.put, List.setIfInBounds_toArray, List.set_cons_zero, List.set_cons_succ]
  refine wpAnyH_take (i := 6) (oi := _) (v := ?_) (by simp only [List.getElem?_toArray, List.getElem?_cons_succ, List.getElem?_cons_zero]; rfl) (by kernel_rfl) (by kernel_rfl) (by kernel_rfl) (by exact fun _ _ _ h => h) (Or.inl ⟨by rfl, ?_⟩) (by assumption) ?_
  rotate_left 1
  · (intro w hSw; (try dsimp only at hSw); go_simp; try with_reducible rfl)
  try simp only [Act.put, List.setIfInBounds_toArray, List.set_cons_zero, List.set_cons_succ]
  refine wpAnyH_take (i := 7) (oi := _) (v := ?_) (by simp only [List.getElem?_toArray, List.getElem?_cons_succ, List.getElem?_cons_zero]; rfl) (by kernel_rfl) (by kernel_rfl) (by kernel_rfl) (by exact fun _ _ _ h => h) (Or.inl ⟨by rfl, ?_⟩) (by assumption) ?_
  rotate_left 1
  · (intro w hSw; (try dsimp only at hSw); go_simp; try with_reducible rfl)
  try simp only [Act.put, List.setIfInBounds_toArray, List.set_cons_zero, List.set_cons_succ]
  refine wpAnyH_take (i := 8) (oi := _) (v := ?_) (by simp only [List.getElem?_toArray, List.getElem?_cons_succ, List.getElem?_cons_zero]; rfl) (by kernel_rfl) (by kernel_rfl) (by kernel_rfl) (by exact fun _ _ _ h => h) (Or.inl ⟨by rfl, ?_⟩) (by assumption) ?_
  rotate_left 1
  · (intro w hSw; (try dsimp only at hSw); go_simp; try with_reducible rfl)
  try simp only [Act.put, List.setIfInBounds_toArray, List.set_cons_zero, List.set_cons_succ]
  refine wpAnyH_take (i := 9) (oi := _) (v := ?_) (by simp only [List.getElem?_toArray, List.getElem?_cons_succ, List.getElem?_cons_zero]; rfl) (by kernel_rfl) (by kernel_rfl) (by kernel_rfl) (by exact fun _ _ _ h => h) (Or.inl ⟨by rfl, ?_⟩) (by assumption) ?_
  rotate_left 1
  · (intro w hSw; (try dsimp only at hSw); go_simp; try with_reducible rfl)
  try simp only [Act.put, List.setIfInBounds_toArray, List.set_cons_zero, List.set_cons_succ]
  refine wpAnyH_take (i := 10) (oi := _) (v := ?_) (by simp only [List.getElem?_toArray, List.getElem?_cons_succ, List.getElem?_cons_zero]; rfl) (by kernel_rfl) (by kernel_rfl) (by kernel_rfl) (by exact fun _ _ _ h => h) (Or.inl ⟨by rfl, ?_⟩) (by assumption) ?_
  rotate_left 1
  · (intro w hSw; (try dsimp only at hSw); go_simp; try with_reducible rfl)
  try simp only [Act.put, List.setIfInBounds_toArray, List.set_cons_zero, List.set_cons_succ]
  refine wpAnyH_take (i := 11) (oi := _) (v := ?_) (by simp only [List.getElem?_toArray, List.getElem?_cons_succ, List.getElem?_cons_zero]; rfl) (by kernel_rfl) (by kernel_rfl) (by kernel_rfl) (by exact fun _ _ _ h => h) (Or.inl ⟨by rfl, ?_⟩) (by assumption) ?_
  rotate_left 1
  · (intro w hSw; (try dsimp only at hSw); go_simp; try with_reducible rfl)
  try simp only [Act.put, List.setIfInBounds_toArray, List.set_cons_zero, List.set_cons_succ]
  refine wpAnyH_take (i := 12) (oi := _) (v := ?_) (by simp only [List.getElem?_toArray, List.getElem?_cons_succ, List.getElem?_cons_zero]; rfl) (by kernel_rfl) (by kernel_rfl) (by kernel_rfl) (by exact fun _ _ _ h => h) (Or.inl ⟨by rfl, ?_⟩) (by assumption) ?_
  rotate_left 1
  · (intro w hSw; (try dsimp only at hSw); go_simp; try with_reducible rfl)
  try simp only [Act.put, List.setIfInBounds_toArray, List.set_cons_zero, List.set_cons_succ]
  refine wpAnyH_ready (rs := [13]) (by kernel_rfl) (by simp) ?_
  refine AllReadyH.cons (o := _) (by simp only [List.getElem?_toArray, List.getElem?_cons_succ, List.getElem?_cons_zero]; rfl) (fun K hK => ?_) AllReadyH.nil
  go_simp
  (go_at_call 21; (with_reducible refine ((K8.out) _).mono ?_); rintro e w8 ⟨rfl, hb⟩; (first | (with_reducible (obtain ⟨hclw8, hfrw8⟩ := bcell_drew hb)) | (obtain ⟨hclw8, hfrw8⟩ := bcell hb)); have zw8_a : w.heap.size < w8.heap.size := (by first | omega | (have hz := hb.size; (try simp at hz); omega)); have yw8_a : w.heap.size < w8.heap.size + 1 := (by omega); have yyw8_a : w.heap.size < w8.heap.size + 1 + 1 := (by omega); have zw8_one : w1.heap.size < w8.heap.size := (by first | omega | (have hz := hb.size; (try simp at hz); omega)); have yw8_one : w1.heap.size < w8.heap.size + 1 := (by omega); have yyw8_one : w1.heap.size < w8.heap.size + 1 + 1 := (by omega); have sxw8_0 : R3.heap.size ≤ w8.heap.size := (by first | omega | (have hz := hb.size; (try simp at hz); omega)); have HBw8 : Hid (Below w.heap.size w w8) := (bl_trans (by repeat (first | with_reducible exact Below.refl _ _ | with_reducible exact Hid.out (by assumption) | with_reducible refine Below.setCell ?_ (by first | (simp; done) | omega | (simp <;> omega)) _ | with_reducible refine bl_al ?_ _ | with_reducible apply Below.drew)) hb); clear hb)
  try go_wp2_with fail
  refine hK.out _ _ ?_ (fun hHeldN => ?_)
  · (try dsimp only); (first | (simp [*, go_sem]; done) | (simp [*, go_sem, World.cell?_alloc_past]; done))
  clear hK K hHeld; have hHeld := hHeldN; clear hHeldN
  try simp only [Act.put, List.setIfInBounds_toArray, List.set_cons_zero, List.set_cons_succ]
  refine wpAnyH_ready (rs := [14]) (by kernel_rfl) (by simp) ?_
  refine AllReadyH.cons (o := _) (by simp only [List.getElem?_toArray, List.getElem?_cons_succ, List.getElem?_cons_zero]; rfl) (fun K hK => ?_) AllReadyH.nil
  go_simp
  (go_at_call 25; (with_reducible refine ((K9.out) _).mono ?_); rintro e w9 ⟨rfl, hb⟩; obtain ⟨hclw9, hfrw9⟩ := bcell hb; have zw9_a : w.heap.size < w9.heap.size := (by first | omega | (have hz := hb.size; (try simp at hz); omega)); have yw9_a : w.heap.size < w9.heap.size + 1 := (by omega); have yyw9_a : w.heap.size < w9.heap.size + 1 + 1 := (by omega); have zw9_one : w1.heap.size < w9.heap.size := (by first | omega | (have hz := hb.size; (try simp at hz); omega)); have yw9_one : w1.heap.size < w9.heap.size + 1 := (by omega); have yyw9_one : w1.heap.size < w9.heap.size + 1 + 1 := (by omega); have sxw9_0 : R3.heap.size ≤ w9.heap.size := (by first | omega | (have hz := hb.size; (try simp at hz); omega)); have sxw9_w8 : w8.heap.size ≤ w9.heap.size := (by first | omega | (have hz := hb.size; (try simp at hz); omega)); have HBw9 : Hid (Below w.heap.size w w9) := (bl_trans (by repeat (first | with_reducible exact Below.refl _ _ | with_reducible exact Hid.out (by assumption) | with_reducible refine Below.setCell ?_ (by first | (simp; done) | omega | (simp <;> omega)) _ | with_reducible refine bl_al ?_ _ | with_reducible apply Below.drew)) hb); clear hb)
  try go_wp2_with fail
  refine hK.out _ _ ?_ (fun hHeldN => ?_)
  · (try dsimp only); (first | (simp [*, go_sem]; done) | (simp [*, go_sem, World.cell?_alloc_past]; done))
  clear hK K hHeld; have hHeld := hHeldN; clear hHeldN
  try simp only [Act.put, List.setIfInBounds_toArray, List.set_cons_zero, List.set_cons_succ]
  refine wpAnyH_take (i := 15) (oi := _) (v := ?_) (by simp only [List.getElem?_toArray, List.getElem?_cons_succ, List.getElem?_cons_zero]; rfl) (by kernel_rfl) (by kernel_rfl) (by kernel_rfl) (by exact fun _ _ _ h => h) (Or.inl ⟨by rfl, ?_⟩) (by assumption) ?_
  rotate_left 1
  · (intro w hSw; (try dsimp only at hSw); go_simp; try with_reducible rfl)
  try simp only [Act.put, List.setIfInBounds_toArray, List.set_cons_zero, List.set_cons_succ]
  refine wpAnyH_take (i := 16) (oi := _) (v := ?_) (by simp only [List.getElem?_toArray, List.getElem?_cons_succ, List.getElem?_cons_zero]; rfl) (by kernel_rfl) (by kernel_rfl) (by kernel_rfl) (by exact fun _ _ _ h => h) (Or.inl ⟨by rfl, ?_⟩) (by assumption) ?_
  rotate_left 1
  · (intro w hSw; (try dsimp only at hSw); go_simp; try with_reducible rfl)
  try simp only [Act.put, List.setIfInBounds_toArray, List.set_cons_zero, List.set_cons_succ]
  refine wpAnyH_take (i := 17) (oi := _) (v := ?_) (by simp only [List.getElem?_toArray, List.getElem?_cons_succ, List.getElem?_cons_zero]; rfl) (by kernel_rfl) (by kernel_rfl) (by kernel_rfl) (by exact fun _ _ _ h => h) (Or.inl ⟨by rfl, ?_⟩) (by assumption) ?_
  rotate_left 1
  · (intro w hSw; (try dsimp only at hSw); go_simp; try with_reducible rfl)
  try simp only [Act.put, List.setIfInBounds_toArray, List.set_cons_zero, List.set_cons_succ]
  refine wpAnyH_take (i := 18) (oi := _) (v := ?_) (by simp only [List.getElem?_toArray, List.getElem?_cons_succ, List.getElem?_cons_zero]; rfl) (by kernel_rfl) (by kernel_rfl) (by kernel_rfl) (by exact fun _ _ _ h => h) (Or.inl ⟨by rfl, ?_⟩) (by assumption) ?_
  rotate_left 1
  · (intro w hSw; (try dsimp only at hSw); go_simp; try with_reducible rfl)
  try simp only [Act.put, List.setIfInBounds_toArray, List.set_cons_zero, List.set_cons_succ]
  refine wpAnyH_take (i := 19) (oi := _) (v := ?_) (by simp only [List.getElem?_toArray, List.getElem?_cons_succ, List.getElem?_cons_zero]; rfl) (by kernel_rfl) (by kernel_rfl) (by kernel_rfl) (by exact fun _ _ _ h => h) (Or.inl ⟨by rfl, ?_⟩) (by assumption) ?_
  rotate_left 1
  · (intro w hSw; (try dsimp only at hSw); go_simp; try with_reducible rfl)
  try simp only [Act.put, List.setIfInBounds_toArray, List.set_cons_zero, List.set_cons_succ]
  refine wpAnyH_take (i := 20) (oi := _) (v := ?_) (by simp only [List.getElem?_toArray, List.getElem?_cons_succ, List.getElem?_cons_zero]; rfl) (by kernel_rfl) (by kernel_rfl) (by kernel_rfl) (by exact fun _ _ _ h => h) (Or.inl ⟨by rfl, ?_⟩) (by assumption) ?_
  rotate_left 1
  · (intro w hSw; (try dsimp only at hSw); go_simp; try with_reducible rfl)
  try simp only [Act.put, List.setIfInBounds_toArray, List.set_cons_zero, List.set_cons_succ]
  refine wpAnyH_take (i := 21) (oi := _) (v := ?_) (by simp only [List.getElem?_toArray, List.getElem?_cons_succ, List.getElem?_cons_zero]; rfl) (by kernel_rfl) (by kernel_rfl) (by kernel_rfl) (by exact fun _ _ _ h => h) (Or.inl ⟨by rfl, ?_⟩) (by assumption) ?_
  rotate_left 1
  · (intro w hSw; (try dsimp only at hSw); go_simp; try with_reducible rfl)
  try simp only [Act.put, List.setIfInBounds_toArray, List.set_cons_zero, List.set_cons_succ]
  refine wpAnyH_take (i := 22) (oi := _) (v := ?_) (by simp only [List.getElem?_toArray, List.getElem?_cons_succ, List.getElem?_cons_zero]; rfl) (by kernel_rfl) (by kernel_rfl) (by kernel_rfl) (by exact fun _ _ _ h => h) (Or.inl ⟨by rfl, ?_⟩) (by assumption) ?_
  rotate_left 1
  · (intro w hSw; (try dsimp only at hSw); go_simp; try with_reducible rfl)
  try simp only [Act.put, List.setIfInBounds_toArray, List.set_cons_zero, List.set_cons_succ]
  refine wpAnyH_take (i := 23) (oi := _) (v := ?_) (by simp only [List.getElem?_toArray, List.getElem?_cons_succ, List.getElem?_cons_zero]; rfl) (by kernel_rfl) (by kernel_rfl) (by kernel_rfl) (by exact fun _ _ _ h => h) (Or.inl ⟨by rfl, ?_⟩) (by assumption) ?_
  rotate_left 1
  · (intro w hSw; (try dsimp only at hSw); go_simp; try with_reducible rfl)
  try simp only [Act.put, List.setIfInBounds_toArray, List.set_cons_zero, List.set_cons_succ]
  refine wpAnyH_take (i := 24) (oi := _) (v := ?_) (by simp only [List.getElem?_toArray, List.getElem?_cons_succ, List.getElem?_cons_zero]; rfl) (by kernel_rfl) (by kernel_rfl) (by kernel_rfl) (by exact fun _ _ _ h => h) (Or.inl ⟨by rfl, ?_⟩) (by assumption) ?_
  rotate_left 1
  · (intro w hSw; (try dsimp only at hSw); go_simp; try with_reducible rfl)
  try simp only [Act.put, List.setIfInBounds_toArray, List.set_cons_zero, List.set_cons_succ]
  refine wpAnyH_take (i := 25) (oi := _) (v := ?_) (by simp only [List.getElem?_toArray, List.getElem?_cons_succ, List.getElem?_cons_zero]; rfl) (by kernel_rfl) (by kernel_rfl) (by kernel_rfl) (by exact fun _ _ _ h => h) (Or.inl ⟨by rfl, ?_⟩) (by assumption) ?_
  rotate_left 1
  · (intro w hSw; (try dsimp only at hSw); go_simp; try with_reducible rfl)
  try simp only [Act.put, List.setIfInBounds_toArray, List.set_cons_zero, List.set_cons_succ]
  refine wpAnyH_ready (rs := [26]) (by kernel_rfl) (by simp) ?_
  refine AllReadyH.cons (o := _) (by simp only [List.getElem?_toArray, List.getElem?_cons_succ, List.getElem?_cons_zero]; rfl) (fun K hK => ?_) AllReadyH.nil
  go_simp
  (go_at_call 21; (with_reducible refine ((K10.out) _).mono ?_); rintro e w10 ⟨rfl, hb⟩; obtain ⟨hclw10, hfrw10⟩ := bcell hb; have zw10_a : w.heap.size < w10.heap.size := (by first | omega | (have hz := hb.size; (try simp at hz); omega)); have yw10_a : w.heap.size < w10.heap.size + 1 := (by omega); have yyw10_a : w.heap.size < w10.heap.size + 1 + 1 := (by omega); have zw10_one : w1.heap.size < w10.heap.size := (by first | omega | (have hz := hb.size; (try simp at hz); omega)); have yw10_one : w1.heap.size < w10.heap.size + 1 := (by omega); have yyw10_one : w1.heap.size < w10.heap.size + 1 + 1 := (by omega); have sxw10_0 : R3.heap.size ≤ w10.heap.size := (by first | omega | (have hz := hb.size; (try simp at hz); omega)); have sxw10_w8 : w8.heap.size ≤ w10.heap.size := (by first | omega | (have hz := hb.size; (try simp at hz); omega)); have sxw10_w9 : w9.heap.size ≤ w10.heap.size := (by first | omega | (have hz := hb.size; (try simp at hz); omega)); have HBw10 : Hid (Below w.heap.size w w10) := (bl_trans (by repeat (first | with_reducible exact Below.refl _ _ | with_reducible exact Hid.out (by assumption) | with_reducible refine Below.setCell ?_ (by first | (simp; done) | omega | (simp <;> omega)) _ | with_reducible refine bl_al ?_ _ | with_reducible apply Below.drew)) hb); clear hb)
  try go_wp2_with fail
  refine hK.out _ _ ?_ (fun hHeldN => ?_)
  · (try dsimp only); (first | (simp [*, go_sem]; done) | (simp [*, go_sem, World.cell?_alloc_past]; done))
  clear hK K hHeld; have hHeld := hHeldN; clear hHeldN
  try simp only [Act.put, List.setIfInBounds_toArray, List.set_cons_zero, List.set_cons_succ]
  refine wpAnyH_ready (rs := [27]) (by kernel_rfl) (by simp) ?_
  refine AllReadyH.cons (o := _) (by simp only [List.getElem?_toArray, List.getElem?_cons_succ, List.getElem?_cons_zero]; rfl) (fun K hK => ?_) AllReadyH.nil
  go_simp
  (go_at_call 25; (with_reducible refine ((K11.out) _).mono ?_); rintro e w11 ⟨rfl, hb⟩; obtain ⟨hclw11, hfrw11⟩ := bcell hb; have zw11_a : w.heap.size < w11.heap.size := (by first | omega | (have hz := hb.size; (try simp at hz); omega)); have yw11_a : w.heap.size < w11.heap.size + 1 := (by omega); have yyw11_a : w.heap.size < w11.heap.size + 1 + 1 := (by omega); have zw11_one : w1.heap.size < w11.heap.size := (by first | omega | (have hz := hb.size; (try simp at hz); omega)); have yw11_one : w1.heap.size < w11.heap.size + 1 := (by omega); have yyw11_one : w1.heap.size < w11.heap.size + 1 + 1 := (by omega); have sxw11_0 : R3.heap.size ≤ w11.heap.size := (by first | omega | (have hz := hb.size; (try simp at hz); omega)); have sxw11_w8 : w8.heap.size ≤ w11.heap.size := (by first | omega | (have hz := hb.size; (try simp at hz); omega)); have sxw11_w9 : w9.heap.size ≤ w11.heap.size := (by first | omega | (have hz := hb.size; (try simp at hz); omega)); have sxw11_w10 : w10.heap.size ≤ w11.heap.size := (by first | omega | (have hz := hb.size; (try simp at hz); omega)); have HBw11 : Hid (Below w.heap.size w w11) := (bl_trans (by repeat (first | with_reducible exact Below.refl _ _ | with_reducible exact Hid.out (by assumption) | with_reducible refine Below.setCell ?_ (by first | (simp; done) | omega | (simp <;> omega)) _ | with_reducible refine bl_al ?_ _ | with_reducible apply Below.drew)) hb); clear hb)
  try go_wp2_with fail
  refine hK.out _ _ ?_ (fun hHeldN => ?_)
  · (try dsimp only); (first | (simp [*, go_sem]; done) | (simp [*, go_sem, World.cell?_alloc_past]; done))
  clear hK K hHeld; have hHeld := hHeldN; clear hHeldN
  try simp only [Act.put, List.setIfInBounds_toArray, List.set_cons_zero, List.set_cons_succ]
  refine wpAnyH_take (i := 28) (oi := _) (v := ?_) (by simp only [List.getElem?_toArray, List.getElem?_cons_succ, List.getElem?_cons_zero]; rfl) (by kernel_rfl) (by kernel_rfl) (by kernel_rfl) (by exact fun _ _ _ h => h) (Or.inl ⟨by rfl, ?_⟩) (by assumption) ?_
  rotate_left 1
  · (intro w hSw; (try dsimp only at hSw); go_simp; try with_reducible rfl)
  try simp only [Act.put, List.setIfInBounds_toArray, List.set_cons_zero, List.set_cons_succ]
  refine wpAnyH_take (i := 29) (oi := _) (v := ?_) (by simp only [List.getElem?_toArray, List.getElem?_cons_succ, List.getElem?_cons_zero]; rfl) (by kernel_rfl) (by kernel_rfl) (by kernel_rfl) (by exact fun _ _ _ h => h) (Or.inl ⟨by rfl, ?_⟩) (by assumption) ?_
  rotate_left 1
  · (intro w hSw; (try dsimp only at hSw); go_simp; try with_reducible rfl)
  try simp only [Act.put, List.setIfInBounds_toArray, List.set_cons_zero, List.set_cons_succ]
  refine wpAnyH_take (i := 30) (oi := _) (v := ?_) (by simp only [List.getElem?_toArray, List.getElem?_cons_succ, List.getElem?_cons_zero]; rfl) (by kernel_rfl) (by kernel_rfl) (by kernel_rfl) (by exact fun _ _ _ h => h) (Or.inl ⟨by rfl, ?_⟩) (by assumption) ?_
  rotate_left 1
  · (intro w hSw; (try dsimp only at hSw); go_simp; try with_reducible rfl)
  try simp only [Act.put, List.setIfInBounds_toArray, List.set_cons_zero, List.set_cons_succ]
  refine wpAnyH_take (i := 31) (oi := _) (v := ?_) (by simp only [List.getElem?_toArray, List.getElem?_cons_succ, List.getElem?_cons_zero]; rfl) (by kernel_rfl) (by kernel_rfl) (by kernel_rfl) (by exact fun _ _ _ h => h) (Or.inl ⟨by rfl, ?_⟩) (by assumption) ?_
  rotate_left 1
  · (intro w hSw; (try dsimp only at hSw); go_simp; try with_reducible rfl)
  try simp only [Act.put, List.setIfInBounds_toArray, List.set_cons_zero, List.set_cons_succ]
  refine wpAnyH_take (i := 32) (oi := _) (v := ?_) (by simp only [List.getElem?_toArray, List.getElem?_cons_succ, List.getElem?_cons_zero]; rfl) (by kernel_rfl) (by kernel_rfl) (by kernel_rfl) (by exact fun _ _ _ h => h) (Or.inl ⟨by rfl, ?_⟩) (by assumption) ?_
  rotate_left 1
  · (intro w hSw; (try dsimp only at hSw); go_simp; try with_reducible rfl)
  try simp only [Act.put, List.setIfInBounds_toArray, List.set_cons_zero, List.set_cons_succ]
  refine wpAnyH_take (i := 33) (oi := _) (v := ?_) (by simp only [List.getElem?_toArray, List.getElem?_cons_succ, List.getElem?_cons_zero]; rfl) (by kernel_rfl) (by kernel_rfl) (by kernel_rfl) (by exact fun _ _ _ h => h) (Or.inl ⟨by rfl, ?_⟩) (by assumption) ?_
  rotate_left 1
  · (intro w hSw; (try dsimp only at hSw); go_simp; try with_reducible rfl)
  try simp only [Act.put, List.setIfInBounds_toArray, List.set_cons_zero, List.set_cons_succ]
  refine wpAnyH_take (i := 34) (oi := _) (v := ?_) (by simp only [List.getElem?_toArray, List.getElem?_cons_succ, List.getElem?_cons_zero]; rfl) (by kernel_rfl) (by kernel_rfl) (by kernel_rfl) (by exact fun _ _ _ h => h) (Or.inl ⟨by rfl, ?_⟩) (by assumption) ?_
  rotate_left 1
  · (intro w hSw; (try dsimp only at hSw); go_simp; try with_reducible rfl)
  try simp only [Act.put, List.setIfInBounds_toArray, List.set_cons_zero, List.set_cons_succ]
  refine wpAnyH_take (i := 35) (oi := _) (v := ?_) (by simp only [List.getElem?_toArray, List.getElem?_cons_succ, List.getElem?_cons_zero]; rfl) (by kernel_rfl) (by kernel_rfl) (by kernel_rfl) (by exact fun _ _ _ h => h) (Or.inl ⟨by rfl, ?_⟩) (by assumption) ?_
  rotate_left 1
  · (intro w hSw; (try dsimp only at hSw); go_simp; try with_reducible rfl)
  try simp only [Act.put, List.setIfInBounds_toArray, List.set_cons_zero, List.set_cons_succ]
  refine wpAnyH_take (i := 37) (oi := _) (v := ?_) (by simp only [List.getElem?_toArray, List.getElem?_cons_succ, List.getElem?_cons_zero]; rfl) (by kernel_rfl) (by kernel_rfl) (by kernel_rfl) (by exact fun _ _ _ h => h) (Or.inl ⟨by rfl, ?_⟩) (by assumption) ?_
  rotate_left 1
  · (intro w hSw; (try dsimp only at hSw); go_simp; try with_reducible rfl)
  try simp only [Act.put, List.setIfInBounds_toArray, List.set_cons_zero, List.set_cons_succ]
  refine wpAnyH_ready (rs := [36]) (by kernel_rfl) (by simp) ?_
  refine AllReadyH.cons (o := _) (by simp only [List.getElem?_toArray, List.getElem?_cons_succ, List.getElem?_cons_zero]; rfl) (fun K hK => ?_) AllReadyH.nil
  go_simp
  (go_at_call 21; (with_reducible refine ((K12.out) _).mono ?_); rintro e w12 ⟨rfl, hb⟩; obtain ⟨hclw12, hfrw12⟩ := bcell hb; have zw12_a : w.heap.size < w12.heap.size := (by first | omega | (have hz := hb.size; (try simp at hz); omega)); have yw12_a : w.heap.size < w12.heap.size + 1 := (by omega); have yyw12_a : w.heap.size < w12.heap.size + 1 + 1 := (by omega); have zw12_one : w1.heap.size < w12.heap.size := (by first | omega | (have hz := hb.size; (try simp at hz); omega)); have yw12_one : w1.heap.size < w12.heap.size + 1 := (by omega); have yyw12_one : w1.heap.size < w12.heap.size + 1 + 1 := (by omega); have sxw12_0 : R3.heap.size ≤ w12.heap.size := (by first | omega | (have hz := hb.size; (try simp at hz); omega)); have sxw12_w8 : w8.heap.size ≤ w12.heap.size := (by first | omega | (have hz := hb.size; (try simp at hz); omega)); have sxw12_w9 : w9.heap.size ≤ w12.heap.size := (by first | omega | (have hz := hb.size; (try simp at hz); omega)); have sxw12_w10 : w10.heap.size ≤ w12.heap.size := (by first | omega | (have hz := hb.size; (try simp at hz); omega)); have sxw12_w11 : w11.heap.size ≤ w12.heap.size := (by first | omega | (have hz := hb.size; (try simp at hz); omega)); have HBw12 : Hid (Below w.heap.size w w12) := (bl_trans (by repeat (first | with_reducible exact Below.refl _ _ | with_reducible exact Hid.out (by assumption) | with_reducible refine Below.setCell ?_ (by first | (simp; done) | omega | (simp <;> omega)) _ | with_reducible refine bl_al ?_ _ | with_reducible apply Below.drew)) hb); clear hb)
  try go_wp2_with fail
  refine hK.out _ _ ?_ (fun hHeldN => ?_)
  · (try dsimp only); (first | (simp [*, go_sem]; done) | (simp [*, go_sem, World.cell?_alloc_past]; done))
  clear hK K hHeld; have hHeld := hHeldN; clear hHeldN
  try simp only [Act.put, List.setIfInBounds_toArray, List.set_cons_zero, List.set_cons_succ]
  refine wpAnyH_take (i := 38) (oi := _) (v := ?_) (by simp only [List.getElem?_toArray, List.getElem?_cons_succ, List.getElem?_cons_zero]; rfl) (by kernel_rfl) (by kernel_rfl) (by kernel_rfl) (by exact fun _ _ _ h => h) (Or.inl ⟨by rfl, ?_⟩) (by assumption) ?_
  rotate_left 1
  · (intro w hSw; (try dsimp only at hSw); go_simp; try with_reducible rfl)
  try simp only [Act.put, List.setIfInBounds_toArray, List.set_cons_zero, List.set_cons_succ]
  refine wpAnyH_take (i := 39) (oi := _) (v := ?_) (by simp only [List.getElem?_toArray, List.getElem?_cons_succ, List.getElem?_cons_zero]; rfl) (by kernel_rfl) (by kernel_rfl) (by kernel_rfl) (by exact fun _ _ _ h => h) (Or.inl ⟨by rfl, ?_⟩) (by assumption) ?_
  rotate_left 1
  · (intro w hSw; (try dsimp only at hSw); go_simp; try with_reducible rfl)
  try simp only [Act.put, List.setIfInBounds_toArray, List.set_cons_zero, List.set_cons_succ]
  refine wpAnyH_take (i := 40) (oi := _) (v := ?_) (by simp only [List.getElem?_toArray, List.getElem?_cons_succ, List.getElem?_cons_zero]; rfl) (by kernel_rfl) (by kernel_rfl) (by kernel_rfl) (by exact fun _ _ _ h => h) (Or.inl ⟨by rfl, ?_⟩) (by assumption) ?_
  rotate_left 1
  · (intro w hSw; (try dsimp only at hSw); go_simp; try with_reducible rfl)
  try simp only [Act.put, List.setIfInBounds_toArray, List.set_cons_zero, List.set_cons_succ]
  refine wpAnyH_take (i := 41) (oi := _) (v := ?_) (by simp only [List.getElem?_toArray, List.getElem?_cons_succ, List.getElem?_cons_zero]; rfl) (by kernel_rfl) (by kernel_rfl) (by kernel_rfl) (by exact fun _ _ _ h => h) (Or.inl ⟨by rfl, ?_⟩) (by assumption) ?_
  rotate_left 1
  · (intro w hSw; (try dsimp only at hSw); go_simp; try with_reducible rfl)
  try simp only [Act.put, List.setIfInBounds_toArray, List.set_cons_zero, List.set_cons_succ]
  refine wpAnyH_take (i := 42) (oi := _) (v := ?_) (by simp only [List.getElem?_toArray, List.getElem?_cons_succ, List.getElem?_cons_zero]; rfl) (by kernel_rfl) (by kernel_rfl) (by kernel_rfl) (by exact fun _ _ _ h => h) (Or.inl ⟨by rfl, ?_⟩) (by assumption) ?_
  rotate_left 1
  · (intro w hSw; (try dsimp only at hSw); go_simp; try with_reducible rfl)
  try simp only [Act.put, List.setIfInBounds_toArray, List.set_cons_zero, List.set_cons_succ]
  refine wpAnyH_take (i := 43) (oi := _) (v := ?_) (by simp only [List.getElem?_toArray, List.getElem?_cons_succ, List.getElem?_cons_zero]; rfl) (by kernel_rfl) (by kernel_rfl) (by kernel_rfl) (by exact fun _ _ _ h => h) (Or.inl ⟨by rfl, ?_⟩) (by assumption) ?_
  rotate_left 1
  · (intro w hSw; (try dsimp only at hSw); go_simp; try with_reducible rfl)
  try simp only [Act.put, List.setIfInBounds_toArray, List.set_cons_zero, List.set_cons_succ]
  refine wpAnyH_take (i := 44) (oi := _) (v := ?_) (by simp only [List.getElem?_toArray, List.getElem?_cons_succ, List.getElem?_cons_zero]; rfl) (by kernel_rfl) (by kernel_rfl) (by kernel_rfl) (by exact fun _ _ _ h => h) (Or.inl ⟨by rfl, ?_⟩) (by assumption) ?_
  rotate_left 1
  · (intro w hSw; (try dsimp only at hSw); go_simp; try with_reducible rfl)
  try simp only [Act.put, List.setIfInBounds_toArray, List.set_cons_zero, List.set_cons_succ]
  refine wpAnyH_take (i := 46) (oi := _) (v := ?_) (by simp only [List.getElem?_toArray, List.getElem?_cons_succ, List.getElem?_cons_zero]; rfl) (by kernel_rfl) (by kernel_rfl) (by kernel_rfl) (by exact fun _ _ _ h => h) (Or.inl ⟨by rfl, ?_⟩) (by assumption) ?_
  rotate_left 1
  · (intro w hSw; (try dsimp only at hSw); go_simp; try with_reducible rfl)
  try simp only [Act.put, List.setIfInBounds_toArray, List.set_cons_zero, List.set_cons_succ]
  refine wpAnyH_ready (rs := [45]) (by kernel_rfl) (by simp) ?_
  refine AllReadyH.cons (o := _) (by simp only [List.getElem?_toArray, List.getElem?_cons_succ, List.getElem?_cons_zero]; rfl) (fun K hK => ?_) AllReadyH.nil
  go_simp
  (go_at_call 23; (with_reducible refine ((K13.out) _).mono ?_); rintro e w13 ⟨rfl, hb⟩; obtain ⟨hclw13, hfrw13⟩ := bcell hb; have zw13_a : w.heap.size < w13.heap.size := (by first | omega | (have hz := hb.size; (try simp at hz); omega)); have yw13_a : w.heap.size < w13.heap.size + 1 := (by omega); have yyw13_a : w.heap.size < w13.heap.size + 1 + 1 := (by omega); have zw13_one : w1.heap.size < w13.heap.size := (by first | omega | (have hz := hb.size; (try simp at hz); omega)); have yw13_one : w1.heap.size < w13.heap.size + 1 := (by omega); have yyw13_one : w1.heap.size < w13.heap.size + 1 + 1 := (by omega); have sxw13_0 : R3.heap.size ≤ w13.heap.size := (by first | omega | (have hz := hb.size; (try simp at hz); omega)); have sxw13_w8 : w8.heap.size ≤ w13.heap.size := (by first | omega | (have hz := hb.size; (try simp at hz); omega)); have sxw13_w9 : w9.heap.size ≤ w13.heap.size := (by first | omega | (have hz := hb.size; (try simp at hz); omega)); have sxw13_w10 : w10.heap.size ≤ w13.heap.size := (by first | omega | (have hz := hb.size; (try simp at hz); omega)); have sxw13_w11 : w11.heap.size ≤ w13.heap.size := (by first | omega | (have hz := hb.size; (try simp at hz); omega)); have sxw13_w12 : w12.heap.size ≤ w13.heap.size := (by first | omega | (have hz := hb.size; (try simp at hz); omega)); have HBw13 : Hid (Below w.heap.size w w13) := (bl_trans (by repeat (first | with_reducible exact Below.refl _ _ | with_reducible exact Hid.out (by assumption) | with_reducible refine Below.setCell ?_ (by first | (simp; done) | omega | (simp <;> omega)) _ | with_reducible refine bl_al ?_ _ | with_reducible apply Below.drew)) hb); clear hb)
  try go_wp2_with fail
  refine hK.out _ _ ?_ (fun hHeldN => ?_)
  · (try dsimp only); (first | (simp [*, go_sem]; done) | (simp [*, go_sem, World.cell?_alloc_past]; done))
  clear hK K hHeld; have hHeld := hHeldN; clear hHeldN
  try simp only [Act.put, List.setIfInBounds_toArray, List.set_cons_zero, List.set_cons_succ]
  refine wpAnyH_take (i := 47) (oi := _) (v := ?_) (by simp only [List.getElem?_toArray, List.getElem?_cons_succ, List.getElem?_cons_zero]; rfl) (by kernel_rfl) (by kernel_rfl) (by kernel_rfl) (by exact fun _ _ _ h => h) (Or.inl ⟨by rfl, ?_⟩) (by assumption) ?_
  rotate_left 1
  · (intro w hSw; (try dsimp only at hSw); go_simp; try with_reducible rfl)
  try simp only [Act.put, List.setIfInBounds_toArray, List.set_cons_zero, List.set_cons_succ]
  refine wpAnyH_take (i := 48) (oi := _) (v := ?_) (by simp only [List.getElem?_toArray, List.getElem?_cons_succ, List.getElem?_cons_zero]; rfl) (by kernel_rfl) (by kernel_rfl) (by kernel_rfl) (by exact fun _ _ _ h => h) (Or.inl ⟨by rfl, ?_⟩) (by assumption) ?_
  rotate_left 1
  · (intro w hSw; (try dsimp only at hSw); go_simp; try with_reducible rfl)
  try simp only [Act.put, List.setIfInBounds_toArray, List.set_cons_zero, List.set_cons_succ]
  refine wpAnyH_take (i := 49) (oi := _) (v := ?_) (by simp only [List.getElem?_toArray, List.getElem?_cons_succ, List.getElem?_cons_zero]; rfl) (by kernel_rfl) (by kernel_rfl) (by kernel_rfl) (by exact fun _ _ _ h => h) (Or.inl ⟨by rfl, ?_⟩) (by assumption) ?_
  rotate_left 1
  · (intro w hSw; (try dsimp only at hSw); go_simp; try with_reducible rfl)
  try simp only [Act.put, List.setIfInBounds_toArray, List.set_cons_zero, List.set_cons_succ]
  refine wpAnyH_ready (rs := [50]) (by kernel_rfl) (by simp) ?_
  refine AllReadyH.cons (o := _) (by simp only [List.getElem?_toArray, List.getElem?_cons_succ, List.getElem?_cons_zero]; rfl) (fun K hK => ?_) AllReadyH.nil
  go_simp
  (go_at_call 16; (with_reducible refine ((K14.out) _).mono ?_); rintro e w14 ⟨rfl, hb⟩; obtain ⟨hclw14, hfrw14⟩ := bcell hb; have zw14_a : w.heap.size < w14.heap.size := (by first | omega | (have hz := hb.size; (try simp at hz); omega)); have yw14_a : w.heap.size < w14.heap.size + 1 := (by omega); have yyw14_a : w.heap.size < w14.heap.size + 1 + 1 := (by omega); have zw14_one : w1.heap.size < w14.heap.size := (by first | omega | (have hz := hb.size; (try simp at hz); omega)); have yw14_one : w1.heap.size < w14.heap.size + 1 := (by omega); have yyw14_one : w1.heap.size < w14.heap.size + 1 + 1 := (by omega); have sxw14_0 : R3.heap.size ≤ w14.heap.size := (by first | omega | (have hz := hb.size; (try simp at hz); omega)); have sxw14_w8 : w8.heap.size ≤ w14.heap.size := (by first | omega | (have hz := hb.size; (try simp at hz); omega)); have sxw14_w9 : w9.heap.size ≤ w14.heap.size := (by first | omega | (have hz := hb.size; (try simp at hz); omega)); have sxw14_w10 : w10.heap.size ≤ w14.heap.size := (by first | omega | (have hz := hb.size; (try simp at hz); omega)); have sxw14_w11 : w11.heap.size ≤ w14.heap.size := (by first | omega | (have hz := hb.size; (try simp at hz); omega)); have sxw14_w12 : w12.heap.size ≤ w14.heap.size := (by first | omega | (have hz := hb.size; (try simp at hz); omega)); have sxw14_w13 : w13.heap.size ≤ w14.heap.size := (by first | omega | (have hz := hb.size; (try simp at hz); omega)); have HBw14 : Hid (Below w.heap.size w w14) := (bl_trans (by repeat (first | with_reducible exact Below.refl _ _ | with_reducible exact Hid.out (by assumption) | with_reducible refine Below.setCell ?_ (by first | (simp; done) | omega | (simp <;> omega)) _ | with_reducible refine bl_al ?_ _ | with_reducible apply Below.drew)) hb); clear hb)
  try go_wp2_with fail
  refine hK.out _ _ ?_ (fun hHeldN => ?_)
  · (try dsimp only); (first | (simp [*, go_sem]; done) | (simp [*, go_sem, World.cell?_alloc_past]; done))
  clear hK K hHeld; have hHeld := hHeldN; clear hHeldN
  try simp only [Act.put, List.setIfInBounds_toArray, List.set_cons_zero, List.set_cons_succ]
  refine wpAnyH_take (i := 51) (oi := _) (v := ?_) (by simp only [List.getElem?_toArray, List.getElem?_cons_succ, List.getElem?_cons_zero]; rfl) (by kernel_rfl) (by kernel_rfl) (by kernel_rfl) (by exact fun _ _ _ h => h) (Or.inl ⟨by rfl, ?_⟩) (by assumption) ?_
  rotate_left 1
  · (intro w hSw; (try dsimp only at hSw); go_simp; try with_reducible rfl)
  try simp only [Act.put, List.setIfInBounds_toArray, List.set_cons_zero, List.set_cons_succ]
  refine wpAnyH_take (i := 52) (oi := _) (v := ?_) (by simp only [List.getElem?_toArray, List.getElem?_cons_succ, List.getElem?_cons_zero]; rfl) (by kernel_rfl) (by kernel_rfl) (by kernel_rfl) (by exact fun _ _ _ h => h) (Or.inl ⟨by rfl, ?_⟩) (by assumption) ?_
  rotate_left 1
  · (intro w hSw; (try dsimp only at hSw); go_simp; try with_reducible rfl)
  try simp only [Act.put, List.setIfInBounds_toArray, List.set_cons_zero, List.set_cons_succ]
  refine wpAnyH_done (by kernel_rfl) ?_ _
  clear hHeld
  go_wp2_with fail
  go_returns
  exact ⟨rfl, by repeat (first | with_reducible exact Below.refl _ _ | with_reducible exact Hid.out (by assumption) | with_reducible refine Below.setCell ?_ (by first | (simp; done) | omega | (simp <;> omega)) _ | with_reducible refine bl_al ?_ _ | with_reducible apply Below.drew)⟩
set_option maxRecDepth 20000 in
set_option maxHeartbeats 60000000 in
theorem limbMoves_lost_all (a3 a2 a1 a0 b3 b2 b1 b0 c3 c2 c1 c0 d3 d2 d1 d0 y3 y2 y1 y0 g3 g2 g1 g0 i j k s t v l z ni : Int) (wi2 : IntKind.i64.wrap i = i) (wj2 : IntKind.i64.wrap j = j) (e1 : IntKind.i64.wrap (i + j) = s) (e2 : IntKind.i64.wrap (k + i) = t) (e3 : decide (t ≤ 256) = false) (e4 : decide (k ≥ 0) = true) (e5 : decide (k ≤ 256) = true) (e6 : (k == 256) = true) (e7 : (k == 0) = false) (e10 : IntKind.i64.wrap (-i) = ni) (e11 : IntKind.i64.wrap (ni - 1) = z) (e12 : IntKind.i64.wrap (k - 1) = l) (e9 : decide (v ≥ 0) = true) (w : World)
    (C1 : ∀ W, Calls Try.prog 27 #[.agg #[.int .u64 a3, .int .u64 a2, .int .u64 a1, .int .u64 a0]] W fun e w' => e = .returned (.int .i64 k) ∧ Below W.heap.size W w')
    (C2 : ∀ W, Calls Try.prog 21 #[.agg #[.int .u64 a3, .int .u64 a2, .int .u64 a1, .int .u64 a0], .int .i64 i] W fun e w' => e = .returned (.agg #[.int .u64 b3, .int .u64 b2, .int .u64 b1, .int .u64 b0]) ∧ Below W.heap.size W w')
    (C3 : ∀ W, Calls Try.prog 21 #[.agg #[.int .u64 b3, .int .u64 b2, .int .u64 b1, .int .u64 b0], .int .i64 j] W fun e w' => e = .returned (.agg #[.int .u64 c3, .int .u64 c2, .int .u64 c1, .int .u64 c0]) ∧ Below W.heap.size W w')
    (C4 : ∀ W, Calls Try.prog 21 #[.agg #[.int .u64 a3, .int .u64 a2, .int .u64 a1, .int .u64 a0], .int .i64 s] W fun e w' => e = .returned (.agg #[.int .u64 c3, .int .u64 c2, .int .u64 c1, .int .u64 c0]) ∧ Below W.heap.size W w')
    (C5 : ∀ W, Calls Try.prog 23 #[.agg #[.int .u64 a3, .int .u64 a2, .int .u64 a1, .int .u64 a0], .int .i64 i] W fun e w' => e = .returned (.agg #[.int .u64 d3, .int .u64 d2, .int .u64 d1, .int .u64 d0]) ∧ Below W.heap.size W w')
    (C6 : ∀ W, Calls Try.prog 23 #[.agg #[.int .u64 d3, .int .u64 d2, .int .u64 d1, .int .u64 d0], .int .i64 j] W fun e w' => e = .returned (.agg #[.int .u64 y3, .int .u64 y2, .int .u64 y1, .int .u64 y0]) ∧ Below W.heap.size W w')
    (C7 : ∀ W, Calls Try.prog 23 #[.agg #[.int .u64 a3, .int .u64 a2, .int .u64 a1, .int .u64 a0], .int .i64 s] W fun e w' => e = .returned (.agg #[.int .u64 y3, .int .u64 y2, .int .u64 y1, .int .u64 y0]) ∧ Below W.heap.size W w')
    (C8 : ∀ W, Calls Try.prog 21 #[.agg #[.int .u64 0, .int .u64 0, .int .u64 0, .int .u64 1], .int .i64 l] W fun e w' => e = .returned (.agg #[.int .u64 g3, .int .u64 g2, .int .u64 g1, .int .u64 g0]) ∧ Below W.heap.size W w')
    (C9 : ∀ W, Calls Try.prog 25 #[.agg #[.int .u64 a3, .int .u64 a2, .int .u64 a1, .int .u64 a0], .agg #[.int .u64 g3, .int .u64 g2, .int .u64 g1, .int .u64 g0]] W fun e w' => e = .returned (.int .i64 v) ∧ Below W.heap.size W w')
    (C10 : ∀ W, Calls Try.prog 21 #[.agg #[.int .u64 a3, .int .u64 a2, .int .u64 a1, .int .u64 a0], .int .i64 z] W fun e w' => e = .returned (.agg #[.int .u64 a3, .int .u64 a2, .int .u64 a1, .int .u64 a0]) ∧ Below W.heap.size W w')
    (C11 : ∀ W, Calls Try.prog 23 #[.agg #[.int .u64 a3, .int .u64 a2, .int .u64 a1, .int .u64 a0], .int .i64 z] W fun e w' => e = .returned (.agg #[.int .u64 a3, .int .u64 a2, .int .u64 a1, .int .u64 a0]) ∧ Below W.heap.size W w')
    (C12 : ∀ W, Calls Try.prog 16 #[] W fun e w' => e = .returned (.bool true) ∧ Below W.heap.size W w') :
    Calls Try.prog 9 #[.agg #[.int .u64 a3, .int .u64 a2, .int .u64 a1, .int .u64 a0], .int .u8 i, .int .u8 j] w fun e w' => e = .returned (.bool true) ∧ Below w.heap.size w w' := by
  have K1 := Lib.hid C1; have K2 := Lib.hid C2; have K3 := Lib.hid C3; have K4 := Lib.hid C4; have K5 := Lib.hid C5; have K6 := Lib.hid C6; have K7 := Lib.hid C7; have K8 := Lib.hid C8; have K9 := Lib.hid C9; have K10 := Lib.hid C10; have K11 := Lib.hid C11; have K12 := Lib.hid C12
  clear C1 C2 C3 C4 C5 C6 C7 C8 C9 C10 C11 C12
  have eqf1 := ne_four_falseB c3 c2 c1 c0; have eqf2 := ne_four_falseB y3 y2 y1 y0; have eqf3 := ne_four_falseB a3 a2 a1 a0; have eqf4 := eq_four_trueB a3 a2 a1 a0
  go_enter Try.func9, Try.ntmps9
  go_wp2_with fail
  (with_reducible refine (K1.out _).mono ?_); rintro e w1 ⟨rfl, hb⟩; obtain ⟨hclw1, hfrw1⟩ := bcell hb; have zw1_a : w.heap.size < w1.heap.size := (by first | omega | (have hz := hb.size; (try simp at hz); omega)); have yw1_a : w.heap.size < w1.heap.size + 1 := (by omega); have yyw1_a : w.heap.size < w1.heap.size + 1 + 1 := (by omega); have sxw1_0 : w.heap.size + 1 ≤ w1.heap.size := (by first | omega | (have hz := hb.size; (try simp at hz); omega)); have HBw1 : Hid (Below w.heap.size w w1) := (bl_trans (by repeat (first | with_reducible exact Below.refl _ _ | with_reducible exact Hid.out (by assumption) | with_reducible refine Below.setCell ?_ (by first | (simp; done) | omega | (simp <;> omega)) _ | with_reducible refine bl_al ?_ _ | with_reducible apply Below.drew)) hb); clear hb
  go_upto_region 4 with fail
  refine name_world (P := fun W => Code.wp _ _ _ _ W) _ (fun R1 hR1 => ?_)
  have zR1_a : w.heap.size < R1.heap.size := by rw [hR1]; first | omega | (simp <;> omega)
  have yR1_a : w.heap.size < R1.heap.size + 1 := by omega
  have yyR1_a : w.heap.size < R1.heap.size + 1 + 1 := by omega
  have cR1_a_0 : R1.cell? ⟨w.heap.size, 0, none⟩ = some (.int .u64 a3) := by rw [hR1]; first | assumption | (simp [go_sem, *]; done)
  have cR1_a_1 : R1.cell? ⟨w.heap.size, 1, none⟩ = some (.int .u64 a2) := by rw [hR1]; first | assumption | (simp [go_sem, *]; done)
  have cR1_a_2 : R1.cell? ⟨w.heap.size, 2, none⟩ = some (.int .u64 a1) := by rw [hR1]; first | assumption | (simp [go_sem, *]; done)
  have cR1_a_3 : R1.cell? ⟨w.heap.size, 3, none⟩ = some (.int .u64 a0) := by rw [hR1]; first | assumption | (simp [go_sem, *]; done)
  have zR1_one : w1.heap.size < R1.heap.size := by rw [hR1]; first | omega | (simp <;> omega)
  have yR1_one : w1.heap.size < R1.heap.size + 1 := by omega
  have yyR1_one : w1.heap.size < R1.heap.size + 1 + 1 := by omega
  have cR1_one_0 : R1.cell? ⟨w1.heap.size, 0, none⟩ = some (.int .u64 0) := by rw [hR1]; first | assumption | (simp [go_sem, *]; done)
  have cR1_one_1 : R1.cell? ⟨w1.heap.size, 1, none⟩ = some (.int .u64 0) := by rw [hR1]; first | assumption | (simp [go_sem, *]; done)
  have cR1_one_2 : R1.cell? ⟨w1.heap.size, 2, none⟩ = some (.int .u64 0) := by rw [hR1]; first | assumption | (simp [go_sem, *]; done)
  have cR1_one_3 : R1.cell? ⟨w1.heap.size, 3, none⟩ = some (.int .u64 1) := by rw [hR1]; first | assumption | (simp [go_sem, *]; done)
  have HBR1 : Hid (Below w.heap.size w R1) := by rw [hR1]; show Below _ _ _; exact (by repeat (first | with_reducible exact Below.refl _ _ | with_reducible exact Hid.out (by assumption) | with_reducible refine Below.setCell ?_ (by first | (simp; done) | omega | (simp <;> omega)) _ | with_reducible refine bl_al ?_ _ | with_reducible apply Below.drew))
  clear hR1
  clear zw1_a yw1_a yyw1_a sxw1_0 hclw1 hfrw1 HBw1
  refine wp_region_held_drew (S := fun w' => w'.cell? ⟨w.heap.size, 0, none⟩ = some (.int .u64 a3) ∧ w'.cell? ⟨w.heap.size, 1, none⟩ = some (.int .u64 a2) ∧ w'.cell? ⟨w.heap.size, 2, none⟩ = some (.int .u64 a1) ∧ w'.cell? ⟨w.heap.size, 3, none⟩ = some (.int .u64 a0)) (by kernel_rfl) ?_ (fun hHeld => ?_)
  · (try dsimp only); (first | (simp [*, go_sem]; done) | (simp [*, go_sem, World.cell?_alloc_past]; done))
  refine wpAnyH_take (i := 0) (oi := _) (v := ?_) (by simp only [List.getElem?_toArray, List.getElem?_cons_zero]; rfl) (by kernel_rfl) (by kernel_rfl) (by kernel_rfl) (by exact fun _ _ _ h => h) (Or.inl ⟨by rfl, ?_⟩) (by assumption) ?_
  rotate_left 1
  · (intro w hSw; (try dsimp only at hSw); go_simp; try with_reducible rfl)
  try simp only [Act.put, List.setIfInBounds_toArray, List.set_cons_zero, List.set_cons_succ]
  refine wpAnyH_take (i := 1) (oi := _) (v := ?_) (by simp only [List.getElem?_toArray, List.getElem?_cons_succ, List.getElem?_cons_zero]; rfl) (by kernel_rfl) (by kernel_rfl) (by kernel_rfl) (by exact fun _ _ _ h => h) (Or.inl ⟨by rfl, ?_⟩) (by assumption) ?_
  rotate_left 1
  · (intro w hSw; (try dsimp only at hSw); go_simp; try with_reducible rfl)
  try simp only [Act.put, List.setIfInBounds_toArray, List.set_cons_zero, List.set_cons_succ]
  refine wpAnyH_take (i := 3) (oi := _) (v := ?_) (by simp only [List.getElem?_toArray, List.getElem?_cons_succ, List.getElem?_cons_zero]; rfl) (by kernel_rfl) (by kernel_rfl) (by kernel_rfl) (by exact fun _ _ _ h => h) (Or.inl ⟨by rfl, ?_⟩) (by assumption) ?_
  rotate_left 1
  · (intro w hSw; (try dsimp only at hSw); go_simp; try with_reducible rfl)
  try simp only [Act.put, List.setIfInBounds_toArray, List.set_cons_zero, List.set_cons_succ]
  refine wpAnyH_take (i := 5) (oi := _) (v := ?_) (by simp only [List.getElem?_toArray, List.getElem?_cons_succ, List.getElem?_cons_zero]; rfl) (by kernel_rfl) (by kernel_rfl) (by kernel_rfl) (by exact fun _ _ _ h => h) (Or.inl ⟨by rfl, ?_⟩) (by assumption) ?_
  rotate_left 1
  · (intro w hSw; (try dsimp only at hSw); go_simp; try with_reducible rfl)
  try simp only [Act.put, List.setIfInBounds_toArray, List.set_cons_zero, List.set_cons_succ]
  refine wpAnyH_take (i := 6) (oi := _) (v := ?_) (by simp only [List.getElem?_toArray, List.getElem?_cons_succ, List.getElem?_cons_zero]; rfl) (by kernel_rfl) (by kernel_rfl) (by kernel_rfl) (by exact fun _ _ _ h => h) (Or.inl ⟨by rfl, ?_⟩) (by assumption) ?_
  rotate_left 1
  · (intro w hSw; (try dsimp only at hSw); go_simp; try with_reducible rfl)
  try simp only [Act.put, List.setIfInBounds_toArray, List.set_cons_zero, List.set_cons_succ]
  refine wpAnyH_take (i := 7) (oi := _) (v := ?_) (by simp only [List.getElem?_toArray, List.getElem?_cons_succ, List.getElem?_cons_zero]; rfl) (by kernel_rfl) (by kernel_rfl) (by kernel_rfl) (by exact fun _ _ _ h => h) (Or.inl ⟨by rfl, ?_⟩) (by assumption) ?_
  rotate_left 1
  · (intro w hSw; (try dsimp only at hSw); go_simp; try with_reducible rfl)
  try simp only [Act.put, List.setIfInBounds_toArray, List.set_cons_zero, List.set_cons_succ]
  refine wpAnyH_take (i := 8) (oi := _) (v := ?_) (by simp only [List.getElem?_toArray, List.getElem?_cons_succ, List.getElem?_cons_zero]; rfl) (by kernel_rfl) (by kernel_rfl) (by kernel_rfl) (by exact fun _ _ _ h => h) (Or.inl ⟨by rfl, ?_⟩) (by assumption) ?_
  rotate_left 1
  · (intro w hSw; (try dsimp only at hSw); go_simp; try with_reducible rfl)
  try simp only [Act.put, List.setIfInBounds_toArray, List.set_cons_zero, List.set_cons_succ]
  refine wpAnyH_ready (rs := [2]) (by kernel_rfl) (by simp) ?_
  refine AllReadyH.cons (o := _) (by simp only [List.getElem?_toArray, List.getElem?_cons_succ, List.getElem?_cons_zero]; rfl) (fun K hK => ?_) AllReadyH.nil
  go_simp
  (go_at_call 21; (with_reducible refine ((K2.out) _).mono ?_); rintro e w2 ⟨rfl, hb⟩; (first | (with_reducible (obtain ⟨hclw2, hfrw2⟩ := bcell_drew hb)) | (obtain ⟨hclw2, hfrw2⟩ := bcell hb)); have zw2_a : w.heap.size < w2.heap.size := (by first | omega | (have hz := hb.size; (try simp at hz); omega)); have yw2_a : w.heap.size < w2.heap.size + 1 := (by omega); have yyw2_a : w.heap.size < w2.heap.size + 1 + 1 := (by omega); have zw2_one : w1.heap.size < w2.heap.size := (by first | omega | (have hz := hb.size; (try simp at hz); omega)); have yw2_one : w1.heap.size < w2.heap.size + 1 := (by omega); have yyw2_one : w1.heap.size < w2.heap.size + 1 + 1 := (by omega); have sxw2_0 : R1.heap.size ≤ w2.heap.size := (by first | omega | (have hz := hb.size; (try simp at hz); omega)); have HBw2 : Hid (Below w.heap.size w w2) := (bl_trans (by repeat (first | with_reducible exact Below.refl _ _ | with_reducible exact Hid.out (by assumption) | with_reducible refine Below.setCell ?_ (by first | (simp; done) | omega | (simp <;> omega)) _ | with_reducible refine bl_al ?_ _ | with_reducible apply Below.drew)) hb); clear hb)
  try go_wp2_with fail
  refine hK.out _ _ ?_ (fun hHeldN => ?_)
  · (try dsimp only); (first | (simp [*, go_sem]; done) | (simp [*, go_sem, World.cell?_alloc_past]; done))
  clear hK K hHeld; have hHeld := hHeldN; clear hHeldN
  try simp only [Act.put, List.setIfInBounds_toArray, List.set_cons_zero, List.set_cons_succ]
  refine wpAnyH_ready (rs := [4]) (by kernel_rfl) (by simp) ?_
  refine AllReadyH.cons (o := _) (by simp only [List.getElem?_toArray, List.getElem?_cons_succ, List.getElem?_cons_zero]; rfl) (fun K hK => ?_) AllReadyH.nil
  go_simp
  (go_at_call 21; (with_reducible refine ((K3.out) _).mono ?_); rintro e w3 ⟨rfl, hb⟩; obtain ⟨hclw3, hfrw3⟩ := bcell hb; have zw3_a : w.heap.size < w3.heap.size := (by first | omega | (have hz := hb.size; (try simp at hz); omega)); have yw3_a : w.heap.size < w3.heap.size + 1 := (by omega); have yyw3_a : w.heap.size < w3.heap.size + 1 + 1 := (by omega); have zw3_one : w1.heap.size < w3.heap.size := (by first | omega | (have hz := hb.size; (try simp at hz); omega)); have yw3_one : w1.heap.size < w3.heap.size + 1 := (by omega); have yyw3_one : w1.heap.size < w3.heap.size + 1 + 1 := (by omega); have sxw3_0 : R1.heap.size ≤ w3.heap.size := (by first | omega | (have hz := hb.size; (try simp at hz); omega)); have sxw3_w2 : w2.heap.size ≤ w3.heap.size := (by first | omega | (have hz := hb.size; (try simp at hz); omega)); have HBw3 : Hid (Below w.heap.size w w3) := (bl_trans (by repeat (first | with_reducible exact Below.refl _ _ | with_reducible exact Hid.out (by assumption) | with_reducible refine Below.setCell ?_ (by first | (simp; done) | omega | (simp <;> omega)) _ | with_reducible refine bl_al ?_ _ | with_reducible apply Below.drew)) hb); clear hb)
  try go_wp2_with fail
  refine hK.out _ _ ?_ (fun hHeldN => ?_)
  · (try dsimp only); (first | (simp [*, go_sem]; done) | (simp [*, go_sem, World.cell?_alloc_past]; done))
  clear hK K hHeld; have hHeld := hHeldN; clear hHeldN
  try simp only [Act.put, List.setIfInBounds_toArray, List.set_cons_zero, List.set_cons_succ]
  refine wpAnyH_ready (rs := [9]) (by kernel_rfl) (by simp) ?_
  refine AllReadyH.cons (o := _) (by simp only [List.getElem?_toArray, List.getElem?_cons_succ, List.getElem?_cons_zero]; rfl) (fun K hK => ?_) AllReadyH.nil
  go_simp
  (go_at_call 21; (with_reducible refine ((K4.out) _).mono ?_); rintro e w4 ⟨rfl, hb⟩; obtain ⟨hclw4, hfrw4⟩ := bcell hb; have zw4_a : w.heap.size < w4.heap.size := (by first | omega | (have hz := hb.size; (try simp at hz); omega)); have yw4_a : w.heap.size < w4.heap.size + 1 := (by omega); have yyw4_a : w.heap.size < w4.heap.size + 1 + 1 := (by omega); have zw4_one : w1.heap.size < w4.heap.size := (by first | omega | (have hz := hb.size; (try simp at hz); omega)); have yw4_one : w1.heap.size < w4.heap.size + 1 := (by omega); have yyw4_one : w1.heap.size < w4.heap.size + 1 + 1 := (by omega); have sxw4_0 : R1.heap.size ≤ w4.heap.size := (by first | omega | (have hz := hb.size; (try simp at hz); omega)); have sxw4_w2 : w2.heap.size ≤ w4.heap.size := (by first | omega | (have hz := hb.size; (try simp at hz); omega)); have sxw4_w3 : w3.heap.size ≤ w4.heap.size := (by first | omega | (have hz := hb.size; (try simp at hz); omega)); have HBw4 : Hid (Below w.heap.size w w4) := (bl_trans (by repeat (first | with_reducible exact Below.refl _ _ | with_reducible exact Hid.out (by assumption) | with_reducible refine Below.setCell ?_ (by first | (simp; done) | omega | (simp <;> omega)) _ | with_reducible refine bl_al ?_ _ | with_reducible apply Below.drew)) hb); clear hb)
  try go_wp2_with fail
  refine hK.out _ _ ?_ (fun hHeldN => ?_)
  · (try dsimp only); (first | (simp [*, go_sem]; done) | (simp [*, go_sem, World.cell?_alloc_past]; done))
  clear hK K hHeld; have hHeld := hHeldN; clear hHeldN
  try simp only [Act.put, List.setIfInBounds_toArray, List.set_cons_zero, List.set_cons_succ]
  refine wpAnyH_take (i := 10) (oi := _) (v := ?_) (by simp only [List.getElem?_toArray, List.getElem?_cons_succ, List.getElem?_cons_zero]; rfl) (by kernel_rfl) (by kernel_rfl) (by kernel_rfl) (by exact fun _ _ _ h => h) (Or.inl ⟨by rfl, ?_⟩) (by assumption) ?_
  rotate_left 1
  · (intro w hSw; (try dsimp only at hSw); go_simp; try with_reducible rfl)
  try simp only [Act.put, List.setIfInBounds_toArray, List.set_cons_zero, List.set_cons_succ]
  refine wpAnyH_take (i := 11) (oi := _) (v := ?_) (by simp only [List.getElem?_toArray, List.getElem?_cons_succ, List.getElem?_cons_zero]; rfl) (by kernel_rfl) (by kernel_rfl) (by kernel_rfl) (by exact fun _ _ _ h => h) (Or.inl ⟨by rfl, ?_⟩) (by assumption) ?_
  rotate_left 1
  · (intro w hSw; (try dsimp only at hSw); go_simp; try with_reducible rfl)
  try simp only [Act.put, List.setIfInBounds_toArray, List.set_cons_zero, List.set_cons_succ]
  refine wpAnyH_take (i := 12) (oi := _) (v := ?_) (by simp only [List.getElem?_toArray, List.getElem?_cons_succ, List.getElem?_cons_zero]; rfl) (by kernel_rfl) (by kernel_rfl) (by kernel_rfl) (by exact fun _ _ _ h => h) (Or.inl ⟨by rfl, ?_⟩) (by assumption) ?_
  rotate_left 1
  · (intro w hSw; (try dsimp only at hSw); go_simp; try with_reducible rfl)
  try simp only [Act.put, List.setIfInBounds_toArray, List.set_cons_zero, List.set_cons_succ]
  refine wpAnyH_take (i := 13) (oi := _) (v := ?_) (by simp only [List.getElem?_toArray, List.getElem?_cons_succ, List.getElem?_cons_zero]; rfl) (by kernel_rfl) (by kernel_rfl) (by kernel_rfl) (by exact fun _ _ _ h => h) (Or.inl ⟨by rfl, ?_⟩) (by assumption) ?_
  rotate_left 1
  · (intro w hSw; (try dsimp only at hSw); go_simp; try with_reducible rfl)
  try simp only [Act.put, List.setIfInBounds_toArray, List.set_cons_zero, List.set_cons_succ]
  refine wpAnyH_take (i := 15) (oi := _) (v := ?_) (by simp only [List.getElem?_toArray, List.getElem?_cons_succ, List.getElem?_cons_zero]; rfl) (by kernel_rfl) (by kernel_rfl) (by kernel_rfl) (by exact fun _ _ _ h => h) (Or.inl ⟨by rfl, ?_⟩) (by assumption) ?_
  rotate_left 1
  · (intro w hSw; (try dsimp only at hSw); go_simp; try with_reducible rfl)
  try simp only [Act.put, List.setIfInBounds_toArray, List.set_cons_zero, List.set_cons_succ]
  refine wpAnyH_take (i := 17) (oi := _) (v := ?_) (by simp only [List.getElem?_toArray, List.getElem?_cons_succ, List.getElem?_cons_zero]; rfl) (by kernel_rfl) (by kernel_rfl) (by kernel_rfl) (by exact fun _ _ _ h => h) (Or.inl ⟨by rfl, ?_⟩) (by assumption) ?_
  rotate_left 1
  · (intro w hSw; (try dsimp only at hSw); go_simp; try with_reducible rfl)
  try simp only [Act.put, List.setIfInBounds_toArray, List.set_cons_zero, List.set_cons_succ]
  refine wpAnyH_take (i := 18) (oi := _) (v := ?_) (by simp only [List.getElem?_toArray, List.getElem?_cons_succ, List.getElem?_cons_zero]; rfl) (by kernel_rfl) (by kernel_rfl) (by kernel_rfl) (by exact fun _ _ _ h => h) (Or.inl ⟨by rfl, ?_⟩) (by assumption) ?_
  rotate_left 1
  · (intro w hSw; (try dsimp only at hSw); go_simp; try with_reducible rfl)
  try simp only [Act.put, List.setIfInBounds_toArray, List.set_cons_zero, List.set_cons_succ]
  refine wpAnyH_take (i := 19) (oi := _) (v := ?_) (by simp only [List.getElem?_toArray, List.getElem?_cons_succ, List.getElem?_cons_zero]; rfl) (by kernel_rfl) (by kernel_rfl) (by kernel_rfl) (by exact fun _ _ _ h => h) (Or.inl ⟨by rfl, ?_⟩) (by assumption) ?_
  rotate_left 1
  · (intro w hSw; (try dsimp only at hSw); go_simp; try with_reducible rfl)
  try simp only [Act.put, List.setIfInBounds_toArray, List.set_cons_zero, List.set_cons_succ]
  refine wpAnyH_take (i := 20) (oi := _) (v := ?_) (by simp only [List.getElem?_toArray, List.getElem?_cons_succ, List.getElem?_cons_zero]; rfl) (by kernel_rfl) (by kernel_rfl) (by kernel_rfl) (by exact fun _ _ _ h => h) (Or.inl ⟨by rfl, ?_⟩) (by assumption) ?_
  rotate_left 1
  · (intro w hSw; (try dsimp only at hSw); go_simp; try with_reducible rfl)
  try simp only [Act.put, List.setIfInBounds_toArray, List.set_cons_zero, List.set_cons_succ]
  refine wpAnyH_ready (rs := [14]) (by kernel_rfl) (by simp) ?_
  refine AllReadyH.cons (o := _) (by simp only [List.getElem?_toArray, List.getElem?_cons_succ, List.getElem?_cons_zero]; rfl) (fun K hK => ?_) AllReadyH.nil
  go_simp
  (go_at_call 23; (with_reducible refine ((K5.out) _).mono ?_); rintro e w5 ⟨rfl, hb⟩; obtain ⟨hclw5, hfrw5⟩ := bcell hb; have zw5_a : w.heap.size < w5.heap.size := (by first | omega | (have hz := hb.size; (try simp at hz); omega)); have yw5_a : w.heap.size < w5.heap.size + 1 := (by omega); have yyw5_a : w.heap.size < w5.heap.size + 1 + 1 := (by omega); have zw5_one : w1.heap.size < w5.heap.size := (by first | omega | (have hz := hb.size; (try simp at hz); omega)); have yw5_one : w1.heap.size < w5.heap.size + 1 := (by omega); have yyw5_one : w1.heap.size < w5.heap.size + 1 + 1 := (by omega); have sxw5_0 : R1.heap.size ≤ w5.heap.size := (by first | omega | (have hz := hb.size; (try simp at hz); omega)); have sxw5_w2 : w2.heap.size ≤ w5.heap.size := (by first | omega | (have hz := hb.size; (try simp at hz); omega)); have sxw5_w3 : w3.heap.size ≤ w5.heap.size := (by first | omega | (have hz := hb.size; (try simp at hz); omega)); have sxw5_w4 : w4.heap.size ≤ w5.heap.size := (by first | omega | (have hz := hb.size; (try simp at hz); omega)); have HBw5 : Hid (Below w.heap.size w w5) := (bl_trans (by repeat (first | with_reducible exact Below.refl _ _ | with_reducible exact Hid.out (by assumption) | with_reducible refine Below.setCell ?_ (by first | (simp; done) | omega | (simp <;> omega)) _ | with_reducible refine bl_al ?_ _ | with_reducible apply Below.drew)) hb); clear hb)
  try go_wp2_with fail
  refine hK.out _ _ ?_ (fun hHeldN => ?_)
  · (try dsimp only); (first | (simp [*, go_sem]; done) | (simp [*, go_sem, World.cell?_alloc_past]; done))
  clear hK K hHeld; have hHeld := hHeldN; clear hHeldN
  try simp only [Act.put, List.setIfInBounds_toArray, List.set_cons_zero, List.set_cons_succ]
  refine wpAnyH_ready (rs := [16]) (by kernel_rfl) (by simp) ?_
  refine AllReadyH.cons (o := _) (by simp only [List.getElem?_toArray, List.getElem?_cons_succ, List.getElem?_cons_zero]; rfl) (fun K hK => ?_) AllReadyH.nil
  go_simp
  (go_at_call 23; (with_reducible refine ((K6.out) _).mono ?_); rintro e w6 ⟨rfl, hb⟩; obtain ⟨hclw6, hfrw6⟩ := bcell hb; have zw6_a : w.heap.size < w6.heap.size := (by first | omega | (have hz := hb.size; (try simp at hz); omega)); have yw6_a : w.heap.size < w6.heap.size + 1 := (by omega); have yyw6_a : w.heap.size < w6.heap.size + 1 + 1 := (by omega); have zw6_one : w1.heap.size < w6.heap.size := (by first | omega | (have hz := hb.size; (try simp at hz); omega)); have yw6_one : w1.heap.size < w6.heap.size + 1 := (by omega); have yyw6_one : w1.heap.size < w6.heap.size + 1 + 1 := (by omega); have sxw6_0 : R1.heap.size ≤ w6.heap.size := (by first | omega | (have hz := hb.size; (try simp at hz); omega)); have sxw6_w2 : w2.heap.size ≤ w6.heap.size := (by first | omega | (have hz := hb.size; (try simp at hz); omega)); have sxw6_w3 : w3.heap.size ≤ w6.heap.size := (by first | omega | (have hz := hb.size; (try simp at hz); omega)); have sxw6_w4 : w4.heap.size ≤ w6.heap.size := (by first | omega | (have hz := hb.size; (try simp at hz); omega)); have sxw6_w5 : w5.heap.size ≤ w6.heap.size := (by first | omega | (have hz := hb.size; (try simp at hz); omega)); have HBw6 : Hid (Below w.heap.size w w6) := (bl_trans (by repeat (first | with_reducible exact Below.refl _ _ | with_reducible exact Hid.out (by assumption) | with_reducible refine Below.setCell ?_ (by first | (simp; done) | omega | (simp <;> omega)) _ | with_reducible refine bl_al ?_ _ | with_reducible apply Below.drew)) hb); clear hb)
  try go_wp2_with fail
  refine hK.out _ _ ?_ (fun hHeldN => ?_)
  · (try dsimp only); (first | (simp [*, go_sem]; done) | (simp [*, go_sem, World.cell?_alloc_past]; done))
  clear hK K hHeld; have hHeld := hHeldN; clear hHeldN
  try simp only [Act.put, List.setIfInBounds_toArray, List.set_cons_zero, List.set_cons_succ]
  refine wpAnyH_ready (rs := [21]) (by kernel_rfl) (by simp) ?_
  refine AllReadyH.cons (o := _) (by simp only [List.getElem?_toArray, List.getElem?_cons_succ, List.getElem?_cons_zero]; rfl) (fun K hK => ?_) AllReadyH.nil
  go_simp
  (go_at_call 23; (with_reducible refine ((K7.out) _).mono ?_); rintro e w7 ⟨rfl, hb⟩; obtain ⟨hclw7, hfrw7⟩ := bcell hb; have zw7_a : w.heap.size < w7.heap.size := (by first | omega | (have hz := hb.size; (try simp at hz); omega)); have yw7_a : w.heap.size < w7.heap.size + 1 := (by omega); have yyw7_a : w.heap.size < w7.heap.size + 1 + 1 := (by omega); have zw7_one : w1.heap.size < w7.heap.size := (by first | omega | (have hz := hb.size; (try simp at hz); omega)); have yw7_one : w1.heap.size < w7.heap.size + 1 := (by omega); have yyw7_one : w1.heap.size < w7.heap.size + 1 + 1 := (by omega); have sxw7_0 : R1.heap.size ≤ w7.heap.size := (by first | omega | (have hz := hb.size; (try simp at hz); omega)); have sxw7_w2 : w2.heap.size ≤ w7.heap.size := (by first | omega | (have hz := hb.size; (try simp at hz); omega)); have sxw7_w3 : w3.heap.size ≤ w7.heap.size := (by first | omega | (have hz := hb.size; (try simp at hz); omega)); have sxw7_w4 : w4.heap.size ≤ w7.heap.size := (by first | omega | (have hz := hb.size; (try simp at hz); omega)); have sxw7_w5 : w5.heap.size ≤ w7.heap.size := (by first | omega | (have hz := hb.size; (try simp at hz); omega)); have sxw7_w6 : w6.heap.size ≤ w7.heap.size := (by first | omega | (have hz := hb.size; (try simp at hz); omega)); have HBw7 : Hid (Below w.heap.size w w7) := (bl_trans (by repeat (first | with_reducible exact Below.refl _ _ | with_reducible exact Hid.out (by assumption) | with_reducible refine Below.setCell ?_ (by first | (simp; done) | omega | (simp <;> omega)) _ | with_reducible refine bl_al ?_ _ | with_reducible apply Below.drew)) hb); clear hb)
  try go_wp2_with fail
  refine hK.out _ _ ?_ (fun hHeldN => ?_)
  · (try dsimp only); (first | (simp [*, go_sem]; done) | (simp [*, go_sem, World.cell?_alloc_past]; done))
  clear hK K hHeld; have hHeld := hHeldN; clear hHeldN
  try simp only [Act.put, List.setIfInBounds_toArray, List.set_cons_zero, List.set_cons_succ]
  refine wpAnyH_take (i := 22) (oi := _) (v := ?_) (by simp only [List.getElem?_toArray, List.getElem?_cons_succ, List.getElem?_cons_zero]; rfl) (by kernel_rfl) (by kernel_rfl) (by kernel_rfl) (by exact fun _ _ _ h => h) (Or.inl ⟨by rfl, ?_⟩) (by assumption) ?_
  rotate_left 1
  · (intro w hSw; (try dsimp only at hSw); go_simp; try with_reducible rfl)
  try simp only [Act.put, List.setIfInBounds_toArray, List.set_cons_zero, List.set_cons_succ]
  refine wpAnyH_take (i := 23) (oi := _) (v := ?_) (by simp only [List.getElem?_toArray, List.getElem?_cons_succ, List.getElem?_cons_zero]; rfl) (by kernel_rfl) (by kernel_rfl) (by kernel_rfl) (by exact fun _ _ _ h => h) (Or.inl ⟨by rfl, ?_⟩) (by assumption) ?_
  rotate_left 1
  · (intro w hSw; (try dsimp only at hSw); go_simp; try with_reducible rfl)
  try simp only [Act.put, List.setIfInBounds_toArray, List.set_cons_zero, List.set_cons_succ]
  refine wpAnyH_done (by kernel_rfl) ?_ _
  clear hHeld
  go_upto_region 6 with fail
  refine name_world (P := fun W => Code.wp _ _ _ _ W) _ (fun R2 hR2 => ?_)
  have zR2_a : w.heap.size < R2.heap.size := by rw [hR2]; first | omega | (simp <;> omega)
  have yR2_a : w.heap.size < R2.heap.size + 1 := by omega
  have yyR2_a : w.heap.size < R2.heap.size + 1 + 1 := by omega
  have cR2_a_0 : R2.cell? ⟨w.heap.size, 0, none⟩ = some (.int .u64 a3) := by rw [hR2]; first | assumption | (simp [go_sem, *]; done)
  have cR2_a_1 : R2.cell? ⟨w.heap.size, 1, none⟩ = some (.int .u64 a2) := by rw [hR2]; first | assumption | (simp [go_sem, *]; done)
  have cR2_a_2 : R2.cell? ⟨w.heap.size, 2, none⟩ = some (.int .u64 a1) := by rw [hR2]; first | assumption | (simp [go_sem, *]; done)
  have cR2_a_3 : R2.cell? ⟨w.heap.size, 3, none⟩ = some (.int .u64 a0) := by rw [hR2]; first | assumption | (simp [go_sem, *]; done)
  have zR2_one : w1.heap.size < R2.heap.size := by rw [hR2]; first | omega | (simp <;> omega)
  have yR2_one : w1.heap.size < R2.heap.size + 1 := by omega
  have yyR2_one : w1.heap.size < R2.heap.size + 1 + 1 := by omega
  have cR2_one_0 : R2.cell? ⟨w1.heap.size, 0, none⟩ = some (.int .u64 0) := by rw [hR2]; first | assumption | (simp [go_sem, *]; done)
  have cR2_one_1 : R2.cell? ⟨w1.heap.size, 1, none⟩ = some (.int .u64 0) := by rw [hR2]; first | assumption | (simp [go_sem, *]; done)
  have cR2_one_2 : R2.cell? ⟨w1.heap.size, 2, none⟩ = some (.int .u64 0) := by rw [hR2]; first | assumption | (simp [go_sem, *]; done)
  have cR2_one_3 : R2.cell? ⟨w1.heap.size, 3, none⟩ = some (.int .u64 1) := by rw [hR2]; first | assumption | (simp [go_sem, *]; done)
  have HBR2 : Hid (Below w.heap.size w R2) := by rw [hR2]; show Below _ _ _; exact (by repeat (first | with_reducible exact Below.refl _ _ | with_reducible exact Hid.out (by assumption) | with_reducible refine Below.setCell ?_ (by first | (simp; done) | omega | (simp <;> omega)) _ | with_reducible refine bl_al ?_ _ | with_reducible apply Below.drew))
  clear hR2
  clear zR1_a yR1_a yyR1_a cR1_a_0 cR1_a_1 cR1_a_2 cR1_a_3 zR1_one yR1_one yyR1_one cR1_one_0 cR1_one_1 cR1_one_2 cR1_one_3 HBR1 zw2_a yw2_a yyw2_a zw2_one yw2_one yyw2_one sxw2_0 hclw2 hfrw2 HBw2 zw3_a yw3_a yyw3_a zw3_one yw3_one yyw3_one sxw3_0 sxw3_w2 hclw3 hfrw3 HBw3 zw4_a yw4_a yyw4_a zw4_one yw4_one yyw4_one sxw4_0 sxw4_w2 sxw4_w3 hclw4 hfrw4 HBw4 zw5_a yw5_a yyw5_a zw5_one yw5_one yyw5_one sxw5_0 sxw5_w2 sxw5_w3 sxw5_w4 hclw5 hfrw5 HBw5 zw6_a yw6_a yyw6_a zw6_one yw6_one yyw6_one sxw6_0 sxw6_w2 sxw6_w3 sxw6_w4 sxw6_w5 hclw6 hfrw6 HBw6 zw7_a yw7_a yyw7_a zw7_one yw7_one yyw7_one sxw7_0 sxw7_w2 sxw7_w3 sxw7_w4 sxw7_w5 sxw7_w6 hclw7 hfrw7 HBw7
  refine wp_region_held_drew (S := fun w' => w'.cell? ⟨w.heap.size, 0, none⟩ = some (.int .u64 a3) ∧ w'.cell? ⟨w.heap.size, 1, none⟩ = some (.int .u64 a2) ∧ w'.cell? ⟨w.heap.size, 2, none⟩ = some (.int .u64 a1) ∧ w'.cell? ⟨w.heap.size, 3, none⟩ = some (.int .u64 a0)) (by kernel_rfl) ?_ (fun hHeld => ?_)
  · (try dsimp only); (first | (simp [*, go_sem]; done) | (simp [*, go_sem, World.cell?_alloc_past]; done))
  refine wpAnyH_take (i := 0) (oi := _) (v := ?_) (by simp only [List.getElem?_toArray, List.getElem?_cons_zero]; rfl) (by kernel_rfl) (by kernel_rfl) (by kernel_rfl) (by exact fun _ _ _ h => h) (Or.inl ⟨by rfl, ?_⟩) (by assumption) ?_
  rotate_left 1
  · (intro w hSw; (try dsimp only at hSw); go_simp; try with_reducible rfl)
  try simp only [Act.put, List.setIfInBounds_toArray, List.set_cons_zero, List.set_cons_succ]
  refine wpAnyH_take (i := 1) (oi := _) (v := ?_) (by simp only [List.getElem?_toArray, List.getElem?_cons_succ, List.getElem?_cons_zero]; rfl) (by kernel_rfl) (by kernel_rfl) (by kernel_rfl) (by exact fun _ _ _ h => h) (Or.inl ⟨by rfl, ?_⟩) (by assumption) ?_
  rotate_left 1
  · (intro w hSw; (try dsimp only at hSw); go_simp; try with_reducible rfl)
  try simp only [Act.put, List.setIfInBounds_toArray, List.set_cons_zero, List.set_cons_succ]
  refine wpAnyH_take (i := 2) (oi := _) (v := ?_) (by simp only [List.getElem?_toArray, List.getElem?_cons_succ, List.getElem?_cons_zero]; rfl) (by kernel_rfl) (by kernel_rfl) (by kernel_rfl) (by exact fun _ _ _ h => h) (Or.inl ⟨by rfl, ?_⟩) (by assumption) ?_
  rotate_left 1
  · (intro w hSw; (try dsimp only at hSw); go_simp; try with_reducible rfl)
  try simp only [Act.put, List.setIfInBounds_toArray, List.set_cons_zero, List.set_cons_succ]
  refine wpAnyH_take (i := 3) (oi := _) (v := ?_) (by simp only [List.getElem?_toArray, List.getElem?_cons_succ, List.getElem?_cons_zero]; rfl) (by kernel_rfl) (by kernel_rfl) (by kernel_rfl) (by exact fun _ _ _ h => h) (Or.inl ⟨by rfl, ?_⟩) (by assumption) ?_
  rotate_left 1
  · (intro w hSw; (try dsimp only at hSw); go_simp; try with_reducible rfl)
  try simp only [Act.put, List.setIfInBounds_toArray, List.set_cons_zero, List.set_cons_succ]
  refine wpAnyH_take (i := 4) (oi := _) (v := ?_) (by simp only [List.getElem?_toArray, List.getElem?_cons_succ, List.getElem?_cons_zero]; rfl) (by kernel_rfl) (by kernel_rfl) (by kernel_rfl) (by exact fun _ _ _ h => h) (Or.inl ⟨by rfl, ?_⟩) (by assumption) ?_
  rotate_left 1
  · (intro w hSw; (try dsimp only at hSw); go_simp; try with_reducible rfl)
  try simp only [Act.put, List.setIfInBounds_toArray, List.set_cons_zero, List.set_cons_succ]
  refine wpAnyH_take (i := 5) (oi := _) (v := undef) (by simp only [List.getElem?_toArray, List.getElem?_cons_succ, List.getElem?_cons_zero]; rfl) (by kernel_rfl) (by kernel_rfl) (by kernel_rfl) (by exact fun _ _ _ h => h) (Or.inr ⟨by rfl, rfl⟩) (by assumption) ?_
  try simp only [Act.put, List.setIfInBounds_toArray, List.set_cons_zero, List.set_cons_succ]
  refine wpAnyH_take (i := 6) (oi := _) (v := undef) (by simp only [List.getElem?_toArray, List.getElem?_cons_succ, List.getElem?_cons_zero]; rfl) (by kernel_rfl) (by kernel_rfl) (by kernel_rfl) (by exact fun _ _ _ h => h) (Or.inr ⟨by rfl, rfl⟩) (by assumption) ?_
  try simp only [Act.put, List.setIfInBounds_toArray, List.set_cons_zero, List.set_cons_succ]
  refine wpAnyH_take (i := 8) (oi := _) (v := undef) (by simp only [List.getElem?_toArray, List.getElem?_cons_succ, List.getElem?_cons_zero]; rfl) (by kernel_rfl) (by kernel_rfl) (by kernel_rfl) (by exact fun _ _ _ h => h) (Or.inr ⟨by rfl, rfl⟩) (by assumption) ?_
  try simp only [Act.put, List.setIfInBounds_toArray, List.set_cons_zero, List.set_cons_succ]
  refine wpAnyH_take (i := 10) (oi := _) (v := undef) (by simp only [List.getElem?_toArray, List.getElem?_cons_succ, List.getElem?_cons_zero]; rfl) (by kernel_rfl) (by kernel_rfl) (by kernel_rfl) (by exact fun _ _ _ h => h) (Or.inr ⟨by rfl, rfl⟩) (by assumption) ?_
  try simp only [Act.put, List.setIfInBounds_toArray, List.set_cons_zero, List.set_cons_succ]
  refine wpAnyH_ready (rs := [7]) (by kernel_rfl) (by simp) ?_
  refine AllReadyH.cons (o := _) (by simp only [List.getElem?_toArray, List.getElem?_cons_succ, List.getElem?_cons_zero]; rfl) (fun K hK => ?_) AllReadyH.nil
  go_simp
  refine hK.out _ _ ?_ (fun hHeldN => ?_)
  · (try dsimp only); (first | (simp [*, go_sem]; done) | (simp [*, go_sem, World.cell?_alloc_past]; done))
  clear hK K hHeld; have hHeld := hHeldN; clear hHeldN
  try simp only [Act.put, List.setIfInBounds_toArray, List.set_cons_zero, List.set_cons_succ]
  refine wpAnyH_ready (rs := [9]) (by kernel_rfl) (by simp) ?_
  refine AllReadyH.cons (o := _) (by simp only [List.getElem?_toArray, List.getElem?_cons_succ, List.getElem?_cons_zero]; rfl) (fun K hK => ?_) AllReadyH.nil
  go_simp
  refine hK.out _ _ ?_ (fun hHeldN => ?_)
  · (try dsimp only); (first | (simp [*, go_sem]; done) | (simp [*, go_sem, World.cell?_alloc_past]; done))
  clear hK K hHeld; have hHeld := hHeldN; clear hHeldN
  try simp only [Act.put, List.setIfInBounds_toArray, List.set_cons_zero, List.set_cons_succ]
  refine wpAnyH_take (i := 11) (oi := _) (v := undef) (by simp only [List.getElem?_toArray, List.getElem?_cons_succ, List.getElem?_cons_zero]; rfl) (by kernel_rfl) (by kernel_rfl) (by kernel_rfl) (by exact fun _ _ _ h => h) (Or.inr ⟨by rfl, rfl⟩) (by assumption) ?_
  try simp only [Act.put, List.setIfInBounds_toArray, List.set_cons_zero, List.set_cons_succ]
  refine wpAnyH_take (i := 12) (oi := _) (v := ?_) (by simp only [List.getElem?_toArray, List.getElem?_cons_succ, List.getElem?_cons_zero]; rfl) (by kernel_rfl) (by kernel_rfl) (by kernel_rfl) (by exact fun _ _ _ h => h) (Or.inl ⟨by rfl, ?_⟩) (by assumption) ?_
  rotate_left 1
  · (intro w hSw; (try dsimp only at hSw); go_simp; try with_reducible rfl)
  try simp only [Act.put, List.setIfInBounds_toArray, List.set_cons_zero, List.set_cons_succ]
  refine wpAnyH_done (by kernel_rfl) ?_ _
  clear hHeld
  go_upto_region 8 with fail
  refine name_world (P := fun W => Code.wp _ _ _ _ W) _ (fun R3 hR3 => ?_)
  have zR3_a : w.heap.size < R3.heap.size := by rw [hR3]; first | omega | (simp <;> omega)
  have yR3_a : w.heap.size < R3.heap.size + 1 := by omega
  have yyR3_a : w.heap.size < R3.heap.size + 1 + 1 := by omega
  have cR3_a_0 : R3.cell? ⟨w.heap.size, 0, none⟩ = some (.int .u64 a3) := by rw [hR3]; first | assumption | (simp [go_sem, *]; done)
  have cR3_a_1 : R3.cell? ⟨w.heap.size, 1, none⟩ = some (.int .u64 a2) := by rw [hR3]; first | assumption | (simp [go_sem, *]; done)
  have cR3_a_2 : R3.cell? ⟨w.heap.size, 2, none⟩ = some (.int .u64 a1) := by rw [hR3]; first | assumption | (simp [go_sem, *]; done)
  have cR3_a_3 : R3.cell? ⟨w.heap.size, 3, none⟩ = some (.int .u64 a0) := by rw [hR3]; first | assumption | (simp [go_sem, *]; done)
  have zR3_one : w1.heap.size < R3.heap.size := by rw [hR3]; first | omega | (simp <;> omega)
  have yR3_one : w1.heap.size < R3.heap.size + 1 := by omega
  have yyR3_one : w1.heap.size < R3.heap.size + 1 + 1 := by omega
  have cR3_one_0 : R3.cell? ⟨w1.heap.size, 0, none⟩ = some (.int .u64 0) := by rw [hR3]; first | assumption | (simp [go_sem, *]; done)
  have cR3_one_1 : R3.cell? ⟨w1.heap.size, 1, none⟩ = some (.int .u64 0) := by rw [hR3]; first | assumption | (simp [go_sem, *]; done)
  have cR3_one_2 : R3.cell? ⟨w1.heap.size, 2, none⟩ = some (.int .u64 0) := by rw [hR3]; first | assumption | (simp [go_sem, *]; done)
  have cR3_one_3 : R3.cell? ⟨w1.heap.size, 3, none⟩ = some (.int .u64 1) := by rw [hR3]; first | assumption | (simp [go_sem, *]; done)
  have HBR3 : Hid (Below w.heap.size w R3) := by rw [hR3]; show Below _ _ _; exact (by repeat (first | with_reducible exact Below.refl _ _ | with_reducible exact Hid.out (by assumption) | with_reducible refine Below.setCell ?_ (by first | (simp; done) | omega | (simp <;> omega)) _ | with_reducible refine bl_al ?_ _ | with_reducible apply Below.drew))
  clear hR3
  clear zR2_a yR2_a yyR2_a cR2_a_0 cR2_a_1 cR2_a_2 cR2_a_3 zR2_one yR2_one yyR2_one cR2_one_0 cR2_one_1 cR2_one_2 cR2_one_3 HBR2
  refine wp_region_held_drew (S := fun w' => w'.cell? ⟨w.heap.size, 0, none⟩ = some (.int .u64 a3) ∧ w'.cell? ⟨w.heap.size, 1, none⟩ = some (.int .u64 a2) ∧ w'.cell? ⟨w.heap.size, 2, none⟩ = some (.int .u64 a1) ∧ w'.cell? ⟨w.heap.size, 3, none⟩ = some (.int .u64 a0) ∧ w'.cell? ⟨w1.heap.size, 0, none⟩ = some (.int .u64 0) ∧ w'.cell? ⟨w1.heap.size, 1, none⟩ = some (.int .u64 0) ∧ w'.cell? ⟨w1.heap.size, 2, none⟩ = some (.int .u64 0) ∧ w'.cell? ⟨w1.heap.size, 3, none⟩ = some (.int .u64 1)) (by kernel_rfl) ?_ (fun hHeld => ?_)
  · (try dsimp only); (first | (simp [*, go_sem]; done) | (simp [*, go_sem, World.cell?_alloc_past]; done))
  refine wpAnyH_take (i := 0) (oi := _) (v := ?_) (by simp only [List.getElem?_toArray, List.getElem?_cons_zero]; rfl) (by kernel_rfl) (by kernel_rfl) (by kernel_rfl) (by exact fun _ _ _ h => h) (Or.inl ⟨by rfl, ?_⟩) (by assumption) ?_
  rotate_left 1
  · (intro w hSw; (try dsimp only at hSw); go_simp; try with_reducible rfl)
  try simp only [Act.put, List.setIfInBounds_toArray, List.set_cons_zero, List.set_cons_succ]
  refine wpAnyH_take (i := 1) (oi := _) (v := ?_) (by simp only [List.getElem?_toArray, List.getElem?_cons_succ, List.getElem?_cons_zero]; rfl) (by kernel_rfl) (by kernel_rfl) (by kernel_rfl) (by exact fun _ _ _ h => h) (Or.inl ⟨by rfl, ?_⟩) (by assumption) ?_
  rotate_left 1
  · (intro w hSw; (try dsimp only at hSw); go_simp; try with_reducible rfl)
  try simp only [Act.put, List.setIfInBounds_toArray, List.set_cons_zero, List.set_cons_succ]
  refine wpAnyH_take (i := 2) (oi := _) (v := ?_) (by simp only [List.getElem?_toArray, List.getElem?_cons_succ, List.getElem?_cons_zero]; rfl) (by kernel_rfl) (by kernel_rfl) (by kernel_rfl) (by exact fun _ _ _ h => h) (Or.inl ⟨by rfl, ?_⟩) (by assumption) ?_
  rotate_left 1
  · (intro w hSw; (try dsimp only at hSw); go_simp; try with_reducible rfl)
  try simp only [Act.put, List.setIfInBounds_toArray, List.set_cons_zero, List.set_cons_succ]
  refine wpAnyH_take (i := 3) (oi := _) (v := ?_) (by simp only [List.getElem?_toArray, List.getElem?_cons_succ, List.getElem?_cons_zero]; rfl) (by kernel_rfl) (by kernel_rfl) (by kernel_rfl) (by exact fun _ _ _ h => h) (Or.inl ⟨by rfl, ?_⟩) (by assumption) ?_
  rotate_left 1
  · (intro w hSw; (try dsimp only at hSw); go_simp; try with_reducible rfl)
  try simp only [Act.put, List.setIfInBounds_toArray, List.set_cons_zero, List.set_cons_succ]
  refine wpAnyH_take (i := 4) (oi := _) (v := ?_) (by simp only [List.getElem?_toArray, List.getElem?_cons_succ, List.getElem?_cons_zero]; rfl) (by kernel_rfl) (by kernel_rfl) (by kernel_rfl) (by exact fun _ _ _ h => h) (Or.inl ⟨by rfl, ?_⟩) (by assumption) ?_
  rotate_left 1
  · (intro w hSw; (try dsimp only at hSw); go_simp; try with_reducible rfl)
  try simp only [Act.put, List.setIfInBounds_toArray, List.set_cons_zero, List.set_cons_succ]
  refine wpAnyH_take (i := 5) (oi := _) (v := ?_) (by simp only [List.getElem?_toArray, List.getElem?_cons_succ, List.getElem?_cons_zero]; rfl) (by kernel_rfl) (by kernel_rfl) (by kernel_rfl) (by exact fun _ _ _ h => h) (Or.inl ⟨by rfl, ?_⟩) (by assumption) ?_
  rotate_left 1
  · (intro w hSw; (try dsimp only at hSw); go_simp; try with_reducible rfl)
  try simp only [Act.put, List.setIfInBounds_toArray, List.set_cons_zero, List.set_cons_succ]
  refine wpAnyH_take (i := 6) (oi := _) (v := ?_) (by simp only [List.getElem?_toArray, List.getElem?_cons_succ, List.getElem?_cons_zero]; rfl) (by kernel_rfl) (by kernel_rfl) (by kernel_rfl) (by exact fun _ _ _ h => h) (Or.inl ⟨by rfl, ?_⟩) (by assumption) ?_
  rotate_left 1
  · (intro w hSw; (try dsimp only at hSw); go_simp; try with_reducible rfl)
  try simp only [Act.put, List.setIfInBounds_toArray, List.set_cons_zero, List.set_cons_succ]
  refine wpAnyH_take (i := 7) (oi := _) (v := ?_) (by simp only [List.getElem?_toArray, List.getElem?_cons_succ, List.getElem?_cons_zero]; rfl) (by kernel_rfl) (by kernel_rfl) (by kernel_rfl) (by exact fun _ _ _ h => h) (Or.inl ⟨by rfl, ?_⟩) (by assumption) ?_
  rotate_left 1
  · (intro w hSw; (try dsimp only at hSw); go_simp; try with_reducible rfl)
  try simp only [Act.put, List.setIfInBounds_toArray, List.set_cons_zero, List.set_cons_succ]
  refine wpAnyH_take (i := 8) (oi := _) (v := ?_) (by simp only [List.getElem?_toArray, List.getElem?_cons_succ, List.getElem?_cons_zero]; rfl) (by kernel_rfl) (by kernel_rfl) (by kernel_rfl) (by exact fun _ _ _ h => h) (Or.inl ⟨by rfl, ?_⟩) (by assumption) ?_
  rotate_left 1
  · (intro w hSw; (try dsimp only at hSw); go_simp; try with_reducible rfl)
  try simp only [Act.put, List.setIfInBounds_toArray, List.set_cons_zero, List.set_cons_succ]
  refine wpAnyH_take (i := 9) (oi := _) (v := ?_) (by simp only [List.getElem?_toArray, List.getElem?_cons_succ, List.getElem?_cons_zero]; rfl) (by kernel_rfl) (by kernel_rfl) (by kernel_rfl) (by exact fun _ _ _ h => h) (Or.inl ⟨by rfl, ?_⟩) (by assumption) ?_
  rotate_left 1
  · (intro w hSw; (try dsimp only at hSw); go_simp; try with_reducible rfl)
  try simp only [Act.put, List.setIfInBounds_toArray, List.set_cons_zero, List.set_cons_succ]
  refine wpAnyH_take (i := 10) (oi := _) (v := undef) (by simp only [List.getElem?_toArray, List.getElem?_cons_succ, List.getElem?_cons_zero]; rfl) (by kernel_rfl) (by kernel_rfl) (by kernel_rfl) (by exact fun _ _ _ h => h) (Or.inr ⟨by rfl, rfl⟩) (by assumption) ?_
  try simp only [Act.put, List.setIfInBounds_toArray, List.set_cons_zero, List.set_cons_succ]
  refine wpAnyH_take (i := 11) (oi := _) (v := undef) (by simp only [List.getElem?_toArray, List.getElem?_cons_succ, List.getElem?_cons_zero]; rfl) (by kernel_rfl) (by kernel_rfl) (by kernel_rfl) (by exact fun _ _ _ h => h) (Or.inr ⟨by rfl, rfl⟩) (by assumption) ?_
  try simp only [Act.put, List.setIfInBounds_toArray, List.set_cons_zero, List.set_cons_succ]
  refine wpAnyH_take (i := 12) (oi := _) (v := undef) (by simp only [List.getElem?_toArray, List.getElem?_cons_succ, List.getElem?_cons_zero]; rfl) (by kernel_rfl) (by kernel_rfl) (by kernel_rfl) (by exact fun _ _ _ h => h) (Or.inr ⟨by rfl, rfl⟩) (by assumption) ?_
  try simp only [Act.put, List.setIfInBounds_toArray, List.set_cons_zero, List.set_cons_succ]
  refine wpAnyH_ready (rs := [13]) (by kernel_rfl) (by simp) ?_
  refine AllReadyH.cons (o := _) (by simp only [List.getElem?_toArray, List.getElem?_cons_succ, List.getElem?_cons_zero]; rfl) (fun K hK => ?_) AllReadyH.nil
  go_simp
  refine hK.out _ _ ?_ (fun hHeldN => ?_)
  · (try dsimp only); (first | (simp [*, go_sem]; done) | (simp [*, go_sem, World.cell?_alloc_past]; done))
  clear hK K hHeld; have hHeld := hHeldN; clear hHeldN
  try simp only [Act.put, List.setIfInBounds_toArray, List.set_cons_zero, List.set_cons_succ]
  refine wpAnyH_ready (rs := [14]) (by kernel_rfl) (by simp) ?_
  refine AllReadyH.cons (o := _) (by simp only [List.getElem?_toArray, List.getElem?_cons_succ, List.getElem?_cons_zero]; rfl) (fun K hK => ?_) AllReadyH.nil
  go_simp
  refine hK.out _ _ ?_ (fun hHeldN => ?_)
  · (try dsimp only); (first | (simp [*, go_sem]; done) | (simp [*, go_sem, World.cell?_alloc_past]; done))
  clear hK K hHeld; have hHeld := hHeldN; clear hHeldN
  try simp only [Act.put, List.setIfInBounds_toArray, List.set_cons_zero, List.set_cons_succ]
  refine wpAnyH_take (i := 15) (oi := _) (v := undef) (by simp only [List.getElem?_toArray, List.getElem?_cons_succ, List.getElem?_cons_zero]; rfl) (by kernel_rfl) (by kernel_rfl) (by kernel_rfl) (by exact fun _ _ _ h => h) (Or.inr ⟨by rfl, rfl⟩) (by assumption) ?_
  try simp only [Act.put, List.setIfInBounds_toArray, List.set_cons_zero, List.set_cons_succ]
  refine wpAnyH_take (i := 16) (oi := _) (v := ?_) (by simp only [List.getElem?_toArray, List.getElem?_cons_succ, List.getElem?_cons_zero]; rfl) (by kernel_rfl) (by kernel_rfl) (by kernel_rfl) (by exact fun _ _ _ h => h) (Or.inl ⟨by rfl, ?_⟩) (by assumption) ?_
  rotate_left 1
  · (intro w hSw; (try dsimp only at hSw); go_simp; try with_reducible rfl)
  try simp only [Act.put, List.setIfInBounds_toArray, List.set_cons_zero, List.set_cons_succ]
  refine wpAnyH_take (i := 17) (oi := _) (v := ?_) (by simp only [List.getElem?_toArray, List.getElem?_cons_succ, List.getElem?_cons_zero]; rfl) (by kernel_rfl) (by kernel_rfl) (by kernel_rfl) (by exact fun _ _ _ h => h) (Or.inl ⟨by rfl, ?_⟩) (by assumption) ?_
  rotate_left 1
  · (intro w hSw; (try dsimp only at hSw); go_simp; try with_reducible rfl)
  try simp only [Act.put, List.setIfInBounds_toArray, List.set_cons_zero, List.set_cons_succ]
  refine wpAnyH_take (i := 18) (oi := _) (v := ?_) (by simp only [List.getElem?_toArray, List.getElem?_cons_succ, List.getElem?_cons_zero]; rfl) (by kernel_rfl) (by kernel_rfl) (by kernel_rfl) (by exact fun _ _ _ h => h) (Or.inl ⟨by rfl, ?_⟩) (by assumption) ?_
  rotate_left 1
  · (intro w hSw; (try dsimp only at hSw); go_simp; try with_reducible rfl)
  try simp only [Act.put, List.setIfInBounds_toArray, List.set_cons_zero, List.set_cons_succ]
  refine wpAnyH_take (i := 19) (oi := _) (v := ?_) (by simp only [List.getElem?_toArray, List.getElem?_cons_succ, List.getElem?_cons_zero]; rfl) (by kernel_rfl) (by kernel_rfl) (by kernel_rfl) (by exact fun _ _ _ h => h) (Or.inl ⟨by rfl, ?_⟩) (by assumption) ?_
  rotate_left 1
  · (intro w hSw; (try dsimp only at hSw); go_simp; try with_reducible rfl)
  try simp only [Act.put, List.setIfInBounds_toArray, List.set_cons_zero, List.set_cons_succ]
  refine wpAnyH_take (i := 20) (oi := _) (v := ?_) (by simp only [List.getElem?_toArray, List.getElem?_cons_succ, List.getElem?_cons_zero]; rfl) (by kernel_rfl) (by kernel_rfl) (by kernel_rfl) (by exact fun _ _ _ h => h) (Or.inl ⟨by rfl, ?_⟩) (by assumption) ?_
  rotate_left 1
  · (intro w hSw; (try dsimp only at hSw); go_simp; try with_reducible rfl)
  try simp only [Act.put, List.setIfInBounds_toArray, List.set_cons_zero, List.set_cons_succ]
  refine wpAnyH_take (i := 21) (oi := _) (v := ?_) (by simp only [List.getElem?_toArray, List.getElem?_cons_succ, List.getElem?_cons_zero]; rfl) (by kernel_rfl) (by kernel_rfl) (by kernel_rfl) (by exact fun _ _ _ h => h) (Or.inl ⟨by rfl, ?_⟩) (by assumption) ?_
  rotate_left 1
  · (intro w hSw; (try dsimp only at hSw); go_simp; try with_reducible rfl)
  try simp only [Act.put, List.setIfInBounds_toArray, List.set_cons_zero, List.set_cons_succ]
  refine wpAnyH_take (i := 22) (oi := _) (v := ?_) (by simp only [List.getElem?_toArray, List.getElem?_cons_succ, List.getElem?_cons_zero]; rfl) (by kernel_rfl) (by kernel_rfl) (by kernel_rfl) (by exact fun _ _ _ h => h) (Or.inl ⟨by rfl, ?_⟩) (by assumption) ?_
  rotate_left 1
  · (intro w hSw; (try dsimp only at hSw); go_simp; try with_reducible rfl)
  try simp only [Act.put, List.setIfInBounds_toArray, List.set_cons_zero, List.set_cons_succ]
  refine wpAnyH_take (i := 23) (oi := _) (v := ?_) (by simp only [List.getElem?_toArray, List.getElem?_cons_succ, List.getElem?_cons_zero]; rfl) (by kernel_rfl) (by kernel_rfl) (by kernel_rfl) (by exact fun _ _ _ h => h) (Or.inl ⟨by rfl, ?_⟩) (by assumption) ?_
  rotate_left 1
  · (intro w hSw; (try dsimp only at hSw); go_simp; try with_reducible rfl)
  try simp only [Act.put, List.setIfInBounds_toArray, List.set_cons_zero, List.set_cons_succ]
  refine wpAnyH_take (i := 24) (oi := _) (v := ?_) (by simp only [List.getElem?_toArray, List.getElem?_cons_succ, List.getElem?_cons_zero]; rfl) (by kernel_rfl) (by kernel_rfl) (by kernel_rfl) (by exact fun _ _ _ h => h) (Or.inl ⟨by rfl, ?_⟩) (by assumption) ?_
  rotate_left 1
  · (intro w hSw; (try dsimp only at hSw); go_simp; try with_reducible rfl)
  try simp only [Act.put, List.setIfInBounds_toArray, List.set_cons_zero, List.set_cons_succ]
  refine wpAnyH_take (i := 25) (oi := _) (v := ?_) (by simp only [List.getElem?_toArray, List.getElem?_cons_succ, List.getElem?_cons_zero]; rfl) (by kernel_rfl) (by kernel_rfl) (by kernel_rfl) (by exact fun _ _ _ h => h) (Or.inl ⟨by rfl, ?_⟩) (by assumption) ?_
  rotate_left 1
  · (intro w hSw; (try dsimp only at hSw); go_simp; try with_reducible rfl)
  try simp only [Act.put, List.setIfInBounds_toArray, List.set_cons_zero, List.set_cons_succ]
  refine wpAnyH_ready (rs := [26]) (by kernel_rfl) (by simp) ?_
  refine AllReadyH.cons (o := _) (by simp only [List.getElem?_toArray, List.getElem?_cons_succ, List.getElem?_cons_zero]; rfl) (fun K hK => ?_) AllReadyH.nil
  go_simp
  (go_at_call 21; (with_reducible refine ((K8.out) _).mono ?_); rintro e w8 ⟨rfl, hb⟩; (first | (with_reducible (obtain ⟨hclw8, hfrw8⟩ := bcell_drew hb)) | (obtain ⟨hclw8, hfrw8⟩ := bcell hb)); have zw8_a : w.heap.size < w8.heap.size := (by first | omega | (have hz := hb.size; (try simp at hz); omega)); have yw8_a : w.heap.size < w8.heap.size + 1 := (by omega); have yyw8_a : w.heap.size < w8.heap.size + 1 + 1 := (by omega); have zw8_one : w1.heap.size < w8.heap.size := (by first | omega | (have hz := hb.size; (try simp at hz); omega)); have yw8_one : w1.heap.size < w8.heap.size + 1 := (by omega); have yyw8_one : w1.heap.size < w8.heap.size + 1 + 1 := (by omega); have sxw8_0 : R3.heap.size ≤ w8.heap.size := (by first | omega | (have hz := hb.size; (try simp at hz); omega)); have HBw8 : Hid (Below w.heap.size w w8) := (bl_trans (by repeat (first | with_reducible exact Below.refl _ _ | with_reducible exact Hid.out (by assumption) | with_reducible refine Below.setCell ?_ (by first | (simp; done) | omega | (simp <;> omega)) _ | with_reducible refine bl_al ?_ _ | with_reducible apply Below.drew)) hb); clear hb)
  try go_wp2_with fail
  refine hK.out _ _ ?_ (fun hHeldN => ?_)
  · (try dsimp only); (first | (simp [*, go_sem]; done) | (simp [*, go_sem, World.cell?_alloc_past]; done))
  clear hK K hHeld; have hHeld := hHeldN; clear hHeldN
  try simp only [Act.put, List.setIfInBounds_toArray, List.set_cons_zero, List.set_cons_succ]
  refine wpAnyH_ready (rs := [27]) (by kernel_rfl) (by simp) ?_
  refine AllReadyH.cons (o := _) (by simp only [List.getElem?_toArray, List.getElem?_cons_succ, List.getElem?_cons_zero]; rfl) (fun K hK => ?_) AllReadyH.nil
  go_simp
  (go_at_call 25; (with_reducible refine ((K9.out) _).mono ?_); rintro e w9 ⟨rfl, hb⟩; obtain ⟨hclw9, hfrw9⟩ := bcell hb; have zw9_a : w.heap.size < w9.heap.size := (by first | omega | (have hz := hb.size; (try simp at hz); omega)); have yw9_a : w.heap.size < w9.heap.size + 1 := (by omega); have yyw9_a : w.heap.size < w9.heap.size + 1 + 1 := (by omega); have zw9_one : w1.heap.size < w9.heap.size := (by first | omega | (have hz := hb.size; (try simp at hz); omega)); have yw9_one : w1.heap.size < w9.heap.size + 1 := (by omega); have yyw9_one : w1.heap.size < w9.heap.size + 1 + 1 := (by omega); have sxw9_0 : R3.heap.size ≤ w9.heap.size := (by first | omega | (have hz := hb.size; (try simp at hz); omega)); have sxw9_w8 : w8.heap.size ≤ w9.heap.size := (by first | omega | (have hz := hb.size; (try simp at hz); omega)); have HBw9 : Hid (Below w.heap.size w w9) := (bl_trans (by repeat (first | with_reducible exact Below.refl _ _ | with_reducible exact Hid.out (by assumption) | with_reducible refine Below.setCell ?_ (by first | (simp; done) | omega | (simp <;> omega)) _ | with_reducible refine bl_al ?_ _ | with_reducible apply Below.drew)) hb); clear hb)
  try go_wp2_with fail
  refine hK.out _ _ ?_ (fun hHeldN => ?_)
  · (try dsimp only); (first | (simp [*, go_sem]; done) | (simp [*, go_sem, World.cell?_alloc_past]; done))
  clear hK K hHeld; have hHeld := hHeldN; clear hHeldN
  try simp only [Act.put, List.setIfInBounds_toArray, List.set_cons_zero, List.set_cons_succ]
  refine wpAnyH_take (i := 28) (oi := _) (v := ?_) (by simp only [List.getElem?_toArray, List.getElem?_cons_succ, List.getElem?_cons_zero]; rfl) (by kernel_rfl) (by kernel_rfl) (by kernel_rfl) (by exact fun _ _ _ h => h) (Or.inl ⟨by rfl, ?_⟩) (by assumption) ?_
  rotate_left 1
  · (intro w hSw; (try dsimp only at hSw); go_simp; try with_reducible rfl)
  try simp only [Act.put, List.setIfInBounds_toArray, List.set_cons_zero, List.set_cons_succ]
  refine wpAnyH_take (i := 29) (oi := _) (v := ?_) (by simp only [List.getElem?_toArray, List.getElem?_cons_succ, List.getElem?_cons_zero]; rfl) (by kernel_rfl) (by kernel_rfl) (by kernel_rfl) (by exact fun _ _ _ h => h) (Or.inl ⟨by rfl, ?_⟩) (by assumption) ?_
  rotate_left 1
  · (intro w hSw; (try dsimp only at hSw); go_simp; try with_reducible rfl)
  try simp only [Act.put, List.setIfInBounds_toArray, List.set_cons_zero, List.set_cons_succ]
  refine wpAnyH_take (i := 30) (oi := _) (v := ?_) (by simp only [List.getElem?_toArray, List.getElem?_cons_succ, List.getElem?_cons_zero]; rfl) (by kernel_rfl) (by kernel_rfl) (by kernel_rfl) (by exact fun _ _ _ h => h) (Or.inl ⟨by rfl, ?_⟩) (by assumption) ?_
  rotate_left 1
  · (intro w hSw; (try dsimp only at hSw); go_simp; try with_reducible rfl)
  try simp only [Act.put, List.setIfInBounds_toArray, List.set_cons_zero, List.set_cons_succ]
  refine wpAnyH_take (i := 31) (oi := _) (v := ?_) (by simp only [List.getElem?_toArray, List.getElem?_cons_succ, List.getElem?_cons_zero]; rfl) (by kernel_rfl) (by kernel_rfl) (by kernel_rfl) (by exact fun _ _ _ h => h) (Or.inl ⟨by rfl, ?_⟩) (by assumption) ?_
  rotate_left 1
  · (intro w hSw; (try dsimp only at hSw); go_simp; try with_reducible rfl)
  try simp only [Act.put, List.setIfInBounds_toArray, List.set_cons_zero, List.set_cons_succ]
  refine wpAnyH_take (i := 32) (oi := _) (v := ?_) (by simp only [List.getElem?_toArray, List.getElem?_cons_succ, List.getElem?_cons_zero]; rfl) (by kernel_rfl) (by kernel_rfl) (by kernel_rfl) (by exact fun _ _ _ h => h) (Or.inl ⟨by rfl, ?_⟩) (by assumption) ?_
  rotate_left 1
  · (intro w hSw; (try dsimp only at hSw); go_simp; try with_reducible rfl)
  try simp only [Act.put, List.setIfInBounds_toArray, List.set_cons_zero, List.set_cons_succ]
  refine wpAnyH_take (i := 33) (oi := _) (v := ?_) (by simp only [List.getElem?_toArray, List.getElem?_cons_succ, List.getElem?_cons_zero]; rfl) (by kernel_rfl) (by kernel_rfl) (by kernel_rfl) (by exact fun _ _ _ h => h) (Or.inl ⟨by rfl, ?_⟩) (by assumption) ?_
  rotate_left 1
  · (intro w hSw; (try dsimp only at hSw); go_simp; try with_reducible rfl)
  try simp only [Act.put, List.setIfInBounds_toArray, List.set_cons_zero, List.set_cons_succ]
  refine wpAnyH_take (i := 34) (oi := _) (v := ?_) (by simp only [List.getElem?_toArray, List.getElem?_cons_succ, List.getElem?_cons_zero]; rfl) (by kernel_rfl) (by kernel_rfl) (by kernel_rfl) (by exact fun _ _ _ h => h) (Or.inl ⟨by rfl, ?_⟩) (by assumption) ?_
  rotate_left 1
  · (intro w hSw; (try dsimp only at hSw); go_simp; try with_reducible rfl)
  try simp only [Act.put, List.setIfInBounds_toArray, List.set_cons_zero, List.set_cons_succ]
  refine wpAnyH_take (i := 35) (oi := _) (v := ?_) (by simp only [List.getElem?_toArray, List.getElem?_cons_succ, List.getElem?_cons_zero]; rfl) (by kernel_rfl) (by kernel_rfl) (by kernel_rfl) (by exact fun _ _ _ h => h) (Or.inl ⟨by rfl, ?_⟩) (by assumption) ?_
  rotate_left 1
  · (intro w hSw; (try dsimp only at hSw); go_simp; try with_reducible rfl)
  try simp only [Act.put, List.setIfInBounds_toArray, List.set_cons_zero, List.set_cons_succ]
  refine wpAnyH_take (i := 37) (oi := _) (v := ?_) (by simp only [List.getElem?_toArray, List.getElem?_cons_succ, List.getElem?_cons_zero]; rfl) (by kernel_rfl) (by kernel_rfl) (by kernel_rfl) (by exact fun _ _ _ h => h) (Or.inl ⟨by rfl, ?_⟩) (by assumption) ?_
  rotate_left 1
  · (intro w hSw; (try dsimp only at hSw); go_simp; try with_reducible rfl)
  try simp only [Act.put, List.setIfInBounds_toArray, List.set_cons_zero, List.set_cons_succ]
  refine wpAnyH_ready (rs := [36]) (by kernel_rfl) (by simp) ?_
  refine AllReadyH.cons (o := _) (by simp only [List.getElem?_toArray, List.getElem?_cons_succ, List.getElem?_cons_zero]; rfl) (fun K hK => ?_) AllReadyH.nil
  go_simp
  (go_at_call 21; (with_reducible refine ((K10.out) _).mono ?_); rintro e w10 ⟨rfl, hb⟩; obtain ⟨hclw10, hfrw10⟩ := bcell hb; have zw10_a : w.heap.size < w10.heap.size := (by first | omega | (have hz := hb.size; (try simp at hz); omega)); have yw10_a : w.heap.size < w10.heap.size + 1 := (by omega); have yyw10_a : w.heap.size < w10.heap.size + 1 + 1 := (by omega); have zw10_one : w1.heap.size < w10.heap.size := (by first | omega | (have hz := hb.size; (try simp at hz); omega)); have yw10_one : w1.heap.size < w10.heap.size + 1 := (by omega); have yyw10_one : w1.heap.size < w10.heap.size + 1 + 1 := (by omega); have sxw10_0 : R3.heap.size ≤ w10.heap.size := (by first | omega | (have hz := hb.size; (try simp at hz); omega)); have sxw10_w8 : w8.heap.size ≤ w10.heap.size := (by first | omega | (have hz := hb.size; (try simp at hz); omega)); have sxw10_w9 : w9.heap.size ≤ w10.heap.size := (by first | omega | (have hz := hb.size; (try simp at hz); omega)); have HBw10 : Hid (Below w.heap.size w w10) := (bl_trans (by repeat (first | with_reducible exact Below.refl _ _ | with_reducible exact Hid.out (by assumption) | with_reducible refine Below.setCell ?_ (by first | (simp; done) | omega | (simp <;> omega)) _ | with_reducible refine bl_al ?_ _ | with_reducible apply Below.drew)) hb); clear hb)
  try go_wp2_with fail
  refine hK.out _ _ ?_ (fun hHeldN => ?_)
  · (try dsimp only); (first | (simp [*, go_sem]; done) | (simp [*, go_sem, World.cell?_alloc_past]; done))
  clear hK K hHeld; have hHeld := hHeldN; clear hHeldN
  try simp only [Act.put, List.setIfInBounds_toArray, List.set_cons_zero, List.set_cons_succ]
  refine wpAnyH_take (i := 38) (oi := _) (v := ?_) (by simp only [List.getElem?_toArray, List.getElem?_cons_succ, List.getElem?_cons_zero]; rfl) (by kernel_rfl) (by kernel_rfl) (by kernel_rfl) (by exact fun _ _ _ h => h) (Or.inl ⟨by rfl, ?_⟩) (by assumption) ?_
  rotate_left 1
  · (intro w hSw; (try dsimp only at hSw); go_simp; try with_reducible rfl)
  try simp only [Act.put, List.setIfInBounds_toArray, List.set_cons_zero, List.set_cons_succ]
  refine wpAnyH_take (i := 39) (oi := _) (v := ?_) (by simp only [List.getElem?_toArray, List.getElem?_cons_succ, List.getElem?_cons_zero]; rfl) (by kernel_rfl) (by kernel_rfl) (by kernel_rfl) (by exact fun _ _ _ h => h) (Or.inl ⟨by rfl, ?_⟩) (by assumption) ?_
  rotate_left 1
  · (intro w hSw; (try dsimp only at hSw); go_simp; try with_reducible rfl)
  try simp only [Act.put, List.setIfInBounds_toArray, List.set_cons_zero, List.set_cons_succ]
  refine wpAnyH_take (i := 40) (oi := _) (v := ?_) (by simp only [List.getElem?_toArray, List.getElem?_cons_succ, List.getElem?_cons_zero]; rfl) (by kernel_rfl) (by kernel_rfl) (by kernel_rfl) (by exact fun _ _ _ h => h) (Or.inl ⟨by rfl, ?_⟩) (by assumption) ?_
  rotate_left 1
  · (intro w hSw; (try dsimp only at hSw); go_simp; try with_reducible rfl)
  try simp only [Act.put, List.setIfInBounds_toArray, List.set_cons_zero, List.set_cons_succ]
  refine wpAnyH_take (i := 41) (oi := _) (v := ?_) (by simp only [List.getElem?_toArray, List.getElem?_cons_succ, List.getElem?_cons_zero]; rfl) (by kernel_rfl) (by kernel_rfl) (by kernel_rfl) (by exact fun _ _ _ h => h) (Or.inl ⟨by rfl, ?_⟩) (by assumption) ?_
  rotate_left 1
  · (intro w hSw; (try dsimp only at hSw); go_simp; try with_reducible rfl)
  try simp only [Act.put, List.setIfInBounds_toArray, List.set_cons_zero, List.set_cons_succ]
  refine wpAnyH_take (i := 42) (oi := _) (v := ?_) (by simp only [List.getElem?_toArray, List.getElem?_cons_succ, List.getElem?_cons_zero]; rfl) (by kernel_rfl) (by kernel_rfl) (by kernel_rfl) (by exact fun _ _ _ h => h) (Or.inl ⟨by rfl, ?_⟩) (by assumption) ?_
  rotate_left 1
  · (intro w hSw; (try dsimp only at hSw); go_simp; try with_reducible rfl)
  try simp only [Act.put, List.setIfInBounds_toArray, List.set_cons_zero, List.set_cons_succ]
  refine wpAnyH_take (i := 43) (oi := _) (v := ?_) (by simp only [List.getElem?_toArray, List.getElem?_cons_succ, List.getElem?_cons_zero]; rfl) (by kernel_rfl) (by kernel_rfl) (by kernel_rfl) (by exact fun _ _ _ h => h) (Or.inl ⟨by rfl, ?_⟩) (by assumption) ?_
  rotate_left 1
  · (intro w hSw; (try dsimp only at hSw); go_simp; try with_reducible rfl)
  try simp only [Act.put, List.setIfInBounds_toArray, List.set_cons_zero, List.set_cons_succ]
  refine wpAnyH_take (i := 44) (oi := _) (v := ?_) (by simp only [List.getElem?_toArray, List.getElem?_cons_succ, List.getElem?_cons_zero]; rfl) (by kernel_rfl) (by kernel_rfl) (by kernel_rfl) (by exact fun _ _ _ h => h) (Or.inl ⟨by rfl, ?_⟩) (by assumption) ?_
  rotate_left 1
  · (intro w hSw; (try dsimp only at hSw); go_simp; try with_reducible rfl)
  try simp only [Act.put, List.setIfInBounds_toArray, List.set_cons_zero, List.set_cons_succ]
  refine wpAnyH_take (i := 46) (oi := _) (v := ?_) (by simp only [List.getElem?_toArray, List.getElem?_cons_succ, List.getElem?_cons_zero]; rfl) (by kernel_rfl) (by kernel_rfl) (by kernel_rfl) (by exact fun _ _ _ h => h) (Or.inl ⟨by rfl, ?_⟩) (by assumption) ?_
  rotate_left 1
  · (intro w hSw; (try dsimp only at hSw); go_simp; try with_reducible rfl)
  try simp only [Act.put, List.setIfInBounds_toArray, List.set_cons_zero, List.set_cons_succ]
  refine wpAnyH_ready (rs := [45]) (by kernel_rfl) (by simp) ?_
  refine AllReadyH.cons (o := _) (by simp only [List.getElem?_toArray, List.getElem?_cons_succ, List.getElem?_cons_zero]; rfl) (fun K hK => ?_) AllReadyH.nil
  go_simp
  (go_at_call 23; (with_reducible refine ((K11.out) _).mono ?_); rintro e w11 ⟨rfl, hb⟩; obtain ⟨hclw11, hfrw11⟩ := bcell hb; have zw11_a : w.heap.size < w11.heap.size := (by first | omega | (have hz := hb.size; (try simp at hz); omega)); have yw11_a : w.heap.size < w11.heap.size + 1 := (by omega); have yyw11_a : w.heap.size < w11.heap.size + 1 + 1 := (by omega); have zw11_one : w1.heap.size < w11.heap.size := (by first | omega | (have hz := hb.size; (try simp at hz); omega)); have yw11_one : w1.heap.size < w11.heap.size + 1 := (by omega); have yyw11_one : w1.heap.size < w11.heap.size + 1 + 1 := (by omega); have sxw11_0 : R3.heap.size ≤ w11.heap.size := (by first | omega | (have hz := hb.size; (try simp at hz); omega)); have sxw11_w8 : w8.heap.size ≤ w11.heap.size := (by first | omega | (have hz := hb.size; (try simp at hz); omega)); have sxw11_w9 : w9.heap.size ≤ w11.heap.size := (by first | omega | (have hz := hb.size; (try simp at hz); omega)); have sxw11_w10 : w10.heap.size ≤ w11.heap.size := (by first | omega | (have hz := hb.size; (try simp at hz); omega)); have HBw11 : Hid (Below w.heap.size w w11) := (bl_trans (by repeat (first | with_reducible exact Below.refl _ _ | with_reducible exact Hid.out (by assumption) | with_reducible refine Below.setCell ?_ (by first | (simp; done) | omega | (simp <;> omega)) _ | with_reducible refine bl_al ?_ _ | with_reducible apply Below.drew)) hb); clear hb)
  try go_wp2_with fail
  refine hK.out _ _ ?_ (fun hHeldN => ?_)
  · (try dsimp only); (first | (simp [*, go_sem]; done) | (simp [*, go_sem, World.cell?_alloc_past]; done))
  clear hK K hHeld; have hHeld := hHeldN; clear hHeldN
  try simp only [Act.put, List.setIfInBounds_toArray, List.set_cons_zero, List.set_cons_succ]
  refine wpAnyH_take (i := 47) (oi := _) (v := ?_) (by simp only [List.getElem?_toArray, List.getElem?_cons_succ, List.getElem?_cons_zero]; rfl) (by kernel_rfl) (by kernel_rfl) (by kernel_rfl) (by exact fun _ _ _ h => h) (Or.inl ⟨by rfl, ?_⟩) (by assumption) ?_
  rotate_left 1
  · (intro w hSw; (try dsimp only at hSw); go_simp; try with_reducible rfl)
  try simp only [Act.put, List.setIfInBounds_toArray, List.set_cons_zero, List.set_cons_succ]
  refine wpAnyH_take (i := 48) (oi := _) (v := ?_) (by simp only [List.getElem?_toArray, List.getElem?_cons_succ, List.getElem?_cons_zero]; rfl) (by kernel_rfl) (by kernel_rfl) (by kernel_rfl) (by exact fun _ _ _ h => h) (Or.inl ⟨by rfl, ?_⟩) (by assumption) ?_
  rotate_left 1
  · (intro w hSw; (try dsimp only at hSw); go_simp; try with_reducible rfl)
  try simp only [Act.put, List.setIfInBounds_toArray, List.set_cons_zero, List.set_cons_succ]
  refine wpAnyH_take (i := 49) (oi := _) (v := ?_) (by simp only [List.getElem?_toArray, List.getElem?_cons_succ, List.getElem?_cons_zero]; rfl) (by kernel_rfl) (by kernel_rfl) (by kernel_rfl) (by exact fun _ _ _ h => h) (Or.inl ⟨by rfl, ?_⟩) (by assumption) ?_
  rotate_left 1
  · (intro w hSw; (try dsimp only at hSw); go_simp; try with_reducible rfl)
  try simp only [Act.put, List.setIfInBounds_toArray, List.set_cons_zero, List.set_cons_succ]
  refine wpAnyH_ready (rs := [50]) (by kernel_rfl) (by simp) ?_
  refine AllReadyH.cons (o := _) (by simp only [List.getElem?_toArray, List.getElem?_cons_succ, List.getElem?_cons_zero]; rfl) (fun K hK => ?_) AllReadyH.nil
  go_simp
  (go_at_call 16; (with_reducible refine ((K12.out) _).mono ?_); rintro e w12 ⟨rfl, hb⟩; obtain ⟨hclw12, hfrw12⟩ := bcell hb; have zw12_a : w.heap.size < w12.heap.size := (by first | omega | (have hz := hb.size; (try simp at hz); omega)); have yw12_a : w.heap.size < w12.heap.size + 1 := (by omega); have yyw12_a : w.heap.size < w12.heap.size + 1 + 1 := (by omega); have zw12_one : w1.heap.size < w12.heap.size := (by first | omega | (have hz := hb.size; (try simp at hz); omega)); have yw12_one : w1.heap.size < w12.heap.size + 1 := (by omega); have yyw12_one : w1.heap.size < w12.heap.size + 1 + 1 := (by omega); have sxw12_0 : R3.heap.size ≤ w12.heap.size := (by first | omega | (have hz := hb.size; (try simp at hz); omega)); have sxw12_w8 : w8.heap.size ≤ w12.heap.size := (by first | omega | (have hz := hb.size; (try simp at hz); omega)); have sxw12_w9 : w9.heap.size ≤ w12.heap.size := (by first | omega | (have hz := hb.size; (try simp at hz); omega)); have sxw12_w10 : w10.heap.size ≤ w12.heap.size := (by first | omega | (have hz := hb.size; (try simp at hz); omega)); have sxw12_w11 : w11.heap.size ≤ w12.heap.size := (by first | omega | (have hz := hb.size; (try simp at hz); omega)); have HBw12 : Hid (Below w.heap.size w w12) := (bl_trans (by repeat (first | with_reducible exact Below.refl _ _ | with_reducible exact Hid.out (by assumption) | with_reducible refine Below.setCell ?_ (by first | (simp; done) | omega | (simp <;> omega)) _ | with_reducible refine bl_al ?_ _ | with_reducible apply Below.drew)) hb); clear hb)
  try go_wp2_with fail
  refine hK.out _ _ ?_ (fun hHeldN => ?_)
  · (try dsimp only); (first | (simp [*, go_sem]; done) | (simp [*, go_sem, World.cell?_alloc_past]; done))
  clear hK K hHeld; have hHeld := hHeldN; clear hHeldN
  try simp only [Act.put, List.setIfInBounds_toArray, List.set_cons_zero, List.set_cons_succ]
  refine wpAnyH_take (i := 51) (oi := _) (v := ?_) (by simp only [List.getElem?_toArray, List.getElem?_cons_succ, List.getElem?_cons_zero]; rfl) (by kernel_rfl) (by kernel_rfl) (by kernel_rfl) (by exact fun _ _ _ h => h) (Or.inl ⟨by rfl, ?_⟩) (by assumption) ?_
  rotate_left 1
  · (intro w hSw; (try dsimp only at hSw); go_simp; try with_reducible rfl)
  try simp only [Act.put, List.setIfInBounds_toArray, List.set_cons_zero, List.set_cons_succ]
  refine wpAnyH_take (i := 52) (oi := _) (v := ?_) (by simp only [List.getElem?_toArray, List.getElem?_cons_succ, List.getElem?_cons_zero]; rfl) (by kernel_rfl) (by kernel_rfl) (by kernel_rfl) (by exact fun _ _ _ h => h) (Or.inl ⟨by rfl, ?_⟩) (by assumption) ?_
  rotate_left 1
  · (intro w hSw; (try dsimp only at hSw); go_simp; try with_reducible rfl)
  try simp only [Act.put, List.setIfInBounds_toArray, List.set_cons_zero, List.set_cons_succ]
  refine wpAnyH_done (by kernel_rfl) ?_ _
  clear hHeld
  go_wp2_with fail
  go_returns
  exact ⟨rfl, by repeat (first | with_reducible exact Below.refl _ _ | with_reducible exact Hid.out (by assumption) | with_reducible refine Below.setCell ?_ (by first | (simp; done) | omega | (simp <;> omega)) _ | with_reducible refine bl_al ?_ _ | with_reducible apply Below.drew)⟩
end Go.Proofs.Ytafpmafcekcpdaa
