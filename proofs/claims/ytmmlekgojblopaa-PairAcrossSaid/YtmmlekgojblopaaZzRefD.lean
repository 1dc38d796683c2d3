/- The document's division: the walk. -/
import Derived.Test.YtmmlekgojblopaaZzRefA
import Derived.Test.YtmmlekgojblopaaZzRefB
import Derived.Test.YtmmlekgojblopaaZzLimA
import Derived.Test.YtmmlekgojblopaaZzRefC
namespace Go.Proofs.Ytmmlekgojblopaa
open Go.RowKit

theorem frozen_late {W : World} {B j : Nat} (h : W.heap.size ≤ B) : W.frozen? ⟨B, j, none⟩ = false := by simp [World.frozen?, Array.getElem?_eq_none h]
/-- Both numbers, room for the answer, the rest so far, the quotient's words so far. -/
structure Dv (w : World) (a3 a2 a1 a0 b1 b0 r1 r0 : Int) (Q : Nat) (X : World) : Prop where
  a : Has (w.heap.size) [.int .u64 a3, .int .u64 a2, .int .u64 a1, .int .u64 a0] X
  b : Has (w.heap.size + 1) [.int .u64 b1, .int .u64 b0] X
  res : Has (w.heap.size + 1 + 1) [.int .u64 0, .int .u64 0, .int .u64 0, .int .u64 0, .int .u64 0, .int .u64 0, .bool false] X
  out : Has (w.heap.size + 1 + 1 + 1) [.int .u64 0, .int .u64 0, .int .u64 0, .int .u64 0, .int .u64 r1, .int .u64 r0, .bool true] X
  size : w.heap.size + 1 + 1 + 1 + 1 < X.heap.size
  q : ∀ j, j < 4 → X.cell? ⟨w.heap.size + 1 + 1 + 1 + 1, j, none⟩ = some (.int .u64 (wd Q j))
  zr : Clear (w.heap.size + 1 + 1) X
  zo : Clear (w.heap.size + 1 + 1 + 1) X
  zq : Clear (w.heap.size + 1 + 1 + 1 + 1) X
  below : Below w.heap.size w X
section
variable {w : World} {a3 a2 a1 a0 b1 b0 r1 r0 : Int} {Q : Nat} {X Y : World}
theorem Dv.step (h : Dv w a3 a2 a1 a0 b1 b0 r1 r0 Q X) (g : Below X.heap.size X Y) : Dv w a3 a2 a1 a0 b1 b0 r1 r0 Q Y :=
  ⟨h.a.step g, h.b.step g, h.res.step g, h.out.step g, Nat.lt_of_lt_of_le h.size g.size, fun j hj => by rw [(bcell g).1 _ _ h.size]; exact h.q j hj, fun j => by rw [(bcell g).2 _ _ h.res.1]; exact h.zr j, fun j => by rw [(bcell g).2 _ _ h.out.1]; exact h.zo j, fun j => by rw [(bcell g).2 _ _ h.size]; exact h.zq j, bl_trans h.below g⟩
theorem Has.mk7 {B : Nat} {x0 x1 x2 x3 x4 x5 x6 : Value} {W : World} (h : B < W.heap.size) (h0 : W.cell? ⟨B, 0, none⟩ = some x0) (h1 : W.cell? ⟨B, 1, none⟩ = some x1) (h2 : W.cell? ⟨B, 2, none⟩ = some x2) (h3 : W.cell? ⟨B, 3, none⟩ = some x3) (h4 : W.cell? ⟨B, 4, none⟩ = some x4) (h5 : W.cell? ⟨B, 5, none⟩ = some x5) (h6 : W.cell? ⟨B, 6, none⟩ = some x6) : Has B [x0, x1, x2, x3, x4, x5, x6] W := by
  refine ⟨h, fun j x e => ?_⟩
  rcases (show j = 0 ∨ j = 1 ∨ j = 2 ∨ j = 3 ∨ j = 4 ∨ j = 5 ∨ j = 6 ∨ 7 ≤ j by omega) with rfl | rfl | rfl | rfl | rfl | rfl | rfl | g
  · simp at e; subst e; exact h0
  · simp at e; subst e; exact h1
  · simp at e; subst e; exact h2
  · simp at e; subst e; exact h3
  · simp at e; subst e; exact h4
  · simp at e; subst e; exact h5
  · simp at e; subst e; exact h6
  · rw [List.getElem?_eq_none (by simpa using g)] at e; cases e
theorem Dv.rest (h : Dv w a3 a2 a1 a0 b1 b0 r1 r0 Q X) (n1 n0 : Int) : Dv w a3 a2 a1 a0 b1 b0 n1 n0 Q ((X.setCell ⟨w.heap.size + 1 + 1 + 1, 4, none⟩ (.int .u64 n1)).setCell ⟨w.heap.size + 1 + 1 + 1, 5, none⟩ (.int .u64 n0)) := by
  have hW : Wrote (w.heap.size + 1 + 1 + 1) 4 2 X ((X.setCell ⟨w.heap.size + 1 + 1 + 1, 4, none⟩ (.int .u64 n1)).setCell ⟨w.heap.size + 1 + 1 + 1, 5, none⟩ (.int .u64 n0)) :=
    Wrote.setCell (Wrote.setCell (Wrote.refl _ _ _ _) (by decide) (by decide) _) (by decide) (by decide) _
  have o0 := h.out.2 0 _ rfl; have o1 := h.out.2 1 _ rfl; have o2 := h.out.2 2 _ rfl; have o3 := h.out.2 3 _ rfl; have o4 := h.out.2 4 _ rfl; have o5 := h.out.2 5 _ rfl; have o6 := h.out.2 6 _ rfl
  refine ⟨⟨Nat.lt_of_lt_of_le h.a.1 hW.size, fun j x e => ?_⟩, ⟨Nat.lt_of_lt_of_le h.b.1 hW.size, fun j x e => ?_⟩, ⟨Nat.lt_of_lt_of_le h.res.1 hW.size, fun j x e => ?_⟩,
    Has.mk7 (Nat.lt_of_lt_of_le h.out.1 hW.size) (by rw [hW.cells 0 (Or.inl (by decide))]; exact o0) (by rw [hW.cells 1 (Or.inl (by decide))]; exact o1) (by rw [hW.cells 2 (Or.inl (by decide))]; exact o2) (by rw [hW.cells 3 (Or.inl (by decide))]; exact o3) (by simp [go_sem, *]) (by simp [go_sem, *]) (by rw [hW.cells 6 (Or.inr (by decide))]; exact o6),
    Nat.lt_of_lt_of_le h.size hW.size, fun j hj => ?_, fun j => ?_, fun j => ?_, fun j => ?_, ?_⟩
  · rw [hW.other h.a.1 (by omega)]; exact h.a.2 j x e
  · rw [hW.other h.b.1 (by omega)]; exact h.b.2 j x e
  · rw [hW.other h.res.1 (by omega)]; exact h.res.2 j x e
  · rw [hW.other h.size (by omega)]; exact h.q j hj
  · rw [World.frozen?_of_block (a := ⟨w.heap.size + 1 + 1, j, none⟩) (hW.block (w.heap.size + 1 + 1) h.res.1 (by omega))]; exact h.zr j
  · rw [hW.frozen]; exact h.zo j
  · rw [World.frozen?_of_block (a := ⟨w.heap.size + 1 + 1 + 1 + 1, j, none⟩) (hW.block (w.heap.size + 1 + 1 + 1 + 1) h.size (by omega))]; exact h.zq j
  · exact h.below.trans (hW.below (B0 := w.heap.size) (by omega) (by have := h.below.size; omega))
theorem Dv.quot (h : Dv w a3 a2 a1 a0 b1 b0 r1 r0 Q X) {Q' m : Nat} {x : Int} (hx : x = wd Q' m) (ho : ∀ j, j ≠ m → wd Q' j = wd Q j) (hm : m < 4) : Dv w a3 a2 a1 a0 b1 b0 r1 r0 Q' (X.setCell ⟨w.heap.size + 1 + 1 + 1 + 1, m, none⟩ (.int .u64 x)) := by
  have hW : Wrote (w.heap.size + 1 + 1 + 1 + 1) m 1 X (X.setCell ⟨w.heap.size + 1 + 1 + 1 + 1, m, none⟩ (.int .u64 x)) := Wrote.setCell (Wrote.refl _ _ _ _) (Nat.le_refl _) (Nat.lt_succ_self _) _
  have hq := h.q m hm
  refine ⟨⟨Nat.lt_of_lt_of_le h.a.1 hW.size, fun j x e => ?_⟩, ⟨Nat.lt_of_lt_of_le h.b.1 hW.size, fun j x e => ?_⟩, ⟨Nat.lt_of_lt_of_le h.res.1 hW.size, fun j x e => ?_⟩, ⟨Nat.lt_of_lt_of_le h.out.1 hW.size, fun j x e => ?_⟩,
    Nat.lt_of_lt_of_le h.size hW.size, fun j hj => ?_, fun j => ?_, fun j => ?_, fun j => ?_, ?_⟩
  · rw [hW.other h.a.1 (by omega)]; exact h.a.2 j x e
  · rw [hW.other h.b.1 (by omega)]; exact h.b.2 j x e
  · rw [hW.other h.res.1 (by omega)]; exact h.res.2 j x e
  · rw [hW.other h.out.1 (by omega)]; exact h.out.2 j x e
  · rcases Nat.lt_trichotomy j m with c | c | c
    · rw [hW.cells j (Or.inl c), ho j (by omega)]; exact h.q j hj
    · subst c; rw [← hx]; simp [go_sem, *]
    · rw [hW.cells j (Or.inr (by omega)), ho j (by omega)]; exact h.q j hj
  · rw [World.frozen?_of_block (a := ⟨w.heap.size + 1 + 1, j, none⟩) (hW.block (w.heap.size + 1 + 1) h.res.1 (by omega))]; exact h.zr j
  · rw [World.frozen?_of_block (a := ⟨w.heap.size + 1 + 1 + 1, j, none⟩) (hW.block (w.heap.size + 1 + 1 + 1) h.out.1 (by omega))]; exact h.zo j
  · rw [hW.frozen]; exact h.zq j
  · exact h.below.trans (hW.below (B0 := w.heap.size) (by omega) (by have := h.below.size; omega))
end
end Go.Proofs.Ytmmlekgojblopaa
namespace Go.Proofs.Ytmmlekgojblopaa
open Go.RowKit

set_option maxRecDepth 20000 in
set_option maxHeartbeats 16000000 in
theorem rdivf_none (h l : Int) (q : ∀ W, (Go.binOp .eql 24 (.agg #[.int .i64 0, .int .u64 0]) (.agg #[.int .i64 0, .int .u64 0])).run Try.prog W = .ok (.bool true) W) (w : World) :
    Calls Try.prog 17 #[.agg #[.int .i64 h, .int .u64 l], .agg #[.int .i64 0, .int .u64 0]] w fun e w' => e = .returned (.agg #[.int .i64 0, .int .u64 0, .int .i64 2]) ∧ Below w.heap.size w w' := by
  go_enter Try.func17, Try.ntmps17
  go_wp2_with fail
  refine bodyPost_ret (by simp [results, Try.results17, go_sem, *]; try rfl) rfl ?_
  exact ⟨rfl, bb⟩
set_option maxRecDepth 20000 in
set_option maxHeartbeats 16000000 in
theorem rdivf_false (h l m n d1 d0 e3 e2 e1 e0 g1 g0 s1 s0 y1 y0 t3 t2 t1 t0 u1 u0 x1 x0 k : Int) (p q cy ok : Bool) (ha : decide (h < 0) = p) (hb : decide (m < 0) = q) (qz : ∀ W, (Go.binOp .eql 24 (.agg #[.int .i64 m, .int .u64 n]) (.agg #[.int .i64 0, .int .u64 0])).run Try.prog W = .ok (.bool false) W) (w : World)
    (C1 : Ct 32 #[.agg #[.int .i64 h, .int .u64 l]] (.agg #[.int .u64 d1, .int .u64 d0]))
    (C2 : Ct 31 #[.agg #[.int .u64 0, .int .u64 0, .int .u64 d1, .int .u64 d0], .int .i64 65] (.agg #[.int .u64 e3, .int .u64 e2, .int .u64 e1, .int .u64 e0]))
    (C3 : Ct 32 #[.agg #[.int .i64 m, .int .u64 n]] (.agg #[.int .u64 g1, .int .u64 g0]))
    (C4 : Ct 33 #[.agg #[.int .u64 e1, .int .u64 e0], .agg #[.int .u64 g1, .int .u64 g0]] (.agg #[.int .u64 s1, .int .u64 s0, .bool false]))
    (C5 : Ct 33 #[.agg #[.int .u64 g1, .int .u64 g0], .agg #[.int .u64 g1, .int .u64 g0]] (.agg #[.int .u64 y1, .int .u64 y0, .bool cy]))
    (C6 : Ct 34 #[.agg #[.int .u64 e3, .int .u64 e2, .int .u64 s1, .int .u64 s0], .agg #[.int .u64 y1, .int .u64 y0]] (.agg #[.int .u64 t3, .int .u64 t2, .int .u64 t1, .int .u64 t0, .int .u64 u1, .int .u64 u0, .bool ok]))
    (C7 : Ct 35 #[.bool (!(p == q)), .agg #[.int .u64 t3, .int .u64 t2, .int .u64 t1, .int .u64 t0]] (.agg #[.int .i64 x1, .int .u64 x0, .int .i64 k])) :
    Calls Try.prog 17 #[.agg #[.int .i64 h, .int .u64 l], .agg #[.int .i64 m, .int .u64 n]] w fun e w' => e = .returned (.agg #[.int .i64 x1, .int .u64 x0, .int .i64 k]) ∧ Below w.heap.size w w' := by
  have K1 := Lib.hid C1; have K2 := Lib.hid C2; have K3 := Lib.hid C3; have K4 := Lib.hid C4; have K5 := Lib.hid C5; have K6 := Lib.hid C6; have K7 := Lib.hid C7
  clear C1 C2 C3 C4 C5 C6 C7
  have fld := field_part
  go_enter Try.func17, Try.ntmps17
  go_upto_region 3 with fail
  refine nw _ fun R1 hR1 => ?_
  obtain ⟨zR1_a, yR1_a, yyR1_a, cR1_a_0, cR1_a_1⟩ := cz2 hR1 w.heap.size (.int .i64 h) (.int .u64 l)
  obtain ⟨zR1_b, yR1_b, yyR1_b, cR1_b_0, cR1_b_1⟩ := cz2 hR1 (w.heap.size + 1) (.int .i64 m) (.int .u64 n)
  obtain ⟨zR1_r, yR1_r, yyR1_r, cR1_r_0, cR1_r_1, cR1_r_2⟩ := cz3 hR1 (w.heap.size + 1 + 1) (.int .i64 0) (.int .u64 0) (.int .i64 0)
  have fR1_r := fz (b := w.heap.size + 1 + 1) hR1
  have lo_r : w.heap.size ≤ w.heap.size + 1 + 1 := by omega
  have na_r_a : ¬ (w.heap.size + 1 + 1 = w.heap.size) := by omega
  have nb_r_a : ¬ (w.heap.size = w.heap.size + 1 + 1) := by omega
  have na_r_b : ¬ (w.heap.size + 1 + 1 = w.heap.size + 1) := by omega
  have nb_r_b : ¬ (w.heap.size + 1 = w.heap.size + 1 + 1) := by omega
  have HBR1 := bhr (a := w) hR1
  clear hR1
  go_cut [5, 6] (fun slot0 slot1 X1 => ∃ bX1x bX1y : Nat, slot0 = .pointer (some ⟨bX1x, 0, none⟩) ∧ slot1 = .pointer (some ⟨bX1y, 0, none⟩) ∧ R1.heap.size ≤ bX1x ∧ R1.heap.size ≤ bX1y ∧ bX1y ≠ bX1x ∧ Below R1.heap.size R1 X1 ∧ Has (bX1x) [.int .u64 e3, .int .u64 e2, .int .u64 e1, .int .u64 e0] X1 ∧ Clear (bX1x) X1 ∧ Has (bX1y) [.int .u64 g1, .int .u64 g0] X1)
  case first =>
    clear HBR1
    have ltt : ∀ n : Nat, n < n + 1 + 1 := fun n => by omega
    have lttt : ∀ n : Nat, n + 1 < n + 1 + 1 := fun n => by omega
    go_region_held3 (fun w' => w'.cell? ⟨w.heap.size, 0, none⟩ = some (.int .i64 h) ∧ w'.cell? ⟨w.heap.size, 1, none⟩ = some (.int .u64 l) ∧ w'.cell? ⟨w.heap.size + 1, 0, none⟩ = some (.int .i64 m) ∧ w'.cell? ⟨w.heap.size + 1, 1, none⟩ = some (.int .u64 n)) (first | (simp [*, go_sem]; done) | (simp [*, go_sem, World.cell?_alloc_past]; done))
      (first
        | (go_at_call 32; (with_reducible refine (K1.out _).mono ?_); rintro e w1 ⟨rfl, hb⟩; (first | (with_reducible (obtain ⟨hclw1, hfrw1⟩ := bcell_drew hb)) | (obtain ⟨hclw1, hfrw1⟩ := bcell hb)); obtain ⟨zw1_a, yw1_a, yyw1_a⟩ := sz3 (B := w.heap.size) hb; obtain ⟨zw1_b, yw1_b, yyw1_b⟩ := sz3 (B := w.heap.size + 1) hb; (try have sw1_0 := sz (B := R1.heap.size) hb); (try have stw1_0 := sz (B := R1.heap.size + 1) hb); obtain ⟨sxw1_0, syw1_0⟩ := szx (b := R1.heap.size) hb; have HBw1 := hbw (a := R1) hb; clear hb; clear K1)
        | (go_at_call 31; (with_reducible refine cm (K2.out _) fun w2 hclw2 hfrw2 hb => ?_); obtain ⟨zw2_a, yw2_a, yyw2_a⟩ := sz3 (B := w.heap.size) hb; obtain ⟨zw2_b, yw2_b, yyw2_b⟩ := sz3 (B := w.heap.size + 1) hb; (try have sw2_0 := sz (B := R1.heap.size) hb); (try have stw2_0 := sz (B := R1.heap.size + 1) hb); obtain ⟨sxw2_0, syw2_0⟩ := szx (b := R1.heap.size) hb; (try have sw2_w1 := sz (B := w1.heap.size) hb); (try have stw2_w1 := sz (B := w1.heap.size + 1) hb); obtain ⟨sxw2_w1, syw2_w1⟩ := szx (b := w1.heap.size) hb; have HBw2 := hbw (a := R1) hb; clear hb; clear K2)
        | (go_at_call 32; (with_reducible refine cm (K3.out _) fun w3 hclw3 hfrw3 hb => ?_); obtain ⟨zw3_a, yw3_a, yyw3_a⟩ := sz3 (B := w.heap.size) hb; obtain ⟨zw3_b, yw3_b, yyw3_b⟩ := sz3 (B := w.heap.size + 1) hb; (try have sw3_0 := sz (B := R1.heap.size) hb); (try have stw3_0 := sz (B := R1.heap.size + 1) hb); obtain ⟨sxw3_0, syw3_0⟩ := szx (b := R1.heap.size) hb; (try have sw3_w1 := sz (B := w1.heap.size) hb); (try have stw3_w1 := sz (B := w1.heap.size + 1) hb); obtain ⟨sxw3_w1, syw3_w1⟩ := szx (b := w1.heap.size) hb; (try have sw3_w2 := sz (B := w2.heap.size) hb); (try have stw3_w2 := sz (B := w2.heap.size + 1) hb); obtain ⟨sxw3_w2, syw3_w2⟩ := szx (b := w2.heap.size) hb; have HBw3 := hbw (a := R1) hb; clear hb; clear K3))
    all_goals (rename_i hHeld; clear hHeld; go_wp2_with fail; go_meet; exact ⟨_, _, rfl, rfl, (by first | omega | (simp <;> omega)), (by first | omega | (simp <;> omega)), (by first | omega | (simp <;> omega)), bb, Has.mk4 (by first | (simp <;> omega) | omega) (by simp [go_sem, *]) (by simp [go_sem, *]) (by simp [go_sem, *]) (by simp [go_sem, *]), (fun j => by first | (simp [go_sem, *]; done) | (simp [frozen?_alloc_cells, World.frozen?_setCell, World.frozen?, *]; done) | (simp only [World.frozen?_setCell, frozen?_alloc_cells]; first | exact frozen_fix (by first | omega | (simp <;> omega)) | (simp [*]; done)) | (simp only [World.frozen?_setCell, frozen?_alloc_cells, World.frozen?_drew]; exact frozen_fix (by first | omega | (simp <;> omega)))), Has.mk2 (by first | (simp <;> omega) | omega) (by simp [go_sem, *]) (by simp [go_sem, *])⟩)
  case rest =>
  obtain ⟨X1, hX1⟩ : ∃ X, X = wc := ⟨wc, rfl⟩
  subst hX1
  obtain ⟨bX1x, bX1y, rfl, rfl, m_bX1x, m_bX1y, n_bX1y_bX1x, hX, g_x, c_x, g_y⟩ := hcut
  have lw_bX1x : w.heap.size + 1 + 1 + 1 ≤ bX1x := by omega
  have lw_bX1y : w.heap.size + 1 + 1 + 1 ≤ bX1y := by omega
  have lv_bX1y_bX1x : bX1y ≠ bX1x := by omega
  have zX1_a := Nat.lt_of_lt_of_le zR1_a hX.size
  have cX1_a_0 := (bcl hX zR1_a).trans cR1_a_0
  have cX1_a_1 := (bcl hX zR1_a).trans cR1_a_1
  have zX1_b := Nat.lt_of_lt_of_le zR1_b hX.size
  have cX1_b_0 := (bcl hX zR1_b).trans cR1_b_0
  have cX1_b_1 := (bcl hX zR1_b).trans cR1_b_1
  have zX1_r := Nat.lt_of_lt_of_le zR1_r hX.size
  have cX1_r_0 := (bcl hX zR1_r).trans cR1_r_0
  have cX1_r_1 := (bcl hX zR1_r).trans cR1_r_1
  have cX1_r_2 := (bcl hX zR1_r).trans cR1_r_2
  have fX1_r := bfz hX zR1_r fR1_r
  have zX1_x := g_x.1; have cX1_x_0 := g_x.2 0 _ rfl; have cX1_x_1 := g_x.2 1 _ rfl; have cX1_x_2 := g_x.2 2 _ rfl; have cX1_x_3 := g_x.2 3 _ rfl; clear g_x
  have fX1_x : ∀ j, X1.frozen? ⟨bX1x, j, none⟩ = false := c_x; clear c_x
  have zX1_y := g_y.1; have cX1_y_0 := g_y.2 0 _ rfl; have cX1_y_1 := g_y.2 1 _ rfl; clear g_y
  obtain ⟨nebX1x_r, ndbX1x_r⟩ := nn (a := bX1x) (b := w.heap.size + 1 + 1)
  obtain ⟨nebX1y_r, ndbX1y_r⟩ := nn (a := bX1y) (b := w.heap.size + 1 + 1)
  have HBX1 : Hid (Below w.heap.size w X1) := bl_trans HBR1.out hX
  clear hX
  clear zR1_a yR1_a yyR1_a cR1_a_0 cR1_a_1 zR1_b yR1_b yyR1_b cR1_b_0 cR1_b_1 zR1_r yR1_r yyR1_r cR1_r_0 cR1_r_1 cR1_r_2 fR1_r HBR1 m_bX1x m_bX1y n_bX1y_bX1x
  go_upto_region 4 with fail
  refine nw _ fun R2 hR2 => ?_
  obtain ⟨zR2_a, yR2_a, yyR2_a, cR2_a_0, cR2_a_1⟩ := cz2 hR2 w.heap.size (.int .i64 h) (.int .u64 l)
  obtain ⟨zR2_b, yR2_b, yyR2_b, cR2_b_0, cR2_b_1⟩ := cz2 hR2 (w.heap.size + 1) (.int .i64 m) (.int .u64 n)
  obtain ⟨zR2_r, yR2_r, yyR2_r, cR2_r_0, cR2_r_1, cR2_r_2⟩ := cz3 hR2 (w.heap.size + 1 + 1) (.int .i64 0) (.int .u64 0) (.int .i64 0)
  have fR2_r := fz (b := w.heap.size + 1 + 1) hR2
  obtain ⟨zR2_x, yR2_x, yyR2_x, cR2_x_0, cR2_x_1, cR2_x_2, cR2_x_3⟩ := cz4 hR2 bX1x (.int .u64 e3) (.int .u64 e2) (.int .u64 e1) (.int .u64 e0)
  have fR2_x := fz (b := bX1x) hR2
  have lo_x : w.heap.size ≤ bX1x := by omega
  obtain ⟨zR2_y, yR2_y, yyR2_y, cR2_y_0, cR2_y_1⟩ := cz2 hR2 bX1y (.int .u64 g1) (.int .u64 g0)
  have na_r_x : ¬ (w.heap.size + 1 + 1 = bX1x) := by omega
  have nb_r_x : ¬ (bX1x = w.heap.size + 1 + 1) := by omega
  have na_r_y : ¬ (w.heap.size + 1 + 1 = bX1y) := by omega
  have nb_r_y : ¬ (bX1y = w.heap.size + 1 + 1) := by omega
  have na_x_a : ¬ (bX1x = w.heap.size) := by omega
  have nb_x_a : ¬ (w.heap.size = bX1x) := by omega
  have na_x_b : ¬ (bX1x = w.heap.size + 1) := by omega
  have nb_x_b : ¬ (w.heap.size + 1 = bX1x) := by omega
  have na_x_r : ¬ (bX1x = w.heap.size + 1 + 1) := by omega
  have nb_x_r : ¬ (w.heap.size + 1 + 1 = bX1x) := by omega
  have na_x_y : ¬ (bX1x = bX1y) := by omega
  have nb_x_y : ¬ (bX1y = bX1x) := by omega
  have HBR2 := bhr (a := w) hR2
  clear hR2
  clear HBX1 zX1_a cX1_a_0 cX1_a_1 zX1_b cX1_b_0 cX1_b_1 zX1_r cX1_r_0 cX1_r_1 cX1_r_2 fX1_r zX1_x cX1_x_0 cX1_x_1 cX1_x_2 cX1_x_3 zX1_y cX1_y_0 cX1_y_1 fX1_x
  go_wp2_with fail
  (with_reducible refine cm (K4.out _) fun w4 hclw4 hfrw4 hb => ?_); obtain ⟨zw4_a, yw4_a, yyw4_a⟩ := sz3 (B := w.heap.size) hb; obtain ⟨zw4_b, yw4_b, yyw4_b⟩ := sz3 (B := w.heap.size + 1) hb; obtain ⟨zw4_r, yw4_r, yyw4_r⟩ := sz3 (B := w.heap.size + 1 + 1) hb; obtain ⟨zw4_x, yw4_x, yyw4_x⟩ := sz3 (B := bX1x) hb; obtain ⟨zw4_y, yw4_y, yyw4_y⟩ := sz3 (B := bX1y) hb; have sxw4_0 := sz1 (b := R2.heap.size) hb; have HBw4 := hbw (a := w) hb; clear hb
  have fw4_r : ∀ j, w4.frozen? ⟨w.heap.size + 1 + 1, j, none⟩ = false := fun j => by rw [hfrw4 _ _ (by first | exact zR2_r | (simp; exact zR2_r))]; exact fR2_r j
  have fw4_x : ∀ j, w4.frozen? ⟨bX1x, j, none⟩ = false := fun j => by rw [hfrw4 _ _ (by first | exact zR2_x | (simp; exact zR2_x))]; exact fR2_x j
  go_upto_region 8 with fail
  refine nw _ fun R3 hR3 => ?_
  obtain ⟨zR3_a, yR3_a, yyR3_a, cR3_a_0, cR3_a_1⟩ := cz2 hR3 w.heap.size (.int .i64 h) (.int .u64 l)
  obtain ⟨zR3_b, yR3_b, yyR3_b, cR3_b_0, cR3_b_1⟩ := cz2 hR3 (w.heap.size + 1) (.int .i64 m) (.int .u64 n)
  obtain ⟨zR3_r, yR3_r, yyR3_r, cR3_r_0, cR3_r_1, cR3_r_2⟩ := cz3 hR3 (w.heap.size + 1 + 1) (.int .i64 0) (.int .u64 0) (.int .i64 0)
  have fR3_r := fzc (b := w.heap.size + 1 + 1) hfrw4 hR3
  obtain ⟨zR3_x, yR3_x, yyR3_x, cR3_x_0, cR3_x_1, cR3_x_2, cR3_x_3⟩ := cz4 hR3 bX1x (.int .u64 e3) (.int .u64 e2) (.int .u64 s1) (.int .u64 s0)
  have fR3_x := fzc (b := bX1x) hfrw4 hR3
  obtain ⟨zR3_y, yR3_y, yyR3_y, cR3_y_0, cR3_y_1⟩ := cz2 hR3 bX1y (.int .u64 g1) (.int .u64 g0)
  obtain ⟨zR3_s, yR3_s, yyR3_s, cR3_s_0, cR3_s_1, cR3_s_2⟩ := cz3 hR3 w4.heap.size (.int .u64 s1) (.int .u64 s0) (.bool false)
  have na_r_s : ¬ (w.heap.size + 1 + 1 = w4.heap.size) := by omega
  have nb_r_s : ¬ (w4.heap.size = w.heap.size + 1 + 1) := by omega
  have na_x_s : ¬ (bX1x = w4.heap.size) := by omega
  have nb_x_s : ¬ (w4.heap.size = bX1x) := by omega
  have HBR3 := bhr (a := w) hR3
  clear hR3
  clear zR2_a yR2_a yyR2_a cR2_a_0 cR2_a_1 zR2_b yR2_b yyR2_b cR2_b_0 cR2_b_1 zR2_r yR2_r yyR2_r cR2_r_0 cR2_r_1 cR2_r_2 fR2_r zR2_x yR2_x yyR2_x cR2_x_0 cR2_x_1 cR2_x_2 cR2_x_3 fR2_x zR2_y yR2_y yyR2_y cR2_y_0 cR2_y_1 HBR2 zw4_a yw4_a yyw4_a zw4_b yw4_b yyw4_b zw4_r yw4_r yyw4_r zw4_x yw4_x yyw4_x zw4_y yw4_y yyw4_y sxw4_0 hclw4 hfrw4 HBw4 fw4_r fw4_x
  go_cut [8] (fun slot0 X2 => ∃ bX2dd : Nat, slot0 = .pointer (some ⟨bX2dd, 0, none⟩) ∧ R3.heap.size ≤ bX2dd ∧ Below R3.heap.size R3 X2 ∧ Has (bX2dd) [.int .u64 t3, .int .u64 t2, .int .u64 t1, .int .u64 t0, .int .u64 u1, .int .u64 u0, .bool ok] X2)
  case first =>
    clear HBR3
    have ltt : ∀ n : Nat, n < n + 1 + 1 := fun n => by omega
    have lttt : ∀ n : Nat, n + 1 < n + 1 + 1 := fun n => by omega
    go_region_held3 (fun w' => w'.cell? ⟨bX1x, 0, none⟩ = some (.int .u64 e3) ∧ w'.cell? ⟨bX1x, 1, none⟩ = some (.int .u64 e2) ∧ w'.cell? ⟨bX1x, 2, none⟩ = some (.int .u64 s1) ∧ w'.cell? ⟨bX1x, 3, none⟩ = some (.int .u64 s0) ∧ w'.cell? ⟨bX1y, 0, none⟩ = some (.int .u64 g1) ∧ w'.cell? ⟨bX1y, 1, none⟩ = some (.int .u64 g0)) (first | (simp [*, go_sem]; done) | (simp [*, go_sem, World.cell?_alloc_past]; done))
      (first
        | (go_at_call 33; (with_reducible refine (K5.out _).mono ?_); rintro e w5 ⟨rfl, hb⟩; (first | (with_reducible (obtain ⟨hclw5, hfrw5⟩ := bcell_drew hb)) | (obtain ⟨hclw5, hfrw5⟩ := bcell hb)); obtain ⟨zw5_x, yw5_x, yyw5_x⟩ := sz3 (B := bX1x) hb; obtain ⟨zw5_y, yw5_y, yyw5_y⟩ := sz3 (B := bX1y) hb; (try have sw5_0 := sz (B := R3.heap.size) hb); (try have stw5_0 := sz (B := R3.heap.size + 1) hb); obtain ⟨sxw5_0, syw5_0⟩ := szx (b := R3.heap.size) hb; have HBw5 := hbw (a := R3) hb; clear hb; clear K5)
        | (go_at_call 34; (with_reducible refine cm (K6.out _) fun w6 hclw6 hfrw6 hb => ?_); obtain ⟨zw6_x, yw6_x, yyw6_x⟩ := sz3 (B := bX1x) hb; obtain ⟨zw6_y, yw6_y, yyw6_y⟩ := sz3 (B := bX1y) hb; (try have sw6_0 := sz (B := R3.heap.size) hb); (try have stw6_0 := sz (B := R3.heap.size + 1) hb); obtain ⟨sxw6_0, syw6_0⟩ := szx (b := R3.heap.size) hb; (try have sw6_w5 := sz (B := w5.heap.size) hb); (try have stw6_w5 := sz (B := w5.heap.size + 1) hb); obtain ⟨sxw6_w5, syw6_w5⟩ := szx (b := w5.heap.size) hb; have HBw6 := hbw (a := R3) hb; clear hb; clear K6))
    all_goals (rename_i hHeld; clear hHeld; go_wp2_with fail; go_meet; exact ⟨_, rfl, (by first | omega | (simp <;> omega)), bb, Has.mk7 (by first | (simp <;> omega) | omega) (by simp [go_sem, *]) (by simp [go_sem, *]) (by simp [go_sem, *]) (by simp [go_sem, *]) (by simp [go_sem, *]) (by simp [go_sem, *]) (by simp [go_sem, *])⟩)
  case rest =>
  obtain ⟨X2, hX2⟩ : ∃ X, X = wc := ⟨wc, rfl⟩
  subst hX2
  obtain ⟨bX2dd, rfl, m_bX2dd, hX, g_dd⟩ := hcut
  have zX2_a := Nat.lt_of_lt_of_le zR3_a hX.size
  have cX2_a_0 := (bcl hX zR3_a).trans cR3_a_0
  have cX2_a_1 := (bcl hX zR3_a).trans cR3_a_1
  have zX2_b := Nat.lt_of_lt_of_le zR3_b hX.size
  have cX2_b_0 := (bcl hX zR3_b).trans cR3_b_0
  have cX2_b_1 := (bcl hX zR3_b).trans cR3_b_1
  have zX2_r := Nat.lt_of_lt_of_le zR3_r hX.size
  have cX2_r_0 := (bcl hX zR3_r).trans cR3_r_0
  have cX2_r_1 := (bcl hX zR3_r).trans cR3_r_1
  have cX2_r_2 := (bcl hX zR3_r).trans cR3_r_2
  have fX2_r := bfz hX zR3_r fR3_r
  have zX2_x := Nat.lt_of_lt_of_le zR3_x hX.size
  have cX2_x_0 := (bcl hX zR3_x).trans cR3_x_0
  have cX2_x_1 := (bcl hX zR3_x).trans cR3_x_1
  have cX2_x_2 := (bcl hX zR3_x).trans cR3_x_2
  have cX2_x_3 := (bcl hX zR3_x).trans cR3_x_3
  have fX2_x := bfz hX zR3_x fR3_x
  have zX2_y := Nat.lt_of_lt_of_le zR3_y hX.size
  have cX2_y_0 := (bcl hX zR3_y).trans cR3_y_0
  have cX2_y_1 := (bcl hX zR3_y).trans cR3_y_1
  have zX2_s := Nat.lt_of_lt_of_le zR3_s hX.size
  have cX2_s_0 := (bcl hX zR3_s).trans cR3_s_0
  have cX2_s_1 := (bcl hX zR3_s).trans cR3_s_1
  have cX2_s_2 := (bcl hX zR3_s).trans cR3_s_2
  have zX2_dd := g_dd.1; have cX2_dd_0 := g_dd.2 0 _ rfl; have cX2_dd_1 := g_dd.2 1 _ rfl; have cX2_dd_2 := g_dd.2 2 _ rfl; have cX2_dd_3 := g_dd.2 3 _ rfl; have cX2_dd_4 := g_dd.2 4 _ rfl; have cX2_dd_5 := g_dd.2 5 _ rfl; have cX2_dd_6 := g_dd.2 6 _ rfl; clear g_dd
  obtain ⟨nebX2dd_r, ndbX2dd_r⟩ := nn (a := bX2dd) (b := w.heap.size + 1 + 1)
  obtain ⟨nebX2dd_x, ndbX2dd_x⟩ := nn (a := bX2dd) (b := bX1x)
  have HBX2 : Hid (Below w.heap.size w X2) := bl_trans HBR3.out hX
  clear hX
  clear zR3_a yR3_a yyR3_a cR3_a_0 cR3_a_1 zR3_b yR3_b yyR3_b cR3_b_0 cR3_b_1 zR3_r yR3_r yyR3_r cR3_r_0 cR3_r_1 cR3_r_2 fR3_r zR3_x yR3_x yyR3_x cR3_x_0 cR3_x_1 cR3_x_2 cR3_x_3 fR3_x zR3_y yR3_y yyR3_y cR3_y_0 cR3_y_1 zR3_s yR3_s yyR3_s cR3_s_0 cR3_s_1 cR3_s_2 HBR3 m_bX2dd
  go_upto_region 9 with fail
  refine nw _ fun R4 hR4 => ?_
  obtain ⟨zR4_a, yR4_a, yyR4_a, cR4_a_0, cR4_a_1⟩ := cz2 hR4 w.heap.size (.int .i64 h) (.int .u64 l)
  obtain ⟨zR4_b, yR4_b, yyR4_b, cR4_b_0, cR4_b_1⟩ := cz2 hR4 (w.heap.size + 1) (.int .i64 m) (.int .u64 n)
  obtain ⟨zR4_r, yR4_r, yyR4_r, cR4_r_0, cR4_r_1, cR4_r_2⟩ := cz3 hR4 (w.heap.size + 1 + 1) (.int .i64 0) (.int .u64 0) (.int .i64 0)
  have fR4_r := fz (b := w.heap.size + 1 + 1) hR4
  obtain ⟨zR4_x, yR4_x, yyR4_x, cR4_x_0, cR4_x_1, cR4_x_2, cR4_x_3⟩ := cz4 hR4 bX1x (.int .u64 e3) (.int .u64 e2) (.int .u64 s1) (.int .u64 s0)
  have fR4_x := fz (b := bX1x) hR4
  obtain ⟨zR4_y, yR4_y, yyR4_y, cR4_y_0, cR4_y_1⟩ := cz2 hR4 bX1y (.int .u64 g1) (.int .u64 g0)
  obtain ⟨zR4_s, yR4_s, yyR4_s, cR4_s_0, cR4_s_1, cR4_s_2⟩ := cz3 hR4 w4.heap.size (.int .u64 s1) (.int .u64 s0) (.bool false)
  obtain ⟨zR4_dd, yR4_dd, yyR4_dd⟩ := sr3 (B := bX2dd) hR4
  have cR4_dd_0 : R4.cell? ⟨bX2dd, 0, none⟩ = some (.int .u64 t3) := cel hR4
  have cR4_dd_1 : R4.cell? ⟨bX2dd, 1, none⟩ = some (.int .u64 t2) := cel hR4
  have cR4_dd_2 : R4.cell? ⟨bX2dd, 2, none⟩ = some (.int .u64 t1) := cel hR4
  have cR4_dd_3 : R4.cell? ⟨bX2dd, 3, none⟩ = some (.int .u64 t0) := cel hR4
  have cR4_dd_4 : R4.cell? ⟨bX2dd, 4, none⟩ = some (.int .u64 u1) := cel hR4
  have cR4_dd_5 : R4.cell? ⟨bX2dd, 5, none⟩ = some (.int .u64 u0) := cel hR4
  have cR4_dd_6 : R4.cell? ⟨bX2dd, 6, none⟩ = some (.bool ok) := cel hR4
  have na_r_dd : ¬ (w.heap.size + 1 + 1 = bX2dd) := by omega
  have nb_r_dd : ¬ (bX2dd = w.heap.size + 1 + 1) := by omega
  have na_x_dd : ¬ (bX1x = bX2dd) := by omega
  have nb_x_dd : ¬ (bX2dd = bX1x) := by omega
  have HBR4 := bhr (a := w) hR4
  clear hR4
  clear HBX2 zX2_a cX2_a_0 cX2_a_1 zX2_b cX2_b_0 cX2_b_1 zX2_r cX2_r_0 cX2_r_1 cX2_r_2 fX2_r zX2_x cX2_x_0 cX2_x_1 cX2_x_2 cX2_x_3 fX2_x zX2_y cX2_y_0 cX2_y_1 zX2_s cX2_s_0 cX2_s_1 cX2_s_2 zX2_dd cX2_dd_0 cX2_dd_1 cX2_dd_2 cX2_dd_3 cX2_dd_4 cX2_dd_5 cX2_dd_6
  go_wp2_with fail
  (with_reducible refine cm (K7.out _) fun w7 hclw7 hfrw7 hb => ?_); obtain ⟨zw7_a, yw7_a, yyw7_a⟩ := sz3 (B := w.heap.size) hb; obtain ⟨zw7_b, yw7_b, yyw7_b⟩ := sz3 (B := w.heap.size + 1) hb; obtain ⟨zw7_r, yw7_r, yyw7_r⟩ := sz3 (B := w.heap.size + 1 + 1) hb; obtain ⟨zw7_x, yw7_x, yyw7_x⟩ := sz3 (B := bX1x) hb; obtain ⟨zw7_y, yw7_y, yyw7_y⟩ := sz3 (B := bX1y) hb; obtain ⟨zw7_s, yw7_s, yyw7_s⟩ := sz3 (B := w4.heap.size) hb; obtain ⟨zw7_dd, yw7_dd, yyw7_dd⟩ := sz3 (B := bX2dd) hb; have sxw7_0 := sz1 (b := R4.heap.size) hb; have HBw7 := hbw (a := w) hb; clear hb
  have fw7_r : ∀ j, w7.frozen? ⟨w.heap.size + 1 + 1, j, none⟩ = false := fun j => by rw [hfrw7 _ _ (by first | exact zR4_r | (simp; exact zR4_r))]; exact fR4_r j
  have fw7_x : ∀ j, w7.frozen? ⟨bX1x, j, none⟩ = false := fun j => by rw [hfrw7 _ _ (by first | exact zR4_x | (simp; exact zR4_x))]; exact fR4_x j
  go_wp2_with fail
  refine bodyPost_ret (by simp [results, Try.results17, go_sem, *]; try rfl) rfl ?_
  exact ⟨rfl, bb⟩
set_option maxRecDepth 20000 in
set_option maxHeartbeats 16000000 in
theorem rdivf_true (h l m n d1 d0 e3 e2 e1 e0 g1 g0 s1 s0 y1 y0 t3 t2 t1 t0 u1 u0 x1 x0 k q3 q2 : Int) (p q cy ok c : Bool) (ha : decide (h < 0) = p) (hb : decide (m < 0) = q) (qz : ∀ W, (Go.binOp .eql 24 (.agg #[.int .i64 m, .int .u64 n]) (.agg #[.int .i64 0, .int .u64 0])).run Try.prog W = .ok (.bool false) W) (w : World)
    (C1 : Ct 32 #[.agg #[.int .i64 h, .int .u64 l]] (.agg #[.int .u64 d1, .int .u64 d0]))
    (C2 : Ct 31 #[.agg #[.int .u64 0, .int .u64 0, .int .u64 d1, .int .u64 d0], .int .i64 65] (.agg #[.int .u64 e3, .int .u64 e2, .int .u64 e1, .int .u64 e0]))
    (C3 : Ct 32 #[.agg #[.int .i64 m, .int .u64 n]] (.agg #[.int .u64 g1, .int .u64 g0]))
    (C4 : Ct 33 #[.agg #[.int .u64 e1, .int .u64 e0], .agg #[.int .u64 g1, .int .u64 g0]] (.agg #[.int .u64 s1, .int .u64 s0, .bool true]))
    (C5 : Ct 33 #[.agg #[.int .u64 e3, .int .u64 e2], .agg #[.int .u64 0, .int .u64 1]] (.agg #[.int .u64 q3, .int .u64 q2, .bool c]))
    (C6 : Ct 33 #[.agg #[.int .u64 g1, .int .u64 g0], .agg #[.int .u64 g1, .int .u64 g0]] (.agg #[.int .u64 y1, .int .u64 y0, .bool cy]))
    (C7 : Ct 34 #[.agg #[.int .u64 q3, .int .u64 q2, .int .u64 s1, .int .u64 s0], .agg #[.int .u64 y1, .int .u64 y0]] (.agg #[.int .u64 t3, .int .u64 t2, .int .u64 t1, .int .u64 t0, .int .u64 u1, .int .u64 u0, .bool ok]))
    (C8 : Ct 35 #[.bool (!(p == q)), .agg #[.int .u64 t3, .int .u64 t2, .int .u64 t1, .int .u64 t0]] (.agg #[.int .i64 x1, .int .u64 x0, .int .i64 k])) :
    Calls Try.prog 17 #[.agg #[.int .i64 h, .int .u64 l], .agg #[.int .i64 m, .int .u64 n]] w fun e w' => e = .returned (.agg #[.int .i64 x1, .int .u64 x0, .int .i64 k]) ∧ Below w.heap.size w w' := by
  have K1 := Lib.hid C1; have K2 := Lib.hid C2; have K3 := Lib.hid C3; have K4 := Lib.hid C4; have K5 := Lib.hid C5; have K6 := Lib.hid C6; have K7 := Lib.hid C7; have K8 := Lib.hid C8
  clear C1 C2 C3 C4 C5 C6 C7 C8
  have fld := field_part
  go_enter Try.func17, Try.ntmps17
  go_upto_region 3 with fail
  refine nw _ fun R1 hR1 => ?_
  obtain ⟨zR1_a, yR1_a, yyR1_a, cR1_a_0, cR1_a_1⟩ := cz2 hR1 w.heap.size (.int .i64 h) (.int .u64 l)
  obtain ⟨zR1_b, yR1_b, yyR1_b, cR1_b_0, cR1_b_1⟩ := cz2 hR1 (w.heap.size + 1) (.int .i64 m) (.int .u64 n)
  obtain ⟨zR1_r, yR1_r, yyR1_r, cR1_r_0, cR1_r_1, cR1_r_2⟩ := cz3 hR1 (w.heap.size + 1 + 1) (.int .i64 0) (.int .u64 0) (.int .i64 0)
  have fR1_r := fz (b := w.heap.size + 1 + 1) hR1
  have lo_r : w.heap.size ≤ w.heap.size + 1 + 1 := by omega
  have na_r_a : ¬ (w.heap.size + 1 + 1 = w.heap.size) := by omega
  have nb_r_a : ¬ (w.heap.size = w.heap.size + 1 + 1) := by omega
  have na_r_b : ¬ (w.heap.size + 1 + 1 = w.heap.size + 1) := by omega
  have nb_r_b : ¬ (w.heap.size + 1 = w.heap.size + 1 + 1) := by omega
  have HBR1 := bhr (a := w) hR1
  clear hR1
  go_cut [5, 6] (fun slot0 slot1 X1 => ∃ bX1x bX1y : Nat, slot0 = .pointer (some ⟨bX1x, 0, none⟩) ∧ slot1 = .pointer (some ⟨bX1y, 0, none⟩) ∧ R1.heap.size ≤ bX1x ∧ R1.heap.size ≤ bX1y ∧ bX1y ≠ bX1x ∧ Below R1.heap.size R1 X1 ∧ Has (bX1x) [.int .u64 e3, .int .u64 e2, .int .u64 e1, .int .u64 e0] X1 ∧ Clear (bX1x) X1 ∧ Has (bX1y) [.int .u64 g1, .int .u64 g0] X1)
  case first =>
    clear HBR1
    have ltt : ∀ n : Nat, n < n + 1 + 1 := fun n => by omega
    have lttt : ∀ n : Nat, n + 1 < n + 1 + 1 := fun n => by omega
    go_region_held3 (fun w' => w'.cell? ⟨w.heap.size, 0, none⟩ = some (.int .i64 h) ∧ w'.cell? ⟨w.heap.size, 1, none⟩ = some (.int .u64 l) ∧ w'.cell? ⟨w.heap.size + 1, 0, none⟩ = some (.int .i64 m) ∧ w'.cell? ⟨w.heap.size + 1, 1, none⟩ = some (.int .u64 n)) (first | (simp [*, go_sem]; done) | (simp [*, go_sem, World.cell?_alloc_past]; done))
      (first
        | (go_at_call 32; (with_reducible refine (K1.out _).mono ?_); rintro e w1 ⟨rfl, hb⟩; (first | (with_reducible (obtain ⟨hclw1, hfrw1⟩ := bcell_drew hb)) | (obtain ⟨hclw1, hfrw1⟩ := bcell hb)); obtain ⟨zw1_a, yw1_a, yyw1_a⟩ := sz3 (B := w.heap.size) hb; obtain ⟨zw1_b, yw1_b, yyw1_b⟩ := sz3 (B := w.heap.size + 1) hb; (try have sw1_0 := sz (B := R1.heap.size) hb); (try have stw1_0 := sz (B := R1.heap.size + 1) hb); obtain ⟨sxw1_0, syw1_0⟩ := szx (b := R1.heap.size) hb; have HBw1 := hbw (a := R1) hb; clear hb; clear K1)
        | (go_at_call 31; (with_reducible refine cm (K2.out _) fun w2 hclw2 hfrw2 hb => ?_); obtain ⟨zw2_a, yw2_a, yyw2_a⟩ := sz3 (B := w.heap.size) hb; obtain ⟨zw2_b, yw2_b, yyw2_b⟩ := sz3 (B := w.heap.size + 1) hb; (try have sw2_0 := sz (B := R1.heap.size) hb); (try have stw2_0 := sz (B := R1.heap.size + 1) hb); obtain ⟨sxw2_0, syw2_0⟩ := szx (b := R1.heap.size) hb; (try have sw2_w1 := sz (B := w1.heap.size) hb); (try have stw2_w1 := sz (B := w1.heap.size + 1) hb); obtain ⟨sxw2_w1, syw2_w1⟩ := szx (b := w1.heap.size) hb; have HBw2 := hbw (a := R1) hb; clear hb; clear K2)
        | (go_at_call 32; (with_reducible refine cm (K3.out _) fun w3 hclw3 hfrw3 hb => ?_); obtain ⟨zw3_a, yw3_a, yyw3_a⟩ := sz3 (B := w.heap.size) hb; obtain ⟨zw3_b, yw3_b, yyw3_b⟩ := sz3 (B := w.heap.size + 1) hb; (try have sw3_0 := sz (B := R1.heap.size) hb); (try have stw3_0 := sz (B := R1.heap.size + 1) hb); obtain ⟨sxw3_0, syw3_0⟩ := szx (b := R1.heap.size) hb; (try have sw3_w1 := sz (B := w1.heap.size) hb); (try have stw3_w1 := sz (B := w1.heap.size + 1) hb); obtain ⟨sxw3_w1, syw3_w1⟩ := szx (b := w1.heap.size) hb; (try have sw3_w2 := sz (B := w2.heap.size) hb); (try have stw3_w2 := sz (B := w2.heap.size + 1) hb); obtain ⟨sxw3_w2, syw3_w2⟩ := szx (b := w2.heap.size) hb; have HBw3 := hbw (a := R1) hb; clear hb; clear K3))
    all_goals (rename_i hHeld; clear hHeld; go_wp2_with fail; go_meet; exact ⟨_, _, rfl, rfl, (by first | omega | (simp <;> omega)), (by first | omega | (simp <;> omega)), (by first | omega | (simp <;> omega)), bb, Has.mk4 (by first | (simp <;> omega) | omega) (by simp [go_sem, *]) (by simp [go_sem, *]) (by simp [go_sem, *]) (by simp [go_sem, *]), (fun j => by first | (simp [go_sem, *]; done) | (simp [frozen?_alloc_cells, World.frozen?_setCell, World.frozen?, *]; done) | (simp only [World.frozen?_setCell, frozen?_alloc_cells]; first | exact frozen_fix (by first | omega | (simp <;> omega)) | (simp [*]; done)) | (simp only [World.frozen?_setCell, frozen?_alloc_cells, World.frozen?_drew]; exact frozen_fix (by first | omega | (simp <;> omega)))), Has.mk2 (by first | (simp <;> omega) | omega) (by simp [go_sem, *]) (by simp [go_sem, *])⟩)
  case rest =>
  obtain ⟨X1, hX1⟩ : ∃ X, X = wc := ⟨wc, rfl⟩
  subst hX1
  obtain ⟨bX1x, bX1y, rfl, rfl, m_bX1x, m_bX1y, n_bX1y_bX1x, hX, g_x, c_x, g_y⟩ := hcut
  have lw_bX1x : w.heap.size + 1 + 1 + 1 ≤ bX1x := by omega
  have lw_bX1y : w.heap.size + 1 + 1 + 1 ≤ bX1y := by omega
  have lv_bX1y_bX1x : bX1y ≠ bX1x := by omega
  have zX1_a := Nat.lt_of_lt_of_le zR1_a hX.size
  have cX1_a_0 := (bcl hX zR1_a).trans cR1_a_0
  have cX1_a_1 := (bcl hX zR1_a).trans cR1_a_1
  have zX1_b := Nat.lt_of_lt_of_le zR1_b hX.size
  have cX1_b_0 := (bcl hX zR1_b).trans cR1_b_0
  have cX1_b_1 := (bcl hX zR1_b).trans cR1_b_1
  have zX1_r := Nat.lt_of_lt_of_le zR1_r hX.size
  have cX1_r_0 := (bcl hX zR1_r).trans cR1_r_0
  have cX1_r_1 := (bcl hX zR1_r).trans cR1_r_1
  have cX1_r_2 := (bcl hX zR1_r).trans cR1_r_2
  have fX1_r := bfz hX zR1_r fR1_r
  have zX1_x := g_x.1; have cX1_x_0 := g_x.2 0 _ rfl; have cX1_x_1 := g_x.2 1 _ rfl; have cX1_x_2 := g_x.2 2 _ rfl; have cX1_x_3 := g_x.2 3 _ rfl; clear g_x
  have fX1_x : ∀ j, X1.frozen? ⟨bX1x, j, none⟩ = false := c_x; clear c_x
  have zX1_y := g_y.1; have cX1_y_0 := g_y.2 0 _ rfl; have cX1_y_1 := g_y.2 1 _ rfl; clear g_y
  obtain ⟨nebX1x_r, ndbX1x_r⟩ := nn (a := bX1x) (b := w.heap.size + 1 + 1)
  obtain ⟨nebX1y_r, ndbX1y_r⟩ := nn (a := bX1y) (b := w.heap.size + 1 + 1)
  have HBX1 : Hid (Below w.heap.size w X1) := bl_trans HBR1.out hX
  clear hX
  clear zR1_a yR1_a yyR1_a cR1_a_0 cR1_a_1 zR1_b yR1_b yyR1_b cR1_b_0 cR1_b_1 zR1_r yR1_r yyR1_r cR1_r_0 cR1_r_1 cR1_r_2 fR1_r HBR1 m_bX1x m_bX1y n_bX1y_bX1x
  go_upto_region 4 with fail
  refine nw _ fun R2 hR2 => ?_
  obtain ⟨zR2_a, yR2_a, yyR2_a, cR2_a_0, cR2_a_1⟩ := cz2 hR2 w.heap.size (.int .i64 h) (.int .u64 l)
  obtain ⟨zR2_b, yR2_b, yyR2_b, cR2_b_0, cR2_b_1⟩ := cz2 hR2 (w.heap.size + 1) (.int .i64 m) (.int .u64 n)
  obtain ⟨zR2_r, yR2_r, yyR2_r, cR2_r_0, cR2_r_1, cR2_r_2⟩ := cz3 hR2 (w.heap.size + 1 + 1) (.int .i64 0) (.int .u64 0) (.int .i64 0)
  have fR2_r := fz (b := w.heap.size + 1 + 1) hR2
  obtain ⟨zR2_x, yR2_x, yyR2_x, cR2_x_0, cR2_x_1, cR2_x_2, cR2_x_3⟩ := cz4 hR2 bX1x (.int .u64 e3) (.int .u64 e2) (.int .u64 e1) (.int .u64 e0)
  have fR2_x := fz (b := bX1x) hR2
  have lo_x : w.heap.size ≤ bX1x := by omega
  obtain ⟨zR2_y, yR2_y, yyR2_y, cR2_y_0, cR2_y_1⟩ := cz2 hR2 bX1y (.int .u64 g1) (.int .u64 g0)
  have na_r_x : ¬ (w.heap.size + 1 + 1 = bX1x) := by omega
  have nb_r_x : ¬ (bX1x = w.heap.size + 1 + 1) := by omega
  have na_r_y : ¬ (w.heap.size + 1 + 1 = bX1y) := by omega
  have nb_r_y : ¬ (bX1y = w.heap.size + 1 + 1) := by omega
  have na_x_a : ¬ (bX1x = w.heap.size) := by omega
  have nb_x_a : ¬ (w.heap.size = bX1x) := by omega
  have na_x_b : ¬ (bX1x = w.heap.size + 1) := by omega
  have nb_x_b : ¬ (w.heap.size + 1 = bX1x) := by omega
  have na_x_r : ¬ (bX1x = w.heap.size + 1 + 1) := by omega
  have nb_x_r : ¬ (w.heap.size + 1 + 1 = bX1x) := by omega
  have na_x_y : ¬ (bX1x = bX1y) := by omega
  have nb_x_y : ¬ (bX1y = bX1x) := by omega
  have HBR2 := bhr (a := w) hR2
  clear hR2
  clear HBX1 zX1_a cX1_a_0 cX1_a_1 zX1_b cX1_b_0 cX1_b_1 zX1_r cX1_r_0 cX1_r_1 cX1_r_2 fX1_r zX1_x cX1_x_0 cX1_x_1 cX1_x_2 cX1_x_3 zX1_y cX1_y_0 cX1_y_1 fX1_x
  go_wp2_with fail
  (with_reducible refine cm (K4.out _) fun w4 hclw4 hfrw4 hb => ?_); obtain ⟨zw4_a, yw4_a, yyw4_a⟩ := sz3 (B := w.heap.size) hb; obtain ⟨zw4_b, yw4_b, yyw4_b⟩ := sz3 (B := w.heap.size + 1) hb; obtain ⟨zw4_r, yw4_r, yyw4_r⟩ := sz3 (B := w.heap.size + 1 + 1) hb; obtain ⟨zw4_x, yw4_x, yyw4_x⟩ := sz3 (B := bX1x) hb; obtain ⟨zw4_y, yw4_y, yyw4_y⟩ := sz3 (B := bX1y) hb; have sxw4_0 := sz1 (b := R2.heap.size) hb; have HBw4 := hbw (a := w) hb; clear hb
  have fw4_r : ∀ j, w4.frozen? ⟨w.heap.size + 1 + 1, j, none⟩ = false := fun j => by rw [hfrw4 _ _ (by first | exact zR2_r | (simp; exact zR2_r))]; exact fR2_r j
  have fw4_x : ∀ j, w4.frozen? ⟨bX1x, j, none⟩ = false := fun j => by rw [hfrw4 _ _ (by first | exact zR2_x | (simp; exact zR2_x))]; exact fR2_x j
  go_upto_region 7 with fail
  refine nw _ fun R3 hR3 => ?_
  obtain ⟨zR3_a, yR3_a, yyR3_a, cR3_a_0, cR3_a_1⟩ := cz2 hR3 w.heap.size (.int .i64 h) (.int .u64 l)
  obtain ⟨zR3_b, yR3_b, yyR3_b, cR3_b_0, cR3_b_1⟩ := cz2 hR3 (w.heap.size + 1) (.int .i64 m) (.int .u64 n)
  obtain ⟨zR3_r, yR3_r, yyR3_r, cR3_r_0, cR3_r_1, cR3_r_2⟩ := cz3 hR3 (w.heap.size + 1 + 1) (.int .i64 0) (.int .u64 0) (.int .i64 0)
  have fR3_r := fzc (b := w.heap.size + 1 + 1) hfrw4 hR3
  obtain ⟨zR3_x, yR3_x, yyR3_x, cR3_x_0, cR3_x_1, cR3_x_2, cR3_x_3⟩ := cz4 hR3 bX1x (.int .u64 e3) (.int .u64 e2) (.int .u64 s1) (.int .u64 s0)
  have fR3_x := fzc (b := bX1x) hfrw4 hR3
  obtain ⟨zR3_y, yR3_y, yyR3_y, cR3_y_0, cR3_y_1⟩ := cz2 hR3 bX1y (.int .u64 g1) (.int .u64 g0)
  obtain ⟨zR3_s, yR3_s, yyR3_s, cR3_s_0, cR3_s_1, cR3_s_2⟩ := cz3 hR3 w4.heap.size (.int .u64 s1) (.int .u64 s0) (.bool true)
  have na_r_s : ¬ (w.heap.size + 1 + 1 = w4.heap.size) := by omega
  have nb_r_s : ¬ (w4.heap.size = w.heap.size + 1 + 1) := by omega
  have na_x_s : ¬ (bX1x = w4.heap.size) := by omega
  have nb_x_s : ¬ (w4.heap.size = bX1x) := by omega
  have HBR3 := bhr (a := w) hR3
  clear hR3
  clear zR2_a yR2_a yyR2_a cR2_a_0 cR2_a_1 zR2_b yR2_b yyR2_b cR2_b_0 cR2_b_1 zR2_r yR2_r yyR2_r cR2_r_0 cR2_r_1 cR2_r_2 fR2_r zR2_x yR2_x yyR2_x cR2_x_0 cR2_x_1 cR2_x_2 cR2_x_3 fR2_x zR2_y yR2_y yyR2_y cR2_y_0 cR2_y_1 HBR2 zw4_a yw4_a yyw4_a zw4_b yw4_b yyw4_b zw4_r yw4_r yyw4_r zw4_x yw4_x yyw4_x zw4_y yw4_y yyw4_y sxw4_0 hclw4 hfrw4 HBw4 fw4_r fw4_x
  go_wp2_with fail
  (with_reducible refine cm (K5.out _) fun w5 hclw5 hfrw5 hb => ?_); obtain ⟨zw5_a, yw5_a, yyw5_a⟩ := sz3 (B := w.heap.size) hb; obtain ⟨zw5_b, yw5_b, yyw5_b⟩ := sz3 (B := w.heap.size + 1) hb; obtain ⟨zw5_r, yw5_r, yyw5_r⟩ := sz3 (B := w.heap.size + 1 + 1) hb; obtain ⟨zw5_x, yw5_x, yyw5_x⟩ := sz3 (B := bX1x) hb; obtain ⟨zw5_y, yw5_y, yyw5_y⟩ := sz3 (B := bX1y) hb; obtain ⟨zw5_s, yw5_s, yyw5_s⟩ := sz3 (B := w4.heap.size) hb; have sxw5_0 := sz1 (b := R3.heap.size) hb; have HBw5 := hbw (a := w) hb; clear hb
  have fw5_r : ∀ j, w5.frozen? ⟨w.heap.size + 1 + 1, j, none⟩ = false := fun j => by rw [hfrw5 _ _ (by first | exact zR3_r | (simp; exact zR3_r))]; exact fR3_r j
  have fw5_x : ∀ j, w5.frozen? ⟨bX1x, j, none⟩ = false := fun j => by rw [hfrw5 _ _ (by first | exact zR3_x | (simp; exact zR3_x))]; exact fR3_x j
  go_upto_region 8 with fail
  refine nw _ fun R4 hR4 => ?_
  obtain ⟨zR4_a, yR4_a, yyR4_a, cR4_a_0, cR4_a_1⟩ := cz2 hR4 w.heap.size (.int .i64 h) (.int .u64 l)
  obtain ⟨zR4_b, yR4_b, yyR4_b, cR4_b_0, cR4_b_1⟩ := cz2 hR4 (w.heap.size + 1) (.int .i64 m) (.int .u64 n)
  obtain ⟨zR4_r, yR4_r, yyR4_r, cR4_r_0, cR4_r_1, cR4_r_2⟩ := cz3 hR4 (w.heap.size + 1 + 1) (.int .i64 0) (.int .u64 0) (.int .i64 0)
  have fR4_r := fzc (b := w.heap.size + 1 + 1) hfrw5 hR4
  obtain ⟨zR4_x, yR4_x, yyR4_x, cR4_x_0, cR4_x_1, cR4_x_2, cR4_x_3⟩ := cz4 hR4 bX1x (.int .u64 q3) (.int .u64 q2) (.int .u64 s1) (.int .u64 s0)
  have fR4_x := fzc (b := bX1x) hfrw5 hR4
  obtain ⟨zR4_y, yR4_y, yyR4_y, cR4_y_0, cR4_y_1⟩ := cz2 hR4 bX1y (.int .u64 g1) (.int .u64 g0)
  obtain ⟨zR4_s, yR4_s, yyR4_s, cR4_s_0, cR4_s_1, cR4_s_2⟩ := cz3 hR4 w4.heap.size (.int .u64 s1) (.int .u64 s0) (.bool true)
  have HBR4 := bhr (a := w) hR4
  clear hR4
  clear zR3_a yR3_a yyR3_a cR3_a_0 cR3_a_1 zR3_b yR3_b yyR3_b cR3_b_0 cR3_b_1 zR3_r yR3_r yyR3_r cR3_r_0 cR3_r_1 cR3_r_2 fR3_r zR3_x yR3_x yyR3_x cR3_x_0 cR3_x_1 cR3_x_2 cR3_x_3 fR3_x zR3_y yR3_y yyR3_y cR3_y_0 cR3_y_1 zR3_s yR3_s yyR3_s cR3_s_0 cR3_s_1 cR3_s_2 HBR3 zw5_a yw5_a yyw5_a zw5_b yw5_b yyw5_b zw5_r yw5_r yyw5_r zw5_x yw5_x yyw5_x zw5_y yw5_y yyw5_y zw5_s yw5_s yyw5_s sxw5_0 hclw5 hfrw5 HBw5 fw5_r fw5_x
  go_cut [8] (fun slot0 X2 => ∃ bX2dd : Nat, slot0 = .pointer (some ⟨bX2dd, 0, none⟩) ∧ R4.heap.size ≤ bX2dd ∧ Below R4.heap.size R4 X2 ∧ Has (bX2dd) [.int .u64 t3, .int .u64 t2, .int .u64 t1, .int .u64 t0, .int .u64 u1, .int .u64 u0, .bool ok] X2)
  case first =>
    clear HBR4
    have ltt : ∀ n : Nat, n < n + 1 + 1 := fun n => by omega
    have lttt : ∀ n : Nat, n + 1 < n + 1 + 1 := fun n => by omega
    go_region_held3 (fun w' => w'.cell? ⟨bX1x, 0, none⟩ = some (.int .u64 q3) ∧ w'.cell? ⟨bX1x, 1, none⟩ = some (.int .u64 q2) ∧ w'.cell? ⟨bX1x, 2, none⟩ = some (.int .u64 s1) ∧ w'.cell? ⟨bX1x, 3, none⟩ = some (.int .u64 s0) ∧ w'.cell? ⟨bX1y, 0, none⟩ = some (.int .u64 g1) ∧ w'.cell? ⟨bX1y, 1, none⟩ = some (.int .u64 g0)) (first | (simp [*, go_sem]; done) | (simp [*, go_sem, World.cell?_alloc_past]; done))
      (first
        | (go_at_call 33; (with_reducible refine (K6.out _).mono ?_); rintro e w6 ⟨rfl, hb⟩; (first | (with_reducible (obtain ⟨hclw6, hfrw6⟩ := bcell_drew hb)) | (obtain ⟨hclw6, hfrw6⟩ := bcell hb)); obtain ⟨zw6_x, yw6_x, yyw6_x⟩ := sz3 (B := bX1x) hb; obtain ⟨zw6_y, yw6_y, yyw6_y⟩ := sz3 (B := bX1y) hb; (try have sw6_0 := sz (B := R4.heap.size) hb); (try have stw6_0 := sz (B := R4.heap.size + 1) hb); obtain ⟨sxw6_0, syw6_0⟩ := szx (b := R4.heap.size) hb; have HBw6 := hbw (a := R4) hb; clear hb; clear K6)
        | (go_at_call 34; (with_reducible refine cm (K7.out _) fun w7 hclw7 hfrw7 hb => ?_); obtain ⟨zw7_x, yw7_x, yyw7_x⟩ := sz3 (B := bX1x) hb; obtain ⟨zw7_y, yw7_y, yyw7_y⟩ := sz3 (B := bX1y) hb; (try have sw7_0 := sz (B := R4.heap.size) hb); (try have stw7_0 := sz (B := R4.heap.size + 1) hb); obtain ⟨sxw7_0, syw7_0⟩ := szx (b := R4.heap.size) hb; (try have sw7_w6 := sz (B := w6.heap.size) hb); (try have stw7_w6 := sz (B := w6.heap.size + 1) hb); obtain ⟨sxw7_w6, syw7_w6⟩ := szx (b := w6.heap.size) hb; have HBw7 := hbw (a := R4) hb; clear hb; clear K7))
    all_goals (rename_i hHeld; clear hHeld; go_wp2_with fail; go_meet; exact ⟨_, rfl, (by first | omega | (simp <;> omega)), bb, Has.mk7 (by first | (simp <;> omega) | omega) (by simp [go_sem, *]) (by simp [go_sem, *]) (by simp [go_sem, *]) (by simp [go_sem, *]) (by simp [go_sem, *]) (by simp [go_sem, *]) (by simp [go_sem, *])⟩)
  case rest =>
  obtain ⟨X2, hX2⟩ : ∃ X, X = wc := ⟨wc, rfl⟩
  subst hX2
  obtain ⟨bX2dd, rfl, m_bX2dd, hX, g_dd⟩ := hcut
  have zX2_a := Nat.lt_of_lt_of_le zR4_a hX.size
  have cX2_a_0 := (bcl hX zR4_a).trans cR4_a_0
  have cX2_a_1 := (bcl hX zR4_a).trans cR4_a_1
  have zX2_b := Nat.lt_of_lt_of_le zR4_b hX.size
  have cX2_b_0 := (bcl hX zR4_b).trans cR4_b_0
  have cX2_b_1 := (bcl hX zR4_b).trans cR4_b_1
  have zX2_r := Nat.lt_of_lt_of_le zR4_r hX.size
  have cX2_r_0 := (bcl hX zR4_r).trans cR4_r_0
  have cX2_r_1 := (bcl hX zR4_r).trans cR4_r_1
  have cX2_r_2 := (bcl hX zR4_r).trans cR4_r_2
  have fX2_r := bfz hX zR4_r fR4_r
  have zX2_x := Nat.lt_of_lt_of_le zR4_x hX.size
  have cX2_x_0 := (bcl hX zR4_x).trans cR4_x_0
  have cX2_x_1 := (bcl hX zR4_x).trans cR4_x_1
  have cX2_x_2 := (bcl hX zR4_x).trans cR4_x_2
  have cX2_x_3 := (bcl hX zR4_x).trans cR4_x_3
  have fX2_x := bfz hX zR4_x fR4_x
  have zX2_y := Nat.lt_of_lt_of_le zR4_y hX.size
  have cX2_y_0 := (bcl hX zR4_y).trans cR4_y_0
  have cX2_y_1 := (bcl hX zR4_y).trans cR4_y_1
  have zX2_s := Nat.lt_of_lt_of_le zR4_s hX.size
  have cX2_s_0 := (bcl hX zR4_s).trans cR4_s_0
  have cX2_s_1 := (bcl hX zR4_s).trans cR4_s_1
  have cX2_s_2 := (bcl hX zR4_s).trans cR4_s_2
  have zX2_dd := g_dd.1; have cX2_dd_0 := g_dd.2 0 _ rfl; have cX2_dd_1 := g_dd.2 1 _ rfl; have cX2_dd_2 := g_dd.2 2 _ rfl; have cX2_dd_3 := g_dd.2 3 _ rfl; have cX2_dd_4 := g_dd.2 4 _ rfl; have cX2_dd_5 := g_dd.2 5 _ rfl; have cX2_dd_6 := g_dd.2 6 _ rfl; clear g_dd
  obtain ⟨nebX2dd_r, ndbX2dd_r⟩ := nn (a := bX2dd) (b := w.heap.size + 1 + 1)
  obtain ⟨nebX2dd_x, ndbX2dd_x⟩ := nn (a := bX2dd) (b := bX1x)
  have HBX2 : Hid (Below w.heap.size w X2) := bl_trans HBR4.out hX
  clear hX
  clear zR4_a yR4_a yyR4_a cR4_a_0 cR4_a_1 zR4_b yR4_b yyR4_b cR4_b_0 cR4_b_1 zR4_r yR4_r yyR4_r cR4_r_0 cR4_r_1 cR4_r_2 fR4_r zR4_x yR4_x yyR4_x cR4_x_0 cR4_x_1 cR4_x_2 cR4_x_3 fR4_x zR4_y yR4_y yyR4_y cR4_y_0 cR4_y_1 zR4_s yR4_s yyR4_s cR4_s_0 cR4_s_1 cR4_s_2 HBR4 m_bX2dd
  go_upto_region 9 with fail
  refine nw _ fun R5 hR5 => ?_
  obtain ⟨zR5_a, yR5_a, yyR5_a, cR5_a_0, cR5_a_1⟩ := cz2 hR5 w.heap.size (.int .i64 h) (.int .u64 l)
  obtain ⟨zR5_b, yR5_b, yyR5_b, cR5_b_0, cR5_b_1⟩ := cz2 hR5 (w.heap.size + 1) (.int .i64 m) (.int .u64 n)
  obtain ⟨zR5_r, yR5_r, yyR5_r, cR5_r_0, cR5_r_1, cR5_r_2⟩ := cz3 hR5 (w.heap.size + 1 + 1) (.int .i64 0) (.int .u64 0) (.int .i64 0)
  have fR5_r := fz (b := w.heap.size + 1 + 1) hR5
  obtain ⟨zR5_x, yR5_x, yyR5_x, cR5_x_0, cR5_x_1, cR5_x_2, cR5_x_3⟩ := cz4 hR5 bX1x (.int .u64 q3) (.int .u64 q2) (.int .u64 s1) (.int .u64 s0)
  have fR5_x := fz (b := bX1x) hR5
  obtain ⟨zR5_y, yR5_y, yyR5_y, cR5_y_0, cR5_y_1⟩ := cz2 hR5 bX1y (.int .u64 g1) (.int .u64 g0)
  obtain ⟨zR5_s, yR5_s, yyR5_s, cR5_s_0, cR5_s_1, cR5_s_2⟩ := cz3 hR5 w4.heap.size (.int .u64 s1) (.int .u64 s0) (.bool true)
  obtain ⟨zR5_dd, yR5_dd, yyR5_dd⟩ := sr3 (B := bX2dd) hR5
  have cR5_dd_0 : R5.cell? ⟨bX2dd, 0, none⟩ = some (.int .u64 t3) := cel hR5
  have cR5_dd_1 : R5.cell? ⟨bX2dd, 1, none⟩ = some (.int .u64 t2) := cel hR5
  have cR5_dd_2 : R5.cell? ⟨bX2dd, 2, none⟩ = some (.int .u64 t1) := cel hR5
  have cR5_dd_3 : R5.cell? ⟨bX2dd, 3, none⟩ = some (.int .u64 t0) := cel hR5
  have cR5_dd_4 : R5.cell? ⟨bX2dd, 4, none⟩ = some (.int .u64 u1) := cel hR5
  have cR5_dd_5 : R5.cell? ⟨bX2dd, 5, none⟩ = some (.int .u64 u0) := cel hR5
  have cR5_dd_6 : R5.cell? ⟨bX2dd, 6, none⟩ = some (.bool ok) := cel hR5
  have na_r_dd : ¬ (w.heap.size + 1 + 1 = bX2dd) := by omega
  have nb_r_dd : ¬ (bX2dd = w.heap.size + 1 + 1) := by omega
  have na_x_dd : ¬ (bX1x = bX2dd) := by omega
  have nb_x_dd : ¬ (bX2dd = bX1x) := by omega
  have HBR5 := bhr (a := w) hR5
  clear hR5
  clear HBX2 zX2_a cX2_a_0 cX2_a_1 zX2_b cX2_b_0 cX2_b_1 zX2_r cX2_r_0 cX2_r_1 cX2_r_2 fX2_r zX2_x cX2_x_0 cX2_x_1 cX2_x_2 cX2_x_3 fX2_x zX2_y cX2_y_0 cX2_y_1 zX2_s cX2_s_0 cX2_s_1 cX2_s_2 zX2_dd cX2_dd_0 cX2_dd_1 cX2_dd_2 cX2_dd_3 cX2_dd_4 cX2_dd_5 cX2_dd_6
  go_wp2_with fail
  (with_reducible refine cm (K8.out _) fun w8 hclw8 hfrw8 hb => ?_); obtain ⟨zw8_a, yw8_a, yyw8_a⟩ := sz3 (B := w.heap.size) hb; obtain ⟨zw8_b, yw8_b, yyw8_b⟩ := sz3 (B := w.heap.size + 1) hb; obtain ⟨zw8_r, yw8_r, yyw8_r⟩ := sz3 (B := w.heap.size + 1 + 1) hb; obtain ⟨zw8_x, yw8_x, yyw8_x⟩ := sz3 (B := bX1x) hb; obtain ⟨zw8_y, yw8_y, yyw8_y⟩ := sz3 (B := bX1y) hb; obtain ⟨zw8_s, yw8_s, yyw8_s⟩ := sz3 (B := w4.heap.size) hb; obtain ⟨zw8_dd, yw8_dd, yyw8_dd⟩ := sz3 (B := bX2dd) hb; have sxw8_0 := sz1 (b := R5.heap.size) hb; have HBw8 := hbw (a := w) hb; clear hb
  have fw8_r : ∀ j, w8.frozen? ⟨w.heap.size + 1 + 1, j, none⟩ = false := fun j => by rw [hfrw8 _ _ (by first | exact zR5_r | (simp; exact zR5_r))]; exact fR5_r j
  have fw8_x : ∀ j, w8.frozen? ⟨bX1x, j, none⟩ = false := fun j => by rw [hfrw8 _ _ (by first | exact zR5_x | (simp; exact zR5_x))]; exact fR5_x j
  go_wp2_with fail
  refine bodyPost_ret (by simp [results, Try.results17, go_sem, *]; try rfl) rfl ?_
  exact ⟨rfl, bb⟩
end Go.Proofs.Ytmmlekgojblopaa
namespace Go.Proofs.Ytmmlekgojblopaa
open Go.RowKit

theorem field_rsum (x0 x1 x2 : Value) (w : World) : (Instr.field 64 (.agg #[x0, x1, x2]) 0).run Try.prog w = .ok (.agg #[x0, x1]) w := by kernel_rfl
theorem rdiv_none (a3 a2 a1 a0 : Int) (w : World) :
    Calls Try.prog 34 #[.agg #[.int .u64 a3, .int .u64 a2, .int .u64 a1, .int .u64 a0], .agg #[.int .u64 0, .int .u64 0]] w fun e w' => e = .returned (.agg #[.int .u64 0, .int .u64 0, .int .u64 0, .int .u64 0, .int .u64 0, .int .u64 0, .bool false]) ∧ Below w.heap.size w w' := by
  have q := eq_two_true 0 0
  go_enter Try.func34, Try.ntmps34
  go_wp2_with fail
  refine bodyPost_ret (by simp [results, Try.results34, go_sem, *]; try rfl) rfl ?_
  exact ⟨rfl, bb⟩
set_option maxRecDepth 20000 in
set_option maxHeartbeats 16000000 in
theorem rdiv_core (a3 a2 a1 a0 b1 b0 : Int) (N d : Nat) (hq0 : ∀ W, (Go.binOp .eql 62 (.agg #[.int .u64 b1, .int .u64 b0]) (.agg #[.int .u64 0, .int .u64 0])).run Try.prog W = .ok (.bool false) W) (hd : d ≠ 0) (hd2 : d < 340282366920938463463374607431768211456) (hN : N < 2 ^ 256)
    (hbit : ∀ i : Nat, i < 256 → Ct 56 #[.agg #[.int .u64 a3, .int .u64 a2, .int .u64 a1, .int .u64 a0], .int .i64 (i : Int)] (.int .u64 ((bt N i : Nat) : Int)))
    (hless : ∀ n : Nat, Ct 51 #[.agg #[.int .u64 ((wd n 1)), .int .u64 ((wd n 0))], .agg #[.int .u64 b1, .int .u64 b0]] (.bool (decide (n % 340282366920938463463374607431768211456 < d))))
    (hsub : ∀ n : Nat, ∀ W, Calls Try.prog 30 #[.agg #[.int .u64 ((wd n 1)), .int .u64 ((wd n 0))], .agg #[.int .u64 b1, .int .u64 b0]] W fun e w' => e = .returned (.agg #[.int .u64 (wd (n % 340282366920938463463374607431768211456 + (340282366920938463463374607431768211456 - d)) 1), .int .u64 (wd (n % 340282366920938463463374607431768211456 + (340282366920938463463374607431768211456 - d)) 0), .bool (decide (n % 340282366920938463463374607431768211456 < d))]) ∧ Below W.heap.size W w') (w : World) :
    Calls Try.prog 34 #[.agg #[.int .u64 a3, .int .u64 a2, .int .u64 a1, .int .u64 a0], .agg #[.int .u64 b1, .int .u64 b0]] w fun e w' => e = .returned (.agg #[.int .u64 (wd (N / d) 3), .int .u64 (wd (N / d) 2), .int .u64 (wd (N / d) 1), .int .u64 (wd (N / d) 0), .int .u64 (wd (N % d) 1), .int .u64 (wd (N % d) 0), .bool true]) ∧ Below w.heap.size w w' := by
  have HBits := Lib.hid hbit; have HLesss := Lib.hid hless; have HSubs := Lib.hid hsub; have HN := Lib.hid hN; have HD := Lib.hid hd; have HD2 := Lib.hid hd2
  clear hbit hless hsub hN hd hd2
  have fld := field_rsum
  have hmk : ∀ w, (Instr.makeSlice 93 (.int .i64 4) (.int .i64 4)).run Try.prog w = .ok (.slice (some ⟨w.heap.size, 0, none⟩) 4 4) (w.alloc (.cells #[.int .u64 0, .int .u64 0, .int .u64 0, .int .u64 0] 22)) := fun _ => by kernel_rfl
  go_enter Try.func34, Try.ntmps34
  go_wp2_with fail
  refine nw _ fun R hR => ?_
  have g0 : Dv w a3 a2 a1 a0 b1 b0 0 0 0 R := by
    rw [hR]
    refine ⟨Has.mk4 (by simp <;> omega) (by simp [go_sem]) (by simp [go_sem]) (by simp [go_sem]) (by simp [go_sem]), Has.mk2 (by simp <;> omega) (by simp [go_sem]) (by simp [go_sem]), Has.mk7 (by simp <;> omega) (by simp [go_sem]) (by simp [go_sem]) (by simp [go_sem]) (by simp [go_sem]) (by simp [go_sem]) (by simp [go_sem]) (by simp [go_sem]), Has.mk7 (by simp <;> omega) (by simp [go_sem]) (by simp [go_sem]) (by simp [go_sem]) (by simp [go_sem]) (by simp [go_sem]) (by simp [go_sem]) (by simp [go_sem]), by simp, fun j hj => ?_, fun j => ?_, fun j => ?_, fun j => ?_, bb⟩
    · rcases (show j = 0 ∨ j = 1 ∨ j = 2 ∨ j = 3 by omega) with rfl | rfl | rfl | rfl <;> simp [go_sem] <;> rfl
    · simp only [frozen?_alloc_cells]; exact frozen_late (by omega)
    · simp only [frozen?_alloc_cells]; exact frozen_late (by omega)
    · simp only [frozen?_alloc_cells]; exact frozen_late (by omega)
  have G0 := Lib.hid g0
  clear g0 hR hmk
  go_loopg [7] 256 (fun k iv wr => k ≤ 256 ∧ iv = .int .i64 ((k : Int) - 1) ∧ Dv w a3 a2 a1 a0 b1 b0 (wd (rq N d k) 1) (wd (rq N d k) 0) (qq N d k) wr)
  case atStart =>
    refine ⟨Nat.le_refl _, rfl, ?_⟩
    rw [rq_top HN.out, qq_top HN.out]; exact G0.out
  case round =>
    obtain ⟨hk, rfl, P⟩ := hrel
    clear G0
    rcases gk with _ | k
    · rw [rq_end, qq_end] at P
      have HP := Lib.hid P
      have hF : Has (w.heap.size + 1 + 1 + 1 + 1) [.int .u64 (wd (N / d) 0), .int .u64 (wd (N / d) 1), .int .u64 (wd (N / d) 2), .int .u64 (wd (N / d) 3)] wr := Has.mk4 P.size (P.q 0 (by decide)) (P.q 1 (by decide)) (P.q 2 (by decide)) (P.q 3 (by decide))
      have HF := Lib.hid hF
      clear P hF HBits HLesss HSubs
      go_wp2_with fail
      refine (rfour_any _ _ _ _ _ _ HF.out).mono ?_
      rintro e w1 ⟨rfl, hb⟩
      have HP1 := Lib.hid (HP.out.step hb)
      clear hb HP HF
      have P := HP1.out
      have c0 := P.out.2 0 _ rfl; have c1 := P.out.2 1 _ rfl; have c2 := P.out.2 2 _ rfl; have c3 := P.out.2 3 _ rfl; have c4 := P.out.2 4 _ rfl; have c5 := P.out.2 5 _ rfl; have c6 := P.out.2 6 _ rfl
      have s0 := P.res.2 0 _ rfl; have s1 := P.res.2 1 _ rfl; have s2 := P.res.2 2 _ rfl; have s3 := P.res.2 3 _ rfl; have s4 := P.res.2 4 _ rfl; have s5 := P.res.2 5 _ rfl; have s6 := P.res.2 6 _ rfl
      have fo : ∀ j, w1.frozen? ⟨w.heap.size + 1 + 1 + 1, j, none⟩ = false := P.zo
      have fr : ∀ j, w1.frozen? ⟨w.heap.size + 1 + 1, j, none⟩ = false := P.zr
      have zO := P.out.1; have zR := P.res.1
      clear P
      go_wp2_with fail
      refine bodyPost_ret (by simp [results, Try.results34, go_sem, *]; try rfl) rfl ?_
      refine ⟨rfl, ?_⟩
      have hB := HP1.out.below
      repeat (first | with_reducible exact hB | with_reducible refine Below.setCell ?_ (by simp; omega) _)
    · have HP := Lib.hid P
      have k1 : ((k + 1 : Nat) : Int) - 1 = (k : Int) := by omega
      have k4 : (k : Int) < 256 := by omega
      have wk : IntKind.i64.wrap ((k : Int) - 1) = (k : Int) - 1 := IntWalk.i64_in _ (by omega)
      rw [k1]
      obtain ⟨q, hq⟩ : ∃ q, q = k / 64 := ⟨_, rfl⟩
      obtain ⟨r, hr⟩ : ∃ r, r = k % 64 := ⟨_, rfl⟩
      have hkq : k = 64 * q + r := by omega
      have hq4 : q < 4 := by omega
      have hq5 : (q : Int) < 4 := by omega
      have hr6 : (r : Int) < 64 := by omega
      have hrn : r < 64 := by omega
      have t1 : (k : Int).tdiv 64 = (q : Int) := by rw [Int.tdiv_eq_ediv_of_nonneg (by omega)]; omega
      have t2 : (k : Int).tmod 64 = (r : Int) := by rw [Int.tmod_eq_emod_of_nonneg (by omega)]; omega
      have t3 : IntKind.i64.wrap (q : Int) = q := IntWalk.i64_in _ (by omega)
      have t4 : IntKind.u64.wrap ((2 : Int) ^ r) = 2 ^ r := by
        have := pow_word r hrn
        have e : ((2 : Int) ^ r) = ((2 ^ r : Nat) : Int) := by simp
        rw [e]; clear e; generalize (2 : Nat) ^ r = Z at *; exact IntWalk.u64_in _ (by omega)
      have hlt := rq_lt (N := N) (m := k + 1) HD.out
      have hbl := bt_le N k
      have hw := two_words (R := rq N d (k + 1)) (b := bt N k) (by have := HD2.out; omega) hbl
      have hst := div_step (N := N) (i := k) HD.out
      have HBit := Lib.hid (HBits.out k (by omega))
      have HLess := Lib.hid (HLesss.out (2 * rq N d (k + 1) + bt N k))
      have HSub := Lib.hid (HSubs.out (2 * rq N d (k + 1) + bt N k))
      have hmore := word_more (Q := qq N d (k + 1)) (m := k) (q := q) (r := r) hrn hkq (qq_dvd N d (k + 1))
      rw [show ((2 ^ r : Nat) : Int) = (2 : Int) ^ r by simp] at hmore
      have hd2 := HD2.out
      obtain ⟨w1', w0', wh⟩ := hw
      have HS : Hid ((2 * rq N d (k + 1) + bt N k < d ∧ wd (rq N d (k + 1)) 1 / 9223372036854775808 = 0 ∧ decide ((2 * rq N d (k + 1) + bt N k) % 340282366920938463463374607431768211456 < d) = true ∧
          (wd (rq N d k) 1 = wd (2 * rq N d (k + 1) + bt N k) 1 ∧ wd (rq N d k) 0 = wd (2 * rq N d (k + 1) + bt N k) 0 ∧ qq N d k = qq N d (k + 1))) ∨
        ((wd (rq N d (k + 1)) 1 / 9223372036854775808 = 1 ∨ (wd (rq N d (k + 1)) 1 / 9223372036854775808 = 0 ∧ decide ((2 * rq N d (k + 1) + bt N k) % 340282366920938463463374607431768211456 < d) = false)) ∧
          (wd (rq N d k) 1 = wd ((2 * rq N d (k + 1) + bt N k) % 340282366920938463463374607431768211456 + (340282366920938463463374607431768211456 - d)) 1 ∧ wd (rq N d k) 0 = wd ((2 * rq N d (k + 1) + bt N k) % 340282366920938463463374607431768211456 + (340282366920938463463374607431768211456 - d)) 0 ∧
            bits .or .u64 (wd (qq N d (k + 1)) q) (2 ^ r) = wd (qq N d k) q ∧ ∀ j, j ≠ q → wd (qq N d k) j = wd (qq N d (k + 1)) j))) := by
        rcases hst with ⟨g, e1, e2⟩ | ⟨g, e1, e2⟩
        · left
          refine ⟨g, by rw [wh, if_neg (by omega)]; rfl, decide_eq_true ?_, by rw [e1], by rw [e1], e2⟩
          rw [Nat.mod_eq_of_lt (by omega)]; exact g
        · right
          have s1 := sub_words (R := 2 * rq N d (k + 1) + bt N k) (d := d) hd2 g (by omega) (by omega) 1 (by decide)
          have s0 := sub_words (R := 2 * rq N d (k + 1) + bt N k) (d := d) hd2 g (by omega) (by omega) 0 (by decide)
          refine ⟨?_, by rw [e1, s1], by rw [e1, s0], by rw [e2]; exact hmore.1, fun j hj => by rw [e2]; exact hmore.2 j hj⟩
          rcases Nat.lt_or_ge (2 * rq N d (k + 1) + bt N k) 340282366920938463463374607431768211456 with c | c
          · right
            refine ⟨by rw [wh, if_neg (by omega)]; rfl, decide_eq_false ?_⟩
            rw [Nat.mod_eq_of_lt c]; omega
          · left; rw [wh, if_pos c]; rfl
      clear hst hmore wh hlt hd2 HBits HLesss HSubs hq hr hkq hrn hbl k1 HN HD HD2
      have P := HP.out
      clear P
      generalize hr1 : wd (rq N d (k + 1)) 1 = r1 at *
      generalize hr0 : wd (rq N d (k + 1)) 0 = r0 at *
      generalize hn1 : wd (2 * rq N d (k + 1) + bt N k) 1 = n1 at *
      generalize hn0 : wd (2 * rq N d (k + 1) + bt N k) 0 = n0 at *
      generalize wd ((2 * rq N d (k + 1) + bt N k) % 340282366920938463463374607431768211456 + (340282366920938463463374607431768211456 - d)) 1 = m1 at *
      generalize wd ((2 * rq N d (k + 1) + bt N k) % 340282366920938463463374607431768211456 + (340282366920938463463374607431768211456 - d)) 0 = m0 at *
      generalize qq N d (k + 1) = QQ at *
      generalize (bt N k) = bb at *
      clear hr1 hr0 hn1 hn0
      have P := HP.out
      have c4 := P.out.2 4 _ rfl; have c5 := P.out.2 5 _ rfl
      have ca3 := P.a.2 0 _ rfl; have ca2 := P.a.2 1 _ rfl; have ca1 := P.a.2 2 _ rfl; have ca0 := P.a.2 3 _ rfl
      have cb1 := P.b.2 0 _ rfl; have cb0 := P.b.2 1 _ rfl
      have zA := P.a.1; have zB := P.b.1; have zO := P.out.1; have zQ := P.size
      have fo : ∀ j, wr.frozen? ⟨w.heap.size + 1 + 1 + 1, j, none⟩ = false := P.zo
      have fq : ∀ j, wr.frozen? ⟨w.heap.size + 1 + 1 + 1 + 1, j, none⟩ = false := P.zq
      clear P
      rcases HS.out with ⟨_, h0, hl, he⟩ | ⟨h0 | ⟨h0, hl⟩, he⟩
      · have HE := Lib.hid he
        clear HS he
        rw [hl] at HLess HSub
        go_wp2_with fail
        refine wp_region_late_drew (fun w' => w'.cell? ⟨w.heap.size + 1 + 1 + 1, 4, none⟩ = some (.int .u64 r1) ∧ w'.cell? ⟨w.heap.size + 1 + 1 + 1, 5, none⟩ = some (.int .u64 r0) ∧ w'.cell? ⟨w.heap.size, 0, none⟩ = some (.int .u64 a3) ∧ w'.cell? ⟨w.heap.size, 1, none⟩ = some (.int .u64 a2) ∧ w'.cell? ⟨w.heap.size, 2, none⟩ = some (.int .u64 a1) ∧ w'.cell? ⟨w.heap.size, 3, none⟩ = some (.int .u64 a0)) 19 kr ?_ (fun hHeld => ?_)
        · (try dsimp only); (first | (simp [*, go_sem]; done) | (simp [*, go_sem, World.cell?_alloc_past]; done))
        refine wpAnyK_take (i := 0) (oi := _) (v := ?_) ge kr kr kr kr kr (by exact fun _ _ _ h => h) (Or.inl ⟨by rfl, ?_⟩) hHeld ?_
        rotate_left 1
        · (intro w hSw; (try dsimp only at hSw); go_simp; try with_reducible rfl)
        try simp only [Act.put, List.setIfInBounds_toArray, List.set_cons_zero, List.set_cons_succ]
        refine wpAnyK_take (i := 1) (oi := _) (v := ?_) ge kr kr kr kr kr (by exact fun _ _ _ h => h) (Or.inl ⟨by rfl, ?_⟩) hHeld ?_
        rotate_left 1
        · (intro w hSw; (try dsimp only at hSw); go_simp; try with_reducible rfl)
        try simp only [Act.put, List.setIfInBounds_toArray, List.set_cons_zero, List.set_cons_succ]
        refine wpAnyK_take (i := 2) (oi := _) (v := ?_) ge kr kr kr kr kr (by exact fun _ _ _ h => h) (Or.inl ⟨by rfl, ?_⟩) hHeld ?_
        rotate_left 1
        · (intro w hSw; (try dsimp only at hSw); go_simp; try with_reducible rfl)
        try simp only [Act.put, List.setIfInBounds_toArray, List.set_cons_zero, List.set_cons_succ]
        refine wpAnyK_take (i := 3) (oi := _) (v := ?_) ge kr kr kr kr kr (by exact fun _ _ _ h => h) (Or.inl ⟨by rfl, ?_⟩) hHeld ?_
        rotate_left 1
        · (intro w hSw; (try dsimp only at hSw); go_simp; try with_reducible rfl)
        try simp only [Act.put, List.setIfInBounds_toArray, List.set_cons_zero, List.set_cons_succ]
        refine wpAnyK_take (i := 4) (oi := _) (v := ?_) ge kr kr kr kr kr (by exact fun _ _ _ h => h) (Or.inl ⟨by rfl, ?_⟩) hHeld ?_
        rotate_left 1
        · (intro w hSw; (try dsimp only at hSw); go_simp; try with_reducible rfl)
        try simp only [Act.put, List.setIfInBounds_toArray, List.set_cons_zero, List.set_cons_succ]
        refine wpAnyK_take (i := 5) (oi := _) (v := ?_) ge kr kr kr kr kr (by exact fun _ _ _ h => h) (Or.inl ⟨by rfl, ?_⟩) hHeld ?_
        rotate_left 1
        · (intro w hSw; (try dsimp only at hSw); go_simp; try with_reducible rfl)
        try simp only [Act.put, List.setIfInBounds_toArray, List.set_cons_zero, List.set_cons_succ]
        refine wpAnyK_take (i := 6) (oi := _) (v := ?_) ge kr kr kr kr kr (by exact fun _ _ _ h => h) (Or.inl ⟨by rfl, ?_⟩) hHeld ?_
        rotate_left 1
        · (intro w hSw; (try dsimp only at hSw); go_simp; try with_reducible rfl)
        try simp only [Act.put, List.setIfInBounds_toArray, List.set_cons_zero, List.set_cons_succ]
        refine wpAnyK_take (i := 7) (oi := _) (v := ?_) ge kr kr kr kr kr (by exact fun _ _ _ h => h) (Or.inl ⟨by rfl, ?_⟩) hHeld ?_
        rotate_left 1
        · (intro w hSw; (try dsimp only at hSw); go_simp; try with_reducible rfl)
        try simp only [Act.put, List.setIfInBounds_toArray, List.set_cons_zero, List.set_cons_succ]
        refine wpAnyK_take (i := 8) (oi := _) (v := ?_) ge kr kr kr kr kr (by exact fun _ _ _ h => h) (Or.inl ⟨by rfl, ?_⟩) hHeld ?_
        rotate_left 1
        · (intro w hSw; (try dsimp only at hSw); go_simp; try with_reducible rfl)
        try simp only [Act.put, List.setIfInBounds_toArray, List.set_cons_zero, List.set_cons_succ]
        refine wpAnyK_take (i := 9) (oi := _) (v := ?_) ge kr kr kr kr kr (by exact fun _ _ _ h => h) (Or.inl ⟨by rfl, ?_⟩) hHeld ?_
        rotate_left 1
        · (intro w hSw; (try dsimp only at hSw); go_simp; try with_reducible rfl)
        try simp only [Act.put, List.setIfInBounds_toArray, List.set_cons_zero, List.set_cons_succ]
        refine wpAnyK_take (i := 10) (oi := _) (v := ?_) ge kr kr kr kr kr (by exact fun _ _ _ h => h) (Or.inl ⟨by rfl, ?_⟩) hHeld ?_
        rotate_left 1
        · (intro w hSw; (try dsimp only at hSw); go_simp; try with_reducible rfl)
        try simp only [Act.put, List.setIfInBounds_toArray, List.set_cons_zero, List.set_cons_succ]
        refine wpAnyK_take (i := 11) (oi := _) (v := ?_) ge kr kr kr kr kr (by exact fun _ _ _ h => h) (Or.inl ⟨by rfl, ?_⟩) hHeld ?_
        rotate_left 1
        · (intro w hSw; (try dsimp only at hSw); go_simp; try with_reducible rfl)
        try simp only [Act.put, List.setIfInBounds_toArray, List.set_cons_zero, List.set_cons_succ]
        refine wpAnyK_take (i := 12) (oi := _) (v := ?_) ge kr kr kr kr kr (by exact fun _ _ _ h => h) (Or.inl ⟨by rfl, ?_⟩) hHeld ?_
        rotate_left 1
        · (intro w hSw; (try dsimp only at hSw); go_simp; try with_reducible rfl)
        try simp only [Act.put, List.setIfInBounds_toArray, List.set_cons_zero, List.set_cons_succ]
        refine wpAnyK_take (i := 13) (oi := _) (v := ?_) ge kr kr kr kr kr (by exact fun _ _ _ h => h) (Or.inl ⟨by rfl, ?_⟩) hHeld ?_
        rotate_left 1
        · (intro w hSw; (try dsimp only at hSw); go_simp; try with_reducible rfl)
        try simp only [Act.put, List.setIfInBounds_toArray, List.set_cons_zero, List.set_cons_succ]
        refine wpAnyK_take (i := 14) (oi := _) (v := ?_) ge kr kr kr kr kr (by exact fun _ _ _ h => h) (Or.inl ⟨by rfl, ?_⟩) hHeld ?_
        rotate_left 1
        · (intro w hSw; (try dsimp only at hSw); go_simp; try with_reducible rfl)
        try simp only [Act.put, List.setIfInBounds_toArray, List.set_cons_zero, List.set_cons_succ]
        refine wpAnyK_one (i := 15) (o := _) kr ge (fun K hK => ?_)
        go_simp
        (with_reducible refine (HBit.out _).mono ?_); rintro e w1 ⟨rfl, hb⟩; obtain ⟨hcl, hfr⟩ := bcell_drew hb; have HB1 : Hid (Below wr.heap.size wr w1) := bl_trans (Below.refl _ _).drew hb; have y0 : w.heap.size < w1.heap.size := (by have hz := hb.size; simp at hz; omega); have y3 : w.heap.size + 1 + 1 + 1 < w1.heap.size := (by have hz := hb.size; simp at hz; omega); clear hb
        try go_wp2_with fail
        refine hK.out _ _ (fun _ => ?_) (fun hHeldN => ?_)
        · (try dsimp only); (first | (simp [*, go_sem]; done) | (simp [*, go_sem, World.cell?_alloc_past]; done))
        replace hHeld := hHeldN kr
        clear hK K hHeldN
        try simp only [Act.put, List.setIfInBounds_toArray, List.set_cons_zero, List.set_cons_succ]
        refine wpAnyK_take (i := 16) (oi := _) (v := ?_) ge kr kr kr kr kr (by exact fun _ _ _ h => h) (Or.inl ⟨by rfl, ?_⟩) hHeld ?_
        rotate_left 1
        · (intro w hSw; (try dsimp only at hSw); go_simp; try with_reducible rfl)
        try simp only [Act.put, List.setIfInBounds_toArray, List.set_cons_zero, List.set_cons_succ]
        refine wpAnyK_take (i := 17) (oi := _) (v := ?_) ge kr kr kr kr kr (by exact fun _ _ _ h => h) (Or.inl ⟨by rfl, ?_⟩) hHeld ?_
        rotate_left 1
        · (intro w hSw; (try dsimp only at hSw); go_simp; try with_reducible rfl)
        try simp only [Act.put, List.setIfInBounds_toArray, List.set_cons_zero, List.set_cons_succ]
        refine wpAnyK_take (i := 18) (oi := _) (v := ?_) ge kr kr kr kr kr (by exact fun _ _ _ h => h) (Or.inl ⟨by rfl, ?_⟩) hHeld ?_
        rotate_left 1
        · (intro w hSw; (try dsimp only at hSw); go_simp; try with_reducible rfl)
        try simp only [Act.put, List.setIfInBounds_toArray, List.set_cons_zero, List.set_cons_succ]
        refine wpAnyK_one (i := 19) (o := _) kr ge (fun K hK => ?_)
        go_simp
        refine hK.out _ _ (fun h => absurd (Eq.trans (Eq.symm h) kr) Bool.false_ne_true) (fun _ => ?_)
        clear hK K
        try simp only [Act.put, List.setIfInBounds_toArray, List.set_cons_zero, List.set_cons_succ]
        refine wpAnyK_done kr ?_ _
        clear hHeld
        clear hcl hfr y0 y3 c4 c5 ca3 ca2 ca1 ca0 cb1 cb0 zA zB zO zQ fo fq
        have HP1 := Lib.hid ((HP.out.step HB1.out).rest n1 n0)
        clear HP HB1
        go_upto_region 10 with fail
        refine nw _ fun R hR => ?_
        rw [← hR] at HP1
        clear hR
        have P := HP1.out
        have c4 := P.out.2 4 _ rfl; have c5 := P.out.2 5 _ rfl
        have ca3 := P.a.2 0 _ rfl; have ca2 := P.a.2 1 _ rfl; have ca1 := P.a.2 2 _ rfl; have ca0 := P.a.2 3 _ rfl
        have cb1 := P.b.2 0 _ rfl; have cb0 := P.b.2 1 _ rfl
        have zA := P.a.1; have zB := P.b.1; have zO := P.out.1; have zQ := P.size
        have fo : ∀ j, R.frozen? ⟨w.heap.size + 1 + 1 + 1, j, none⟩ = false := P.zo
        have fq : ∀ j, R.frozen? ⟨w.heap.size + 1 + 1 + 1 + 1, j, none⟩ = false := P.zq
        clear P
        go_wp2_with fail
        (with_reducible refine (HLess.out _).mono ?_); rintro e w2 ⟨rfl, hb⟩
        have HP2 := Lib.hid (HP1.out.step hb)
        clear hb HP1 c4 c5 ca3 ca2 ca1 ca0 cb1 cb0 zA zB zO zQ fo fq
        have P := HP2.out
        have c4 := P.out.2 4 _ rfl; have c5 := P.out.2 5 _ rfl
        have ca3 := P.a.2 0 _ rfl; have ca2 := P.a.2 1 _ rfl; have ca1 := P.a.2 2 _ rfl; have ca0 := P.a.2 3 _ rfl
        have cb1 := P.b.2 0 _ rfl; have cb0 := P.b.2 1 _ rfl
        have zA := P.a.1; have zB := P.b.1; have zO := P.out.1; have zQ := P.size
        have fo : ∀ j, w2.frozen? ⟨w.heap.size + 1 + 1 + 1, j, none⟩ = false := P.zo
        have fq : ∀ j, w2.frozen? ⟨w.heap.size + 1 + 1 + 1 + 1, j, none⟩ = false := P.zq
        clear P
        go_wp2_with fail
        go_roundg k
        case measure => omega
        case rel => exact ⟨by omega, rfl, by rw [HE.out.1, HE.out.2.1, HE.out.2.2]; exact HP2.out⟩
      · have HE := Lib.hid he
        clear HS he
        go_wp2_with fail
        refine wp_region_late_drew (fun w' => w'.cell? ⟨w.heap.size + 1 + 1 + 1, 4, none⟩ = some (.int .u64 r1) ∧ w'.cell? ⟨w.heap.size + 1 + 1 + 1, 5, none⟩ = some (.int .u64 r0) ∧ w'.cell? ⟨w.heap.size, 0, none⟩ = some (.int .u64 a3) ∧ w'.cell? ⟨w.heap.size, 1, none⟩ = some (.int .u64 a2) ∧ w'.cell? ⟨w.heap.size, 2, none⟩ = some (.int .u64 a1) ∧ w'.cell? ⟨w.heap.size, 3, none⟩ = some (.int .u64 a0)) 19 kr ?_ (fun hHeld => ?_)
        · (try dsimp only); (first | (simp [*, go_sem]; done) | (simp [*, go_sem, World.cell?_alloc_past]; done))
        refine wpAnyK_take (i := 0) (oi := _) (v := ?_) ge kr kr kr kr kr (by exact fun _ _ _ h => h) (Or.inl ⟨by rfl, ?_⟩) hHeld ?_
        rotate_left 1
        · (intro w hSw; (try dsimp only at hSw); go_simp; try with_reducible rfl)
        try simp only [Act.put, List.setIfInBounds_toArray, List.set_cons_zero, List.set_cons_succ]
        refine wpAnyK_take (i := 1) (oi := _) (v := ?_) ge kr kr kr kr kr (by exact fun _ _ _ h => h) (Or.inl ⟨by rfl, ?_⟩) hHeld ?_
        rotate_left 1
        · (intro w hSw; (try dsimp only at hSw); go_simp; try with_reducible rfl)
        try simp only [Act.put, List.setIfInBounds_toArray, List.set_cons_zero, List.set_cons_succ]
        refine wpAnyK_take (i := 2) (oi := _) (v := ?_) ge kr kr kr kr kr (by exact fun _ _ _ h => h) (Or.inl ⟨by rfl, ?_⟩) hHeld ?_
        rotate_left 1
        · (intro w hSw; (try dsimp only at hSw); go_simp; try with_reducible rfl)
        try simp only [Act.put, List.setIfInBounds_toArray, List.set_cons_zero, List.set_cons_succ]
        refine wpAnyK_take (i := 3) (oi := _) (v := ?_) ge kr kr kr kr kr (by exact fun _ _ _ h => h) (Or.inl ⟨by rfl, ?_⟩) hHeld ?_
        rotate_left 1
        · (intro w hSw; (try dsimp only at hSw); go_simp; try with_reducible rfl)
        try simp only [Act.put, List.setIfInBounds_toArray, List.set_cons_zero, List.set_cons_succ]
        refine wpAnyK_take (i := 4) (oi := _) (v := ?_) ge kr kr kr kr kr (by exact fun _ _ _ h => h) (Or.inl ⟨by rfl, ?_⟩) hHeld ?_
        rotate_left 1
        · (intro w hSw; (try dsimp only at hSw); go_simp; try with_reducible rfl)
        try simp only [Act.put, List.setIfInBounds_toArray, List.set_cons_zero, List.set_cons_succ]
        refine wpAnyK_take (i := 5) (oi := _) (v := ?_) ge kr kr kr kr kr (by exact fun _ _ _ h => h) (Or.inl ⟨by rfl, ?_⟩) hHeld ?_
        rotate_left 1
        · (intro w hSw; (try dsimp only at hSw); go_simp; try with_reducible rfl)
        try simp only [Act.put, List.setIfInBounds_toArray, List.set_cons_zero, List.set_cons_succ]
        refine wpAnyK_take (i := 6) (oi := _) (v := ?_) ge kr kr kr kr kr (by exact fun _ _ _ h => h) (Or.inl ⟨by rfl, ?_⟩) hHeld ?_
        rotate_left 1
        · (intro w hSw; (try dsimp only at hSw); go_simp; try with_reducible rfl)
        try simp only [Act.put, List.setIfInBounds_toArray, List.set_cons_zero, List.set_cons_succ]
        refine wpAnyK_take (i := 7) (oi := _) (v := ?_) ge kr kr kr kr kr (by exact fun _ _ _ h => h) (Or.inl ⟨by rfl, ?_⟩) hHeld ?_
        rotate_left 1
        · (intro w hSw; (try dsimp only at hSw); go_simp; try with_reducible rfl)
        try simp only [Act.put, List.setIfInBounds_toArray, List.set_cons_zero, List.set_cons_succ]
        refine wpAnyK_take (i := 8) (oi := _) (v := ?_) ge kr kr kr kr kr (by exact fun _ _ _ h => h) (Or.inl ⟨by rfl, ?_⟩) hHeld ?_
        rotate_left 1
        · (intro w hSw; (try dsimp only at hSw); go_simp; try with_reducible rfl)
        try simp only [Act.put, List.setIfInBounds_toArray, List.set_cons_zero, List.set_cons_succ]
        refine wpAnyK_take (i := 9) (oi := _) (v := ?_) ge kr kr kr kr kr (by exact fun _ _ _ h => h) (Or.inl ⟨by rfl, ?_⟩) hHeld ?_
        rotate_left 1
        · (intro w hSw; (try dsimp only at hSw); go_simp; try with_reducible rfl)
        try simp only [Act.put, List.setIfInBounds_toArray, List.set_cons_zero, List.set_cons_succ]
        refine wpAnyK_take (i := 10) (oi := _) (v := ?_) ge kr kr kr kr kr (by exact fun _ _ _ h => h) (Or.inl ⟨by rfl, ?_⟩) hHeld ?_
        rotate_left 1
        · (intro w hSw; (try dsimp only at hSw); go_simp; try with_reducible rfl)
        try simp only [Act.put, List.setIfInBounds_toArray, List.set_cons_zero, List.set_cons_succ]
        refine wpAnyK_take (i := 11) (oi := _) (v := ?_) ge kr kr kr kr kr (by exact fun _ _ _ h => h) (Or.inl ⟨by rfl, ?_⟩) hHeld ?_
        rotate_left 1
        · (intro w hSw; (try dsimp only at hSw); go_simp; try with_reducible rfl)
        try simp only [Act.put, List.setIfInBounds_toArray, List.set_cons_zero, List.set_cons_succ]
        refine wpAnyK_take (i := 12) (oi := _) (v := ?_) ge kr kr kr kr kr (by exact fun _ _ _ h => h) (Or.inl ⟨by rfl, ?_⟩) hHeld ?_
        rotate_left 1
        · (intro w hSw; (try dsimp only at hSw); go_simp; try with_reducible rfl)
        try simp only [Act.put, List.setIfInBounds_toArray, List.set_cons_zero, List.set_cons_succ]
        refine wpAnyK_take (i := 13) (oi := _) (v := ?_) ge kr kr kr kr kr (by exact fun _ _ _ h => h) (Or.inl ⟨by rfl, ?_⟩) hHeld ?_
        rotate_left 1
        · (intro w hSw; (try dsimp only at hSw); go_simp; try with_reducible rfl)
        try simp only [Act.put, List.setIfInBounds_toArray, List.set_cons_zero, List.set_cons_succ]
        refine wpAnyK_take (i := 14) (oi := _) (v := ?_) ge kr kr kr kr kr (by exact fun _ _ _ h => h) (Or.inl ⟨by rfl, ?_⟩) hHeld ?_
        rotate_left 1
        · (intro w hSw; (try dsimp only at hSw); go_simp; try with_reducible rfl)
        try simp only [Act.put, List.setIfInBounds_toArray, List.set_cons_zero, List.set_cons_succ]
        refine wpAnyK_one (i := 15) (o := _) kr ge (fun K hK => ?_)
        go_simp
        (with_reducible refine (HBit.out _).mono ?_); rintro e w1 ⟨rfl, hb⟩; obtain ⟨hcl, hfr⟩ := bcell_drew hb; have HB1 : Hid (Below wr.heap.size wr w1) := bl_trans (Below.refl _ _).drew hb; have y0 : w.heap.size < w1.heap.size := (by have hz := hb.size; simp at hz; omega); have y3 : w.heap.size + 1 + 1 + 1 < w1.heap.size := (by have hz := hb.size; simp at hz; omega); clear hb
        try go_wp2_with fail
        refine hK.out _ _ (fun _ => ?_) (fun hHeldN => ?_)
        · (try dsimp only); (first | (simp [*, go_sem]; done) | (simp [*, go_sem, World.cell?_alloc_past]; done))
        replace hHeld := hHeldN kr
        clear hK K hHeldN
        try simp only [Act.put, List.setIfInBounds_toArray, List.set_cons_zero, List.set_cons_succ]
        refine wpAnyK_take (i := 16) (oi := _) (v := ?_) ge kr kr kr kr kr (by exact fun _ _ _ h => h) (Or.inl ⟨by rfl, ?_⟩) hHeld ?_
        rotate_left 1
        · (intro w hSw; (try dsimp only at hSw); go_simp; try with_reducible rfl)
        try simp only [Act.put, List.setIfInBounds_toArray, List.set_cons_zero, List.set_cons_succ]
        refine wpAnyK_take (i := 17) (oi := _) (v := ?_) ge kr kr kr kr kr (by exact fun _ _ _ h => h) (Or.inl ⟨by rfl, ?_⟩) hHeld ?_
        rotate_left 1
        · (intro w hSw; (try dsimp only at hSw); go_simp; try with_reducible rfl)
        try simp only [Act.put, List.setIfInBounds_toArray, List.set_cons_zero, List.set_cons_succ]
        refine wpAnyK_take (i := 18) (oi := _) (v := ?_) ge kr kr kr kr kr (by exact fun _ _ _ h => h) (Or.inl ⟨by rfl, ?_⟩) hHeld ?_
        rotate_left 1
        · (intro w hSw; (try dsimp only at hSw); go_simp; try with_reducible rfl)
        try simp only [Act.put, List.setIfInBounds_toArray, List.set_cons_zero, List.set_cons_succ]
        refine wpAnyK_one (i := 19) (o := _) kr ge (fun K hK => ?_)
        go_simp
        refine hK.out _ _ (fun h => absurd (Eq.trans (Eq.symm h) kr) Bool.false_ne_true) (fun _ => ?_)
        clear hK K
        try simp only [Act.put, List.setIfInBounds_toArray, List.set_cons_zero, List.set_cons_succ]
        refine wpAnyK_done kr ?_ _
        clear hHeld
        clear hcl hfr y0 y3 c4 c5 ca3 ca2 ca1 ca0 cb1 cb0 zA zB zO zQ fo fq
        have HP1 := Lib.hid ((HP.out.step HB1.out).rest n1 n0)
        clear HP HB1
        go_upto_region 10 with fail
        refine nw _ fun R hR => ?_
        rw [← hR] at HP1
        clear hR
        have P := HP1.out
        have c4 := P.out.2 4 _ rfl; have c5 := P.out.2 5 _ rfl
        have ca3 := P.a.2 0 _ rfl; have ca2 := P.a.2 1 _ rfl; have ca1 := P.a.2 2 _ rfl; have ca0 := P.a.2 3 _ rfl
        have cb1 := P.b.2 0 _ rfl; have cb0 := P.b.2 1 _ rfl
        have zA := P.a.1; have zB := P.b.1; have zO := P.out.1; have zQ := P.size
        have fo : ∀ j, R.frozen? ⟨w.heap.size + 1 + 1 + 1, j, none⟩ = false := P.zo
        have fq : ∀ j, R.frozen? ⟨w.heap.size + 1 + 1 + 1 + 1, j, none⟩ = false := P.zq
        clear P
        have HP2 := HP1
        clear HP1
        go_wp2_with fail
        (with_reducible refine (HSub.out _).mono ?_); rintro e w3 ⟨rfl, hb⟩
        have HP3 := Lib.hid (HP2.out.step hb)
        clear hb HP2 c4 c5 ca3 ca2 ca1 ca0 cb1 cb0 zA zB zO zQ fo fq
        have P := HP3.out
        have c4 := P.out.2 4 _ rfl; have c5 := P.out.2 5 _ rfl
        have ca3 := P.a.2 0 _ rfl; have ca2 := P.a.2 1 _ rfl; have ca1 := P.a.2 2 _ rfl; have ca0 := P.a.2 3 _ rfl
        have cb1 := P.b.2 0 _ rfl; have cb0 := P.b.2 1 _ rfl
        have zA := P.a.1; have zB := P.b.1; have zO := P.out.1; have zQ := P.size
        have fo : ∀ j, w3.frozen? ⟨w.heap.size + 1 + 1 + 1, j, none⟩ = false := P.zo
        have fq : ∀ j, w3.frozen? ⟨w.heap.size + 1 + 1 + 1 + 1, j, none⟩ = false := P.zq
        clear P
        go_upto_region 12 with fail
        refine nw _ fun R2 hR2 => ?_
        have HP4 : Hid (Dv w a3 a2 a1 a0 b1 b0 m1 m0 QQ R2) := by rw [hR2]; exact HP3.out.rest m1 m0
        clear hR2 HP3 c4 c5 ca3 ca2 ca1 ca0 cb1 cb0 zA zB zO zQ fo fq
        have P := HP4.out
        have c4 := P.out.2 4 _ rfl; have c5 := P.out.2 5 _ rfl
        have ca3 := P.a.2 0 _ rfl; have ca2 := P.a.2 1 _ rfl; have ca1 := P.a.2 2 _ rfl; have ca0 := P.a.2 3 _ rfl
        have cb1 := P.b.2 0 _ rfl; have cb0 := P.b.2 1 _ rfl
        have zA := P.a.1; have zB := P.b.1; have zO := P.out.1; have zQ := P.size
        have fo : ∀ j, R2.frozen? ⟨w.heap.size + 1 + 1 + 1, j, none⟩ = false := P.zo
        have fq : ∀ j, R2.frozen? ⟨w.heap.size + 1 + 1 + 1 + 1, j, none⟩ = false := P.zq
        have cq := P.q q hq4
        clear P
        go_region_with (fail)
        go_wp2_with fail
        go_roundg k
        case measure => omega
        case rel => exact ⟨by omega, rfl, by rw [HE.out.1, HE.out.2.1]; exact (HP4.out.quot HE.out.2.2.1 HE.out.2.2.2 hq4).step (Below.refl _ _).drew⟩
      · have HE := Lib.hid he
        clear HS he
        rw [hl] at HLess HSub
        go_wp2_with fail
        refine wp_region_late_drew (fun w' => w'.cell? ⟨w.heap.size + 1 + 1 + 1, 4, none⟩ = some (.int .u64 r1) ∧ w'.cell? ⟨w.heap.size + 1 + 1 + 1, 5, none⟩ = some (.int .u64 r0) ∧ w'.cell? ⟨w.heap.size, 0, none⟩ = some (.int .u64 a3) ∧ w'.cell? ⟨w.heap.size, 1, none⟩ = some (.int .u64 a2) ∧ w'.cell? ⟨w.heap.size, 2, none⟩ = some (.int .u64 a1) ∧ w'.cell? ⟨w.heap.size, 3, none⟩ = some (.int .u64 a0)) 19 kr ?_ (fun hHeld => ?_)
        · (try dsimp only); (first | (simp [*, go_sem]; done) | (simp [*, go_sem, World.cell?_alloc_past]; done))
        refine wpAnyK_take (i := 0) (oi := _) (v := ?_) ge kr kr kr kr kr (by exact fun _ _ _ h => h) (Or.inl ⟨by rfl, ?_⟩) hHeld ?_
        rotate_left 1
        · (intro w hSw; (try dsimp only at hSw); go_simp; try with_reducible rfl)
        try simp only [Act.put, List.setIfInBounds_toArray, List.set_cons_zero, List.set_cons_succ]
        refine wpAnyK_take (i := 1) (oi := _) (v := ?_) ge kr kr kr kr kr (by exact fun _ _ _ h => h) (Or.inl ⟨by rfl, ?_⟩) hHeld ?_
        rotate_left 1
        · (intro w hSw; (try dsimp only at hSw); go_simp; try with_reducible rfl)
        try simp only [Act.put, List.setIfInBounds_toArray, List.set_cons_zero, List.set_cons_succ]
        refine wpAnyK_take (i := 2) (oi := _) (v := ?_) ge kr kr kr kr kr (by exact fun _ _ _ h => h) (Or.inl ⟨by rfl, ?_⟩) hHeld ?_
        rotate_left 1
        · (intro w hSw; (try dsimp only at hSw); go_simp; try with_reducible rfl)
        try simp only [Act.put, List.setIfInBounds_toArray, List.set_cons_zero, List.set_cons_succ]
        refine wpAnyK_take (i := 3) (oi := _) (v := ?_) ge kr kr kr kr kr (by exact fun _ _ _ h => h) (Or.inl ⟨by rfl, ?_⟩) hHeld ?_
        rotate_left 1
        · (intro w hSw; (try dsimp only at hSw); go_simp; try with_reducible rfl)
        try simp only [Act.put, List.setIfInBounds_toArray, List.set_cons_zero, List.set_cons_succ]
        refine wpAnyK_take (i := 4) (oi := _) (v := ?_) ge kr kr kr kr kr (by exact fun _ _ _ h => h) (Or.inl ⟨by rfl, ?_⟩) hHeld ?_
        rotate_left 1
        · (intro w hSw; (try dsimp only at hSw); go_simp; try with_reducible rfl)
        try simp only [Act.put, List.setIfInBounds_toArray, List.set_cons_zero, List.set_cons_succ]
        refine wpAnyK_take (i := 5) (oi := _) (v := ?_) ge kr kr kr kr kr (by exact fun _ _ _ h => h) (Or.inl ⟨by rfl, ?_⟩) hHeld ?_
        rotate_left 1
        · (intro w hSw; (try dsimp only at hSw); go_simp; try with_reducible rfl)
        try simp only [Act.put, List.setIfInBounds_toArray, List.set_cons_zero, List.set_cons_succ]
        refine wpAnyK_take (i := 6) (oi := _) (v := ?_) ge kr kr kr kr kr (by exact fun _ _ _ h => h) (Or.inl ⟨by rfl, ?_⟩) hHeld ?_
        rotate_left 1
        · (intro w hSw; (try dsimp only at hSw); go_simp; try with_reducible rfl)
        try simp only [Act.put, List.setIfInBounds_toArray, List.set_cons_zero, List.set_cons_succ]
        refine wpAnyK_take (i := 7) (oi := _) (v := ?_) ge kr kr kr kr kr (by exact fun _ _ _ h => h) (Or.inl ⟨by rfl, ?_⟩) hHeld ?_
        rotate_left 1
        · (intro w hSw; (try dsimp only at hSw); go_simp; try with_reducible rfl)
        try simp only [Act.put, List.setIfInBounds_toArray, List.set_cons_zero, List.set_cons_succ]
        refine wpAnyK_take (i := 8) (oi := _) (v := ?_) ge kr kr kr kr kr (by exact fun _ _ _ h => h) (Or.inl ⟨by rfl, ?_⟩) hHeld ?_
        rotate_left 1
        · (intro w hSw; (try dsimp only at hSw); go_simp; try with_reducible rfl)
        try simp only [Act.put, List.setIfInBounds_toArray, List.set_cons_zero, List.set_cons_succ]
        refine wpAnyK_take (i := 9) (oi := _) (v := ?_) ge kr kr kr kr kr (by exact fun _ _ _ h => h) (Or.inl ⟨by rfl, ?_⟩) hHeld ?_
        rotate_left 1
        · (intro w hSw; (try dsimp only at hSw); go_simp; try with_reducible rfl)
        try simp only [Act.put, List.setIfInBounds_toArray, List.set_cons_zero, List.set_cons_succ]
        refine wpAnyK_take (i := 10) (oi := _) (v := ?_) ge kr kr kr kr kr (by exact fun _ _ _ h => h) (Or.inl ⟨by rfl, ?_⟩) hHeld ?_
        rotate_left 1
        · (intro w hSw; (try dsimp only at hSw); go_simp; try with_reducible rfl)
        try simp only [Act.put, List.setIfInBounds_toArray, List.set_cons_zero, List.set_cons_succ]
        refine wpAnyK_take (i := 11) (oi := _) (v := ?_) ge kr kr kr kr kr (by exact fun _ _ _ h => h) (Or.inl ⟨by rfl, ?_⟩) hHeld ?_
        rotate_left 1
        · (intro w hSw; (try dsimp only at hSw); go_simp; try with_reducible rfl)
        try simp only [Act.put, List.setIfInBounds_toArray, List.set_cons_zero, List.set_cons_succ]
        refine wpAnyK_take (i := 12) (oi := _) (v := ?_) ge kr kr kr kr kr (by exact fun _ _ _ h => h) (Or.inl ⟨by rfl, ?_⟩) hHeld ?_
        rotate_left 1
        · (intro w hSw; (try dsimp only at hSw); go_simp; try with_reducible rfl)
        try simp only [Act.put, List.setIfInBounds_toArray, List.set_cons_zero, List.set_cons_succ]
        refine wpAnyK_take (i := 13) (oi := _) (v := ?_) ge kr kr kr kr kr (by exact fun _ _ _ h => h) (Or.inl ⟨by rfl, ?_⟩) hHeld ?_
        rotate_left 1
        · (intro w hSw; (try dsimp only at hSw); go_simp; try with_reducible rfl)
        try simp only [Act.put, List.setIfInBounds_toArray, List.set_cons_zero, List.set_cons_succ]
        refine wpAnyK_take (i := 14) (oi := _) (v := ?_) ge kr kr kr kr kr (by exact fun _ _ _ h => h) (Or.inl ⟨by rfl, ?_⟩) hHeld ?_
        rotate_left 1
        · (intro w hSw; (try dsimp only at hSw); go_simp; try with_reducible rfl)
        try simp only [Act.put, List.setIfInBounds_toArray, List.set_cons_zero, List.set_cons_succ]
        refine wpAnyK_one (i := 15) (o := _) kr ge (fun K hK => ?_)
        go_simp
        (with_reducible refine (HBit.out _).mono ?_); rintro e w1 ⟨rfl, hb⟩; obtain ⟨hcl, hfr⟩ := bcell_drew hb; have HB1 : Hid (Below wr.heap.size wr w1) := bl_trans (Below.refl _ _).drew hb; have y0 : w.heap.size < w1.heap.size := (by have hz := hb.size; simp at hz; omega); have y3 : w.heap.size + 1 + 1 + 1 < w1.heap.size := (by have hz := hb.size; simp at hz; omega); clear hb
        try go_wp2_with fail
        refine hK.out _ _ (fun _ => ?_) (fun hHeldN => ?_)
        · (try dsimp only); (first | (simp [*, go_sem]; done) | (simp [*, go_sem, World.cell?_alloc_past]; done))
        replace hHeld := hHeldN kr
        clear hK K hHeldN
        try simp only [Act.put, List.setIfInBounds_toArray, List.set_cons_zero, List.set_cons_succ]
        refine wpAnyK_take (i := 16) (oi := _) (v := ?_) ge kr kr kr kr kr (by exact fun _ _ _ h => h) (Or.inl ⟨by rfl, ?_⟩) hHeld ?_
        rotate_left 1
        · (intro w hSw; (try dsimp only at hSw); go_simp; try with_reducible rfl)
        try simp only [Act.put, List.setIfInBounds_toArray, List.set_cons_zero, List.set_cons_succ]
        refine wpAnyK_take (i := 17) (oi := _) (v := ?_) ge kr kr kr kr kr (by exact fun _ _ _ h => h) (Or.inl ⟨by rfl, ?_⟩) hHeld ?_
        rotate_left 1
        · (intro w hSw; (try dsimp only at hSw); go_simp; try with_reducible rfl)
        try simp only [Act.put, List.setIfInBounds_toArray, List.set_cons_zero, List.set_cons_succ]
        refine wpAnyK_take (i := 18) (oi := _) (v := ?_) ge kr kr kr kr kr (by exact fun _ _ _ h => h) (Or.inl ⟨by rfl, ?_⟩) hHeld ?_
        rotate_left 1
        · (intro w hSw; (try dsimp only at hSw); go_simp; try with_reducible rfl)
        try simp only [Act.put, List.setIfInBounds_toArray, List.set_cons_zero, List.set_cons_succ]
        refine wpAnyK_one (i := 19) (o := _) kr ge (fun K hK => ?_)
        go_simp
        refine hK.out _ _ (fun h => absurd (Eq.trans (Eq.symm h) kr) Bool.false_ne_true) (fun _ => ?_)
        clear hK K
        try simp only [Act.put, List.setIfInBounds_toArray, List.set_cons_zero, List.set_cons_succ]
        refine wpAnyK_done kr ?_ _
        clear hHeld
        clear hcl hfr y0 y3 c4 c5 ca3 ca2 ca1 ca0 cb1 cb0 zA zB zO zQ fo fq
        have HP1 := Lib.hid ((HP.out.step HB1.out).rest n1 n0)
        clear HP HB1
        go_upto_region 10 with fail
        refine nw _ fun R hR => ?_
        rw [← hR] at HP1
        clear hR
        have P := HP1.out
        have c4 := P.out.2 4 _ rfl; have c5 := P.out.2 5 _ rfl
        have ca3 := P.a.2 0 _ rfl; have ca2 := P.a.2 1 _ rfl; have ca1 := P.a.2 2 _ rfl; have ca0 := P.a.2 3 _ rfl
        have cb1 := P.b.2 0 _ rfl; have cb0 := P.b.2 1 _ rfl
        have zA := P.a.1; have zB := P.b.1; have zO := P.out.1; have zQ := P.size
        have fo : ∀ j, R.frozen? ⟨w.heap.size + 1 + 1 + 1, j, none⟩ = false := P.zo
        have fq : ∀ j, R.frozen? ⟨w.heap.size + 1 + 1 + 1 + 1, j, none⟩ = false := P.zq
        clear P
        go_wp2_with fail
        (with_reducible refine (HLess.out _).mono ?_); rintro e w2 ⟨rfl, hb⟩
        have HP2 := Lib.hid (HP1.out.step hb)
        clear hb HP1 c4 c5 ca3 ca2 ca1 ca0 cb1 cb0 zA zB zO zQ fo fq
        have P := HP2.out
        have c4 := P.out.2 4 _ rfl; have c5 := P.out.2 5 _ rfl
        have ca3 := P.a.2 0 _ rfl; have ca2 := P.a.2 1 _ rfl; have ca1 := P.a.2 2 _ rfl; have ca0 := P.a.2 3 _ rfl
        have cb1 := P.b.2 0 _ rfl; have cb0 := P.b.2 1 _ rfl
        have zA := P.a.1; have zB := P.b.1; have zO := P.out.1; have zQ := P.size
        have fo : ∀ j, w2.frozen? ⟨w.heap.size + 1 + 1 + 1, j, none⟩ = false := P.zo
        have fq : ∀ j, w2.frozen? ⟨w.heap.size + 1 + 1 + 1 + 1, j, none⟩ = false := P.zq
        clear P
        go_wp2_with fail
        (with_reducible refine (HSub.out _).mono ?_); rintro e w3 ⟨rfl, hb⟩
        have HP3 := Lib.hid (HP2.out.step hb)
        clear hb HP2 c4 c5 ca3 ca2 ca1 ca0 cb1 cb0 zA zB zO zQ fo fq
        have P := HP3.out
        have c4 := P.out.2 4 _ rfl; have c5 := P.out.2 5 _ rfl
        have ca3 := P.a.2 0 _ rfl; have ca2 := P.a.2 1 _ rfl; have ca1 := P.a.2 2 _ rfl; have ca0 := P.a.2 3 _ rfl
        have cb1 := P.b.2 0 _ rfl; have cb0 := P.b.2 1 _ rfl
        have zA := P.a.1; have zB := P.b.1; have zO := P.out.1; have zQ := P.size
        have fo : ∀ j, w3.frozen? ⟨w.heap.size + 1 + 1 + 1, j, none⟩ = false := P.zo
        have fq : ∀ j, w3.frozen? ⟨w.heap.size + 1 + 1 + 1 + 1, j, none⟩ = false := P.zq
        clear P
        go_upto_region 12 with fail
        refine nw _ fun R2 hR2 => ?_
        have HP4 : Hid (Dv w a3 a2 a1 a0 b1 b0 m1 m0 QQ R2) := by rw [hR2]; exact HP3.out.rest m1 m0
        clear hR2 HP3 c4 c5 ca3 ca2 ca1 ca0 cb1 cb0 zA zB zO zQ fo fq
        have P := HP4.out
        have c4 := P.out.2 4 _ rfl; have c5 := P.out.2 5 _ rfl
        have ca3 := P.a.2 0 _ rfl; have ca2 := P.a.2 1 _ rfl; have ca1 := P.a.2 2 _ rfl; have ca0 := P.a.2 3 _ rfl
        have cb1 := P.b.2 0 _ rfl; have cb0 := P.b.2 1 _ rfl
        have zA := P.a.1; have zB := P.b.1; have zO := P.out.1; have zQ := P.size
        have fo : ∀ j, R2.frozen? ⟨w.heap.size + 1 + 1 + 1, j, none⟩ = false := P.zo
        have fq : ∀ j, R2.frozen? ⟨w.heap.size + 1 + 1 + 1 + 1, j, none⟩ = false := P.zq
        have cq := P.q q hq4
        clear P
        go_region_with (fail)
        go_wp2_with fail
        go_roundg k
        case measure => omega
        case rel => exact ⟨by omega, rfl, by rw [HE.out.1, HE.out.2.1]; exact (HP4.out.quot HE.out.2.2.1 HE.out.2.2.2 hq4).step (Below.refl _ _).drew⟩
theorem rdiv_any (a3 a2 a1 a0 b1 b0 : Int) (h3 : Wd a3) (h2 : Wd a2) (h1 : Wd a1) (h0 : Wd a0) (k1 : Wd b1) (k0 : Wd b0) (hb : v2 b1 b0 ≠ 0) (w : World) :
    Calls Try.prog 34 #[.agg #[.int .u64 a3, .int .u64 a2, .int .u64 a1, .int .u64 a0], .agg #[.int .u64 b1, .int .u64 b0]] w fun e w' =>
      e = .returned (.agg #[.int .u64 (wd (v4 a3 a2 a1 a0 / v2 b1 b0) 3), .int .u64 (wd (v4 a3 a2 a1 a0 / v2 b1 b0) 2), .int .u64 (wd (v4 a3 a2 a1 a0 / v2 b1 b0) 1), .int .u64 (wd (v4 a3 a2 a1 a0 / v2 b1 b0) 0), .int .u64 (wd (v4 a3 a2 a1 a0 % v2 b1 b0) 1), .int .u64 (wd (v4 a3 a2 a1 a0 % v2 b1 b0) 0), .bool true]) ∧ Below w.heap.size w w' := by
  have hA := v4_lt h3 h2 h1 h0
  rw [show (115792089237316195423570985008687907853269984665640564039457584007913129639936 : Nat) = 2 ^ 256 by decide] at hA
  refine rdiv_core a3 a2 a1 a0 b1 b0 (v4 a3 a2 a1 a0) (v2 b1 b0) (fun W => ?_) hb (v2_lt k1 k0) hA (fun i hi W => rbit_any a3 a2 a1 a0 h3 h2 h1 h0 i hi W) (fun n W => ?_) (fun n W => ?_) w
  · rw [eq_two, decide_eq_false]
    rintro ⟨rfl, rfl⟩
    exact hb rfl
  · have := less_any _ _ b1 b0 (wd_wd n 1) (wd_wd n 0) k1 k0 W
    rw [v2_wd] at this
    exact this
  · have := subTwo_any _ _ b1 b0 (wd_wd n 1) (wd_wd n 0) k1 k0 W
    rw [v2_wd] at this
    exact this
end Go.Proofs.Ytmmlekgojblopaa
