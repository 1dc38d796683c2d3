/- LimbAdds: the sum, and what is left, of any two numbers, and what is lost, is the document's. For any two numbers of two words, without conditions. -/
import Derived.Test.YtafpmafcekcpdaaRefSum
import Derived.Test.YtafpmafcekcpdaaAwake
namespace Go.Proofs.Ytafpmafcekcpdaa
open Go.ChangeShapes Go.WideShapes Go.ChangeAt Go.RowKit Go.Joins

set_option maxRecDepth 20000 in
set_option maxHeartbeats 60000000 in
theorem limbAdds_core (a1 a0 b1 b0 s1 s0 d1 d0 : Int) (c k : Bool)  (w : World)
    (C1 : ∀ W, Calls Try.prog 12 #[.agg #[.int .u64 a1, .int .u64 a0], .agg #[.int .u64 b1, .int .u64 b0]] W fun e w' => e = .returned (.tuple #[.agg #[.int .u64 s1, .int .u64 s0], .bool c]) ∧ Below W.heap.size W w')
    (C2 : ∀ W, Calls Try.prog 13 #[.agg #[.int .u64 a1, .int .u64 a0], .agg #[.int .u64 b1, .int .u64 b0]] W fun e w' => e = .returned (.tuple #[.agg #[.int .u64 d1, .int .u64 d0], .bool k]) ∧ Below W.heap.size W w')
    (C3 : ∀ W, Calls Try.prog 14 #[.agg #[.int .u64 a1, .int .u64 a0], .agg #[.int .u64 b1, .int .u64 b0]] W fun e w' => e = .returned (.agg #[.int .u64 s1, .int .u64 s0, .bool c]) ∧ Below W.heap.size W w')
    (C4 : ∀ W, Calls Try.prog 15 #[.agg #[.int .u64 a1, .int .u64 a0], .agg #[.int .u64 b1, .int .u64 b0]] W fun e w' => e = .returned (.agg #[.int .u64 d1, .int .u64 d0, .bool k]) ∧ Below W.heap.size W w')
    (C5 : ∀ W, Calls Try.prog 16 #[] W fun e w' => e = .returned (.bool true) ∧ Below W.heap.size W w') :
    Calls Try.prog 3 #[.agg #[.int .u64 a1, .int .u64 a0], .agg #[.int .u64 b1, .int .u64 b0]] w fun e w' => e = .returned (.bool true) ∧ Below w.heap.size w w' := by
  have K1 := Lib.hid C1; have K2 := Lib.hid C2; have K3 := Lib.hid C3; have K4 := Lib.hid C4; have K5 := Lib.hid C5
  clear C1 C2 C3 C4 C5
  have q1 := eq_two_true s1 s0; have q2 := eq_two_true d1 d0
  go_enter Try.func3, Try.ntmps3
  go_wp2_with fail
  (with_reducible refine (K1.out _).mono ?_); rintro e w1 ⟨rfl, hb⟩; obtain ⟨hclw1, hfrw1⟩ := bcell hb; have zw1_a : w.heap.size < w1.heap.size := (by first | omega | (have hz := hb.size; (try simp at hz); omega)); have yw1_a : w.heap.size < w1.heap.size + 1 := (by omega); have yyw1_a : w.heap.size < w1.heap.size + 1 + 1 := (by omega); have zw1_b : w.heap.size + 1 < w1.heap.size := (by first | omega | (have hz := hb.size; (try simp at hz); omega)); have yw1_b : w.heap.size + 1 < w1.heap.size + 1 := (by omega); have yyw1_b : w.heap.size + 1 < w1.heap.size + 1 + 1 := (by omega); have sxw1_0 : w.heap.size + 1 + 1 ≤ w1.heap.size := (by first | omega | (have hz := hb.size; (try simp at hz); omega)); have HBw1 : Hid (Below w.heap.size w w1) := (bl_trans (by repeat (first | with_reducible exact Below.refl _ _ | with_reducible exact Hid.out (by assumption) | with_reducible refine Below.setCell ?_ (by first | (simp; done) | omega | (simp <;> omega)) _ | with_reducible refine bl_al ?_ _ | with_reducible apply Below.drew)) hb); clear hb
  go_wp2_with fail
  (with_reducible refine (K2.out _).mono ?_); rintro e w2 ⟨rfl, hb⟩; obtain ⟨hclw2, hfrw2⟩ := bcell hb; have zw2_a : w.heap.size < w2.heap.size := (by first | omega | (have hz := hb.size; (try simp at hz); omega)); have yw2_a : w.heap.size < w2.heap.size + 1 := (by omega); have yyw2_a : w.heap.size < w2.heap.size + 1 + 1 := (by omega); have zw2_b : w.heap.size + 1 < w2.heap.size := (by first | omega | (have hz := hb.size; (try simp at hz); omega)); have yw2_b : w.heap.size + 1 < w2.heap.size + 1 := (by omega); have yyw2_b : w.heap.size + 1 < w2.heap.size + 1 + 1 := (by omega); have zw2_s : w1.heap.size < w2.heap.size := (by first | omega | (have hz := hb.size; (try simp at hz); omega)); have yw2_s : w1.heap.size < w2.heap.size + 1 := (by omega); have yyw2_s : w1.heap.size < w2.heap.size + 1 + 1 := (by omega); have sxw2_0 : w1.heap.size + 1 ≤ w2.heap.size := (by first | omega | (have hz := hb.size; (try simp at hz); omega)); have HBw2 : Hid (Below w.heap.size w w2) := (bl_trans (by repeat (first | with_reducible exact Below.refl _ _ | with_reducible exact Hid.out (by assumption) | with_reducible refine Below.setCell ?_ (by first | (simp; done) | omega | (simp <;> omega)) _ | with_reducible refine bl_al ?_ _ | with_reducible apply Below.drew)) hb); clear hb
  go_upto_region 3 with fail
  refine name_world (P := fun W => Code.wp _ _ _ _ W) _ (fun R1 hR1 => ?_)
  have zR1_a : w.heap.size < R1.heap.size := by rw [hR1]; first | omega | (simp <;> omega)
  have yR1_a : w.heap.size < R1.heap.size + 1 := by omega
  have yyR1_a : w.heap.size < R1.heap.size + 1 + 1 := by omega
  have cR1_a_0 : R1.cell? ⟨w.heap.size, 0, none⟩ = some (.int .u64 a1) := by rw [hR1]; simp [go_sem, *]
  have cR1_a_1 : R1.cell? ⟨w.heap.size, 1, none⟩ = some (.int .u64 a0) := by rw [hR1]; simp [go_sem, *]
  have zR1_b : w.heap.size + 1 < R1.heap.size := by rw [hR1]; first | omega | (simp <;> omega)
  have yR1_b : w.heap.size + 1 < R1.heap.size + 1 := by omega
  have yyR1_b : w.heap.size + 1 < R1.heap.size + 1 + 1 := by omega
  have cR1_b_0 : R1.cell? ⟨w.heap.size + 1, 0, none⟩ = some (.int .u64 b1) := by rw [hR1]; simp [go_sem, *]
  have cR1_b_1 : R1.cell? ⟨w.heap.size + 1, 1, none⟩ = some (.int .u64 b0) := by rw [hR1]; simp [go_sem, *]
  have zR1_s : w1.heap.size < R1.heap.size := by rw [hR1]; first | omega | (simp <;> omega)
  have yR1_s : w1.heap.size < R1.heap.size + 1 := by omega
  have yyR1_s : w1.heap.size < R1.heap.size + 1 + 1 := by omega
  have cR1_s_0 : R1.cell? ⟨w1.heap.size, 0, none⟩ = some (.int .u64 s1) := by rw [hR1]; simp [go_sem, *]
  have cR1_s_1 : R1.cell? ⟨w1.heap.size, 1, none⟩ = some (.int .u64 s0) := by rw [hR1]; simp [go_sem, *]
  have zR1_d : w2.heap.size < R1.heap.size := by rw [hR1]; first | omega | (simp <;> omega)
  have yR1_d : w2.heap.size < R1.heap.size + 1 := by omega
  have yyR1_d : w2.heap.size < R1.heap.size + 1 + 1 := by omega
  have cR1_d_0 : R1.cell? ⟨w2.heap.size, 0, none⟩ = some (.int .u64 d1) := by rw [hR1]; simp [go_sem, *]
  have cR1_d_1 : R1.cell? ⟨w2.heap.size, 1, none⟩ = some (.int .u64 d0) := by rw [hR1]; simp [go_sem, *]
  have HBR1 : Hid (Below w.heap.size w R1) := by rw [hR1]; show Below _ _ _; exact (by repeat (first | with_reducible exact Below.refl _ _ | with_reducible exact Hid.out (by assumption) | with_reducible refine Below.setCell ?_ (by first | (simp; done) | omega | (simp <;> omega)) _ | with_reducible refine bl_al ?_ _ | with_reducible apply Below.drew))
  clear hR1
  clear zw1_a yw1_a yyw1_a zw1_b yw1_b yyw1_b sxw1_0 hclw1 hfrw1 HBw1 zw2_a yw2_a yyw2_a zw2_b yw2_b yyw2_b zw2_s yw2_s yyw2_s sxw2_0 hclw2 hfrw2 HBw2
  go_cut [9, 10] (fun slot0 slot1 X1 => ∃ bX1x bX1y : Nat, slot0 = .pointer (some ⟨bX1x, 0, none⟩) ∧ slot1 = .pointer (some ⟨bX1y, 0, none⟩) ∧ R1.heap.size ≤ bX1x ∧ R1.heap.size ≤ bX1y ∧ bX1y ≠ bX1x ∧ Below R1.heap.size R1 X1 ∧ Has (bX1x) [.int .u64 s1, .int .u64 s0, .bool c] X1 ∧ Has (bX1y) [.int .u64 d1, .int .u64 d0, .bool k] X1)
  case first =>
    clear HBR1
    have ltt : ∀ n : Nat, n < n + 1 + 1 := fun n => by omega
    have lttt : ∀ n : Nat, n + 1 < n + 1 + 1 := fun n => by omega
    go_region_held3 (fun w' => w'.cell? ⟨w.heap.size, 0, none⟩ = some (.int .u64 a1) ∧ w'.cell? ⟨w.heap.size, 1, none⟩ = some (.int .u64 a0) ∧ w'.cell? ⟨w.heap.size + 1, 0, none⟩ = some (.int .u64 b1) ∧ w'.cell? ⟨w.heap.size + 1, 1, none⟩ = some (.int .u64 b0)) (simp [*, go_sem, World.cell?_alloc_past])
      (first
        | (go_at_call 14; (with_reducible refine (K3.out _).mono ?_); rintro e w3 ⟨rfl, hb⟩; (first | (with_reducible (obtain ⟨hclw3, hfrw3⟩ := bcell_drew hb)) | (obtain ⟨hclw3, hfrw3⟩ := bcell hb)); have zw3_a : w.heap.size < w3.heap.size := (by first | omega | (have hz := hb.size; (try simp at hz); omega)); have yw3_a : w.heap.size < w3.heap.size + 1 := (by omega); have yyw3_a : w.heap.size < w3.heap.size + 1 + 1 := (by omega); have zw3_b : w.heap.size + 1 < w3.heap.size := (by first | omega | (have hz := hb.size; (try simp at hz); omega)); have yw3_b : w.heap.size + 1 < w3.heap.size + 1 := (by omega); have yyw3_b : w.heap.size + 1 < w3.heap.size + 1 + 1 := (by omega); (try have sw3_0 : R1.heap.size < w3.heap.size := (by first | omega | (have hz := hb.size; (try simp at hz); omega))); (try have syw3_0 : R1.heap.size < w3.heap.size + 1 := (by omega)); (try have stw3_0 : R1.heap.size + 1 < w3.heap.size := (by first | omega | (have hz := hb.size; (try simp at hz); omega))); have sxw3_0 : R1.heap.size ≤ w3.heap.size := (by first | omega | (have hz := hb.size; (try simp at hz); omega)); have HBw3 : Hid (Below R1.heap.size R1 w3) := (bl_trans (by repeat (first | with_reducible exact Below.refl _ _ | with_reducible exact Hid.out (by assumption) | with_reducible refine Below.setCell ?_ (by first | (simp; done) | omega | (simp <;> omega)) _ | with_reducible refine bl_al ?_ _ | with_reducible apply Below.drew)) hb); clear hb; clear K3)
        | (go_at_call 15; (with_reducible refine (K4.out _).mono ?_); rintro e w4 ⟨rfl, hb⟩; obtain ⟨hclw4, hfrw4⟩ := bcell hb; have zw4_a : w.heap.size < w4.heap.size := (by first | omega | (have hz := hb.size; (try simp at hz); omega)); have yw4_a : w.heap.size < w4.heap.size + 1 := (by omega); have yyw4_a : w.heap.size < w4.heap.size + 1 + 1 := (by omega); have zw4_b : w.heap.size + 1 < w4.heap.size := (by first | omega | (have hz := hb.size; (try simp at hz); omega)); have yw4_b : w.heap.size + 1 < w4.heap.size + 1 := (by omega); have yyw4_b : w.heap.size + 1 < w4.heap.size + 1 + 1 := (by omega); (try have sw4_0 : R1.heap.size < w4.heap.size := (by first | omega | (have hz := hb.size; (try simp at hz); omega))); (try have syw4_0 : R1.heap.size < w4.heap.size + 1 := (by omega)); (try have stw4_0 : R1.heap.size + 1 < w4.heap.size := (by first | omega | (have hz := hb.size; (try simp at hz); omega))); have sxw4_0 : R1.heap.size ≤ w4.heap.size := (by first | omega | (have hz := hb.size; (try simp at hz); omega)); (try have sw4_w3 : w3.heap.size < w4.heap.size := (by first | omega | (have hz := hb.size; (try simp at hz); omega))); (try have syw4_w3 : w3.heap.size < w4.heap.size + 1 := (by omega)); (try have stw4_w3 : w3.heap.size + 1 < w4.heap.size := (by first | omega | (have hz := hb.size; (try simp at hz); omega))); have sxw4_w3 : w3.heap.size ≤ w4.heap.size := (by first | omega | (have hz := hb.size; (try simp at hz); omega)); have HBw4 : Hid (Below R1.heap.size R1 w4) := (bl_trans (by repeat (first | with_reducible exact Below.refl _ _ | with_reducible exact Hid.out (by assumption) | with_reducible refine Below.setCell ?_ (by first | (simp; done) | omega | (simp <;> omega)) _ | with_reducible refine bl_al ?_ _ | with_reducible apply Below.drew)) hb); clear hb; clear K4))
    all_goals (rename_i hHeld; clear hHeld; go_wp2_with fail; go_meet; exact ⟨_, _, rfl, rfl, (by first | omega | (simp <;> omega)), (by first | omega | (simp <;> omega)), (by first | omega | (simp <;> omega)), (by repeat (first | with_reducible exact Below.refl _ _ | with_reducible exact Hid.out (by assumption) | with_reducible refine Below.setCell ?_ (by first | (simp; done) | omega | (simp <;> omega)) _ | with_reducible refine bl_al ?_ _ | with_reducible apply Below.drew)), Has.mk3 (by first | (simp <;> omega) | omega) (by simp [go_sem, *]) (by simp [go_sem, *]) (by simp [go_sem, *]), Has.mk3 (by first | (simp <;> omega) | omega) (by simp [go_sem, *]) (by simp [go_sem, *]) (by simp [go_sem, *])⟩)
  case rest =>
  obtain ⟨X1, hX1⟩ : ∃ X, X = wc := ⟨wc, rfl⟩
  subst hX1
  obtain ⟨bX1x, bX1y, rfl, rfl, m_bX1x, m_bX1y, n_bX1y_bX1x, hX, g_x, g_y⟩ := hcut
  have zX1_a : w.heap.size < X1.heap.size := Nat.lt_of_lt_of_le zR1_a hX.size
  have cX1_a_0 : X1.cell? ⟨w.heap.size, 0, none⟩ = some (.int .u64 a1) := by rw [(bcell hX).1 _ _ zR1_a]; exact cR1_a_0
  have cX1_a_1 : X1.cell? ⟨w.heap.size, 1, none⟩ = some (.int .u64 a0) := by rw [(bcell hX).1 _ _ zR1_a]; exact cR1_a_1
  have zX1_b : w.heap.size + 1 < X1.heap.size := Nat.lt_of_lt_of_le zR1_b hX.size
  have cX1_b_0 : X1.cell? ⟨w.heap.size + 1, 0, none⟩ = some (.int .u64 b1) := by rw [(bcell hX).1 _ _ zR1_b]; exact cR1_b_0
  have cX1_b_1 : X1.cell? ⟨w.heap.size + 1, 1, none⟩ = some (.int .u64 b0) := by rw [(bcell hX).1 _ _ zR1_b]; exact cR1_b_1
  have zX1_s : w1.heap.size < X1.heap.size := Nat.lt_of_lt_of_le zR1_s hX.size
  have cX1_s_0 : X1.cell? ⟨w1.heap.size, 0, none⟩ = some (.int .u64 s1) := by rw [(bcell hX).1 _ _ zR1_s]; exact cR1_s_0
  have cX1_s_1 : X1.cell? ⟨w1.heap.size, 1, none⟩ = some (.int .u64 s0) := by rw [(bcell hX).1 _ _ zR1_s]; exact cR1_s_1
  have zX1_d : w2.heap.size < X1.heap.size := Nat.lt_of_lt_of_le zR1_d hX.size
  have cX1_d_0 : X1.cell? ⟨w2.heap.size, 0, none⟩ = some (.int .u64 d1) := by rw [(bcell hX).1 _ _ zR1_d]; exact cR1_d_0
  have cX1_d_1 : X1.cell? ⟨w2.heap.size, 1, none⟩ = some (.int .u64 d0) := by rw [(bcell hX).1 _ _ zR1_d]; exact cR1_d_1
  have zX1_x := g_x.1; have cX1_x_0 := g_x.2 0 _ rfl; have cX1_x_1 := g_x.2 1 _ rfl; have cX1_x_2 := g_x.2 2 _ rfl; clear g_x
  have zX1_y := g_y.1; have cX1_y_0 := g_y.2 0 _ rfl; have cX1_y_1 := g_y.2 1 _ rfl; have cX1_y_2 := g_y.2 2 _ rfl; clear g_y
  have HBX1 : Hid (Below w.heap.size w X1) := bl_trans HBR1.out hX
  clear hX
  clear zR1_a yR1_a yyR1_a cR1_a_0 cR1_a_1 zR1_b yR1_b yyR1_b cR1_b_0 cR1_b_1 zR1_s yR1_s yyR1_s cR1_s_0 cR1_s_1 zR1_d yR1_d yyR1_d cR1_d_0 cR1_d_1 HBR1 m_bX1x m_bX1y n_bX1y_bX1x
  go_wp2_with fail
  (with_reducible refine (K5.out _).mono ?_); rintro e w5 ⟨rfl, hb⟩; obtain ⟨hclw5, hfrw5⟩ := bcell hb; have zw5_a : w.heap.size < w5.heap.size := (by first | omega | (have hz := hb.size; (try simp at hz); omega)); have yw5_a : w.heap.size < w5.heap.size + 1 := (by omega); have yyw5_a : w.heap.size < w5.heap.size + 1 + 1 := (by omega); have zw5_b : w.heap.size + 1 < w5.heap.size := (by first | omega | (have hz := hb.size; (try simp at hz); omega)); have yw5_b : w.heap.size + 1 < w5.heap.size + 1 := (by omega); have yyw5_b : w.heap.size + 1 < w5.heap.size + 1 + 1 := (by omega); have zw5_s : w1.heap.size < w5.heap.size := (by first | omega | (have hz := hb.size; (try simp at hz); omega)); have yw5_s : w1.heap.size < w5.heap.size + 1 := (by omega); have yyw5_s : w1.heap.size < w5.heap.size + 1 + 1 := (by omega); have zw5_d : w2.heap.size < w5.heap.size := (by first | omega | (have hz := hb.size; (try simp at hz); omega)); have yw5_d : w2.heap.size < w5.heap.size + 1 := (by omega); have yyw5_d : w2.heap.size < w5.heap.size + 1 + 1 := (by omega); have zw5_x : bX1x < w5.heap.size := (by first | omega | (have hz := hb.size; (try simp at hz); omega)); have yw5_x : bX1x < w5.heap.size + 1 := (by omega); have yyw5_x : bX1x < w5.heap.size + 1 + 1 := (by omega); have zw5_y : bX1y < w5.heap.size := (by first | omega | (have hz := hb.size; (try simp at hz); omega)); have yw5_y : bX1y < w5.heap.size + 1 := (by omega); have yyw5_y : bX1y < w5.heap.size + 1 + 1 := (by omega); have sxw5_0 : X1.heap.size ≤ w5.heap.size := (by first | omega | (have hz := hb.size; (try simp at hz); omega)); have HBw5 : Hid (Below w.heap.size w w5) := (bl_trans (by repeat (first | with_reducible exact Below.refl _ _ | with_reducible exact Hid.out (by assumption) | with_reducible refine Below.setCell ?_ (by first | (simp; done) | omega | (simp <;> omega)) _ | with_reducible refine bl_al ?_ _ | with_reducible apply Below.drew)) hb); clear hb
  go_wp2_with fail
  go_returns
  exact ⟨rfl, by repeat (first | with_reducible exact Below.refl _ _ | with_reducible exact Hid.out (by assumption) | with_reducible refine Below.setCell ?_ (by first | (simp; done) | omega | (simp <;> omega)) _ | with_reducible refine bl_al ?_ _ | with_reducible apply Below.drew)⟩
theorem limbAdds_walk (a1 a0 b1 b0 : Int) (ha1 : Wd a1) (ha0 : Wd a0) (hb1 : Wd b1) (hb0 : Wd b0) (w : World) :
    Calls Try.prog 3 #[.agg #[.int .u64 a1, .int .u64 a0], .agg #[.int .u64 b1, .int .u64 b0]] w fun e w' => e = .returned (.bool true) ∧ Below w.heap.size w w' :=
  limbAdds_core _ _ _ _ _ _ _ _ _ _ w (add_any a1 a0 b1 b0 ha1 ha0 hb1 hb0) (sub_any a1 a0 b1 b0 ha1 ha0 hb1 hb0) (addTwo_any a1 a0 b1 b0 ha1 ha0 hb1 hb0) (subTwo_any a1 a0 b1 b0 ha1 ha0 hb1 hb0) awake_true

set_option maxRecDepth 100000 in
theorem limbAdds_lifted (os : Os) (started : os.Started) (H : Type) (enc : TypeId × Value → H) :
    ReturnsInHanded {} Try.checked os 3 .any (Rows.limbAddsSpec.pre6 enc Try.prog Try.f3 Rows.limbAddsRow.domain false) (Rows.limbAddsSpec.post enc Try.prog Try.f3 false true false false) := by
  refine returnsInHanded_of_change (C := Try.checked) Try.own started (by kernel_rfl) Try.func3
    (ChangeSpec.witness6 (enc := enc) (C := Try.checked) false ⟨#[], #[.agg #[.int .u64 0, .int .u64 0], .agg #[.int .u64 0, .int .u64 0]], []⟩ 8 (by kernel_rfl) (by kernel_rfl) (by kernel_rfl) (by kernel_rfl)) ?_
  intro W base args ds gs before hval0 hW hcnd _
  have hval : ∀ (j : Nat) t v, Try.f3.params[j]? = some t → args[j]? = some v → Value.okWide Try.prog W .any base t v := hval0
  have hW' := hW
  obtain ⟨p, q, hA0, hV, rfl, hfz, hnd⟩ := hW
  have hA : DataW.TrodAll enc Try.prog W 0 (fun _ => true) true Try.f3.params.toList args.toList ds p := hA0
  rw [Try.params3] at hA hval
  obtain ⟨v0, v1, d0, d1, p0, p1, rfl, rfl, rfl, h0, h1⟩ := trodAll_two hA
  obtain ⟨rfl, rfl⟩ := trodVars_none hV
  obtain ⟨a1, a0, rfl, rfl, rfl, k00, k01⟩ := open_two (hval 0 24 v0 rfl rfl) h0
  obtain ⟨b1, b0, rfl, rfl, rfl, k10, k11⟩ := open_two (hval 1 24 v1 rfl rfl) h1
  clear hA0 hval0
  simp only [List.append_nil] at hW'
  refine (limbAdds_walk a1 a0 b1 b0 k00 k01 k10 k11 W).mono fun e W' ⟨he, hb⟩ => ?_
  subst he
  exact ⟨_, rfl, _, _, _, [], [], [], hW', trodAll_mk1 (shut_bool Try.underlying4 _), trodAll_mk2 (shut_two k00 k01) (shut_two k10 k11), rfl, hb.frame _, fun h => by cases h⟩

theorem limbAdds_holds : Rows.LimbAddsSaid :=
  OpenClaim.holds_of_wide 3 Try.f3 rfl rfl rfl rfl rfl rfl rfl ⟨rfl, rfl, rfl, rfl, rfl⟩ rfl rfl rfl rfl rfl (by kernel_rfl) Try.func3 (by kernel_rfl)
    (of_decide_eq_true (by kernel_rfl)) (by unfold Func.isWrapper; first | (rw [if_pos (by decide +kernel)]; kernel_rfl) | (rw [if_neg (by decide +kernel)]; exact ⟨rfl, rfl⟩))
    (fun os started H enc _ => limbAdds_lifted os started H enc)
end Go.Proofs.Ytafpmafcekcpdaa
