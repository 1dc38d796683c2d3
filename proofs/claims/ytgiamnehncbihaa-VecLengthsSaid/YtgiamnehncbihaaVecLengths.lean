/- A length is at least each part's, at most both parts' together; of whole triples it is whole: at any commit whose code this is, for every four numbers. -/
import Derived.Test.YtgiamnehncbihaaVecLaw
import Derived.Test.YtgiamnehncbihaaVecNum
import Derived.Test.YtgiamnehncbihaaRefTwo
namespace Go.Proofs.Ytgiamnehncbihaa
open Go.RowKit
set_option maxRecDepth 20000 in
set_option maxHeartbeats 60000000 in
theorem vecLengths_core (m n x y a b a2 b2 d1 d2 t1 s1 xs ys xu yu ph pl qh ql lh ll kh kl Ph Pl Qh Ql Bh Bl Kh Kl Fh Fl Gh Gl : Int) (c1 c2 c3 : Bool) (m0 : 0 ≤ m) (m1 : m < 65536) (n0 : 0 ≤ n) (n1 : n < 65536) (hx : -2147483648 ≤ x ∧ x < 2147483648) (hy : -2147483648 ≤ y ∧ y < 2147483648) (ta : m.tmod 20000 = a) (tb : n.tmod 20000 = b) (e1 : IntKind.i64.wrap (a * a) = a2) (e2 : IntKind.i64.wrap (b * b) = b2) (e3 : IntKind.i64.wrap (a2 - b2) = d1) (e4 : IntKind.i64.wrap (-2 * a) = t1) (e6 : IntKind.i64.wrap (t1 * b) = d2) (e7 : IntKind.i64.wrap (a2 + b2) = s1) (ex : x / 256 = xs) (ey : y / 256 = ys) (ux : IntKind.u64.wrap x = xu) (uy : IntKind.u64.wrap y = yu) (w : World)
    (C1 : ∀ W, Calls Try.prog 39 #[.int .i64 d1] W fun e w' => e = .returned (.agg #[.int .i64 ph, .int .u64 pl]) ∧ Below W.heap.size W w')
    (C2 : ∀ W, Calls Try.prog 39 #[.int .i64 d2] W fun e w' => e = .returned (.agg #[.int .i64 qh, .int .u64 ql]) ∧ Below W.heap.size W w')
    (C3 : ∀ W, Calls Try.prog 27 #[.agg #[.int .i64 ph, .int .u64 pl, .int .i64 qh, .int .u64 ql]] W fun e w' => e = .returned (.tuple #[.agg #[.int .i64 lh, .int .u64 ll], .int .i64 0]) ∧ Below W.heap.size W w')
    (C4 : ∀ W, Calls Try.prog 27 #[.agg #[.int .i64 xs, .int .u64 yu, .int .i64 ys, .int .u64 xu]] W fun e w' => e = .returned (.tuple #[.agg #[.int .i64 kh, .int .u64 kl], .int .i64 0]) ∧ Below W.heap.size W w')
    (C5 : ∀ W, Calls Try.prog 40 #[.agg #[.int .i64 xs, .int .u64 yu]] W fun e w' => e = .returned (.agg #[.int .u64 Ph, .int .u64 Pl]) ∧ Below W.heap.size W w')
    (C6 : ∀ W, Calls Try.prog 40 #[.agg #[.int .i64 ys, .int .u64 xu]] W fun e w' => e = .returned (.agg #[.int .u64 Qh, .int .u64 Ql]) ∧ Below W.heap.size W w')
    (C7 : ∀ W, Calls Try.prog 41 #[.agg #[.int .u64 Ph, .int .u64 Pl], .agg #[.int .u64 Qh, .int .u64 Ql]] W fun e w' => e = .returned (.agg #[.int .u64 Bh, .int .u64 Bl, .bool c1]) ∧ Below W.heap.size W w')
    (C8 : ∀ W, Calls Try.prog 40 #[.agg #[.int .i64 kh, .int .u64 kl]] W fun e w' => e = .returned (.agg #[.int .u64 Kh, .int .u64 Kl]) ∧ Below W.heap.size W w')
    (C9 : ∀ W, Calls Try.prog 41 #[.agg #[.int .u64 Kh, .int .u64 Kl], .agg #[.int .u64 0, .int .u64 8589934592]] W fun e w' => e = .returned (.agg #[.int .u64 Fh, .int .u64 Fl, .bool c2]) ∧ Below W.heap.size W w')
    (C10 : ∀ W, Calls Try.prog 38 #[.int .i64 0] W fun e w' => e = .returned (.int .i64 0) ∧ Below W.heap.size W w')
    (C11 : ∀ W, Calls Try.prog 38 #[.int .i64 0] W fun e w' => e = .returned (.int .i64 0) ∧ Below W.heap.size W w')
    (C12 : ∀ W, Calls Try.prog 39 #[.int .i64 s1] W fun e w' => e = .returned (.agg #[.int .i64 lh, .int .u64 ll]) ∧ Below W.heap.size W w')
    (C13 : ∀ W, Calls Try.prog 42 #[.agg #[.int .u64 Fh, .int .u64 Fl], .agg #[.int .u64 Ph, .int .u64 Pl]] W fun e w' => e = .returned (.bool false) ∧ Below W.heap.size W w')
    (C14 : ∀ W, Calls Try.prog 42 #[.agg #[.int .u64 Fh, .int .u64 Fl], .agg #[.int .u64 Qh, .int .u64 Ql]] W fun e w' => e = .returned (.bool false) ∧ Below W.heap.size W w')
    (C15 : ∀ W, Calls Try.prog 41 #[.agg #[.int .u64 Bh, .int .u64 Bl], .agg #[.int .u64 0, .int .u64 8589934592]] W fun e w' => e = .returned (.agg #[.int .u64 Gh, .int .u64 Gl, .bool c3]) ∧ Below W.heap.size W w')
    (C16 : ∀ W, Calls Try.prog 40 #[.agg #[.int .i64 kh, .int .u64 kl]] W fun e w' => e = .returned (.agg #[.int .u64 Kh, .int .u64 Kl]) ∧ Below W.heap.size W w')
    (C17 : ∀ W, Calls Try.prog 42 #[.agg #[.int .u64 Gh, .int .u64 Gl], .agg #[.int .u64 Kh, .int .u64 Kl]] W fun e w' => e = .returned (.bool false) ∧ Below W.heap.size W w')
    (C18 : ∀ W, Calls Try.prog 21 #[] W fun e w' => e = .returned (.bool true) ∧ Below W.heap.size W w') :
    Calls Try.prog 10 #[.int .u16 m, .int .u16 n, .int .i32 x, .int .i32 y] w fun e w' => e = .returned (.bool true) ∧ Below w.heap.size w w' := by
  have K1 := Lib.hid C1; have K2 := Lib.hid C2; have K3 := Lib.hid C3; have K4 := Lib.hid C4; have K5 := Lib.hid C5; have K6 := Lib.hid C6; have K7 := Lib.hid C7; have K8 := Lib.hid C8; have K9 := Lib.hid C9; have K10 := Lib.hid C10; have K11 := Lib.hid C11; have K12 := Lib.hid C12; have K13 := Lib.hid C13; have K14 := Lib.hid C14; have K15 := Lib.hid C15; have K16 := Lib.hid C16; have K17 := Lib.hid C17; have K18 := Lib.hid C18
  clear C1 C2 C3 C4 C5 C6 C7 C8 C9 C10 C11 C12 C13 C14 C15 C16 C17 C18
  have wm : IntKind.i64.wrap m = m := IntWalk.i64_in _ (by omega)
  have wn : IntKind.i64.wrap n = n := IntWalk.i64_in _ (by omega)
  have wx : IntKind.i64.wrap x = x := IntWalk.i64_in _ (by omega)
  have wy : IntKind.i64.wrap y = y := IntWalk.i64_in _ (by omega)
  have wz : IntKind.i64.wrap 0 = 0 := by decide
  have fld := field_sum
  have el := eq_fix_true lh ll
  clear m0 m1 n0 n1 hx hy
  go_enter Try.func10, Try.ntmps10
  go_wp2_with fail
  (with_reducible refine (K1.out _).mono ?_); rintro e w1 ⟨rfl, hb⟩; obtain ⟨hclw1, hfrw1⟩ := bcell hb; have sxw1_0 : w.heap.size ≤ w1.heap.size := (by first | omega | (have hz := hb.size; (try simp at hz); omega)); have HBw1 : Hid (Below w.heap.size w w1) := (bl_trans (by repeat (first | with_reducible exact Below.refl _ _ | with_reducible exact Hid.out (by assumption) | with_reducible refine Below.setCell ?_ (by first | (simp; done) | omega | (simp <;> omega)) _ | with_reducible refine bl_al ?_ _ | with_reducible apply Below.drew)) hb); clear hb
  go_wp2_with fail
  (with_reducible refine (K2.out _).mono ?_); rintro e w2 ⟨rfl, hb⟩; obtain ⟨hclw2, hfrw2⟩ := bcell hb; have sxw2_0 : w1.heap.size ≤ w2.heap.size := (by first | omega | (have hz := hb.size; (try simp at hz); omega)); have HBw2 : Hid (Below w.heap.size w w2) := (bl_trans (by repeat (first | with_reducible exact Below.refl _ _ | with_reducible exact Hid.out (by assumption) | with_reducible refine Below.setCell ?_ (by first | (simp; done) | omega | (simp <;> omega)) _ | with_reducible refine bl_al ?_ _ | with_reducible apply Below.drew)) hb); clear hb
  go_wp2_with fail
  (with_reducible refine (K3.out _).mono ?_); rintro e w3 ⟨rfl, hb⟩; obtain ⟨hclw3, hfrw3⟩ := bcell hb; have zw3_v : w2.heap.size < w3.heap.size := (by first | omega | (have hz := hb.size; (try simp at hz); omega)); have yw3_v : w2.heap.size < w3.heap.size + 1 := (by omega); have yyw3_v : w2.heap.size < w3.heap.size + 1 + 1 := (by omega); have sxw3_0 : w2.heap.size + 1 ≤ w3.heap.size := (by first | omega | (have hz := hb.size; (try simp at hz); omega)); have HBw3 : Hid (Below w.heap.size w w3) := (bl_trans (by repeat (first | with_reducible exact Below.refl _ _ | with_reducible exact Hid.out (by assumption) | with_reducible refine Below.setCell ?_ (by first | (simp; done) | omega | (simp <;> omega)) _ | with_reducible refine bl_al ?_ _ | with_reducible apply Below.drew)) hb); clear hb
  go_wp2_with fail
  (with_reducible refine (K4.out _).mono ?_); rintro e w4 ⟨rfl, hb⟩; obtain ⟨hclw4, hfrw4⟩ := bcell hb; have zw4_v : w2.heap.size < w4.heap.size := (by first | omega | (have hz := hb.size; (try simp at hz); omega)); have yw4_v : w2.heap.size < w4.heap.size + 1 := (by omega); have yyw4_v : w2.heap.size < w4.heap.size + 1 + 1 := (by omega); have zw4_l : w3.heap.size < w4.heap.size := (by first | omega | (have hz := hb.size; (try simp at hz); omega)); have yw4_l : w3.heap.size < w4.heap.size + 1 := (by omega); have yyw4_l : w3.heap.size < w4.heap.size + 1 + 1 := (by omega); have zw4_w : w3.heap.size + 1 < w4.heap.size := (by first | omega | (have hz := hb.size; (try simp at hz); omega)); have yw4_w : w3.heap.size + 1 < w4.heap.size + 1 := (by omega); have yyw4_w : w3.heap.size + 1 < w4.heap.size + 1 + 1 := (by omega); have sxw4_0 : w3.heap.size + 1 + 1 ≤ w4.heap.size := (by first | omega | (have hz := hb.size; (try simp at hz); omega)); have HBw4 : Hid (Below w.heap.size w w4) := (bl_trans (by repeat (first | with_reducible exact Below.refl _ _ | with_reducible exact Hid.out (by assumption) | with_reducible refine Below.setCell ?_ (by first | (simp; done) | omega | (simp <;> omega)) _ | with_reducible refine bl_al ?_ _ | with_reducible apply Below.drew)) hb); clear hb
  go_upto_region 6 with fail
  refine name_world (P := fun W => Code.wp _ _ _ _ W) _ (fun R1 hR1 => ?_)
  have zR1_v : w2.heap.size < R1.heap.size := by rw [hR1]; first | omega | (simp <;> omega)
  have yR1_v : w2.heap.size < R1.heap.size + 1 := by omega
  have yyR1_v : w2.heap.size < R1.heap.size + 1 + 1 := by omega
  have cR1_v_0 : R1.cell? ⟨w2.heap.size, 0, none⟩ = some (.int .i64 ph) := by rw [hR1]; first | assumption | (simp [go_sem, *]; done)
  have cR1_v_1 : R1.cell? ⟨w2.heap.size, 1, none⟩ = some (.int .u64 pl) := by rw [hR1]; first | assumption | (simp [go_sem, *]; done)
  have cR1_v_2 : R1.cell? ⟨w2.heap.size, 2, none⟩ = some (.int .i64 qh) := by rw [hR1]; first | assumption | (simp [go_sem, *]; done)
  have cR1_v_3 : R1.cell? ⟨w2.heap.size, 3, none⟩ = some (.int .u64 ql) := by rw [hR1]; first | assumption | (simp [go_sem, *]; done)
  have zR1_l : w3.heap.size < R1.heap.size := by rw [hR1]; first | omega | (simp <;> omega)
  have yR1_l : w3.heap.size < R1.heap.size + 1 := by omega
  have yyR1_l : w3.heap.size < R1.heap.size + 1 + 1 := by omega
  have cR1_l_0 : R1.cell? ⟨w3.heap.size, 0, none⟩ = some (.int .i64 lh) := by rw [hR1]; first | assumption | (simp [go_sem, *]; done)
  have cR1_l_1 : R1.cell? ⟨w3.heap.size, 1, none⟩ = some (.int .u64 ll) := by rw [hR1]; first | assumption | (simp [go_sem, *]; done)
  have zR1_w : w3.heap.size + 1 < R1.heap.size := by rw [hR1]; first | omega | (simp <;> omega)
  have yR1_w : w3.heap.size + 1 < R1.heap.size + 1 := by omega
  have yyR1_w : w3.heap.size + 1 < R1.heap.size + 1 + 1 := by omega
  have cR1_w_0 : R1.cell? ⟨w3.heap.size + 1, 0, none⟩ = some (.int .i64 xs) := by rw [hR1]; first | assumption | (simp [go_sem, *]; done)
  have cR1_w_1 : R1.cell? ⟨w3.heap.size + 1, 1, none⟩ = some (.int .u64 yu) := by rw [hR1]; first | assumption | (simp [go_sem, *]; done)
  have cR1_w_2 : R1.cell? ⟨w3.heap.size + 1, 2, none⟩ = some (.int .i64 ys) := by rw [hR1]; first | assumption | (simp [go_sem, *]; done)
  have cR1_w_3 : R1.cell? ⟨w3.heap.size + 1, 3, none⟩ = some (.int .u64 xu) := by rw [hR1]; first | assumption | (simp [go_sem, *]; done)
  have zR1_k : w4.heap.size < R1.heap.size := by rw [hR1]; first | omega | (simp <;> omega)
  have yR1_k : w4.heap.size < R1.heap.size + 1 := by omega
  have yyR1_k : w4.heap.size < R1.heap.size + 1 + 1 := by omega
  have cR1_k_0 : R1.cell? ⟨w4.heap.size, 0, none⟩ = some (.int .i64 kh) := by rw [hR1]; first | assumption | (simp [go_sem, *]; done)
  have cR1_k_1 : R1.cell? ⟨w4.heap.size, 1, none⟩ = some (.int .u64 kl) := by rw [hR1]; first | assumption | (simp [go_sem, *]; done)
  have HBR1 : Hid (Below w.heap.size w R1) := by rw [hR1]; show Below _ _ _; exact (by repeat (first | with_reducible exact Below.refl _ _ | with_reducible exact Hid.out (by assumption) | with_reducible refine Below.setCell ?_ (by first | (simp; done) | omega | (simp <;> omega)) _ | with_reducible refine bl_al ?_ _ | with_reducible apply Below.drew))
  clear hR1
  clear sxw1_0 hclw1 hfrw1 HBw1 sxw2_0 hclw2 hfrw2 HBw2 zw3_v yw3_v yyw3_v sxw3_0 hclw3 hfrw3 HBw3 zw4_v yw4_v yyw4_v zw4_l yw4_l yyw4_l zw4_w yw4_w yyw4_w sxw4_0 hclw4 hfrw4 HBw4
  go_cut [17, 18] (fun slot0 slot1 X1 => ∃ bX1p2 bX1q2 : Nat, slot0 = .pointer (some ⟨bX1p2, 0, none⟩) ∧ slot1 = .pointer (some ⟨bX1q2, 0, none⟩) ∧ R1.heap.size ≤ bX1p2 ∧ R1.heap.size ≤ bX1q2 ∧ bX1q2 ≠ bX1p2 ∧ Below R1.heap.size R1 X1 ∧ Has (bX1p2) [.int .u64 Ph, .int .u64 Pl] X1 ∧ Has (bX1q2) [.int .u64 Qh, .int .u64 Ql] X1)
  case first =>
    clear HBR1
    have ltt : ∀ n : Nat, n < n + 1 + 1 := fun n => by omega
    have lttt : ∀ n : Nat, n + 1 < n + 1 + 1 := fun n => by omega
    go_region_held3 (fun w' => w'.cell? ⟨w3.heap.size + 1, 0, none⟩ = some (.int .i64 xs) ∧ w'.cell? ⟨w3.heap.size + 1, 1, none⟩ = some (.int .u64 yu) ∧ w'.cell? ⟨w3.heap.size + 1, 2, none⟩ = some (.int .i64 ys) ∧ w'.cell? ⟨w3.heap.size + 1, 3, none⟩ = some (.int .u64 xu)) (first | (simp [*, go_sem]; done) | (simp [*, go_sem, World.cell?_alloc_past]; done))
      (first
        | (go_at_call 40; (with_reducible refine (K5.out _).mono ?_); rintro e w5 ⟨rfl, hb⟩; (first | (with_reducible (obtain ⟨hclw5, hfrw5⟩ := bcell_drew hb)) | (obtain ⟨hclw5, hfrw5⟩ := bcell hb)); have zw5_w : w3.heap.size + 1 < w5.heap.size := (by first | omega | (have hz := hb.size; (try simp at hz); omega)); have yw5_w : w3.heap.size + 1 < w5.heap.size + 1 := (by omega); have yyw5_w : w3.heap.size + 1 < w5.heap.size + 1 + 1 := (by omega); (try have sw5_0 : R1.heap.size < w5.heap.size := (by first | omega | (have hz := hb.size; (try simp at hz); omega))); (try have syw5_0 : R1.heap.size < w5.heap.size + 1 := (by omega)); (try have stw5_0 : R1.heap.size + 1 < w5.heap.size := (by first | omega | (have hz := hb.size; (try simp at hz); omega))); have sxw5_0 : R1.heap.size ≤ w5.heap.size := (by first | omega | (have hz := hb.size; (try simp at hz); omega)); have HBw5 : Hid (Below R1.heap.size R1 w5) := (bl_trans (by repeat (first | with_reducible exact Below.refl _ _ | with_reducible exact Hid.out (by assumption) | with_reducible refine Below.setCell ?_ (by first | (simp; done) | omega | (simp <;> omega)) _ | with_reducible refine bl_al ?_ _ | with_reducible apply Below.drew)) hb); clear hb; clear K5)
        | (go_at_call 40; (with_reducible refine (K6.out _).mono ?_); rintro e w6 ⟨rfl, hb⟩; obtain ⟨hclw6, hfrw6⟩ := bcell hb; have zw6_w : w3.heap.size + 1 < w6.heap.size := (by first | omega | (have hz := hb.size; (try simp at hz); omega)); have yw6_w : w3.heap.size + 1 < w6.heap.size + 1 := (by omega); have yyw6_w : w3.heap.size + 1 < w6.heap.size + 1 + 1 := (by omega); (try have sw6_0 : R1.heap.size < w6.heap.size := (by first | omega | (have hz := hb.size; (try simp at hz); omega))); (try have syw6_0 : R1.heap.size < w6.heap.size + 1 := (by omega)); (try have stw6_0 : R1.heap.size + 1 < w6.heap.size := (by first | omega | (have hz := hb.size; (try simp at hz); omega))); have sxw6_0 : R1.heap.size ≤ w6.heap.size := (by first | omega | (have hz := hb.size; (try simp at hz); omega)); (try have sw6_w5 : w5.heap.size < w6.heap.size := (by first | omega | (have hz := hb.size; (try simp at hz); omega))); (try have syw6_w5 : w5.heap.size < w6.heap.size + 1 := (by omega)); (try have stw6_w5 : w5.heap.size + 1 < w6.heap.size := (by first | omega | (have hz := hb.size; (try simp at hz); omega))); have sxw6_w5 : w5.heap.size ≤ w6.heap.size := (by first | omega | (have hz := hb.size; (try simp at hz); omega)); have HBw6 : Hid (Below R1.heap.size R1 w6) := (bl_trans (by repeat (first | with_reducible exact Below.refl _ _ | with_reducible exact Hid.out (by assumption) | with_reducible refine Below.setCell ?_ (by first | (simp; done) | omega | (simp <;> omega)) _ | with_reducible refine bl_al ?_ _ | with_reducible apply Below.drew)) hb); clear hb; clear K6))
    all_goals (rename_i hHeld; clear hHeld; go_wp2_with fail; go_meet; exact ⟨_, _, rfl, rfl, (by first | omega | (simp <;> omega)), (by first | omega | (simp <;> omega)), (by first | omega | (simp <;> omega)), (by repeat (first | with_reducible exact Below.refl _ _ | with_reducible exact Hid.out (by assumption) | with_reducible refine Below.setCell ?_ (by first | (simp; done) | omega | (simp <;> omega)) _ | with_reducible refine bl_al ?_ _ | with_reducible apply Below.drew)), Has.mk2 (by first | (simp <;> omega) | omega) (by simp [go_sem, *]) (by simp [go_sem, *]), Has.mk2 (by first | (simp <;> omega) | omega) (by simp [go_sem, *]) (by simp [go_sem, *])⟩)
  case rest =>
  obtain ⟨X1, hX1⟩ : ∃ X, X = wc := ⟨wc, rfl⟩
  subst hX1
  obtain ⟨bX1p2, bX1q2, rfl, rfl, m_bX1p2, m_bX1q2, n_bX1q2_bX1p2, hX, g_p2, g_q2⟩ := hcut
  have zX1_v : w2.heap.size < X1.heap.size := Nat.lt_of_lt_of_le zR1_v hX.size
  have cX1_v_0 : X1.cell? ⟨w2.heap.size, 0, none⟩ = some (.int .i64 ph) := by rw [(bcell hX).1 _ _ zR1_v]; exact cR1_v_0
  have cX1_v_1 : X1.cell? ⟨w2.heap.size, 1, none⟩ = some (.int .u64 pl) := by rw [(bcell hX).1 _ _ zR1_v]; exact cR1_v_1
  have cX1_v_2 : X1.cell? ⟨w2.heap.size, 2, none⟩ = some (.int .i64 qh) := by rw [(bcell hX).1 _ _ zR1_v]; exact cR1_v_2
  have cX1_v_3 : X1.cell? ⟨w2.heap.size, 3, none⟩ = some (.int .u64 ql) := by rw [(bcell hX).1 _ _ zR1_v]; exact cR1_v_3
  have zX1_l : w3.heap.size < X1.heap.size := Nat.lt_of_lt_of_le zR1_l hX.size
  have cX1_l_0 : X1.cell? ⟨w3.heap.size, 0, none⟩ = some (.int .i64 lh) := by rw [(bcell hX).1 _ _ zR1_l]; exact cR1_l_0
  have cX1_l_1 : X1.cell? ⟨w3.heap.size, 1, none⟩ = some (.int .u64 ll) := by rw [(bcell hX).1 _ _ zR1_l]; exact cR1_l_1
  have zX1_w : w3.heap.size + 1 < X1.heap.size := Nat.lt_of_lt_of_le zR1_w hX.size
  have cX1_w_0 : X1.cell? ⟨w3.heap.size + 1, 0, none⟩ = some (.int .i64 xs) := by rw [(bcell hX).1 _ _ zR1_w]; exact cR1_w_0
  have cX1_w_1 : X1.cell? ⟨w3.heap.size + 1, 1, none⟩ = some (.int .u64 yu) := by rw [(bcell hX).1 _ _ zR1_w]; exact cR1_w_1
  have cX1_w_2 : X1.cell? ⟨w3.heap.size + 1, 2, none⟩ = some (.int .i64 ys) := by rw [(bcell hX).1 _ _ zR1_w]; exact cR1_w_2
  have cX1_w_3 : X1.cell? ⟨w3.heap.size + 1, 3, none⟩ = some (.int .u64 xu) := by rw [(bcell hX).1 _ _ zR1_w]; exact cR1_w_3
  have zX1_k : w4.heap.size < X1.heap.size := Nat.lt_of_lt_of_le zR1_k hX.size
  have cX1_k_0 : X1.cell? ⟨w4.heap.size, 0, none⟩ = some (.int .i64 kh) := by rw [(bcell hX).1 _ _ zR1_k]; exact cR1_k_0
  have cX1_k_1 : X1.cell? ⟨w4.heap.size, 1, none⟩ = some (.int .u64 kl) := by rw [(bcell hX).1 _ _ zR1_k]; exact cR1_k_1
  have zX1_p2 := g_p2.1; have cX1_p2_0 := g_p2.2 0 _ rfl; have cX1_p2_1 := g_p2.2 1 _ rfl; clear g_p2
  have zX1_q2 := g_q2.1; have cX1_q2_0 := g_q2.2 0 _ rfl; have cX1_q2_1 := g_q2.2 1 _ rfl; clear g_q2
  have HBX1 : Hid (Below w.heap.size w X1) := bl_trans HBR1.out hX
  clear hX
  clear zR1_v yR1_v yyR1_v cR1_v_0 cR1_v_1 cR1_v_2 cR1_v_3 zR1_l yR1_l yyR1_l cR1_l_0 cR1_l_1 zR1_w yR1_w yyR1_w cR1_w_0 cR1_w_1 cR1_w_2 cR1_w_3 zR1_k yR1_k yyR1_k cR1_k_0 cR1_k_1 HBR1 m_bX1p2 m_bX1q2 n_bX1q2_bX1p2
  go_wp2_with fail
  (with_reducible refine (K7.out _).mono ?_); rintro e w7 ⟨rfl, hb⟩; obtain ⟨hclw7, hfrw7⟩ := bcell hb; have zw7_v : w2.heap.size < w7.heap.size := (by first | omega | (have hz := hb.size; (try simp at hz); omega)); have yw7_v : w2.heap.size < w7.heap.size + 1 := (by omega); have yyw7_v : w2.heap.size < w7.heap.size + 1 + 1 := (by omega); have zw7_l : w3.heap.size < w7.heap.size := (by first | omega | (have hz := hb.size; (try simp at hz); omega)); have yw7_l : w3.heap.size < w7.heap.size + 1 := (by omega); have yyw7_l : w3.heap.size < w7.heap.size + 1 + 1 := (by omega); have zw7_w : w3.heap.size + 1 < w7.heap.size := (by first | omega | (have hz := hb.size; (try simp at hz); omega)); have yw7_w : w3.heap.size + 1 < w7.heap.size + 1 := (by omega); have yyw7_w : w3.heap.size + 1 < w7.heap.size + 1 + 1 := (by omega); have zw7_k : w4.heap.size < w7.heap.size := (by first | omega | (have hz := hb.size; (try simp at hz); omega)); have yw7_k : w4.heap.size < w7.heap.size + 1 := (by omega); have yyw7_k : w4.heap.size < w7.heap.size + 1 + 1 := (by omega); have zw7_p2 : bX1p2 < w7.heap.size := (by first | omega | (have hz := hb.size; (try simp at hz); omega)); have yw7_p2 : bX1p2 < w7.heap.size + 1 := (by omega); have yyw7_p2 : bX1p2 < w7.heap.size + 1 + 1 := (by omega); have zw7_q2 : bX1q2 < w7.heap.size := (by first | omega | (have hz := hb.size; (try simp at hz); omega)); have yw7_q2 : bX1q2 < w7.heap.size + 1 := (by omega); have yyw7_q2 : bX1q2 < w7.heap.size + 1 + 1 := (by omega); have sxw7_0 : X1.heap.size ≤ w7.heap.size := (by first | omega | (have hz := hb.size; (try simp at hz); omega)); have HBw7 : Hid (Below w.heap.size w w7) := (bl_trans (by repeat (first | with_reducible exact Below.refl _ _ | with_reducible exact Hid.out (by assumption) | with_reducible refine Below.setCell ?_ (by first | (simp; done) | omega | (simp <;> omega)) _ | with_reducible refine bl_al ?_ _ | with_reducible apply Below.drew)) hb); clear hb
  go_wp2_with fail
  (with_reducible refine (K8.out _).mono ?_); rintro e w8 ⟨rfl, hb⟩; obtain ⟨hclw8, hfrw8⟩ := bcell hb; have zw8_v : w2.heap.size < w8.heap.size := (by first | omega | (have hz := hb.size; (try simp at hz); omega)); have yw8_v : w2.heap.size < w8.heap.size + 1 := (by omega); have yyw8_v : w2.heap.size < w8.heap.size + 1 + 1 := (by omega); have zw8_l : w3.heap.size < w8.heap.size := (by first | omega | (have hz := hb.size; (try simp at hz); omega)); have yw8_l : w3.heap.size < w8.heap.size + 1 := (by omega); have yyw8_l : w3.heap.size < w8.heap.size + 1 + 1 := (by omega); have zw8_w : w3.heap.size + 1 < w8.heap.size := (by first | omega | (have hz := hb.size; (try simp at hz); omega)); have yw8_w : w3.heap.size + 1 < w8.heap.size + 1 := (by omega); have yyw8_w : w3.heap.size + 1 < w8.heap.size + 1 + 1 := (by omega); have zw8_k : w4.heap.size < w8.heap.size := (by first | omega | (have hz := hb.size; (try simp at hz); omega)); have yw8_k : w4.heap.size < w8.heap.size + 1 := (by omega); have yyw8_k : w4.heap.size < w8.heap.size + 1 + 1 := (by omega); have zw8_p2 : bX1p2 < w8.heap.size := (by first | omega | (have hz := hb.size; (try simp at hz); omega)); have yw8_p2 : bX1p2 < w8.heap.size + 1 := (by omega); have yyw8_p2 : bX1p2 < w8.heap.size + 1 + 1 := (by omega); have zw8_q2 : bX1q2 < w8.heap.size := (by first | omega | (have hz := hb.size; (try simp at hz); omega)); have yw8_q2 : bX1q2 < w8.heap.size + 1 := (by omega); have yyw8_q2 : bX1q2 < w8.heap.size + 1 + 1 := (by omega); have zw8_both : w7.heap.size < w8.heap.size := (by first | omega | (have hz := hb.size; (try simp at hz); omega)); have yw8_both : w7.heap.size < w8.heap.size + 1 := (by omega); have yyw8_both : w7.heap.size < w8.heap.size + 1 + 1 := (by omega); have sxw8_0 : w7.heap.size + 1 ≤ w8.heap.size := (by first | omega | (have hz := hb.size; (try simp at hz); omega)); have HBw8 : Hid (Below w.heap.size w w8) := (bl_trans (by repeat (first | with_reducible exact Below.refl _ _ | with_reducible exact Hid.out (by assumption) | with_reducible refine Below.setCell ?_ (by first | (simp; done) | omega | (simp <;> omega)) _ | with_reducible refine bl_al ?_ _ | with_reducible apply Below.drew)) hb); clear hb
  go_wp2_with fail
  (with_reducible refine (K9.out _).mono ?_); rintro e w9 ⟨rfl, hb⟩; obtain ⟨hclw9, hfrw9⟩ := bcell hb; have zw9_v : w2.heap.size < w9.heap.size := (by first | omega | (have hz := hb.size; (try simp at hz); omega)); have yw9_v : w2.heap.size < w9.heap.size + 1 := (by omega); have yyw9_v : w2.heap.size < w9.heap.size + 1 + 1 := (by omega); have zw9_l : w3.heap.size < w9.heap.size := (by first | omega | (have hz := hb.size; (try simp at hz); omega)); have yw9_l : w3.heap.size < w9.heap.size + 1 := (by omega); have yyw9_l : w3.heap.size < w9.heap.size + 1 + 1 := (by omega); have zw9_w : w3.heap.size + 1 < w9.heap.size := (by first | omega | (have hz := hb.size; (try simp at hz); omega)); have yw9_w : w3.heap.size + 1 < w9.heap.size + 1 := (by omega); have yyw9_w : w3.heap.size + 1 < w9.heap.size + 1 + 1 := (by omega); have zw9_k : w4.heap.size < w9.heap.size := (by first | omega | (have hz := hb.size; (try simp at hz); omega)); have yw9_k : w4.heap.size < w9.heap.size + 1 := (by omega); have yyw9_k : w4.heap.size < w9.heap.size + 1 + 1 := (by omega); have zw9_p2 : bX1p2 < w9.heap.size := (by first | omega | (have hz := hb.size; (try simp at hz); omega)); have yw9_p2 : bX1p2 < w9.heap.size + 1 := (by omega); have yyw9_p2 : bX1p2 < w9.heap.size + 1 + 1 := (by omega); have zw9_q2 : bX1q2 < w9.heap.size := (by first | omega | (have hz := hb.size; (try simp at hz); omega)); have yw9_q2 : bX1q2 < w9.heap.size + 1 := (by omega); have yyw9_q2 : bX1q2 < w9.heap.size + 1 + 1 := (by omega); have zw9_both : w7.heap.size < w9.heap.size := (by first | omega | (have hz := hb.size; (try simp at hz); omega)); have yw9_both : w7.heap.size < w9.heap.size + 1 := (by omega); have yyw9_both : w7.heap.size < w9.heap.size + 1 + 1 := (by omega); have sxw9_0 : w8.heap.size ≤ w9.heap.size := (by first | omega | (have hz := hb.size; (try simp at hz); omega)); have HBw9 : Hid (Below w.heap.size w w9) := (bl_trans (by repeat (first | with_reducible exact Below.refl _ _ | with_reducible exact Hid.out (by assumption) | with_reducible refine Below.setCell ?_ (by first | (simp; done) | omega | (simp <;> omega)) _ | with_reducible refine bl_al ?_ _ | with_reducible apply Below.drew)) hb); clear hb
  go_upto_region 9 with fail
  refine name_world (P := fun W => Code.wp _ _ _ _ W) _ (fun R2 hR2 => ?_)
  have zR2_v : w2.heap.size < R2.heap.size := by rw [hR2]; first | omega | (simp <;> omega)
  have yR2_v : w2.heap.size < R2.heap.size + 1 := by omega
  have yyR2_v : w2.heap.size < R2.heap.size + 1 + 1 := by omega
  have cR2_v_0 : R2.cell? ⟨w2.heap.size, 0, none⟩ = some (.int .i64 ph) := by rw [hR2]; first | assumption | (simp [go_sem, *]; done)
  have cR2_v_1 : R2.cell? ⟨w2.heap.size, 1, none⟩ = some (.int .u64 pl) := by rw [hR2]; first | assumption | (simp [go_sem, *]; done)
  have cR2_v_2 : R2.cell? ⟨w2.heap.size, 2, none⟩ = some (.int .i64 qh) := by rw [hR2]; first | assumption | (simp [go_sem, *]; done)
  have cR2_v_3 : R2.cell? ⟨w2.heap.size, 3, none⟩ = some (.int .u64 ql) := by rw [hR2]; first | assumption | (simp [go_sem, *]; done)
  have zR2_l : w3.heap.size < R2.heap.size := by rw [hR2]; first | omega | (simp <;> omega)
  have yR2_l : w3.heap.size < R2.heap.size + 1 := by omega
  have yyR2_l : w3.heap.size < R2.heap.size + 1 + 1 := by omega
  have cR2_l_0 : R2.cell? ⟨w3.heap.size, 0, none⟩ = some (.int .i64 lh) := by rw [hR2]; first | assumption | (simp [go_sem, *]; done)
  have cR2_l_1 : R2.cell? ⟨w3.heap.size, 1, none⟩ = some (.int .u64 ll) := by rw [hR2]; first | assumption | (simp [go_sem, *]; done)
  have zR2_w : w3.heap.size + 1 < R2.heap.size := by rw [hR2]; first | omega | (simp <;> omega)
  have yR2_w : w3.heap.size + 1 < R2.heap.size + 1 := by omega
  have yyR2_w : w3.heap.size + 1 < R2.heap.size + 1 + 1 := by omega
  have cR2_w_0 : R2.cell? ⟨w3.heap.size + 1, 0, none⟩ = some (.int .i64 xs) := by rw [hR2]; first | assumption | (simp [go_sem, *]; done)
  have cR2_w_1 : R2.cell? ⟨w3.heap.size + 1, 1, none⟩ = some (.int .u64 yu) := by rw [hR2]; first | assumption | (simp [go_sem, *]; done)
  have cR2_w_2 : R2.cell? ⟨w3.heap.size + 1, 2, none⟩ = some (.int .i64 ys) := by rw [hR2]; first | assumption | (simp [go_sem, *]; done)
  have cR2_w_3 : R2.cell? ⟨w3.heap.size + 1, 3, none⟩ = some (.int .u64 xu) := by rw [hR2]; first | assumption | (simp [go_sem, *]; done)
  have zR2_k : w4.heap.size < R2.heap.size := by rw [hR2]; first | omega | (simp <;> omega)
  have yR2_k : w4.heap.size < R2.heap.size + 1 := by omega
  have yyR2_k : w4.heap.size < R2.heap.size + 1 + 1 := by omega
  have cR2_k_0 : R2.cell? ⟨w4.heap.size, 0, none⟩ = some (.int .i64 kh) := by rw [hR2]; first | assumption | (simp [go_sem, *]; done)
  have cR2_k_1 : R2.cell? ⟨w4.heap.size, 1, none⟩ = some (.int .u64 kl) := by rw [hR2]; first | assumption | (simp [go_sem, *]; done)
  have zR2_p2 : bX1p2 < R2.heap.size := by rw [hR2]; first | omega | (simp <;> omega)
  have yR2_p2 : bX1p2 < R2.heap.size + 1 := by omega
  have yyR2_p2 : bX1p2 < R2.heap.size + 1 + 1 := by omega
  have cR2_p2_0 : R2.cell? ⟨bX1p2, 0, none⟩ = some (.int .u64 Ph) := by rw [hR2]; first | assumption | (simp [go_sem, *]; done)
  have cR2_p2_1 : R2.cell? ⟨bX1p2, 1, none⟩ = some (.int .u64 Pl) := by rw [hR2]; first | assumption | (simp [go_sem, *]; done)
  have zR2_q2 : bX1q2 < R2.heap.size := by rw [hR2]; first | omega | (simp <;> omega)
  have yR2_q2 : bX1q2 < R2.heap.size + 1 := by omega
  have yyR2_q2 : bX1q2 < R2.heap.size + 1 + 1 := by omega
  have cR2_q2_0 : R2.cell? ⟨bX1q2, 0, none⟩ = some (.int .u64 Qh) := by rw [hR2]; first | assumption | (simp [go_sem, *]; done)
  have cR2_q2_1 : R2.cell? ⟨bX1q2, 1, none⟩ = some (.int .u64 Ql) := by rw [hR2]; first | assumption | (simp [go_sem, *]; done)
  have zR2_both : w7.heap.size < R2.heap.size := by rw [hR2]; first | omega | (simp <;> omega)
  have yR2_both : w7.heap.size < R2.heap.size + 1 := by omega
  have yyR2_both : w7.heap.size < R2.heap.size + 1 + 1 := by omega
  have cR2_both_0 : R2.cell? ⟨w7.heap.size, 0, none⟩ = some (.int .u64 Bh) := by rw [hR2]; first | assumption | (simp [go_sem, *]; done)
  have cR2_both_1 : R2.cell? ⟨w7.heap.size, 1, none⟩ = some (.int .u64 Bl) := by rw [hR2]; first | assumption | (simp [go_sem, *]; done)
  have zR2_far : w9.heap.size < R2.heap.size := by rw [hR2]; first | omega | (simp <;> omega)
  have yR2_far : w9.heap.size < R2.heap.size + 1 := by omega
  have yyR2_far : w9.heap.size < R2.heap.size + 1 + 1 := by omega
  have cR2_far_0 : R2.cell? ⟨w9.heap.size, 0, none⟩ = some (.int .u64 Fh) := by rw [hR2]; first | assumption | (simp [go_sem, *]; done)
  have cR2_far_1 : R2.cell? ⟨w9.heap.size, 1, none⟩ = some (.int .u64 Fl) := by rw [hR2]; first | assumption | (simp [go_sem, *]; done)
  have HBR2 : Hid (Below w.heap.size w R2) := by rw [hR2]; show Below _ _ _; exact (by repeat (first | with_reducible exact Below.refl _ _ | with_reducible exact Hid.out (by assumption) | with_reducible refine Below.setCell ?_ (by first | (simp; done) | omega | (simp <;> omega)) _ | with_reducible refine bl_al ?_ _ | with_reducible apply Below.drew))
  clear hR2
  clear HBX1 zX1_v cX1_v_0 cX1_v_1 cX1_v_2 cX1_v_3 zX1_l cX1_l_0 cX1_l_1 zX1_w cX1_w_0 cX1_w_1 cX1_w_2 cX1_w_3 zX1_k cX1_k_0 cX1_k_1 zX1_p2 cX1_p2_0 cX1_p2_1 zX1_q2 cX1_q2_0 cX1_q2_1 zw7_v yw7_v yyw7_v zw7_l yw7_l yyw7_l zw7_w yw7_w yyw7_w zw7_k yw7_k yyw7_k zw7_p2 yw7_p2 yyw7_p2 zw7_q2 yw7_q2 yyw7_q2 sxw7_0 hclw7 hfrw7 HBw7 zw8_v yw8_v yyw8_v zw8_l yw8_l yyw8_l zw8_w yw8_w yyw8_w zw8_k yw8_k yyw8_k zw8_p2 yw8_p2 yyw8_p2 zw8_q2 yw8_q2 yyw8_q2 zw8_both yw8_both yyw8_both sxw8_0 hclw8 hfrw8 HBw8 zw9_v yw9_v yyw9_v zw9_l yw9_l yyw9_l zw9_w yw9_w yyw9_w zw9_k yw9_k yyw9_k zw9_p2 yw9_p2 yyw9_p2 zw9_q2 yw9_q2 yyw9_q2 zw9_both yw9_both yyw9_both sxw9_0 hclw9 hfrw9 HBw9
  go_region_held3 (fun w' => w'.cell? ⟨w3.heap.size, 0, none⟩ = some (.int .i64 lh) ∧ w'.cell? ⟨w3.heap.size, 1, none⟩ = some (.int .u64 ll) ∧ w'.cell? ⟨w9.heap.size, 0, none⟩ = some (.int .u64 Fh) ∧ w'.cell? ⟨w9.heap.size, 1, none⟩ = some (.int .u64 Fl) ∧ w'.cell? ⟨bX1p2, 0, none⟩ = some (.int .u64 Ph) ∧ w'.cell? ⟨bX1p2, 1, none⟩ = some (.int .u64 Pl) ∧ w'.cell? ⟨bX1q2, 0, none⟩ = some (.int .u64 Qh) ∧ w'.cell? ⟨bX1q2, 1, none⟩ = some (.int .u64 Ql) ∧ w'.cell? ⟨w7.heap.size, 0, none⟩ = some (.int .u64 Bh) ∧ w'.cell? ⟨w7.heap.size, 1, none⟩ = some (.int .u64 Bl) ∧ w'.cell? ⟨w4.heap.size, 0, none⟩ = some (.int .i64 kh) ∧ w'.cell? ⟨w4.heap.size, 1, none⟩ = some (.int .u64 kl)) (first | (simp [*, go_sem]; done) | (simp [*, go_sem, World.cell?_alloc_past]; done))
    (first
      | (go_at_call 38; (with_reducible refine (K10.out _).mono ?_); rintro e w10 ⟨rfl, hb⟩; (first | (with_reducible (obtain ⟨hclw10, hfrw10⟩ := bcell_drew hb)) | (obtain ⟨hclw10, hfrw10⟩ := bcell hb)); have zw10_v : w2.heap.size < w10.heap.size := (by first | omega | (have hz := hb.size; (try simp at hz); omega)); have yw10_v : w2.heap.size < w10.heap.size + 1 := (by omega); have yyw10_v : w2.heap.size < w10.heap.size + 1 + 1 := (by omega); have zw10_l : w3.heap.size < w10.heap.size := (by first | omega | (have hz := hb.size; (try simp at hz); omega)); have yw10_l : w3.heap.size < w10.heap.size + 1 := (by omega); have yyw10_l : w3.heap.size < w10.heap.size + 1 + 1 := (by omega); have zw10_w : w3.heap.size + 1 < w10.heap.size := (by first | omega | (have hz := hb.size; (try simp at hz); omega)); have yw10_w : w3.heap.size + 1 < w10.heap.size + 1 := (by omega); have yyw10_w : w3.heap.size + 1 < w10.heap.size + 1 + 1 := (by omega); have zw10_k : w4.heap.size < w10.heap.size := (by first | omega | (have hz := hb.size; (try simp at hz); omega)); have yw10_k : w4.heap.size < w10.heap.size + 1 := (by omega); have yyw10_k : w4.heap.size < w10.heap.size + 1 + 1 := (by omega); have zw10_p2 : bX1p2 < w10.heap.size := (by first | omega | (have hz := hb.size; (try simp at hz); omega)); have yw10_p2 : bX1p2 < w10.heap.size + 1 := (by omega); have yyw10_p2 : bX1p2 < w10.heap.size + 1 + 1 := (by omega); have zw10_q2 : bX1q2 < w10.heap.size := (by first | omega | (have hz := hb.size; (try simp at hz); omega)); have yw10_q2 : bX1q2 < w10.heap.size + 1 := (by omega); have yyw10_q2 : bX1q2 < w10.heap.size + 1 + 1 := (by omega); have zw10_both : w7.heap.size < w10.heap.size := (by first | omega | (have hz := hb.size; (try simp at hz); omega)); have yw10_both : w7.heap.size < w10.heap.size + 1 := (by omega); have yyw10_both : w7.heap.size < w10.heap.size + 1 + 1 := (by omega); have zw10_far : w9.heap.size < w10.heap.size := (by first | omega | (have hz := hb.size; (try simp at hz); omega)); have yw10_far : w9.heap.size < w10.heap.size + 1 := (by omega); have yyw10_far : w9.heap.size < w10.heap.size + 1 + 1 := (by omega); have sxw10_0 : R2.heap.size ≤ w10.heap.size := (by first | omega | (have hz := hb.size; (try simp at hz); omega)); have HBw10 : Hid (Below w.heap.size w w10) := (bl_trans (by repeat (first | with_reducible exact Below.refl _ _ | with_reducible exact Hid.out (by assumption) | with_reducible refine Below.setCell ?_ (by first | (simp; done) | omega | (simp <;> omega)) _ | with_reducible refine bl_al ?_ _ | with_reducible apply Below.drew)) hb); clear hb; clear K10)
      | (go_at_call 38; (with_reducible refine (K11.out _).mono ?_); rintro e w11 ⟨rfl, hb⟩; obtain ⟨hclw11, hfrw11⟩ := bcell hb; have zw11_v : w2.heap.size < w11.heap.size := (by first | omega | (have hz := hb.size; (try simp at hz); omega)); have yw11_v : w2.heap.size < w11.heap.size + 1 := (by omega); have yyw11_v : w2.heap.size < w11.heap.size + 1 + 1 := (by omega); have zw11_l : w3.heap.size < w11.heap.size := (by first | omega | (have hz := hb.size; (try simp at hz); omega)); have yw11_l : w3.heap.size < w11.heap.size + 1 := (by omega); have yyw11_l : w3.heap.size < w11.heap.size + 1 + 1 := (by omega); have zw11_w : w3.heap.size + 1 < w11.heap.size := (by first | omega | (have hz := hb.size; (try simp at hz); omega)); have yw11_w : w3.heap.size + 1 < w11.heap.size + 1 := (by omega); have yyw11_w : w3.heap.size + 1 < w11.heap.size + 1 + 1 := (by omega); have zw11_k : w4.heap.size < w11.heap.size := (by first | omega | (have hz := hb.size; (try simp at hz); omega)); have yw11_k : w4.heap.size < w11.heap.size + 1 := (by omega); have yyw11_k : w4.heap.size < w11.heap.size + 1 + 1 := (by omega); have zw11_p2 : bX1p2 < w11.heap.size := (by first | omega | (have hz := hb.size; (try simp at hz); omega)); have yw11_p2 : bX1p2 < w11.heap.size + 1 := (by omega); have yyw11_p2 : bX1p2 < w11.heap.size + 1 + 1 := (by omega); have zw11_q2 : bX1q2 < w11.heap.size := (by first | omega | (have hz := hb.size; (try simp at hz); omega)); have yw11_q2 : bX1q2 < w11.heap.size + 1 := (by omega); have yyw11_q2 : bX1q2 < w11.heap.size + 1 + 1 := (by omega); have zw11_both : w7.heap.size < w11.heap.size := (by first | omega | (have hz := hb.size; (try simp at hz); omega)); have yw11_both : w7.heap.size < w11.heap.size + 1 := (by omega); have yyw11_both : w7.heap.size < w11.heap.size + 1 + 1 := (by omega); have zw11_far : w9.heap.size < w11.heap.size := (by first | omega | (have hz := hb.size; (try simp at hz); omega)); have yw11_far : w9.heap.size < w11.heap.size + 1 := (by omega); have yyw11_far : w9.heap.size < w11.heap.size + 1 + 1 := (by omega); have sxw11_0 : R2.heap.size ≤ w11.heap.size := (by first | omega | (have hz := hb.size; (try simp at hz); omega)); have sxw11_w10 : w10.heap.size ≤ w11.heap.size := (by first | omega | (have hz := hb.size; (try simp at hz); omega)); have HBw11 : Hid (Below w.heap.size w w11) := (bl_trans (by repeat (first | with_reducible exact Below.refl _ _ | with_reducible exact Hid.out (by assumption) | with_reducible refine Below.setCell ?_ (by first | (simp; done) | omega | (simp <;> omega)) _ | with_reducible refine bl_al ?_ _ | with_reducible apply Below.drew)) hb); clear hb; clear K11)
      | (go_at_call 39; (with_reducible refine (K12.out _).mono ?_); rintro e w12 ⟨rfl, hb⟩; obtain ⟨hclw12, hfrw12⟩ := bcell hb; have zw12_v : w2.heap.size < w12.heap.size := (by first | omega | (have hz := hb.size; (try simp at hz); omega)); have yw12_v : w2.heap.size < w12.heap.size + 1 := (by omega); have yyw12_v : w2.heap.size < w12.heap.size + 1 + 1 := (by omega); have zw12_l : w3.heap.size < w12.heap.size := (by first | omega | (have hz := hb.size; (try simp at hz); omega)); have yw12_l : w3.heap.size < w12.heap.size + 1 := (by omega); have yyw12_l : w3.heap.size < w12.heap.size + 1 + 1 := (by omega); have zw12_w : w3.heap.size + 1 < w12.heap.size := (by first | omega | (have hz := hb.size; (try simp at hz); omega)); have yw12_w : w3.heap.size + 1 < w12.heap.size + 1 := (by omega); have yyw12_w : w3.heap.size + 1 < w12.heap.size + 1 + 1 := (by omega); have zw12_k : w4.heap.size < w12.heap.size := (by first | omega | (have hz := hb.size; (try simp at hz); omega)); have yw12_k : w4.heap.size < w12.heap.size + 1 := (by omega); have yyw12_k : w4.heap.size < w12.heap.size + 1 + 1 := (by omega); have zw12_p2 : bX1p2 < w12.heap.size := (by first | omega | (have hz := hb.size; (try simp at hz); omega)); have yw12_p2 : bX1p2 < w12.heap.size + 1 := (by omega); have yyw12_p2 : bX1p2 < w12.heap.size + 1 + 1 := (by omega); have zw12_q2 : bX1q2 < w12.heap.size := (by first | omega | (have hz := hb.size; (try simp at hz); omega)); have yw12_q2 : bX1q2 < w12.heap.size + 1 := (by omega); have yyw12_q2 : bX1q2 < w12.heap.size + 1 + 1 := (by omega); have zw12_both : w7.heap.size < w12.heap.size := (by first | omega | (have hz := hb.size; (try simp at hz); omega)); have yw12_both : w7.heap.size < w12.heap.size + 1 := (by omega); have yyw12_both : w7.heap.size < w12.heap.size + 1 + 1 := (by omega); have zw12_far : w9.heap.size < w12.heap.size := (by first | omega | (have hz := hb.size; (try simp at hz); omega)); have yw12_far : w9.heap.size < w12.heap.size + 1 := (by omega); have yyw12_far : w9.heap.size < w12.heap.size + 1 + 1 := (by omega); have sxw12_0 : R2.heap.size ≤ w12.heap.size := (by first | omega | (have hz := hb.size; (try simp at hz); omega)); have sxw12_w10 : w10.heap.size ≤ w12.heap.size := (by first | omega | (have hz := hb.size; (try simp at hz); omega)); have sxw12_w11 : w11.heap.size ≤ w12.heap.size := (by first | omega | (have hz := hb.size; (try simp at hz); omega)); have HBw12 : Hid (Below w.heap.size w w12) := (bl_trans (by repeat (first | with_reducible exact Below.refl _ _ | with_reducible exact Hid.out (by assumption) | with_reducible refine Below.setCell ?_ (by first | (simp; done) | omega | (simp <;> omega)) _ | with_reducible refine bl_al ?_ _ | with_reducible apply Below.drew)) hb); clear hb; clear K12)
      | (go_at_call 42; (with_reducible refine (K13.out _).mono ?_); rintro e w13 ⟨rfl, hb⟩; obtain ⟨hclw13, hfrw13⟩ := bcell hb; have zw13_v : w2.heap.size < w13.heap.size := (by first | omega | (have hz := hb.size; (try simp at hz); omega)); have yw13_v : w2.heap.size < w13.heap.size + 1 := (by omega); have yyw13_v : w2.heap.size < w13.heap.size + 1 + 1 := (by omega); have zw13_l : w3.heap.size < w13.heap.size := (by first | omega | (have hz := hb.size; (try simp at hz); omega)); have yw13_l : w3.heap.size < w13.heap.size + 1 := (by omega); have yyw13_l : w3.heap.size < w13.heap.size + 1 + 1 := (by omega); have zw13_w : w3.heap.size + 1 < w13.heap.size := (by first | omega | (have hz := hb.size; (try simp at hz); omega)); have yw13_w : w3.heap.size + 1 < w13.heap.size + 1 := (by omega); have yyw13_w : w3.heap.size + 1 < w13.heap.size + 1 + 1 := (by omega); have zw13_k : w4.heap.size < w13.heap.size := (by first | omega | (have hz := hb.size; (try simp at hz); omega)); have yw13_k : w4.heap.size < w13.heap.size + 1 := (by omega); have yyw13_k : w4.heap.size < w13.heap.size + 1 + 1 := (by omega); have zw13_p2 : bX1p2 < w13.heap.size := (by first | omega | (have hz := hb.size; (try simp at hz); omega)); have yw13_p2 : bX1p2 < w13.heap.size + 1 := (by omega); have yyw13_p2 : bX1p2 < w13.heap.size + 1 + 1 := (by omega); have zw13_q2 : bX1q2 < w13.heap.size := (by first | omega | (have hz := hb.size; (try simp at hz); omega)); have yw13_q2 : bX1q2 < w13.heap.size + 1 := (by omega); have yyw13_q2 : bX1q2 < w13.heap.size + 1 + 1 := (by omega); have zw13_both : w7.heap.size < w13.heap.size := (by first | omega | (have hz := hb.size; (try simp at hz); omega)); have yw13_both : w7.heap.size < w13.heap.size + 1 := (by omega); have yyw13_both : w7.heap.size < w13.heap.size + 1 + 1 := (by omega); have zw13_far : w9.heap.size < w13.heap.size := (by first | omega | (have hz := hb.size; (try simp at hz); omega)); have yw13_far : w9.heap.size < w13.heap.size + 1 := (by omega); have yyw13_far : w9.heap.size < w13.heap.size + 1 + 1 := (by omega); have sxw13_0 : R2.heap.size ≤ w13.heap.size := (by first | omega | (have hz := hb.size; (try simp at hz); omega)); have sxw13_w10 : w10.heap.size ≤ w13.heap.size := (by first | omega | (have hz := hb.size; (try simp at hz); omega)); have sxw13_w11 : w11.heap.size ≤ w13.heap.size := (by first | omega | (have hz := hb.size; (try simp at hz); omega)); have sxw13_w12 : w12.heap.size ≤ w13.heap.size := (by first | omega | (have hz := hb.size; (try simp at hz); omega)); have HBw13 : Hid (Below w.heap.size w w13) := (bl_trans (by repeat (first | with_reducible exact Below.refl _ _ | with_reducible exact Hid.out (by assumption) | with_reducible refine Below.setCell ?_ (by first | (simp; done) | omega | (simp <;> omega)) _ | with_reducible refine bl_al ?_ _ | with_reducible apply Below.drew)) hb); clear hb; clear K13)
      | (go_at_call 42; (with_reducible refine (K14.out _).mono ?_); rintro e w14 ⟨rfl, hb⟩; obtain ⟨hclw14, hfrw14⟩ := bcell hb; have zw14_v : w2.heap.size < w14.heap.size := (by first | omega | (have hz := hb.size; (try simp at hz); omega)); have yw14_v : w2.heap.size < w14.heap.size + 1 := (by omega); have yyw14_v : w2.heap.size < w14.heap.size + 1 + 1 := (by omega); have zw14_l : w3.heap.size < w14.heap.size := (by first | omega | (have hz := hb.size; (try simp at hz); omega)); have yw14_l : w3.heap.size < w14.heap.size + 1 := (by omega); have yyw14_l : w3.heap.size < w14.heap.size + 1 + 1 := (by omega); have zw14_w : w3.heap.size + 1 < w14.heap.size := (by first | omega | (have hz := hb.size; (try simp at hz); omega)); have yw14_w : w3.heap.size + 1 < w14.heap.size + 1 := (by omega); have yyw14_w : w3.heap.size + 1 < w14.heap.size + 1 + 1 := (by omega); have zw14_k : w4.heap.size < w14.heap.size := (by first | omega | (have hz := hb.size; (try simp at hz); omega)); have yw14_k : w4.heap.size < w14.heap.size + 1 := (by omega); have yyw14_k : w4.heap.size < w14.heap.size + 1 + 1 := (by omega); have zw14_p2 : bX1p2 < w14.heap.size := (by first | omega | (have hz := hb.size; (try simp at hz); omega)); have yw14_p2 : bX1p2 < w14.heap.size + 1 := (by omega); have yyw14_p2 : bX1p2 < w14.heap.size + 1 + 1 := (by omega); have zw14_q2 : bX1q2 < w14.heap.size := (by first | omega | (have hz := hb.size; (try simp at hz); omega)); have yw14_q2 : bX1q2 < w14.heap.size + 1 := (by omega); have yyw14_q2 : bX1q2 < w14.heap.size + 1 + 1 := (by omega); have zw14_both : w7.heap.size < w14.heap.size := (by first | omega | (have hz := hb.size; (try simp at hz); omega)); have yw14_both : w7.heap.size < w14.heap.size + 1 := (by omega); have yyw14_both : w7.heap.size < w14.heap.size + 1 + 1 := (by omega); have zw14_far : w9.heap.size < w14.heap.size := (by first | omega | (have hz := hb.size; (try simp at hz); omega)); have yw14_far : w9.heap.size < w14.heap.size + 1 := (by omega); have yyw14_far : w9.heap.size < w14.heap.size + 1 + 1 := (by omega); have sxw14_0 : R2.heap.size ≤ w14.heap.size := (by first | omega | (have hz := hb.size; (try simp at hz); omega)); have sxw14_w10 : w10.heap.size ≤ w14.heap.size := (by first | omega | (have hz := hb.size; (try simp at hz); omega)); have sxw14_w11 : w11.heap.size ≤ w14.heap.size := (by first | omega | (have hz := hb.size; (try simp at hz); omega)); have sxw14_w12 : w12.heap.size ≤ w14.heap.size := (by first | omega | (have hz := hb.size; (try simp at hz); omega)); have sxw14_w13 : w13.heap.size ≤ w14.heap.size := (by first | omega | (have hz := hb.size; (try simp at hz); omega)); have HBw14 : Hid (Below w.heap.size w w14) := (bl_trans (by repeat (first | with_reducible exact Below.refl _ _ | with_reducible exact Hid.out (by assumption) | with_reducible refine Below.setCell ?_ (by first | (simp; done) | omega | (simp <;> omega)) _ | with_reducible refine bl_al ?_ _ | with_reducible apply Below.drew)) hb); clear hb; clear K14)
      | (go_at_call 41; (with_reducible refine (K15.out _).mono ?_); rintro e w15 ⟨rfl, hb⟩; obtain ⟨hclw15, hfrw15⟩ := bcell hb; have zw15_v : w2.heap.size < w15.heap.size := (by first | omega | (have hz := hb.size; (try simp at hz); omega)); have yw15_v : w2.heap.size < w15.heap.size + 1 := (by omega); have yyw15_v : w2.heap.size < w15.heap.size + 1 + 1 := (by omega); have zw15_l : w3.heap.size < w15.heap.size := (by first | omega | (have hz := hb.size; (try simp at hz); omega)); have yw15_l : w3.heap.size < w15.heap.size + 1 := (by omega); have yyw15_l : w3.heap.size < w15.heap.size + 1 + 1 := (by omega); have zw15_w : w3.heap.size + 1 < w15.heap.size := (by first | omega | (have hz := hb.size; (try simp at hz); omega)); have yw15_w : w3.heap.size + 1 < w15.heap.size + 1 := (by omega); have yyw15_w : w3.heap.size + 1 < w15.heap.size + 1 + 1 := (by omega); have zw15_k : w4.heap.size < w15.heap.size := (by first | omega | (have hz := hb.size; (try simp at hz); omega)); have yw15_k : w4.heap.size < w15.heap.size + 1 := (by omega); have yyw15_k : w4.heap.size < w15.heap.size + 1 + 1 := (by omega); have zw15_p2 : bX1p2 < w15.heap.size := (by first | omega | (have hz := hb.size; (try simp at hz); omega)); have yw15_p2 : bX1p2 < w15.heap.size + 1 := (by omega); have yyw15_p2 : bX1p2 < w15.heap.size + 1 + 1 := (by omega); have zw15_q2 : bX1q2 < w15.heap.size := (by first | omega | (have hz := hb.size; (try simp at hz); omega)); have yw15_q2 : bX1q2 < w15.heap.size + 1 := (by omega); have yyw15_q2 : bX1q2 < w15.heap.size + 1 + 1 := (by omega); have zw15_both : w7.heap.size < w15.heap.size := (by first | omega | (have hz := hb.size; (try simp at hz); omega)); have yw15_both : w7.heap.size < w15.heap.size + 1 := (by omega); have yyw15_both : w7.heap.size < w15.heap.size + 1 + 1 := (by omega); have zw15_far : w9.heap.size < w15.heap.size := (by first | omega | (have hz := hb.size; (try simp at hz); omega)); have yw15_far : w9.heap.size < w15.heap.size + 1 := (by omega); have yyw15_far : w9.heap.size < w15.heap.size + 1 + 1 := (by omega); have sxw15_0 : R2.heap.size ≤ w15.heap.size := (by first | omega | (have hz := hb.size; (try simp at hz); omega)); have sxw15_w10 : w10.heap.size ≤ w15.heap.size := (by first | omega | (have hz := hb.size; (try simp at hz); omega)); have sxw15_w11 : w11.heap.size ≤ w15.heap.size := (by first | omega | (have hz := hb.size; (try simp at hz); omega)); have sxw15_w12 : w12.heap.size ≤ w15.heap.size := (by first | omega | (have hz := hb.size; (try simp at hz); omega)); have sxw15_w13 : w13.heap.size ≤ w15.heap.size := (by first | omega | (have hz := hb.size; (try simp at hz); omega)); have sxw15_w14 : w14.heap.size ≤ w15.heap.size := (by first | omega | (have hz := hb.size; (try simp at hz); omega)); have HBw15 : Hid (Below w.heap.size w w15) := (bl_trans (by repeat (first | with_reducible exact Below.refl _ _ | with_reducible exact Hid.out (by assumption) | with_reducible refine Below.setCell ?_ (by first | (simp; done) | omega | (simp <;> omega)) _ | with_reducible refine bl_al ?_ _ | with_reducible apply Below.drew)) hb); clear hb; clear K15)
      | (go_at_call 40; (with_reducible refine (K16.out _).mono ?_); rintro e w16 ⟨rfl, hb⟩; obtain ⟨hclw16, hfrw16⟩ := bcell hb; have zw16_v : w2.heap.size < w16.heap.size := (by first | omega | (have hz := hb.size; (try simp at hz); omega)); have yw16_v : w2.heap.size < w16.heap.size + 1 := (by omega); have yyw16_v : w2.heap.size < w16.heap.size + 1 + 1 := (by omega); have zw16_l : w3.heap.size < w16.heap.size := (by first | omega | (have hz := hb.size; (try simp at hz); omega)); have yw16_l : w3.heap.size < w16.heap.size + 1 := (by omega); have yyw16_l : w3.heap.size < w16.heap.size + 1 + 1 := (by omega); have zw16_w : w3.heap.size + 1 < w16.heap.size := (by first | omega | (have hz := hb.size; (try simp at hz); omega)); have yw16_w : w3.heap.size + 1 < w16.heap.size + 1 := (by omega); have yyw16_w : w3.heap.size + 1 < w16.heap.size + 1 + 1 := (by omega); have zw16_k : w4.heap.size < w16.heap.size := (by first | omega | (have hz := hb.size; (try simp at hz); omega)); have yw16_k : w4.heap.size < w16.heap.size + 1 := (by omega); have yyw16_k : w4.heap.size < w16.heap.size + 1 + 1 := (by omega); have zw16_p2 : bX1p2 < w16.heap.size := (by first | omega | (have hz := hb.size; (try simp at hz); omega)); have yw16_p2 : bX1p2 < w16.heap.size + 1 := (by omega); have yyw16_p2 : bX1p2 < w16.heap.size + 1 + 1 := (by omega); have zw16_q2 : bX1q2 < w16.heap.size := (by first | omega | (have hz := hb.size; (try simp at hz); omega)); have yw16_q2 : bX1q2 < w16.heap.size + 1 := (by omega); have yyw16_q2 : bX1q2 < w16.heap.size + 1 + 1 := (by omega); have zw16_both : w7.heap.size < w16.heap.size := (by first | omega | (have hz := hb.size; (try simp at hz); omega)); have yw16_both : w7.heap.size < w16.heap.size + 1 := (by omega); have yyw16_both : w7.heap.size < w16.heap.size + 1 + 1 := (by omega); have zw16_far : w9.heap.size < w16.heap.size := (by first | omega | (have hz := hb.size; (try simp at hz); omega)); have yw16_far : w9.heap.size < w16.heap.size + 1 := (by omega); have yyw16_far : w9.heap.size < w16.heap.size + 1 + 1 := (by omega); have sxw16_0 : R2.heap.size ≤ w16.heap.size := (by first | omega | (have hz := hb.size; (try simp at hz); omega)); have sxw16_w10 : w10.heap.size ≤ w16.heap.size := (by first | omega | (have hz := hb.size; (try simp at hz); omega)); have sxw16_w11 : w11.heap.size ≤ w16.heap.size := (by first | omega | (have hz := hb.size; (try simp at hz); omega)); have sxw16_w12 : w12.heap.size ≤ w16.heap.size := (by first | omega | (have hz := hb.size; (try simp at hz); omega)); have sxw16_w13 : w13.heap.size ≤ w16.heap.size := (by first | omega | (have hz := hb.size; (try simp at hz); omega)); have sxw16_w14 : w14.heap.size ≤ w16.heap.size := (by first | omega | (have hz := hb.size; (try simp at hz); omega)); have sxw16_w15 : w15.heap.size ≤ w16.heap.size := (by first | omega | (have hz := hb.size; (try simp at hz); omega)); have HBw16 : Hid (Below w.heap.size w w16) := (bl_trans (by repeat (first | with_reducible exact Below.refl _ _ | with_reducible exact Hid.out (by assumption) | with_reducible refine Below.setCell ?_ (by first | (simp; done) | omega | (simp <;> omega)) _ | with_reducible refine bl_al ?_ _ | with_reducible apply Below.drew)) hb); clear hb; clear K16)
      | (go_at_call 42; (with_reducible refine (K17.out _).mono ?_); rintro e w17 ⟨rfl, hb⟩; obtain ⟨hclw17, hfrw17⟩ := bcell hb; have zw17_v : w2.heap.size < w17.heap.size := (by first | omega | (have hz := hb.size; (try simp at hz); omega)); have yw17_v : w2.heap.size < w17.heap.size + 1 := (by omega); have yyw17_v : w2.heap.size < w17.heap.size + 1 + 1 := (by omega); have zw17_l : w3.heap.size < w17.heap.size := (by first | omega | (have hz := hb.size; (try simp at hz); omega)); have yw17_l : w3.heap.size < w17.heap.size + 1 := (by omega); have yyw17_l : w3.heap.size < w17.heap.size + 1 + 1 := (by omega); have zw17_w : w3.heap.size + 1 < w17.heap.size := (by first | omega | (have hz := hb.size; (try simp at hz); omega)); have yw17_w : w3.heap.size + 1 < w17.heap.size + 1 := (by omega); have yyw17_w : w3.heap.size + 1 < w17.heap.size + 1 + 1 := (by omega); have zw17_k : w4.heap.size < w17.heap.size := (by first | omega | (have hz := hb.size; (try simp at hz); omega)); have yw17_k : w4.heap.size < w17.heap.size + 1 := (by omega); have yyw17_k : w4.heap.size < w17.heap.size + 1 + 1 := (by omega); have zw17_p2 : bX1p2 < w17.heap.size := (by first | omega | (have hz := hb.size; (try simp at hz); omega)); have yw17_p2 : bX1p2 < w17.heap.size + 1 := (by omega); have yyw17_p2 : bX1p2 < w17.heap.size + 1 + 1 := (by omega); have zw17_q2 : bX1q2 < w17.heap.size := (by first | omega | (have hz := hb.size; (try simp at hz); omega)); have yw17_q2 : bX1q2 < w17.heap.size + 1 := (by omega); have yyw17_q2 : bX1q2 < w17.heap.size + 1 + 1 := (by omega); have zw17_both : w7.heap.size < w17.heap.size := (by first | omega | (have hz := hb.size; (try simp at hz); omega)); have yw17_both : w7.heap.size < w17.heap.size + 1 := (by omega); have yyw17_both : w7.heap.size < w17.heap.size + 1 + 1 := (by omega); have zw17_far : w9.heap.size < w17.heap.size := (by first | omega | (have hz := hb.size; (try simp at hz); omega)); have yw17_far : w9.heap.size < w17.heap.size + 1 := (by omega); have yyw17_far : w9.heap.size < w17.heap.size + 1 + 1 := (by omega); have sxw17_0 : R2.heap.size ≤ w17.heap.size := (by first | omega | (have hz := hb.size; (try simp at hz); omega)); have sxw17_w10 : w10.heap.size ≤ w17.heap.size := (by first | omega | (have hz := hb.size; (try simp at hz); omega)); have sxw17_w11 : w11.heap.size ≤ w17.heap.size := (by first | omega | (have hz := hb.size; (try simp at hz); omega)); have sxw17_w12 : w12.heap.size ≤ w17.heap.size := (by first | omega | (have hz := hb.size; (try simp at hz); omega)); have sxw17_w13 : w13.heap.size ≤ w17.heap.size := (by first | omega | (have hz := hb.size; (try simp at hz); omega)); have sxw17_w14 : w14.heap.size ≤ w17.heap.size := (by first | omega | (have hz := hb.size; (try simp at hz); omega)); have sxw17_w15 : w15.heap.size ≤ w17.heap.size := (by first | omega | (have hz := hb.size; (try simp at hz); omega)); have sxw17_w16 : w16.heap.size ≤ w17.heap.size := (by first | omega | (have hz := hb.size; (try simp at hz); omega)); have HBw17 : Hid (Below w.heap.size w w17) := (bl_trans (by repeat (first | with_reducible exact Below.refl _ _ | with_reducible exact Hid.out (by assumption) | with_reducible refine Below.setCell ?_ (by first | (simp; done) | omega | (simp <;> omega)) _ | with_reducible refine bl_al ?_ _ | with_reducible apply Below.drew)) hb); clear hb; clear K17)
      | (go_at_call 21; (with_reducible refine (K18.out _).mono ?_); rintro e w18 ⟨rfl, hb⟩; obtain ⟨hclw18, hfrw18⟩ := bcell hb; have zw18_v : w2.heap.size < w18.heap.size := (by first | omega | (have hz := hb.size; (try simp at hz); omega)); have yw18_v : w2.heap.size < w18.heap.size + 1 := (by omega); have yyw18_v : w2.heap.size < w18.heap.size + 1 + 1 := (by omega); have zw18_l : w3.heap.size < w18.heap.size := (by first | omega | (have hz := hb.size; (try simp at hz); omega)); have yw18_l : w3.heap.size < w18.heap.size + 1 := (by omega); have yyw18_l : w3.heap.size < w18.heap.size + 1 + 1 := (by omega); have zw18_w : w3.heap.size + 1 < w18.heap.size := (by first | omega | (have hz := hb.size; (try simp at hz); omega)); have yw18_w : w3.heap.size + 1 < w18.heap.size + 1 := (by omega); have yyw18_w : w3.heap.size + 1 < w18.heap.size + 1 + 1 := (by omega); have zw18_k : w4.heap.size < w18.heap.size := (by first | omega | (have hz := hb.size; (try simp at hz); omega)); have yw18_k : w4.heap.size < w18.heap.size + 1 := (by omega); have yyw18_k : w4.heap.size < w18.heap.size + 1 + 1 := (by omega); have zw18_p2 : bX1p2 < w18.heap.size := (by first | omega | (have hz := hb.size; (try simp at hz); omega)); have yw18_p2 : bX1p2 < w18.heap.size + 1 := (by omega); have yyw18_p2 : bX1p2 < w18.heap.size + 1 + 1 := (by omega); have zw18_q2 : bX1q2 < w18.heap.size := (by first | omega | (have hz := hb.size; (try simp at hz); omega)); have yw18_q2 : bX1q2 < w18.heap.size + 1 := (by omega); have yyw18_q2 : bX1q2 < w18.heap.size + 1 + 1 := (by omega); have zw18_both : w7.heap.size < w18.heap.size := (by first | omega | (have hz := hb.size; (try simp at hz); omega)); have yw18_both : w7.heap.size < w18.heap.size + 1 := (by omega); have yyw18_both : w7.heap.size < w18.heap.size + 1 + 1 := (by omega); have zw18_far : w9.heap.size < w18.heap.size := (by first | omega | (have hz := hb.size; (try simp at hz); omega)); have yw18_far : w9.heap.size < w18.heap.size + 1 := (by omega); have yyw18_far : w9.heap.size < w18.heap.size + 1 + 1 := (by omega); have sxw18_0 : R2.heap.size ≤ w18.heap.size := (by first | omega | (have hz := hb.size; (try simp at hz); omega)); have sxw18_w10 : w10.heap.size ≤ w18.heap.size := (by first | omega | (have hz := hb.size; (try simp at hz); omega)); have sxw18_w11 : w11.heap.size ≤ w18.heap.size := (by first | omega | (have hz := hb.size; (try simp at hz); omega)); have sxw18_w12 : w12.heap.size ≤ w18.heap.size := (by first | omega | (have hz := hb.size; (try simp at hz); omega)); have sxw18_w13 : w13.heap.size ≤ w18.heap.size := (by first | omega | (have hz := hb.size; (try simp at hz); omega)); have sxw18_w14 : w14.heap.size ≤ w18.heap.size := (by first | omega | (have hz := hb.size; (try simp at hz); omega)); have sxw18_w15 : w15.heap.size ≤ w18.heap.size := (by first | omega | (have hz := hb.size; (try simp at hz); omega)); have sxw18_w16 : w16.heap.size ≤ w18.heap.size := (by first | omega | (have hz := hb.size; (try simp at hz); omega)); have sxw18_w17 : w17.heap.size ≤ w18.heap.size := (by first | omega | (have hz := hb.size; (try simp at hz); omega)); have HBw18 : Hid (Below w.heap.size w w18) := (bl_trans (by repeat (first | with_reducible exact Below.refl _ _ | with_reducible exact Hid.out (by assumption) | with_reducible refine Below.setCell ?_ (by first | (simp; done) | omega | (simp <;> omega)) _ | with_reducible refine bl_al ?_ _ | with_reducible apply Below.drew)) hb); clear hb; clear K18))
  rename_i hHeld
  clear hHeld
  go_wp2_with fail
  go_returns
  exact ⟨rfl, by repeat (first | with_reducible exact Below.refl _ _ | with_reducible exact Hid.out (by assumption) | with_reducible refine Below.setCell ?_ (by first | (simp; done) | omega | (simp <;> omega)) _ | with_reducible refine bl_al ?_ _ | with_reducible apply Below.drew)⟩
theorem len_up (X J B : Nat) (h : B < J * J) (hX : X * X < B + 9223372036854775808) : X + 1 ≤ J + 8589934592 := by
  rcases Nat.lt_or_ge X (J + 8589934592) with c | c
  · exact c
  · have m := Nat.mul_le_mul c c
    rw [Nat.add_mul, Nat.mul_add, Nat.mul_add] at m
    generalize J * J = JJ at *
    generalize X * X = XX at *
    omega
theorem len_down (U K B : Nat) (h : K * K ≤ B) (hU : B ≤ U * U + 18446744073709551616) : K ≤ U + 8589934592 := by
  rcases Nat.lt_or_ge (U + 8589934592) K with c | c
  · have c2 : U + 8589934592 ≤ K := by omega
    have m := Nat.mul_le_mul c2 c2
    rw [Nat.add_mul, Nat.mul_add, Nat.mul_add] at m
    generalize U * U = UU at *
    generalize K * K = KK at *
    omega
  · exact c
theorem pair_sq (P Q : Nat) : P * P + Q * Q ≤ (P + Q) * (P + Q) := by
  rw [Nat.add_mul, Nat.mul_add, Nat.mul_add]; omega
theorem len_bounds (P Q K S : Nat) (hS : S = (P * P + 9223372036854775808) / 18446744073709551616 + (Q * Q + 9223372036854775808) / 18446744073709551616) (h1 : K * K ≤ S * 18446744073709551616) (h2 : S * 18446744073709551616 < (K + 1) * (K + 1)) : P ≤ K + 8589934592 ∧ Q ≤ K + 8589934592 ∧ K ≤ P + Q + 8589934592 := by
  have u1 := len_up P (K + 1) _ h2 (by generalize P * P = PP at *; generalize Q * Q = QQ at *; omega)
  have u2 := len_up Q (K + 1) _ h2 (by generalize P * P = PP at *; generalize Q * Q = QQ at *; omega)
  have u3 := len_down (P + Q) K _ h1 (by have := pair_sq P Q; generalize P * P = PP at *; generalize Q * Q = QQ at *; generalize (P + Q) * (P + Q) = UU at *; omega)
  exact ⟨by omega, by omega, u3⟩
theorem two_sq (C : Int) : ((-2) * C) * ((-2) * C) = 4 * (C * C) := by
  rw [Int.mul_assoc, ← Int.mul_assoc C (-2) C, Int.mul_comm C (-2), Int.mul_assoc (-2) C C]
  generalize C * C = D
  omega
theorem sq_id (N M C : Int) (h : C * C = N * M) : (N - M) * (N - M) + ((-2) * C) * ((-2) * C) = (N + M) * (N + M) := by
  rw [two_sq, h, Int.sub_mul, Int.mul_sub, Int.mul_sub, Int.add_mul, Int.mul_add, Int.mul_add, Int.mul_comm M N]
  generalize N * M = X; generalize N * N = Y; generalize M * M = Z
  omega
theorem mulr_sq2 (x : Int) : mulr x x = (((x.natAbs * x.natAbs + 9223372036854775808) / 18446744073709551616 : Nat) : Int) := by
  unfold mulr sg
  have : (decide (x < 0) != decide (x < 0)) = false := by cases decide (x < 0) <;> rfl
  rw [this]; rfl
/-- A length, where the products are no more than this. -/
theorem lv_parts (X Y : Int) (S : Nat) (hS : S = (X.natAbs * X.natAbs + 9223372036854775808) / 18446744073709551616 + (Y.natAbs * Y.natAbs + 9223372036854775808) / 18446744073709551616) (hl : S < 170141183460469231731687303715884105728) :
    de (mulr X X) (mulr Y Y) = 0 ∧ lv X Y = ((isq (S * 18446744073709551616) : Nat) : Int) := by
  have hx := mulr_sq2 X
  have hy := mulr_sq2 Y
  have hs : mulr X X + mulr Y Y = (S : Int) := by rw [hx, hy, hS]; omega
  have e : de (mulr X X) (mulr Y Y) = 0 := by
    unfold de
    rw [if_pos (oe_in (by unfold My; omega)), if_pos (oe_in (by unfold My; omega)), hs]
    exact oe_in (by unfold My; omega)
  refine ⟨e, ?_⟩
  unfold lv
  rw [if_pos e, (de_zero e).2.2.2, hs]
  unfold sqr
  rw [Int.toNat_natCast]
theorem sq_le {a A : Nat} (h : a ≤ A) : a * a ≤ A * A := Nat.mul_le_mul h h
theorem isq_le2 (n : Nat) {k : Nat} (h : n < k * k) : isq n < k := isq_lt h
theorem triple (a b : Nat) (ha : a < 20000) (hb : b < 20000) : de (mulr (((a : Int) * a - (b : Int) * b) * 18446744073709551616) (((a : Int) * a - (b : Int) * b) * 18446744073709551616)) (mulr (((-2) * (a : Int) * b) * 18446744073709551616) (((-2) * (a : Int) * b) * 18446744073709551616)) = 0 ∧ lv (((a : Int) * a - (b : Int) * b) * 18446744073709551616) (((-2) * (a : Int) * b) * 18446744073709551616) = ((a : Int) * a + (b : Int) * b) * 18446744073709551616 := by
  have q1 := sq_le (show a ≤ 19999 by omega)
  have q2 := sq_le (show b ≤ 19999 by omega)
  have x1 := mulr_int2 ((a : Int) * a - (b : Int) * b) ((a : Int) * a - (b : Int) * b)
  have x2 := mulr_int2 ((-2) * (a : Int) * b) ((-2) * (a : Int) * b)
  have hc : ((a : Int) * b) * ((a : Int) * b) = ((a : Int) * a) * ((b : Int) * b) := by
    have h : (a * b) * (a * b) = (a * a) * (b * b) := Nat.mul_mul_mul_comm a b a b
    have h2 := congrArg (fun n : Nat => (n : Int)) h
    simpa using h2
  have s : ((a : Int) * a - (b : Int) * b) * ((a : Int) * a - (b : Int) * b) + ((-2) * (a : Int) * b) * ((-2) * (a : Int) * b) = ((a : Int) * a + (b : Int) * b) * ((a : Int) * a + (b : Int) * b) := by
    rw [Int.mul_assoc (-2) (a : Int) b]
    exact sq_id _ _ _ hc
  have r := sq_le (show a * a + b * b ≤ 799920002 by omega)
  obtain ⟨T, hT⟩ : ∃ T : Nat, T = a * a + b * b := ⟨_, rfl⟩
  have cT : (a : Int) * a + (b : Int) * b = (T : Int) := by rw [hT]; simp
  rw [cT] at s ⊢
  rw [← hT] at r
  have n1 : 0 ≤ ((a : Int) * a - (b : Int) * b) * ((a : Int) * a - (b : Int) * b) := by rw [← Int.natAbs_mul_self]; exact Int.natCast_nonneg _
  have n2 : 0 ≤ ((-2) * (a : Int) * b) * ((-2) * (a : Int) * b) := by rw [← Int.natAbs_mul_self]; exact Int.natCast_nonneg _
  have cr : (T : Int) * (T : Int) = ((T * T : Nat) : Int) := by simp
  generalize ((a : Int) * a - (b : Int) * b) * ((a : Int) * a - (b : Int) * b) = U1 at *
  generalize ((-2) * (a : Int) * b) * ((-2) * (a : Int) * b) = U2 at *
  have hs : mulr (((a : Int) * a - (b : Int) * b) * 18446744073709551616) (((a : Int) * a - (b : Int) * b) * 18446744073709551616) + mulr (((-2) * (a : Int) * b) * 18446744073709551616) (((-2) * (a : Int) * b) * 18446744073709551616) = ((T * T * 18446744073709551616 : Nat) : Int) := by
    rw [x1, x2, ← Int.add_mul, s, cr]; simp
  have e : de (mulr (((a : Int) * a - (b : Int) * b) * 18446744073709551616) (((a : Int) * a - (b : Int) * b) * 18446744073709551616)) (mulr (((-2) * (a : Int) * b) * 18446744073709551616) (((-2) * (a : Int) * b) * 18446744073709551616)) = 0 := by
    unfold de
    rw [if_pos (oe_in (by rw [x1]; unfold My; omega)), if_pos (oe_in (by rw [x2]; unfold My; omega)), hs]
    exact oe_in (by unfold My; omega)
  refine ⟨e, ?_⟩
  unfold lv
  rw [if_pos e, (de_zero e).2.2.2, hs]
  unfold sqr
  rw [Int.toNat_natCast]
  have q : isq (T * T * 18446744073709551616 * 18446744073709551616) = T * 18446744073709551616 := isq_of (by rw [Nat.mul_mul_mul_comm, ← Nat.mul_assoc]; exact Nat.le_refl _) (by
    have : (T * 18446744073709551616 + 1) * (T * 18446744073709551616 + 1) = T * T * 18446744073709551616 * 18446744073709551616 + 2 * (T * 18446744073709551616) + 1 := by
      rw [Nat.add_mul, Nat.mul_add, Nat.mul_mul_mul_comm, ← Nat.mul_assoc (T * T)]; omega
    omega)
  rw [q]; simp
theorem vecLengths_walk (m n x y : Int) (m0 : 0 ≤ m) (m1 : m < 65536) (n0 : 0 ≤ n) (n1 : n < 65536) (hx : -2147483648 ≤ x ∧ x < 2147483648) (hy : -2147483648 ≤ y ∧ y < 2147483648) (w : World) :
    Calls Try.prog 10 #[.int .u16 m, .int .u16 n, .int .i32 x, .int .i32 y] w fun e w' => e = .returned (.bool true) ∧ Below w.heap.size w w' := by
  obtain ⟨a, ha⟩ := Int.eq_ofNat_of_zero_le (Int.tmod_nonneg 20000 m0)
  obtain ⟨b, hb⟩ := Int.eq_ofNat_of_zero_le (Int.tmod_nonneg 20000 n0)
  have a1 : a < 20000 := by have := Int.tmod_lt_of_pos m (show (0 : Int) < 20000 by decide); omega
  have b1 : b < 20000 := by have := Int.tmod_lt_of_pos n (show (0 : Int) < 20000 by decide); omega
  obtain ⟨T1, T2⟩ := triple a b a1 b1
  have pa := sq_le (show a ≤ 19999 by omega)
  have pb := sq_le (show b ≤ 19999 by omega)
  have pab := Nat.mul_le_mul (show a ≤ 19999 by omega) (show b ≤ 19999 by omega)
  have ca : (a : Int) * a = ((a * a : Nat) : Int) := by simp
  have cb : (b : Int) * b = ((b * b : Nat) : Int) := by simp
  have cab : (-2) * (a : Int) * b = -2 * ((a * b : Nat) : Int) := by rw [Int.mul_assoc]; simp
  have i1 := rint_any ((a : Int) * a - (b : Int) * b)
  have i2 := rint_any ((-2) * (a : Int) * b)
  have i3 := rint_any ((a : Int) * a + (b : Int) * b)
  rw [int_small (by rw [ca, cb]; omega)] at i1 i3
  rw [int_small (by rw [cab]; omega)] at i2
  have L1 := vlen_any (((a : Int) * a - (b : Int) * b) * 18446744073709551616) (((-2) * (a : Int) * b) * 18446744073709551616) (my_small (by rw [ca, cb]; omega)) (my_small (by rw [cab]; omega))
  rw [T1, T2] at L1
  -- the other way
  obtain ⟨X, hX⟩ : ∃ X : Int, X = x / 256 * 18446744073709551616 + y % 18446744073709551616 := ⟨_, rfl⟩
  obtain ⟨Y, hY⟩ : ∃ Y : Int, Y = y / 256 * 18446744073709551616 + x % 18446744073709551616 := ⟨_, rfl⟩
  have fX : fh X = x / 256 ∧ fl X = y % 18446744073709551616 := by unfold fh fl; omega
  have fY : fh Y = y / 256 ∧ fl Y = x % 18446744073709551616 := by unfold fh fl; omega
  have bX : X.natAbs ≤ 154742504910672534362390528 := by omega
  have bY : Y.natAbs ≤ 154742504910672534362390528 := by omega
  have mX : My X := by unfold My; omega
  have mY : My Y := by unfold My; omega
  have sX := sq_le bX
  have sY := sq_le bY
  obtain ⟨S, hS⟩ : ∃ S, S = (X.natAbs * X.natAbs + 9223372036854775808) / 18446744073709551616 + (Y.natAbs * Y.natAbs + 9223372036854775808) / 18446744073709551616 := ⟨_, rfl⟩
  have hl : S < 170141183460469231731687303715884105728 := by rw [hS]; generalize X.natAbs * X.natAbs = XX at *; generalize Y.natAbs * Y.natAbs = YY at *; omega
  obtain ⟨D, LV⟩ := lv_parts X Y S hS hl
  have L2 := vlen_any X Y mX mY
  obtain ⟨K, hK⟩ : ∃ K, K = isq (S * 18446744073709551616) := ⟨_, rfl⟩
  rw [← hK] at LV
  rw [D, LV] at L2
  obtain ⟨k1, k2⟩ := isq_spec (S * 18446744073709551616)
  rw [← hK] at k1 k2
  obtain ⟨g1, g2, g3⟩ := len_bounds X.natAbs Y.natAbs K S hS k1 k2
  have mK : My (K : Int) := by unfold My; omega
  have A5 := rmag_any X mX
  have A6 := rmag_any Y mY
  have A8 := rmag_any (K : Int) mK
  rw [Int.natAbs_natCast] at A8
  have z : Wd 0 := ⟨by omega, by omega⟩
  have e33 : Wd 8589934592 := ⟨by omega, by omega⟩
  have A7 := addTwo_any _ _ _ _ (wd_wd X.natAbs 1) (wd_wd X.natAbs 0) (wd_wd Y.natAbs 1) (wd_wd Y.natAbs 0)
  have A9 := addTwo_any _ _ _ _ (wd_wd K 1) (wd_wd K 0) z e33
  have lt1 : X.natAbs < 340282366920938463463374607431768211456 := by omega
  have lt2 : Y.natAbs < 340282366920938463463374607431768211456 := by omega
  have lt3 : K < 340282366920938463463374607431768211456 := by omega
  have v33 : v2 0 8589934592 = 8589934592 := by unfold v2; omega
  rw [v2_wd, v2_wd, Nat.mod_eq_of_lt lt1, Nat.mod_eq_of_lt lt2] at A7
  rw [v2_wd, Nat.mod_eq_of_lt lt3, v33] at A9
  have A13 := less_any _ _ _ _ (wd_wd (K + 8589934592) 1) (wd_wd (K + 8589934592) 0) (wd_wd X.natAbs 1) (wd_wd X.natAbs 0)
  have A14 := less_any _ _ _ _ (wd_wd (K + 8589934592) 1) (wd_wd (K + 8589934592) 0) (wd_wd Y.natAbs 1) (wd_wd Y.natAbs 0)
  have A15 := addTwo_any _ _ _ _ (wd_wd (X.natAbs + Y.natAbs) 1) (wd_wd (X.natAbs + Y.natAbs) 0) z e33
  have lt4 : X.natAbs + Y.natAbs < 340282366920938463463374607431768211456 := by omega
  rw [v2_wd, Nat.mod_eq_of_lt lt4, v33] at A15
  have A17 := less_any _ _ _ _ (wd_wd (X.natAbs + Y.natAbs + 8589934592) 1) (wd_wd (X.natAbs + Y.natAbs + 8589934592) 0) (wd_wd K 1) (wd_wd K 0)
  have lt5 : K + 8589934592 < 340282366920938463463374607431768211456 := by omega
  have lt6 : X.natAbs + Y.natAbs + 8589934592 < 340282366920938463463374607431768211456 := by omega
  rw [v2_wd, v2_wd, Nat.mod_eq_of_lt lt5, Nat.mod_eq_of_lt lt1, decide_eq_false (by omega)] at A13
  rw [v2_wd, v2_wd, Nat.mod_eq_of_lt lt5, Nat.mod_eq_of_lt lt2, decide_eq_false (by omega)] at A14
  rw [v2_wd, v2_wd, Nat.mod_eq_of_lt lt6, Nat.mod_eq_of_lt lt3, decide_eq_false (by omega)] at A17
  have L2' : ∀ W, Calls Try.prog 27 #[.agg #[.int .i64 (x / 256), .int .u64 (y % 18446744073709551616), .int .i64 (y / 256), .int .u64 (x % 18446744073709551616)]] W fun e w' => e = .returned (.tuple #[.agg #[.int .i64 (fh (K : Int)), .int .u64 (fl (K : Int))], .int .i64 0]) ∧ Below W.heap.size W w' := by
    intro W; have h := L2 W; unfold vec at h; rw [fX.1, fX.2, fY.1, fY.2] at h; exact h
  rw [fX.1, fX.2] at A5
  rw [fY.1, fY.2] at A6
  exact vecLengths_core m n x y a b ((a : Int) * a) ((b : Int) * b) ((a : Int) * a - (b : Int) * b) ((-2) * (a : Int) * b) ((-2) * (a : Int)) ((a : Int) * a + (b : Int) * b) (x / 256) (y / 256) (x % 18446744073709551616) (y % 18446744073709551616) _ _ _ _ _ _ _ _ _ _ _ _ _ _ _ _ _ _ _ _ _ _ _ m0 m1 n0 n1 hx hy ha hb
    (IntWalk.i64_in _ (by rw [ca]; omega)) (IntWalk.i64_in _ (by rw [cb]; omega)) (IntWalk.i64_in _ (by rw [ca, cb]; omega)) (IntWalk.i64_in _ (by omega)) (IntWalk.i64_in _ (by rw [cab]; omega)) (IntWalk.i64_in _ (by rw [ca, cb]; omega)) rfl rfl (by rw [wrap_u64]) (by rw [wrap_u64]) w
    i1 i2 L1 L2' A5 A6 A7 A8 A9 (num_any 0) (num_any 0) i3 A13 A14 A15 A8 A17 vawake_any
theorem wf_u16 {n : Int} (h : (Lit.int .u16 n).wf = true) : 0 ≤ n ∧ n < 65536 := by
  simp [Lit.wf, IntKind.min, IntKind.max, IntKind.bits, IntKind.signed] at h; omega
theorem wf_i32 {n : Int} (h : (Lit.int .i32 n).wf = true) : -2147483648 ≤ n ∧ n < 2147483648 := by
  simp [Lit.wf, IntKind.min, IntKind.max, IntKind.bits, IntKind.signed] at h; omega
open Go.ChangeShapes Go.WideShapes Go.ChangeAt Go.RowKit Go.Joins
set_option maxRecDepth 100000 in
theorem vecLengths_lifted (os : Os) (started : os.Started) (H : Type) (enc : TypeId × Value → H) :
    ReturnsInHanded {} Try.checked os 10 .any (Rows.vecLengthsSpec.pre6 enc Try.prog Try.f10 Rows.vecLengthsRow.domain false) (Rows.vecLengthsSpec.post enc Try.prog Try.f10 false true false false) := by
  refine returnsInHanded_of_change (C := Try.checked) Try.own started (by kernel_rfl) Try.func10
    (ChangeSpec.witness6 (enc := enc) (C := Try.checked) false ⟨#[], #[.int .u16 0, .int .u16 0, .int .i32 0, .int .i32 0], []⟩ 8 (by kernel_rfl) (by kernel_rfl) (by kernel_rfl) (by kernel_rfl)) ?_
  intro W base args ds gs before hval0 hW hcnd _
  have hval : ∀ (j : Nat) t v, Try.f10.params[j]? = some t → args[j]? = some v → Value.okWide Try.prog W .any base t v := hval0
  have hW' := hW
  obtain ⟨p, q, hA0, hV, rfl, hfz, hnd⟩ := hW
  have hA : DataW.TrodAll enc Try.prog W 0 (fun _ => true) true Try.f10.params.toList args.toList ds p := hA0
  rw [Try.params10] at hA hval
  obtain ⟨v0, v1, v2, v3, d0, d1, d2, d3, p0, p1, p2, p3, rfl, rfl, rfl, h0, h1, h2, h3⟩ := trodAll_four hA
  obtain ⟨rfl, rfl⟩ := trodVars_none hV
  obtain ⟨m, rfl, rfl, rfl, k00⟩ := open_int Try.underlying65 (hval 0 65 v0 rfl rfl) h0
  obtain ⟨n, rfl, rfl, rfl, k10⟩ := open_int Try.underlying65 (hval 1 65 v1 rfl rfl) h1
  obtain ⟨x, rfl, rfl, rfl, k20⟩ := open_int Try.underlying21 (hval 2 21 v2 rfl rfl) h2
  obtain ⟨y, rfl, rfl, rfl, k30⟩ := open_int Try.underlying21 (hval 3 21 v3 rfl rfl) h3
  clear hA0 hval0
  simp only [List.append_nil] at hW'
  refine (vecLengths_walk m n x y (wf_u16 k00).1 (wf_u16 k00).2 (wf_u16 k10).1 (wf_u16 k10).2 (wf_i32 k20) (wf_i32 k30) W).mono fun e W' ⟨he, hb⟩ => ?_
  subst he
  exact ⟨_, rfl, _, _, _, [], [], [], hW', trodAll_mk1 (shut_bool Try.underlying4 _), trodAll_mk4 (shut_int Try.underlying65 k00) (shut_int Try.underlying65 k10) (shut_int Try.underlying21 k20) (shut_int Try.underlying21 k30), rfl, hb.frame _, fun h => by cases h⟩
theorem vecLengths_holds : Rows.VecLengthsSaid :=
  OpenClaim.holds_of_wide 10 Try.f10 rfl rfl rfl rfl rfl rfl rfl ⟨rfl, rfl, rfl, rfl, rfl⟩ rfl rfl rfl rfl rfl (by kernel_rfl) Try.func10 (by kernel_rfl)
    (of_decide_eq_true (by kernel_rfl)) (by unfold Func.isWrapper; first | (rw [if_pos (by decide +kernel)]; kernel_rfl) | (rw [if_neg (by decide +kernel)]; exact ⟨rfl, rfl⟩))
    (fun os started H enc _ => vecLengths_lifted os started H enc)
end Go.Proofs.Ytgiamnehncbihaa
