/- Turned by one angle and by another one a way is nearly where both together turn it; it stays as long, nearly: at any commit whose code this is, for every two whole numbers of sixteen bits and every two angles of sixteen bits. -/
import Derived.Test.YtmelipbanbihdaaTurnNumM
import Derived.Test.YtmelipbanbihdaaTurnMirrorM
import Derived.Test.YtmelipbanbihdaaFixOpen
import Derived.Test.YtmelipbanbihdaaTurnBaseM
namespace Go.Proofs.Ytmelipbanbihdaa
open Go.RowKit
set_option maxRecDepth 20000 in
set_option maxHeartbeats 60000000 in
theorem turnTwice_core (ph pl qh ql mh ml nh nl wxh wxl wyh wyl uxh uxl uyh uyl zxh zxl zyh zyl x y a b s em en : Int) (w1 : IntKind.i64.wrap x = x) (w2 : IntKind.i64.wrap y = y) (w3 : IntKind.i64.wrap a = a) (w4 : IntKind.i64.wrap b = b) (w5 : IntKind.i64.wrap (a + b) = s) (w : World)
    (C1 : ∀ W, Calls Try.prog 22 #[.int .i64 x] W fun e w' => e = .returned (.agg #[.int .i64 ph, .int .u64 pl]) ∧ Below W.heap.size W w')
    (C2 : ∀ W, Calls Try.prog 22 #[.int .i64 y] W fun e w' => e = .returned (.agg #[.int .i64 qh, .int .u64 ql]) ∧ Below W.heap.size W w')
    (C3 : ∀ W, Calls Try.prog 12 #[.agg #[.int .i64 ph, .int .u64 pl, .int .i64 qh, .int .u64 ql], .int .i64 a] W fun e w' => e = .returned (.tuple #[.agg #[.int .i64 wxh, .int .u64 wxl, .int .i64 wyh, .int .u64 wyl], .int .i64 0]) ∧ Below W.heap.size W w')
    (C4 : ∀ W, Calls Try.prog 12 #[.agg #[.int .i64 wxh, .int .u64 wxl, .int .i64 wyh, .int .u64 wyl], .int .i64 b] W fun e w' => e = .returned (.tuple #[.agg #[.int .i64 uxh, .int .u64 uxl, .int .i64 uyh, .int .u64 uyl], .int .i64 0]) ∧ Below W.heap.size W w')
    (C5 : ∀ W, Calls Try.prog 12 #[.agg #[.int .i64 ph, .int .u64 pl, .int .i64 qh, .int .u64 ql], .int .i64 s] W fun e w' => e = .returned (.tuple #[.agg #[.int .i64 zxh, .int .u64 zxl, .int .i64 zyh, .int .u64 zyl], .int .i64 0]) ∧ Below W.heap.size W w')
    (C6 : ∀ W, Calls Try.prog 27 #[.agg #[.int .i64 ph, .int .u64 pl, .int .i64 qh, .int .u64 ql]] W fun e w' => e = .returned (.agg #[.int .i64 mh, .int .u64 ml, .int .i64 em]) ∧ Below W.heap.size W w')
    (C7 : ∀ W, Calls Try.prog 27 #[.agg #[.int .i64 wxh, .int .u64 wxl, .int .i64 wyh, .int .u64 wyl]] W fun e w' => e = .returned (.agg #[.int .i64 nh, .int .u64 nl, .int .i64 en]) ∧ Below W.heap.size W w')
    (C8 : ∀ W, Calls Try.prog 14 #[.int .i64 0] W fun e w' => e = .returned (.int .i64 0) ∧ Below W.heap.size W w')
    (C9 : ∀ W, Calls Try.prog 28 #[.agg #[.int .i64 uxh, .int .u64 uxl], .agg #[.int .i64 zxh, .int .u64 zxl], .int .i64 45] W fun e w' => e = .returned (.bool true) ∧ Below W.heap.size W w')
    (C10 : ∀ W, Calls Try.prog 28 #[.agg #[.int .i64 uyh, .int .u64 uyl], .agg #[.int .i64 zyh, .int .u64 zyl], .int .i64 45] W fun e w' => e = .returned (.bool true) ∧ Below W.heap.size W w')
    (C11 : ∀ W, Calls Try.prog 28 #[.agg #[.int .i64 mh, .int .u64 ml], .agg #[.int .i64 nh, .int .u64 nl], .int .i64 45] W fun e w' => e = .returned (.bool true) ∧ Below W.heap.size W w')
    (C12 : ∀ W, Calls Try.prog 11 #[] W fun e w' => e = .returned (.bool true) ∧ Below W.heap.size W w') :
    Calls Try.prog 6 #[.int .i16 x, .int .i16 y, .int .u16 a, .int .u16 b] w fun e w' => e = .returned (.bool true) ∧ Below w.heap.size w w' := by
  have K1 := Lib.hid C1; have K2 := Lib.hid C2; have K3 := Lib.hid C3; have K4 := Lib.hid C4; have K5 := Lib.hid C5; have K6 := Lib.hid C6; have K7 := Lib.hid C7; have K8 := Lib.hid C8; have K9 := Lib.hid C9; have K10 := Lib.hid C10; have K11 := Lib.hid C11; have K12 := Lib.hid C12
  clear C1 C2 C3 C4 C5 C6 C7 C8 C9 C10 C11 C12
  have wz : IntKind.i64.wrap 0 = 0 := by decide
  go_enter Try.func6, Try.ntmps6
  go_wp2_with fail
  (with_reducible refine (K1.out _).mono ?_); rintro e w1 ⟨rfl, hb⟩; obtain ⟨hclw1, hfrw1⟩ := bcell hb; have sxw1_0 : w.heap.size ≤ w1.heap.size := (by first | omega | (have hz := hb.size; (try simp at hz); omega)); have HBw1 : Hid (Below w.heap.size w w1) := (bl_trans (by repeat (first | with_reducible exact Below.refl _ _ | with_reducible exact Hid.out (by assumption) | with_reducible refine Below.setCell ?_ (by first | (simp; done) | omega | (simp <;> omega)) _ | with_reducible refine bl_al ?_ _ | with_reducible apply Below.drew)) hb); clear hb
  go_wp2_with fail
  (with_reducible refine (K2.out _).mono ?_); rintro e w2 ⟨rfl, hb⟩; obtain ⟨hclw2, hfrw2⟩ := bcell hb; have sxw2_0 : w1.heap.size ≤ w2.heap.size := (by first | omega | (have hz := hb.size; (try simp at hz); omega)); have HBw2 : Hid (Below w.heap.size w w2) := (bl_trans (by repeat (first | with_reducible exact Below.refl _ _ | with_reducible exact Hid.out (by assumption) | with_reducible refine Below.setCell ?_ (by first | (simp; done) | omega | (simp <;> omega)) _ | with_reducible refine bl_al ?_ _ | with_reducible apply Below.drew)) hb); clear hb
  go_wp2_with fail
  (with_reducible refine (K3.out _).mono ?_); rintro e w3 ⟨rfl, hb⟩; obtain ⟨hclw3, hfrw3⟩ := bcell hb; have zw3_v : w2.heap.size < w3.heap.size := (by first | omega | (have hz := hb.size; (try simp at hz); omega)); have yw3_v : w2.heap.size < w3.heap.size + 1 := (by omega); have yyw3_v : w2.heap.size < w3.heap.size + 1 + 1 := (by omega); have sxw3_0 : w2.heap.size + 1 ≤ w3.heap.size := (by first | omega | (have hz := hb.size; (try simp at hz); omega)); have HBw3 : Hid (Below w.heap.size w w3) := (bl_trans (by repeat (first | with_reducible exact Below.refl _ _ | with_reducible exact Hid.out (by assumption) | with_reducible refine Below.setCell ?_ (by first | (simp; done) | omega | (simp <;> omega)) _ | with_reducible refine bl_al ?_ _ | with_reducible apply Below.drew)) hb); clear hb
  go_wp2_with fail
  (with_reducible refine (K4.out _).mono ?_); rintro e w4 ⟨rfl, hb⟩; obtain ⟨hclw4, hfrw4⟩ := bcell hb; have zw4_v : w2.heap.size < w4.heap.size := (by first | omega | (have hz := hb.size; (try simp at hz); omega)); have yw4_v : w2.heap.size < w4.heap.size + 1 := (by omega); have yyw4_v : w2.heap.size < w4.heap.size + 1 + 1 := (by omega); have zw4_w : w3.heap.size < w4.heap.size := (by first | omega | (have hz := hb.size; (try simp at hz); omega)); have yw4_w : w3.heap.size < w4.heap.size + 1 := (by omega); have yyw4_w : w3.heap.size < w4.heap.size + 1 + 1 := (by omega); have sxw4_0 : w3.heap.size + 1 ≤ w4.heap.size := (by first | omega | (have hz := hb.size; (try simp at hz); omega)); have HBw4 : Hid (Below w.heap.size w w4) := (bl_trans (by repeat (first | with_reducible exact Below.refl _ _ | with_reducible exact Hid.out (by assumption) | with_reducible refine Below.setCell ?_ (by first | (simp; done) | omega | (simp <;> omega)) _ | with_reducible refine bl_al ?_ _ | with_reducible apply Below.drew)) hb); clear hb
  go_wp2_with fail
  (with_reducible refine (K5.out _).mono ?_); rintro e w5 ⟨rfl, hb⟩; obtain ⟨hclw5, hfrw5⟩ := bcell hb; have zw5_v : w2.heap.size < w5.heap.size := (by first | omega | (have hz := hb.size; (try simp at hz); omega)); have yw5_v : w2.heap.size < w5.heap.size + 1 := (by omega); have yyw5_v : w2.heap.size < w5.heap.size + 1 + 1 := (by omega); have zw5_w : w3.heap.size < w5.heap.size := (by first | omega | (have hz := hb.size; (try simp at hz); omega)); have yw5_w : w3.heap.size < w5.heap.size + 1 := (by omega); have yyw5_w : w3.heap.size < w5.heap.size + 1 + 1 := (by omega); have zw5_u : w4.heap.size < w5.heap.size := (by first | omega | (have hz := hb.size; (try simp at hz); omega)); have yw5_u : w4.heap.size < w5.heap.size + 1 := (by omega); have yyw5_u : w4.heap.size < w5.heap.size + 1 + 1 := (by omega); have sxw5_0 : w4.heap.size + 1 ≤ w5.heap.size := (by first | omega | (have hz := hb.size; (try simp at hz); omega)); have HBw5 : Hid (Below w.heap.size w w5) := (bl_trans (by repeat (first | with_reducible exact Below.refl _ _ | with_reducible exact Hid.out (by assumption) | with_reducible refine Below.setCell ?_ (by first | (simp; done) | omega | (simp <;> omega)) _ | with_reducible refine bl_al ?_ _ | with_reducible apply Below.drew)) hb); clear hb
  go_upto_region 5 with fail
  refine name_world (P := fun W => Code.wp _ _ _ _ W) _ (fun R1 hR1 => ?_)
  have zR1_v : w2.heap.size < R1.heap.size := by rw [hR1]; first | omega | (simp <;> omega)
  have yR1_v : w2.heap.size < R1.heap.size + 1 := by omega
  have yyR1_v : w2.heap.size < R1.heap.size + 1 + 1 := by omega
  have cR1_v_0 : R1.cell? ⟨w2.heap.size, 0, none⟩ = some (.int .i64 ph) := by rw [hR1]; first | assumption | (simp [go_sem, *]; done)
  have cR1_v_1 : R1.cell? ⟨w2.heap.size, 1, none⟩ = some (.int .u64 pl) := by rw [hR1]; first | assumption | (simp [go_sem, *]; done)
  have cR1_v_2 : R1.cell? ⟨w2.heap.size, 2, none⟩ = some (.int .i64 qh) := by rw [hR1]; first | assumption | (simp [go_sem, *]; done)
  have cR1_v_3 : R1.cell? ⟨w2.heap.size, 3, none⟩ = some (.int .u64 ql) := by rw [hR1]; first | assumption | (simp [go_sem, *]; done)
  have zR1_w : w3.heap.size < R1.heap.size := by rw [hR1]; first | omega | (simp <;> omega)
  have yR1_w : w3.heap.size < R1.heap.size + 1 := by omega
  have yyR1_w : w3.heap.size < R1.heap.size + 1 + 1 := by omega
  have cR1_w_0 : R1.cell? ⟨w3.heap.size, 0, none⟩ = some (.int .i64 wxh) := by rw [hR1]; first | assumption | (simp [go_sem, *]; done)
  have cR1_w_1 : R1.cell? ⟨w3.heap.size, 1, none⟩ = some (.int .u64 wxl) := by rw [hR1]; first | assumption | (simp [go_sem, *]; done)
  have cR1_w_2 : R1.cell? ⟨w3.heap.size, 2, none⟩ = some (.int .i64 wyh) := by rw [hR1]; first | assumption | (simp [go_sem, *]; done)
  have cR1_w_3 : R1.cell? ⟨w3.heap.size, 3, none⟩ = some (.int .u64 wyl) := by rw [hR1]; first | assumption | (simp [go_sem, *]; done)
  have zR1_u : w4.heap.size < R1.heap.size := by rw [hR1]; first | omega | (simp <;> omega)
  have yR1_u : w4.heap.size < R1.heap.size + 1 := by omega
  have yyR1_u : w4.heap.size < R1.heap.size + 1 + 1 := by omega
  have cR1_u_0 : R1.cell? ⟨w4.heap.size, 0, none⟩ = some (.int .i64 uxh) := by rw [hR1]; first | assumption | (simp [go_sem, *]; done)
  have cR1_u_1 : R1.cell? ⟨w4.heap.size, 1, none⟩ = some (.int .u64 uxl) := by rw [hR1]; first | assumption | (simp [go_sem, *]; done)
  have cR1_u_2 : R1.cell? ⟨w4.heap.size, 2, none⟩ = some (.int .i64 uyh) := by rw [hR1]; first | assumption | (simp [go_sem, *]; done)
  have cR1_u_3 : R1.cell? ⟨w4.heap.size, 3, none⟩ = some (.int .u64 uyl) := by rw [hR1]; first | assumption | (simp [go_sem, *]; done)
  have zR1_z : w5.heap.size < R1.heap.size := by rw [hR1]; first | omega | (simp <;> omega)
  have yR1_z : w5.heap.size < R1.heap.size + 1 := by omega
  have yyR1_z : w5.heap.size < R1.heap.size + 1 + 1 := by omega
  have cR1_z_0 : R1.cell? ⟨w5.heap.size, 0, none⟩ = some (.int .i64 zxh) := by rw [hR1]; first | assumption | (simp [go_sem, *]; done)
  have cR1_z_1 : R1.cell? ⟨w5.heap.size, 1, none⟩ = some (.int .u64 zxl) := by rw [hR1]; first | assumption | (simp [go_sem, *]; done)
  have cR1_z_2 : R1.cell? ⟨w5.heap.size, 2, none⟩ = some (.int .i64 zyh) := by rw [hR1]; first | assumption | (simp [go_sem, *]; done)
  have cR1_z_3 : R1.cell? ⟨w5.heap.size, 3, none⟩ = some (.int .u64 zyl) := by rw [hR1]; first | assumption | (simp [go_sem, *]; done)
  have HBR1 : Hid (Below w.heap.size w R1) := by rw [hR1]; show Below _ _ _; exact (by repeat (first | with_reducible exact Below.refl _ _ | with_reducible exact Hid.out (by assumption) | with_reducible refine Below.setCell ?_ (by first | (simp; done) | omega | (simp <;> omega)) _ | with_reducible refine bl_al ?_ _ | with_reducible apply Below.drew))
  clear hR1
  clear sxw1_0 hclw1 hfrw1 HBw1 sxw2_0 hclw2 hfrw2 HBw2 zw3_v yw3_v yyw3_v sxw3_0 hclw3 hfrw3 HBw3 zw4_v yw4_v yyw4_v zw4_w yw4_w yyw4_w sxw4_0 hclw4 hfrw4 HBw4 zw5_v yw5_v yyw5_v zw5_w yw5_w yyw5_w zw5_u yw5_u yyw5_u sxw5_0 hclw5 hfrw5 HBw5
  go_cut [16, 17] (fun slot0 slot1 X1 => ∃ bX1m bX1n : Nat, slot0 = .pointer (some ⟨bX1m, 0, none⟩) ∧ slot1 = .pointer (some ⟨bX1n, 0, none⟩) ∧ R1.heap.size ≤ bX1m ∧ R1.heap.size ≤ bX1n ∧ bX1n ≠ bX1m ∧ Below R1.heap.size R1 X1 ∧ Has (bX1m) [.int .i64 mh, .int .u64 ml, .int .i64 em] X1 ∧ Has (bX1n) [.int .i64 nh, .int .u64 nl, .int .i64 en] X1)
  case first =>
    clear HBR1
    have ltt : ∀ n : Nat, n < n + 1 + 1 := fun n => by omega
    have lttt : ∀ n : Nat, n + 1 < n + 1 + 1 := fun n => by omega
    go_region_held3 (fun w' => w'.cell? ⟨w2.heap.size, 0, none⟩ = some (.int .i64 ph) ∧ w'.cell? ⟨w2.heap.size, 1, none⟩ = some (.int .u64 pl) ∧ w'.cell? ⟨w2.heap.size, 2, none⟩ = some (.int .i64 qh) ∧ w'.cell? ⟨w2.heap.size, 3, none⟩ = some (.int .u64 ql) ∧ w'.cell? ⟨w3.heap.size, 0, none⟩ = some (.int .i64 wxh) ∧ w'.cell? ⟨w3.heap.size, 1, none⟩ = some (.int .u64 wxl) ∧ w'.cell? ⟨w3.heap.size, 2, none⟩ = some (.int .i64 wyh) ∧ w'.cell? ⟨w3.heap.size, 3, none⟩ = some (.int .u64 wyl)) (first | (simp [*, go_sem]; done) | (simp [*, go_sem, World.cell?_alloc_past]; done))
      (first
        | (go_at_call 27; (with_reducible refine (K6.out _).mono ?_); rintro e w6 ⟨rfl, hb⟩; (first | (with_reducible (obtain ⟨hclw6, hfrw6⟩ := bcell_drew hb)) | (obtain ⟨hclw6, hfrw6⟩ := bcell hb)); have zw6_v : w2.heap.size < w6.heap.size := (by first | omega | (have hz := hb.size; (try simp at hz); omega)); have yw6_v : w2.heap.size < w6.heap.size + 1 := (by omega); have yyw6_v : w2.heap.size < w6.heap.size + 1 + 1 := (by omega); have zw6_w : w3.heap.size < w6.heap.size := (by first | omega | (have hz := hb.size; (try simp at hz); omega)); have yw6_w : w3.heap.size < w6.heap.size + 1 := (by omega); have yyw6_w : w3.heap.size < w6.heap.size + 1 + 1 := (by omega); (try have sw6_0 : R1.heap.size < w6.heap.size := (by first | omega | (have hz := hb.size; (try simp at hz); omega))); (try have syw6_0 : R1.heap.size < w6.heap.size + 1 := (by omega)); (try have stw6_0 : R1.heap.size + 1 < w6.heap.size := (by first | omega | (have hz := hb.size; (try simp at hz); omega))); have sxw6_0 : R1.heap.size ≤ w6.heap.size := (by first | omega | (have hz := hb.size; (try simp at hz); omega)); have HBw6 : Hid (Below R1.heap.size R1 w6) := (bl_trans (by repeat (first | with_reducible exact Below.refl _ _ | with_reducible exact Hid.out (by assumption) | with_reducible refine Below.setCell ?_ (by first | (simp; done) | omega | (simp <;> omega)) _ | with_reducible refine bl_al ?_ _ | with_reducible apply Below.drew)) hb); clear hb; clear K6)
        | (go_at_call 27; (with_reducible refine (K7.out _).mono ?_); rintro e w7 ⟨rfl, hb⟩; obtain ⟨hclw7, hfrw7⟩ := bcell hb; have zw7_v : w2.heap.size < w7.heap.size := (by first | omega | (have hz := hb.size; (try simp at hz); omega)); have yw7_v : w2.heap.size < w7.heap.size + 1 := (by omega); have yyw7_v : w2.heap.size < w7.heap.size + 1 + 1 := (by omega); have zw7_w : w3.heap.size < w7.heap.size := (by first | omega | (have hz := hb.size; (try simp at hz); omega)); have yw7_w : w3.heap.size < w7.heap.size + 1 := (by omega); have yyw7_w : w3.heap.size < w7.heap.size + 1 + 1 := (by omega); (try have sw7_0 : R1.heap.size < w7.heap.size := (by first | omega | (have hz := hb.size; (try simp at hz); omega))); (try have syw7_0 : R1.heap.size < w7.heap.size + 1 := (by omega)); (try have stw7_0 : R1.heap.size + 1 < w7.heap.size := (by first | omega | (have hz := hb.size; (try simp at hz); omega))); have sxw7_0 : R1.heap.size ≤ w7.heap.size := (by first | omega | (have hz := hb.size; (try simp at hz); omega)); (try have sw7_w6 : w6.heap.size < w7.heap.size := (by first | omega | (have hz := hb.size; (try simp at hz); omega))); (try have syw7_w6 : w6.heap.size < w7.heap.size + 1 := (by omega)); (try have stw7_w6 : w6.heap.size + 1 < w7.heap.size := (by first | omega | (have hz := hb.size; (try simp at hz); omega))); have sxw7_w6 : w6.heap.size ≤ w7.heap.size := (by first | omega | (have hz := hb.size; (try simp at hz); omega)); have HBw7 : Hid (Below R1.heap.size R1 w7) := (bl_trans (by repeat (first | with_reducible exact Below.refl _ _ | with_reducible exact Hid.out (by assumption) | with_reducible refine Below.setCell ?_ (by first | (simp; done) | omega | (simp <;> omega)) _ | with_reducible refine bl_al ?_ _ | with_reducible apply Below.drew)) hb); clear hb; clear K7))
    all_goals (rename_i hHeld; clear hHeld; go_wp2_with fail; go_meet; exact ⟨_, _, rfl, rfl, (by first | omega | (simp <;> omega)), (by first | omega | (simp <;> omega)), (by first | omega | (simp <;> omega)), (by repeat (first | with_reducible exact Below.refl _ _ | with_reducible exact Hid.out (by assumption) | with_reducible refine Below.setCell ?_ (by first | (simp; done) | omega | (simp <;> omega)) _ | with_reducible refine bl_al ?_ _ | with_reducible apply Below.drew)), Has.mk3 (by first | (simp <;> omega) | omega) (by simp [go_sem, *]) (by simp [go_sem, *]) (by simp [go_sem, *]), Has.mk3 (by first | (simp <;> omega) | omega) (by simp [go_sem, *]) (by simp [go_sem, *]) (by simp [go_sem, *])⟩)
  case rest =>
  obtain ⟨X1, hX1⟩ : ∃ X, X = wc := ⟨wc, rfl⟩
  subst hX1
  obtain ⟨bX1m, bX1n, rfl, rfl, m_bX1m, m_bX1n, n_bX1n_bX1m, hX, g_m, g_n⟩ := hcut
  have zX1_v : w2.heap.size < X1.heap.size := Nat.lt_of_lt_of_le zR1_v hX.size
  have cX1_v_0 : X1.cell? ⟨w2.heap.size, 0, none⟩ = some (.int .i64 ph) := by rw [(bcell hX).1 _ _ zR1_v]; exact cR1_v_0
  have cX1_v_1 : X1.cell? ⟨w2.heap.size, 1, none⟩ = some (.int .u64 pl) := by rw [(bcell hX).1 _ _ zR1_v]; exact cR1_v_1
  have cX1_v_2 : X1.cell? ⟨w2.heap.size, 2, none⟩ = some (.int .i64 qh) := by rw [(bcell hX).1 _ _ zR1_v]; exact cR1_v_2
  have cX1_v_3 : X1.cell? ⟨w2.heap.size, 3, none⟩ = some (.int .u64 ql) := by rw [(bcell hX).1 _ _ zR1_v]; exact cR1_v_3
  have zX1_w : w3.heap.size < X1.heap.size := Nat.lt_of_lt_of_le zR1_w hX.size
  have cX1_w_0 : X1.cell? ⟨w3.heap.size, 0, none⟩ = some (.int .i64 wxh) := by rw [(bcell hX).1 _ _ zR1_w]; exact cR1_w_0
  have cX1_w_1 : X1.cell? ⟨w3.heap.size, 1, none⟩ = some (.int .u64 wxl) := by rw [(bcell hX).1 _ _ zR1_w]; exact cR1_w_1
  have cX1_w_2 : X1.cell? ⟨w3.heap.size, 2, none⟩ = some (.int .i64 wyh) := by rw [(bcell hX).1 _ _ zR1_w]; exact cR1_w_2
  have cX1_w_3 : X1.cell? ⟨w3.heap.size, 3, none⟩ = some (.int .u64 wyl) := by rw [(bcell hX).1 _ _ zR1_w]; exact cR1_w_3
  have zX1_u : w4.heap.size < X1.heap.size := Nat.lt_of_lt_of_le zR1_u hX.size
  have cX1_u_0 : X1.cell? ⟨w4.heap.size, 0, none⟩ = some (.int .i64 uxh) := by rw [(bcell hX).1 _ _ zR1_u]; exact cR1_u_0
  have cX1_u_1 : X1.cell? ⟨w4.heap.size, 1, none⟩ = some (.int .u64 uxl) := by rw [(bcell hX).1 _ _ zR1_u]; exact cR1_u_1
  have cX1_u_2 : X1.cell? ⟨w4.heap.size, 2, none⟩ = some (.int .i64 uyh) := by rw [(bcell hX).1 _ _ zR1_u]; exact cR1_u_2
  have cX1_u_3 : X1.cell? ⟨w4.heap.size, 3, none⟩ = some (.int .u64 uyl) := by rw [(bcell hX).1 _ _ zR1_u]; exact cR1_u_3
  have zX1_z : w5.heap.size < X1.heap.size := Nat.lt_of_lt_of_le zR1_z hX.size
  have cX1_z_0 : X1.cell? ⟨w5.heap.size, 0, none⟩ = some (.int .i64 zxh) := by rw [(bcell hX).1 _ _ zR1_z]; exact cR1_z_0
  have cX1_z_1 : X1.cell? ⟨w5.heap.size, 1, none⟩ = some (.int .u64 zxl) := by rw [(bcell hX).1 _ _ zR1_z]; exact cR1_z_1
  have cX1_z_2 : X1.cell? ⟨w5.heap.size, 2, none⟩ = some (.int .i64 zyh) := by rw [(bcell hX).1 _ _ zR1_z]; exact cR1_z_2
  have cX1_z_3 : X1.cell? ⟨w5.heap.size, 3, none⟩ = some (.int .u64 zyl) := by rw [(bcell hX).1 _ _ zR1_z]; exact cR1_z_3
  have zX1_m := g_m.1; have cX1_m_0 := g_m.2 0 _ rfl; have cX1_m_1 := g_m.2 1 _ rfl; have cX1_m_2 := g_m.2 2 _ rfl; clear g_m
  have zX1_n := g_n.1; have cX1_n_0 := g_n.2 0 _ rfl; have cX1_n_1 := g_n.2 1 _ rfl; have cX1_n_2 := g_n.2 2 _ rfl; clear g_n
  have HBX1 : Hid (Below w.heap.size w X1) := bl_trans HBR1.out hX
  clear hX
  clear zR1_v yR1_v yyR1_v cR1_v_0 cR1_v_1 cR1_v_2 cR1_v_3 zR1_w yR1_w yyR1_w cR1_w_0 cR1_w_1 cR1_w_2 cR1_w_3 zR1_u yR1_u yyR1_u cR1_u_0 cR1_u_1 cR1_u_2 cR1_u_3 zR1_z yR1_z yyR1_z cR1_z_0 cR1_z_1 cR1_z_2 cR1_z_3 HBR1 m_bX1m m_bX1n n_bX1n_bX1m
  go_wp2_with fail
  (with_reducible refine (K8.out _).mono ?_); rintro e w8 ⟨rfl, hb⟩; obtain ⟨hclw8, hfrw8⟩ := bcell hb; have zw8_v : w2.heap.size < w8.heap.size := (by first | omega | (have hz := hb.size; (try simp at hz); omega)); have yw8_v : w2.heap.size < w8.heap.size + 1 := (by omega); have yyw8_v : w2.heap.size < w8.heap.size + 1 + 1 := (by omega); have zw8_w : w3.heap.size < w8.heap.size := (by first | omega | (have hz := hb.size; (try simp at hz); omega)); have yw8_w : w3.heap.size < w8.heap.size + 1 := (by omega); have yyw8_w : w3.heap.size < w8.heap.size + 1 + 1 := (by omega); have zw8_u : w4.heap.size < w8.heap.size := (by first | omega | (have hz := hb.size; (try simp at hz); omega)); have yw8_u : w4.heap.size < w8.heap.size + 1 := (by omega); have yyw8_u : w4.heap.size < w8.heap.size + 1 + 1 := (by omega); have zw8_z : w5.heap.size < w8.heap.size := (by first | omega | (have hz := hb.size; (try simp at hz); omega)); have yw8_z : w5.heap.size < w8.heap.size + 1 := (by omega); have yyw8_z : w5.heap.size < w8.heap.size + 1 + 1 := (by omega); have zw8_m : bX1m < w8.heap.size := (by first | omega | (have hz := hb.size; (try simp at hz); omega)); have yw8_m : bX1m < w8.heap.size + 1 := (by omega); have yyw8_m : bX1m < w8.heap.size + 1 + 1 := (by omega); have zw8_n : bX1n < w8.heap.size := (by first | omega | (have hz := hb.size; (try simp at hz); omega)); have yw8_n : bX1n < w8.heap.size + 1 := (by omega); have yyw8_n : bX1n < w8.heap.size + 1 + 1 := (by omega); have sxw8_0 : X1.heap.size ≤ w8.heap.size := (by first | omega | (have hz := hb.size; (try simp at hz); omega)); have HBw8 : Hid (Below w.heap.size w w8) := (bl_trans (by repeat (first | with_reducible exact Below.refl _ _ | with_reducible exact Hid.out (by assumption) | with_reducible refine Below.setCell ?_ (by first | (simp; done) | omega | (simp <;> omega)) _ | with_reducible refine bl_al ?_ _ | with_reducible apply Below.drew)) hb); clear hb
  go_wp2_with fail
  (with_reducible refine (K8.out _).mono ?_); rintro e w9 ⟨rfl, hb⟩; obtain ⟨hclw9, hfrw9⟩ := bcell hb; have zw9_v : w2.heap.size < w9.heap.size := (by first | omega | (have hz := hb.size; (try simp at hz); omega)); have yw9_v : w2.heap.size < w9.heap.size + 1 := (by omega); have yyw9_v : w2.heap.size < w9.heap.size + 1 + 1 := (by omega); have zw9_w : w3.heap.size < w9.heap.size := (by first | omega | (have hz := hb.size; (try simp at hz); omega)); have yw9_w : w3.heap.size < w9.heap.size + 1 := (by omega); have yyw9_w : w3.heap.size < w9.heap.size + 1 + 1 := (by omega); have zw9_u : w4.heap.size < w9.heap.size := (by first | omega | (have hz := hb.size; (try simp at hz); omega)); have yw9_u : w4.heap.size < w9.heap.size + 1 := (by omega); have yyw9_u : w4.heap.size < w9.heap.size + 1 + 1 := (by omega); have zw9_z : w5.heap.size < w9.heap.size := (by first | omega | (have hz := hb.size; (try simp at hz); omega)); have yw9_z : w5.heap.size < w9.heap.size + 1 := (by omega); have yyw9_z : w5.heap.size < w9.heap.size + 1 + 1 := (by omega); have zw9_m : bX1m < w9.heap.size := (by first | omega | (have hz := hb.size; (try simp at hz); omega)); have yw9_m : bX1m < w9.heap.size + 1 := (by omega); have yyw9_m : bX1m < w9.heap.size + 1 + 1 := (by omega); have zw9_n : bX1n < w9.heap.size := (by first | omega | (have hz := hb.size; (try simp at hz); omega)); have yw9_n : bX1n < w9.heap.size + 1 := (by omega); have yyw9_n : bX1n < w9.heap.size + 1 + 1 := (by omega); have sxw9_0 : w8.heap.size ≤ w9.heap.size := (by first | omega | (have hz := hb.size; (try simp at hz); omega)); have HBw9 : Hid (Below w.heap.size w w9) := (bl_trans (by repeat (first | with_reducible exact Below.refl _ _ | with_reducible exact Hid.out (by assumption) | with_reducible refine Below.setCell ?_ (by first | (simp; done) | omega | (simp <;> omega)) _ | with_reducible refine bl_al ?_ _ | with_reducible apply Below.drew)) hb); clear hb
  go_wp2_with fail
  (with_reducible refine (K8.out _).mono ?_); rintro e w10 ⟨rfl, hb⟩; obtain ⟨hclw10, hfrw10⟩ := bcell hb; have zw10_v : w2.heap.size < w10.heap.size := (by first | omega | (have hz := hb.size; (try simp at hz); omega)); have yw10_v : w2.heap.size < w10.heap.size + 1 := (by omega); have yyw10_v : w2.heap.size < w10.heap.size + 1 + 1 := (by omega); have zw10_w : w3.heap.size < w10.heap.size := (by first | omega | (have hz := hb.size; (try simp at hz); omega)); have yw10_w : w3.heap.size < w10.heap.size + 1 := (by omega); have yyw10_w : w3.heap.size < w10.heap.size + 1 + 1 := (by omega); have zw10_u : w4.heap.size < w10.heap.size := (by first | omega | (have hz := hb.size; (try simp at hz); omega)); have yw10_u : w4.heap.size < w10.heap.size + 1 := (by omega); have yyw10_u : w4.heap.size < w10.heap.size + 1 + 1 := (by omega); have zw10_z : w5.heap.size < w10.heap.size := (by first | omega | (have hz := hb.size; (try simp at hz); omega)); have yw10_z : w5.heap.size < w10.heap.size + 1 := (by omega); have yyw10_z : w5.heap.size < w10.heap.size + 1 + 1 := (by omega); have zw10_m : bX1m < w10.heap.size := (by first | omega | (have hz := hb.size; (try simp at hz); omega)); have yw10_m : bX1m < w10.heap.size + 1 := (by omega); have yyw10_m : bX1m < w10.heap.size + 1 + 1 := (by omega); have zw10_n : bX1n < w10.heap.size := (by first | omega | (have hz := hb.size; (try simp at hz); omega)); have yw10_n : bX1n < w10.heap.size + 1 := (by omega); have yyw10_n : bX1n < w10.heap.size + 1 + 1 := (by omega); have sxw10_0 : w9.heap.size ≤ w10.heap.size := (by first | omega | (have hz := hb.size; (try simp at hz); omega)); have HBw10 : Hid (Below w.heap.size w w10) := (bl_trans (by repeat (first | with_reducible exact Below.refl _ _ | with_reducible exact Hid.out (by assumption) | with_reducible refine Below.setCell ?_ (by first | (simp; done) | omega | (simp <;> omega)) _ | with_reducible refine bl_al ?_ _ | with_reducible apply Below.drew)) hb); clear hb
  go_wp2_with fail
  (with_reducible refine (K9.out _).mono ?_); rintro e w11 ⟨rfl, hb⟩; obtain ⟨hclw11, hfrw11⟩ := bcell hb; have zw11_v : w2.heap.size < w11.heap.size := (by first | omega | (have hz := hb.size; (try simp at hz); omega)); have yw11_v : w2.heap.size < w11.heap.size + 1 := (by omega); have yyw11_v : w2.heap.size < w11.heap.size + 1 + 1 := (by omega); have zw11_w : w3.heap.size < w11.heap.size := (by first | omega | (have hz := hb.size; (try simp at hz); omega)); have yw11_w : w3.heap.size < w11.heap.size + 1 := (by omega); have yyw11_w : w3.heap.size < w11.heap.size + 1 + 1 := (by omega); have zw11_u : w4.heap.size < w11.heap.size := (by first | omega | (have hz := hb.size; (try simp at hz); omega)); have yw11_u : w4.heap.size < w11.heap.size + 1 := (by omega); have yyw11_u : w4.heap.size < w11.heap.size + 1 + 1 := (by omega); have zw11_z : w5.heap.size < w11.heap.size := (by first | omega | (have hz := hb.size; (try simp at hz); omega)); have yw11_z : w5.heap.size < w11.heap.size + 1 := (by omega); have yyw11_z : w5.heap.size < w11.heap.size + 1 + 1 := (by omega); have zw11_m : bX1m < w11.heap.size := (by first | omega | (have hz := hb.size; (try simp at hz); omega)); have yw11_m : bX1m < w11.heap.size + 1 := (by omega); have yyw11_m : bX1m < w11.heap.size + 1 + 1 := (by omega); have zw11_n : bX1n < w11.heap.size := (by first | omega | (have hz := hb.size; (try simp at hz); omega)); have yw11_n : bX1n < w11.heap.size + 1 := (by omega); have yyw11_n : bX1n < w11.heap.size + 1 + 1 := (by omega); have sxw11_0 : w10.heap.size ≤ w11.heap.size := (by first | omega | (have hz := hb.size; (try simp at hz); omega)); have HBw11 : Hid (Below w.heap.size w w11) := (bl_trans (by repeat (first | with_reducible exact Below.refl _ _ | with_reducible exact Hid.out (by assumption) | with_reducible refine Below.setCell ?_ (by first | (simp; done) | omega | (simp <;> omega)) _ | with_reducible refine bl_al ?_ _ | with_reducible apply Below.drew)) hb); clear hb
  go_wp2_with fail
  (with_reducible refine (K10.out _).mono ?_); rintro e w12 ⟨rfl, hb⟩; obtain ⟨hclw12, hfrw12⟩ := bcell hb; have zw12_v : w2.heap.size < w12.heap.size := (by first | omega | (have hz := hb.size; (try simp at hz); omega)); have yw12_v : w2.heap.size < w12.heap.size + 1 := (by omega); have yyw12_v : w2.heap.size < w12.heap.size + 1 + 1 := (by omega); have zw12_w : w3.heap.size < w12.heap.size := (by first | omega | (have hz := hb.size; (try simp at hz); omega)); have yw12_w : w3.heap.size < w12.heap.size + 1 := (by omega); have yyw12_w : w3.heap.size < w12.heap.size + 1 + 1 := (by omega); have zw12_u : w4.heap.size < w12.heap.size := (by first | omega | (have hz := hb.size; (try simp at hz); omega)); have yw12_u : w4.heap.size < w12.heap.size + 1 := (by omega); have yyw12_u : w4.heap.size < w12.heap.size + 1 + 1 := (by omega); have zw12_z : w5.heap.size < w12.heap.size := (by first | omega | (have hz := hb.size; (try simp at hz); omega)); have yw12_z : w5.heap.size < w12.heap.size + 1 := (by omega); have yyw12_z : w5.heap.size < w12.heap.size + 1 + 1 := (by omega); have zw12_m : bX1m < w12.heap.size := (by first | omega | (have hz := hb.size; (try simp at hz); omega)); have yw12_m : bX1m < w12.heap.size + 1 := (by omega); have yyw12_m : bX1m < w12.heap.size + 1 + 1 := (by omega); have zw12_n : bX1n < w12.heap.size := (by first | omega | (have hz := hb.size; (try simp at hz); omega)); have yw12_n : bX1n < w12.heap.size + 1 := (by omega); have yyw12_n : bX1n < w12.heap.size + 1 + 1 := (by omega); have sxw12_0 : w11.heap.size ≤ w12.heap.size := (by first | omega | (have hz := hb.size; (try simp at hz); omega)); have HBw12 : Hid (Below w.heap.size w w12) := (bl_trans (by repeat (first | with_reducible exact Below.refl _ _ | with_reducible exact Hid.out (by assumption) | with_reducible refine Below.setCell ?_ (by first | (simp; done) | omega | (simp <;> omega)) _ | with_reducible refine bl_al ?_ _ | with_reducible apply Below.drew)) hb); clear hb
  go_wp2_with fail
  (with_reducible refine (K11.out _).mono ?_); rintro e w13 ⟨rfl, hb⟩; obtain ⟨hclw13, hfrw13⟩ := bcell hb; have zw13_v : w2.heap.size < w13.heap.size := (by first | omega | (have hz := hb.size; (try simp at hz); omega)); have yw13_v : w2.heap.size < w13.heap.size + 1 := (by omega); have yyw13_v : w2.heap.size < w13.heap.size + 1 + 1 := (by omega); have zw13_w : w3.heap.size < w13.heap.size := (by first | omega | (have hz := hb.size; (try simp at hz); omega)); have yw13_w : w3.heap.size < w13.heap.size + 1 := (by omega); have yyw13_w : w3.heap.size < w13.heap.size + 1 + 1 := (by omega); have zw13_u : w4.heap.size < w13.heap.size := (by first | omega | (have hz := hb.size; (try simp at hz); omega)); have yw13_u : w4.heap.size < w13.heap.size + 1 := (by omega); have yyw13_u : w4.heap.size < w13.heap.size + 1 + 1 := (by omega); have zw13_z : w5.heap.size < w13.heap.size := (by first | omega | (have hz := hb.size; (try simp at hz); omega)); have yw13_z : w5.heap.size < w13.heap.size + 1 := (by omega); have yyw13_z : w5.heap.size < w13.heap.size + 1 + 1 := (by omega); have zw13_m : bX1m < w13.heap.size := (by first | omega | (have hz := hb.size; (try simp at hz); omega)); have yw13_m : bX1m < w13.heap.size + 1 := (by omega); have yyw13_m : bX1m < w13.heap.size + 1 + 1 := (by omega); have zw13_n : bX1n < w13.heap.size := (by first | omega | (have hz := hb.size; (try simp at hz); omega)); have yw13_n : bX1n < w13.heap.size + 1 := (by omega); have yyw13_n : bX1n < w13.heap.size + 1 + 1 := (by omega); have sxw13_0 : w12.heap.size ≤ w13.heap.size := (by first | omega | (have hz := hb.size; (try simp at hz); omega)); have HBw13 : Hid (Below w.heap.size w w13) := (bl_trans (by repeat (first | with_reducible exact Below.refl _ _ | with_reducible exact Hid.out (by assumption) | with_reducible refine Below.setCell ?_ (by first | (simp; done) | omega | (simp <;> omega)) _ | with_reducible refine bl_al ?_ _ | with_reducible apply Below.drew)) hb); clear hb
  go_wp2_with fail
  (with_reducible refine (K12.out _).mono ?_); rintro e w14 ⟨rfl, hb⟩; obtain ⟨hclw14, hfrw14⟩ := bcell hb; have zw14_v : w2.heap.size < w14.heap.size := (by first | omega | (have hz := hb.size; (try simp at hz); omega)); have yw14_v : w2.heap.size < w14.heap.size + 1 := (by omega); have yyw14_v : w2.heap.size < w14.heap.size + 1 + 1 := (by omega); have zw14_w : w3.heap.size < w14.heap.size := (by first | omega | (have hz := hb.size; (try simp at hz); omega)); have yw14_w : w3.heap.size < w14.heap.size + 1 := (by omega); have yyw14_w : w3.heap.size < w14.heap.size + 1 + 1 := (by omega); have zw14_u : w4.heap.size < w14.heap.size := (by first | omega | (have hz := hb.size; (try simp at hz); omega)); have yw14_u : w4.heap.size < w14.heap.size + 1 := (by omega); have yyw14_u : w4.heap.size < w14.heap.size + 1 + 1 := (by omega); have zw14_z : w5.heap.size < w14.heap.size := (by first | omega | (have hz := hb.size; (try simp at hz); omega)); have yw14_z : w5.heap.size < w14.heap.size + 1 := (by omega); have yyw14_z : w5.heap.size < w14.heap.size + 1 + 1 := (by omega); have zw14_m : bX1m < w14.heap.size := (by first | omega | (have hz := hb.size; (try simp at hz); omega)); have yw14_m : bX1m < w14.heap.size + 1 := (by omega); have yyw14_m : bX1m < w14.heap.size + 1 + 1 := (by omega); have zw14_n : bX1n < w14.heap.size := (by first | omega | (have hz := hb.size; (try simp at hz); omega)); have yw14_n : bX1n < w14.heap.size + 1 := (by omega); have yyw14_n : bX1n < w14.heap.size + 1 + 1 := (by omega); have sxw14_0 : w13.heap.size ≤ w14.heap.size := (by first | omega | (have hz := hb.size; (try simp at hz); omega)); have HBw14 : Hid (Below w.heap.size w w14) := (bl_trans (by repeat (first | with_reducible exact Below.refl _ _ | with_reducible exact Hid.out (by assumption) | with_reducible refine Below.setCell ?_ (by first | (simp; done) | omega | (simp <;> omega)) _ | with_reducible refine bl_al ?_ _ | with_reducible apply Below.drew)) hb); clear hb
  go_wp2_with fail
  go_returns
  exact ⟨rfl, by repeat (first | with_reducible exact Below.refl _ _ | with_reducible exact Hid.out (by assumption) | with_reducible refine Below.setCell ?_ (by first | (simp; done) | omega | (simp <;> omega)) _ | with_reducible refine bl_al ?_ _ | with_reducible apply Below.drew)⟩
theorem up_mod : ∀ (j m n : Nat), m % 2 ^ (j + 2) = n % 2 ^ (j + 2) → up j m = up j n := by
  intro j
  induction j with
  | zero => intro m n h; show qt (m % 4) _ _ = qt (n % 4) _ _; rw [show m % 4 = n % 4 from h]
  | succ j ih =>
    intro m n h
    have e : (2 : Nat) ^ (j + 1 + 2) = 2 * 2 ^ (j + 2) := by rw [Nat.pow_succ, Nat.mul_comm]
    rw [e] at h
    have h1 : m % 2 = n % 2 := by rw [← Nat.mod_mul_right_mod m 2 (2 ^ (j + 2)), h, Nat.mod_mul_right_mod]
    have h2 : m / 2 % 2 ^ (j + 2) = n / 2 % 2 ^ (j + 2) := by rw [← Nat.mod_mul_right_div_self m 2 (2 ^ (j + 2)), h, Nat.mod_mul_right_div_self]
    have h3 := ih _ _ h2
    by_cases c : m % 2 = 1
    · rw [up_on c, up_on (by omega), h3]
    · rw [up_off c, up_off (by omega), h3]
/-- What Rotate tells of a way no longer than this, against the way of one. -/
theorem lin_up (A : Nat) (hA : A < 65536) (z1 z2 : Int) (hN : z1 * z1 + z2 * z2 + 14 * (17180393473 * 18446744073709551616) ≤ 1208925819614629174706176 * 1208925819614629174706176) :
    re A z1 z2 = 0 ∧ Bd (rx A z1 z2 * rx A z1 z2 + ry A z1 z2 * ry A z1 z2 - (z1 * z1 + z2 * z2)) (14 * (17180393473 * 18446744073709551616)) ∧
    Bd (18446744073709551616 * rx A z1 z2 - (z1 * (up 14 A).1 - z2 * (up 14 A).2)) (2147368959 * 18446744073709551616) ∧ Bd (18446744073709551616 * ry A z1 z2 - (z1 * (up 14 A).2 + z2 * (up 14 A).1)) (2147368959 * 18446744073709551616) := by
  obtain ⟨e0, e1, e2, b⟩ := turn_pure (M := 1208925819614629174706176) (G := 17180393473) (by decide) (by decide) (by decide) (by decide) A z1 z2 hN
  have n1 := sq_nn z1; have n2 := sq_nn z2
  have hz1 : Bd z1 (65536 * 18446744073709551616) := sq_bd (N := z1 * z1 + z2 * z2) (by omega) (by omega) (by decide)
  have hz2 : Bd z2 (65536 * 18446744073709551616) := sq_bd (N := z1 * z1 + z2 * z2) (by omega) (by omega) (by decide)
  obtain ⟨l1, l2⟩ := rp_lin A z1 z2 hz1 hz2 14 0 z1 z2 18446744073709551616 0 rfl (by show Bd _ (0 * 18446744073709551616); unfold Bd; omega) (by show Bd _ (0 * 18446744073709551616); unfold Bd; omega)
  obtain ⟨q1, q2⟩ := qt_lin z1 z2 _ (A / 16384) _ _ _ _ l1 l2
  have g := rp_up A (A / 16384) 14 0 18446744073709551616 0 rfl (by
    show _ = qt (A / 2 ^ 14 % 4) 18446744073709551616 0
    rw [show A / 2 ^ 14 % 4 = A / 16384 by simp only [Nat.reducePow]; omega])
  rw [g, show ln 14 = 2147368959 by decide] at q1 q2
  refine ⟨e0, b, ?_, ?_⟩
  · rw [e1]; exact q1
  · rw [e2]; exact q2
theorem lv_near {x y : Int} (bx : Bd x 1208925819614629174706176) (b_y : Bd y 1208925819614629174706176) :
    ∃ K : Nat, lv x y = (K : Int) ∧ (K : Int) * K ≤ x * x + y * y + 18446744073709551616 ∧ x * x + y * y - 18446744073709551616 < ((K : Int) + 1) * ((K : Int) + 1) := by
  obtain ⟨r1, h1, c1⟩ := mulr_near x x
  obtain ⟨r2, h2, c2⟩ := mulr_near y y
  have n1 := sq_nn x; have n2 := sq_nn y
  have q1 := bx.mul bx; have q2 := b_y.mul b_y
  have m1 : 0 ≤ mulr x x ∧ mulr x x ≤ 85070591730234615865843651857942052864 := by unfold Bd at q1 c1; omega
  have m2 : 0 ≤ mulr y y ∧ mulr y y ≤ 85070591730234615865843651857942052863 := by unfold Bd at q2 c2; omega
  have e : de (mulr x x) (mulr y y) = 0 := by
    unfold de
    rw [if_pos (oe_in (by unfold My; omega)), if_pos (oe_in (by unfold My; omega))]
    exact oe_in (by unfold My; omega)
  have el : lv x y = sqr (mulr x x + mulr y y) := by unfold lv; rw [if_pos e, (de_zero e).2.2.2]
  obtain ⟨n, hn⟩ : ∃ n : Nat, n = (mulr x x + mulr y y).toNat * 18446744073709551616 := ⟨_, rfl⟩
  obtain ⟨k1, k2⟩ := isq_spec n
  refine ⟨isq n, by rw [el, hn]; rfl, ?_, ?_⟩
  · have h : ((isq n * isq n : Nat) : Int) ≤ (n : Int) := by omega
    rw [Int.natCast_mul] at h
    unfold Bd at c1 c2; omega
  · have h : (n : Int) < (((isq n + 1) * (isq n + 1) : Nat) : Int) := by omega
    rw [Int.natCast_mul, Int.natCast_add] at h
    unfold Bd at c1 c2; show _ < ((isq n : Int) + ((1 : Nat) : Int)) * ((isq n : Int) + ((1 : Nat) : Int)); omega
theorem root_near {N N2 K K2 : Int} (hK : 0 ≤ K) (hK2 : 0 ≤ K2) (hN : 170141183460469231731687303715884105728 ≤ N) (hd : N2 ≤ N + 4436912500748854160737962033152) (h1 : N - 18446744073709551616 < (K + 1) * (K + 1)) (h2 : K2 * K2 ≤ N2 + 18446744073709551616) : K2 - K ≤ 35184372088832 := by
  by_cases c : K2 - K ≤ 35184372088832
  · exact c
  · have hb : 9223372036854775808 ≤ K + 1 := by
      by_cases g : 9223372036854775808 ≤ K + 1
      · exact g
      · have p := Int.mul_nonneg (show 0 ≤ 9223372036854775808 - (K + 1) by omega) (show 0 ≤ 9223372036854775808 + (K + 1) by omega)
        have e : (9223372036854775808 - (K + 1)) * (9223372036854775808 + (K + 1)) = 85070591730234615865843651857942052864 - (K + 1) * (K + 1) := by grind
        omega
    have p := Int.mul_nonneg (show 0 ≤ K2 - K - 35184372088833 by omega) (show 0 ≤ K2 + K by omega)
    have e : (K2 - K - 35184372088833) * (K2 + K) = K2 * K2 - (K + 1) * (K + 1) + 2 * K + 1 - 35184372088833 * (K2 + K) := by grind
    omega
theorem rp_nought (A : Nat) : ∀ (k : Nat) (c : Int), rp A k c 0 0 = (0, 0) := by
  intro k
  induction k with
  | zero => intro c; rfl
  | succ k ih =>
    intro c
    show (if A / 2 ^ k % 2 = 1 then rp A k (hc c) (Tx 0 0 (hc c) (hs c)) (Ty 0 0 (hc c) (hs c)) else rp A k (hc c) 0 0) = (0, 0)
    have e1 : Tx 0 0 (hc c) (hs c) = 0 := by unfold Tx; rw [mulr_zero, mulr_zero]; rfl
    have e2 : Ty 0 0 (hc c) (hs c) = 0 := by unfold Ty; rw [mulr_zero, mulr_zero]; rfl
    rw [e1, e2, ih]
    split <;> rfl
theorem twice (A B : Nat) (hA : A < 65536) (hB : B < 65536) (z1 z2 : Int) (b1 : Bd z1 (32768 * 18446744073709551616)) (b2 : Bd z2 (32768 * 18446744073709551616)) (hz : (z1 = 0 ∧ z2 = 0) ∨ 18446744073709551616 * 18446744073709551616 ≤ z1 * z1 + z2 * z2) :
    re A z1 z2 = 0 ∧ re B (rx A z1 z2) (ry A z1 z2) = 0 ∧ re ((A + B) % 65536) z1 z2 = 0 ∧ Bd (rx B (rx A z1 z2) (ry A z1 z2) - rx ((A + B) % 65536) z1 z2) 35184372088832 ∧ Bd (ry B (rx A z1 z2) (ry A z1 z2) - ry ((A + B) % 65536) z1 z2) 35184372088832 ∧ Bd (lv z1 z2 - lv (rx A z1 z2) (ry A z1 z2)) 35184372088832 ∧ My (lv z1 z2) ∧ My (lv (rx A z1 z2) (ry A z1 z2)) := by
  have q1 := b1.mul b1; have q2 := b2.mul b2
  have n1 := sq_nn z1; have n2 := sq_nn z2
  obtain ⟨e1, v1, l1, l2⟩ := lin_up A hA z1 z2 (by unfold Bd at q1 q2; omega)
  have n3 := sq_nn (rx A z1 z2); have n4 := sq_nn (ry A z1 z2)
  obtain ⟨e2, v2, l3, l4⟩ := lin_up B hB (rx A z1 z2) (ry A z1 z2) (by unfold Bd at q1 q2 v1; omega)
  obtain ⟨e3, _, l5, l6⟩ := lin_up ((A + B) % 65536) (Nat.mod_lt _ (by decide)) z1 z2 (by unfold Bd at q1 q2; omega)
  obtain ⟨c1, c2⟩ := up_comp 14 (by decide) A B
  rw [up_mod 14 (A + B) ((A + B) % 65536) (by simp only [Nat.reducePow, Nat.reduceAdd]; omega), show ee 14 = 65087916 from rfl] at c1 c2
  obtain ⟨u1, u2⟩ := up_bd (show 14 ≤ 14 by decide) B
  have hw1 : Bd (rx A z1 z2) 1208925819614629174706176 := sq_bd (N := rx A z1 z2 * rx A z1 z2 + ry A z1 z2 * ry A z1 z2) (by omega) (by unfold Bd at q1 q2 v1; omega) (by decide)
  have hw2 : Bd (ry A z1 z2) 1208925819614629174706176 := sq_bd (N := rx A z1 z2 * rx A z1 z2 + ry A z1 z2 * ry A z1 z2) (by omega) (by unfold Bd at q1 q2 v1; omega) (by decide)
  obtain ⟨K, g1, g2, g3⟩ := lv_near (x := z1) (y := z2) (b1.mono (by decide)) (b2.mono (by decide))
  obtain ⟨L, f1, f2, f3⟩ := lv_near hw1 hw2
  have bK : Bd (K : Int) 2417851639229258349412352 := sq_bd g2 (by unfold Bd at q1 q2; omega) (by decide)
  have bL : Bd (L : Int) 2417851639229258349412352 := sq_bd f2 (by unfold Bd at q1 q2 v1; omega) (by decide)
  refine ⟨e1, e2, e3, ?_, ?_, ?_, by rw [g1]; unfold Bd at bK; unfold My; omega, by rw [f1]; unfold Bd at bL; unfold My; omega⟩
  · clear e1 e2 e3 v1 v2 g1 g2 g3 f1 f2 f3 bK bL n1 n2 n3 n4 q1 q2 hz
    generalize rx B (rx A z1 z2) (ry A z1 z2) = x3 at *
    generalize ry B (rx A z1 z2) (ry A z1 z2) = y3 at *
    generalize rx ((A + B) % 65536) z1 z2 = x4 at *
    generalize ry ((A + B) % 65536) z1 z2 = y4 at *
    generalize rx A z1 z2 = w1 at *
    generalize ry A z1 z2 = w2 at *
    generalize (up 14 A).1 = a1 at *
    generalize (up 14 A).2 = a2 at *
    generalize (up 14 B).1 = s1 at *
    generalize (up 14 B).2 = s2 at *
    generalize (up 14 ((A + B) % 65536)).1 = p1 at *
    generalize (up 14 ((A + B) % 65536)).2 = p2 at *
    have id : 18446744073709551616 * (18446744073709551616 * (x3 - x4)) = 18446744073709551616 * (18446744073709551616 * x3 - (w1 * s1 - w2 * s2)) + (18446744073709551616 * w1 - (z1 * a1 - z2 * a2)) * s1 - (18446744073709551616 * w2 - (z1 * a2 + z2 * a1)) * s2 + z1 * (a1 * s1 - a2 * s2 - 18446744073709551616 * p1) - z2 * (a1 * s2 + a2 * s1 - 18446744073709551616 * p2) - 18446744073709551616 * (18446744073709551616 * x4 - (z1 * p1 - z2 * p2)) := by grind
    have hPb : Bd 18446744073709551616 18446744073709551616 := ⟨by decide, by decide⟩
    have t := (((((hPb.mul l3).add (l1.mul u1)).sub (l2.mul u2)).add (b1.mul c1)).sub (b2.mul c2)).sub (hPb.mul l5)
    rw [← id] at t
    exact Bd.div (P := 18446744073709551616) (by decide) (Bd.div (P := 18446744073709551616) (by decide) (t.mono (by decide)))
  · clear e1 e2 e3 v1 v2 g1 g2 g3 f1 f2 f3 bK bL n1 n2 n3 n4 q1 q2 hz
    generalize rx B (rx A z1 z2) (ry A z1 z2) = x3 at *
    generalize ry B (rx A z1 z2) (ry A z1 z2) = y3 at *
    generalize rx ((A + B) % 65536) z1 z2 = x4 at *
    generalize ry ((A + B) % 65536) z1 z2 = y4 at *
    generalize rx A z1 z2 = w1 at *
    generalize ry A z1 z2 = w2 at *
    generalize (up 14 A).1 = a1 at *
    generalize (up 14 A).2 = a2 at *
    generalize (up 14 B).1 = s1 at *
    generalize (up 14 B).2 = s2 at *
    generalize (up 14 ((A + B) % 65536)).1 = p1 at *
    generalize (up 14 ((A + B) % 65536)).2 = p2 at *
    have id : 18446744073709551616 * (18446744073709551616 * (y3 - y4)) = 18446744073709551616 * (18446744073709551616 * y3 - (w1 * s2 + w2 * s1)) + (18446744073709551616 * w1 - (z1 * a1 - z2 * a2)) * s2 + (18446744073709551616 * w2 - (z1 * a2 + z2 * a1)) * s1 + z1 * (a1 * s2 + a2 * s1 - 18446744073709551616 * p2) + z2 * (a1 * s1 - a2 * s2 - 18446744073709551616 * p1) - 18446744073709551616 * (18446744073709551616 * y4 - (z1 * p2 + z2 * p1)) := by grind
    have hPb : Bd 18446744073709551616 18446744073709551616 := ⟨by decide, by decide⟩
    have t := (((((hPb.mul l4).add (l1.mul u2)).add (l2.mul u1)).add (b1.mul c2)).add (b2.mul c1)).sub (hPb.mul l6)
    rw [← id] at t
    exact Bd.div (P := 18446744073709551616) (by decide) (Bd.div (P := 18446744073709551616) (by decide) (t.mono (by decide)))
  · rcases hz with ⟨rfl, rfl⟩ | hz
    · obtain ⟨_, x1, x2, _⟩ := turn_pure (M := 1208925819614629174706176) (G := 17180393473) (by decide) (by decide) (by decide) (by decide) A 0 0 (by decide)
      rw [rp_nought, show qt (A / 16384) ((0 : Int), (0 : Int)).1 ((0 : Int), (0 : Int)).2 = (0, 0) from qt_zero _] at x1 x2
      rw [x1, x2]
      show Bd (lv 0 0 - lv 0 0) _
      unfold Bd; omega
    · rw [g1, f1]
      have k1 := root_near (Int.natCast_nonneg K) (Int.natCast_nonneg L) (by omega) (by unfold Bd at v1; omega) g3 f2
      have k2 := root_near (Int.natCast_nonneg L) (Int.natCast_nonneg K) (by unfold Bd at v1; omega) (by unfold Bd at v1; omega) f3 g2
      unfold Bd; omega
theorem whole_far (x : Int) (h : ¬ x = 0) : 18446744073709551616 * 18446744073709551616 ≤ x * 18446744073709551616 * (x * 18446744073709551616) := by
  have e : x * 18446744073709551616 * (x * 18446744073709551616) = x * x * (18446744073709551616 * 18446744073709551616) := by grind
  have p : 1 ≤ x * x := by
    rcases (show 1 ≤ x ∨ x ≤ -1 by omega) with g | g
    · have := Int.mul_le_mul g g (by decide) (by omega); omega
    · have := Int.mul_nonneg (show 0 ≤ -x - 1 by omega) (show 0 ≤ -x + 1 by omega)
      have e2 : (-x - 1) * (-x + 1) = x * x - 1 := by grind
      omega
  omega
theorem turnTwice_walk (x y a b : Int) (hx : -32768 ≤ x ∧ x < 32768) (hy : -32768 ≤ y ∧ y < 32768) (ha : 0 ≤ a ∧ a < 65536) (hb : 0 ≤ b ∧ b < 65536) (w : World) :
    Calls Try.prog 6 #[.int .i16 x, .int .i16 y, .int .u16 a, .int .u16 b] w fun e w' => e = .returned (.bool true) ∧ Below w.heap.size w w' := by
  have i1 := rint_any x; have i2 := rint_any y
  rw [int_small (by omega)] at i1 i2
  have m1 : My (x * 18446744073709551616) := by unfold My; omega
  have m2 : My (y * 18446744073709551616) := by unfold My; omega
  have z : (x * 18446744073709551616 = 0 ∧ y * 18446744073709551616 = 0) ∨ 18446744073709551616 * 18446744073709551616 ≤ x * 18446744073709551616 * (x * 18446744073709551616) + y * 18446744073709551616 * (y * 18446744073709551616) := by
    have p1 := sq_nn (x * 18446744073709551616); have p2 := sq_nn (y * 18446744073709551616)
    by_cases c : x = 0
    · by_cases d : y = 0
      · left; omega
      · right; have := whole_far y d; omega
    · right; have := whole_far x c; omega
  obtain ⟨e1, e2, e3, d1, d2, d3, k1, k2⟩ := twice (ang a) (ang b) (ang_lt a) (ang_lt b) (x * 18446744073709551616) (y * 18446744073709551616) (by unfold Bd; omega) (by unfold Bd; omega) z
  have hs : ang (a + b) = (ang a + ang b) % 65536 := by unfold ang; omega
  have R1 := rotate_any a _ _ m1 m2
  obtain ⟨r1, r2⟩ := r_my (ang a) m1 m2
  have R2 := rotate_any b _ _ r1 r2
  obtain ⟨r3, r4⟩ := r_my (ang b) r1 r2
  have R3 := rotate_any (a + b) _ _ m1 m2
  obtain ⟨r5, r6⟩ := r_my ((ang a + ang b) % 65536) m1 m2
  rw [e1] at R1
  rw [e2] at R2
  rw [hs, e3] at R3
  exact turnTwice_core _ _ _ _ _ _ _ _ _ _ _ _ _ _ _ _ _ _ _ _ x y a b _ _ _ (IntWalk.i64_in _ (by omega)) (IntWalk.i64_in _ (by omega)) (IntWalk.i64_in _ (by omega)) (IntWalk.i64_in _ (by omega)) (IntWalk.i64_in _ (by omega)) w
    i1 i2 R1 R2 R3 (rlength_any _ _ m1 m2) (rlength_any _ _ r1 r2) (num_any 0) (near45_any r3 r5 d1) (near45_any r4 r6 d2) (near45_any k1 k2 d3) tawake_any
theorem wf_i16 {n : Int} (h : (Lit.int .i16 n).wf = true) : -32768 ≤ n ∧ n < 32768 := by
  simp [Lit.wf, IntKind.min, IntKind.max, IntKind.bits, IntKind.signed] at h; omega
open Go.ChangeShapes Go.WideShapes Go.ChangeAt Go.RowKit Go.Joins
set_option maxRecDepth 100000 in
theorem turnTwice_lifted (os : Os) (started : os.Started) (H : Type) (enc : TypeId × Value → H) :
    ReturnsInHanded {} Try.checked os 6 .any (Rows.turnTwiceSpec.pre6 enc Try.prog Try.f6 Rows.turnTwiceRow.domain false) (Rows.turnTwiceSpec.post enc Try.prog Try.f6 false true false false) := by
  refine returnsInHanded_of_change (C := Try.checked) Try.own started (by kernel_rfl) Try.func6
    (ChangeSpec.witness6 (enc := enc) (C := Try.checked) false ⟨#[], #[.int .i16 0, .int .i16 0, .int .u16 0, .int .u16 0], []⟩ 8 (by kernel_rfl) (by kernel_rfl) (by kernel_rfl) (by kernel_rfl)) ?_
  intro W base args ds gs before hval0 hW hcnd _
  have hval : ∀ (j : Nat) t v, Try.f6.params[j]? = some t → args[j]? = some v → Value.okWide Try.prog W .any base t v := hval0
  have hW' := hW
  obtain ⟨p, q, hA0, hV, rfl, hfz, hnd⟩ := hW
  have hA : DataW.TrodAll enc Try.prog W 0 (fun _ => true) true Try.f6.params.toList args.toList ds p := hA0
  rw [Try.params6] at hA hval
  obtain ⟨v0, v1, v2, v3, d0, d1, d2, d3, p0, p1, p2, p3, rfl, rfl, rfl, h0, h1, h2, h3⟩ := trodAll_four hA
  obtain ⟨rfl, rfl⟩ := trodVars_none hV
  obtain ⟨x, rfl, rfl, rfl, k00⟩ := open_int Try.underlying54 (hval 0 54 v0 rfl rfl) h0
  obtain ⟨y, rfl, rfl, rfl, k10⟩ := open_int Try.underlying54 (hval 1 54 v1 rfl rfl) h1
  obtain ⟨a, rfl, rfl, rfl, k20⟩ := open_int Try.underlying55 (hval 2 55 v2 rfl rfl) h2
  obtain ⟨b, rfl, rfl, rfl, k30⟩ := open_int Try.underlying55 (hval 3 55 v3 rfl rfl) h3
  clear hA0 hval0
  simp only [List.append_nil] at hW'
  refine (turnTwice_walk x y a b (wf_i16 k00) (wf_i16 k10) (wf_u16 k20) (wf_u16 k30) W).mono fun e W' ⟨he, hb⟩ => ?_
  subst he
  exact ⟨_, rfl, _, _, _, [], [], [], hW', trodAll_mk1 (shut_bool Try.underlying4 _), trodAll_mk4 (shut_int Try.underlying54 k00) (shut_int Try.underlying54 k10) (shut_int Try.underlying55 k20) (shut_int Try.underlying55 k30), rfl, hb.frame _, fun h => by cases h⟩
theorem turnTwice_holds : Rows.TurnTwiceSaid :=
  OpenClaim.holds_of_wide 6 Try.f6 rfl rfl rfl rfl rfl rfl rfl ⟨rfl, rfl, rfl, rfl, rfl⟩ rfl rfl rfl rfl rfl (by kernel_rfl) Try.func6 (by kernel_rfl)
    (of_decide_eq_true (by kernel_rfl)) (by unfold Func.isWrapper; first | (rw [if_pos (by decide +kernel)]; kernel_rfl) | (rw [if_neg (by decide +kernel)]; exact ⟨rfl, rfl⟩))
    (fun os started H enc _ => turnTwice_lifted os started H enc)
end Go.Proofs.Ytmelipbanbihdaa
