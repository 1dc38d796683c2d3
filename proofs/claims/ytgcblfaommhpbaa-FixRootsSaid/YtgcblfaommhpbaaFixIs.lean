/- Are a number, and an error, the document's? -/
import Derived.Test.YtgcblfaommhpbaaFixOpen
import Derived.Test.YtgcblfaommhpbaaRefSum
namespace Go.Proofs.Ytgcblfaommhpbaa
open Go.RowKit

set_option maxRecDepth 20000 in
set_option maxHeartbeats 60000000 in
theorem is_core (h l k : Int)  (w : World)
    (C1 : ∀ W, Calls Try.prog 56 #[.int .i64 k] W fun e w' => e = .returned (.int .i64 k) ∧ Below W.heap.size W w') :
    Calls Try.prog 39 #[.agg #[.int .i64 h, .int .u64 l], .int .i64 k, .agg #[.int .i64 h, .int .u64 l, .int .i64 k]] w fun e w' => e = .returned (.bool true) ∧ Below w.heap.size w w' := by
  have K1 := Lib.hid C1
  clear C1
  have q1 := eq_fix_true h l
  go_enter Try.func39, Try.ntmps39
  go_upto_region 1 with fail
  refine name_world (P := fun W => Code.wp _ _ _ _ W) _ (fun R1 hR1 => ?_)
  have zR1_a : w.heap.size < R1.heap.size := by rw [hR1]; first | omega | (simp <;> omega)
  have yR1_a : w.heap.size < R1.heap.size + 1 := by omega
  have yyR1_a : w.heap.size < R1.heap.size + 1 + 1 := by omega
  have cR1_a_0 : R1.cell? ⟨w.heap.size, 0, none⟩ = some (.int .i64 h) := by rw [hR1]; first | assumption | (simp [go_sem, *]; done)
  have cR1_a_1 : R1.cell? ⟨w.heap.size, 1, none⟩ = some (.int .u64 l) := by rw [hR1]; first | assumption | (simp [go_sem, *]; done)
  have zR1_x : w.heap.size + 1 < R1.heap.size := by rw [hR1]; first | omega | (simp <;> omega)
  have yR1_x : w.heap.size + 1 < R1.heap.size + 1 := by omega
  have yyR1_x : w.heap.size + 1 < R1.heap.size + 1 + 1 := by omega
  have cR1_x_0 : R1.cell? ⟨w.heap.size + 1, 0, none⟩ = some (.int .i64 h) := by rw [hR1]; first | assumption | (simp [go_sem, *]; done)
  have cR1_x_1 : R1.cell? ⟨w.heap.size + 1, 1, none⟩ = some (.int .u64 l) := by rw [hR1]; first | assumption | (simp [go_sem, *]; done)
  have cR1_x_2 : R1.cell? ⟨w.heap.size + 1, 2, none⟩ = some (.int .i64 k) := by rw [hR1]; first | assumption | (simp [go_sem, *]; done)
  have HBR1 : Hid (Below w.heap.size w R1) := by rw [hR1]; show Below _ _ _; exact (by repeat (first | with_reducible exact Below.refl _ _ | with_reducible exact Hid.out (by assumption) | with_reducible refine Below.setCell ?_ (by first | (simp; done) | omega | (simp <;> omega)) _ | with_reducible refine bl_al ?_ _ | with_reducible apply Below.drew))
  clear hR1
  go_region_held3 (fun w' => w'.cell? ⟨w.heap.size, 0, none⟩ = some (.int .i64 h) ∧ w'.cell? ⟨w.heap.size, 1, none⟩ = some (.int .u64 l) ∧ w'.cell? ⟨w.heap.size + 1, 0, none⟩ = some (.int .i64 h) ∧ w'.cell? ⟨w.heap.size + 1, 1, none⟩ = some (.int .u64 l) ∧ w'.cell? ⟨w.heap.size + 1, 2, none⟩ = some (.int .i64 k)) (first | (simp [*, go_sem]; done) | (simp [*, go_sem, World.cell?_alloc_past]; done))
    (first
      | (go_at_call 56; (with_reducible refine (K1.out _).mono ?_); rintro e w1 ⟨rfl, hb⟩; (first | (with_reducible (obtain ⟨hclw1, hfrw1⟩ := bcell_drew hb)) | (obtain ⟨hclw1, hfrw1⟩ := bcell hb)); have zw1_a : w.heap.size < w1.heap.size := (by first | omega | (have hz := hb.size; (try simp at hz); omega)); have yw1_a : w.heap.size < w1.heap.size + 1 := (by omega); have yyw1_a : w.heap.size < w1.heap.size + 1 + 1 := (by omega); have zw1_x : w.heap.size + 1 < w1.heap.size := (by first | omega | (have hz := hb.size; (try simp at hz); omega)); have yw1_x : w.heap.size + 1 < w1.heap.size + 1 := (by omega); have yyw1_x : w.heap.size + 1 < w1.heap.size + 1 + 1 := (by omega); have sxw1_0 : R1.heap.size ≤ w1.heap.size := (by first | omega | (have hz := hb.size; (try simp at hz); omega)); have HBw1 : Hid (Below w.heap.size w w1) := (bl_trans (by repeat (first | with_reducible exact Below.refl _ _ | with_reducible exact Hid.out (by assumption) | with_reducible refine Below.setCell ?_ (by first | (simp; done) | omega | (simp <;> omega)) _ | with_reducible refine bl_al ?_ _ | with_reducible apply Below.drew)) hb); clear hb; clear K1))
  rename_i hHeld
  clear hHeld
  go_wp2_with fail
  go_returns
  exact ⟨rfl, by repeat (first | with_reducible exact Below.refl _ _ | with_reducible exact Hid.out (by assumption) | with_reducible refine Below.setCell ?_ (by first | (simp; done) | omega | (simp <;> omega)) _ | with_reducible refine bl_al ?_ _ | with_reducible apply Below.drew)⟩
theorem is_any (h l k : Int) (w : World) : Calls Try.prog 39 #[.agg #[.int .i64 h, .int .u64 l], .int .i64 k, .agg #[.int .i64 h, .int .u64 l, .int .i64 k]] w fun e w' => e = .returned (.bool true) ∧ Below w.heap.size w w' :=
  is_core h l k w (num_any k)
end Go.Proofs.Ytgcblfaommhpbaa
