/- Ways: products and lengths. -/
import Derived.Test.YtgiamnehncbihaaVecMap
namespace Go.Proofs.Ytgiamnehncbihaa
open Go.RowKit
open Go.ChangeMaps (setBlock)
set_option maxRecDepth 20000 in
set_option maxHeartbeats 8000000 in
theorem dot_x (axh axl ayh ayl bxh bxl byh byl mh ml _nh _nl _sh _sl e1 _e2 _e3 : Int) (he : ¬ e1 = 0) (w : World)
    (S1 : ∀ (W : World) (B : Nat), W.heap[B]? = some (.map #[] 0) → Calls Try.prog 59 #[.map (some B), .agg #[.int .i64 axh, .int .u64 axl, .int .i64 bxh, .int .u64 bxl]] W fun e' w' => e' = .returned (.tuple #[.agg #[.int .i64 mh, .int .u64 ml], .int .i64 e1]) ∧ W.grownBy w' (some B) ∧ (e1 = 0 → w'.heap[B]? = some (.map #[⟨.agg #[.int .i64 axh, .int .u64 axl, .int .i64 bxh, .int .u64 bxl], .agg #[.int .i64 mh, .int .u64 ml], 0⟩] 1))) :
    Calls Try.prog 25 #[.agg #[.int .i64 axh, .int .u64 axl, .int .i64 ayh, .int .u64 ayl], .agg #[.int .i64 bxh, .int .u64 bxl, .int .i64 byh, .int .u64 byl]] w fun e w' => e = .returned (.tuple #[.agg #[.int .i64 0, .int .u64 0], .int .i64 e1]) ∧ Below w.heap.size w w' := by
  have K1 := Lib.hid S1
  clear S1
  have hmm := @run_makeMap Try.prog
  go_enter Try.func25, Try.ntmps25
  go_upto_region 2 with fail
  clear hmm
  refine name_world (P := fun W => Code.wp _ _ _ _ W) _ (fun R hR => ?_)
  have zR_0 : w.heap.size < R.heap.size := by rw [hR]; first | omega | (simp; done) | (simp; omega)
  have cR_0_0 : R.cell? ⟨w.heap.size, 0, none⟩ = some (.int .i64 axh) := by rw [hR]; simp [go_sem, *]
  have cR_0_1 : R.cell? ⟨w.heap.size, 1, none⟩ = some (.int .u64 axl) := by rw [hR]; simp [go_sem, *]
  have cR_0_2 : R.cell? ⟨w.heap.size, 2, none⟩ = some (.int .i64 ayh) := by rw [hR]; simp [go_sem, *]
  have cR_0_3 : R.cell? ⟨w.heap.size, 3, none⟩ = some (.int .u64 ayl) := by rw [hR]; simp [go_sem, *]
  have zR_1 : w.heap.size + 1 < R.heap.size := by rw [hR]; first | omega | (simp; done) | (simp; omega)
  have cR_1_0 : R.cell? ⟨w.heap.size + 1, 0, none⟩ = some (.int .i64 bxh) := by rw [hR]; simp [go_sem, *]
  have cR_1_1 : R.cell? ⟨w.heap.size + 1, 1, none⟩ = some (.int .u64 bxl) := by rw [hR]; simp [go_sem, *]
  have cR_1_2 : R.cell? ⟨w.heap.size + 1, 2, none⟩ = some (.int .i64 byh) := by rw [hR]; simp [go_sem, *]
  have cR_1_3 : R.cell? ⟨w.heap.size + 1, 3, none⟩ = some (.int .u64 byl) := by rw [hR]; simp [go_sem, *]
  have zR_2 : w.heap.size + 1 + 1 < R.heap.size := by rw [hR]; first | omega | (simp; done) | (simp; omega)
  have cR_2_0 : R.cell? ⟨w.heap.size + 1 + 1, 0, none⟩ = some (.int .i64 0) := by rw [hR]; simp [go_sem, *]
  have cR_2_1 : R.cell? ⟨w.heap.size + 1 + 1, 1, none⟩ = some (.int .u64 0) := by rw [hR]; simp [go_sem, *]
  have fR_2 : ∀ j, R.frozen? ⟨w.heap.size + 1 + 1, j, none⟩ = false := fun j => by rw [hR]; first | (simp [go_sem, *]; done) | (simp only [frozen?_alloc_cells]; simp [World.frozen?, *]; done) | (simp [frozen?_alloc_cells, World.frozen?, *]; done)
  have HBR : Hid (Below w.heap.size w R) := by rw [hR]; show Below _ _ _; exact (by repeat (first | with_reducible exact Below.refl _ _ | with_reducible exact Hid.out (by assumption) | with_reducible refine Below.setCell ?_ (by first | (simp; done) | omega | (simp <;> omega)) _ | with_reducible refine bl_al ?_ _ | with_reducible apply Below.drew))
  have zB : w.heap.size + 1 + 1 + 1 < R.heap.size := by rw [hR]; simp
  have hRb : R.heap[w.heap.size + 1 + 1 + 1]? = some (.map #[] 0) := by rw [hR]; have h := (MapKept.heap_alloc (((w.alloc (.cells #[.int .i64 axh, .int .u64 axl, .int .i64 ayh, .int .u64 ayl] 42)).alloc (.cells #[.int .i64 bxh, .int .u64 bxl, .int .i64 byh, .int .u64 byl] 42)).alloc (.cells #[.int .i64 0, .int .u64 0] 24)) (.map #[] 0)).1; simpa using h
  clear hR
  go_wp2_with fail
  (with_reducible refine (K1.out _ _ hRb).mono ?_); rintro e w1 ⟨rfl, hg, hm⟩
  obtain ⟨hcl, hfr⟩ := grown_cells hg
  have zw1_0 : w.heap.size < w1.heap.size := Nat.lt_of_lt_of_le (by first | omega | (simp; omega)) hg.size
  have new1_0 : w.heap.size ≠ w.heap.size + 1 + 1 + 1 := by omega
  have cw1_0_0 : w1.cell? ⟨w.heap.size, 0, none⟩ = some (.int .i64 axh) := by rw [hcl _ _ (by omega) new1_0]; assumption
  have cw1_0_1 : w1.cell? ⟨w.heap.size, 1, none⟩ = some (.int .u64 axl) := by rw [hcl _ _ (by omega) new1_0]; assumption
  have cw1_0_2 : w1.cell? ⟨w.heap.size, 2, none⟩ = some (.int .i64 ayh) := by rw [hcl _ _ (by omega) new1_0]; assumption
  have cw1_0_3 : w1.cell? ⟨w.heap.size, 3, none⟩ = some (.int .u64 ayl) := by rw [hcl _ _ (by omega) new1_0]; assumption
  have zw1_1 : w.heap.size + 1 < w1.heap.size := Nat.lt_of_lt_of_le (by first | omega | (simp; omega)) hg.size
  have new1_1 : w.heap.size + 1 ≠ w.heap.size + 1 + 1 + 1 := by omega
  have cw1_1_0 : w1.cell? ⟨w.heap.size + 1, 0, none⟩ = some (.int .i64 bxh) := by rw [hcl _ _ (by omega) new1_1]; assumption
  have cw1_1_1 : w1.cell? ⟨w.heap.size + 1, 1, none⟩ = some (.int .u64 bxl) := by rw [hcl _ _ (by omega) new1_1]; assumption
  have cw1_1_2 : w1.cell? ⟨w.heap.size + 1, 2, none⟩ = some (.int .i64 byh) := by rw [hcl _ _ (by omega) new1_1]; assumption
  have cw1_1_3 : w1.cell? ⟨w.heap.size + 1, 3, none⟩ = some (.int .u64 byl) := by rw [hcl _ _ (by omega) new1_1]; assumption
  have zw1_2 : w.heap.size + 1 + 1 < w1.heap.size := Nat.lt_of_lt_of_le (by first | omega | (simp; omega)) hg.size
  have new1_2 : w.heap.size + 1 + 1 ≠ w.heap.size + 1 + 1 + 1 := by omega
  have cw1_2_0 : w1.cell? ⟨w.heap.size + 1 + 1, 0, none⟩ = some (.int .i64 0) := by rw [hcl _ _ (by omega) new1_2]; assumption
  have cw1_2_1 : w1.cell? ⟨w.heap.size + 1 + 1, 1, none⟩ = some (.int .u64 0) := by rw [hcl _ _ (by omega) new1_2]; assumption
  have fw1_2 : ∀ j, w1.frozen? ⟨w.heap.size + 1 + 1, j, none⟩ = false := fun j => by rw [hfr _ _ (by omega) new1_2]; first | exact fR_2 j | exact fS_2 j | (simp [*]; done)
  have HBw1 : Hid (Below w.heap.size w w1) := Below.grown (Hid.out (by assumption)) hg (by omega) (fun k hk => by cases hk; omega)
  have zzw1 : w.heap.size + 1 + 1 + 1 < w1.heap.size := Nat.lt_of_lt_of_le (by omega) hg.size
  clear hg hcl hfr
  clear hm
  go_wp2_with fail
  refine bodyPost_ret (by simp [results, Try.results25, go_sem, *]; try rfl) rfl ?_
  exact ⟨rfl, by repeat (first | with_reducible exact Below.refl _ _ | with_reducible exact Hid.out (by assumption) | with_reducible refine Below.setCell ?_ (by first | (simp; done) | omega | (simp <;> omega)) _ | with_reducible refine bl_al ?_ _ | with_reducible apply Below.drew)⟩
set_option maxRecDepth 20000 in
set_option maxHeartbeats 8000000 in
theorem dot_y (axh axl ayh ayl bxh bxl byh byl mh ml nh nl _sh _sl e1 e2 _e3 : Int) (h1 : e1 = 0) (he : ¬ e2 = 0) (w : World)
    (S1 : ∀ (W : World) (B : Nat), W.heap[B]? = some (.map #[] 0) → Calls Try.prog 59 #[.map (some B), .agg #[.int .i64 axh, .int .u64 axl, .int .i64 bxh, .int .u64 bxl]] W fun e' w' => e' = .returned (.tuple #[.agg #[.int .i64 mh, .int .u64 ml], .int .i64 e1]) ∧ W.grownBy w' (some B) ∧ (e1 = 0 → w'.heap[B]? = some (.map #[⟨.agg #[.int .i64 axh, .int .u64 axl, .int .i64 bxh, .int .u64 bxl], .agg #[.int .i64 mh, .int .u64 ml], 0⟩] 1)))
    (S2 : ∀ (W : World) (B : Nat), W.heap[B]? = some (.map #[⟨.agg #[.int .i64 axh, .int .u64 axl, .int .i64 bxh, .int .u64 bxl], .agg #[.int .i64 mh, .int .u64 ml], 0⟩] 1) → Calls Try.prog 59 #[.map (some B), .agg #[.int .i64 ayh, .int .u64 ayl, .int .i64 byh, .int .u64 byl]] W fun e' w' => e' = .returned (.tuple #[.agg #[.int .i64 nh, .int .u64 nl], .int .i64 e2]) ∧ W.grownBy w' (some B)) :
    Calls Try.prog 25 #[.agg #[.int .i64 axh, .int .u64 axl, .int .i64 ayh, .int .u64 ayl], .agg #[.int .i64 bxh, .int .u64 bxl, .int .i64 byh, .int .u64 byl]] w fun e w' => e = .returned (.tuple #[.agg #[.int .i64 0, .int .u64 0], .int .i64 e2]) ∧ Below w.heap.size w w' := by
  subst h1
  have K1 := Lib.hid S1
  clear S1
  have K2 := Lib.hid S2
  clear S2
  have hmm := @run_makeMap Try.prog
  go_enter Try.func25, Try.ntmps25
  go_upto_region 2 with fail
  clear hmm
  refine name_world (P := fun W => Code.wp _ _ _ _ W) _ (fun R hR => ?_)
  have zR_0 : w.heap.size < R.heap.size := by rw [hR]; first | omega | (simp; done) | (simp; omega)
  have cR_0_0 : R.cell? ⟨w.heap.size, 0, none⟩ = some (.int .i64 axh) := by rw [hR]; simp [go_sem, *]
  have cR_0_1 : R.cell? ⟨w.heap.size, 1, none⟩ = some (.int .u64 axl) := by rw [hR]; simp [go_sem, *]
  have cR_0_2 : R.cell? ⟨w.heap.size, 2, none⟩ = some (.int .i64 ayh) := by rw [hR]; simp [go_sem, *]
  have cR_0_3 : R.cell? ⟨w.heap.size, 3, none⟩ = some (.int .u64 ayl) := by rw [hR]; simp [go_sem, *]
  have zR_1 : w.heap.size + 1 < R.heap.size := by rw [hR]; first | omega | (simp; done) | (simp; omega)
  have cR_1_0 : R.cell? ⟨w.heap.size + 1, 0, none⟩ = some (.int .i64 bxh) := by rw [hR]; simp [go_sem, *]
  have cR_1_1 : R.cell? ⟨w.heap.size + 1, 1, none⟩ = some (.int .u64 bxl) := by rw [hR]; simp [go_sem, *]
  have cR_1_2 : R.cell? ⟨w.heap.size + 1, 2, none⟩ = some (.int .i64 byh) := by rw [hR]; simp [go_sem, *]
  have cR_1_3 : R.cell? ⟨w.heap.size + 1, 3, none⟩ = some (.int .u64 byl) := by rw [hR]; simp [go_sem, *]
  have zR_2 : w.heap.size + 1 + 1 < R.heap.size := by rw [hR]; first | omega | (simp; done) | (simp; omega)
  have cR_2_0 : R.cell? ⟨w.heap.size + 1 + 1, 0, none⟩ = some (.int .i64 0) := by rw [hR]; simp [go_sem, *]
  have cR_2_1 : R.cell? ⟨w.heap.size + 1 + 1, 1, none⟩ = some (.int .u64 0) := by rw [hR]; simp [go_sem, *]
  have fR_2 : ∀ j, R.frozen? ⟨w.heap.size + 1 + 1, j, none⟩ = false := fun j => by rw [hR]; first | (simp [go_sem, *]; done) | (simp only [frozen?_alloc_cells]; simp [World.frozen?, *]; done) | (simp [frozen?_alloc_cells, World.frozen?, *]; done)
  have HBR : Hid (Below w.heap.size w R) := by rw [hR]; show Below _ _ _; exact (by repeat (first | with_reducible exact Below.refl _ _ | with_reducible exact Hid.out (by assumption) | with_reducible refine Below.setCell ?_ (by first | (simp; done) | omega | (simp <;> omega)) _ | with_reducible refine bl_al ?_ _ | with_reducible apply Below.drew))
  have zB : w.heap.size + 1 + 1 + 1 < R.heap.size := by rw [hR]; simp
  have hRb : R.heap[w.heap.size + 1 + 1 + 1]? = some (.map #[] 0) := by rw [hR]; have h := (MapKept.heap_alloc (((w.alloc (.cells #[.int .i64 axh, .int .u64 axl, .int .i64 ayh, .int .u64 ayl] 42)).alloc (.cells #[.int .i64 bxh, .int .u64 bxl, .int .i64 byh, .int .u64 byl] 42)).alloc (.cells #[.int .i64 0, .int .u64 0] 24)) (.map #[] 0)).1; simpa using h
  clear hR
  go_wp2_with fail
  (with_reducible refine (K1.out _ _ hRb).mono ?_); rintro e w1 ⟨rfl, hg, hm⟩
  obtain ⟨hcl, hfr⟩ := grown_cells hg
  have zw1_0 : w.heap.size < w1.heap.size := Nat.lt_of_lt_of_le (by first | omega | (simp; omega)) hg.size
  have new1_0 : w.heap.size ≠ w.heap.size + 1 + 1 + 1 := by omega
  have cw1_0_0 : w1.cell? ⟨w.heap.size, 0, none⟩ = some (.int .i64 axh) := by rw [hcl _ _ (by omega) new1_0]; assumption
  have cw1_0_1 : w1.cell? ⟨w.heap.size, 1, none⟩ = some (.int .u64 axl) := by rw [hcl _ _ (by omega) new1_0]; assumption
  have cw1_0_2 : w1.cell? ⟨w.heap.size, 2, none⟩ = some (.int .i64 ayh) := by rw [hcl _ _ (by omega) new1_0]; assumption
  have cw1_0_3 : w1.cell? ⟨w.heap.size, 3, none⟩ = some (.int .u64 ayl) := by rw [hcl _ _ (by omega) new1_0]; assumption
  have zw1_1 : w.heap.size + 1 < w1.heap.size := Nat.lt_of_lt_of_le (by first | omega | (simp; omega)) hg.size
  have new1_1 : w.heap.size + 1 ≠ w.heap.size + 1 + 1 + 1 := by omega
  have cw1_1_0 : w1.cell? ⟨w.heap.size + 1, 0, none⟩ = some (.int .i64 bxh) := by rw [hcl _ _ (by omega) new1_1]; assumption
  have cw1_1_1 : w1.cell? ⟨w.heap.size + 1, 1, none⟩ = some (.int .u64 bxl) := by rw [hcl _ _ (by omega) new1_1]; assumption
  have cw1_1_2 : w1.cell? ⟨w.heap.size + 1, 2, none⟩ = some (.int .i64 byh) := by rw [hcl _ _ (by omega) new1_1]; assumption
  have cw1_1_3 : w1.cell? ⟨w.heap.size + 1, 3, none⟩ = some (.int .u64 byl) := by rw [hcl _ _ (by omega) new1_1]; assumption
  have zw1_2 : w.heap.size + 1 + 1 < w1.heap.size := Nat.lt_of_lt_of_le (by first | omega | (simp; omega)) hg.size
  have new1_2 : w.heap.size + 1 + 1 ≠ w.heap.size + 1 + 1 + 1 := by omega
  have cw1_2_0 : w1.cell? ⟨w.heap.size + 1 + 1, 0, none⟩ = some (.int .i64 0) := by rw [hcl _ _ (by omega) new1_2]; assumption
  have cw1_2_1 : w1.cell? ⟨w.heap.size + 1 + 1, 1, none⟩ = some (.int .u64 0) := by rw [hcl _ _ (by omega) new1_2]; assumption
  have fw1_2 : ∀ j, w1.frozen? ⟨w.heap.size + 1 + 1, j, none⟩ = false := fun j => by rw [hfr _ _ (by omega) new1_2]; first | exact fR_2 j | exact fS_2 j | (simp [*]; done)
  have HBw1 : Hid (Below w.heap.size w w1) := Below.grown (Hid.out (by assumption)) hg (by omega) (fun k hk => by cases hk; omega)
  have zzw1 : w.heap.size + 1 + 1 + 1 < w1.heap.size := Nat.lt_of_lt_of_le (by omega) hg.size
  clear hg hcl hfr
  have hm := hm (by first | rfl | trivial)
  go_upto_region 5 with fail
  refine name_world (P := fun W => Code.wp _ _ _ _ W) _ (fun S hS => ?_)
  have zS_0 : w.heap.size < S.heap.size := by rw [hS]; first | omega | (simp; done) | (simp; omega)
  have cS_0_0 : S.cell? ⟨w.heap.size, 0, none⟩ = some (.int .i64 axh) := by rw [hS]; simp [go_sem, *]
  have cS_0_1 : S.cell? ⟨w.heap.size, 1, none⟩ = some (.int .u64 axl) := by rw [hS]; simp [go_sem, *]
  have cS_0_2 : S.cell? ⟨w.heap.size, 2, none⟩ = some (.int .i64 ayh) := by rw [hS]; simp [go_sem, *]
  have cS_0_3 : S.cell? ⟨w.heap.size, 3, none⟩ = some (.int .u64 ayl) := by rw [hS]; simp [go_sem, *]
  have zS_1 : w.heap.size + 1 < S.heap.size := by rw [hS]; first | omega | (simp; done) | (simp; omega)
  have cS_1_0 : S.cell? ⟨w.heap.size + 1, 0, none⟩ = some (.int .i64 bxh) := by rw [hS]; simp [go_sem, *]
  have cS_1_1 : S.cell? ⟨w.heap.size + 1, 1, none⟩ = some (.int .u64 bxl) := by rw [hS]; simp [go_sem, *]
  have cS_1_2 : S.cell? ⟨w.heap.size + 1, 2, none⟩ = some (.int .i64 byh) := by rw [hS]; simp [go_sem, *]
  have cS_1_3 : S.cell? ⟨w.heap.size + 1, 3, none⟩ = some (.int .u64 byl) := by rw [hS]; simp [go_sem, *]
  have zS_2 : w.heap.size + 1 + 1 < S.heap.size := by rw [hS]; first | omega | (simp; done) | (simp; omega)
  have cS_2_0 : S.cell? ⟨w.heap.size + 1 + 1, 0, none⟩ = some (.int .i64 0) := by rw [hS]; simp [go_sem, *]
  have cS_2_1 : S.cell? ⟨w.heap.size + 1 + 1, 1, none⟩ = some (.int .u64 0) := by rw [hS]; simp [go_sem, *]
  have fS_2 : ∀ j, S.frozen? ⟨w.heap.size + 1 + 1, j, none⟩ = false := fun j => by rw [hS]; first | (simp [go_sem, *]; done) | (simp only [frozen?_alloc_cells]; simp [World.frozen?, *]; done) | (simp [frozen?_alloc_cells, World.frozen?, *]; done)
  have zS_3 : w1.heap.size < S.heap.size := by rw [hS]; first | omega | (simp; done) | (simp; omega)
  have cS_3_0 : S.cell? ⟨w1.heap.size, 0, none⟩ = some (.int .i64 mh) := by rw [hS]; simp [go_sem, *]
  have cS_3_1 : S.cell? ⟨w1.heap.size, 1, none⟩ = some (.int .u64 ml) := by rw [hS]; simp [go_sem, *]
  have HBS : Hid (Below w.heap.size w S) := by rw [hS]; show Below _ _ _; exact (by repeat (first | with_reducible exact Below.refl _ _ | with_reducible exact Hid.out (by assumption) | with_reducible refine Below.setCell ?_ (by first | (simp; done) | omega | (simp <;> omega)) _ | with_reducible refine bl_al ?_ _ | with_reducible apply Below.drew))
  have zS : w.heap.size + 1 + 1 + 1 < S.heap.size := by rw [hS]; first | omega | (simp; omega)
  have hSb : S.heap[w.heap.size + 1 + 1 + 1]? = some (.map #[⟨.agg #[.int .i64 axh, .int .u64 axl, .int .i64 bxh, .int .u64 bxl], .agg #[.int .i64 mh, .int .u64 ml], 0⟩] 1) := by rw [hS]; repeat (first | with_reducible exact hm | refine heap_al ?_ _ | rw [set_heap _ _ _ (by omega)])
  clear hS hm hRb
  clear cR_0_0
  clear cR_0_1
  clear cR_0_2
  clear cR_0_3
  clear cR_1_0
  clear cR_1_1
  clear cR_1_2
  clear cR_1_3
  clear cR_2_0
  clear cR_2_1
  go_wp2_with fail
  (with_reducible refine (K2.out _ _ hSb).mono ?_); rintro e w2 ⟨rfl, hg⟩
  obtain ⟨hcl, hfr⟩ := grown_cells hg
  have zw2_0 : w.heap.size < w2.heap.size := Nat.lt_of_lt_of_le (by first | omega | (simp; omega)) hg.size
  have new2_0 : w.heap.size ≠ w.heap.size + 1 + 1 + 1 := by omega
  have cw2_0_0 : w2.cell? ⟨w.heap.size, 0, none⟩ = some (.int .i64 axh) := by rw [hcl _ _ (by omega) new2_0]; assumption
  have cw2_0_1 : w2.cell? ⟨w.heap.size, 1, none⟩ = some (.int .u64 axl) := by rw [hcl _ _ (by omega) new2_0]; assumption
  have cw2_0_2 : w2.cell? ⟨w.heap.size, 2, none⟩ = some (.int .i64 ayh) := by rw [hcl _ _ (by omega) new2_0]; assumption
  have cw2_0_3 : w2.cell? ⟨w.heap.size, 3, none⟩ = some (.int .u64 ayl) := by rw [hcl _ _ (by omega) new2_0]; assumption
  have zw2_1 : w.heap.size + 1 < w2.heap.size := Nat.lt_of_lt_of_le (by first | omega | (simp; omega)) hg.size
  have new2_1 : w.heap.size + 1 ≠ w.heap.size + 1 + 1 + 1 := by omega
  have cw2_1_0 : w2.cell? ⟨w.heap.size + 1, 0, none⟩ = some (.int .i64 bxh) := by rw [hcl _ _ (by omega) new2_1]; assumption
  have cw2_1_1 : w2.cell? ⟨w.heap.size + 1, 1, none⟩ = some (.int .u64 bxl) := by rw [hcl _ _ (by omega) new2_1]; assumption
  have cw2_1_2 : w2.cell? ⟨w.heap.size + 1, 2, none⟩ = some (.int .i64 byh) := by rw [hcl _ _ (by omega) new2_1]; assumption
  have cw2_1_3 : w2.cell? ⟨w.heap.size + 1, 3, none⟩ = some (.int .u64 byl) := by rw [hcl _ _ (by omega) new2_1]; assumption
  have zw2_2 : w.heap.size + 1 + 1 < w2.heap.size := Nat.lt_of_lt_of_le (by first | omega | (simp; omega)) hg.size
  have new2_2 : w.heap.size + 1 + 1 ≠ w.heap.size + 1 + 1 + 1 := by omega
  have cw2_2_0 : w2.cell? ⟨w.heap.size + 1 + 1, 0, none⟩ = some (.int .i64 0) := by rw [hcl _ _ (by omega) new2_2]; assumption
  have cw2_2_1 : w2.cell? ⟨w.heap.size + 1 + 1, 1, none⟩ = some (.int .u64 0) := by rw [hcl _ _ (by omega) new2_2]; assumption
  have fw2_2 : ∀ j, w2.frozen? ⟨w.heap.size + 1 + 1, j, none⟩ = false := fun j => by rw [hfr _ _ (by omega) new2_2]; first | exact fR_2 j | exact fS_2 j | (simp [*]; done)
  have zw2_3 : w1.heap.size < w2.heap.size := Nat.lt_of_lt_of_le (by first | omega | (simp; omega)) hg.size
  have new2_3 : w1.heap.size ≠ w.heap.size + 1 + 1 + 1 := by omega
  have cw2_3_0 : w2.cell? ⟨w1.heap.size, 0, none⟩ = some (.int .i64 mh) := by rw [hcl _ _ (by omega) new2_3]; assumption
  have cw2_3_1 : w2.cell? ⟨w1.heap.size, 1, none⟩ = some (.int .u64 ml) := by rw [hcl _ _ (by omega) new2_3]; assumption
  have HBw2 : Hid (Below w.heap.size w w2) := Below.grown (Hid.out (by assumption)) hg (by omega) (fun k hk => by cases hk; omega)
  have zzw2 : w.heap.size + 1 + 1 + 1 < w2.heap.size := Nat.lt_of_lt_of_le (by omega) hg.size
  clear hg hcl hfr
  go_wp2_with fail
  refine bodyPost_ret (by simp [results, Try.results25, go_sem, *]; try rfl) rfl ?_
  exact ⟨rfl, by repeat (first | with_reducible exact Below.refl _ _ | with_reducible exact Hid.out (by assumption) | with_reducible refine Below.setCell ?_ (by first | (simp; done) | omega | (simp <;> omega)) _ | with_reducible refine bl_al ?_ _ | with_reducible apply Below.drew)⟩
set_option maxRecDepth 20000 in
set_option maxHeartbeats 8000000 in
theorem dot_ok (axh axl ayh ayl bxh bxl byh byl mh ml nh nl sh sl e1 e2 e3 : Int) (h1 : e1 = 0) (h2 : e2 = 0) (w : World)
    (S1 : ∀ (W : World) (B : Nat), W.heap[B]? = some (.map #[] 0) → Calls Try.prog 59 #[.map (some B), .agg #[.int .i64 axh, .int .u64 axl, .int .i64 bxh, .int .u64 bxl]] W fun e' w' => e' = .returned (.tuple #[.agg #[.int .i64 mh, .int .u64 ml], .int .i64 e1]) ∧ W.grownBy w' (some B) ∧ (e1 = 0 → w'.heap[B]? = some (.map #[⟨.agg #[.int .i64 axh, .int .u64 axl, .int .i64 bxh, .int .u64 bxl], .agg #[.int .i64 mh, .int .u64 ml], 0⟩] 1)))
    (S2 : ∀ (W : World) (B : Nat), W.heap[B]? = some (.map #[⟨.agg #[.int .i64 axh, .int .u64 axl, .int .i64 bxh, .int .u64 bxl], .agg #[.int .i64 mh, .int .u64 ml], 0⟩] 1) → Calls Try.prog 59 #[.map (some B), .agg #[.int .i64 ayh, .int .u64 ayl, .int .i64 byh, .int .u64 byl]] W fun e' w' => e' = .returned (.tuple #[.agg #[.int .i64 nh, .int .u64 nl], .int .i64 e2]) ∧ W.grownBy w' (some B))
    (C3 : ∀ W, Calls Try.prog 56 #[.agg #[.int .i64 mh, .int .u64 ml], .agg #[.int .i64 nh, .int .u64 nl]] W fun e w' => e = .returned (.tuple #[.agg #[.int .i64 sh, .int .u64 sl], .int .i64 e3]) ∧ Below W.heap.size W w') :
    Calls Try.prog 25 #[.agg #[.int .i64 axh, .int .u64 axl, .int .i64 ayh, .int .u64 ayl], .agg #[.int .i64 bxh, .int .u64 bxl, .int .i64 byh, .int .u64 byl]] w fun e w' => e = .returned (.tuple #[.agg #[.int .i64 sh, .int .u64 sl], .int .i64 e3]) ∧ Below w.heap.size w w' := by
  subst h1; subst h2
  have K1 := Lib.hid S1
  clear S1
  have K2 := Lib.hid S2
  clear S2
  have K3 := Lib.hid C3
  clear C3
  have hmm := @run_makeMap Try.prog
  go_enter Try.func25, Try.ntmps25
  go_upto_region 2 with fail
  clear hmm
  refine name_world (P := fun W => Code.wp _ _ _ _ W) _ (fun R hR => ?_)
  have zR_0 : w.heap.size < R.heap.size := by rw [hR]; first | omega | (simp; done) | (simp; omega)
  have cR_0_0 : R.cell? ⟨w.heap.size, 0, none⟩ = some (.int .i64 axh) := by rw [hR]; simp [go_sem, *]
  have cR_0_1 : R.cell? ⟨w.heap.size, 1, none⟩ = some (.int .u64 axl) := by rw [hR]; simp [go_sem, *]
  have cR_0_2 : R.cell? ⟨w.heap.size, 2, none⟩ = some (.int .i64 ayh) := by rw [hR]; simp [go_sem, *]
  have cR_0_3 : R.cell? ⟨w.heap.size, 3, none⟩ = some (.int .u64 ayl) := by rw [hR]; simp [go_sem, *]
  have zR_1 : w.heap.size + 1 < R.heap.size := by rw [hR]; first | omega | (simp; done) | (simp; omega)
  have cR_1_0 : R.cell? ⟨w.heap.size + 1, 0, none⟩ = some (.int .i64 bxh) := by rw [hR]; simp [go_sem, *]
  have cR_1_1 : R.cell? ⟨w.heap.size + 1, 1, none⟩ = some (.int .u64 bxl) := by rw [hR]; simp [go_sem, *]
  have cR_1_2 : R.cell? ⟨w.heap.size + 1, 2, none⟩ = some (.int .i64 byh) := by rw [hR]; simp [go_sem, *]
  have cR_1_3 : R.cell? ⟨w.heap.size + 1, 3, none⟩ = some (.int .u64 byl) := by rw [hR]; simp [go_sem, *]
  have zR_2 : w.heap.size + 1 + 1 < R.heap.size := by rw [hR]; first | omega | (simp; done) | (simp; omega)
  have cR_2_0 : R.cell? ⟨w.heap.size + 1 + 1, 0, none⟩ = some (.int .i64 0) := by rw [hR]; simp [go_sem, *]
  have cR_2_1 : R.cell? ⟨w.heap.size + 1 + 1, 1, none⟩ = some (.int .u64 0) := by rw [hR]; simp [go_sem, *]
  have fR_2 : ∀ j, R.frozen? ⟨w.heap.size + 1 + 1, j, none⟩ = false := fun j => by rw [hR]; first | (simp [go_sem, *]; done) | (simp only [frozen?_alloc_cells]; simp [World.frozen?, *]; done) | (simp [frozen?_alloc_cells, World.frozen?, *]; done)
  have HBR : Hid (Below w.heap.size w R) := by rw [hR]; show Below _ _ _; exact (by repeat (first | with_reducible exact Below.refl _ _ | with_reducible exact Hid.out (by assumption) | with_reducible refine Below.setCell ?_ (by first | (simp; done) | omega | (simp <;> omega)) _ | with_reducible refine bl_al ?_ _ | with_reducible apply Below.drew))
  have zB : w.heap.size + 1 + 1 + 1 < R.heap.size := by rw [hR]; simp
  have hRb : R.heap[w.heap.size + 1 + 1 + 1]? = some (.map #[] 0) := by rw [hR]; have h := (MapKept.heap_alloc (((w.alloc (.cells #[.int .i64 axh, .int .u64 axl, .int .i64 ayh, .int .u64 ayl] 42)).alloc (.cells #[.int .i64 bxh, .int .u64 bxl, .int .i64 byh, .int .u64 byl] 42)).alloc (.cells #[.int .i64 0, .int .u64 0] 24)) (.map #[] 0)).1; simpa using h
  clear hR
  go_wp2_with fail
  (with_reducible refine (K1.out _ _ hRb).mono ?_); rintro e w1 ⟨rfl, hg, hm⟩
  obtain ⟨hcl, hfr⟩ := grown_cells hg
  have zw1_0 : w.heap.size < w1.heap.size := Nat.lt_of_lt_of_le (by first | omega | (simp; omega)) hg.size
  have new1_0 : w.heap.size ≠ w.heap.size + 1 + 1 + 1 := by omega
  have cw1_0_0 : w1.cell? ⟨w.heap.size, 0, none⟩ = some (.int .i64 axh) := by rw [hcl _ _ (by omega) new1_0]; assumption
  have cw1_0_1 : w1.cell? ⟨w.heap.size, 1, none⟩ = some (.int .u64 axl) := by rw [hcl _ _ (by omega) new1_0]; assumption
  have cw1_0_2 : w1.cell? ⟨w.heap.size, 2, none⟩ = some (.int .i64 ayh) := by rw [hcl _ _ (by omega) new1_0]; assumption
  have cw1_0_3 : w1.cell? ⟨w.heap.size, 3, none⟩ = some (.int .u64 ayl) := by rw [hcl _ _ (by omega) new1_0]; assumption
  have zw1_1 : w.heap.size + 1 < w1.heap.size := Nat.lt_of_lt_of_le (by first | omega | (simp; omega)) hg.size
  have new1_1 : w.heap.size + 1 ≠ w.heap.size + 1 + 1 + 1 := by omega
  have cw1_1_0 : w1.cell? ⟨w.heap.size + 1, 0, none⟩ = some (.int .i64 bxh) := by rw [hcl _ _ (by omega) new1_1]; assumption
  have cw1_1_1 : w1.cell? ⟨w.heap.size + 1, 1, none⟩ = some (.int .u64 bxl) := by rw [hcl _ _ (by omega) new1_1]; assumption
  have cw1_1_2 : w1.cell? ⟨w.heap.size + 1, 2, none⟩ = some (.int .i64 byh) := by rw [hcl _ _ (by omega) new1_1]; assumption
  have cw1_1_3 : w1.cell? ⟨w.heap.size + 1, 3, none⟩ = some (.int .u64 byl) := by rw [hcl _ _ (by omega) new1_1]; assumption
  have zw1_2 : w.heap.size + 1 + 1 < w1.heap.size := Nat.lt_of_lt_of_le (by first | omega | (simp; omega)) hg.size
  have new1_2 : w.heap.size + 1 + 1 ≠ w.heap.size + 1 + 1 + 1 := by omega
  have cw1_2_0 : w1.cell? ⟨w.heap.size + 1 + 1, 0, none⟩ = some (.int .i64 0) := by rw [hcl _ _ (by omega) new1_2]; assumption
  have cw1_2_1 : w1.cell? ⟨w.heap.size + 1 + 1, 1, none⟩ = some (.int .u64 0) := by rw [hcl _ _ (by omega) new1_2]; assumption
  have fw1_2 : ∀ j, w1.frozen? ⟨w.heap.size + 1 + 1, j, none⟩ = false := fun j => by rw [hfr _ _ (by omega) new1_2]; first | exact fR_2 j | exact fS_2 j | (simp [*]; done)
  have HBw1 : Hid (Below w.heap.size w w1) := Below.grown (Hid.out (by assumption)) hg (by omega) (fun k hk => by cases hk; omega)
  have zzw1 : w.heap.size + 1 + 1 + 1 < w1.heap.size := Nat.lt_of_lt_of_le (by omega) hg.size
  clear hg hcl hfr
  have hm := hm (by first | rfl | trivial)
  go_upto_region 5 with fail
  refine name_world (P := fun W => Code.wp _ _ _ _ W) _ (fun S hS => ?_)
  have zS_0 : w.heap.size < S.heap.size := by rw [hS]; first | omega | (simp; done) | (simp; omega)
  have cS_0_0 : S.cell? ⟨w.heap.size, 0, none⟩ = some (.int .i64 axh) := by rw [hS]; simp [go_sem, *]
  have cS_0_1 : S.cell? ⟨w.heap.size, 1, none⟩ = some (.int .u64 axl) := by rw [hS]; simp [go_sem, *]
  have cS_0_2 : S.cell? ⟨w.heap.size, 2, none⟩ = some (.int .i64 ayh) := by rw [hS]; simp [go_sem, *]
  have cS_0_3 : S.cell? ⟨w.heap.size, 3, none⟩ = some (.int .u64 ayl) := by rw [hS]; simp [go_sem, *]
  have zS_1 : w.heap.size + 1 < S.heap.size := by rw [hS]; first | omega | (simp; done) | (simp; omega)
  have cS_1_0 : S.cell? ⟨w.heap.size + 1, 0, none⟩ = some (.int .i64 bxh) := by rw [hS]; simp [go_sem, *]
  have cS_1_1 : S.cell? ⟨w.heap.size + 1, 1, none⟩ = some (.int .u64 bxl) := by rw [hS]; simp [go_sem, *]
  have cS_1_2 : S.cell? ⟨w.heap.size + 1, 2, none⟩ = some (.int .i64 byh) := by rw [hS]; simp [go_sem, *]
  have cS_1_3 : S.cell? ⟨w.heap.size + 1, 3, none⟩ = some (.int .u64 byl) := by rw [hS]; simp [go_sem, *]
  have zS_2 : w.heap.size + 1 + 1 < S.heap.size := by rw [hS]; first | omega | (simp; done) | (simp; omega)
  have cS_2_0 : S.cell? ⟨w.heap.size + 1 + 1, 0, none⟩ = some (.int .i64 0) := by rw [hS]; simp [go_sem, *]
  have cS_2_1 : S.cell? ⟨w.heap.size + 1 + 1, 1, none⟩ = some (.int .u64 0) := by rw [hS]; simp [go_sem, *]
  have fS_2 : ∀ j, S.frozen? ⟨w.heap.size + 1 + 1, j, none⟩ = false := fun j => by rw [hS]; first | (simp [go_sem, *]; done) | (simp only [frozen?_alloc_cells]; simp [World.frozen?, *]; done) | (simp [frozen?_alloc_cells, World.frozen?, *]; done)
  have zS_3 : w1.heap.size < S.heap.size := by rw [hS]; first | omega | (simp; done) | (simp; omega)
  have cS_3_0 : S.cell? ⟨w1.heap.size, 0, none⟩ = some (.int .i64 mh) := by rw [hS]; simp [go_sem, *]
  have cS_3_1 : S.cell? ⟨w1.heap.size, 1, none⟩ = some (.int .u64 ml) := by rw [hS]; simp [go_sem, *]
  have HBS : Hid (Below w.heap.size w S) := by rw [hS]; show Below _ _ _; exact (by repeat (first | with_reducible exact Below.refl _ _ | with_reducible exact Hid.out (by assumption) | with_reducible refine Below.setCell ?_ (by first | (simp; done) | omega | (simp <;> omega)) _ | with_reducible refine bl_al ?_ _ | with_reducible apply Below.drew))
  have zS : w.heap.size + 1 + 1 + 1 < S.heap.size := by rw [hS]; first | omega | (simp; omega)
  have hSb : S.heap[w.heap.size + 1 + 1 + 1]? = some (.map #[⟨.agg #[.int .i64 axh, .int .u64 axl, .int .i64 bxh, .int .u64 bxl], .agg #[.int .i64 mh, .int .u64 ml], 0⟩] 1) := by rw [hS]; repeat (first | with_reducible exact hm | refine heap_al ?_ _ | rw [set_heap _ _ _ (by omega)])
  clear hS hm hRb
  clear cR_0_0
  clear cR_0_1
  clear cR_0_2
  clear cR_0_3
  clear cR_1_0
  clear cR_1_1
  clear cR_1_2
  clear cR_1_3
  clear cR_2_0
  clear cR_2_1
  go_wp2_with fail
  (with_reducible refine (K2.out _ _ hSb).mono ?_); rintro e w2 ⟨rfl, hg⟩
  obtain ⟨hcl, hfr⟩ := grown_cells hg
  have zw2_0 : w.heap.size < w2.heap.size := Nat.lt_of_lt_of_le (by first | omega | (simp; omega)) hg.size
  have new2_0 : w.heap.size ≠ w.heap.size + 1 + 1 + 1 := by omega
  have cw2_0_0 : w2.cell? ⟨w.heap.size, 0, none⟩ = some (.int .i64 axh) := by rw [hcl _ _ (by omega) new2_0]; assumption
  have cw2_0_1 : w2.cell? ⟨w.heap.size, 1, none⟩ = some (.int .u64 axl) := by rw [hcl _ _ (by omega) new2_0]; assumption
  have cw2_0_2 : w2.cell? ⟨w.heap.size, 2, none⟩ = some (.int .i64 ayh) := by rw [hcl _ _ (by omega) new2_0]; assumption
  have cw2_0_3 : w2.cell? ⟨w.heap.size, 3, none⟩ = some (.int .u64 ayl) := by rw [hcl _ _ (by omega) new2_0]; assumption
  have zw2_1 : w.heap.size + 1 < w2.heap.size := Nat.lt_of_lt_of_le (by first | omega | (simp; omega)) hg.size
  have new2_1 : w.heap.size + 1 ≠ w.heap.size + 1 + 1 + 1 := by omega
  have cw2_1_0 : w2.cell? ⟨w.heap.size + 1, 0, none⟩ = some (.int .i64 bxh) := by rw [hcl _ _ (by omega) new2_1]; assumption
  have cw2_1_1 : w2.cell? ⟨w.heap.size + 1, 1, none⟩ = some (.int .u64 bxl) := by rw [hcl _ _ (by omega) new2_1]; assumption
  have cw2_1_2 : w2.cell? ⟨w.heap.size + 1, 2, none⟩ = some (.int .i64 byh) := by rw [hcl _ _ (by omega) new2_1]; assumption
  have cw2_1_3 : w2.cell? ⟨w.heap.size + 1, 3, none⟩ = some (.int .u64 byl) := by rw [hcl _ _ (by omega) new2_1]; assumption
  have zw2_2 : w.heap.size + 1 + 1 < w2.heap.size := Nat.lt_of_lt_of_le (by first | omega | (simp; omega)) hg.size
  have new2_2 : w.heap.size + 1 + 1 ≠ w.heap.size + 1 + 1 + 1 := by omega
  have cw2_2_0 : w2.cell? ⟨w.heap.size + 1 + 1, 0, none⟩ = some (.int .i64 0) := by rw [hcl _ _ (by omega) new2_2]; assumption
  have cw2_2_1 : w2.cell? ⟨w.heap.size + 1 + 1, 1, none⟩ = some (.int .u64 0) := by rw [hcl _ _ (by omega) new2_2]; assumption
  have fw2_2 : ∀ j, w2.frozen? ⟨w.heap.size + 1 + 1, j, none⟩ = false := fun j => by rw [hfr _ _ (by omega) new2_2]; first | exact fR_2 j | exact fS_2 j | (simp [*]; done)
  have zw2_3 : w1.heap.size < w2.heap.size := Nat.lt_of_lt_of_le (by first | omega | (simp; omega)) hg.size
  have new2_3 : w1.heap.size ≠ w.heap.size + 1 + 1 + 1 := by omega
  have cw2_3_0 : w2.cell? ⟨w1.heap.size, 0, none⟩ = some (.int .i64 mh) := by rw [hcl _ _ (by omega) new2_3]; assumption
  have cw2_3_1 : w2.cell? ⟨w1.heap.size, 1, none⟩ = some (.int .u64 ml) := by rw [hcl _ _ (by omega) new2_3]; assumption
  have HBw2 : Hid (Below w.heap.size w w2) := Below.grown (Hid.out (by assumption)) hg (by omega) (fun k hk => by cases hk; omega)
  have zzw2 : w.heap.size + 1 + 1 + 1 < w2.heap.size := Nat.lt_of_lt_of_le (by omega) hg.size
  clear hg hcl hfr
  go_wp2_with fail
  (with_reducible refine (K3.out _).mono ?_); rintro e w3 ⟨rfl, hb⟩
  obtain ⟨hcl, hfr⟩ := bcell hb
  have zw3_0 : w.heap.size + 1 + 1 < w3.heap.size := by have hz := hb.size; (try simp at hz); omega
  have cw3_0_0 : w3.cell? ⟨w.heap.size + 1 + 1, 0, none⟩ = some (.int .i64 0) := by rw [hcl _ _ (by first | omega | (simp; done) | (simp; omega))]; simp [go_sem, *]
  have cw3_0_1 : w3.cell? ⟨w.heap.size + 1 + 1, 1, none⟩ = some (.int .u64 0) := by rw [hcl _ _ (by first | omega | (simp; done) | (simp; omega))]; simp [go_sem, *]
  have fw3_0 : ∀ j, w3.frozen? ⟨w.heap.size + 1 + 1, j, none⟩ = false := fun j => by rw [hfr _ _ (by first | omega | (simp; done) | (simp; omega))]; first | (simp [go_sem, *]; done) | (simp only [frozen?_alloc_cells]; simp [World.frozen?, *]; done) | (simp [frozen?_alloc_cells, World.frozen?, *]; done)
  have HBw3 : Hid (Below w.heap.size w w3) := bl_trans (by repeat (first | with_reducible exact Below.refl _ _ | with_reducible exact Hid.out (by assumption) | with_reducible refine Below.setCell ?_ (by first | (simp; done) | omega | (simp <;> omega)) _ | with_reducible refine bl_al ?_ _ | with_reducible apply Below.drew)) hb
  clear hb hcl hfr
  go_wp2_with fail
  refine bodyPost_ret (by simp [results, Try.results25, go_sem, *]; try rfl) rfl ?_
  exact ⟨rfl, by repeat (first | with_reducible exact Below.refl _ _ | with_reducible exact Hid.out (by assumption) | with_reducible refine Below.setCell ?_ (by first | (simp; done) | omega | (simp <;> omega)) _ | with_reducible refine bl_al ?_ _ | with_reducible apply Below.drew)⟩
set_option maxRecDepth 20000 in
set_option maxHeartbeats 8000000 in
theorem len2_core (axh axl ayh ayl rh rl ee : Int) (w : World)
    (C1 : ∀ W, Calls Try.prog 25 #[.agg #[.int .i64 axh, .int .u64 axl, .int .i64 ayh, .int .u64 ayl], .agg #[.int .i64 axh, .int .u64 axl, .int .i64 ayh, .int .u64 ayl]] W fun e w' => e = .returned (.tuple #[.agg #[.int .i64 rh, .int .u64 rl], .int .i64 ee]) ∧ Below W.heap.size W w') :
    Calls Try.prog 26 #[.agg #[.int .i64 axh, .int .u64 axl, .int .i64 ayh, .int .u64 ayl]] w fun e w' => e = .returned (.tuple #[.agg #[.int .i64 rh, .int .u64 rl], .int .i64 ee]) ∧ Below w.heap.size w w' := by
  have K1 := Lib.hid C1
  clear C1
  go_enter Try.func26, Try.ntmps26
  go_wp2_with fail
  (with_reducible refine (K1.out _).mono ?_); rintro e w1 ⟨rfl, hb⟩
  obtain ⟨hcl, hfr⟩ := bcell hb
  have zw1_0 : w.heap.size + 1 < w1.heap.size := by have hz := hb.size; (try simp at hz); omega
  have cw1_0_0 : w1.cell? ⟨w.heap.size + 1, 0, none⟩ = some (.int .i64 0) := by rw [hcl _ _ (by first | omega | (simp; done) | (simp; omega))]; simp [go_sem, *]
  have cw1_0_1 : w1.cell? ⟨w.heap.size + 1, 1, none⟩ = some (.int .u64 0) := by rw [hcl _ _ (by first | omega | (simp; done) | (simp; omega))]; simp [go_sem, *]
  have fw1_0 : ∀ j, w1.frozen? ⟨w.heap.size + 1, j, none⟩ = false := fun j => by rw [hfr _ _ (by first | omega | (simp; done) | (simp; omega))]; first | (simp [go_sem, *]; done) | (simp only [frozen?_alloc_cells]; simp [World.frozen?, *]; done) | (simp [frozen?_alloc_cells, World.frozen?, *]; done)
  have HBw1 : Hid (Below w.heap.size w w1) := bl_trans (by repeat (first | with_reducible exact Below.refl _ _ | with_reducible exact Hid.out (by assumption) | with_reducible refine Below.setCell ?_ (by first | (simp; done) | omega | (simp <;> omega)) _ | with_reducible refine bl_al ?_ _ | with_reducible apply Below.drew)) hb
  clear hb hcl hfr
  go_wp2_with fail
  refine bodyPost_ret (by simp [results, Try.results26, go_sem, *]; try rfl) rfl ?_
  exact ⟨rfl, by repeat (first | with_reducible exact Below.refl _ _ | with_reducible exact Hid.out (by assumption) | with_reducible refine Below.setCell ?_ (by first | (simp; done) | omega | (simp <;> omega)) _ | with_reducible refine bl_al ?_ _ | with_reducible apply Below.drew)⟩
set_option maxRecDepth 20000 in
set_option maxHeartbeats 8000000 in
theorem len_err (axh axl ayh ayl rh rl ee : Int) (he : ¬ ee = 0) (w : World)
    (C1 : ∀ W, Calls Try.prog 26 #[.agg #[.int .i64 axh, .int .u64 axl, .int .i64 ayh, .int .u64 ayl]] W fun e w' => e = .returned (.tuple #[.agg #[.int .i64 rh, .int .u64 rl], .int .i64 ee]) ∧ Below W.heap.size W w') :
    Calls Try.prog 27 #[.agg #[.int .i64 axh, .int .u64 axl, .int .i64 ayh, .int .u64 ayl]] w fun e w' => e = .returned (.tuple #[.agg #[.int .i64 0, .int .u64 0], .int .i64 ee]) ∧ Below w.heap.size w w' := by
  have K1 := Lib.hid C1
  clear C1
  go_enter Try.func27, Try.ntmps27
  go_wp2_with fail
  (with_reducible refine (K1.out _).mono ?_); rintro e w1 ⟨rfl, hb⟩
  obtain ⟨hcl, hfr⟩ := bcell hb
  have zw1_0 : w.heap.size + 1 < w1.heap.size := by have hz := hb.size; (try simp at hz); omega
  have cw1_0_0 : w1.cell? ⟨w.heap.size + 1, 0, none⟩ = some (.int .i64 0) := by rw [hcl _ _ (by first | omega | (simp; done) | (simp; omega))]; simp [go_sem, *]
  have cw1_0_1 : w1.cell? ⟨w.heap.size + 1, 1, none⟩ = some (.int .u64 0) := by rw [hcl _ _ (by first | omega | (simp; done) | (simp; omega))]; simp [go_sem, *]
  have fw1_0 : ∀ j, w1.frozen? ⟨w.heap.size + 1, j, none⟩ = false := fun j => by rw [hfr _ _ (by first | omega | (simp; done) | (simp; omega))]; first | (simp [go_sem, *]; done) | (simp only [frozen?_alloc_cells]; simp [World.frozen?, *]; done) | (simp [frozen?_alloc_cells, World.frozen?, *]; done)
  have HBw1 : Hid (Below w.heap.size w w1) := bl_trans (by repeat (first | with_reducible exact Below.refl _ _ | with_reducible exact Hid.out (by assumption) | with_reducible refine Below.setCell ?_ (by first | (simp; done) | omega | (simp <;> omega)) _ | with_reducible refine bl_al ?_ _ | with_reducible apply Below.drew)) hb
  clear hb hcl hfr
  go_wp2_with fail
  refine bodyPost_ret (by simp [results, Try.results27, go_sem, *]; try rfl) rfl ?_
  exact ⟨rfl, by repeat (first | with_reducible exact Below.refl _ _ | with_reducible exact Hid.out (by assumption) | with_reducible refine Below.setCell ?_ (by first | (simp; done) | omega | (simp <;> omega)) _ | with_reducible refine bl_al ?_ _ | with_reducible apply Below.drew)⟩
set_option maxRecDepth 20000 in
set_option maxHeartbeats 8000000 in
theorem len_core (axh axl ayh ayl rh rl sh sl ee ef : Int) (he : ee = 0) (w : World)
    (C1 : ∀ W, Calls Try.prog 26 #[.agg #[.int .i64 axh, .int .u64 axl, .int .i64 ayh, .int .u64 ayl]] W fun e w' => e = .returned (.tuple #[.agg #[.int .i64 rh, .int .u64 rl], .int .i64 ee]) ∧ Below W.heap.size W w')
    (C2 : ∀ W, Calls Try.prog 60 #[.agg #[.int .i64 rh, .int .u64 rl]] W fun e w' => e = .returned (.tuple #[.agg #[.int .i64 sh, .int .u64 sl], .int .i64 ef]) ∧ Below W.heap.size W w') :
    Calls Try.prog 27 #[.agg #[.int .i64 axh, .int .u64 axl, .int .i64 ayh, .int .u64 ayl]] w fun e w' => e = .returned (.tuple #[.agg #[.int .i64 sh, .int .u64 sl], .int .i64 ef]) ∧ Below w.heap.size w w' := by
  subst he
  have K1 := Lib.hid C1; have K2 := Lib.hid C2
  clear C1 C2
  go_enter Try.func27, Try.ntmps27
  go_wp2_with fail
  (with_reducible refine (K1.out _).mono ?_); rintro e w1 ⟨rfl, hb⟩
  obtain ⟨hcl, hfr⟩ := bcell hb
  have zw1_0 : w.heap.size + 1 < w1.heap.size := by have hz := hb.size; (try simp at hz); omega
  have cw1_0_0 : w1.cell? ⟨w.heap.size + 1, 0, none⟩ = some (.int .i64 0) := by rw [hcl _ _ (by first | omega | (simp; done) | (simp; omega))]; simp [go_sem, *]
  have cw1_0_1 : w1.cell? ⟨w.heap.size + 1, 1, none⟩ = some (.int .u64 0) := by rw [hcl _ _ (by first | omega | (simp; done) | (simp; omega))]; simp [go_sem, *]
  have fw1_0 : ∀ j, w1.frozen? ⟨w.heap.size + 1, j, none⟩ = false := fun j => by rw [hfr _ _ (by first | omega | (simp; done) | (simp; omega))]; first | (simp [go_sem, *]; done) | (simp only [frozen?_alloc_cells]; simp [World.frozen?, *]; done) | (simp [frozen?_alloc_cells, World.frozen?, *]; done)
  have HBw1 : Hid (Below w.heap.size w w1) := bl_trans (by repeat (first | with_reducible exact Below.refl _ _ | with_reducible exact Hid.out (by assumption) | with_reducible refine Below.setCell ?_ (by first | (simp; done) | omega | (simp <;> omega)) _ | with_reducible refine bl_al ?_ _ | with_reducible apply Below.drew)) hb
  clear hb hcl hfr
  go_wp2_with fail
  (with_reducible refine (K2.out _).mono ?_); rintro e w2 ⟨rfl, hb⟩
  obtain ⟨hcl, hfr⟩ := bcell hb
  have zw2_0 : w.heap.size + 1 < w2.heap.size := by have hz := hb.size; (try simp at hz); omega
  have cw2_0_0 : w2.cell? ⟨w.heap.size + 1, 0, none⟩ = some (.int .i64 0) := by rw [hcl _ _ (by first | omega | (simp; done) | (simp; omega))]; simp [go_sem, *]
  have cw2_0_1 : w2.cell? ⟨w.heap.size + 1, 1, none⟩ = some (.int .u64 0) := by rw [hcl _ _ (by first | omega | (simp; done) | (simp; omega))]; simp [go_sem, *]
  have fw2_0 : ∀ j, w2.frozen? ⟨w.heap.size + 1, j, none⟩ = false := fun j => by rw [hfr _ _ (by first | omega | (simp; done) | (simp; omega))]; first | (simp [go_sem, *]; done) | (simp only [frozen?_alloc_cells]; simp [World.frozen?, *]; done) | (simp [frozen?_alloc_cells, World.frozen?, *]; done)
  have HBw2 : Hid (Below w.heap.size w w2) := bl_trans (by repeat (first | with_reducible exact Below.refl _ _ | with_reducible exact Hid.out (by assumption) | with_reducible refine Below.setCell ?_ (by first | (simp; done) | omega | (simp <;> omega)) _ | with_reducible refine bl_al ?_ _ | with_reducible apply Below.drew)) hb
  clear hb hcl hfr
  go_wp2_with fail
  refine bodyPost_ret (by simp [results, Try.results27, go_sem, *]; try rfl) rfl ?_
  exact ⟨rfl, by repeat (first | with_reducible exact Below.refl _ _ | with_reducible exact Hid.out (by assumption) | with_reducible refine Below.setCell ?_ (by first | (simp; done) | omega | (simp <;> omega)) _ | with_reducible refine bl_al ?_ _ | with_reducible apply Below.drew)⟩
end Go.Proofs.Ytgiamnehncbihaa
