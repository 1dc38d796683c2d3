/- Ways: what the package's functions come to. -/
import Derived.Test.YtgiamnehncbihaaVecOpen
import Derived.Test.YtgiamnehncbihaaFixAny1
import Derived.Test.YtgiamnehncbihaaFixAny2
namespace Go.Proofs.Ytgiamnehncbihaa
open Go.RowKit
set_option maxRecDepth 20000 in
set_option maxHeartbeats 8000000 in
theorem vmay_core (axh axl ayh ayl : Int) (p q : Bool) (w : World)
    (C1 : ∀ W, Calls Try.prog 48 #[.agg #[.int .i64 axh, .int .u64 axl]] W fun e w' => e = .returned (.bool p) ∧ Below W.heap.size W w')
    (C2 : ∀ W, Calls Try.prog 48 #[.agg #[.int .i64 ayh, .int .u64 ayl]] W fun e w' => e = .returned (.bool q) ∧ Below W.heap.size W w') :
    Calls Try.prog 19 #[.agg #[.int .i64 axh, .int .u64 axl, .int .i64 ayh, .int .u64 ayl]] w fun e w' => e = .returned (.bool (p && q)) ∧ Below w.heap.size w w' := by
  have K1 := Lib.hid C1; have K2 := Lib.hid C2
  clear C1 C2
  cases p
  · clear K2
    go_enter Try.func19, Try.ntmps19
    go_wp2_with fail
    (with_reducible refine (K1.out _).mono ?_); rintro e w1 ⟨rfl, hb⟩
    obtain ⟨hcl, hfr⟩ := bcell hb
    have HBw1 : Hid (Below w.heap.size w w1) := bl_trans (by repeat (first | with_reducible exact Below.refl _ _ | with_reducible exact Hid.out (by assumption) | with_reducible refine Below.setCell ?_ (by first | (simp; done) | omega | (simp <;> omega)) _ | with_reducible refine bl_al ?_ _ | with_reducible apply Below.drew)) hb
    clear hb hcl hfr
    go_wp2_with fail
    go_returns
    exact ⟨rfl, HBw1.out⟩
  · rw [Bool.true_and]
    go_enter Try.func19, Try.ntmps19
    go_wp2_with fail
    (with_reducible refine (K1.out _).mono ?_); rintro e w1 ⟨rfl, hb⟩
    obtain ⟨hcl, hfr⟩ := bcell hb
    have zw1_0 : w.heap.size < w1.heap.size := by have hz := hb.size; (try simp at hz); omega
    have cw1_0_0 : w1.cell? ⟨w.heap.size, 0, none⟩ = some (.int .i64 axh) := by rw [hcl _ _ (by first | omega | (simp; done) | (simp; omega))]; simp [go_sem, *]
    have cw1_0_1 : w1.cell? ⟨w.heap.size, 1, none⟩ = some (.int .u64 axl) := by rw [hcl _ _ (by first | omega | (simp; done) | (simp; omega))]; simp [go_sem, *]
    have cw1_0_2 : w1.cell? ⟨w.heap.size, 2, none⟩ = some (.int .i64 ayh) := by rw [hcl _ _ (by first | omega | (simp; done) | (simp; omega))]; simp [go_sem, *]
    have cw1_0_3 : w1.cell? ⟨w.heap.size, 3, none⟩ = some (.int .u64 ayl) := by rw [hcl _ _ (by first | omega | (simp; done) | (simp; omega))]; simp [go_sem, *]
    have HBw1 : Hid (Below w.heap.size w w1) := bl_trans (by repeat (first | with_reducible exact Below.refl _ _ | with_reducible exact Hid.out (by assumption) | with_reducible refine Below.setCell ?_ (by first | (simp; done) | omega | (simp <;> omega)) _ | with_reducible refine bl_al ?_ _ | with_reducible apply Below.drew)) hb
    clear hb hcl hfr
    go_wp2_with fail
    (with_reducible refine (K2.out _).mono ?_); rintro e w2 ⟨rfl, hb⟩
    obtain ⟨hcl, hfr⟩ := bcell hb
    have HBw2 : Hid (Below w.heap.size w w2) := bl_trans (by repeat (first | with_reducible exact Below.refl _ _ | with_reducible exact Hid.out (by assumption) | with_reducible refine Below.setCell ?_ (by first | (simp; done) | omega | (simp <;> omega)) _ | with_reducible refine bl_al ?_ _ | with_reducible apply Below.drew)) hb
    clear hb hcl hfr
    go_wp2_with fail
    go_returns
    exact ⟨rfl, HBw2.out⟩
set_option maxRecDepth 20000 in
set_option maxHeartbeats 8000000 in
theorem rmayvec_core (axh axl ayh ayl : Int) (p q : Bool) (w : World)
    (C1 : ∀ W, Calls Try.prog 17 #[.agg #[.int .i64 axh, .int .u64 axl]] W fun e w' => e = .returned (.bool p) ∧ Below W.heap.size W w')
    (C2 : ∀ W, Calls Try.prog 17 #[.agg #[.int .i64 ayh, .int .u64 ayl]] W fun e w' => e = .returned (.bool q) ∧ Below W.heap.size W w') :
    Calls Try.prog 20 #[.agg #[.int .i64 axh, .int .u64 axl, .int .i64 ayh, .int .u64 ayl]] w fun e w' => e = .returned (.bool (p && q)) ∧ Below w.heap.size w w' := by
  have K1 := Lib.hid C1; have K2 := Lib.hid C2
  clear C1 C2
  cases p
  · clear K2
    go_enter Try.func20, Try.ntmps20
    go_wp2_with fail
    (with_reducible refine (K1.out _).mono ?_); rintro e w1 ⟨rfl, hb⟩
    obtain ⟨hcl, hfr⟩ := bcell hb
    have HBw1 : Hid (Below w.heap.size w w1) := bl_trans (by repeat (first | with_reducible exact Below.refl _ _ | with_reducible exact Hid.out (by assumption) | with_reducible refine Below.setCell ?_ (by first | (simp; done) | omega | (simp <;> omega)) _ | with_reducible refine bl_al ?_ _ | with_reducible apply Below.drew)) hb
    clear hb hcl hfr
    go_wp2_with fail
    go_returns
    exact ⟨rfl, HBw1.out⟩
  · rw [Bool.true_and]
    go_enter Try.func20, Try.ntmps20
    go_wp2_with fail
    (with_reducible refine (K1.out _).mono ?_); rintro e w1 ⟨rfl, hb⟩
    obtain ⟨hcl, hfr⟩ := bcell hb
    have zw1_0 : w.heap.size < w1.heap.size := by have hz := hb.size; (try simp at hz); omega
    have cw1_0_0 : w1.cell? ⟨w.heap.size, 0, none⟩ = some (.int .i64 axh) := by rw [hcl _ _ (by first | omega | (simp; done) | (simp; omega))]; simp [go_sem, *]
    have cw1_0_1 : w1.cell? ⟨w.heap.size, 1, none⟩ = some (.int .u64 axl) := by rw [hcl _ _ (by first | omega | (simp; done) | (simp; omega))]; simp [go_sem, *]
    have cw1_0_2 : w1.cell? ⟨w.heap.size, 2, none⟩ = some (.int .i64 ayh) := by rw [hcl _ _ (by first | omega | (simp; done) | (simp; omega))]; simp [go_sem, *]
    have cw1_0_3 : w1.cell? ⟨w.heap.size, 3, none⟩ = some (.int .u64 ayl) := by rw [hcl _ _ (by first | omega | (simp; done) | (simp; omega))]; simp [go_sem, *]
    have HBw1 : Hid (Below w.heap.size w w1) := bl_trans (by repeat (first | with_reducible exact Below.refl _ _ | with_reducible exact Hid.out (by assumption) | with_reducible refine Below.setCell ?_ (by first | (simp; done) | omega | (simp <;> omega)) _ | with_reducible refine bl_al ?_ _ | with_reducible apply Below.drew)) hb
    clear hb hcl hfr
    go_wp2_with fail
    (with_reducible refine (K2.out _).mono ?_); rintro e w2 ⟨rfl, hb⟩
    obtain ⟨hcl, hfr⟩ := bcell hb
    have HBw2 : Hid (Below w.heap.size w w2) := bl_trans (by repeat (first | with_reducible exact Below.refl _ _ | with_reducible exact Hid.out (by assumption) | with_reducible refine Below.setCell ?_ (by first | (simp; done) | omega | (simp <;> omega)) _ | with_reducible refine bl_al ?_ _ | with_reducible apply Below.drew)) hb
    clear hb hcl hfr
    go_wp2_with fail
    go_returns
    exact ⟨rfl, HBw2.out⟩
set_option maxRecDepth 20000 in
set_option maxHeartbeats 8000000 in
theorem eachAdd_x (axh axl ayh ayl bxh bxl byh byl rh rl _sh _sl ex _ey : Int) (he : ¬ ex = 0) (w : World)
    (C1 : ∀ W, Calls Try.prog 56 #[.agg #[.int .i64 axh, .int .u64 axl], .agg #[.int .i64 bxh, .int .u64 bxl]] W fun e w' => e = .returned (.tuple #[.agg #[.int .i64 rh, .int .u64 rl], .int .i64 ex]) ∧ Below W.heap.size W w') :
    Calls Try.prog 55 #[.func (.func 56) #[] #[], .agg #[.int .i64 axh, .int .u64 axl, .int .i64 ayh, .int .u64 ayl], .agg #[.int .i64 bxh, .int .u64 bxl, .int .i64 byh, .int .u64 byl]] w fun e w' => e = .returned (.tuple #[.agg #[.int .i64 0, .int .u64 0, .int .i64 0, .int .u64 0], .int .i64 ex]) ∧ Below w.heap.size w w' := by
  have K1 := Lib.hid C1
  clear C1
  go_enter Try.func55, Try.ntmps55
  go_wp2_with fail
  (with_reducible refine (K1.out _).mono ?_); rintro e w1 ⟨rfl, hb⟩
  obtain ⟨hcl, hfr⟩ := bcell hb
  have zw1_0 : w.heap.size + 1 + 1 < w1.heap.size := by have hz := hb.size; (try simp at hz); omega
  have cw1_0_0 : w1.cell? ⟨w.heap.size + 1 + 1, 0, none⟩ = some (.int .i64 0) := by rw [hcl _ _ (by first | omega | (simp; done) | (simp; omega))]; simp [go_sem, *]
  have cw1_0_1 : w1.cell? ⟨w.heap.size + 1 + 1, 1, none⟩ = some (.int .u64 0) := by rw [hcl _ _ (by first | omega | (simp; done) | (simp; omega))]; simp [go_sem, *]
  have cw1_0_2 : w1.cell? ⟨w.heap.size + 1 + 1, 2, none⟩ = some (.int .i64 0) := by rw [hcl _ _ (by first | omega | (simp; done) | (simp; omega))]; simp [go_sem, *]
  have cw1_0_3 : w1.cell? ⟨w.heap.size + 1 + 1, 3, none⟩ = some (.int .u64 0) := by rw [hcl _ _ (by first | omega | (simp; done) | (simp; omega))]; simp [go_sem, *]
  have fw1_0 : ∀ j, w1.frozen? ⟨w.heap.size + 1 + 1, j, none⟩ = false := fun j => by rw [hfr _ _ (by first | omega | (simp; done) | (simp; omega))]; first | (simp [go_sem, *]; done) | (simp only [frozen?_alloc_cells]; simp [World.frozen?, *]; done) | (simp [frozen?_alloc_cells, World.frozen?, *]; done)
  have HBw1 : Hid (Below w.heap.size w w1) := bl_trans (by repeat (first | with_reducible exact Below.refl _ _ | with_reducible exact Hid.out (by assumption) | with_reducible refine Below.setCell ?_ (by first | (simp; done) | omega | (simp <;> omega)) _ | with_reducible refine bl_al ?_ _ | with_reducible apply Below.drew)) hb
  clear hb hcl hfr
  go_wp2_with fail
  refine bodyPost_ret (by simp [results, Try.results55, go_sem, *]; try rfl) rfl ?_
  exact ⟨rfl, by repeat (first | with_reducible exact Below.refl _ _ | with_reducible exact Hid.out (by assumption) | with_reducible refine Below.setCell ?_ (by first | (simp; done) | omega | (simp <;> omega)) _ | with_reducible refine bl_al ?_ _ | with_reducible apply Below.drew)⟩
set_option maxRecDepth 20000 in
set_option maxHeartbeats 8000000 in
theorem eachAdd_y (axh axl ayh ayl bxh bxl byh byl rh rl sh sl ex ey : Int) (hx : ex = 0) (he : ¬ ey = 0) (w : World)
    (C1 : ∀ W, Calls Try.prog 56 #[.agg #[.int .i64 axh, .int .u64 axl], .agg #[.int .i64 bxh, .int .u64 bxl]] W fun e w' => e = .returned (.tuple #[.agg #[.int .i64 rh, .int .u64 rl], .int .i64 ex]) ∧ Below W.heap.size W w')
    (C2 : ∀ W, Calls Try.prog 56 #[.agg #[.int .i64 ayh, .int .u64 ayl], .agg #[.int .i64 byh, .int .u64 byl]] W fun e w' => e = .returned (.tuple #[.agg #[.int .i64 sh, .int .u64 sl], .int .i64 ey]) ∧ Below W.heap.size W w') :
    Calls Try.prog 55 #[.func (.func 56) #[] #[], .agg #[.int .i64 axh, .int .u64 axl, .int .i64 ayh, .int .u64 ayl], .agg #[.int .i64 bxh, .int .u64 bxl, .int .i64 byh, .int .u64 byl]] w fun e w' => e = .returned (.tuple #[.agg #[.int .i64 0, .int .u64 0, .int .i64 0, .int .u64 0], .int .i64 ey]) ∧ Below w.heap.size w w' := by
  subst hx
  have K1 := Lib.hid C1; have K2 := Lib.hid C2
  clear C1 C2
  go_enter Try.func55, Try.ntmps55
  go_wp2_with fail
  (with_reducible refine (K1.out _).mono ?_); rintro e w1 ⟨rfl, hb⟩
  obtain ⟨hcl, hfr⟩ := bcell hb
  have zw1_0 : w.heap.size < w1.heap.size := by have hz := hb.size; (try simp at hz); omega
  have cw1_0_0 : w1.cell? ⟨w.heap.size, 0, none⟩ = some (.int .i64 axh) := by rw [hcl _ _ (by first | omega | (simp; done) | (simp; omega))]; simp [go_sem, *]
  have cw1_0_1 : w1.cell? ⟨w.heap.size, 1, none⟩ = some (.int .u64 axl) := by rw [hcl _ _ (by first | omega | (simp; done) | (simp; omega))]; simp [go_sem, *]
  have cw1_0_2 : w1.cell? ⟨w.heap.size, 2, none⟩ = some (.int .i64 ayh) := by rw [hcl _ _ (by first | omega | (simp; done) | (simp; omega))]; simp [go_sem, *]
  have cw1_0_3 : w1.cell? ⟨w.heap.size, 3, none⟩ = some (.int .u64 ayl) := by rw [hcl _ _ (by first | omega | (simp; done) | (simp; omega))]; simp [go_sem, *]
  have zw1_1 : w.heap.size + 1 < w1.heap.size := by have hz := hb.size; (try simp at hz); omega
  have cw1_1_0 : w1.cell? ⟨w.heap.size + 1, 0, none⟩ = some (.int .i64 bxh) := by rw [hcl _ _ (by first | omega | (simp; done) | (simp; omega))]; simp [go_sem, *]
  have cw1_1_1 : w1.cell? ⟨w.heap.size + 1, 1, none⟩ = some (.int .u64 bxl) := by rw [hcl _ _ (by first | omega | (simp; done) | (simp; omega))]; simp [go_sem, *]
  have cw1_1_2 : w1.cell? ⟨w.heap.size + 1, 2, none⟩ = some (.int .i64 byh) := by rw [hcl _ _ (by first | omega | (simp; done) | (simp; omega))]; simp [go_sem, *]
  have cw1_1_3 : w1.cell? ⟨w.heap.size + 1, 3, none⟩ = some (.int .u64 byl) := by rw [hcl _ _ (by first | omega | (simp; done) | (simp; omega))]; simp [go_sem, *]
  have zw1_2 : w.heap.size + 1 + 1 < w1.heap.size := by have hz := hb.size; (try simp at hz); omega
  have cw1_2_0 : w1.cell? ⟨w.heap.size + 1 + 1, 0, none⟩ = some (.int .i64 0) := by rw [hcl _ _ (by first | omega | (simp; done) | (simp; omega))]; simp [go_sem, *]
  have cw1_2_1 : w1.cell? ⟨w.heap.size + 1 + 1, 1, none⟩ = some (.int .u64 0) := by rw [hcl _ _ (by first | omega | (simp; done) | (simp; omega))]; simp [go_sem, *]
  have cw1_2_2 : w1.cell? ⟨w.heap.size + 1 + 1, 2, none⟩ = some (.int .i64 0) := by rw [hcl _ _ (by first | omega | (simp; done) | (simp; omega))]; simp [go_sem, *]
  have cw1_2_3 : w1.cell? ⟨w.heap.size + 1 + 1, 3, none⟩ = some (.int .u64 0) := by rw [hcl _ _ (by first | omega | (simp; done) | (simp; omega))]; simp [go_sem, *]
  have fw1_2 : ∀ j, w1.frozen? ⟨w.heap.size + 1 + 1, j, none⟩ = false := fun j => by rw [hfr _ _ (by first | omega | (simp; done) | (simp; omega))]; first | (simp [go_sem, *]; done) | (simp only [frozen?_alloc_cells]; simp [World.frozen?, *]; done) | (simp [frozen?_alloc_cells, World.frozen?, *]; done)
  have HBw1 : Hid (Below w.heap.size w w1) := bl_trans (by repeat (first | with_reducible exact Below.refl _ _ | with_reducible exact Hid.out (by assumption) | with_reducible refine Below.setCell ?_ (by first | (simp; done) | omega | (simp <;> omega)) _ | with_reducible refine bl_al ?_ _ | with_reducible apply Below.drew)) hb
  clear hb hcl hfr
  go_wp2_with fail
  (with_reducible refine (K2.out _).mono ?_); rintro e w2 ⟨rfl, hb⟩
  obtain ⟨hcl, hfr⟩ := bcell hb
  have zw2_0 : w.heap.size + 1 + 1 < w2.heap.size := by have hz := hb.size; (try simp at hz); omega
  have cw2_0_0 : w2.cell? ⟨w.heap.size + 1 + 1, 0, none⟩ = some (.int .i64 0) := by rw [hcl _ _ (by first | omega | (simp; done) | (simp; omega))]; simp [go_sem, *]
  have cw2_0_1 : w2.cell? ⟨w.heap.size + 1 + 1, 1, none⟩ = some (.int .u64 0) := by rw [hcl _ _ (by first | omega | (simp; done) | (simp; omega))]; simp [go_sem, *]
  have cw2_0_2 : w2.cell? ⟨w.heap.size + 1 + 1, 2, none⟩ = some (.int .i64 0) := by rw [hcl _ _ (by first | omega | (simp; done) | (simp; omega))]; simp [go_sem, *]
  have cw2_0_3 : w2.cell? ⟨w.heap.size + 1 + 1, 3, none⟩ = some (.int .u64 0) := by rw [hcl _ _ (by first | omega | (simp; done) | (simp; omega))]; simp [go_sem, *]
  have fw2_0 : ∀ j, w2.frozen? ⟨w.heap.size + 1 + 1, j, none⟩ = false := fun j => by rw [hfr _ _ (by first | omega | (simp; done) | (simp; omega))]; first | (simp [go_sem, *]; done) | (simp only [frozen?_alloc_cells]; simp [World.frozen?, *]; done) | (simp [frozen?_alloc_cells, World.frozen?, *]; done)
  have HBw2 : Hid (Below w.heap.size w w2) := bl_trans (by repeat (first | with_reducible exact Below.refl _ _ | with_reducible exact Hid.out (by assumption) | with_reducible refine Below.setCell ?_ (by first | (simp; done) | omega | (simp <;> omega)) _ | with_reducible refine bl_al ?_ _ | with_reducible apply Below.drew)) hb
  clear hb hcl hfr
  go_wp2_with fail
  refine bodyPost_ret (by simp [results, Try.results55, go_sem, *]; try rfl) rfl ?_
  exact ⟨rfl, by repeat (first | with_reducible exact Below.refl _ _ | with_reducible exact Hid.out (by assumption) | with_reducible refine Below.setCell ?_ (by first | (simp; done) | omega | (simp <;> omega)) _ | with_reducible refine bl_al ?_ _ | with_reducible apply Below.drew)⟩
set_option maxRecDepth 20000 in
set_option maxHeartbeats 8000000 in
theorem eachAdd_ok (axh axl ayh ayl bxh bxl byh byl rh rl sh sl ex ey : Int) (hx : ex = 0) (he : ey = 0) (w : World)
    (C1 : ∀ W, Calls Try.prog 56 #[.agg #[.int .i64 axh, .int .u64 axl], .agg #[.int .i64 bxh, .int .u64 bxl]] W fun e w' => e = .returned (.tuple #[.agg #[.int .i64 rh, .int .u64 rl], .int .i64 ex]) ∧ Below W.heap.size W w')
    (C2 : ∀ W, Calls Try.prog 56 #[.agg #[.int .i64 ayh, .int .u64 ayl], .agg #[.int .i64 byh, .int .u64 byl]] W fun e w' => e = .returned (.tuple #[.agg #[.int .i64 sh, .int .u64 sl], .int .i64 ey]) ∧ Below W.heap.size W w') :
    Calls Try.prog 55 #[.func (.func 56) #[] #[], .agg #[.int .i64 axh, .int .u64 axl, .int .i64 ayh, .int .u64 ayl], .agg #[.int .i64 bxh, .int .u64 bxl, .int .i64 byh, .int .u64 byl]] w fun e w' => e = .returned (.tuple #[.agg #[.int .i64 rh, .int .u64 rl, .int .i64 sh, .int .u64 sl], .int .i64 0]) ∧ Below w.heap.size w w' := by
  subst hx; subst he
  have K1 := Lib.hid C1; have K2 := Lib.hid C2
  clear C1 C2
  go_enter Try.func55, Try.ntmps55
  go_wp2_with fail
  (with_reducible refine (K1.out _).mono ?_); rintro e w1 ⟨rfl, hb⟩
  obtain ⟨hcl, hfr⟩ := bcell hb
  have zw1_0 : w.heap.size < w1.heap.size := by have hz := hb.size; (try simp at hz); omega
  have cw1_0_0 : w1.cell? ⟨w.heap.size, 0, none⟩ = some (.int .i64 axh) := by rw [hcl _ _ (by first | omega | (simp; done) | (simp; omega))]; simp [go_sem, *]
  have cw1_0_1 : w1.cell? ⟨w.heap.size, 1, none⟩ = some (.int .u64 axl) := by rw [hcl _ _ (by first | omega | (simp; done) | (simp; omega))]; simp [go_sem, *]
  have cw1_0_2 : w1.cell? ⟨w.heap.size, 2, none⟩ = some (.int .i64 ayh) := by rw [hcl _ _ (by first | omega | (simp; done) | (simp; omega))]; simp [go_sem, *]
  have cw1_0_3 : w1.cell? ⟨w.heap.size, 3, none⟩ = some (.int .u64 ayl) := by rw [hcl _ _ (by first | omega | (simp; done) | (simp; omega))]; simp [go_sem, *]
  have zw1_1 : w.heap.size + 1 < w1.heap.size := by have hz := hb.size; (try simp at hz); omega
  have cw1_1_0 : w1.cell? ⟨w.heap.size + 1, 0, none⟩ = some (.int .i64 bxh) := by rw [hcl _ _ (by first | omega | (simp; done) | (simp; omega))]; simp [go_sem, *]
  have cw1_1_1 : w1.cell? ⟨w.heap.size + 1, 1, none⟩ = some (.int .u64 bxl) := by rw [hcl _ _ (by first | omega | (simp; done) | (simp; omega))]; simp [go_sem, *]
  have cw1_1_2 : w1.cell? ⟨w.heap.size + 1, 2, none⟩ = some (.int .i64 byh) := by rw [hcl _ _ (by first | omega | (simp; done) | (simp; omega))]; simp [go_sem, *]
  have cw1_1_3 : w1.cell? ⟨w.heap.size + 1, 3, none⟩ = some (.int .u64 byl) := by rw [hcl _ _ (by first | omega | (simp; done) | (simp; omega))]; simp [go_sem, *]
  have zw1_2 : w.heap.size + 1 + 1 < w1.heap.size := by have hz := hb.size; (try simp at hz); omega
  have cw1_2_0 : w1.cell? ⟨w.heap.size + 1 + 1, 0, none⟩ = some (.int .i64 0) := by rw [hcl _ _ (by first | omega | (simp; done) | (simp; omega))]; simp [go_sem, *]
  have cw1_2_1 : w1.cell? ⟨w.heap.size + 1 + 1, 1, none⟩ = some (.int .u64 0) := by rw [hcl _ _ (by first | omega | (simp; done) | (simp; omega))]; simp [go_sem, *]
  have cw1_2_2 : w1.cell? ⟨w.heap.size + 1 + 1, 2, none⟩ = some (.int .i64 0) := by rw [hcl _ _ (by first | omega | (simp; done) | (simp; omega))]; simp [go_sem, *]
  have cw1_2_3 : w1.cell? ⟨w.heap.size + 1 + 1, 3, none⟩ = some (.int .u64 0) := by rw [hcl _ _ (by first | omega | (simp; done) | (simp; omega))]; simp [go_sem, *]
  have fw1_2 : ∀ j, w1.frozen? ⟨w.heap.size + 1 + 1, j, none⟩ = false := fun j => by rw [hfr _ _ (by first | omega | (simp; done) | (simp; omega))]; first | (simp [go_sem, *]; done) | (simp only [frozen?_alloc_cells]; simp [World.frozen?, *]; done) | (simp [frozen?_alloc_cells, World.frozen?, *]; done)
  have HBw1 : Hid (Below w.heap.size w w1) := bl_trans (by repeat (first | with_reducible exact Below.refl _ _ | with_reducible exact Hid.out (by assumption) | with_reducible refine Below.setCell ?_ (by first | (simp; done) | omega | (simp <;> omega)) _ | with_reducible refine bl_al ?_ _ | with_reducible apply Below.drew)) hb
  clear hb hcl hfr
  go_wp2_with fail
  (with_reducible refine (K2.out _).mono ?_); rintro e w2 ⟨rfl, hb⟩
  obtain ⟨hcl, hfr⟩ := bcell hb
  have zw2_0 : w.heap.size + 1 + 1 < w2.heap.size := by have hz := hb.size; (try simp at hz); omega
  have cw2_0_0 : w2.cell? ⟨w.heap.size + 1 + 1, 0, none⟩ = some (.int .i64 0) := by rw [hcl _ _ (by first | omega | (simp; done) | (simp; omega))]; simp [go_sem, *]
  have cw2_0_1 : w2.cell? ⟨w.heap.size + 1 + 1, 1, none⟩ = some (.int .u64 0) := by rw [hcl _ _ (by first | omega | (simp; done) | (simp; omega))]; simp [go_sem, *]
  have cw2_0_2 : w2.cell? ⟨w.heap.size + 1 + 1, 2, none⟩ = some (.int .i64 0) := by rw [hcl _ _ (by first | omega | (simp; done) | (simp; omega))]; simp [go_sem, *]
  have cw2_0_3 : w2.cell? ⟨w.heap.size + 1 + 1, 3, none⟩ = some (.int .u64 0) := by rw [hcl _ _ (by first | omega | (simp; done) | (simp; omega))]; simp [go_sem, *]
  have fw2_0 : ∀ j, w2.frozen? ⟨w.heap.size + 1 + 1, j, none⟩ = false := fun j => by rw [hfr _ _ (by first | omega | (simp; done) | (simp; omega))]; first | (simp [go_sem, *]; done) | (simp only [frozen?_alloc_cells]; simp [World.frozen?, *]; done) | (simp [frozen?_alloc_cells, World.frozen?, *]; done)
  have zw2_1 : w1.heap.size < w2.heap.size := by have hz := hb.size; (try simp at hz); omega
  have cw2_1_0 : w2.cell? ⟨w1.heap.size, 0, none⟩ = some (.int .i64 rh) := by rw [hcl _ _ (by first | omega | (simp; done) | (simp; omega))]; simp [go_sem, *]
  have cw2_1_1 : w2.cell? ⟨w1.heap.size, 1, none⟩ = some (.int .u64 rl) := by rw [hcl _ _ (by first | omega | (simp; done) | (simp; omega))]; simp [go_sem, *]
  have HBw2 : Hid (Below w.heap.size w w2) := bl_trans (by repeat (first | with_reducible exact Below.refl _ _ | with_reducible exact Hid.out (by assumption) | with_reducible refine Below.setCell ?_ (by first | (simp; done) | omega | (simp <;> omega)) _ | with_reducible refine bl_al ?_ _ | with_reducible apply Below.drew)) hb
  clear hb hcl hfr
  go_wp2_with fail
  refine bodyPost_ret (by simp [results, Try.results55, go_sem, *]; try rfl) rfl ?_
  exact ⟨rfl, by repeat (first | with_reducible exact Below.refl _ _ | with_reducible exact Hid.out (by assumption) | with_reducible refine Below.setCell ?_ (by first | (simp; done) | omega | (simp <;> omega)) _ | with_reducible refine bl_al ?_ _ | with_reducible apply Below.drew)⟩
set_option maxRecDepth 20000 in
set_option maxHeartbeats 8000000 in
theorem eachSub_x (axh axl ayh ayl bxh bxl byh byl rh rl _sh _sl ex _ey : Int) (he : ¬ ex = 0) (w : World)
    (C1 : ∀ W, Calls Try.prog 57 #[.agg #[.int .i64 axh, .int .u64 axl], .agg #[.int .i64 bxh, .int .u64 bxl]] W fun e w' => e = .returned (.tuple #[.agg #[.int .i64 rh, .int .u64 rl], .int .i64 ex]) ∧ Below W.heap.size W w') :
    Calls Try.prog 55 #[.func (.func 57) #[] #[], .agg #[.int .i64 axh, .int .u64 axl, .int .i64 ayh, .int .u64 ayl], .agg #[.int .i64 bxh, .int .u64 bxl, .int .i64 byh, .int .u64 byl]] w fun e w' => e = .returned (.tuple #[.agg #[.int .i64 0, .int .u64 0, .int .i64 0, .int .u64 0], .int .i64 ex]) ∧ Below w.heap.size w w' := by
  have K1 := Lib.hid C1
  clear C1
  go_enter Try.func55, Try.ntmps55
  go_wp2_with fail
  (with_reducible refine (K1.out _).mono ?_); rintro e w1 ⟨rfl, hb⟩
  obtain ⟨hcl, hfr⟩ := bcell hb
  have zw1_0 : w.heap.size + 1 + 1 < w1.heap.size := by have hz := hb.size; (try simp at hz); omega
  have cw1_0_0 : w1.cell? ⟨w.heap.size + 1 + 1, 0, none⟩ = some (.int .i64 0) := by rw [hcl _ _ (by first | omega | (simp; done) | (simp; omega))]; simp [go_sem, *]
  have cw1_0_1 : w1.cell? ⟨w.heap.size + 1 + 1, 1, none⟩ = some (.int .u64 0) := by rw [hcl _ _ (by first | omega | (simp; done) | (simp; omega))]; simp [go_sem, *]
  have cw1_0_2 : w1.cell? ⟨w.heap.size + 1 + 1, 2, none⟩ = some (.int .i64 0) := by rw [hcl _ _ (by first | omega | (simp; done) | (simp; omega))]; simp [go_sem, *]
  have cw1_0_3 : w1.cell? ⟨w.heap.size + 1 + 1, 3, none⟩ = some (.int .u64 0) := by rw [hcl _ _ (by first | omega | (simp; done) | (simp; omega))]; simp [go_sem, *]
  have fw1_0 : ∀ j, w1.frozen? ⟨w.heap.size + 1 + 1, j, none⟩ = false := fun j => by rw [hfr _ _ (by first | omega | (simp; done) | (simp; omega))]; first | (simp [go_sem, *]; done) | (simp only [frozen?_alloc_cells]; simp [World.frozen?, *]; done) | (simp [frozen?_alloc_cells, World.frozen?, *]; done)
  have HBw1 : Hid (Below w.heap.size w w1) := bl_trans (by repeat (first | with_reducible exact Below.refl _ _ | with_reducible exact Hid.out (by assumption) | with_reducible refine Below.setCell ?_ (by first | (simp; done) | omega | (simp <;> omega)) _ | with_reducible refine bl_al ?_ _ | with_reducible apply Below.drew)) hb
  clear hb hcl hfr
  go_wp2_with fail
  refine bodyPost_ret (by simp [results, Try.results55, go_sem, *]; try rfl) rfl ?_
  exact ⟨rfl, by repeat (first | with_reducible exact Below.refl _ _ | with_reducible exact Hid.out (by assumption) | with_reducible refine Below.setCell ?_ (by first | (simp; done) | omega | (simp <;> omega)) _ | with_reducible refine bl_al ?_ _ | with_reducible apply Below.drew)⟩
set_option maxRecDepth 20000 in
set_option maxHeartbeats 8000000 in
theorem eachSub_y (axh axl ayh ayl bxh bxl byh byl rh rl sh sl ex ey : Int) (hx : ex = 0) (he : ¬ ey = 0) (w : World)
    (C1 : ∀ W, Calls Try.prog 57 #[.agg #[.int .i64 axh, .int .u64 axl], .agg #[.int .i64 bxh, .int .u64 bxl]] W fun e w' => e = .returned (.tuple #[.agg #[.int .i64 rh, .int .u64 rl], .int .i64 ex]) ∧ Below W.heap.size W w')
    (C2 : ∀ W, Calls Try.prog 57 #[.agg #[.int .i64 ayh, .int .u64 ayl], .agg #[.int .i64 byh, .int .u64 byl]] W fun e w' => e = .returned (.tuple #[.agg #[.int .i64 sh, .int .u64 sl], .int .i64 ey]) ∧ Below W.heap.size W w') :
    Calls Try.prog 55 #[.func (.func 57) #[] #[], .agg #[.int .i64 axh, .int .u64 axl, .int .i64 ayh, .int .u64 ayl], .agg #[.int .i64 bxh, .int .u64 bxl, .int .i64 byh, .int .u64 byl]] w fun e w' => e = .returned (.tuple #[.agg #[.int .i64 0, .int .u64 0, .int .i64 0, .int .u64 0], .int .i64 ey]) ∧ Below w.heap.size w w' := by
  subst hx
  have K1 := Lib.hid C1; have K2 := Lib.hid C2
  clear C1 C2
  go_enter Try.func55, Try.ntmps55
  go_wp2_with fail
  (with_reducible refine (K1.out _).mono ?_); rintro e w1 ⟨rfl, hb⟩
  obtain ⟨hcl, hfr⟩ := bcell hb
  have zw1_0 : w.heap.size < w1.heap.size := by have hz := hb.size; (try simp at hz); omega
  have cw1_0_0 : w1.cell? ⟨w.heap.size, 0, none⟩ = some (.int .i64 axh) := by rw [hcl _ _ (by first | omega | (simp; done) | (simp; omega))]; simp [go_sem, *]
  have cw1_0_1 : w1.cell? ⟨w.heap.size, 1, none⟩ = some (.int .u64 axl) := by rw [hcl _ _ (by first | omega | (simp; done) | (simp; omega))]; simp [go_sem, *]
  have cw1_0_2 : w1.cell? ⟨w.heap.size, 2, none⟩ = some (.int .i64 ayh) := by rw [hcl _ _ (by first | omega | (simp; done) | (simp; omega))]; simp [go_sem, *]
  have cw1_0_3 : w1.cell? ⟨w.heap.size, 3, none⟩ = some (.int .u64 ayl) := by rw [hcl _ _ (by first | omega | (simp; done) | (simp; omega))]; simp [go_sem, *]
  have zw1_1 : w.heap.size + 1 < w1.heap.size := by have hz := hb.size; (try simp at hz); omega
  have cw1_1_0 : w1.cell? ⟨w.heap.size + 1, 0, none⟩ = some (.int .i64 bxh) := by rw [hcl _ _ (by first | omega | (simp; done) | (simp; omega))]; simp [go_sem, *]
  have cw1_1_1 : w1.cell? ⟨w.heap.size + 1, 1, none⟩ = some (.int .u64 bxl) := by rw [hcl _ _ (by first | omega | (simp; done) | (simp; omega))]; simp [go_sem, *]
  have cw1_1_2 : w1.cell? ⟨w.heap.size + 1, 2, none⟩ = some (.int .i64 byh) := by rw [hcl _ _ (by first | omega | (simp; done) | (simp; omega))]; simp [go_sem, *]
  have cw1_1_3 : w1.cell? ⟨w.heap.size + 1, 3, none⟩ = some (.int .u64 byl) := by rw [hcl _ _ (by first | omega | (simp; done) | (simp; omega))]; simp [go_sem, *]
  have zw1_2 : w.heap.size + 1 + 1 < w1.heap.size := by have hz := hb.size; (try simp at hz); omega
  have cw1_2_0 : w1.cell? ⟨w.heap.size + 1 + 1, 0, none⟩ = some (.int .i64 0) := by rw [hcl _ _ (by first | omega | (simp; done) | (simp; omega))]; simp [go_sem, *]
  have cw1_2_1 : w1.cell? ⟨w.heap.size + 1 + 1, 1, none⟩ = some (.int .u64 0) := by rw [hcl _ _ (by first | omega | (simp; done) | (simp; omega))]; simp [go_sem, *]
  have cw1_2_2 : w1.cell? ⟨w.heap.size + 1 + 1, 2, none⟩ = some (.int .i64 0) := by rw [hcl _ _ (by first | omega | (simp; done) | (simp; omega))]; simp [go_sem, *]
  have cw1_2_3 : w1.cell? ⟨w.heap.size + 1 + 1, 3, none⟩ = some (.int .u64 0) := by rw [hcl _ _ (by first | omega | (simp; done) | (simp; omega))]; simp [go_sem, *]
  have fw1_2 : ∀ j, w1.frozen? ⟨w.heap.size + 1 + 1, j, none⟩ = false := fun j => by rw [hfr _ _ (by first | omega | (simp; done) | (simp; omega))]; first | (simp [go_sem, *]; done) | (simp only [frozen?_alloc_cells]; simp [World.frozen?, *]; done) | (simp [frozen?_alloc_cells, World.frozen?, *]; done)
  have HBw1 : Hid (Below w.heap.size w w1) := bl_trans (by repeat (first | with_reducible exact Below.refl _ _ | with_reducible exact Hid.out (by assumption) | with_reducible refine Below.setCell ?_ (by first | (simp; done) | omega | (simp <;> omega)) _ | with_reducible refine bl_al ?_ _ | with_reducible apply Below.drew)) hb
  clear hb hcl hfr
  go_wp2_with fail
  (with_reducible refine (K2.out _).mono ?_); rintro e w2 ⟨rfl, hb⟩
  obtain ⟨hcl, hfr⟩ := bcell hb
  have zw2_0 : w.heap.size + 1 + 1 < w2.heap.size := by have hz := hb.size; (try simp at hz); omega
  have cw2_0_0 : w2.cell? ⟨w.heap.size + 1 + 1, 0, none⟩ = some (.int .i64 0) := by rw [hcl _ _ (by first | omega | (simp; done) | (simp; omega))]; simp [go_sem, *]
  have cw2_0_1 : w2.cell? ⟨w.heap.size + 1 + 1, 1, none⟩ = some (.int .u64 0) := by rw [hcl _ _ (by first | omega | (simp; done) | (simp; omega))]; simp [go_sem, *]
  have cw2_0_2 : w2.cell? ⟨w.heap.size + 1 + 1, 2, none⟩ = some (.int .i64 0) := by rw [hcl _ _ (by first | omega | (simp; done) | (simp; omega))]; simp [go_sem, *]
  have cw2_0_3 : w2.cell? ⟨w.heap.size + 1 + 1, 3, none⟩ = some (.int .u64 0) := by rw [hcl _ _ (by first | omega | (simp; done) | (simp; omega))]; simp [go_sem, *]
  have fw2_0 : ∀ j, w2.frozen? ⟨w.heap.size + 1 + 1, j, none⟩ = false := fun j => by rw [hfr _ _ (by first | omega | (simp; done) | (simp; omega))]; first | (simp [go_sem, *]; done) | (simp only [frozen?_alloc_cells]; simp [World.frozen?, *]; done) | (simp [frozen?_alloc_cells, World.frozen?, *]; done)
  have HBw2 : Hid (Below w.heap.size w w2) := bl_trans (by repeat (first | with_reducible exact Below.refl _ _ | with_reducible exact Hid.out (by assumption) | with_reducible refine Below.setCell ?_ (by first | (simp; done) | omega | (simp <;> omega)) _ | with_reducible refine bl_al ?_ _ | with_reducible apply Below.drew)) hb
  clear hb hcl hfr
  go_wp2_with fail
  refine bodyPost_ret (by simp [results, Try.results55, go_sem, *]; try rfl) rfl ?_
  exact ⟨rfl, by repeat (first | with_reducible exact Below.refl _ _ | with_reducible exact Hid.out (by assumption) | with_reducible refine Below.setCell ?_ (by first | (simp; done) | omega | (simp <;> omega)) _ | with_reducible refine bl_al ?_ _ | with_reducible apply Below.drew)⟩
set_option maxRecDepth 20000 in
set_option maxHeartbeats 8000000 in
theorem eachSub_ok (axh axl ayh ayl bxh bxl byh byl rh rl sh sl ex ey : Int) (hx : ex = 0) (he : ey = 0) (w : World)
    (C1 : ∀ W, Calls Try.prog 57 #[.agg #[.int .i64 axh, .int .u64 axl], .agg #[.int .i64 bxh, .int .u64 bxl]] W fun e w' => e = .returned (.tuple #[.agg #[.int .i64 rh, .int .u64 rl], .int .i64 ex]) ∧ Below W.heap.size W w')
    (C2 : ∀ W, Calls Try.prog 57 #[.agg #[.int .i64 ayh, .int .u64 ayl], .agg #[.int .i64 byh, .int .u64 byl]] W fun e w' => e = .returned (.tuple #[.agg #[.int .i64 sh, .int .u64 sl], .int .i64 ey]) ∧ Below W.heap.size W w') :
    Calls Try.prog 55 #[.func (.func 57) #[] #[], .agg #[.int .i64 axh, .int .u64 axl, .int .i64 ayh, .int .u64 ayl], .agg #[.int .i64 bxh, .int .u64 bxl, .int .i64 byh, .int .u64 byl]] w fun e w' => e = .returned (.tuple #[.agg #[.int .i64 rh, .int .u64 rl, .int .i64 sh, .int .u64 sl], .int .i64 0]) ∧ Below w.heap.size w w' := by
  subst hx; subst he
  have K1 := Lib.hid C1; have K2 := Lib.hid C2
  clear C1 C2
  go_enter Try.func55, Try.ntmps55
  go_wp2_with fail
  (with_reducible refine (K1.out _).mono ?_); rintro e w1 ⟨rfl, hb⟩
  obtain ⟨hcl, hfr⟩ := bcell hb
  have zw1_0 : w.heap.size < w1.heap.size := by have hz := hb.size; (try simp at hz); omega
  have cw1_0_0 : w1.cell? ⟨w.heap.size, 0, none⟩ = some (.int .i64 axh) := by rw [hcl _ _ (by first | omega | (simp; done) | (simp; omega))]; simp [go_sem, *]
  have cw1_0_1 : w1.cell? ⟨w.heap.size, 1, none⟩ = some (.int .u64 axl) := by rw [hcl _ _ (by first | omega | (simp; done) | (simp; omega))]; simp [go_sem, *]
  have cw1_0_2 : w1.cell? ⟨w.heap.size, 2, none⟩ = some (.int .i64 ayh) := by rw [hcl _ _ (by first | omega | (simp; done) | (simp; omega))]; simp [go_sem, *]
  have cw1_0_3 : w1.cell? ⟨w.heap.size, 3, none⟩ = some (.int .u64 ayl) := by rw [hcl _ _ (by first | omega | (simp; done) | (simp; omega))]; simp [go_sem, *]
  have zw1_1 : w.heap.size + 1 < w1.heap.size := by have hz := hb.size; (try simp at hz); omega
  have cw1_1_0 : w1.cell? ⟨w.heap.size + 1, 0, none⟩ = some (.int .i64 bxh) := by rw [hcl _ _ (by first | omega | (simp; done) | (simp; omega))]; simp [go_sem, *]
  have cw1_1_1 : w1.cell? ⟨w.heap.size + 1, 1, none⟩ = some (.int .u64 bxl) := by rw [hcl _ _ (by first | omega | (simp; done) | (simp; omega))]; simp [go_sem, *]
  have cw1_1_2 : w1.cell? ⟨w.heap.size + 1, 2, none⟩ = some (.int .i64 byh) := by rw [hcl _ _ (by first | omega | (simp; done) | (simp; omega))]; simp [go_sem, *]
  have cw1_1_3 : w1.cell? ⟨w.heap.size + 1, 3, none⟩ = some (.int .u64 byl) := by rw [hcl _ _ (by first | omega | (simp; done) | (simp; omega))]; simp [go_sem, *]
  have zw1_2 : w.heap.size + 1 + 1 < w1.heap.size := by have hz := hb.size; (try simp at hz); omega
  have cw1_2_0 : w1.cell? ⟨w.heap.size + 1 + 1, 0, none⟩ = some (.int .i64 0) := by rw [hcl _ _ (by first | omega | (simp; done) | (simp; omega))]; simp [go_sem, *]
  have cw1_2_1 : w1.cell? ⟨w.heap.size + 1 + 1, 1, none⟩ = some (.int .u64 0) := by rw [hcl _ _ (by first | omega | (simp; done) | (simp; omega))]; simp [go_sem, *]
  have cw1_2_2 : w1.cell? ⟨w.heap.size + 1 + 1, 2, none⟩ = some (.int .i64 0) := by rw [hcl _ _ (by first | omega | (simp; done) | (simp; omega))]; simp [go_sem, *]
  have cw1_2_3 : w1.cell? ⟨w.heap.size + 1 + 1, 3, none⟩ = some (.int .u64 0) := by rw [hcl _ _ (by first | omega | (simp; done) | (simp; omega))]; simp [go_sem, *]
  have fw1_2 : ∀ j, w1.frozen? ⟨w.heap.size + 1 + 1, j, none⟩ = false := fun j => by rw [hfr _ _ (by first | omega | (simp; done) | (simp; omega))]; first | (simp [go_sem, *]; done) | (simp only [frozen?_alloc_cells]; simp [World.frozen?, *]; done) | (simp [frozen?_alloc_cells, World.frozen?, *]; done)
  have HBw1 : Hid (Below w.heap.size w w1) := bl_trans (by repeat (first | with_reducible exact Below.refl _ _ | with_reducible exact Hid.out (by assumption) | with_reducible refine Below.setCell ?_ (by first | (simp; done) | omega | (simp <;> omega)) _ | with_reducible refine bl_al ?_ _ | with_reducible apply Below.drew)) hb
  clear hb hcl hfr
  go_wp2_with fail
  (with_reducible refine (K2.out _).mono ?_); rintro e w2 ⟨rfl, hb⟩
  obtain ⟨hcl, hfr⟩ := bcell hb
  have zw2_0 : w.heap.size + 1 + 1 < w2.heap.size := by have hz := hb.size; (try simp at hz); omega
  have cw2_0_0 : w2.cell? ⟨w.heap.size + 1 + 1, 0, none⟩ = some (.int .i64 0) := by rw [hcl _ _ (by first | omega | (simp; done) | (simp; omega))]; simp [go_sem, *]
  have cw2_0_1 : w2.cell? ⟨w.heap.size + 1 + 1, 1, none⟩ = some (.int .u64 0) := by rw [hcl _ _ (by first | omega | (simp; done) | (simp; omega))]; simp [go_sem, *]
  have cw2_0_2 : w2.cell? ⟨w.heap.size + 1 + 1, 2, none⟩ = some (.int .i64 0) := by rw [hcl _ _ (by first | omega | (simp; done) | (simp; omega))]; simp [go_sem, *]
  have cw2_0_3 : w2.cell? ⟨w.heap.size + 1 + 1, 3, none⟩ = some (.int .u64 0) := by rw [hcl _ _ (by first | omega | (simp; done) | (simp; omega))]; simp [go_sem, *]
  have fw2_0 : ∀ j, w2.frozen? ⟨w.heap.size + 1 + 1, j, none⟩ = false := fun j => by rw [hfr _ _ (by first | omega | (simp; done) | (simp; omega))]; first | (simp [go_sem, *]; done) | (simp only [frozen?_alloc_cells]; simp [World.frozen?, *]; done) | (simp [frozen?_alloc_cells, World.frozen?, *]; done)
  have zw2_1 : w1.heap.size < w2.heap.size := by have hz := hb.size; (try simp at hz); omega
  have cw2_1_0 : w2.cell? ⟨w1.heap.size, 0, none⟩ = some (.int .i64 rh) := by rw [hcl _ _ (by first | omega | (simp; done) | (simp; omega))]; simp [go_sem, *]
  have cw2_1_1 : w2.cell? ⟨w1.heap.size, 1, none⟩ = some (.int .u64 rl) := by rw [hcl _ _ (by first | omega | (simp; done) | (simp; omega))]; simp [go_sem, *]
  have HBw2 : Hid (Below w.heap.size w w2) := bl_trans (by repeat (first | with_reducible exact Below.refl _ _ | with_reducible exact Hid.out (by assumption) | with_reducible refine Below.setCell ?_ (by first | (simp; done) | omega | (simp <;> omega)) _ | with_reducible refine bl_al ?_ _ | with_reducible apply Below.drew)) hb
  clear hb hcl hfr
  go_wp2_with fail
  refine bodyPost_ret (by simp [results, Try.results55, go_sem, *]; try rfl) rfl ?_
  exact ⟨rfl, by repeat (first | with_reducible exact Below.refl _ _ | with_reducible exact Hid.out (by assumption) | with_reducible refine Below.setCell ?_ (by first | (simp; done) | omega | (simp <;> omega)) _ | with_reducible refine bl_al ?_ _ | with_reducible apply Below.drew)⟩
set_option maxRecDepth 20000 in
set_option maxHeartbeats 8000000 in
theorem eachMul_x (axh axl ayh ayl bxh bxl byh byl rh rl _sh _sl ex _ey : Int) (he : ¬ ex = 0) (w : World)
    (C1 : ∀ W, Calls Try.prog 58 #[.agg #[.int .i64 axh, .int .u64 axl], .agg #[.int .i64 bxh, .int .u64 bxl]] W fun e w' => e = .returned (.tuple #[.agg #[.int .i64 rh, .int .u64 rl], .int .i64 ex]) ∧ Below W.heap.size W w') :
    Calls Try.prog 55 #[.func (.func 58) #[] #[], .agg #[.int .i64 axh, .int .u64 axl, .int .i64 ayh, .int .u64 ayl], .agg #[.int .i64 bxh, .int .u64 bxl, .int .i64 byh, .int .u64 byl]] w fun e w' => e = .returned (.tuple #[.agg #[.int .i64 0, .int .u64 0, .int .i64 0, .int .u64 0], .int .i64 ex]) ∧ Below w.heap.size w w' := by
  have K1 := Lib.hid C1
  clear C1
  go_enter Try.func55, Try.ntmps55
  go_wp2_with fail
  (with_reducible refine (K1.out _).mono ?_); rintro e w1 ⟨rfl, hb⟩
  obtain ⟨hcl, hfr⟩ := bcell hb
  have zw1_0 : w.heap.size + 1 + 1 < w1.heap.size := by have hz := hb.size; (try simp at hz); omega
  have cw1_0_0 : w1.cell? ⟨w.heap.size + 1 + 1, 0, none⟩ = some (.int .i64 0) := by rw [hcl _ _ (by first | omega | (simp; done) | (simp; omega))]; simp [go_sem, *]
  have cw1_0_1 : w1.cell? ⟨w.heap.size + 1 + 1, 1, none⟩ = some (.int .u64 0) := by rw [hcl _ _ (by first | omega | (simp; done) | (simp; omega))]; simp [go_sem, *]
  have cw1_0_2 : w1.cell? ⟨w.heap.size + 1 + 1, 2, none⟩ = some (.int .i64 0) := by rw [hcl _ _ (by first | omega | (simp; done) | (simp; omega))]; simp [go_sem, *]
  have cw1_0_3 : w1.cell? ⟨w.heap.size + 1 + 1, 3, none⟩ = some (.int .u64 0) := by rw [hcl _ _ (by first | omega | (simp; done) | (simp; omega))]; simp [go_sem, *]
  have fw1_0 : ∀ j, w1.frozen? ⟨w.heap.size + 1 + 1, j, none⟩ = false := fun j => by rw [hfr _ _ (by first | omega | (simp; done) | (simp; omega))]; first | (simp [go_sem, *]; done) | (simp only [frozen?_alloc_cells]; simp [World.frozen?, *]; done) | (simp [frozen?_alloc_cells, World.frozen?, *]; done)
  have HBw1 : Hid (Below w.heap.size w w1) := bl_trans (by repeat (first | with_reducible exact Below.refl _ _ | with_reducible exact Hid.out (by assumption) | with_reducible refine Below.setCell ?_ (by first | (simp; done) | omega | (simp <;> omega)) _ | with_reducible refine bl_al ?_ _ | with_reducible apply Below.drew)) hb
  clear hb hcl hfr
  go_wp2_with fail
  refine bodyPost_ret (by simp [results, Try.results55, go_sem, *]; try rfl) rfl ?_
  exact ⟨rfl, by repeat (first | with_reducible exact Below.refl _ _ | with_reducible exact Hid.out (by assumption) | with_reducible refine Below.setCell ?_ (by first | (simp; done) | omega | (simp <;> omega)) _ | with_reducible refine bl_al ?_ _ | with_reducible apply Below.drew)⟩
set_option maxRecDepth 20000 in
set_option maxHeartbeats 8000000 in
theorem eachMul_y (axh axl ayh ayl bxh bxl byh byl rh rl sh sl ex ey : Int) (hx : ex = 0) (he : ¬ ey = 0) (w : World)
    (C1 : ∀ W, Calls Try.prog 58 #[.agg #[.int .i64 axh, .int .u64 axl], .agg #[.int .i64 bxh, .int .u64 bxl]] W fun e w' => e = .returned (.tuple #[.agg #[.int .i64 rh, .int .u64 rl], .int .i64 ex]) ∧ Below W.heap.size W w')
    (C2 : ∀ W, Calls Try.prog 58 #[.agg #[.int .i64 ayh, .int .u64 ayl], .agg #[.int .i64 byh, .int .u64 byl]] W fun e w' => e = .returned (.tuple #[.agg #[.int .i64 sh, .int .u64 sl], .int .i64 ey]) ∧ Below W.heap.size W w') :
    Calls Try.prog 55 #[.func (.func 58) #[] #[], .agg #[.int .i64 axh, .int .u64 axl, .int .i64 ayh, .int .u64 ayl], .agg #[.int .i64 bxh, .int .u64 bxl, .int .i64 byh, .int .u64 byl]] w fun e w' => e = .returned (.tuple #[.agg #[.int .i64 0, .int .u64 0, .int .i64 0, .int .u64 0], .int .i64 ey]) ∧ Below w.heap.size w w' := by
  subst hx
  have K1 := Lib.hid C1; have K2 := Lib.hid C2
  clear C1 C2
  go_enter Try.func55, Try.ntmps55
  go_wp2_with fail
  (with_reducible refine (K1.out _).mono ?_); rintro e w1 ⟨rfl, hb⟩
  obtain ⟨hcl, hfr⟩ := bcell hb
  have zw1_0 : w.heap.size < w1.heap.size := by have hz := hb.size; (try simp at hz); omega
  have cw1_0_0 : w1.cell? ⟨w.heap.size, 0, none⟩ = some (.int .i64 axh) := by rw [hcl _ _ (by first | omega | (simp; done) | (simp; omega))]; simp [go_sem, *]
  have cw1_0_1 : w1.cell? ⟨w.heap.size, 1, none⟩ = some (.int .u64 axl) := by rw [hcl _ _ (by first | omega | (simp; done) | (simp; omega))]; simp [go_sem, *]
  have cw1_0_2 : w1.cell? ⟨w.heap.size, 2, none⟩ = some (.int .i64 ayh) := by rw [hcl _ _ (by first | omega | (simp; done) | (simp; omega))]; simp [go_sem, *]
  have cw1_0_3 : w1.cell? ⟨w.heap.size, 3, none⟩ = some (.int .u64 ayl) := by rw [hcl _ _ (by first | omega | (simp; done) | (simp; omega))]; simp [go_sem, *]
  have zw1_1 : w.heap.size + 1 < w1.heap.size := by have hz := hb.size; (try simp at hz); omega
  have cw1_1_0 : w1.cell? ⟨w.heap.size + 1, 0, none⟩ = some (.int .i64 bxh) := by rw [hcl _ _ (by first | omega | (simp; done) | (simp; omega))]; simp [go_sem, *]
  have cw1_1_1 : w1.cell? ⟨w.heap.size + 1, 1, none⟩ = some (.int .u64 bxl) := by rw [hcl _ _ (by first | omega | (simp; done) | (simp; omega))]; simp [go_sem, *]
  have cw1_1_2 : w1.cell? ⟨w.heap.size + 1, 2, none⟩ = some (.int .i64 byh) := by rw [hcl _ _ (by first | omega | (simp; done) | (simp; omega))]; simp [go_sem, *]
  have cw1_1_3 : w1.cell? ⟨w.heap.size + 1, 3, none⟩ = some (.int .u64 byl) := by rw [hcl _ _ (by first | omega | (simp; done) | (simp; omega))]; simp [go_sem, *]
  have zw1_2 : w.heap.size + 1 + 1 < w1.heap.size := by have hz := hb.size; (try simp at hz); omega
  have cw1_2_0 : w1.cell? ⟨w.heap.size + 1 + 1, 0, none⟩ = some (.int .i64 0) := by rw [hcl _ _ (by first | omega | (simp; done) | (simp; omega))]; simp [go_sem, *]
  have cw1_2_1 : w1.cell? ⟨w.heap.size + 1 + 1, 1, none⟩ = some (.int .u64 0) := by rw [hcl _ _ (by first | omega | (simp; done) | (simp; omega))]; simp [go_sem, *]
  have cw1_2_2 : w1.cell? ⟨w.heap.size + 1 + 1, 2, none⟩ = some (.int .i64 0) := by rw [hcl _ _ (by first | omega | (simp; done) | (simp; omega))]; simp [go_sem, *]
  have cw1_2_3 : w1.cell? ⟨w.heap.size + 1 + 1, 3, none⟩ = some (.int .u64 0) := by rw [hcl _ _ (by first | omega | (simp; done) | (simp; omega))]; simp [go_sem, *]
  have fw1_2 : ∀ j, w1.frozen? ⟨w.heap.size + 1 + 1, j, none⟩ = false := fun j => by rw [hfr _ _ (by first | omega | (simp; done) | (simp; omega))]; first | (simp [go_sem, *]; done) | (simp only [frozen?_alloc_cells]; simp [World.frozen?, *]; done) | (simp [frozen?_alloc_cells, World.frozen?, *]; done)
  have HBw1 : Hid (Below w.heap.size w w1) := bl_trans (by repeat (first | with_reducible exact Below.refl _ _ | with_reducible exact Hid.out (by assumption) | with_reducible refine Below.setCell ?_ (by first | (simp; done) | omega | (simp <;> omega)) _ | with_reducible refine bl_al ?_ _ | with_reducible apply Below.drew)) hb
  clear hb hcl hfr
  go_wp2_with fail
  (with_reducible refine (K2.out _).mono ?_); rintro e w2 ⟨rfl, hb⟩
  obtain ⟨hcl, hfr⟩ := bcell hb
  have zw2_0 : w.heap.size + 1 + 1 < w2.heap.size := by have hz := hb.size; (try simp at hz); omega
  have cw2_0_0 : w2.cell? ⟨w.heap.size + 1 + 1, 0, none⟩ = some (.int .i64 0) := by rw [hcl _ _ (by first | omega | (simp; done) | (simp; omega))]; simp [go_sem, *]
  have cw2_0_1 : w2.cell? ⟨w.heap.size + 1 + 1, 1, none⟩ = some (.int .u64 0) := by rw [hcl _ _ (by first | omega | (simp; done) | (simp; omega))]; simp [go_sem, *]
  have cw2_0_2 : w2.cell? ⟨w.heap.size + 1 + 1, 2, none⟩ = some (.int .i64 0) := by rw [hcl _ _ (by first | omega | (simp; done) | (simp; omega))]; simp [go_sem, *]
  have cw2_0_3 : w2.cell? ⟨w.heap.size + 1 + 1, 3, none⟩ = some (.int .u64 0) := by rw [hcl _ _ (by first | omega | (simp; done) | (simp; omega))]; simp [go_sem, *]
  have fw2_0 : ∀ j, w2.frozen? ⟨w.heap.size + 1 + 1, j, none⟩ = false := fun j => by rw [hfr _ _ (by first | omega | (simp; done) | (simp; omega))]; first | (simp [go_sem, *]; done) | (simp only [frozen?_alloc_cells]; simp [World.frozen?, *]; done) | (simp [frozen?_alloc_cells, World.frozen?, *]; done)
  have HBw2 : Hid (Below w.heap.size w w2) := bl_trans (by repeat (first | with_reducible exact Below.refl _ _ | with_reducible exact Hid.out (by assumption) | with_reducible refine Below.setCell ?_ (by first | (simp; done) | omega | (simp <;> omega)) _ | with_reducible refine bl_al ?_ _ | with_reducible apply Below.drew)) hb
  clear hb hcl hfr
  go_wp2_with fail
  refine bodyPost_ret (by simp [results, Try.results55, go_sem, *]; try rfl) rfl ?_
  exact ⟨rfl, by repeat (first | with_reducible exact Below.refl _ _ | with_reducible exact Hid.out (by assumption) | with_reducible refine Below.setCell ?_ (by first | (simp; done) | omega | (simp <;> omega)) _ | with_reducible refine bl_al ?_ _ | with_reducible apply Below.drew)⟩
set_option maxRecDepth 20000 in
set_option maxHeartbeats 8000000 in
theorem eachMul_ok (axh axl ayh ayl bxh bxl byh byl rh rl sh sl ex ey : Int) (hx : ex = 0) (he : ey = 0) (w : World)
    (C1 : ∀ W, Calls Try.prog 58 #[.agg #[.int .i64 axh, .int .u64 axl], .agg #[.int .i64 bxh, .int .u64 bxl]] W fun e w' => e = .returned (.tuple #[.agg #[.int .i64 rh, .int .u64 rl], .int .i64 ex]) ∧ Below W.heap.size W w')
    (C2 : ∀ W, Calls Try.prog 58 #[.agg #[.int .i64 ayh, .int .u64 ayl], .agg #[.int .i64 byh, .int .u64 byl]] W fun e w' => e = .returned (.tuple #[.agg #[.int .i64 sh, .int .u64 sl], .int .i64 ey]) ∧ Below W.heap.size W w') :
    Calls Try.prog 55 #[.func (.func 58) #[] #[], .agg #[.int .i64 axh, .int .u64 axl, .int .i64 ayh, .int .u64 ayl], .agg #[.int .i64 bxh, .int .u64 bxl, .int .i64 byh, .int .u64 byl]] w fun e w' => e = .returned (.tuple #[.agg #[.int .i64 rh, .int .u64 rl, .int .i64 sh, .int .u64 sl], .int .i64 0]) ∧ Below w.heap.size w w' := by
  subst hx; subst he
  have K1 := Lib.hid C1; have K2 := Lib.hid C2
  clear C1 C2
  go_enter Try.func55, Try.ntmps55
  go_wp2_with fail
  (with_reducible refine (K1.out _).mono ?_); rintro e w1 ⟨rfl, hb⟩
  obtain ⟨hcl, hfr⟩ := bcell hb
  have zw1_0 : w.heap.size < w1.heap.size := by have hz := hb.size; (try simp at hz); omega
  have cw1_0_0 : w1.cell? ⟨w.heap.size, 0, none⟩ = some (.int .i64 axh) := by rw [hcl _ _ (by first | omega | (simp; done) | (simp; omega))]; simp [go_sem, *]
  have cw1_0_1 : w1.cell? ⟨w.heap.size, 1, none⟩ = some (.int .u64 axl) := by rw [hcl _ _ (by first | omega | (simp; done) | (simp; omega))]; simp [go_sem, *]
  have cw1_0_2 : w1.cell? ⟨w.heap.size, 2, none⟩ = some (.int .i64 ayh) := by rw [hcl _ _ (by first | omega | (simp; done) | (simp; omega))]; simp [go_sem, *]
  have cw1_0_3 : w1.cell? ⟨w.heap.size, 3, none⟩ = some (.int .u64 ayl) := by rw [hcl _ _ (by first | omega | (simp; done) | (simp; omega))]; simp [go_sem, *]
  have zw1_1 : w.heap.size + 1 < w1.heap.size := by have hz := hb.size; (try simp at hz); omega
  have cw1_1_0 : w1.cell? ⟨w.heap.size + 1, 0, none⟩ = some (.int .i64 bxh) := by rw [hcl _ _ (by first | omega | (simp; done) | (simp; omega))]; simp [go_sem, *]
  have cw1_1_1 : w1.cell? ⟨w.heap.size + 1, 1, none⟩ = some (.int .u64 bxl) := by rw [hcl _ _ (by first | omega | (simp; done) | (simp; omega))]; simp [go_sem, *]
  have cw1_1_2 : w1.cell? ⟨w.heap.size + 1, 2, none⟩ = some (.int .i64 byh) := by rw [hcl _ _ (by first | omega | (simp; done) | (simp; omega))]; simp [go_sem, *]
  have cw1_1_3 : w1.cell? ⟨w.heap.size + 1, 3, none⟩ = some (.int .u64 byl) := by rw [hcl _ _ (by first | omega | (simp; done) | (simp; omega))]; simp [go_sem, *]
  have zw1_2 : w.heap.size + 1 + 1 < w1.heap.size := by have hz := hb.size; (try simp at hz); omega
  have cw1_2_0 : w1.cell? ⟨w.heap.size + 1 + 1, 0, none⟩ = some (.int .i64 0) := by rw [hcl _ _ (by first | omega | (simp; done) | (simp; omega))]; simp [go_sem, *]
  have cw1_2_1 : w1.cell? ⟨w.heap.size + 1 + 1, 1, none⟩ = some (.int .u64 0) := by rw [hcl _ _ (by first | omega | (simp; done) | (simp; omega))]; simp [go_sem, *]
  have cw1_2_2 : w1.cell? ⟨w.heap.size + 1 + 1, 2, none⟩ = some (.int .i64 0) := by rw [hcl _ _ (by first | omega | (simp; done) | (simp; omega))]; simp [go_sem, *]
  have cw1_2_3 : w1.cell? ⟨w.heap.size + 1 + 1, 3, none⟩ = some (.int .u64 0) := by rw [hcl _ _ (by first | omega | (simp; done) | (simp; omega))]; simp [go_sem, *]
  have fw1_2 : ∀ j, w1.frozen? ⟨w.heap.size + 1 + 1, j, none⟩ = false := fun j => by rw [hfr _ _ (by first | omega | (simp; done) | (simp; omega))]; first | (simp [go_sem, *]; done) | (simp only [frozen?_alloc_cells]; simp [World.frozen?, *]; done) | (simp [frozen?_alloc_cells, World.frozen?, *]; done)
  have HBw1 : Hid (Below w.heap.size w w1) := bl_trans (by repeat (first | with_reducible exact Below.refl _ _ | with_reducible exact Hid.out (by assumption) | with_reducible refine Below.setCell ?_ (by first | (simp; done) | omega | (simp <;> omega)) _ | with_reducible refine bl_al ?_ _ | with_reducible apply Below.drew)) hb
  clear hb hcl hfr
  go_wp2_with fail
  (with_reducible refine (K2.out _).mono ?_); rintro e w2 ⟨rfl, hb⟩
  obtain ⟨hcl, hfr⟩ := bcell hb
  have zw2_0 : w.heap.size + 1 + 1 < w2.heap.size := by have hz := hb.size; (try simp at hz); omega
  have cw2_0_0 : w2.cell? ⟨w.heap.size + 1 + 1, 0, none⟩ = some (.int .i64 0) := by rw [hcl _ _ (by first | omega | (simp; done) | (simp; omega))]; simp [go_sem, *]
  have cw2_0_1 : w2.cell? ⟨w.heap.size + 1 + 1, 1, none⟩ = some (.int .u64 0) := by rw [hcl _ _ (by first | omega | (simp; done) | (simp; omega))]; simp [go_sem, *]
  have cw2_0_2 : w2.cell? ⟨w.heap.size + 1 + 1, 2, none⟩ = some (.int .i64 0) := by rw [hcl _ _ (by first | omega | (simp; done) | (simp; omega))]; simp [go_sem, *]
  have cw2_0_3 : w2.cell? ⟨w.heap.size + 1 + 1, 3, none⟩ = some (.int .u64 0) := by rw [hcl _ _ (by first | omega | (simp; done) | (simp; omega))]; simp [go_sem, *]
  have fw2_0 : ∀ j, w2.frozen? ⟨w.heap.size + 1 + 1, j, none⟩ = false := fun j => by rw [hfr _ _ (by first | omega | (simp; done) | (simp; omega))]; first | (simp [go_sem, *]; done) | (simp only [frozen?_alloc_cells]; simp [World.frozen?, *]; done) | (simp [frozen?_alloc_cells, World.frozen?, *]; done)
  have zw2_1 : w1.heap.size < w2.heap.size := by have hz := hb.size; (try simp at hz); omega
  have cw2_1_0 : w2.cell? ⟨w1.heap.size, 0, none⟩ = some (.int .i64 rh) := by rw [hcl _ _ (by first | omega | (simp; done) | (simp; omega))]; simp [go_sem, *]
  have cw2_1_1 : w2.cell? ⟨w1.heap.size, 1, none⟩ = some (.int .u64 rl) := by rw [hcl _ _ (by first | omega | (simp; done) | (simp; omega))]; simp [go_sem, *]
  have HBw2 : Hid (Below w.heap.size w w2) := bl_trans (by repeat (first | with_reducible exact Below.refl _ _ | with_reducible exact Hid.out (by assumption) | with_reducible refine Below.setCell ?_ (by first | (simp; done) | omega | (simp <;> omega)) _ | with_reducible refine bl_al ?_ _ | with_reducible apply Below.drew)) hb
  clear hb hcl hfr
  go_wp2_with fail
  refine bodyPost_ret (by simp [results, Try.results55, go_sem, *]; try rfl) rfl ?_
  exact ⟨rfl, by repeat (first | with_reducible exact Below.refl _ _ | with_reducible exact Hid.out (by assumption) | with_reducible refine Below.setCell ?_ (by first | (simp; done) | omega | (simp <;> omega)) _ | with_reducible refine bl_al ?_ _ | with_reducible apply Below.drew)⟩
end Go.Proofs.Ytgiamnehncbihaa
