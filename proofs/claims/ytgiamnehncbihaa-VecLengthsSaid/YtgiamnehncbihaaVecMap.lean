/- Ways: the map of what was measured; products and lengths. -/
import Derived.Test.YtgiamnehncbihaaVecOpen
import Derived.Test.YtgiamnehncbihaaFixAny1
import Derived.Test.YtgiamnehncbihaaFixAny2
import Derived.Test.YtgiamnehncbihaaLate
import Derived.Carry
namespace Go.Proofs.Ytgiamnehncbihaa
open Go.RowKit
open Go.ChangeMaps (setBlock)
set_option maxRecDepth 20000 in
set_option maxHeartbeats 8000000 in
theorem vneg_core (axh axl ayh ayl rh rl sh sl : Int) (w : World)
    (C1 : ∀ W, Calls Try.prog 46 #[.agg #[.int .i64 axh, .int .u64 axl]] W fun e w' => e = .returned (.agg #[.int .i64 rh, .int .u64 rl]) ∧ Below W.heap.size W w')
    (C2 : ∀ W, Calls Try.prog 46 #[.agg #[.int .i64 ayh, .int .u64 ayl]] W fun e w' => e = .returned (.agg #[.int .i64 sh, .int .u64 sl]) ∧ Below W.heap.size W w') :
    Calls Try.prog 28 #[.agg #[.int .i64 axh, .int .u64 axl, .int .i64 ayh, .int .u64 ayl]] w fun e w' => e = .returned (.agg #[.int .i64 rh, .int .u64 rl, .int .i64 sh, .int .u64 sl]) ∧ Below w.heap.size w w' := by
  have K1 := Lib.hid C1; have K2 := Lib.hid C2
  clear C1 C2
  go_enter Try.func28, Try.ntmps28
  go_upto_region 1 with fail
  refine name_world (P := fun W => Code.wp _ _ _ _ W) _ (fun R hR => ?_)
  have zR_0 : w.heap.size < R.heap.size := by rw [hR]; first | omega | (simp; done) | (simp; omega)
  have cR_0_0 : R.cell? ⟨w.heap.size, 0, none⟩ = some (.int .i64 axh) := by rw [hR]; simp [go_sem, *]
  have cR_0_1 : R.cell? ⟨w.heap.size, 1, none⟩ = some (.int .u64 axl) := by rw [hR]; simp [go_sem, *]
  have cR_0_2 : R.cell? ⟨w.heap.size, 2, none⟩ = some (.int .i64 ayh) := by rw [hR]; simp [go_sem, *]
  have cR_0_3 : R.cell? ⟨w.heap.size, 3, none⟩ = some (.int .u64 ayl) := by rw [hR]; simp [go_sem, *]
  have zR_1 : w.heap.size + 1 < R.heap.size := by rw [hR]; first | omega | (simp; done) | (simp; omega)
  have cR_1_0 : R.cell? ⟨w.heap.size + 1, 0, none⟩ = some (.int .i64 0) := by rw [hR]; simp [go_sem, *]
  have cR_1_1 : R.cell? ⟨w.heap.size + 1, 1, none⟩ = some (.int .u64 0) := by rw [hR]; simp [go_sem, *]
  have cR_1_2 : R.cell? ⟨w.heap.size + 1, 2, none⟩ = some (.int .i64 0) := by rw [hR]; simp [go_sem, *]
  have cR_1_3 : R.cell? ⟨w.heap.size + 1, 3, none⟩ = some (.int .u64 0) := by rw [hR]; simp [go_sem, *]
  have fR_1 : ∀ j, R.frozen? ⟨w.heap.size + 1, j, none⟩ = false := fun j => by rw [hR]; first | (simp [go_sem, *]; done) | (simp only [frozen?_alloc_cells]; simp [World.frozen?, *]; done) | (simp [frozen?_alloc_cells, World.frozen?, *]; done)
  have HBR : Hid (Below w.heap.size w R) := by rw [hR]; show Below _ _ _; exact (by repeat (first | with_reducible exact Below.refl _ _ | with_reducible exact Hid.out (by assumption) | with_reducible refine Below.setCell ?_ (by first | (simp; done) | omega | (simp <;> omega)) _ | with_reducible refine bl_al ?_ _ | with_reducible apply Below.drew))
  clear hR
  go_region_held3 (fun w' => w'.cell? ⟨w.heap.size, 0, none⟩ = some (.int .i64 axh) ∧ w'.cell? ⟨w.heap.size, 1, none⟩ = some (.int .u64 axl) ∧ w'.cell? ⟨w.heap.size, 2, none⟩ = some (.int .i64 ayh) ∧ w'.cell? ⟨w.heap.size, 3, none⟩ = some (.int .u64 ayl)) (first | (simp [*, go_sem]; done))
    (first
      | (go_at_call 46; (with_reducible refine (K1.out _).mono ?_); rintro e w1 ⟨rfl, hb⟩; obtain ⟨hclw1, hfrw1⟩ := bcell_drew hb; have zw1_0 : w.heap.size < w1.heap.size := (by have hz := hb.size; (try simp at hz); omega); have zw1_1 : w.heap.size + 1 < w1.heap.size := (by have hz := hb.size; (try simp at hz); omega); have HBw1 : Hid (Below w.heap.size w w1) := (bl_trans (by repeat (first | with_reducible exact Below.refl _ _ | with_reducible exact Hid.out (by assumption) | with_reducible refine Below.setCell ?_ (by first | (simp; done) | omega | (simp <;> omega)) _ | with_reducible refine bl_al ?_ _ | with_reducible apply Below.drew)) hb); clear hb)
      | (go_at_call 46; (with_reducible refine (K2.out _).mono ?_); rintro e w2 ⟨rfl, hb⟩; obtain ⟨hclw2, hfrw2⟩ := bcell hb; have zw2_0 : w.heap.size < w2.heap.size := (by have hz := hb.size; (try simp at hz); omega); have zw2_1 : w.heap.size + 1 < w2.heap.size := (by have hz := hb.size; (try simp at hz); omega); have HBw2 : Hid (Below w.heap.size w w2) := (bl_trans (by repeat (first | with_reducible exact Below.refl _ _ | with_reducible exact Hid.out (by assumption) | with_reducible refine Below.setCell ?_ (by first | (simp; done) | omega | (simp <;> omega)) _ | with_reducible refine bl_al ?_ _ | with_reducible apply Below.drew)) hb); clear hb))
  rename_i hHeld
  clear hHeld
  go_wp2_with fail
  refine bodyPost_ret (by simp [results, Try.results28, go_sem, *]; try rfl) rfl ?_
  exact ⟨rfl, by repeat (first | with_reducible exact Below.refl _ _ | with_reducible exact Hid.out (by assumption) | with_reducible refine Below.setCell ?_ (by first | (simp; done) | omega | (simp <;> omega)) _ | with_reducible refine bl_al ?_ _ | with_reducible apply Below.drew)⟩
set_option maxRecDepth 20000 in
set_option maxHeartbeats 8000000 in
theorem vadd_core (axh axl ayh ayl bxh bxl byh byl rh rl sh sl ee : Int) (w : World)
    (C1 : ∀ W, Calls Try.prog 55 #[.func (.func 56) #[] #[], .agg #[.int .i64 axh, .int .u64 axl, .int .i64 ayh, .int .u64 ayl], .agg #[.int .i64 bxh, .int .u64 bxl, .int .i64 byh, .int .u64 byl]] W fun e w' => e = .returned (.tuple #[.agg #[.int .i64 rh, .int .u64 rl, .int .i64 sh, .int .u64 sl], .int .i64 ee]) ∧ Below W.heap.size W w') :
    Calls Try.prog 22 #[.agg #[.int .i64 axh, .int .u64 axl, .int .i64 ayh, .int .u64 ayl], .agg #[.int .i64 bxh, .int .u64 bxl, .int .i64 byh, .int .u64 byl]] w fun e w' => e = .returned (.tuple #[.agg #[.int .i64 rh, .int .u64 rl, .int .i64 sh, .int .u64 sl], .int .i64 ee]) ∧ Below w.heap.size w w' := by
  have K1 := Lib.hid C1
  clear C1
  go_enter Try.func22, Try.ntmps22
  go_wp2_with fail
  (with_reducible refine (K1.out _).mono ?_); rintro e w1 ⟨rfl, hb⟩
  obtain ⟨hcl, hfr⟩ := bcell hb
  have zw1_0 : w.heap.size + 1 + 1 < w1.heap.size := by have hz := hb.size; (try simp at hz); omega
  have cw1_0_0 : w1.cell? ⟨w.heap.size + 1 + 1, 0, none⟩ = some (.int .i64 0) := by rw [hcl _ _ (by first | omega | (simp; done) | (simp; omega))]; simp [go_sem, *]
  have cw1_0_1 : w1.cell? ⟨w.heap.size + 1 + 1, 1, none⟩ = some (.int .u64 0) := by rw [hcl _ _ (by first | omega | (simp; done) | (simp; omega))]; simp [go_sem, *]
  have cw1_0_2 : w1.cell? ⟨w.heap.size + 1 + 1, 2, none⟩ = some (.int .i64 0) := by rw [hcl _ _ (by first | omega | (simp; done) | (simp; omega))]; simp [go_sem, *]
  have cw1_0_3 : w1.cell? ⟨w.heap.size + 1 + 1, 3, none⟩ = some (.int .u64 0) := by rw [hcl _ _ (by first | omega | (simp; done) | (simp; omega))]; simp [go_sem, *]
  have fw1_0 : ∀ j, w1.frozen? ⟨w.heap.size + 1 + 1, j, none⟩ = false := fun j => by rw [hfr _ _ (by first | omega | (simp; done) | (simp; omega))]; first | (simp [go_sem, *]; done) | (simp only [frozen?_alloc_cells]; simp [World.frozen?, *]; done) | (simp [frozen?_alloc_cells, World.frozen?, *]; done)
  have HBw1 : Hid (Below w.heap.size w w1) := bl_trans (by repeat (first | with_reducible exact Below.refl _ _ | with_reducible exact Hid.out (by assumption) | with_reducible refine Below.setCell ?_ (by first | (simp; done) | omega | (simp <;> omega)) _ | with_reducible refine bl_al ?_ _ | with_reducible apply Below.drew)) hb
  clear hb hcl hfr
  go_wp2_with fail
  refine bodyPost_ret (by simp [results, Try.results22, go_sem, *]; try rfl) rfl ?_
  exact ⟨rfl, by repeat (first | with_reducible exact Below.refl _ _ | with_reducible exact Hid.out (by assumption) | with_reducible refine Below.setCell ?_ (by first | (simp; done) | omega | (simp <;> omega)) _ | with_reducible refine bl_al ?_ _ | with_reducible apply Below.drew)⟩
set_option maxRecDepth 20000 in
set_option maxHeartbeats 8000000 in
theorem vsub_core (axh axl ayh ayl bxh bxl byh byl rh rl sh sl ee : Int) (w : World)
    (C1 : ∀ W, Calls Try.prog 55 #[.func (.func 57) #[] #[], .agg #[.int .i64 axh, .int .u64 axl, .int .i64 ayh, .int .u64 ayl], .agg #[.int .i64 bxh, .int .u64 bxl, .int .i64 byh, .int .u64 byl]] W fun e w' => e = .returned (.tuple #[.agg #[.int .i64 rh, .int .u64 rl, .int .i64 sh, .int .u64 sl], .int .i64 ee]) ∧ Below W.heap.size W w') :
    Calls Try.prog 23 #[.agg #[.int .i64 axh, .int .u64 axl, .int .i64 ayh, .int .u64 ayl], .agg #[.int .i64 bxh, .int .u64 bxl, .int .i64 byh, .int .u64 byl]] w fun e w' => e = .returned (.tuple #[.agg #[.int .i64 rh, .int .u64 rl, .int .i64 sh, .int .u64 sl], .int .i64 ee]) ∧ Below w.heap.size w w' := by
  have K1 := Lib.hid C1
  clear C1
  go_enter Try.func23, Try.ntmps23
  go_wp2_with fail
  (with_reducible refine (K1.out _).mono ?_); rintro e w1 ⟨rfl, hb⟩
  obtain ⟨hcl, hfr⟩ := bcell hb
  have zw1_0 : w.heap.size + 1 + 1 < w1.heap.size := by have hz := hb.size; (try simp at hz); omega
  have cw1_0_0 : w1.cell? ⟨w.heap.size + 1 + 1, 0, none⟩ = some (.int .i64 0) := by rw [hcl _ _ (by first | omega | (simp; done) | (simp; omega))]; simp [go_sem, *]
  have cw1_0_1 : w1.cell? ⟨w.heap.size + 1 + 1, 1, none⟩ = some (.int .u64 0) := by rw [hcl _ _ (by first | omega | (simp; done) | (simp; omega))]; simp [go_sem, *]
  have cw1_0_2 : w1.cell? ⟨w.heap.size + 1 + 1, 2, none⟩ = some (.int .i64 0) := by rw [hcl _ _ (by first | omega | (simp; done) | (simp; omega))]; simp [go_sem, *]
  have cw1_0_3 : w1.cell? ⟨w.heap.size + 1 + 1, 3, none⟩ = some (.int .u64 0) := by rw [hcl _ _ (by first | omega | (simp; done) | (simp; omega))]; simp [go_sem, *]
  have fw1_0 : ∀ j, w1.frozen? ⟨w.heap.size + 1 + 1, j, none⟩ = false := fun j => by rw [hfr _ _ (by first | omega | (simp; done) | (simp; omega))]; first | (simp [go_sem, *]; done) | (simp only [frozen?_alloc_cells]; simp [World.frozen?, *]; done) | (simp [frozen?_alloc_cells, World.frozen?, *]; done)
  have HBw1 : Hid (Below w.heap.size w w1) := bl_trans (by repeat (first | with_reducible exact Below.refl _ _ | with_reducible exact Hid.out (by assumption) | with_reducible refine Below.setCell ?_ (by first | (simp; done) | omega | (simp <;> omega)) _ | with_reducible refine bl_al ?_ _ | with_reducible apply Below.drew)) hb
  clear hb hcl hfr
  go_wp2_with fail
  refine bodyPost_ret (by simp [results, Try.results23, go_sem, *]; try rfl) rfl ?_
  exact ⟨rfl, by repeat (first | with_reducible exact Below.refl _ _ | with_reducible exact Hid.out (by assumption) | with_reducible refine Below.setCell ?_ (by first | (simp; done) | omega | (simp <;> omega)) _ | with_reducible refine bl_al ?_ _ | with_reducible apply Below.drew)⟩
set_option maxRecDepth 20000 in
set_option maxHeartbeats 8000000 in
theorem vscale_core (axh axl ayh ayl kh kl rh rl sh sl ee : Int) (w : World)
    (C1 : ∀ W, Calls Try.prog 55 #[.func (.func 58) #[] #[], .agg #[.int .i64 axh, .int .u64 axl, .int .i64 ayh, .int .u64 ayl], .agg #[.int .i64 kh, .int .u64 kl, .int .i64 kh, .int .u64 kl]] W fun e w' => e = .returned (.tuple #[.agg #[.int .i64 rh, .int .u64 rl, .int .i64 sh, .int .u64 sl], .int .i64 ee]) ∧ Below W.heap.size W w') :
    Calls Try.prog 24 #[.agg #[.int .i64 axh, .int .u64 axl, .int .i64 ayh, .int .u64 ayl], .agg #[.int .i64 kh, .int .u64 kl]] w fun e w' => e = .returned (.tuple #[.agg #[.int .i64 rh, .int .u64 rl, .int .i64 sh, .int .u64 sl], .int .i64 ee]) ∧ Below w.heap.size w w' := by
  have K1 := Lib.hid C1
  clear C1
  go_enter Try.func24, Try.ntmps24
  go_wp2_with fail
  (with_reducible refine (K1.out _).mono ?_); rintro e w1 ⟨rfl, hb⟩
  obtain ⟨hcl, hfr⟩ := bcell hb
  have zw1_0 : w.heap.size + 1 + 1 < w1.heap.size := by have hz := hb.size; (try simp at hz); omega
  have cw1_0_0 : w1.cell? ⟨w.heap.size + 1 + 1, 0, none⟩ = some (.int .i64 0) := by rw [hcl _ _ (by first | omega | (simp; done) | (simp; omega))]; simp [go_sem, *]
  have cw1_0_1 : w1.cell? ⟨w.heap.size + 1 + 1, 1, none⟩ = some (.int .u64 0) := by rw [hcl _ _ (by first | omega | (simp; done) | (simp; omega))]; simp [go_sem, *]
  have cw1_0_2 : w1.cell? ⟨w.heap.size + 1 + 1, 2, none⟩ = some (.int .i64 0) := by rw [hcl _ _ (by first | omega | (simp; done) | (simp; omega))]; simp [go_sem, *]
  have cw1_0_3 : w1.cell? ⟨w.heap.size + 1 + 1, 3, none⟩ = some (.int .u64 0) := by rw [hcl _ _ (by first | omega | (simp; done) | (simp; omega))]; simp [go_sem, *]
  have fw1_0 : ∀ j, w1.frozen? ⟨w.heap.size + 1 + 1, j, none⟩ = false := fun j => by rw [hfr _ _ (by first | omega | (simp; done) | (simp; omega))]; first | (simp [go_sem, *]; done) | (simp only [frozen?_alloc_cells]; simp [World.frozen?, *]; done) | (simp [frozen?_alloc_cells, World.frozen?, *]; done)
  have HBw1 : Hid (Below w.heap.size w w1) := bl_trans (by repeat (first | with_reducible exact Below.refl _ _ | with_reducible exact Hid.out (by assumption) | with_reducible refine Below.setCell ?_ (by first | (simp; done) | omega | (simp <;> omega)) _ | with_reducible refine bl_al ?_ _ | with_reducible apply Below.drew)) hb
  clear hb hcl hfr
  go_wp2_with fail
  refine bodyPost_ret (by simp [results, Try.results24, go_sem, *]; try rfl) rfl ?_
  exact ⟨rfl, by repeat (first | with_reducible exact Below.refl _ _ | with_reducible exact Hid.out (by assumption) | with_reducible refine Below.setCell ?_ (by first | (simp; done) | omega | (simp <;> omega)) _ | with_reducible refine bl_al ?_ _ | with_reducible apply Below.drew)⟩
section
variable {W : World} {B b : Nat}
theorem heap_al {v : Obj} (h : W.heap[B]? = some v) (o : Obj) : (W.alloc o).heap[B]? = some v := by
  have hlt : B < W.heap.size := (Array.getElem?_eq_some_iff.1 h).1
  rw [(MapKept.heap_alloc W o).2 B hlt]
  exact h
theorem cell_put (o : Obj) (j : Nat) (h : b ≠ B) : (setBlock W B o).cell? ⟨b, j, none⟩ = W.cell? ⟨b, j, none⟩ := World.cell?_of_block (by
  show (W.heap.setIfInBounds B o)[b]? = W.heap[b]?
  rw [Array.getElem?_setIfInBounds_ne (Ne.symm h)])
theorem frozen_put (o : Obj) (j : Nat) (h : b ≠ B) : (setBlock W B o).frozen? ⟨b, j, none⟩ = W.frozen? ⟨b, j, none⟩ := World.frozen?_of_block (by
  show (W.heap.setIfInBounds B o)[b]? = W.heap[b]?
  rw [Array.getElem?_setIfInBounds_ne (Ne.symm h)])
theorem set_heap (x : Value) (A j : Nat) (h : A ≠ B) : (W.setCell ⟨A, j, none⟩ x).heap[B]? = W.heap[B]? := Below.heap_setCell _ _ _ _ (fun e => h (by simpa using e.symm))
theorem grown_below {W' : World} (g : Below W.heap.size W W') : W.grownBy W' (some B) := ⟨g.os, g.tape, g.output, g.size, fun k hk _ => g.block k hk⟩
theorem grown_put {W' : World} (g : W.grownBy W' (some B)) (o : Obj) : W.grownBy (setBlock W' B o) (some B) :=
  ⟨g.os, g.tape, g.output, by simpa [setBlock] using g.size, fun k hk hne => by
    show (W'.heap.setIfInBounds B o)[k]? = _
    rw [Array.getElem?_setIfInBounds_ne (fun e => hne (by rw [e]))]; exact g.block k hk hne⟩
theorem grown_cell {W' : World} (g : W.grownBy W' (some B)) (A j : Nat) (x : Value) (h : W.heap.size ≤ A) : W.grownBy (W'.setCell ⟨A, j, none⟩ x) (some B) :=
  ⟨g.os, g.tape, g.output, by simpa using g.size, fun k hk hne => (Below.heap_setCell _ _ _ _ (fun e => by simp at e; omega)).trans (g.block k hk hne)⟩
theorem grown_cells {W' : World} (g : W.grownBy W' (some B)) : (∀ b o, b < W.heap.size → b ≠ B → W'.cell? ⟨b, o, none⟩ = W.cell? ⟨b, o, none⟩) ∧ (∀ b o, b < W.heap.size → b ≠ B → W'.frozen? ⟨b, o, none⟩ = W.frozen? ⟨b, o, none⟩) :=
  ⟨fun b _ hb h => World.cell?_of_block (g.block b hb (fun e => h (Option.some.inj e))), fun b _ hb h => World.frozen?_of_block (g.block b hb (fun e => h (Option.some.inj e)))⟩
end
set_option maxRecDepth 20000 in
set_option maxHeartbeats 8000000 in
theorem span_hit (xh xl yh yl mh ml _ee : Int) (es _es2 : Array MapEntry) (B cl _cl2 : Nat) (w : World) (hb0 : w.heap[B]? = some (.map es cl)) 
    (look : ∀ W : World, W.heap[B]? = some (.map es cl) → (Instr.lookup 93 (.map (some B)) (.agg #[.int .i64 xh, .int .u64 xl, .int .i64 yh, .int .u64 yl]) true).run Try.prog W = .ok (.tuple #[.agg #[.int .i64 mh, .int .u64 ml], .bool true]) W) :
    Calls Try.prog 59 #[.map (some B), .agg #[.int .i64 xh, .int .u64 xl, .int .i64 yh, .int .u64 yl]] w fun e' w' => e' = .returned (.tuple #[.agg #[.int .i64 mh, .int .u64 ml], .int .i64 0]) ∧ w.grownBy w' (some B) := by
  have hB : B < w.heap.size := (Array.getElem?_eq_some_iff.1 hb0).1
  go_enter Try.func59, Try.ntmps59
  go_upto_region 1 with fail
  refine name_world (P := fun W => Code.wp _ _ _ _ W) _ (fun R hR => ?_)
  have zR_0 : w.heap.size < R.heap.size := by rw [hR]; first | omega | (simp; done) | (simp; omega)
  have cR_0_0 : R.cell? ⟨w.heap.size, 0, none⟩ = some (.int .i64 xh) := by rw [hR]; simp [go_sem, *]
  have cR_0_1 : R.cell? ⟨w.heap.size, 1, none⟩ = some (.int .u64 xl) := by rw [hR]; simp [go_sem, *]
  have cR_0_2 : R.cell? ⟨w.heap.size, 2, none⟩ = some (.int .i64 yh) := by rw [hR]; simp [go_sem, *]
  have cR_0_3 : R.cell? ⟨w.heap.size, 3, none⟩ = some (.int .u64 yl) := by rw [hR]; simp [go_sem, *]
  have zR_1 : w.heap.size + 1 < R.heap.size := by rw [hR]; first | omega | (simp; done) | (simp; omega)
  have cR_1_0 : R.cell? ⟨w.heap.size + 1, 0, none⟩ = some (.int .i64 0) := by rw [hR]; simp [go_sem, *]
  have cR_1_1 : R.cell? ⟨w.heap.size + 1, 1, none⟩ = some (.int .u64 0) := by rw [hR]; simp [go_sem, *]
  have fR_1 : ∀ j, R.frozen? ⟨w.heap.size + 1, j, none⟩ = false := fun j => by rw [hR]; first | (simp [go_sem, *]; done) | (simp only [frozen?_alloc_cells]; simp [World.frozen?, *]; done) | (simp [frozen?_alloc_cells, World.frozen?, *]; done)
  have HBR : Hid (Below w.heap.size w R) := by rw [hR]; show Below _ _ _; exact (by repeat (first | with_reducible exact Below.refl _ _ | with_reducible exact Hid.out (by assumption) | with_reducible refine Below.setCell ?_ (by first | (simp; done) | omega | (simp <;> omega)) _ | with_reducible refine bl_al ?_ _ | with_reducible apply Below.drew))
  clear hR
  have hlk := look R ((HBR.out.block B hB).trans hb0)
  clear look
  go_wp2_with fail
  refine bodyPost_ret (by simp [results, Try.results59, go_sem, *]; try rfl) rfl ?_
  exact ⟨rfl, grown_below (by repeat (first | with_reducible exact Below.refl _ _ | with_reducible exact Hid.out (by assumption) | with_reducible refine Below.setCell ?_ (by first | (simp; done) | omega | (simp <;> omega)) _ | with_reducible refine bl_al ?_ _ | with_reducible apply Below.drew))⟩
set_option maxRecDepth 20000 in
set_option maxHeartbeats 8000000 in
theorem span_err (xh xl yh yl mh ml ee : Int) (es _es2 : Array MapEntry) (B cl _cl2 : Nat) (w : World) (hb0 : w.heap[B]? = some (.map es cl)) (he : ¬ ee = 0)
    (look : ∀ W : World, W.heap[B]? = some (.map es cl) → (Instr.lookup 93 (.map (some B)) (.agg #[.int .i64 xh, .int .u64 xl, .int .i64 yh, .int .u64 yl]) true).run Try.prog W = .ok (.tuple #[.agg #[.int .i64 0, .int .u64 0], .bool false]) W)
    (C1 : ∀ W, Calls Try.prog 58 #[.agg #[.int .i64 xh, .int .u64 xl], .agg #[.int .i64 yh, .int .u64 yl]] W fun e w' => e = .returned (.tuple #[.agg #[.int .i64 mh, .int .u64 ml], .int .i64 ee]) ∧ Below W.heap.size W w') :
    Calls Try.prog 59 #[.map (some B), .agg #[.int .i64 xh, .int .u64 xl, .int .i64 yh, .int .u64 yl]] w fun e' w' => e' = .returned (.tuple #[.agg #[.int .i64 0, .int .u64 0], .int .i64 ee]) ∧ w.grownBy w' (some B) := by
  have K1 := Lib.hid C1
  clear C1
  have hB : B < w.heap.size := (Array.getElem?_eq_some_iff.1 hb0).1
  go_enter Try.func59, Try.ntmps59
  go_upto_region 1 with fail
  refine name_world (P := fun W => Code.wp _ _ _ _ W) _ (fun R hR => ?_)
  have zR_0 : w.heap.size < R.heap.size := by rw [hR]; first | omega | (simp; done) | (simp; omega)
  have cR_0_0 : R.cell? ⟨w.heap.size, 0, none⟩ = some (.int .i64 xh) := by rw [hR]; simp [go_sem, *]
  have cR_0_1 : R.cell? ⟨w.heap.size, 1, none⟩ = some (.int .u64 xl) := by rw [hR]; simp [go_sem, *]
  have cR_0_2 : R.cell? ⟨w.heap.size, 2, none⟩ = some (.int .i64 yh) := by rw [hR]; simp [go_sem, *]
  have cR_0_3 : R.cell? ⟨w.heap.size, 3, none⟩ = some (.int .u64 yl) := by rw [hR]; simp [go_sem, *]
  have zR_1 : w.heap.size + 1 < R.heap.size := by rw [hR]; first | omega | (simp; done) | (simp; omega)
  have cR_1_0 : R.cell? ⟨w.heap.size + 1, 0, none⟩ = some (.int .i64 0) := by rw [hR]; simp [go_sem, *]
  have cR_1_1 : R.cell? ⟨w.heap.size + 1, 1, none⟩ = some (.int .u64 0) := by rw [hR]; simp [go_sem, *]
  have fR_1 : ∀ j, R.frozen? ⟨w.heap.size + 1, j, none⟩ = false := fun j => by rw [hR]; first | (simp [go_sem, *]; done) | (simp only [frozen?_alloc_cells]; simp [World.frozen?, *]; done) | (simp [frozen?_alloc_cells, World.frozen?, *]; done)
  have HBR : Hid (Below w.heap.size w R) := by rw [hR]; show Below _ _ _; exact (by repeat (first | with_reducible exact Below.refl _ _ | with_reducible exact Hid.out (by assumption) | with_reducible refine Below.setCell ?_ (by first | (simp; done) | omega | (simp <;> omega)) _ | with_reducible refine bl_al ?_ _ | with_reducible apply Below.drew))
  clear hR
  have hlk := look R ((HBR.out.block B hB).trans hb0)
  clear look
  go_wp2_with fail
  (with_reducible refine (K1.out _).mono ?_); rintro e w1 ⟨rfl, hb⟩
  obtain ⟨hcl, hfr⟩ := bcell hb
  have zw1_0 : w.heap.size + 1 < w1.heap.size := by have hz := hb.size; (try simp at hz); omega
  have cw1_0_0 : w1.cell? ⟨w.heap.size + 1, 0, none⟩ = some (.int .i64 0) := by rw [hcl _ _ (by first | omega | (simp; done) | (simp; omega))]; simp [go_sem, *]
  have cw1_0_1 : w1.cell? ⟨w.heap.size + 1, 1, none⟩ = some (.int .u64 0) := by rw [hcl _ _ (by first | omega | (simp; done) | (simp; omega))]; simp [go_sem, *]
  have fw1_0 : ∀ j, w1.frozen? ⟨w.heap.size + 1, j, none⟩ = false := fun j => by rw [hfr _ _ (by first | omega | (simp; done) | (simp; omega))]; first | (simp [go_sem, *]; done) | (simp only [frozen?_alloc_cells]; simp [World.frozen?, *]; done) | (simp [frozen?_alloc_cells, World.frozen?, *]; done)
  have HBw1 : Hid (Below w.heap.size w w1) := bl_trans (by repeat (first | with_reducible exact Below.refl _ _ | with_reducible exact Hid.out (by assumption) | with_reducible refine Below.setCell ?_ (by first | (simp; done) | omega | (simp <;> omega)) _ | with_reducible refine bl_al ?_ _ | with_reducible apply Below.drew)) hb
  clear hb hcl hfr
  go_wp2_with fail
  refine bodyPost_ret (by simp [results, Try.results59, go_sem, *]; try rfl) rfl ?_
  exact ⟨rfl, grown_below (by repeat (first | with_reducible exact Below.refl _ _ | with_reducible exact Hid.out (by assumption) | with_reducible refine Below.setCell ?_ (by first | (simp; done) | omega | (simp <;> omega)) _ | with_reducible refine bl_al ?_ _ | with_reducible apply Below.drew))⟩
set_option maxRecDepth 20000 in
set_option maxHeartbeats 8000000 in
theorem span_miss (xh xl yh yl mh ml ee : Int) (es es2 : Array MapEntry) (B cl cl2 : Nat) (w : World) (hb0 : w.heap[B]? = some (.map es cl)) (he : ee = 0)
    (look : ∀ W : World, W.heap[B]? = some (.map es cl) → (Instr.lookup 93 (.map (some B)) (.agg #[.int .i64 xh, .int .u64 xl, .int .i64 yh, .int .u64 yl]) true).run Try.prog W = .ok (.tuple #[.agg #[.int .i64 0, .int .u64 0], .bool false]) W)
    (put : ∀ W : World, W.heap[B]? = some (.map es cl) → (Instr.mapUpdate 93 (.map (some B)) (.agg #[.int .i64 xh, .int .u64 xl, .int .i64 yh, .int .u64 yl]) (.agg #[.int .i64 mh, .int .u64 ml])).run Try.prog W = .ok () (setBlock W B (.map es2 cl2)))
    (C1 : ∀ W, Calls Try.prog 58 #[.agg #[.int .i64 xh, .int .u64 xl], .agg #[.int .i64 yh, .int .u64 yl]] W fun e w' => e = .returned (.tuple #[.agg #[.int .i64 mh, .int .u64 ml], .int .i64 ee]) ∧ Below W.heap.size W w') :
    Calls Try.prog 59 #[.map (some B), .agg #[.int .i64 xh, .int .u64 xl, .int .i64 yh, .int .u64 yl]] w fun e' w' => e' = .returned (.tuple #[.agg #[.int .i64 mh, .int .u64 ml], .int .i64 0]) ∧ w.grownBy w' (some B) ∧ w'.heap[B]? = some (.map es2 cl2) := by
  subst he
  have K1 := Lib.hid C1
  clear C1
  have hB : B < w.heap.size := (Array.getElem?_eq_some_iff.1 hb0).1
  go_enter Try.func59, Try.ntmps59
  go_upto_region 1 with fail
  refine name_world (P := fun W => Code.wp _ _ _ _ W) _ (fun R hR => ?_)
  have zR_0 : w.heap.size < R.heap.size := by rw [hR]; first | omega | (simp; done) | (simp; omega)
  have cR_0_0 : R.cell? ⟨w.heap.size, 0, none⟩ = some (.int .i64 xh) := by rw [hR]; simp [go_sem, *]
  have cR_0_1 : R.cell? ⟨w.heap.size, 1, none⟩ = some (.int .u64 xl) := by rw [hR]; simp [go_sem, *]
  have cR_0_2 : R.cell? ⟨w.heap.size, 2, none⟩ = some (.int .i64 yh) := by rw [hR]; simp [go_sem, *]
  have cR_0_3 : R.cell? ⟨w.heap.size, 3, none⟩ = some (.int .u64 yl) := by rw [hR]; simp [go_sem, *]
  have zR_1 : w.heap.size + 1 < R.heap.size := by rw [hR]; first | omega | (simp; done) | (simp; omega)
  have cR_1_0 : R.cell? ⟨w.heap.size + 1, 0, none⟩ = some (.int .i64 0) := by rw [hR]; simp [go_sem, *]
  have cR_1_1 : R.cell? ⟨w.heap.size + 1, 1, none⟩ = some (.int .u64 0) := by rw [hR]; simp [go_sem, *]
  have fR_1 : ∀ j, R.frozen? ⟨w.heap.size + 1, j, none⟩ = false := fun j => by rw [hR]; first | (simp [go_sem, *]; done) | (simp only [frozen?_alloc_cells]; simp [World.frozen?, *]; done) | (simp [frozen?_alloc_cells, World.frozen?, *]; done)
  have HBR : Hid (Below w.heap.size w R) := by rw [hR]; show Below _ _ _; exact (by repeat (first | with_reducible exact Below.refl _ _ | with_reducible exact Hid.out (by assumption) | with_reducible refine Below.setCell ?_ (by first | (simp; done) | omega | (simp <;> omega)) _ | with_reducible refine bl_al ?_ _ | with_reducible apply Below.drew))
  clear hR
  have hlk := look R ((HBR.out.block B hB).trans hb0)
  clear look
  go_wp2_with fail
  (with_reducible refine (K1.out _).mono ?_); rintro e w1 ⟨rfl, hb⟩
  obtain ⟨hcl, hfr⟩ := bcell hb
  have zw1_0 : w.heap.size < w1.heap.size := by have hz := hb.size; (try simp at hz); omega
  have cw1_0_0 : w1.cell? ⟨w.heap.size, 0, none⟩ = some (.int .i64 xh) := by rw [hcl _ _ (by first | omega | (simp; done) | (simp; omega))]; simp [go_sem, *]
  have cw1_0_1 : w1.cell? ⟨w.heap.size, 1, none⟩ = some (.int .u64 xl) := by rw [hcl _ _ (by first | omega | (simp; done) | (simp; omega))]; simp [go_sem, *]
  have cw1_0_2 : w1.cell? ⟨w.heap.size, 2, none⟩ = some (.int .i64 yh) := by rw [hcl _ _ (by first | omega | (simp; done) | (simp; omega))]; simp [go_sem, *]
  have cw1_0_3 : w1.cell? ⟨w.heap.size, 3, none⟩ = some (.int .u64 yl) := by rw [hcl _ _ (by first | omega | (simp; done) | (simp; omega))]; simp [go_sem, *]
  have zw1_1 : w.heap.size + 1 < w1.heap.size := by have hz := hb.size; (try simp at hz); omega
  have cw1_1_0 : w1.cell? ⟨w.heap.size + 1, 0, none⟩ = some (.int .i64 0) := by rw [hcl _ _ (by first | omega | (simp; done) | (simp; omega))]; simp [go_sem, *]
  have cw1_1_1 : w1.cell? ⟨w.heap.size + 1, 1, none⟩ = some (.int .u64 0) := by rw [hcl _ _ (by first | omega | (simp; done) | (simp; omega))]; simp [go_sem, *]
  have fw1_1 : ∀ j, w1.frozen? ⟨w.heap.size + 1, j, none⟩ = false := fun j => by rw [hfr _ _ (by first | omega | (simp; done) | (simp; omega))]; first | (simp [go_sem, *]; done) | (simp only [frozen?_alloc_cells]; simp [World.frozen?, *]; done) | (simp [frozen?_alloc_cells, World.frozen?, *]; done)
  have HBw1 : Hid (Below w.heap.size w w1) := bl_trans (by repeat (first | with_reducible exact Below.refl _ _ | with_reducible exact Hid.out (by assumption) | with_reducible refine Below.setCell ?_ (by first | (simp; done) | omega | (simp <;> omega)) _ | with_reducible refine bl_al ?_ _ | with_reducible apply Below.drew)) hb
  clear hb hcl hfr
  clear hlk
  go_upto_region 7 with fail
  refine name_world (P := fun W => Code.wp _ _ _ _ W) _ (fun S hS => ?_)
  have zS_0 : w.heap.size < S.heap.size := by rw [hS]; first | omega | (simp; done) | (simp; omega)
  have cS_0_0 : S.cell? ⟨w.heap.size, 0, none⟩ = some (.int .i64 xh) := by rw [hS]; simp [go_sem, *]
  have cS_0_1 : S.cell? ⟨w.heap.size, 1, none⟩ = some (.int .u64 xl) := by rw [hS]; simp [go_sem, *]
  have cS_0_2 : S.cell? ⟨w.heap.size, 2, none⟩ = some (.int .i64 yh) := by rw [hS]; simp [go_sem, *]
  have cS_0_3 : S.cell? ⟨w.heap.size, 3, none⟩ = some (.int .u64 yl) := by rw [hS]; simp [go_sem, *]
  have zS_1 : w.heap.size + 1 < S.heap.size := by rw [hS]; first | omega | (simp; done) | (simp; omega)
  have cS_1_0 : S.cell? ⟨w.heap.size + 1, 0, none⟩ = some (.int .i64 0) := by rw [hS]; simp [go_sem, *]
  have cS_1_1 : S.cell? ⟨w.heap.size + 1, 1, none⟩ = some (.int .u64 0) := by rw [hS]; simp [go_sem, *]
  have fS_1 : ∀ j, S.frozen? ⟨w.heap.size + 1, j, none⟩ = false := fun j => by rw [hS]; first | (simp [go_sem, *]; done) | (simp only [frozen?_alloc_cells]; simp [World.frozen?, *]; done) | (simp [frozen?_alloc_cells, World.frozen?, *]; done)
  have zS_2 : w1.heap.size < S.heap.size := by rw [hS]; first | omega | (simp; done) | (simp; omega)
  have cS_2_0 : S.cell? ⟨w1.heap.size, 0, none⟩ = some (.int .i64 mh) := by rw [hS]; simp [go_sem, *]
  have cS_2_1 : S.cell? ⟨w1.heap.size, 1, none⟩ = some (.int .u64 ml) := by rw [hS]; simp [go_sem, *]
  have HBS : Hid (Below w.heap.size w S) := by rw [hS]; show Below _ _ _; exact (by repeat (first | with_reducible exact Below.refl _ _ | with_reducible exact Hid.out (by assumption) | with_reducible refine Below.setCell ?_ (by first | (simp; done) | omega | (simp <;> omega)) _ | with_reducible refine bl_al ?_ _ | with_reducible apply Below.drew))
  clear hS
  have hSb : S.heap[B]? = some (.map es cl) := (HBS.out.block B hB).trans hb0
  have hpt := put S hSb
  clear put
  go_upto_region 8 with fail
  refine name_world (P := fun W => Code.wp _ _ _ _ W) _ (fun Y hY => ?_)
  have zv : w1.heap.size ≠ B := by omega
  have zr : w.heap.size + 1 ≠ B := by omega
  have v0 : Y.cell? ⟨w1.heap.size, 0, none⟩ = some (.int .i64 mh) := by rw [hY, cell_put _ _ zv]; exact cS_2_0
  have v1 : Y.cell? ⟨w1.heap.size, 1, none⟩ = some (.int .u64 ml) := by rw [hY, cell_put _ _ zv]; exact cS_2_1
  have r0 : Y.cell? ⟨w.heap.size + 1, 0, none⟩ = some (.int .i64 0) := by rw [hY, cell_put _ _ zr]; exact cS_1_0
  have r1 : Y.cell? ⟨w.heap.size + 1, 1, none⟩ = some (.int .u64 0) := by rw [hY, cell_put _ _ zr]; exact cS_1_1
  have fr : ∀ j, Y.frozen? ⟨w.heap.size + 1, j, none⟩ = false := fun j => by rw [hY, frozen_put _ _ zr]; exact fS_1 j
  have hYb : Y.heap[B]? = some (.map es2 cl2) := by rw [hY]; exact ChangeMaps.heap_setBlock_same hSb _
  have GY : Hid (w.grownBy Y (some B)) := by rw [hY]; exact grown_put (grown_below HBS.out) _
  clear hY hpt hSb
  go_wp2_with fail
  refine bodyPost_ret (by simp [results, Try.results59, go_sem, *]; try rfl) rfl ?_
  exact ⟨rfl, by repeat (first | with_reducible exact grown_below (Hid.out (by assumption)) | with_reducible exact Hid.out (by assumption) | with_reducible refine grown_cell ?_ _ _ _ (by first | (simp; done) | omega)), by rw [set_heap _ _ _ zr, set_heap _ _ _ zr]; exact hYb⟩
end Go.Proofs.Ytgiamnehncbihaa
