/- What the laws of vec want beside their walks: equality of ways, the law's own awake. -/
import Derived.Test.YtgiamnehncbihaaFixOpen
import Derived.Test.YtgiamnehncbihaaRefSum
import Derived.Maps.Own
import Derived.MapViews
import Derived.DeepKeys4
import Derived.Test.YtgiamnehncbihaaFixAny1
import Derived.Test.YtgiamnehncbihaaFixAny2
import Derived.Test.YtgiamnehncbihaaLate
import Derived.Carry
import Derived.Test.YtgiamnehncbihaaRefFix2
namespace Go.Proofs.Ytgiamnehncbihaa
open Go.ChangeShapes Go.WideShapes Go.ChangeAt Go.RowKit Go.Joins

theorem cells_vec : Try.prog.cellsOf 42 = 4 := by kernel_rfl
/-- A way as a value. -/
def vec (x y : Int) : Value := .agg #[.int .i64 (fh x), .int .u64 (fl x), .int .i64 (fh y), .int .u64 (fl y)]
section
variable {H : Type} {enc : TypeId × Value → H} {w : World} {base : Nat} {spare : Nat → Bool} {held : Bool}
def vecd (H : Type) (x y : Int) : DataW H := .agg [.agg [.lit (.int .i64 (fh x)), .lit (.int .u64 (fl x))], .agg [.lit (.int .i64 (fh y)), .lit (.int .u64 (fl y))]]
set_option maxRecDepth 20000 in
theorem open_vec {r : Reach} {b0 : Nat} {v : Value} {d : DataW H} {p : List MemPlace} (hv : Value.okWide Try.prog w r b0 42 v) (h : DataW.Trod enc Try.prog w base spare held 42 v d p) :
    ∃ x y : Int, v = vec x y ∧ d = vecd H x y ∧ p = [] ∧ Fx x ∧ Fx y := by
  obtain ⟨cs, rfl, hsz⟩ := okWide_struct Try.underlying42 hv
  obtain ⟨c0, c1, c2, c3, rfl⟩ := array4 (hsz.trans cells_vec)
  obtain ⟨fuel, hf⟩ := h
  obtain ⟨y0, y1, m, e, _, g0, g1⟩ := trod_struct2 Try.underlying42 hf
  simp [Value.cells, cells_fix] at g0 g1
  obtain ⟨a3, a2, rfl, rfl, rfl, k3, k2⟩ := trod_fix g0
  obtain ⟨a1, a0, rfl, rfl, rfl, k1, k0⟩ := trod_fix g1
  simp only [Prod.mk.injEq] at e
  refine ⟨fx a3 a2, fx a1 a0, ?_, ?_, by simpa using e.2, fx_Fx k3 k2, fx_Fx k1 k0⟩
  · unfold vec; rw [fh_fx k2, fl_fx k2, fh_fx k0, fl_fx k0]
  · unfold vecd; rw [fh_fx k2, fl_fx k2, fh_fx k0, fl_fx k0]; exact e.1
set_option maxRecDepth 20000 in
theorem shut_vec {x y : Int} (hx : Fx x) (hy : Fx y) : DataW.Trod enc Try.prog w base spare held 42 (vec x y) (vecd H x y) [] := by
  have := trod_struct2_mk (enc := enc) (w := w) (base := base) (spare := spare) (held := held) (n := 2) (cs := [.int .i64 (fh x), .int .u64 (fl x), .int .i64 (fh y), .int .u64 (fl y)]) (y0 := (.agg [.lit (.int .i64 (fh x)), .lit (.int .u64 (fl x))], [])) (y1 := (.agg [.lit (.int .i64 (fh y)), .lit (.int .u64 (fl y))], [])) Try.underlying42 (by simp [cells_vec])
    (by simpa [cells_fix] using trod_fix_mk 0 (fh_hd hx) (fl_wd x)) (by simpa [cells_fix] using trod_fix_mk 0 (fh_hd hy) (fl_wd y))
  exact ⟨3, by simpa [vec, vecd, Value.cells] using this⟩
end
theorem laidOut : laidOutB Try.prog = true := by kernel_rfl
theorem vec_row : (42 : TypeId) < Try.prog.types.size := of_decide_eq_true (by kernel_rfl)
set_option maxRecDepth 20000 in
theorem vec_wide : (match Try.prog.underlying 42 with | some (.array _ _) | some (.struct _) => true | _ => false) = true := by rw [Try.underlying42]
set_option maxRecDepth 100000 in
theorem vec_law : Maps.Keyed Try.prog 42 := Maps.Keyed.of_law (deep_law_laid laidOut (m := 3) (by omega) vec_row (by kernel_rfl) vec_wide)
theorem vec_deep : Try.prog.keyTypeAt (Try.prog.types.size + 1) 42 = true := by kernel_rfl
set_option maxRecDepth 20000 in
theorem vec_formed (x y : Int) : (vec x y).formed Try.prog 42 = true := by simp [vec, Value.formed, Try.underlying42, cells_vec]
set_option maxRecDepth 100000 in
theorem vec_key (x y : Int) (hx : Fx x) (hy : Fx y) : ∃ l, keyOf Try.prog 42 (vec x y) = some l :=
  ⟨_, (keyOf_asKey (H := Unit) (enc := fun _ => ()) (w := default) (base := 0) (sp := fun _ => false) (held := false) vec_deep vec_wide (vec_formed x y) (shut_vec hx hy)).1⟩
open Go.ChangeMaps (setBlock)
theorem meas_map : Try.prog.underlying 93 = some (.map 42 24) := Try.underlying93
theorem zero_fix (W : World) : (zeroValue 24).run Try.prog W = .ok (.agg #[.int .i64 0, .int .u64 0]) W := by kernel_rfl
section
variable {W : World} {B cl born : Nat} {x y x1 y1 : Int}
theorem look_empty (hb : W.heap[B]? = some (.map #[] cl)) (hx : Fx x) (hy : Fx y) : (Instr.lookup 93 (.map (some B)) (vec x y) true).run Try.prog W = .ok (.tuple #[.agg #[.int .i64 0, .int .u64 0], .bool false]) W := by
  obtain ⟨l, hk⟩ := vec_key x y hx hy
  rcases vec_law.find W hk [] (by simp) with ⟨h1, _⟩ | ⟨j, e, _, h2, _⟩
  · simp [Instr.lookup, run_underlying meas_map, MapKept.run_getObj_map hb, vec_law.check W _ hk, h1, Result.andThen]
  · simp at h2
theorem look_same {v : Value} (hb : W.heap[B]? = some (.map #[⟨vec x y, v, born⟩] cl)) (hx : Fx x) (hy : Fx y) : (Instr.lookup 93 (.map (some B)) (vec x y) true).run Try.prog W = .ok (.tuple #[v, .bool true]) W := by
  obtain ⟨l, hk⟩ := vec_key x y hx hy
  rcases vec_law.find W hk [⟨vec x y, v, born⟩] (by simp [hk]) with ⟨_, h2⟩ | ⟨j, e, h1, h2, _⟩
  · exact absurd rfl (h2 ⟨vec x y, v, born⟩ (by simp))
  · have he : e.val = v := by
      rcases j with _ | j
      · simp at h2; rw [← h2]
      · simp at h2
    simp [Instr.lookup, run_underlying meas_map, MapKept.run_getObj_map hb, vec_law.check W _ hk, h1, he, Result.andThen]
theorem look_other {v : Value} (hb : W.heap[B]? = some (.map #[⟨vec x1 y1, v, born⟩] cl)) (hx : Fx x) (hy : Fx y) (hx1 : Fx x1) (hy1 : Fx y1) (hne : vec x1 y1 ≠ vec x y) : (Instr.lookup 93 (.map (some B)) (vec x y) true).run Try.prog W = .ok (.tuple #[.agg #[.int .i64 0, .int .u64 0], .bool false]) W := by
  obtain ⟨l, hk⟩ := vec_key x y hx hy
  rcases vec_law.find W hk [⟨vec x1 y1, v, born⟩] (by simpa using vec_key x1 y1 hx1 hy1) with ⟨h1, _⟩ | ⟨j, e, _, h2, h3⟩
  · simp [Instr.lookup, run_underlying meas_map, MapKept.run_getObj_map hb, vec_law.check W _ hk, h1, Result.andThen]
  · rcases j with _ | j
    · simp at h2; rw [← h2] at h3; exact absurd h3 hne
    · simp at h2
theorem put_empty {v : Value} (hb : W.heap[B]? = some (.map #[] cl)) (hx : Fx x) (hy : Fx y) : (Instr.mapUpdate 93 (.map (some B)) (vec x y) v).run Try.prog W = .ok () (setBlock W B (.map #[⟨vec x y, v, cl⟩] (cl + 1))) := by
  obtain ⟨l, hk⟩ := vec_key x y hx hy
  rcases vec_law.find W hk [] (by simp) with ⟨h1, _⟩ | ⟨j, e, _, h2, _⟩
  · simp [Instr.mapUpdate, run_underlying meas_map, MapKept.run_getObj_map hb, vec_law.check W false hk, h1, MapKept.run_setObj_map _ hb, Result.andThen, setBlock]
  · simp at h2
theorem put_other {u v : Value} (hb : W.heap[B]? = some (.map #[⟨vec x1 y1, u, born⟩] cl)) (hx : Fx x) (hy : Fx y) (hx1 : Fx x1) (hy1 : Fx y1) (hne : vec x1 y1 ≠ vec x y) : (Instr.mapUpdate 93 (.map (some B)) (vec x y) v).run Try.prog W = .ok () (setBlock W B (.map #[⟨vec x1 y1, u, born⟩, ⟨vec x y, v, cl⟩] (cl + 1))) := by
  obtain ⟨l, hk⟩ := vec_key x y hx hy
  rcases vec_law.find W hk [⟨vec x1 y1, u, born⟩] (by simpa using vec_key x1 y1 hx1 hy1) with ⟨h1, _⟩ | ⟨j, e, _, h2, h3⟩
  · simp [Instr.mapUpdate, run_underlying meas_map, MapKept.run_getObj_map hb, vec_law.check W false hk, h1, MapKept.run_setObj_map _ hb, Result.andThen, setBlock]
  · rcases j with _ | j
    · simp at h2; rw [← h2] at h3; exact absurd h3 hne
    · simp at h2
end
theorem vec_inj {x y x1 y1 : Int} (h : vec x1 y1 = vec x y) : x1 = x ∧ y1 = y := by
  unfold vec at h
  injection h with h
  have e : ∀ i : Nat, (#[Value.int .i64 (fh x1), .int .u64 (fl x1), .int .i64 (fh y1), .int .u64 (fl y1)] : Array Value)[i]? = (#[Value.int .i64 (fh x), .int .u64 (fl x), .int .i64 (fh y), .int .u64 (fl y)] : Array Value)[i]? := fun i => by rw [h]
  have e0 := e 0; have e1 := e 1; have e2 := e 2; have e3 := e 3
  simp at e0 e1 e2 e3
  unfold fh at e0 e2; unfold fl at e1 e3
  exact ⟨by omega, by omega⟩
end Go.Proofs.Ytgiamnehncbihaa
namespace Go.Proofs.Ytgiamnehncbihaa
open Go.RowKit
set_option maxRecDepth 20000 in
set_option maxHeartbeats 8000000 in
theorem vmay_core (axh axl ayh ayl : Int) (p q : Bool) (w : World)
    (C1 : ∀ W, Calls Try.prog 48 #[.agg #[.int .i64 axh, .int .u64 axl]] W fun e w' => e = .returned (.bool p) ∧ Below W.heap.size W w')
    (C2 : ∀ W, Calls Try.prog 48 #[.agg #[.int .i64 ayh, .int .u64 ayl]] W fun e w' => e = .returned (.bool q) ∧ Below W.heap.size W w') :
    Calls Try.prog 19 #[.agg #[.int .i64 axh, .int .u64 axl, .int .i64 ayh, .int .u64 ayl]] w fun e w' => e = .returned (.bool (p && q)) ∧ Below w.heap.size w w' := by
  have K1 := Lib.hid C1; have K2 := Lib.hid C2
  clear C1 C2
  cases p
  · clear K2
    go_enter Try.func19, Try.ntmps19
    go_wp2_with fail
    (with_reducible refine (K1.out _).mono ?_); rintro e w1 ⟨rfl, hb⟩
    obtain ⟨hcl, hfr⟩ := bcell hb
    have HBw1 : Hid (Below w.heap.size w w1) := bl_trans (by repeat (first | with_reducible exact Below.refl _ _ | with_reducible exact Hid.out (by assumption) | with_reducible refine Below.setCell ?_ (by first | (simp; done) | omega | (simp <;> omega)) _ | with_reducible refine bl_al ?_ _ | with_reducible apply Below.drew)) hb
    clear hb hcl hfr
    go_wp2_with fail
    go_returns
    exact ⟨rfl, HBw1.out⟩
  · rw [Bool.true_and]
    go_enter Try.func19, Try.ntmps19
    go_wp2_with fail
    (with_reducible refine (K1.out _).mono ?_); rintro e w1 ⟨rfl, hb⟩
    obtain ⟨hcl, hfr⟩ := bcell hb
    have zw1_0 : w.heap.size < w1.heap.size := by have hz := hb.size; (try simp at hz); omega
    have cw1_0_0 : w1.cell? ⟨w.heap.size, 0, none⟩ = some (.int .i64 axh) := by rw [hcl _ _ (by first | omega | (simp; done) | (simp; omega))]; simp [go_sem, *]
    have cw1_0_1 : w1.cell? ⟨w.heap.size, 1, none⟩ = some (.int .u64 axl) := by rw [hcl _ _ (by first | omega | (simp; done) | (simp; omega))]; simp [go_sem, *]
    have cw1_0_2 : w1.cell? ⟨w.heap.size, 2, none⟩ = some (.int .i64 ayh) := by rw [hcl _ _ (by first | omega | (simp; done) | (simp; omega))]; simp [go_sem, *]
    have cw1_0_3 : w1.cell? ⟨w.heap.size, 3, none⟩ = some (.int .u64 ayl) := by rw [hcl _ _ (by first | omega | (simp; done) | (simp; omega))]; simp [go_sem, *]
    have HBw1 : Hid (Below w.heap.size w w1) := bl_trans (by repeat (first | with_reducible exact Below.refl _ _ | with_reducible exact Hid.out (by assumption) | with_reducible refine Below.setCell ?_ (by first | (simp; done) | omega | (simp <;> omega)) _ | with_reducible refine bl_al ?_ _ | with_reducible apply Below.drew)) hb
    clear hb hcl hfr
    go_wp2_with fail
    (with_reducible refine (K2.out _).mono ?_); rintro e w2 ⟨rfl, hb⟩
    obtain ⟨hcl, hfr⟩ := bcell hb
    have HBw2 : Hid (Below w.heap.size w w2) := bl_trans (by repeat (first | with_reducible exact Below.refl _ _ | with_reducible exact Hid.out (by assumption) | with_reducible refine Below.setCell ?_ (by first | (simp; done) | omega | (simp <;> omega)) _ | with_reducible refine bl_al ?_ _ | with_reducible apply Below.drew)) hb
    clear hb hcl hfr
    go_wp2_with fail
    go_returns
    exact ⟨rfl, HBw2.out⟩
set_option maxRecDepth 20000 in
set_option maxHeartbeats 8000000 in
theorem rmayvec_core (axh axl ayh ayl : Int) (p q : Bool) (w : World)
    (C1 : ∀ W, Calls Try.prog 17 #[.agg #[.int .i64 axh, .int .u64 axl]] W fun e w' => e = .returned (.bool p) ∧ Below W.heap.size W w')
    (C2 : ∀ W, Calls Try.prog 17 #[.agg #[.int .i64 ayh, .int .u64 ayl]] W fun e w' => e = .returned (.bool q) ∧ Below W.heap.size W w') :
    Calls Try.prog 20 #[.agg #[.int .i64 axh, .int .u64 axl, .int .i64 ayh, .int .u64 ayl]] w fun e w' => e = .returned (.bool (p && q)) ∧ Below w.heap.size w w' := by
  have K1 := Lib.hid C1; have K2 := Lib.hid C2
  clear C1 C2
  cases p
  · clear K2
    go_enter Try.func20, Try.ntmps20
    go_wp2_with fail
    (with_reducible refine (K1.out _).mono ?_); rintro e w1 ⟨rfl, hb⟩
    obtain ⟨hcl, hfr⟩ := bcell hb
    have HBw1 : Hid (Below w.heap.size w w1) := bl_trans (by repeat (first | with_reducible exact Below.refl _ _ | with_reducible exact Hid.out (by assumption) | with_reducible refine Below.setCell ?_ (by first | (simp; done) | omega | (simp <;> omega)) _ | with_reducible refine bl_al ?_ _ | with_reducible apply Below.drew)) hb
    clear hb hcl hfr
    go_wp2_with fail
    go_returns
    exact ⟨rfl, HBw1.out⟩
  · rw [Bool.true_and]
    go_enter Try.func20, Try.ntmps20
    go_wp2_with fail
    (with_reducible refine (K1.out _).mono ?_); rintro e w1 ⟨rfl, hb⟩
    obtain ⟨hcl, hfr⟩ := bcell hb
    have zw1_0 : w.heap.size < w1.heap.size := by have hz := hb.size; (try simp at hz); omega
    have cw1_0_0 : w1.cell? ⟨w.heap.size, 0, none⟩ = some (.int .i64 axh) := by rw [hcl _ _ (by first | omega | (simp; done) | (simp; omega))]; simp [go_sem, *]
    have cw1_0_1 : w1.cell? ⟨w.heap.size, 1, none⟩ = some (.int .u64 axl) := by rw [hcl _ _ (by first | omega | (simp; done) | (simp; omega))]; simp [go_sem, *]
    have cw1_0_2 : w1.cell? ⟨w.heap.size, 2, none⟩ = some (.int .i64 ayh) := by rw [hcl _ _ (by first | omega | (simp; done) | (simp; omega))]; simp [go_sem, *]
    have cw1_0_3 : w1.cell? ⟨w.heap.size, 3, none⟩ = some (.int .u64 ayl) := by rw [hcl _ _ (by first | omega | (simp; done) | (simp; omega))]; simp [go_sem, *]
    have HBw1 : Hid (Below w.heap.size w w1) := bl_trans (by repeat (first | with_reducible exact Below.refl _ _ | with_reducible exact Hid.out (by assumption) | with_reducible refine Below.setCell ?_ (by first | (simp; done) | omega | (simp <;> omega)) _ | with_reducible refine bl_al ?_ _ | with_reducible apply Below.drew)) hb
    clear hb hcl hfr
    go_wp2_with fail
    (with_reducible refine (K2.out _).mono ?_); rintro e w2 ⟨rfl, hb⟩
    obtain ⟨hcl, hfr⟩ := bcell hb
    have HBw2 : Hid (Below w.heap.size w w2) := bl_trans (by repeat (first | with_reducible exact Below.refl _ _ | with_reducible exact Hid.out (by assumption) | with_reducible refine Below.setCell ?_ (by first | (simp; done) | omega | (simp <;> omega)) _ | with_reducible refine bl_al ?_ _ | with_reducible apply Below.drew)) hb
    clear hb hcl hfr
    go_wp2_with fail
    go_returns
    exact ⟨rfl, HBw2.out⟩
set_option maxRecDepth 20000 in
set_option maxHeartbeats 8000000 in
theorem eachAdd_x (axh axl ayh ayl bxh bxl byh byl rh rl _sh _sl ex _ey : Int) (he : ¬ ex = 0) (w : World)
    (C1 : ∀ W, Calls Try.prog 56 #[.agg #[.int .i64 axh, .int .u64 axl], .agg #[.int .i64 bxh, .int .u64 bxl]] W fun e w' => e = .returned (.tuple #[.agg #[.int .i64 rh, .int .u64 rl], .int .i64 ex]) ∧ Below W.heap.size W w') :
    Calls Try.prog 55 #[.func (.func 56) #[] #[], .agg #[.int .i64 axh, .int .u64 axl, .int .i64 ayh, .int .u64 ayl], .agg #[.int .i64 bxh, .int .u64 bxl, .int .i64 byh, .int .u64 byl]] w fun e w' => e = .returned (.tuple #[.agg #[.int .i64 0, .int .u64 0, .int .i64 0, .int .u64 0], .int .i64 ex]) ∧ Below w.heap.size w w' := by
  have K1 := Lib.hid C1
  clear C1
  go_enter Try.func55, Try.ntmps55
  go_wp2_with fail
  (with_reducible refine (K1.out _).mono ?_); rintro e w1 ⟨rfl, hb⟩
  obtain ⟨hcl, hfr⟩ := bcell hb
  have zw1_0 : w.heap.size + 1 + 1 < w1.heap.size := by have hz := hb.size; (try simp at hz); omega
  have cw1_0_0 : w1.cell? ⟨w.heap.size + 1 + 1, 0, none⟩ = some (.int .i64 0) := by rw [hcl _ _ (by first | omega | (simp; done) | (simp; omega))]; simp [go_sem, *]
  have cw1_0_1 : w1.cell? ⟨w.heap.size + 1 + 1, 1, none⟩ = some (.int .u64 0) := by rw [hcl _ _ (by first | omega | (simp; done) | (simp; omega))]; simp [go_sem, *]
  have cw1_0_2 : w1.cell? ⟨w.heap.size + 1 + 1, 2, none⟩ = some (.int .i64 0) := by rw [hcl _ _ (by first | omega | (simp; done) | (simp; omega))]; simp [go_sem, *]
  have cw1_0_3 : w1.cell? ⟨w.heap.size + 1 + 1, 3, none⟩ = some (.int .u64 0) := by rw [hcl _ _ (by first | omega | (simp; done) | (simp; omega))]; simp [go_sem, *]
  have fw1_0 : ∀ j, w1.frozen? ⟨w.heap.size + 1 + 1, j, none⟩ = false := fun j => by rw [hfr _ _ (by first | omega | (simp; done) | (simp; omega))]; first | (simp [go_sem, *]; done) | (simp only [frozen?_alloc_cells]; simp [World.frozen?, *]; done) | (simp [frozen?_alloc_cells, World.frozen?, *]; done)
  have HBw1 : Hid (Below w.heap.size w w1) := bl_trans (by repeat (first | with_reducible exact Below.refl _ _ | with_reducible exact Hid.out (by assumption) | with_reducible refine Below.setCell ?_ (by first | (simp; done) | omega | (simp <;> omega)) _ | with_reducible refine bl_al ?_ _ | with_reducible apply Below.drew)) hb
  clear hb hcl hfr
  go_wp2_with fail
  refine bodyPost_ret (by simp [results, Try.results55, go_sem, *]; try rfl) rfl ?_
  exact ⟨rfl, by repeat (first | with_reducible exact Below.refl _ _ | with_reducible exact Hid.out (by assumption) | with_reducible refine Below.setCell ?_ (by first | (simp; done) | omega | (simp <;> omega)) _ | with_reducible refine bl_al ?_ _ | with_reducible apply Below.drew)⟩
set_option maxRecDepth 20000 in
set_option maxHeartbeats 8000000 in
theorem eachAdd_y (axh axl ayh ayl bxh bxl byh byl rh rl sh sl ex ey : Int) (hx : ex = 0) (he : ¬ ey = 0) (w : World)
    (C1 : ∀ W, Calls Try.prog 56 #[.agg #[.int .i64 axh, .int .u64 axl], .agg #[.int .i64 bxh, .int .u64 bxl]] W fun e w' => e = .returned (.tuple #[.agg #[.int .i64 rh, .int .u64 rl], .int .i64 ex]) ∧ Below W.heap.size W w')
    (C2 : ∀ W, Calls Try.prog 56 #[.agg #[.int .i64 ayh, .int .u64 ayl], .agg #[.int .i64 byh, .int .u64 byl]] W fun e w' => e = .returned (.tuple #[.agg #[.int .i64 sh, .int .u64 sl], .int .i64 ey]) ∧ Below W.heap.size W w') :
    Calls Try.prog 55 #[.func (.func 56) #[] #[], .agg #[.int .i64 axh, .int .u64 axl, .int .i64 ayh, .int .u64 ayl], .agg #[.int .i64 bxh, .int .u64 bxl, .int .i64 byh, .int .u64 byl]] w fun e w' => e = .returned (.tuple #[.agg #[.int .i64 0, .int .u64 0, .int .i64 0, .int .u64 0], .int .i64 ey]) ∧ Below w.heap.size w w' := by
  subst hx
  have K1 := Lib.hid C1; have K2 := Lib.hid C2
  clear C1 C2
  go_enter Try.func55, Try.ntmps55
  go_wp2_with fail
  (with_reducible refine (K1.out _).mono ?_); rintro e w1 ⟨rfl, hb⟩
  obtain ⟨hcl, hfr⟩ := bcell hb
  have zw1_0 : w.heap.size < w1.heap.size := by have hz := hb.size; (try simp at hz); omega
  have cw1_0_0 : w1.cell? ⟨w.heap.size, 0, none⟩ = some (.int .i64 axh) := by rw [hcl _ _ (by first | omega | (simp; done) | (simp; omega))]; simp [go_sem, *]
  have cw1_0_1 : w1.cell? ⟨w.heap.size, 1, none⟩ = some (.int .u64 axl) := by rw [hcl _ _ (by first | omega | (simp; done) | (simp; omega))]; simp [go_sem, *]
  have cw1_0_2 : w1.cell? ⟨w.heap.size, 2, none⟩ = some (.int .i64 ayh) := by rw [hcl _ _ (by first | omega | (simp; done) | (simp; omega))]; simp [go_sem, *]
  have cw1_0_3 : w1.cell? ⟨w.heap.size, 3, none⟩ = some (.int .u64 ayl) := by rw [hcl _ _ (by first | omega | (simp; done) | (simp; omega))]; simp [go_sem, *]
  have zw1_1 : w.heap.size + 1 < w1.heap.size := by have hz := hb.size; (try simp at hz); omega
  have cw1_1_0 : w1.cell? ⟨w.heap.size + 1, 0, none⟩ = some (.int .i64 bxh) := by rw [hcl _ _ (by first | omega | (simp; done) | (simp; omega))]; simp [go_sem, *]
  have cw1_1_1 : w1.cell? ⟨w.heap.size + 1, 1, none⟩ = some (.int .u64 bxl) := by rw [hcl _ _ (by first | omega | (simp; done) | (simp; omega))]; simp [go_sem, *]
  have cw1_1_2 : w1.cell? ⟨w.heap.size + 1, 2, none⟩ = some (.int .i64 byh) := by rw [hcl _ _ (by first | omega | (simp; done) | (simp; omega))]; simp [go_sem, *]
  have cw1_1_3 : w1.cell? ⟨w.heap.size + 1, 3, none⟩ = some (.int .u64 byl) := by rw [hcl _ _ (by first | omega | (simp; done) | (simp; omega))]; simp [go_sem, *]
  have zw1_2 : w.heap.size + 1 + 1 < w1.heap.size := by have hz := hb.size; (try simp at hz); omega
  have cw1_2_0 : w1.cell? ⟨w.heap.size + 1 + 1, 0, none⟩ = some (.int .i64 0) := by rw [hcl _ _ (by first | omega | (simp; done) | (simp; omega))]; simp [go_sem, *]
  have cw1_2_1 : w1.cell? ⟨w.heap.size + 1 + 1, 1, none⟩ = some (.int .u64 0) := by rw [hcl _ _ (by first | omega | (simp; done) | (simp; omega))]; simp [go_sem, *]
  have cw1_2_2 : w1.cell? ⟨w.heap.size + 1 + 1, 2, none⟩ = some (.int .i64 0) := by rw [hcl _ _ (by first | omega | (simp; done) | (simp; omega))]; simp [go_sem, *]
  have cw1_2_3 : w1.cell? ⟨w.heap.size + 1 + 1, 3, none⟩ = some (.int .u64 0) := by rw [hcl _ _ (by first | omega | (simp; done) | (simp; omega))]; simp [go_sem, *]
  have fw1_2 : ∀ j, w1.frozen? ⟨w.heap.size + 1 + 1, j, none⟩ = false := fun j => by rw [hfr _ _ (by first | omega | (simp; done) | (simp; omega))]; first | (simp [go_sem, *]; done) | (simp only [frozen?_alloc_cells]; simp [World.frozen?, *]; done) | (simp [frozen?_alloc_cells, World.frozen?, *]; done)
  have HBw1 : Hid (Below w.heap.size w w1) := bl_trans (by repeat (first | with_reducible exact Below.refl _ _ | with_reducible exact Hid.out (by assumption) | with_reducible refine Below.setCell ?_ (by first | (simp; done) | omega | (simp <;> omega)) _ | with_reducible refine bl_al ?_ _ | with_reducible apply Below.drew)) hb
  clear hb hcl hfr
  go_wp2_with fail
  (with_reducible refine (K2.out _).mono ?_); rintro e w2 ⟨rfl, hb⟩
  obtain ⟨hcl, hfr⟩ := bcell hb
  have zw2_0 : w.heap.size + 1 + 1 < w2.heap.size := by have hz := hb.size; (try simp at hz); omega
  have cw2_0_0 : w2.cell? ⟨w.heap.size + 1 + 1, 0, none⟩ = some (.int .i64 0) := by rw [hcl _ _ (by first | omega | (simp; done) | (simp; omega))]; simp [go_sem, *]
  have cw2_0_1 : w2.cell? ⟨w.heap.size + 1 + 1, 1, none⟩ = some (.int .u64 0) := by rw [hcl _ _ (by first | omega | (simp; done) | (simp; omega))]; simp [go_sem, *]
  have cw2_0_2 : w2.cell? ⟨w.heap.size + 1 + 1, 2, none⟩ = some (.int .i64 0) := by rw [hcl _ _ (by first | omega | (simp; done) | (simp; omega))]; simp [go_sem, *]
  have cw2_0_3 : w2.cell? ⟨w.heap.size + 1 + 1, 3, none⟩ = some (.int .u64 0) := by rw [hcl _ _ (by first | omega | (simp; done) | (simp; omega))]; simp [go_sem, *]
  have fw2_0 : ∀ j, w2.frozen? ⟨w.heap.size + 1 + 1, j, none⟩ = false := fun j => by rw [hfr _ _ (by first | omega | (simp; done) | (simp; omega))]; first | (simp [go_sem, *]; done) | (simp only [frozen?_alloc_cells]; simp [World.frozen?, *]; done) | (simp [frozen?_alloc_cells, World.frozen?, *]; done)
  have HBw2 : Hid (Below w.heap.size w w2) := bl_trans (by repeat (first | with_reducible exact Below.refl _ _ | with_reducible exact Hid.out (by assumption) | with_reducible refine Below.setCell ?_ (by first | (simp; done) | omega | (simp <;> omega)) _ | with_reducible refine bl_al ?_ _ | with_reducible apply Below.drew)) hb
  clear hb hcl hfr
  go_wp2_with fail
  refine bodyPost_ret (by simp [results, Try.results55, go_sem, *]; try rfl) rfl ?_
  exact ⟨rfl, by repeat (first | with_reducible exact Below.refl _ _ | with_reducible exact Hid.out (by assumption) | with_reducible refine Below.setCell ?_ (by first | (simp; done) | omega | (simp <;> omega)) _ | with_reducible refine bl_al ?_ _ | with_reducible apply Below.drew)⟩
set_option maxRecDepth 20000 in
set_option maxHeartbeats 8000000 in
theorem eachAdd_ok (axh axl ayh ayl bxh bxl byh byl rh rl sh sl ex ey : Int) (hx : ex = 0) (he : ey = 0) (w : World)
    (C1 : ∀ W, Calls Try.prog 56 #[.agg #[.int .i64 axh, .int .u64 axl], .agg #[.int .i64 bxh, .int .u64 bxl]] W fun e w' => e = .returned (.tuple #[.agg #[.int .i64 rh, .int .u64 rl], .int .i64 ex]) ∧ Below W.heap.size W w')
    (C2 : ∀ W, Calls Try.prog 56 #[.agg #[.int .i64 ayh, .int .u64 ayl], .agg #[.int .i64 byh, .int .u64 byl]] W fun e w' => e = .returned (.tuple #[.agg #[.int .i64 sh, .int .u64 sl], .int .i64 ey]) ∧ Below W.heap.size W w') :
    Calls Try.prog 55 #[.func (.func 56) #[] #[], .agg #[.int .i64 axh, .int .u64 axl, .int .i64 ayh, .int .u64 ayl], .agg #[.int .i64 bxh, .int .u64 bxl, .int .i64 byh, .int .u64 byl]] w fun e w' => e = .returned (.tuple #[.agg #[.int .i64 rh, .int .u64 rl, .int .i64 sh, .int .u64 sl], .int .i64 0]) ∧ Below w.heap.size w w' := by
  subst hx; subst he
  have K1 := Lib.hid C1; have K2 := Lib.hid C2
  clear C1 C2
  go_enter Try.func55, Try.ntmps55
  go_wp2_with fail
  (with_reducible refine (K1.out _).mono ?_); rintro e w1 ⟨rfl, hb⟩
  obtain ⟨hcl, hfr⟩ := bcell hb
  have zw1_0 : w.heap.size < w1.heap.size := by have hz := hb.size; (try simp at hz); omega
  have cw1_0_0 : w1.cell? ⟨w.heap.size, 0, none⟩ = some (.int .i64 axh) := by rw [hcl _ _ (by first | omega | (simp; done) | (simp; omega))]; simp [go_sem, *]
  have cw1_0_1 : w1.cell? ⟨w.heap.size, 1, none⟩ = some (.int .u64 axl) := by rw [hcl _ _ (by first | omega | (simp; done) | (simp; omega))]; simp [go_sem, *]
  have cw1_0_2 : w1.cell? ⟨w.heap.size, 2, none⟩ = some (.int .i64 ayh) := by rw [hcl _ _ (by first | omega | (simp; done) | (simp; omega))]; simp [go_sem, *]
  have cw1_0_3 : w1.cell? ⟨w.heap.size, 3, none⟩ = some (.int .u64 ayl) := by rw [hcl _ _ (by first | omega | (simp; done) | (simp; omega))]; simp [go_sem, *]
  have zw1_1 : w.heap.size + 1 < w1.heap.size := by have hz := hb.size; (try simp at hz); omega
  have cw1_1_0 : w1.cell? ⟨w.heap.size + 1, 0, none⟩ = some (.int .i64 bxh) := by rw [hcl _ _ (by first | omega | (simp; done) | (simp; omega))]; simp [go_sem, *]
  have cw1_1_1 : w1.cell? ⟨w.heap.size + 1, 1, none⟩ = some (.int .u64 bxl) := by rw [hcl _ _ (by first | omega | (simp; done) | (simp; omega))]; simp [go_sem, *]
  have cw1_1_2 : w1.cell? ⟨w.heap.size + 1, 2, none⟩ = some (.int .i64 byh) := by rw [hcl _ _ (by first | omega | (simp; done) | (simp; omega))]; simp [go_sem, *]
  have cw1_1_3 : w1.cell? ⟨w.heap.size + 1, 3, none⟩ = some (.int .u64 byl) := by rw [hcl _ _ (by first | omega | (simp; done) | (simp; omega))]; simp [go_sem, *]
  have zw1_2 : w.heap.size + 1 + 1 < w1.heap.size := by have hz := hb.size; (try simp at hz); omega
  have cw1_2_0 : w1.cell? ⟨w.heap.size + 1 + 1, 0, none⟩ = some (.int .i64 0) := by rw [hcl _ _ (by first | omega | (simp; done) | (simp; omega))]; simp [go_sem, *]
  have cw1_2_1 : w1.cell? ⟨w.heap.size + 1 + 1, 1, none⟩ = some (.int .u64 0) := by rw [hcl _ _ (by first | omega | (simp; done) | (simp; omega))]; simp [go_sem, *]
  have cw1_2_2 : w1.cell? ⟨w.heap.size + 1 + 1, 2, none⟩ = some (.int .i64 0) := by rw [hcl _ _ (by first | omega | (simp; done) | (simp; omega))]; simp [go_sem, *]
  have cw1_2_3 : w1.cell? ⟨w.heap.size + 1 + 1, 3, none⟩ = some (.int .u64 0) := by rw [hcl _ _ (by first | omega | (simp; done) | (simp; omega))]; simp [go_sem, *]
  have fw1_2 : ∀ j, w1.frozen? ⟨w.heap.size + 1 + 1, j, none⟩ = false := fun j => by rw [hfr _ _ (by first | omega | (simp; done) | (simp; omega))]; first | (simp [go_sem, *]; done) | (simp only [frozen?_alloc_cells]; simp [World.frozen?, *]; done) | (simp [frozen?_alloc_cells, World.frozen?, *]; done)
  have HBw1 : Hid (Below w.heap.size w w1) := bl_trans (by repeat (first | with_reducible exact Below.refl _ _ | with_reducible exact Hid.out (by assumption) | with_reducible refine Below.setCell ?_ (by first | (simp; done) | omega | (simp <;> omega)) _ | with_reducible refine bl_al ?_ _ | with_reducible apply Below.drew)) hb
  clear hb hcl hfr
  go_wp2_with fail
  (with_reducible refine (K2.out _).mono ?_); rintro e w2 ⟨rfl, hb⟩
  obtain ⟨hcl, hfr⟩ := bcell hb
  have zw2_0 : w.heap.size + 1 + 1 < w2.heap.size := by have hz := hb.size; (try simp at hz); omega
  have cw2_0_0 : w2.cell? ⟨w.heap.size + 1 + 1, 0, none⟩ = some (.int .i64 0) := by rw [hcl _ _ (by first | omega | (simp; done) | (simp; omega))]; simp [go_sem, *]
  have cw2_0_1 : w2.cell? ⟨w.heap.size + 1 + 1, 1, none⟩ = some (.int .u64 0) := by rw [hcl _ _ (by first | omega | (simp; done) | (simp; omega))]; simp [go_sem, *]
  have cw2_0_2 : w2.cell? ⟨w.heap.size + 1 + 1, 2, none⟩ = some (.int .i64 0) := by rw [hcl _ _ (by first | omega | (simp; done) | (simp; omega))]; simp [go_sem, *]
  have cw2_0_3 : w2.cell? ⟨w.heap.size + 1 + 1, 3, none⟩ = some (.int .u64 0) := by rw [hcl _ _ (by first | omega | (simp; done) | (simp; omega))]; simp [go_sem, *]
  have fw2_0 : ∀ j, w2.frozen? ⟨w.heap.size + 1 + 1, j, none⟩ = false := fun j => by rw [hfr _ _ (by first | omega | (simp; done) | (simp; omega))]; first | (simp [go_sem, *]; done) | (simp only [frozen?_alloc_cells]; simp [World.frozen?, *]; done) | (simp [frozen?_alloc_cells, World.frozen?, *]; done)
  have zw2_1 : w1.heap.size < w2.heap.size := by have hz := hb.size; (try simp at hz); omega
  have cw2_1_0 : w2.cell? ⟨w1.heap.size, 0, none⟩ = some (.int .i64 rh) := by rw [hcl _ _ (by first | omega | (simp; done) | (simp; omega))]; simp [go_sem, *]
  have cw2_1_1 : w2.cell? ⟨w1.heap.size, 1, none⟩ = some (.int .u64 rl) := by rw [hcl _ _ (by first | omega | (simp; done) | (simp; omega))]; simp [go_sem, *]
  have HBw2 : Hid (Below w.heap.size w w2) := bl_trans (by repeat (first | with_reducible exact Below.refl _ _ | with_reducible exact Hid.out (by assumption) | with_reducible refine Below.setCell ?_ (by first | (simp; done) | omega | (simp <;> omega)) _ | with_reducible refine bl_al ?_ _ | with_reducible apply Below.drew)) hb
  clear hb hcl hfr
  go_wp2_with fail
  refine bodyPost_ret (by simp [results, Try.results55, go_sem, *]; try rfl) rfl ?_
  exact ⟨rfl, by repeat (first | with_reducible exact Below.refl _ _ | with_reducible exact Hid.out (by assumption) | with_reducible refine Below.setCell ?_ (by first | (simp; done) | omega | (simp <;> omega)) _ | with_reducible refine bl_al ?_ _ | with_reducible apply Below.drew)⟩
set_option maxRecDepth 20000 in
set_option maxHeartbeats 8000000 in
theorem eachSub_x (axh axl ayh ayl bxh bxl byh byl rh rl _sh _sl ex _ey : Int) (he : ¬ ex = 0) (w : World)
    (C1 : ∀ W, Calls Try.prog 57 #[.agg #[.int .i64 axh, .int .u64 axl], .agg #[.int .i64 bxh, .int .u64 bxl]] W fun e w' => e = .returned (.tuple #[.agg #[.int .i64 rh, .int .u64 rl], .int .i64 ex]) ∧ Below W.heap.size W w') :
    Calls Try.prog 55 #[.func (.func 57) #[] #[], .agg #[.int .i64 axh, .int .u64 axl, .int .i64 ayh, .int .u64 ayl], .agg #[.int .i64 bxh, .int .u64 bxl, .int .i64 byh, .int .u64 byl]] w fun e w' => e = .returned (.tuple #[.agg #[.int .i64 0, .int .u64 0, .int .i64 0, .int .u64 0], .int .i64 ex]) ∧ Below w.heap.size w w' := by
  have K1 := Lib.hid C1
  clear C1
  go_enter Try.func55, Try.ntmps55
  go_wp2_with fail
  (with_reducible refine (K1.out _).mono ?_); rintro e w1 ⟨rfl, hb⟩
  obtain ⟨hcl, hfr⟩ := bcell hb
  have zw1_0 : w.heap.size + 1 + 1 < w1.heap.size := by have hz := hb.size; (try simp at hz); omega
  have cw1_0_0 : w1.cell? ⟨w.heap.size + 1 + 1, 0, none⟩ = some (.int .i64 0) := by rw [hcl _ _ (by first | omega | (simp; done) | (simp; omega))]; simp [go_sem, *]
  have cw1_0_1 : w1.cell? ⟨w.heap.size + 1 + 1, 1, none⟩ = some (.int .u64 0) := by rw [hcl _ _ (by first | omega | (simp; done) | (simp; omega))]; simp [go_sem, *]
  have cw1_0_2 : w1.cell? ⟨w.heap.size + 1 + 1, 2, none⟩ = some (.int .i64 0) := by rw [hcl _ _ (by first | omega | (simp; done) | (simp; omega))]; simp [go_sem, *]
  have cw1_0_3 : w1.cell? ⟨w.heap.size + 1 + 1, 3, none⟩ = some (.int .u64 0) := by rw [hcl _ _ (by first | omega | (simp; done) | (simp; omega))]; simp [go_sem, *]
  have fw1_0 : ∀ j, w1.frozen? ⟨w.heap.size + 1 + 1, j, none⟩ = false := fun j => by rw [hfr _ _ (by first | omega | (simp; done) | (simp; omega))]; first | (simp [go_sem, *]; done) | (simp only [frozen?_alloc_cells]; simp [World.frozen?, *]; done) | (simp [frozen?_alloc_cells, World.frozen?, *]; done)
  have HBw1 : Hid (Below w.heap.size w w1) := bl_trans (by repeat (first | with_reducible exact Below.refl _ _ | with_reducible exact Hid.out (by assumption) | with_reducible refine Below.setCell ?_ (by first | (simp; done) | omega | (simp <;> omega)) _ | with_reducible refine bl_al ?_ _ | with_reducible apply Below.drew)) hb
  clear hb hcl hfr
  go_wp2_with fail
  refine bodyPost_ret (by simp [results, Try.results55, go_sem, *]; try rfl) rfl ?_
  exact ⟨rfl, by repeat (first | with_reducible exact Below.refl _ _ | with_reducible exact Hid.out (by assumption) | with_reducible refine Below.setCell ?_ (by first | (simp; done) | omega | (simp <;> omega)) _ | with_reducible refine bl_al ?_ _ | with_reducible apply Below.drew)⟩
set_option maxRecDepth 20000 in
set_option maxHeartbeats 8000000 in
theorem eachSub_y (axh axl ayh ayl bxh bxl byh byl rh rl sh sl ex ey : Int) (hx : ex = 0) (he : ¬ ey = 0) (w : World)
    (C1 : ∀ W, Calls Try.prog 57 #[.agg #[.int .i64 axh, .int .u64 axl], .agg #[.int .i64 bxh, .int .u64 bxl]] W fun e w' => e = .returned (.tuple #[.agg #[.int .i64 rh, .int .u64 rl], .int .i64 ex]) ∧ Below W.heap.size W w')
    (C2 : ∀ W, Calls Try.prog 57 #[.agg #[.int .i64 ayh, .int .u64 ayl], .agg #[.int .i64 byh, .int .u64 byl]] W fun e w' => e = .returned (.tuple #[.agg #[.int .i64 sh, .int .u64 sl], .int .i64 ey]) ∧ Below W.heap.size W w') :
    Calls Try.prog 55 #[.func (.func 57) #[] #[], .agg #[.int .i64 axh, .int .u64 axl, .int .i64 ayh, .int .u64 ayl], .agg #[.int .i64 bxh, .int .u64 bxl, .int .i64 byh, .int .u64 byl]] w fun e w' => e = .returned (.tuple #[.agg #[.int .i64 0, .int .u64 0, .int .i64 0, .int .u64 0], .int .i64 ey]) ∧ Below w.heap.size w w' := by
  subst hx
  have K1 := Lib.hid C1; have K2 := Lib.hid C2
  clear C1 C2
  go_enter Try.func55, Try.ntmps55
  go_wp2_with fail
  (with_reducible refine (K1.out _).mono ?_); rintro e w1 ⟨rfl, hb⟩
  obtain ⟨hcl, hfr⟩ := bcell hb
  have zw1_0 : w.heap.size < w1.heap.size := by have hz := hb.size; (try simp at hz); omega
  have cw1_0_0 : w1.cell? ⟨w.heap.size, 0, none⟩ = some (.int .i64 axh) := by rw [hcl _ _ (by first | omega | (simp; done) | (simp; omega))]; simp [go_sem, *]
  have cw1_0_1 : w1.cell? ⟨w.heap.size, 1, none⟩ = some (.int .u64 axl) := by rw [hcl _ _ (by first | omega | (simp; done) | (simp; omega))]; simp [go_sem, *]
  have cw1_0_2 : w1.cell? ⟨w.heap.size, 2, none⟩ = some (.int .i64 ayh) := by rw [hcl _ _ (by first | omega | (simp; done) | (simp; omega))]; simp [go_sem, *]
  have cw1_0_3 : w1.cell? ⟨w.heap.size, 3, none⟩ = some (.int .u64 ayl) := by rw [hcl _ _ (by first | omega | (simp; done) | (simp; omega))]; simp [go_sem, *]
  have zw1_1 : w.heap.size + 1 < w1.heap.size := by have hz := hb.size; (try simp at hz); omega
  have cw1_1_0 : w1.cell? ⟨w.heap.size + 1, 0, none⟩ = some (.int .i64 bxh) := by rw [hcl _ _ (by first | omega | (simp; done) | (simp; omega))]; simp [go_sem, *]
  have cw1_1_1 : w1.cell? ⟨w.heap.size + 1, 1, none⟩ = some (.int .u64 bxl) := by rw [hcl _ _ (by first | omega | (simp; done) | (simp; omega))]; simp [go_sem, *]
  have cw1_1_2 : w1.cell? ⟨w.heap.size + 1, 2, none⟩ = some (.int .i64 byh) := by rw [hcl _ _ (by first | omega | (simp; done) | (simp; omega))]; simp [go_sem, *]
  have cw1_1_3 : w1.cell? ⟨w.heap.size + 1, 3, none⟩ = some (.int .u64 byl) := by rw [hcl _ _ (by first | omega | (simp; done) | (simp; omega))]; simp [go_sem, *]
  have zw1_2 : w.heap.size + 1 + 1 < w1.heap.size := by have hz := hb.size; (try simp at hz); omega
  have cw1_2_0 : w1.cell? ⟨w.heap.size + 1 + 1, 0, none⟩ = some (.int .i64 0) := by rw [hcl _ _ (by first | omega | (simp; done) | (simp; omega))]; simp [go_sem, *]
  have cw1_2_1 : w1.cell? ⟨w.heap.size + 1 + 1, 1, none⟩ = some (.int .u64 0) := by rw [hcl _ _ (by first | omega | (simp; done) | (simp; omega))]; simp [go_sem, *]
  have cw1_2_2 : w1.cell? ⟨w.heap.size + 1 + 1, 2, none⟩ = some (.int .i64 0) := by rw [hcl _ _ (by first | omega | (simp; done) | (simp; omega))]; simp [go_sem, *]
  have cw1_2_3 : w1.cell? ⟨w.heap.size + 1 + 1, 3, none⟩ = some (.int .u64 0) := by rw [hcl _ _ (by first | omega | (simp; done) | (simp; omega))]; simp [go_sem, *]
  have fw1_2 : ∀ j, w1.frozen? ⟨w.heap.size + 1 + 1, j, none⟩ = false := fun j => by rw [hfr _ _ (by first | omega | (simp; done) | (simp; omega))]; first | (simp [go_sem, *]; done) | (simp only [frozen?_alloc_cells]; simp [World.frozen?, *]; done) | (simp [frozen?_alloc_cells, World.frozen?, *]; done)
  have HBw1 : Hid (Below w.heap.size w w1) := bl_trans (by repeat (first | with_reducible exact Below.refl _ _ | with_reducible exact Hid.out (by assumption) | with_reducible refine Below.setCell ?_ (by first | (simp; done) | omega | (simp <;> omega)) _ | with_reducible refine bl_al ?_ _ | with_reducible apply Below.drew)) hb
  clear hb hcl hfr
  go_wp2_with fail
  (with_reducible refine (K2.out _).mono ?_); rintro e w2 ⟨rfl, hb⟩
  obtain ⟨hcl, hfr⟩ := bcell hb
  have zw2_0 : w.heap.size + 1 + 1 < w2.heap.size := by have hz := hb.size; (try simp at hz); omega
  have cw2_0_0 : w2.cell? ⟨w.heap.size + 1 + 1, 0, none⟩ = some (.int .i64 0) := by rw [hcl _ _ (by first | omega | (simp; done) | (simp; omega))]; simp [go_sem, *]
  have cw2_0_1 : w2.cell? ⟨w.heap.size + 1 + 1, 1, none⟩ = some (.int .u64 0) := by rw [hcl _ _ (by first | omega | (simp; done) | (simp; omega))]; simp [go_sem, *]
  have cw2_0_2 : w2.cell? ⟨w.heap.size + 1 + 1, 2, none⟩ = some (.int .i64 0) := by rw [hcl _ _ (by first | omega | (simp; done) | (simp; omega))]; simp [go_sem, *]
  have cw2_0_3 : w2.cell? ⟨w.heap.size + 1 + 1, 3, none⟩ = some (.int .u64 0) := by rw [hcl _ _ (by first | omega | (simp; done) | (simp; omega))]; simp [go_sem, *]
  have fw2_0 : ∀ j, w2.frozen? ⟨w.heap.size + 1 + 1, j, none⟩ = false := fun j => by rw [hfr _ _ (by first | omega | (simp; done) | (simp; omega))]; first | (simp [go_sem, *]; done) | (simp only [frozen?_alloc_cells]; simp [World.frozen?, *]; done) | (simp [frozen?_alloc_cells, World.frozen?, *]; done)
  have HBw2 : Hid (Below w.heap.size w w2) := bl_trans (by repeat (first | with_reducible exact Below.refl _ _ | with_reducible exact Hid.out (by assumption) | with_reducible refine Below.setCell ?_ (by first | (simp; done) | omega | (simp <;> omega)) _ | with_reducible refine bl_al ?_ _ | with_reducible apply Below.drew)) hb
  clear hb hcl hfr
  go_wp2_with fail
  refine bodyPost_ret (by simp [results, Try.results55, go_sem, *]; try rfl) rfl ?_
  exact ⟨rfl, by repeat (first | with_reducible exact Below.refl _ _ | with_reducible exact Hid.out (by assumption) | with_reducible refine Below.setCell ?_ (by first | (simp; done) | omega | (simp <;> omega)) _ | with_reducible refine bl_al ?_ _ | with_reducible apply Below.drew)⟩
set_option maxRecDepth 20000 in
set_option maxHeartbeats 8000000 in
theorem eachSub_ok (axh axl ayh ayl bxh bxl byh byl rh rl sh sl ex ey : Int) (hx : ex = 0) (he : ey = 0) (w : World)
    (C1 : ∀ W, Calls Try.prog 57 #[.agg #[.int .i64 axh, .int .u64 axl], .agg #[.int .i64 bxh, .int .u64 bxl]] W fun e w' => e = .returned (.tuple #[.agg #[.int .i64 rh, .int .u64 rl], .int .i64 ex]) ∧ Below W.heap.size W w')
    (C2 : ∀ W, Calls Try.prog 57 #[.agg #[.int .i64 ayh, .int .u64 ayl], .agg #[.int .i64 byh, .int .u64 byl]] W fun e w' => e = .returned (.tuple #[.agg #[.int .i64 sh, .int .u64 sl], .int .i64 ey]) ∧ Below W.heap.size W w') :
    Calls Try.prog 55 #[.func (.func 57) #[] #[], .agg #[.int .i64 axh, .int .u64 axl, .int .i64 ayh, .int .u64 ayl], .agg #[.int .i64 bxh, .int .u64 bxl, .int .i64 byh, .int .u64 byl]] w fun e w' => e = .returned (.tuple #[.agg #[.int .i64 rh, .int .u64 rl, .int .i64 sh, .int .u64 sl], .int .i64 0]) ∧ Below w.heap.size w w' := by
  subst hx; subst he
  have K1 := Lib.hid C1; have K2 := Lib.hid C2
  clear C1 C2
  go_enter Try.func55, Try.ntmps55
  go_wp2_with fail
  (with_reducible refine (K1.out _).mono ?_); rintro e w1 ⟨rfl, hb⟩
  obtain ⟨hcl, hfr⟩ := bcell hb
  have zw1_0 : w.heap.size < w1.heap.size := by have hz := hb.size; (try simp at hz); omega
  have cw1_0_0 : w1.cell? ⟨w.heap.size, 0, none⟩ = some (.int .i64 axh) := by rw [hcl _ _ (by first | omega | (simp; done) | (simp; omega))]; simp [go_sem, *]
  have cw1_0_1 : w1.cell? ⟨w.heap.size, 1, none⟩ = some (.int .u64 axl) := by rw [hcl _ _ (by first | omega | (simp; done) | (simp; omega))]; simp [go_sem, *]
  have cw1_0_2 : w1.cell? ⟨w.heap.size, 2, none⟩ = some (.int .i64 ayh) := by rw [hcl _ _ (by first | omega | (simp; done) | (simp; omega))]; simp [go_sem, *]
  have cw1_0_3 : w1.cell? ⟨w.heap.size, 3, none⟩ = some (.int .u64 ayl) := by rw [hcl _ _ (by first | omega | (simp; done) | (simp; omega))]; simp [go_sem, *]
  have zw1_1 : w.heap.size + 1 < w1.heap.size := by have hz := hb.size; (try simp at hz); omega
  have cw1_1_0 : w1.cell? ⟨w.heap.size + 1, 0, none⟩ = some (.int .i64 bxh) := by rw [hcl _ _ (by first | omega | (simp; done) | (simp; omega))]; simp [go_sem, *]
  have cw1_1_1 : w1.cell? ⟨w.heap.size + 1, 1, none⟩ = some (.int .u64 bxl) := by rw [hcl _ _ (by first | omega | (simp; done) | (simp; omega))]; simp [go_sem, *]
  have cw1_1_2 : w1.cell? ⟨w.heap.size + 1, 2, none⟩ = some (.int .i64 byh) := by rw [hcl _ _ (by first | omega | (simp; done) | (simp; omega))]; simp [go_sem, *]
  have cw1_1_3 : w1.cell? ⟨w.heap.size + 1, 3, none⟩ = some (.int .u64 byl) := by rw [hcl _ _ (by first | omega | (simp; done) | (simp; omega))]; simp [go_sem, *]
  have zw1_2 : w.heap.size + 1 + 1 < w1.heap.size := by have hz := hb.size; (try simp at hz); omega
  have cw1_2_0 : w1.cell? ⟨w.heap.size + 1 + 1, 0, none⟩ = some (.int .i64 0) := by rw [hcl _ _ (by first | omega | (simp; done) | (simp; omega))]; simp [go_sem, *]
  have cw1_2_1 : w1.cell? ⟨w.heap.size + 1 + 1, 1, none⟩ = some (.int .u64 0) := by rw [hcl _ _ (by first | omega | (simp; done) | (simp; omega))]; simp [go_sem, *]
  have cw1_2_2 : w1.cell? ⟨w.heap.size + 1 + 1, 2, none⟩ = some (.int .i64 0) := by rw [hcl _ _ (by first | omega | (simp; done) | (simp; omega))]; simp [go_sem, *]
  have cw1_2_3 : w1.cell? ⟨w.heap.size + 1 + 1, 3, none⟩ = some (.int .u64 0) := by rw [hcl _ _ (by first | omega | (simp; done) | (simp; omega))]; simp [go_sem, *]
  have fw1_2 : ∀ j, w1.frozen? ⟨w.heap.size + 1 + 1, j, none⟩ = false := fun j => by rw [hfr _ _ (by first | omega | (simp; done) | (simp; omega))]; first | (simp [go_sem, *]; done) | (simp only [frozen?_alloc_cells]; simp [World.frozen?, *]; done) | (simp [frozen?_alloc_cells, World.frozen?, *]; done)
  have HBw1 : Hid (Below w.heap.size w w1) := bl_trans (by repeat (first | with_reducible exact Below.refl _ _ | with_reducible exact Hid.out (by assumption) | with_reducible refine Below.setCell ?_ (by first | (simp; done) | omega | (simp <;> omega)) _ | with_reducible refine bl_al ?_ _ | with_reducible apply Below.drew)) hb
  clear hb hcl hfr
  go_wp2_with fail
  (with_reducible refine (K2.out _).mono ?_); rintro e w2 ⟨rfl, hb⟩
  obtain ⟨hcl, hfr⟩ := bcell hb
  have zw2_0 : w.heap.size + 1 + 1 < w2.heap.size := by have hz := hb.size; (try simp at hz); omega
  have cw2_0_0 : w2.cell? ⟨w.heap.size + 1 + 1, 0, none⟩ = some (.int .i64 0) := by rw [hcl _ _ (by first | omega | (simp; done) | (simp; omega))]; simp [go_sem, *]
  have cw2_0_1 : w2.cell? ⟨w.heap.size + 1 + 1, 1, none⟩ = some (.int .u64 0) := by rw [hcl _ _ (by first | omega | (simp; done) | (simp; omega))]; simp [go_sem, *]
  have cw2_0_2 : w2.cell? ⟨w.heap.size + 1 + 1, 2, none⟩ = some (.int .i64 0) := by rw [hcl _ _ (by first | omega | (simp; done) | (simp; omega))]; simp [go_sem, *]
  have cw2_0_3 : w2.cell? ⟨w.heap.size + 1 + 1, 3, none⟩ = some (.int .u64 0) := by rw [hcl _ _ (by first | omega | (simp; done) | (simp; omega))]; simp [go_sem, *]
  have fw2_0 : ∀ j, w2.frozen? ⟨w.heap.size + 1 + 1, j, none⟩ = false := fun j => by rw [hfr _ _ (by first | omega | (simp; done) | (simp; omega))]; first | (simp [go_sem, *]; done) | (simp only [frozen?_alloc_cells]; simp [World.frozen?, *]; done) | (simp [frozen?_alloc_cells, World.frozen?, *]; done)
  have zw2_1 : w1.heap.size < w2.heap.size := by have hz := hb.size; (try simp at hz); omega
  have cw2_1_0 : w2.cell? ⟨w1.heap.size, 0, none⟩ = some (.int .i64 rh) := by rw [hcl _ _ (by first | omega | (simp; done) | (simp; omega))]; simp [go_sem, *]
  have cw2_1_1 : w2.cell? ⟨w1.heap.size, 1, none⟩ = some (.int .u64 rl) := by rw [hcl _ _ (by first | omega | (simp; done) | (simp; omega))]; simp [go_sem, *]
  have HBw2 : Hid (Below w.heap.size w w2) := bl_trans (by repeat (first | with_reducible exact Below.refl _ _ | with_reducible exact Hid.out (by assumption) | with_reducible refine Below.setCell ?_ (by first | (simp; done) | omega | (simp <;> omega)) _ | with_reducible refine bl_al ?_ _ | with_reducible apply Below.drew)) hb
  clear hb hcl hfr
  go_wp2_with fail
  refine bodyPost_ret (by simp [results, Try.results55, go_sem, *]; try rfl) rfl ?_
  exact ⟨rfl, by repeat (first | with_reducible exact Below.refl _ _ | with_reducible exact Hid.out (by assumption) | with_reducible refine Below.setCell ?_ (by first | (simp; done) | omega | (simp <;> omega)) _ | with_reducible refine bl_al ?_ _ | with_reducible apply Below.drew)⟩
set_option maxRecDepth 20000 in
set_option maxHeartbeats 8000000 in
theorem eachMul_x (axh axl ayh ayl bxh bxl byh byl rh rl _sh _sl ex _ey : Int) (he : ¬ ex = 0) (w : World)
    (C1 : ∀ W, Calls Try.prog 58 #[.agg #[.int .i64 axh, .int .u64 axl], .agg #[.int .i64 bxh, .int .u64 bxl]] W fun e w' => e = .returned (.tuple #[.agg #[.int .i64 rh, .int .u64 rl], .int .i64 ex]) ∧ Below W.heap.size W w') :
    Calls Try.prog 55 #[.func (.func 58) #[] #[], .agg #[.int .i64 axh, .int .u64 axl, .int .i64 ayh, .int .u64 ayl], .agg #[.int .i64 bxh, .int .u64 bxl, .int .i64 byh, .int .u64 byl]] w fun e w' => e = .returned (.tuple #[.agg #[.int .i64 0, .int .u64 0, .int .i64 0, .int .u64 0], .int .i64 ex]) ∧ Below w.heap.size w w' := by
  have K1 := Lib.hid C1
  clear C1
  go_enter Try.func55, Try.ntmps55
  go_wp2_with fail
  (with_reducible refine (K1.out _).mono ?_); rintro e w1 ⟨rfl, hb⟩
  obtain ⟨hcl, hfr⟩ := bcell hb
  have zw1_0 : w.heap.size + 1 + 1 < w1.heap.size := by have hz := hb.size; (try simp at hz); omega
  have cw1_0_0 : w1.cell? ⟨w.heap.size + 1 + 1, 0, none⟩ = some (.int .i64 0) := by rw [hcl _ _ (by first | omega | (simp; done) | (simp; omega))]; simp [go_sem, *]
  have cw1_0_1 : w1.cell? ⟨w.heap.size + 1 + 1, 1, none⟩ = some (.int .u64 0) := by rw [hcl _ _ (by first | omega | (simp; done) | (simp; omega))]; simp [go_sem, *]
  have cw1_0_2 : w1.cell? ⟨w.heap.size + 1 + 1, 2, none⟩ = some (.int .i64 0) := by rw [hcl _ _ (by first | omega | (simp; done) | (simp; omega))]; simp [go_sem, *]
  have cw1_0_3 : w1.cell? ⟨w.heap.size + 1 + 1, 3, none⟩ = some (.int .u64 0) := by rw [hcl _ _ (by first | omega | (simp; done) | (simp; omega))]; simp [go_sem, *]
  have fw1_0 : ∀ j, w1.frozen? ⟨w.heap.size + 1 + 1, j, none⟩ = false := fun j => by rw [hfr _ _ (by first | omega | (simp; done) | (simp; omega))]; first | (simp [go_sem, *]; done) | (simp only [frozen?_alloc_cells]; simp [World.frozen?, *]; done) | (simp [frozen?_alloc_cells, World.frozen?, *]; done)
  have HBw1 : Hid (Below w.heap.size w w1) := bl_trans (by repeat (first | with_reducible exact Below.refl _ _ | with_reducible exact Hid.out (by assumption) | with_reducible refine Below.setCell ?_ (by first | (simp; done) | omega | (simp <;> omega)) _ | with_reducible refine bl_al ?_ _ | with_reducible apply Below.drew)) hb
  clear hb hcl hfr
  go_wp2_with fail
  refine bodyPost_ret (by simp [results, Try.results55, go_sem, *]; try rfl) rfl ?_
  exact ⟨rfl, by repeat (first | with_reducible exact Below.refl _ _ | with_reducible exact Hid.out (by assumption) | with_reducible refine Below.setCell ?_ (by first | (simp; done) | omega | (simp <;> omega)) _ | with_reducible refine bl_al ?_ _ | with_reducible apply Below.drew)⟩
set_option maxRecDepth 20000 in
set_option maxHeartbeats 8000000 in
theorem eachMul_y (axh axl ayh ayl bxh bxl byh byl rh rl sh sl ex ey : Int) (hx : ex = 0) (he : ¬ ey = 0) (w : World)
    (C1 : ∀ W, Calls Try.prog 58 #[.agg #[.int .i64 axh, .int .u64 axl], .agg #[.int .i64 bxh, .int .u64 bxl]] W fun e w' => e = .returned (.tuple #[.agg #[.int .i64 rh, .int .u64 rl], .int .i64 ex]) ∧ Below W.heap.size W w')
    (C2 : ∀ W, Calls Try.prog 58 #[.agg #[.int .i64 ayh, .int .u64 ayl], .agg #[.int .i64 byh, .int .u64 byl]] W fun e w' => e = .returned (.tuple #[.agg #[.int .i64 sh, .int .u64 sl], .int .i64 ey]) ∧ Below W.heap.size W w') :
    Calls Try.prog 55 #[.func (.func 58) #[] #[], .agg #[.int .i64 axh, .int .u64 axl, .int .i64 ayh, .int .u64 ayl], .agg #[.int .i64 bxh, .int .u64 bxl, .int .i64 byh, .int .u64 byl]] w fun e w' => e = .returned (.tuple #[.agg #[.int .i64 0, .int .u64 0, .int .i64 0, .int .u64 0], .int .i64 ey]) ∧ Below w.heap.size w w' := by
  subst hx
  have K1 := Lib.hid C1; have K2 := Lib.hid C2
  clear C1 C2
  go_enter Try.func55, Try.ntmps55
  go_wp2_with fail
  (with_reducible refine (K1.out _).mono ?_); rintro e w1 ⟨rfl, hb⟩
  obtain ⟨hcl, hfr⟩ := bcell hb
  have zw1_0 : w.heap.size < w1.heap.size := by have hz := hb.size; (try simp at hz); omega
  have cw1_0_0 : w1.cell? ⟨w.heap.size, 0, none⟩ = some (.int .i64 axh) := by rw [hcl _ _ (by first | omega | (simp; done) | (simp; omega))]; simp [go_sem, *]
  have cw1_0_1 : w1.cell? ⟨w.heap.size, 1, none⟩ = some (.int .u64 axl) := by rw [hcl _ _ (by first | omega | (simp; done) | (simp; omega))]; simp [go_sem, *]
  have cw1_0_2 : w1.cell? ⟨w.heap.size, 2, none⟩ = some (.int .i64 ayh) := by rw [hcl _ _ (by first | omega | (simp; done) | (simp; omega))]; simp [go_sem, *]
  have cw1_0_3 : w1.cell? ⟨w.heap.size, 3, none⟩ = some (.int .u64 ayl) := by rw [hcl _ _ (by first | omega | (simp; done) | (simp; omega))]; simp [go_sem, *]
  have zw1_1 : w.heap.size + 1 < w1.heap.size := by have hz := hb.size; (try simp at hz); omega
  have cw1_1_0 : w1.cell? ⟨w.heap.size + 1, 0, none⟩ = some (.int .i64 bxh) := by rw [hcl _ _ (by first | omega | (simp; done) | (simp; omega))]; simp [go_sem, *]
  have cw1_1_1 : w1.cell? ⟨w.heap.size + 1, 1, none⟩ = some (.int .u64 bxl) := by rw [hcl _ _ (by first | omega | (simp; done) | (simp; omega))]; simp [go_sem, *]
  have cw1_1_2 : w1.cell? ⟨w.heap.size + 1, 2, none⟩ = some (.int .i64 byh) := by rw [hcl _ _ (by first | omega | (simp; done) | (simp; omega))]; simp [go_sem, *]
  have cw1_1_3 : w1.cell? ⟨w.heap.size + 1, 3, none⟩ = some (.int .u64 byl) := by rw [hcl _ _ (by first | omega | (simp; done) | (simp; omega))]; simp [go_sem, *]
  have zw1_2 : w.heap.size + 1 + 1 < w1.heap.size := by have hz := hb.size; (try simp at hz); omega
  have cw1_2_0 : w1.cell? ⟨w.heap.size + 1 + 1, 0, none⟩ = some (.int .i64 0) := by rw [hcl _ _ (by first | omega | (simp; done) | (simp; omega))]; simp [go_sem, *]
  have cw1_2_1 : w1.cell? ⟨w.heap.size + 1 + 1, 1, none⟩ = some (.int .u64 0) := by rw [hcl _ _ (by first | omega | (simp; done) | (simp; omega))]; simp [go_sem, *]
  have cw1_2_2 : w1.cell? ⟨w.heap.size + 1 + 1, 2, none⟩ = some (.int .i64 0) := by rw [hcl _ _ (by first | omega | (simp; done) | (simp; omega))]; simp [go_sem, *]
  have cw1_2_3 : w1.cell? ⟨w.heap.size + 1 + 1, 3, none⟩ = some (.int .u64 0) := by rw [hcl _ _ (by first | omega | (simp; done) | (simp; omega))]; simp [go_sem, *]
  have fw1_2 : ∀ j, w1.frozen? ⟨w.heap.size + 1 + 1, j, none⟩ = false := fun j => by rw [hfr _ _ (by first | omega | (simp; done) | (simp; omega))]; first | (simp [go_sem, *]; done) | (simp only [frozen?_alloc_cells]; simp [World.frozen?, *]; done) | (simp [frozen?_alloc_cells, World.frozen?, *]; done)
  have HBw1 : Hid (Below w.heap.size w w1) := bl_trans (by repeat (first | with_reducible exact Below.refl _ _ | with_reducible exact Hid.out (by assumption) | with_reducible refine Below.setCell ?_ (by first | (simp; done) | omega | (simp <;> omega)) _ | with_reducible refine bl_al ?_ _ | with_reducible apply Below.drew)) hb
  clear hb hcl hfr
  go_wp2_with fail
  (with_reducible refine (K2.out _).mono ?_); rintro e w2 ⟨rfl, hb⟩
  obtain ⟨hcl, hfr⟩ := bcell hb
  have zw2_0 : w.heap.size + 1 + 1 < w2.heap.size := by have hz := hb.size; (try simp at hz); omega
  have cw2_0_0 : w2.cell? ⟨w.heap.size + 1 + 1, 0, none⟩ = some (.int .i64 0) := by rw [hcl _ _ (by first | omega | (simp; done) | (simp; omega))]; simp [go_sem, *]
  have cw2_0_1 : w2.cell? ⟨w.heap.size + 1 + 1, 1, none⟩ = some (.int .u64 0) := by rw [hcl _ _ (by first | omega | (simp; done) | (simp; omega))]; simp [go_sem, *]
  have cw2_0_2 : w2.cell? ⟨w.heap.size + 1 + 1, 2, none⟩ = some (.int .i64 0) := by rw [hcl _ _ (by first | omega | (simp; done) | (simp; omega))]; simp [go_sem, *]
  have cw2_0_3 : w2.cell? ⟨w.heap.size + 1 + 1, 3, none⟩ = some (.int .u64 0) := by rw [hcl _ _ (by first | omega | (simp; done) | (simp; omega))]; simp [go_sem, *]
  have fw2_0 : ∀ j, w2.frozen? ⟨w.heap.size + 1 + 1, j, none⟩ = false := fun j => by rw [hfr _ _ (by first | omega | (simp; done) | (simp; omega))]; first | (simp [go_sem, *]; done) | (simp only [frozen?_alloc_cells]; simp [World.frozen?, *]; done) | (simp [frozen?_alloc_cells, World.frozen?, *]; done)
  have HBw2 : Hid (Below w.heap.size w w2) := bl_trans (by repeat (first | with_reducible exact Below.refl _ _ | with_reducible exact Hid.out (by assumption) | with_reducible refine Below.setCell ?_ (by first | (simp; done) | omega | (simp <;> omega)) _ | with_reducible refine bl_al ?_ _ | with_reducible apply Below.drew)) hb
  clear hb hcl hfr
  go_wp2_with fail
  refine bodyPost_ret (by simp [results, Try.results55, go_sem, *]; try rfl) rfl ?_
  exact ⟨rfl, by repeat (first | with_reducible exact Below.refl _ _ | with_reducible exact Hid.out (by assumption) | with_reducible refine Below.setCell ?_ (by first | (simp; done) | omega | (simp <;> omega)) _ | with_reducible refine bl_al ?_ _ | with_reducible apply Below.drew)⟩
set_option maxRecDepth 20000 in
set_option maxHeartbeats 8000000 in
theorem eachMul_ok (axh axl ayh ayl bxh bxl byh byl rh rl sh sl ex ey : Int) (hx : ex = 0) (he : ey = 0) (w : World)
    (C1 : ∀ W, Calls Try.prog 58 #[.agg #[.int .i64 axh, .int .u64 axl], .agg #[.int .i64 bxh, .int .u64 bxl]] W fun e w' => e = .returned (.tuple #[.agg #[.int .i64 rh, .int .u64 rl], .int .i64 ex]) ∧ Below W.heap.size W w')
    (C2 : ∀ W, Calls Try.prog 58 #[.agg #[.int .i64 ayh, .int .u64 ayl], .agg #[.int .i64 byh, .int .u64 byl]] W fun e w' => e = .returned (.tuple #[.agg #[.int .i64 sh, .int .u64 sl], .int .i64 ey]) ∧ Below W.heap.size W w') :
    Calls Try.prog 55 #[.func (.func 58) #[] #[], .agg #[.int .i64 axh, .int .u64 axl, .int .i64 ayh, .int .u64 ayl], .agg #[.int .i64 bxh, .int .u64 bxl, .int .i64 byh, .int .u64 byl]] w fun e w' => e = .returned (.tuple #[.agg #[.int .i64 rh, .int .u64 rl, .int .i64 sh, .int .u64 sl], .int .i64 0]) ∧ Below w.heap.size w w' := by
  subst hx; subst he
  have K1 := Lib.hid C1; have K2 := Lib.hid C2
  clear C1 C2
  go_enter Try.func55, Try.ntmps55
  go_wp2_with fail
  (with_reducible refine (K1.out _).mono ?_); rintro e w1 ⟨rfl, hb⟩
  obtain ⟨hcl, hfr⟩ := bcell hb
  have zw1_0 : w.heap.size < w1.heap.size := by have hz := hb.size; (try simp at hz); omega
  have cw1_0_0 : w1.cell? ⟨w.heap.size, 0, none⟩ = some (.int .i64 axh) := by rw [hcl _ _ (by first | omega | (simp; done) | (simp; omega))]; simp [go_sem, *]
  have cw1_0_1 : w1.cell? ⟨w.heap.size, 1, none⟩ = some (.int .u64 axl) := by rw [hcl _ _ (by first | omega | (simp; done) | (simp; omega))]; simp [go_sem, *]
  have cw1_0_2 : w1.cell? ⟨w.heap.size, 2, none⟩ = some (.int .i64 ayh) := by rw [hcl _ _ (by first | omega | (simp; done) | (simp; omega))]; simp [go_sem, *]
  have cw1_0_3 : w1.cell? ⟨w.heap.size, 3, none⟩ = some (.int .u64 ayl) := by rw [hcl _ _ (by first | omega | (simp; done) | (simp; omega))]; simp [go_sem, *]
  have zw1_1 : w.heap.size + 1 < w1.heap.size := by have hz := hb.size; (try simp at hz); omega
  have cw1_1_0 : w1.cell? ⟨w.heap.size + 1, 0, none⟩ = some (.int .i64 bxh) := by rw [hcl _ _ (by first | omega | (simp; done) | (simp; omega))]; simp [go_sem, *]
  have cw1_1_1 : w1.cell? ⟨w.heap.size + 1, 1, none⟩ = some (.int .u64 bxl) := by rw [hcl _ _ (by first | omega | (simp; done) | (simp; omega))]; simp [go_sem, *]
  have cw1_1_2 : w1.cell? ⟨w.heap.size + 1, 2, none⟩ = some (.int .i64 byh) := by rw [hcl _ _ (by first | omega | (simp; done) | (simp; omega))]; simp [go_sem, *]
  have cw1_1_3 : w1.cell? ⟨w.heap.size + 1, 3, none⟩ = some (.int .u64 byl) := by rw [hcl _ _ (by first | omega | (simp; done) | (simp; omega))]; simp [go_sem, *]
  have zw1_2 : w.heap.size + 1 + 1 < w1.heap.size := by have hz := hb.size; (try simp at hz); omega
  have cw1_2_0 : w1.cell? ⟨w.heap.size + 1 + 1, 0, none⟩ = some (.int .i64 0) := by rw [hcl _ _ (by first | omega | (simp; done) | (simp; omega))]; simp [go_sem, *]
  have cw1_2_1 : w1.cell? ⟨w.heap.size + 1 + 1, 1, none⟩ = some (.int .u64 0) := by rw [hcl _ _ (by first | omega | (simp; done) | (simp; omega))]; simp [go_sem, *]
  have cw1_2_2 : w1.cell? ⟨w.heap.size + 1 + 1, 2, none⟩ = some (.int .i64 0) := by rw [hcl _ _ (by first | omega | (simp; done) | (simp; omega))]; simp [go_sem, *]
  have cw1_2_3 : w1.cell? ⟨w.heap.size + 1 + 1, 3, none⟩ = some (.int .u64 0) := by rw [hcl _ _ (by first | omega | (simp; done) | (simp; omega))]; simp [go_sem, *]
  have fw1_2 : ∀ j, w1.frozen? ⟨w.heap.size + 1 + 1, j, none⟩ = false := fun j => by rw [hfr _ _ (by first | omega | (simp; done) | (simp; omega))]; first | (simp [go_sem, *]; done) | (simp only [frozen?_alloc_cells]; simp [World.frozen?, *]; done) | (simp [frozen?_alloc_cells, World.frozen?, *]; done)
  have HBw1 : Hid (Below w.heap.size w w1) := bl_trans (by repeat (first | with_reducible exact Below.refl _ _ | with_reducible exact Hid.out (by assumption) | with_reducible refine Below.setCell ?_ (by first | (simp; done) | omega | (simp <;> omega)) _ | with_reducible refine bl_al ?_ _ | with_reducible apply Below.drew)) hb
  clear hb hcl hfr
  go_wp2_with fail
  (with_reducible refine (K2.out _).mono ?_); rintro e w2 ⟨rfl, hb⟩
  obtain ⟨hcl, hfr⟩ := bcell hb
  have zw2_0 : w.heap.size + 1 + 1 < w2.heap.size := by have hz := hb.size; (try simp at hz); omega
  have cw2_0_0 : w2.cell? ⟨w.heap.size + 1 + 1, 0, none⟩ = some (.int .i64 0) := by rw [hcl _ _ (by first | omega | (simp; done) | (simp; omega))]; simp [go_sem, *]
  have cw2_0_1 : w2.cell? ⟨w.heap.size + 1 + 1, 1, none⟩ = some (.int .u64 0) := by rw [hcl _ _ (by first | omega | (simp; done) | (simp; omega))]; simp [go_sem, *]
  have cw2_0_2 : w2.cell? ⟨w.heap.size + 1 + 1, 2, none⟩ = some (.int .i64 0) := by rw [hcl _ _ (by first | omega | (simp; done) | (simp; omega))]; simp [go_sem, *]
  have cw2_0_3 : w2.cell? ⟨w.heap.size + 1 + 1, 3, none⟩ = some (.int .u64 0) := by rw [hcl _ _ (by first | omega | (simp; done) | (simp; omega))]; simp [go_sem, *]
  have fw2_0 : ∀ j, w2.frozen? ⟨w.heap.size + 1 + 1, j, none⟩ = false := fun j => by rw [hfr _ _ (by first | omega | (simp; done) | (simp; omega))]; first | (simp [go_sem, *]; done) | (simp only [frozen?_alloc_cells]; simp [World.frozen?, *]; done) | (simp [frozen?_alloc_cells, World.frozen?, *]; done)
  have zw2_1 : w1.heap.size < w2.heap.size := by have hz := hb.size; (try simp at hz); omega
  have cw2_1_0 : w2.cell? ⟨w1.heap.size, 0, none⟩ = some (.int .i64 rh) := by rw [hcl _ _ (by first | omega | (simp; done) | (simp; omega))]; simp [go_sem, *]
  have cw2_1_1 : w2.cell? ⟨w1.heap.size, 1, none⟩ = some (.int .u64 rl) := by rw [hcl _ _ (by first | omega | (simp; done) | (simp; omega))]; simp [go_sem, *]
  have HBw2 : Hid (Below w.heap.size w w2) := bl_trans (by repeat (first | with_reducible exact Below.refl _ _ | with_reducible exact Hid.out (by assumption) | with_reducible refine Below.setCell ?_ (by first | (simp; done) | omega | (simp <;> omega)) _ | with_reducible refine bl_al ?_ _ | with_reducible apply Below.drew)) hb
  clear hb hcl hfr
  go_wp2_with fail
  refine bodyPost_ret (by simp [results, Try.results55, go_sem, *]; try rfl) rfl ?_
  exact ⟨rfl, by repeat (first | with_reducible exact Below.refl _ _ | with_reducible exact Hid.out (by assumption) | with_reducible refine Below.setCell ?_ (by first | (simp; done) | omega | (simp <;> omega)) _ | with_reducible refine bl_al ?_ _ | with_reducible apply Below.drew)⟩
end Go.Proofs.Ytgiamnehncbihaa
namespace Go.Proofs.Ytgiamnehncbihaa
open Go.RowKit
open Go.ChangeMaps (setBlock)
set_option maxRecDepth 20000 in
set_option maxHeartbeats 8000000 in
theorem vneg_core (axh axl ayh ayl rh rl sh sl : Int) (w : World)
    (C1 : ∀ W, Calls Try.prog 46 #[.agg #[.int .i64 axh, .int .u64 axl]] W fun e w' => e = .returned (.agg #[.int .i64 rh, .int .u64 rl]) ∧ Below W.heap.size W w')
    (C2 : ∀ W, Calls Try.prog 46 #[.agg #[.int .i64 ayh, .int .u64 ayl]] W fun e w' => e = .returned (.agg #[.int .i64 sh, .int .u64 sl]) ∧ Below W.heap.size W w') :
    Calls Try.prog 28 #[.agg #[.int .i64 axh, .int .u64 axl, .int .i64 ayh, .int .u64 ayl]] w fun e w' => e = .returned (.agg #[.int .i64 rh, .int .u64 rl, .int .i64 sh, .int .u64 sl]) ∧ Below w.heap.size w w' := by
  have K1 := Lib.hid C1; have K2 := Lib.hid C2
  clear C1 C2
  go_enter Try.func28, Try.ntmps28
  go_upto_region 1 with fail
  refine name_world (P := fun W => Code.wp _ _ _ _ W) _ (fun R hR => ?_)
  have zR_0 : w.heap.size < R.heap.size := by rw [hR]; first | omega | (simp; done) | (simp; omega)
  have cR_0_0 : R.cell? ⟨w.heap.size, 0, none⟩ = some (.int .i64 axh) := by rw [hR]; simp [go_sem, *]
  have cR_0_1 : R.cell? ⟨w.heap.size, 1, none⟩ = some (.int .u64 axl) := by rw [hR]; simp [go_sem, *]
  have cR_0_2 : R.cell? ⟨w.heap.size, 2, none⟩ = some (.int .i64 ayh) := by rw [hR]; simp [go_sem, *]
  have cR_0_3 : R.cell? ⟨w.heap.size, 3, none⟩ = some (.int .u64 ayl) := by rw [hR]; simp [go_sem, *]
  have zR_1 : w.heap.size + 1 < R.heap.size := by rw [hR]; first | omega | (simp; done) | (simp; omega)
  have cR_1_0 : R.cell? ⟨w.heap.size + 1, 0, none⟩ = some (.int .i64 0) := by rw [hR]; simp [go_sem, *]
  have cR_1_1 : R.cell? ⟨w.heap.size + 1, 1, none⟩ = some (.int .u64 0) := by rw [hR]; simp [go_sem, *]
  have cR_1_2 : R.cell? ⟨w.heap.size + 1, 2, none⟩ = some (.int .i64 0) := by rw [hR]; simp [go_sem, *]
  have cR_1_3 : R.cell? ⟨w.heap.size + 1, 3, none⟩ = some (.int .u64 0) := by rw [hR]; simp [go_sem, *]
  have fR_1 : ∀ j, R.frozen? ⟨w.heap.size + 1, j, none⟩ = false := fun j => by rw [hR]; first | (simp [go_sem, *]; done) | (simp only [frozen?_alloc_cells]; simp [World.frozen?, *]; done) | (simp [frozen?_alloc_cells, World.frozen?, *]; done)
  have HBR : Hid (Below w.heap.size w R) := by rw [hR]; show Below _ _ _; exact (by repeat (first | with_reducible exact Below.refl _ _ | with_reducible exact Hid.out (by assumption) | with_reducible refine Below.setCell ?_ (by first | (simp; done) | omega | (simp <;> omega)) _ | with_reducible refine bl_al ?_ _ | with_reducible apply Below.drew))
  clear hR
  go_region_held3 (fun w' => w'.cell? ⟨w.heap.size, 0, none⟩ = some (.int .i64 axh) ∧ w'.cell? ⟨w.heap.size, 1, none⟩ = some (.int .u64 axl) ∧ w'.cell? ⟨w.heap.size, 2, none⟩ = some (.int .i64 ayh) ∧ w'.cell? ⟨w.heap.size, 3, none⟩ = some (.int .u64 ayl)) (first | (simp [*, go_sem]; done))
    (first
      | (go_at_call 46; (with_reducible refine (K1.out _).mono ?_); rintro e w1 ⟨rfl, hb⟩; obtain ⟨hclw1, hfrw1⟩ := bcell_drew hb; have zw1_0 : w.heap.size < w1.heap.size := (by have hz := hb.size; (try simp at hz); omega); have zw1_1 : w.heap.size + 1 < w1.heap.size := (by have hz := hb.size; (try simp at hz); omega); have HBw1 : Hid (Below w.heap.size w w1) := (bl_trans (by repeat (first | with_reducible exact Below.refl _ _ | with_reducible exact Hid.out (by assumption) | with_reducible refine Below.setCell ?_ (by first | (simp; done) | omega | (simp <;> omega)) _ | with_reducible refine bl_al ?_ _ | with_reducible apply Below.drew)) hb); clear hb)
      | (go_at_call 46; (with_reducible refine (K2.out _).mono ?_); rintro e w2 ⟨rfl, hb⟩; obtain ⟨hclw2, hfrw2⟩ := bcell hb; have zw2_0 : w.heap.size < w2.heap.size := (by have hz := hb.size; (try simp at hz); omega); have zw2_1 : w.heap.size + 1 < w2.heap.size := (by have hz := hb.size; (try simp at hz); omega); have HBw2 : Hid (Below w.heap.size w w2) := (bl_trans (by repeat (first | with_reducible exact Below.refl _ _ | with_reducible exact Hid.out (by assumption) | with_reducible refine Below.setCell ?_ (by first | (simp; done) | omega | (simp <;> omega)) _ | with_reducible refine bl_al ?_ _ | with_reducible apply Below.drew)) hb); clear hb))
  rename_i hHeld
  clear hHeld
  go_wp2_with fail
  refine bodyPost_ret (by simp [results, Try.results28, go_sem, *]; try rfl) rfl ?_
  exact ⟨rfl, by repeat (first | with_reducible exact Below.refl _ _ | with_reducible exact Hid.out (by assumption) | with_reducible refine Below.setCell ?_ (by first | (simp; done) | omega | (simp <;> omega)) _ | with_reducible refine bl_al ?_ _ | with_reducible apply Below.drew)⟩
set_option maxRecDepth 20000 in
set_option maxHeartbeats 8000000 in
theorem vadd_core (axh axl ayh ayl bxh bxl byh byl rh rl sh sl ee : Int) (w : World)
    (C1 : ∀ W, Calls Try.prog 55 #[.func (.func 56) #[] #[], .agg #[.int .i64 axh, .int .u64 axl, .int .i64 ayh, .int .u64 ayl], .agg #[.int .i64 bxh, .int .u64 bxl, .int .i64 byh, .int .u64 byl]] W fun e w' => e = .returned (.tuple #[.agg #[.int .i64 rh, .int .u64 rl, .int .i64 sh, .int .u64 sl], .int .i64 ee]) ∧ Below W.heap.size W w') :
    Calls Try.prog 22 #[.agg #[.int .i64 axh, .int .u64 axl, .int .i64 ayh, .int .u64 ayl], .agg #[.int .i64 bxh, .int .u64 bxl, .int .i64 byh, .int .u64 byl]] w fun e w' => e = .returned (.tuple #[.agg #[.int .i64 rh, .int .u64 rl, .int .i64 sh, .int .u64 sl], .int .i64 ee]) ∧ Below w.heap.size w w' := by
  have K1 := Lib.hid C1
  clear C1
  go_enter Try.func22, Try.ntmps22
  go_wp2_with fail
  (with_reducible refine (K1.out _).mono ?_); rintro e w1 ⟨rfl, hb⟩
  obtain ⟨hcl, hfr⟩ := bcell hb
  have zw1_0 : w.heap.size + 1 + 1 < w1.heap.size := by have hz := hb.size; (try simp at hz); omega
  have cw1_0_0 : w1.cell? ⟨w.heap.size + 1 + 1, 0, none⟩ = some (.int .i64 0) := by rw [hcl _ _ (by first | omega | (simp; done) | (simp; omega))]; simp [go_sem, *]
  have cw1_0_1 : w1.cell? ⟨w.heap.size + 1 + 1, 1, none⟩ = some (.int .u64 0) := by rw [hcl _ _ (by first | omega | (simp; done) | (simp; omega))]; simp [go_sem, *]
  have cw1_0_2 : w1.cell? ⟨w.heap.size + 1 + 1, 2, none⟩ = some (.int .i64 0) := by rw [hcl _ _ (by first | omega | (simp; done) | (simp; omega))]; simp [go_sem, *]
  have cw1_0_3 : w1.cell? ⟨w.heap.size + 1 + 1, 3, none⟩ = some (.int .u64 0) := by rw [hcl _ _ (by first | omega | (simp; done) | (simp; omega))]; simp [go_sem, *]
  have fw1_0 : ∀ j, w1.frozen? ⟨w.heap.size + 1 + 1, j, none⟩ = false := fun j => by rw [hfr _ _ (by first | omega | (simp; done) | (simp; omega))]; first | (simp [go_sem, *]; done) | (simp only [frozen?_alloc_cells]; simp [World.frozen?, *]; done) | (simp [frozen?_alloc_cells, World.frozen?, *]; done)
  have HBw1 : Hid (Below w.heap.size w w1) := bl_trans (by repeat (first | with_reducible exact Below.refl _ _ | with_reducible exact Hid.out (by assumption) | with_reducible refine Below.setCell ?_ (by first | (simp; done) | omega | (simp <;> omega)) _ | with_reducible refine bl_al ?_ _ | with_reducible apply Below.drew)) hb
  clear hb hcl hfr
  go_wp2_with fail
  refine bodyPost_ret (by simp [results, Try.results22, go_sem, *]; try rfl) rfl ?_
  exact ⟨rfl, by repeat (first | with_reducible exact Below.refl _ _ | with_reducible exact Hid.out (by assumption) | with_reducible refine Below.setCell ?_ (by first | (simp; done) | omega | (simp <;> omega)) _ | with_reducible refine bl_al ?_ _ | with_reducible apply Below.drew)⟩
set_option maxRecDepth 20000 in
set_option maxHeartbeats 8000000 in
theorem vsub_core (axh axl ayh ayl bxh bxl byh byl rh rl sh sl ee : Int) (w : World)
    (C1 : ∀ W, Calls Try.prog 55 #[.func (.func 57) #[] #[], .agg #[.int .i64 axh, .int .u64 axl, .int .i64 ayh, .int .u64 ayl], .agg #[.int .i64 bxh, .int .u64 bxl, .int .i64 byh, .int .u64 byl]] W fun e w' => e = .returned (.tuple #[.agg #[.int .i64 rh, .int .u64 rl, .int .i64 sh, .int .u64 sl], .int .i64 ee]) ∧ Below W.heap.size W w') :
    Calls Try.prog 23 #[.agg #[.int .i64 axh, .int .u64 axl, .int .i64 ayh, .int .u64 ayl], .agg #[.int .i64 bxh, .int .u64 bxl, .int .i64 byh, .int .u64 byl]] w fun e w' => e = .returned (.tuple #[.agg #[.int .i64 rh, .int .u64 rl, .int .i64 sh, .int .u64 sl], .int .i64 ee]) ∧ Below w.heap.size w w' := by
  have K1 := Lib.hid C1
  clear C1
  go_enter Try.func23, Try.ntmps23
  go_wp2_with fail
  (with_reducible refine (K1.out _).mono ?_); rintro e w1 ⟨rfl, hb⟩
  obtain ⟨hcl, hfr⟩ := bcell hb
  have zw1_0 : w.heap.size + 1 + 1 < w1.heap.size := by have hz := hb.size; (try simp at hz); omega
  have cw1_0_0 : w1.cell? ⟨w.heap.size + 1 + 1, 0, none⟩ = some (.int .i64 0) := by rw [hcl _ _ (by first | omega | (simp; done) | (simp; omega))]; simp [go_sem, *]
  have cw1_0_1 : w1.cell? ⟨w.heap.size + 1 + 1, 1, none⟩ = some (.int .u64 0) := by rw [hcl _ _ (by first | omega | (simp; done) | (simp; omega))]; simp [go_sem, *]
  have cw1_0_2 : w1.cell? ⟨w.heap.size + 1 + 1, 2, none⟩ = some (.int .i64 0) := by rw [hcl _ _ (by first | omega | (simp; done) | (simp; omega))]; simp [go_sem, *]
  have cw1_0_3 : w1.cell? ⟨w.heap.size + 1 + 1, 3, none⟩ = some (.int .u64 0) := by rw [hcl _ _ (by first | omega | (simp; done) | (simp; omega))]; simp [go_sem, *]
  have fw1_0 : ∀ j, w1.frozen? ⟨w.heap.size + 1 + 1, j, none⟩ = false := fun j => by rw [hfr _ _ (by first | omega | (simp; done) | (simp; omega))]; first | (simp [go_sem, *]; done) | (simp only [frozen?_alloc_cells]; simp [World.frozen?, *]; done) | (simp [frozen?_alloc_cells, World.frozen?, *]; done)
  have HBw1 : Hid (Below w.heap.size w w1) := bl_trans (by repeat (first | with_reducible exact Below.refl _ _ | with_reducible exact Hid.out (by assumption) | with_reducible refine Below.setCell ?_ (by first | (simp; done) | omega | (simp <;> omega)) _ | with_reducible refine bl_al ?_ _ | with_reducible apply Below.drew)) hb
  clear hb hcl hfr
  go_wp2_with fail
  refine bodyPost_ret (by simp [results, Try.results23, go_sem, *]; try rfl) rfl ?_
  exact ⟨rfl, by repeat (first | with_reducible exact Below.refl _ _ | with_reducible exact Hid.out (by assumption) | with_reducible refine Below.setCell ?_ (by first | (simp; done) | omega | (simp <;> omega)) _ | with_reducible refine bl_al ?_ _ | with_reducible apply Below.drew)⟩
set_option maxRecDepth 20000 in
set_option maxHeartbeats 8000000 in
theorem vscale_core (axh axl ayh ayl kh kl rh rl sh sl ee : Int) (w : World)
    (C1 : ∀ W, Calls Try.prog 55 #[.func (.func 58) #[] #[], .agg #[.int .i64 axh, .int .u64 axl, .int .i64 ayh, .int .u64 ayl], .agg #[.int .i64 kh, .int .u64 kl, .int .i64 kh, .int .u64 kl]] W fun e w' => e = .returned (.tuple #[.agg #[.int .i64 rh, .int .u64 rl, .int .i64 sh, .int .u64 sl], .int .i64 ee]) ∧ Below W.heap.size W w') :
    Calls Try.prog 24 #[.agg #[.int .i64 axh, .int .u64 axl, .int .i64 ayh, .int .u64 ayl], .agg #[.int .i64 kh, .int .u64 kl]] w fun e w' => e = .returned (.tuple #[.agg #[.int .i64 rh, .int .u64 rl, .int .i64 sh, .int .u64 sl], .int .i64 ee]) ∧ Below w.heap.size w w' := by
  have K1 := Lib.hid C1
  clear C1
  go_enter Try.func24, Try.ntmps24
  go_wp2_with fail
  (with_reducible refine (K1.out _).mono ?_); rintro e w1 ⟨rfl, hb⟩
  obtain ⟨hcl, hfr⟩ := bcell hb
  have zw1_0 : w.heap.size + 1 + 1 < w1.heap.size := by have hz := hb.size; (try simp at hz); omega
  have cw1_0_0 : w1.cell? ⟨w.heap.size + 1 + 1, 0, none⟩ = some (.int .i64 0) := by rw [hcl _ _ (by first | omega | (simp; done) | (simp; omega))]; simp [go_sem, *]
  have cw1_0_1 : w1.cell? ⟨w.heap.size + 1 + 1, 1, none⟩ = some (.int .u64 0) := by rw [hcl _ _ (by first | omega | (simp; done) | (simp; omega))]; simp [go_sem, *]
  have cw1_0_2 : w1.cell? ⟨w.heap.size + 1 + 1, 2, none⟩ = some (.int .i64 0) := by rw [hcl _ _ (by first | omega | (simp; done) | (simp; omega))]; simp [go_sem, *]
  have cw1_0_3 : w1.cell? ⟨w.heap.size + 1 + 1, 3, none⟩ = some (.int .u64 0) := by rw [hcl _ _ (by first | omega | (simp; done) | (simp; omega))]; simp [go_sem, *]
  have fw1_0 : ∀ j, w1.frozen? ⟨w.heap.size + 1 + 1, j, none⟩ = false := fun j => by rw [hfr _ _ (by first | omega | (simp; done) | (simp; omega))]; first | (simp [go_sem, *]; done) | (simp only [frozen?_alloc_cells]; simp [World.frozen?, *]; done) | (simp [frozen?_alloc_cells, World.frozen?, *]; done)
  have HBw1 : Hid (Below w.heap.size w w1) := bl_trans (by repeat (first | with_reducible exact Below.refl _ _ | with_reducible exact Hid.out (by assumption) | with_reducible refine Below.setCell ?_ (by first | (simp; done) | omega | (simp <;> omega)) _ | with_reducible refine bl_al ?_ _ | with_reducible apply Below.drew)) hb
  clear hb hcl hfr
  go_wp2_with fail
  refine bodyPost_ret (by simp [results, Try.results24, go_sem, *]; try rfl) rfl ?_
  exact ⟨rfl, by repeat (first | with_reducible exact Below.refl _ _ | with_reducible exact Hid.out (by assumption) | with_reducible refine Below.setCell ?_ (by first | (simp; done) | omega | (simp <;> omega)) _ | with_reducible refine bl_al ?_ _ | with_reducible apply Below.drew)⟩
section
variable {W : World} {B b : Nat}
theorem heap_al {v : Obj} (h : W.heap[B]? = some v) (o : Obj) : (W.alloc o).heap[B]? = some v := by
  have hlt : B < W.heap.size := (Array.getElem?_eq_some_iff.1 h).1
  rw [(MapKept.heap_alloc W o).2 B hlt]
  exact h
theorem cell_put (o : Obj) (j : Nat) (h : b ≠ B) : (setBlock W B o).cell? ⟨b, j, none⟩ = W.cell? ⟨b, j, none⟩ := World.cell?_of_block (by
  show (W.heap.setIfInBounds B o)[b]? = W.heap[b]?
  rw [Array.getElem?_setIfInBounds_ne (Ne.symm h)])
theorem frozen_put (o : Obj) (j : Nat) (h : b ≠ B) : (setBlock W B o).frozen? ⟨b, j, none⟩ = W.frozen? ⟨b, j, none⟩ := World.frozen?_of_block (by
  show (W.heap.setIfInBounds B o)[b]? = W.heap[b]?
  rw [Array.getElem?_setIfInBounds_ne (Ne.symm h)])
theorem set_heap (x : Value) (A j : Nat) (h : A ≠ B) : (W.setCell ⟨A, j, none⟩ x).heap[B]? = W.heap[B]? := Below.heap_setCell _ _ _ _ (fun e => h (by simpa using e.symm))
theorem grown_below {W' : World} (g : Below W.heap.size W W') : W.grownBy W' (some B) := ⟨g.os, g.tape, g.output, g.size, fun k hk _ => g.block k hk⟩
theorem grown_put {W' : World} (g : W.grownBy W' (some B)) (o : Obj) : W.grownBy (setBlock W' B o) (some B) :=
  ⟨g.os, g.tape, g.output, by simpa [setBlock] using g.size, fun k hk hne => by
    show (W'.heap.setIfInBounds B o)[k]? = _
    rw [Array.getElem?_setIfInBounds_ne (fun e => hne (by rw [e]))]; exact g.block k hk hne⟩
theorem grown_cell {W' : World} (g : W.grownBy W' (some B)) (A j : Nat) (x : Value) (h : W.heap.size ≤ A) : W.grownBy (W'.setCell ⟨A, j, none⟩ x) (some B) :=
  ⟨g.os, g.tape, g.output, by simpa using g.size, fun k hk hne => (Below.heap_setCell _ _ _ _ (fun e => by simp at e; omega)).trans (g.block k hk hne)⟩
theorem grown_cells {W' : World} (g : W.grownBy W' (some B)) : (∀ b o, b < W.heap.size → b ≠ B → W'.cell? ⟨b, o, none⟩ = W.cell? ⟨b, o, none⟩) ∧ (∀ b o, b < W.heap.size → b ≠ B → W'.frozen? ⟨b, o, none⟩ = W.frozen? ⟨b, o, none⟩) :=
  ⟨fun b _ hb h => World.cell?_of_block (g.block b hb (fun e => h (Option.some.inj e))), fun b _ hb h => World.frozen?_of_block (g.block b hb (fun e => h (Option.some.inj e)))⟩
end
set_option maxRecDepth 20000 in
set_option maxHeartbeats 8000000 in
theorem span_hit (xh xl yh yl mh ml _ee : Int) (es _es2 : Array MapEntry) (B cl _cl2 : Nat) (w : World) (hb0 : w.heap[B]? = some (.map es cl)) 
    (look : ∀ W : World, W.heap[B]? = some (.map es cl) → (Instr.lookup 93 (.map (some B)) (.agg #[.int .i64 xh, .int .u64 xl, .int .i64 yh, .int .u64 yl]) true).run Try.prog W = .ok (.tuple #[.agg #[.int .i64 mh, .int .u64 ml], .bool true]) W) :
    Calls Try.prog 59 #[.map (some B), .agg #[.int .i64 xh, .int .u64 xl, .int .i64 yh, .int .u64 yl]] w fun e' w' => e' = .returned (.tuple #[.agg #[.int .i64 mh, .int .u64 ml], .int .i64 0]) ∧ w.grownBy w' (some B) := by
  have hB : B < w.heap.size := (Array.getElem?_eq_some_iff.1 hb0).1
  go_enter Try.func59, Try.ntmps59
  go_upto_region 1 with fail
  refine name_world (P := fun W => Code.wp _ _ _ _ W) _ (fun R hR => ?_)
  have zR_0 : w.heap.size < R.heap.size := by rw [hR]; first | omega | (simp; done) | (simp; omega)
  have cR_0_0 : R.cell? ⟨w.heap.size, 0, none⟩ = some (.int .i64 xh) := by rw [hR]; simp [go_sem, *]
  have cR_0_1 : R.cell? ⟨w.heap.size, 1, none⟩ = some (.int .u64 xl) := by rw [hR]; simp [go_sem, *]
  have cR_0_2 : R.cell? ⟨w.heap.size, 2, none⟩ = some (.int .i64 yh) := by rw [hR]; simp [go_sem, *]
  have cR_0_3 : R.cell? ⟨w.heap.size, 3, none⟩ = some (.int .u64 yl) := by rw [hR]; simp [go_sem, *]
  have zR_1 : w.heap.size + 1 < R.heap.size := by rw [hR]; first | omega | (simp; done) | (simp; omega)
  have cR_1_0 : R.cell? ⟨w.heap.size + 1, 0, none⟩ = some (.int .i64 0) := by rw [hR]; simp [go_sem, *]
  have cR_1_1 : R.cell? ⟨w.heap.size + 1, 1, none⟩ = some (.int .u64 0) := by rw [hR]; simp [go_sem, *]
  have fR_1 : ∀ j, R.frozen? ⟨w.heap.size + 1, j, none⟩ = false := fun j => by rw [hR]; first | (simp [go_sem, *]; done) | (simp only [frozen?_alloc_cells]; simp [World.frozen?, *]; done) | (simp [frozen?_alloc_cells, World.frozen?, *]; done)
  have HBR : Hid (Below w.heap.size w R) := by rw [hR]; show Below _ _ _; exact (by repeat (first | with_reducible exact Below.refl _ _ | with_reducible exact Hid.out (by assumption) | with_reducible refine Below.setCell ?_ (by first | (simp; done) | omega | (simp <;> omega)) _ | with_reducible refine bl_al ?_ _ | with_reducible apply Below.drew))
  clear hR
  have hlk := look R ((HBR.out.block B hB).trans hb0)
  clear look
  go_wp2_with fail
  refine bodyPost_ret (by simp [results, Try.results59, go_sem, *]; try rfl) rfl ?_
  exact ⟨rfl, grown_below (by repeat (first | with_reducible exact Below.refl _ _ | with_reducible exact Hid.out (by assumption) | with_reducible refine Below.setCell ?_ (by first | (simp; done) | omega | (simp <;> omega)) _ | with_reducible refine bl_al ?_ _ | with_reducible apply Below.drew))⟩
set_option maxRecDepth 20000 in
set_option maxHeartbeats 8000000 in
theorem span_err (xh xl yh yl mh ml ee : Int) (es _es2 : Array MapEntry) (B cl _cl2 : Nat) (w : World) (hb0 : w.heap[B]? = some (.map es cl)) (he : ¬ ee = 0)
    (look : ∀ W : World, W.heap[B]? = some (.map es cl) → (Instr.lookup 93 (.map (some B)) (.agg #[.int .i64 xh, .int .u64 xl, .int .i64 yh, .int .u64 yl]) true).run Try.prog W = .ok (.tuple #[.agg #[.int .i64 0, .int .u64 0], .bool false]) W)
    (C1 : ∀ W, Calls Try.prog 58 #[.agg #[.int .i64 xh, .int .u64 xl], .agg #[.int .i64 yh, .int .u64 yl]] W fun e w' => e = .returned (.tuple #[.agg #[.int .i64 mh, .int .u64 ml], .int .i64 ee]) ∧ Below W.heap.size W w') :
    Calls Try.prog 59 #[.map (some B), .agg #[.int .i64 xh, .int .u64 xl, .int .i64 yh, .int .u64 yl]] w fun e' w' => e' = .returned (.tuple #[.agg #[.int .i64 0, .int .u64 0], .int .i64 ee]) ∧ w.grownBy w' (some B) := by
  have K1 := Lib.hid C1
  clear C1
  have hB : B < w.heap.size := (Array.getElem?_eq_some_iff.1 hb0).1
  go_enter Try.func59, Try.ntmps59
  go_upto_region 1 with fail
  refine name_world (P := fun W => Code.wp _ _ _ _ W) _ (fun R hR => ?_)
  have zR_0 : w.heap.size < R.heap.size := by rw [hR]; first | omega | (simp; done) | (simp; omega)
  have cR_0_0 : R.cell? ⟨w.heap.size, 0, none⟩ = some (.int .i64 xh) := by rw [hR]; simp [go_sem, *]
  have cR_0_1 : R.cell? ⟨w.heap.size, 1, none⟩ = some (.int .u64 xl) := by rw [hR]; simp [go_sem, *]
  have cR_0_2 : R.cell? ⟨w.heap.size, 2, none⟩ = some (.int .i64 yh) := by rw [hR]; simp [go_sem, *]
  have cR_0_3 : R.cell? ⟨w.heap.size, 3, none⟩ = some (.int .u64 yl) := by rw [hR]; simp [go_sem, *]
  have zR_1 : w.heap.size + 1 < R.heap.size := by rw [hR]; first | omega | (simp; done) | (simp; omega)
  have cR_1_0 : R.cell? ⟨w.heap.size + 1, 0, none⟩ = some (.int .i64 0) := by rw [hR]; simp [go_sem, *]
  have cR_1_1 : R.cell? ⟨w.heap.size + 1, 1, none⟩ = some (.int .u64 0) := by rw [hR]; simp [go_sem, *]
  have fR_1 : ∀ j, R.frozen? ⟨w.heap.size + 1, j, none⟩ = false := fun j => by rw [hR]; first | (simp [go_sem, *]; done) | (simp only [frozen?_alloc_cells]; simp [World.frozen?, *]; done) | (simp [frozen?_alloc_cells, World.frozen?, *]; done)
  have HBR : Hid (Below w.heap.size w R) := by rw [hR]; show Below _ _ _; exact (by repeat (first | with_reducible exact Below.refl _ _ | with_reducible exact Hid.out (by assumption) | with_reducible refine Below.setCell ?_ (by first | (simp; done) | omega | (simp <;> omega)) _ | with_reducible refine bl_al ?_ _ | with_reducible apply Below.drew))
  clear hR
  have hlk := look R ((HBR.out.block B hB).trans hb0)
  clear look
  go_wp2_with fail
  (with_reducible refine (K1.out _).mono ?_); rintro e w1 ⟨rfl, hb⟩
  obtain ⟨hcl, hfr⟩ := bcell hb
  have zw1_0 : w.heap.size + 1 < w1.heap.size := by have hz := hb.size; (try simp at hz); omega
  have cw1_0_0 : w1.cell? ⟨w.heap.size + 1, 0, none⟩ = some (.int .i64 0) := by rw [hcl _ _ (by first | omega | (simp; done) | (simp; omega))]; simp [go_sem, *]
  have cw1_0_1 : w1.cell? ⟨w.heap.size + 1, 1, none⟩ = some (.int .u64 0) := by rw [hcl _ _ (by first | omega | (simp; done) | (simp; omega))]; simp [go_sem, *]
  have fw1_0 : ∀ j, w1.frozen? ⟨w.heap.size + 1, j, none⟩ = false := fun j => by rw [hfr _ _ (by first | omega | (simp; done) | (simp; omega))]; first | (simp [go_sem, *]; done) | (simp only [frozen?_alloc_cells]; simp [World.frozen?, *]; done) | (simp [frozen?_alloc_cells, World.frozen?, *]; done)
  have HBw1 : Hid (Below w.heap.size w w1) := bl_trans (by repeat (first | with_reducible exact Below.refl _ _ | with_reducible exact Hid.out (by assumption) | with_reducible refine Below.setCell ?_ (by first | (simp; done) | omega | (simp <;> omega)) _ | with_reducible refine bl_al ?_ _ | with_reducible apply Below.drew)) hb
  clear hb hcl hfr
  go_wp2_with fail
  refine bodyPost_ret (by simp [results, Try.results59, go_sem, *]; try rfl) rfl ?_
  exact ⟨rfl, grown_below (by repeat (first | with_reducible exact Below.refl _ _ | with_reducible exact Hid.out (by assumption) | with_reducible refine Below.setCell ?_ (by first | (simp; done) | omega | (simp <;> omega)) _ | with_reducible refine bl_al ?_ _ | with_reducible apply Below.drew))⟩
set_option maxRecDepth 20000 in
set_option maxHeartbeats 8000000 in
theorem span_miss (xh xl yh yl mh ml ee : Int) (es es2 : Array MapEntry) (B cl cl2 : Nat) (w : World) (hb0 : w.heap[B]? = some (.map es cl)) (he : ee = 0)
    (look : ∀ W : World, W.heap[B]? = some (.map es cl) → (Instr.lookup 93 (.map (some B)) (.agg #[.int .i64 xh, .int .u64 xl, .int .i64 yh, .int .u64 yl]) true).run Try.prog W = .ok (.tuple #[.agg #[.int .i64 0, .int .u64 0], .bool false]) W)
    (put : ∀ W : World, W.heap[B]? = some (.map es cl) → (Instr.mapUpdate 93 (.map (some B)) (.agg #[.int .i64 xh, .int .u64 xl, .int .i64 yh, .int .u64 yl]) (.agg #[.int .i64 mh, .int .u64 ml])).run Try.prog W = .ok () (setBlock W B (.map es2 cl2)))
    (C1 : ∀ W, Calls Try.prog 58 #[.agg #[.int .i64 xh, .int .u64 xl], .agg #[.int .i64 yh, .int .u64 yl]] W fun e w' => e = .returned (.tuple #[.agg #[.int .i64 mh, .int .u64 ml], .int .i64 ee]) ∧ Below W.heap.size W w') :
    Calls Try.prog 59 #[.map (some B), .agg #[.int .i64 xh, .int .u64 xl, .int .i64 yh, .int .u64 yl]] w fun e' w' => e' = .returned (.tuple #[.agg #[.int .i64 mh, .int .u64 ml], .int .i64 0]) ∧ w.grownBy w' (some B) ∧ w'.heap[B]? = some (.map es2 cl2) := by
  subst he
  have K1 := Lib.hid C1
  clear C1
  have hB : B < w.heap.size := (Array.getElem?_eq_some_iff.1 hb0).1
  go_enter Try.func59, Try.ntmps59
  go_upto_region 1 with fail
  refine name_world (P := fun W => Code.wp _ _ _ _ W) _ (fun R hR => ?_)
  have zR_0 : w.heap.size < R.heap.size := by rw [hR]; first | omega | (simp; done) | (simp; omega)
  have cR_0_0 : R.cell? ⟨w.heap.size, 0, none⟩ = some (.int .i64 xh) := by rw [hR]; simp [go_sem, *]
  have cR_0_1 : R.cell? ⟨w.heap.size, 1, none⟩ = some (.int .u64 xl) := by rw [hR]; simp [go_sem, *]
  have cR_0_2 : R.cell? ⟨w.heap.size, 2, none⟩ = some (.int .i64 yh) := by rw [hR]; simp [go_sem, *]
  have cR_0_3 : R.cell? ⟨w.heap.size, 3, none⟩ = some (.int .u64 yl) := by rw [hR]; simp [go_sem, *]
  have zR_1 : w.heap.size + 1 < R.heap.size := by rw [hR]; first | omega | (simp; done) | (simp; omega)
  have cR_1_0 : R.cell? ⟨w.heap.size + 1, 0, none⟩ = some (.int .i64 0) := by rw [hR]; simp [go_sem, *]
  have cR_1_1 : R.cell? ⟨w.heap.size + 1, 1, none⟩ = some (.int .u64 0) := by rw [hR]; simp [go_sem, *]
  have fR_1 : ∀ j, R.frozen? ⟨w.heap.size + 1, j, none⟩ = false := fun j => by rw [hR]; first | (simp [go_sem, *]; done) | (simp only [frozen?_alloc_cells]; simp [World.frozen?, *]; done) | (simp [frozen?_alloc_cells, World.frozen?, *]; done)
  have HBR : Hid (Below w.heap.size w R) := by rw [hR]; show Below _ _ _; exact (by repeat (first | with_reducible exact Below.refl _ _ | with_reducible exact Hid.out (by assumption) | with_reducible refine Below.setCell ?_ (by first | (simp; done) | omega | (simp <;> omega)) _ | with_reducible refine bl_al ?_ _ | with_reducible apply Below.drew))
  clear hR
  have hlk := look R ((HBR.out.block B hB).trans hb0)
  clear look
  go_wp2_with fail
  (with_reducible refine (K1.out _).mono ?_); rintro e w1 ⟨rfl, hb⟩
  obtain ⟨hcl, hfr⟩ := bcell hb
  have zw1_0 : w.heap.size < w1.heap.size := by have hz := hb.size; (try simp at hz); omega
  have cw1_0_0 : w1.cell? ⟨w.heap.size, 0, none⟩ = some (.int .i64 xh) := by rw [hcl _ _ (by first | omega | (simp; done) | (simp; omega))]; simp [go_sem, *]
  have cw1_0_1 : w1.cell? ⟨w.heap.size, 1, none⟩ = some (.int .u64 xl) := by rw [hcl _ _ (by first | omega | (simp; done) | (simp; omega))]; simp [go_sem, *]
  have cw1_0_2 : w1.cell? ⟨w.heap.size, 2, none⟩ = some (.int .i64 yh) := by rw [hcl _ _ (by first | omega | (simp; done) | (simp; omega))]; simp [go_sem, *]
  have cw1_0_3 : w1.cell? ⟨w.heap.size, 3, none⟩ = some (.int .u64 yl) := by rw [hcl _ _ (by first | omega | (simp; done) | (simp; omega))]; simp [go_sem, *]
  have zw1_1 : w.heap.size + 1 < w1.heap.size := by have hz := hb.size; (try simp at hz); omega
  have cw1_1_0 : w1.cell? ⟨w.heap.size + 1, 0, none⟩ = some (.int .i64 0) := by rw [hcl _ _ (by first | omega | (simp; done) | (simp; omega))]; simp [go_sem, *]
  have cw1_1_1 : w1.cell? ⟨w.heap.size + 1, 1, none⟩ = some (.int .u64 0) := by rw [hcl _ _ (by first | omega | (simp; done) | (simp; omega))]; simp [go_sem, *]
  have fw1_1 : ∀ j, w1.frozen? ⟨w.heap.size + 1, j, none⟩ = false := fun j => by rw [hfr _ _ (by first | omega | (simp; done) | (simp; omega))]; first | (simp [go_sem, *]; done) | (simp only [frozen?_alloc_cells]; simp [World.frozen?, *]; done) | (simp [frozen?_alloc_cells, World.frozen?, *]; done)
  have HBw1 : Hid (Below w.heap.size w w1) := bl_trans (by repeat (first | with_reducible exact Below.refl _ _ | with_reducible exact Hid.out (by assumption) | with_reducible refine Below.setCell ?_ (by first | (simp; done) | omega | (simp <;> omega)) _ | with_reducible refine bl_al ?_ _ | with_reducible apply Below.drew)) hb
  clear hb hcl hfr
  clear hlk
  go_upto_region 7 with fail
  refine name_world (P := fun W => Code.wp _ _ _ _ W) _ (fun S hS => ?_)
  have zS_0 : w.heap.size < S.heap.size := by rw [hS]; first | omega | (simp; done) | (simp; omega)
  have cS_0_0 : S.cell? ⟨w.heap.size, 0, none⟩ = some (.int .i64 xh) := by rw [hS]; simp [go_sem, *]
  have cS_0_1 : S.cell? ⟨w.heap.size, 1, none⟩ = some (.int .u64 xl) := by rw [hS]; simp [go_sem, *]
  have cS_0_2 : S.cell? ⟨w.heap.size, 2, none⟩ = some (.int .i64 yh) := by rw [hS]; simp [go_sem, *]
  have cS_0_3 : S.cell? ⟨w.heap.size, 3, none⟩ = some (.int .u64 yl) := by rw [hS]; simp [go_sem, *]
  have zS_1 : w.heap.size + 1 < S.heap.size := by rw [hS]; first | omega | (simp; done) | (simp; omega)
  have cS_1_0 : S.cell? ⟨w.heap.size + 1, 0, none⟩ = some (.int .i64 0) := by rw [hS]; simp [go_sem, *]
  have cS_1_1 : S.cell? ⟨w.heap.size + 1, 1, none⟩ = some (.int .u64 0) := by rw [hS]; simp [go_sem, *]
  have fS_1 : ∀ j, S.frozen? ⟨w.heap.size + 1, j, none⟩ = false := fun j => by rw [hS]; first | (simp [go_sem, *]; done) | (simp only [frozen?_alloc_cells]; simp [World.frozen?, *]; done) | (simp [frozen?_alloc_cells, World.frozen?, *]; done)
  have zS_2 : w1.heap.size < S.heap.size := by rw [hS]; first | omega | (simp; done) | (simp; omega)
  have cS_2_0 : S.cell? ⟨w1.heap.size, 0, none⟩ = some (.int .i64 mh) := by rw [hS]; simp [go_sem, *]
  have cS_2_1 : S.cell? ⟨w1.heap.size, 1, none⟩ = some (.int .u64 ml) := by rw [hS]; simp [go_sem, *]
  have HBS : Hid (Below w.heap.size w S) := by rw [hS]; show Below _ _ _; exact (by repeat (first | with_reducible exact Below.refl _ _ | with_reducible exact Hid.out (by assumption) | with_reducible refine Below.setCell ?_ (by first | (simp; done) | omega | (simp <;> omega)) _ | with_reducible refine bl_al ?_ _ | with_reducible apply Below.drew))
  clear hS
  have hSb : S.heap[B]? = some (.map es cl) := (HBS.out.block B hB).trans hb0
  have hpt := put S hSb
  clear put
  go_upto_region 8 with fail
  refine name_world (P := fun W => Code.wp _ _ _ _ W) _ (fun Y hY => ?_)
  have zv : w1.heap.size ≠ B := by omega
  have zr : w.heap.size + 1 ≠ B := by omega
  have v0 : Y.cell? ⟨w1.heap.size, 0, none⟩ = some (.int .i64 mh) := by rw [hY, cell_put _ _ zv]; exact cS_2_0
  have v1 : Y.cell? ⟨w1.heap.size, 1, none⟩ = some (.int .u64 ml) := by rw [hY, cell_put _ _ zv]; exact cS_2_1
  have r0 : Y.cell? ⟨w.heap.size + 1, 0, none⟩ = some (.int .i64 0) := by rw [hY, cell_put _ _ zr]; exact cS_1_0
  have r1 : Y.cell? ⟨w.heap.size + 1, 1, none⟩ = some (.int .u64 0) := by rw [hY, cell_put _ _ zr]; exact cS_1_1
  have fr : ∀ j, Y.frozen? ⟨w.heap.size + 1, j, none⟩ = false := fun j => by rw [hY, frozen_put _ _ zr]; exact fS_1 j
  have hYb : Y.heap[B]? = some (.map es2 cl2) := by rw [hY]; exact ChangeMaps.heap_setBlock_same hSb _
  have GY : Hid (w.grownBy Y (some B)) := by rw [hY]; exact grown_put (grown_below HBS.out) _
  clear hY hpt hSb
  go_wp2_with fail
  refine bodyPost_ret (by simp [results, Try.results59, go_sem, *]; try rfl) rfl ?_
  exact ⟨rfl, by repeat (first | with_reducible exact grown_below (Hid.out (by assumption)) | with_reducible exact Hid.out (by assumption) | with_reducible refine grown_cell ?_ _ _ _ (by first | (simp; done) | omega)), by rw [set_heap _ _ _ zr, set_heap _ _ _ zr]; exact hYb⟩
end Go.Proofs.Ytgiamnehncbihaa
namespace Go.Proofs.Ytgiamnehncbihaa
open Go.RowKit
open Go.ChangeMaps (setBlock)
set_option maxRecDepth 20000 in
set_option maxHeartbeats 8000000 in
theorem dot_x (axh axl ayh ayl bxh bxl byh byl mh ml _nh _nl _sh _sl e1 _e2 _e3 : Int) (he : ¬ e1 = 0) (w : World)
    (S1 : ∀ (W : World) (B : Nat), W.heap[B]? = some (.map #[] 0) → Calls Try.prog 59 #[.map (some B), .agg #[.int .i64 axh, .int .u64 axl, .int .i64 bxh, .int .u64 bxl]] W fun e' w' => e' = .returned (.tuple #[.agg #[.int .i64 mh, .int .u64 ml], .int .i64 e1]) ∧ W.grownBy w' (some B) ∧ (e1 = 0 → w'.heap[B]? = some (.map #[⟨.agg #[.int .i64 axh, .int .u64 axl, .int .i64 bxh, .int .u64 bxl], .agg #[.int .i64 mh, .int .u64 ml], 0⟩] 1))) :
    Calls Try.prog 25 #[.agg #[.int .i64 axh, .int .u64 axl, .int .i64 ayh, .int .u64 ayl], .agg #[.int .i64 bxh, .int .u64 bxl, .int .i64 byh, .int .u64 byl]] w fun e w' => e = .returned (.tuple #[.agg #[.int .i64 0, .int .u64 0], .int .i64 e1]) ∧ Below w.heap.size w w' := by
  have K1 := Lib.hid S1
  clear S1
  have hmm := @run_makeMap Try.prog
  go_enter Try.func25, Try.ntmps25
  go_upto_region 2 with fail
  clear hmm
  refine name_world (P := fun W => Code.wp _ _ _ _ W) _ (fun R hR => ?_)
  have zR_0 : w.heap.size < R.heap.size := by rw [hR]; first | omega | (simp; done) | (simp; omega)
  have cR_0_0 : R.cell? ⟨w.heap.size, 0, none⟩ = some (.int .i64 axh) := by rw [hR]; simp [go_sem, *]
  have cR_0_1 : R.cell? ⟨w.heap.size, 1, none⟩ = some (.int .u64 axl) := by rw [hR]; simp [go_sem, *]
  have cR_0_2 : R.cell? ⟨w.heap.size, 2, none⟩ = some (.int .i64 ayh) := by rw [hR]; simp [go_sem, *]
  have cR_0_3 : R.cell? ⟨w.heap.size, 3, none⟩ = some (.int .u64 ayl) := by rw [hR]; simp [go_sem, *]
  have zR_1 : w.heap.size + 1 < R.heap.size := by rw [hR]; first | omega | (simp; done) | (simp; omega)
  have cR_1_0 : R.cell? ⟨w.heap.size + 1, 0, none⟩ = some (.int .i64 bxh) := by rw [hR]; simp [go_sem, *]
  have cR_1_1 : R.cell? ⟨w.heap.size + 1, 1, none⟩ = some (.int .u64 bxl) := by rw [hR]; simp [go_sem, *]
  have cR_1_2 : R.cell? ⟨w.heap.size + 1, 2, none⟩ = some (.int .i64 byh) := by rw [hR]; simp [go_sem, *]
  have cR_1_3 : R.cell? ⟨w.heap.size + 1, 3, none⟩ = some (.int .u64 byl) := by rw [hR]; simp [go_sem, *]
  have zR_2 : w.heap.size + 1 + 1 < R.heap.size := by rw [hR]; first | omega | (simp; done) | (simp; omega)
  have cR_2_0 : R.cell? ⟨w.heap.size + 1 + 1, 0, none⟩ = some (.int .i64 0) := by rw [hR]; simp [go_sem, *]
  have cR_2_1 : R.cell? ⟨w.heap.size + 1 + 1, 1, none⟩ = some (.int .u64 0) := by rw [hR]; simp [go_sem, *]
  have fR_2 : ∀ j, R.frozen? ⟨w.heap.size + 1 + 1, j, none⟩ = false := fun j => by rw [hR]; first | (simp [go_sem, *]; done) | (simp only [frozen?_alloc_cells]; simp [World.frozen?, *]; done) | (simp [frozen?_alloc_cells, World.frozen?, *]; done)
  have HBR : Hid (Below w.heap.size w R) := by rw [hR]; show Below _ _ _; exact (by repeat (first | with_reducible exact Below.refl _ _ | with_reducible exact Hid.out (by assumption) | with_reducible refine Below.setCell ?_ (by first | (simp; done) | omega | (simp <;> omega)) _ | with_reducible refine bl_al ?_ _ | with_reducible apply Below.drew))
  have zB : w.heap.size + 1 + 1 + 1 < R.heap.size := by rw [hR]; simp
  have hRb : R.heap[w.heap.size + 1 + 1 + 1]? = some (.map #[] 0) := by rw [hR]; have h := (MapKept.heap_alloc (((w.alloc (.cells #[.int .i64 axh, .int .u64 axl, .int .i64 ayh, .int .u64 ayl] 42)).alloc (.cells #[.int .i64 bxh, .int .u64 bxl, .int .i64 byh, .int .u64 byl] 42)).alloc (.cells #[.int .i64 0, .int .u64 0] 24)) (.map #[] 0)).1; simpa using h
  clear hR
  go_wp2_with fail
  (with_reducible refine (K1.out _ _ hRb).mono ?_); rintro e w1 ⟨rfl, hg, hm⟩
  obtain ⟨hcl, hfr⟩ := grown_cells hg
  have zw1_0 : w.heap.size < w1.heap.size := Nat.lt_of_lt_of_le (by first | omega | (simp; omega)) hg.size
  have new1_0 : w.heap.size ≠ w.heap.size + 1 + 1 + 1 := by omega
  have cw1_0_0 : w1.cell? ⟨w.heap.size, 0, none⟩ = some (.int .i64 axh) := by rw [hcl _ _ (by omega) new1_0]; assumption
  have cw1_0_1 : w1.cell? ⟨w.heap.size, 1, none⟩ = some (.int .u64 axl) := by rw [hcl _ _ (by omega) new1_0]; assumption
  have cw1_0_2 : w1.cell? ⟨w.heap.size, 2, none⟩ = some (.int .i64 ayh) := by rw [hcl _ _ (by omega) new1_0]; assumption
  have cw1_0_3 : w1.cell? ⟨w.heap.size, 3, none⟩ = some (.int .u64 ayl) := by rw [hcl _ _ (by omega) new1_0]; assumption
  have zw1_1 : w.heap.size + 1 < w1.heap.size := Nat.lt_of_lt_of_le (by first | omega | (simp; omega)) hg.size
  have new1_1 : w.heap.size + 1 ≠ w.heap.size + 1 + 1 + 1 := by omega
  have cw1_1_0 : w1.cell? ⟨w.heap.size + 1, 0, none⟩ = some (.int .i64 bxh) := by rw [hcl _ _ (by omega) new1_1]; assumption
  have cw1_1_1 : w1.cell? ⟨w.heap.size + 1, 1, none⟩ = some (.int .u64 bxl) := by rw [hcl _ _ (by omega) new1_1]; assumption
  have cw1_1_2 : w1.cell? ⟨w.heap.size + 1, 2, none⟩ = some (.int .i64 byh) := by rw [hcl _ _ (by omega) new1_1]; assumption
  have cw1_1_3 : w1.cell? ⟨w.heap.size + 1, 3, none⟩ = some (.int .u64 byl) := by rw [hcl _ _ (by omega) new1_1]; assumption
  have zw1_2 : w.heap.size + 1 + 1 < w1.heap.size := Nat.lt_of_lt_of_le (by first | omega | (simp; omega)) hg.size
  have new1_2 : w.heap.size + 1 + 1 ≠ w.heap.size + 1 + 1 + 1 := by omega
  have cw1_2_0 : w1.cell? ⟨w.heap.size + 1 + 1, 0, none⟩ = some (.int .i64 0) := by rw [hcl _ _ (by omega) new1_2]; assumption
  have cw1_2_1 : w1.cell? ⟨w.heap.size + 1 + 1, 1, none⟩ = some (.int .u64 0) := by rw [hcl _ _ (by omega) new1_2]; assumption
  have fw1_2 : ∀ j, w1.frozen? ⟨w.heap.size + 1 + 1, j, none⟩ = false := fun j => by rw [hfr _ _ (by omega) new1_2]; first | exact fR_2 j | exact fS_2 j | (simp [*]; done)
  have HBw1 : Hid (Below w.heap.size w w1) := Below.grown (Hid.out (by assumption)) hg (by omega) (fun k hk => by cases hk; omega)
  have zzw1 : w.heap.size + 1 + 1 + 1 < w1.heap.size := Nat.lt_of_lt_of_le (by omega) hg.size
  clear hg hcl hfr
  clear hm
  go_wp2_with fail
  refine bodyPost_ret (by simp [results, Try.results25, go_sem, *]; try rfl) rfl ?_
  exact ⟨rfl, by repeat (first | with_reducible exact Below.refl _ _ | with_reducible exact Hid.out (by assumption) | with_reducible refine Below.setCell ?_ (by first | (simp; done) | omega | (simp <;> omega)) _ | with_reducible refine bl_al ?_ _ | with_reducible apply Below.drew)⟩
set_option maxRecDepth 20000 in
set_option maxHeartbeats 8000000 in
theorem dot_y (axh axl ayh ayl bxh bxl byh byl mh ml nh nl _sh _sl e1 e2 _e3 : Int) (h1 : e1 = 0) (he : ¬ e2 = 0) (w : World)
    (S1 : ∀ (W : World) (B : Nat), W.heap[B]? = some (.map #[] 0) → Calls Try.prog 59 #[.map (some B), .agg #[.int .i64 axh, .int .u64 axl, .int .i64 bxh, .int .u64 bxl]] W fun e' w' => e' = .returned (.tuple #[.agg #[.int .i64 mh, .int .u64 ml], .int .i64 e1]) ∧ W.grownBy w' (some B) ∧ (e1 = 0 → w'.heap[B]? = some (.map #[⟨.agg #[.int .i64 axh, .int .u64 axl, .int .i64 bxh, .int .u64 bxl], .agg #[.int .i64 mh, .int .u64 ml], 0⟩] 1)))
    (S2 : ∀ (W : World) (B : Nat), W.heap[B]? = some (.map #[⟨.agg #[.int .i64 axh, .int .u64 axl, .int .i64 bxh, .int .u64 bxl], .agg #[.int .i64 mh, .int .u64 ml], 0⟩] 1) → Calls Try.prog 59 #[.map (some B), .agg #[.int .i64 ayh, .int .u64 ayl, .int .i64 byh, .int .u64 byl]] W fun e' w' => e' = .returned (.tuple #[.agg #[.int .i64 nh, .int .u64 nl], .int .i64 e2]) ∧ W.grownBy w' (some B)) :
    Calls Try.prog 25 #[.agg #[.int .i64 axh, .int .u64 axl, .int .i64 ayh, .int .u64 ayl], .agg #[.int .i64 bxh, .int .u64 bxl, .int .i64 byh, .int .u64 byl]] w fun e w' => e = .returned (.tuple #[.agg #[.int .i64 0, .int .u64 0], .int .i64 e2]) ∧ Below w.heap.size w w' := by
  subst h1
  have K1 := Lib.hid S1
  clear S1
  have K2 := Lib.hid S2
  clear S2
  have hmm := @run_makeMap Try.prog
  go_enter Try.func25, Try.ntmps25
  go_upto_region 2 with fail
  clear hmm
  refine name_world (P := fun W => Code.wp _ _ _ _ W) _ (fun R hR => ?_)
  have zR_0 : w.heap.size < R.heap.size := by rw [hR]; first | omega | (simp; done) | (simp; omega)
  have cR_0_0 : R.cell? ⟨w.heap.size, 0, none⟩ = some (.int .i64 axh) := by rw [hR]; simp [go_sem, *]
  have cR_0_1 : R.cell? ⟨w.heap.size, 1, none⟩ = some (.int .u64 axl) := by rw [hR]; simp [go_sem, *]
  have cR_0_2 : R.cell? ⟨w.heap.size, 2, none⟩ = some (.int .i64 ayh) := by rw [hR]; simp [go_sem, *]
  have cR_0_3 : R.cell? ⟨w.heap.size, 3, none⟩ = some (.int .u64 ayl) := by rw [hR]; simp [go_sem, *]
  have zR_1 : w.heap.size + 1 < R.heap.size := by rw [hR]; first | omega | (simp; done) | (simp; omega)
  have cR_1_0 : R.cell? ⟨w.heap.size + 1, 0, none⟩ = some (.int .i64 bxh) := by rw [hR]; simp [go_sem, *]
  have cR_1_1 : R.cell? ⟨w.heap.size + 1, 1, none⟩ = some (.int .u64 bxl) := by rw [hR]; simp [go_sem, *]
  have cR_1_2 : R.cell? ⟨w.heap.size + 1, 2, none⟩ = some (.int .i64 byh) := by rw [hR]; simp [go_sem, *]
  have cR_1_3 : R.cell? ⟨w.heap.size + 1, 3, none⟩ = some (.int .u64 byl) := by rw [hR]; simp [go_sem, *]
  have zR_2 : w.heap.size + 1 + 1 < R.heap.size := by rw [hR]; first | omega | (simp; done) | (simp; omega)
  have cR_2_0 : R.cell? ⟨w.heap.size + 1 + 1, 0, none⟩ = some (.int .i64 0) := by rw [hR]; simp [go_sem, *]
  have cR_2_1 : R.cell? ⟨w.heap.size + 1 + 1, 1, none⟩ = some (.int .u64 0) := by rw [hR]; simp [go_sem, *]
  have fR_2 : ∀ j, R.frozen? ⟨w.heap.size + 1 + 1, j, none⟩ = false := fun j => by rw [hR]; first | (simp [go_sem, *]; done) | (simp only [frozen?_alloc_cells]; simp [World.frozen?, *]; done) | (simp [frozen?_alloc_cells, World.frozen?, *]; done)
  have HBR : Hid (Below w.heap.size w R) := by rw [hR]; show Below _ _ _; exact (by repeat (first | with_reducible exact Below.refl _ _ | with_reducible exact Hid.out (by assumption) | with_reducible refine Below.setCell ?_ (by first | (simp; done) | omega | (simp <;> omega)) _ | with_reducible refine bl_al ?_ _ | with_reducible apply Below.drew))
  have zB : w.heap.size + 1 + 1 + 1 < R.heap.size := by rw [hR]; simp
  have hRb : R.heap[w.heap.size + 1 + 1 + 1]? = some (.map #[] 0) := by rw [hR]; have h := (MapKept.heap_alloc (((w.alloc (.cells #[.int .i64 axh, .int .u64 axl, .int .i64 ayh, .int .u64 ayl] 42)).alloc (.cells #[.int .i64 bxh, .int .u64 bxl, .int .i64 byh, .int .u64 byl] 42)).alloc (.cells #[.int .i64 0, .int .u64 0] 24)) (.map #[] 0)).1; simpa using h
  clear hR
  go_wp2_with fail
  (with_reducible refine (K1.out _ _ hRb).mono ?_); rintro e w1 ⟨rfl, hg, hm⟩
  obtain ⟨hcl, hfr⟩ := grown_cells hg
  have zw1_0 : w.heap.size < w1.heap.size := Nat.lt_of_lt_of_le (by first | omega | (simp; omega)) hg.size
  have new1_0 : w.heap.size ≠ w.heap.size + 1 + 1 + 1 := by omega
  have cw1_0_0 : w1.cell? ⟨w.heap.size, 0, none⟩ = some (.int .i64 axh) := by rw [hcl _ _ (by omega) new1_0]; assumption
  have cw1_0_1 : w1.cell? ⟨w.heap.size, 1, none⟩ = some (.int .u64 axl) := by rw [hcl _ _ (by omega) new1_0]; assumption
  have cw1_0_2 : w1.cell? ⟨w.heap.size, 2, none⟩ = some (.int .i64 ayh) := by rw [hcl _ _ (by omega) new1_0]; assumption
  have cw1_0_3 : w1.cell? ⟨w.heap.size, 3, none⟩ = some (.int .u64 ayl) := by rw [hcl _ _ (by omega) new1_0]; assumption
  have zw1_1 : w.heap.size + 1 < w1.heap.size := Nat.lt_of_lt_of_le (by first | omega | (simp; omega)) hg.size
  have new1_1 : w.heap.size + 1 ≠ w.heap.size + 1 + 1 + 1 := by omega
  have cw1_1_0 : w1.cell? ⟨w.heap.size + 1, 0, none⟩ = some (.int .i64 bxh) := by rw [hcl _ _ (by omega) new1_1]; assumption
  have cw1_1_1 : w1.cell? ⟨w.heap.size + 1, 1, none⟩ = some (.int .u64 bxl) := by rw [hcl _ _ (by omega) new1_1]; assumption
  have cw1_1_2 : w1.cell? ⟨w.heap.size + 1, 2, none⟩ = some (.int .i64 byh) := by rw [hcl _ _ (by omega) new1_1]; assumption
  have cw1_1_3 : w1.cell? ⟨w.heap.size + 1, 3, none⟩ = some (.int .u64 byl) := by rw [hcl _ _ (by omega) new1_1]; assumption
  have zw1_2 : w.heap.size + 1 + 1 < w1.heap.size := Nat.lt_of_lt_of_le (by first | omega | (simp; omega)) hg.size
  have new1_2 : w.heap.size + 1 + 1 ≠ w.heap.size + 1 + 1 + 1 := by omega
  have cw1_2_0 : w1.cell? ⟨w.heap.size + 1 + 1, 0, none⟩ = some (.int .i64 0) := by rw [hcl _ _ (by omega) new1_2]; assumption
  have cw1_2_1 : w1.cell? ⟨w.heap.size + 1 + 1, 1, none⟩ = some (.int .u64 0) := by rw [hcl _ _ (by omega) new1_2]; assumption
  have fw1_2 : ∀ j, w1.frozen? ⟨w.heap.size + 1 + 1, j, none⟩ = false := fun j => by rw [hfr _ _ (by omega) new1_2]; first | exact fR_2 j | exact fS_2 j | (simp [*]; done)
  have HBw1 : Hid (Below w.heap.size w w1) := Below.grown (Hid.out (by assumption)) hg (by omega) (fun k hk => by cases hk; omega)
  have zzw1 : w.heap.size + 1 + 1 + 1 < w1.heap.size := Nat.lt_of_lt_of_le (by omega) hg.size
  clear hg hcl hfr
  have hm := hm (by first | rfl | trivial)
  go_upto_region 5 with fail
  refine name_world (P := fun W => Code.wp _ _ _ _ W) _ (fun S hS => ?_)
  have zS_0 : w.heap.size < S.heap.size := by rw [hS]; first | omega | (simp; done) | (simp; omega)
  have cS_0_0 : S.cell? ⟨w.heap.size, 0, none⟩ = some (.int .i64 axh) := by rw [hS]; simp [go_sem, *]
  have cS_0_1 : S.cell? ⟨w.heap.size, 1, none⟩ = some (.int .u64 axl) := by rw [hS]; simp [go_sem, *]
  have cS_0_2 : S.cell? ⟨w.heap.size, 2, none⟩ = some (.int .i64 ayh) := by rw [hS]; simp [go_sem, *]
  have cS_0_3 : S.cell? ⟨w.heap.size, 3, none⟩ = some (.int .u64 ayl) := by rw [hS]; simp [go_sem, *]
  have zS_1 : w.heap.size + 1 < S.heap.size := by rw [hS]; first | omega | (simp; done) | (simp; omega)
  have cS_1_0 : S.cell? ⟨w.heap.size + 1, 0, none⟩ = some (.int .i64 bxh) := by rw [hS]; simp [go_sem, *]
  have cS_1_1 : S.cell? ⟨w.heap.size + 1, 1, none⟩ = some (.int .u64 bxl) := by rw [hS]; simp [go_sem, *]
  have cS_1_2 : S.cell? ⟨w.heap.size + 1, 2, none⟩ = some (.int .i64 byh) := by rw [hS]; simp [go_sem, *]
  have cS_1_3 : S.cell? ⟨w.heap.size + 1, 3, none⟩ = some (.int .u64 byl) := by rw [hS]; simp [go_sem, *]
  have zS_2 : w.heap.size + 1 + 1 < S.heap.size := by rw [hS]; first | omega | (simp; done) | (simp; omega)
  have cS_2_0 : S.cell? ⟨w.heap.size + 1 + 1, 0, none⟩ = some (.int .i64 0) := by rw [hS]; simp [go_sem, *]
  have cS_2_1 : S.cell? ⟨w.heap.size + 1 + 1, 1, none⟩ = some (.int .u64 0) := by rw [hS]; simp [go_sem, *]
  have fS_2 : ∀ j, S.frozen? ⟨w.heap.size + 1 + 1, j, none⟩ = false := fun j => by rw [hS]; first | (simp [go_sem, *]; done) | (simp only [frozen?_alloc_cells]; simp [World.frozen?, *]; done) | (simp [frozen?_alloc_cells, World.frozen?, *]; done)
  have zS_3 : w1.heap.size < S.heap.size := by rw [hS]; first | omega | (simp; done) | (simp; omega)
  have cS_3_0 : S.cell? ⟨w1.heap.size, 0, none⟩ = some (.int .i64 mh) := by rw [hS]; simp [go_sem, *]
  have cS_3_1 : S.cell? ⟨w1.heap.size, 1, none⟩ = some (.int .u64 ml) := by rw [hS]; simp [go_sem, *]
  have HBS : Hid (Below w.heap.size w S) := by rw [hS]; show Below _ _ _; exact (by repeat (first | with_reducible exact Below.refl _ _ | with_reducible exact Hid.out (by assumption) | with_reducible refine Below.setCell ?_ (by first | (simp; done) | omega | (simp <;> omega)) _ | with_reducible refine bl_al ?_ _ | with_reducible apply Below.drew))
  have zS : w.heap.size + 1 + 1 + 1 < S.heap.size := by rw [hS]; first | omega | (simp; omega)
  have hSb : S.heap[w.heap.size + 1 + 1 + 1]? = some (.map #[⟨.agg #[.int .i64 axh, .int .u64 axl, .int .i64 bxh, .int .u64 bxl], .agg #[.int .i64 mh, .int .u64 ml], 0⟩] 1) := by rw [hS]; repeat (first | with_reducible exact hm | refine heap_al ?_ _ | rw [set_heap _ _ _ (by omega)])
  clear hS hm hRb
  clear cR_0_0
  clear cR_0_1
  clear cR_0_2
  clear cR_0_3
  clear cR_1_0
  clear cR_1_1
  clear cR_1_2
  clear cR_1_3
  clear cR_2_0
  clear cR_2_1
  go_wp2_with fail
  (with_reducible refine (K2.out _ _ hSb).mono ?_); rintro e w2 ⟨rfl, hg⟩
  obtain ⟨hcl, hfr⟩ := grown_cells hg
  have zw2_0 : w.heap.size < w2.heap.size := Nat.lt_of_lt_of_le (by first | omega | (simp; omega)) hg.size
  have new2_0 : w.heap.size ≠ w.heap.size + 1 + 1 + 1 := by omega
  have cw2_0_0 : w2.cell? ⟨w.heap.size, 0, none⟩ = some (.int .i64 axh) := by rw [hcl _ _ (by omega) new2_0]; assumption
  have cw2_0_1 : w2.cell? ⟨w.heap.size, 1, none⟩ = some (.int .u64 axl) := by rw [hcl _ _ (by omega) new2_0]; assumption
  have cw2_0_2 : w2.cell? ⟨w.heap.size, 2, none⟩ = some (.int .i64 ayh) := by rw [hcl _ _ (by omega) new2_0]; assumption
  have cw2_0_3 : w2.cell? ⟨w.heap.size, 3, none⟩ = some (.int .u64 ayl) := by rw [hcl _ _ (by omega) new2_0]; assumption
  have zw2_1 : w.heap.size + 1 < w2.heap.size := Nat.lt_of_lt_of_le (by first | omega | (simp; omega)) hg.size
  have new2_1 : w.heap.size + 1 ≠ w.heap.size + 1 + 1 + 1 := by omega
  have cw2_1_0 : w2.cell? ⟨w.heap.size + 1, 0, none⟩ = some (.int .i64 bxh) := by rw [hcl _ _ (by omega) new2_1]; assumption
  have cw2_1_1 : w2.cell? ⟨w.heap.size + 1, 1, none⟩ = some (.int .u64 bxl) := by rw [hcl _ _ (by omega) new2_1]; assumption
  have cw2_1_2 : w2.cell? ⟨w.heap.size + 1, 2, none⟩ = some (.int .i64 byh) := by rw [hcl _ _ (by omega) new2_1]; assumption
  have cw2_1_3 : w2.cell? ⟨w.heap.size + 1, 3, none⟩ = some (.int .u64 byl) := by rw [hcl _ _ (by omega) new2_1]; assumption
  have zw2_2 : w.heap.size + 1 + 1 < w2.heap.size := Nat.lt_of_lt_of_le (by first | omega | (simp; omega)) hg.size
  have new2_2 : w.heap.size + 1 + 1 ≠ w.heap.size + 1 + 1 + 1 := by omega
  have cw2_2_0 : w2.cell? ⟨w.heap.size + 1 + 1, 0, none⟩ = some (.int .i64 0) := by rw [hcl _ _ (by omega) new2_2]; assumption
  have cw2_2_1 : w2.cell? ⟨w.heap.size + 1 + 1, 1, none⟩ = some (.int .u64 0) := by rw [hcl _ _ (by omega) new2_2]; assumption
  have fw2_2 : ∀ j, w2.frozen? ⟨w.heap.size + 1 + 1, j, none⟩ = false := fun j => by rw [hfr _ _ (by omega) new2_2]; first | exact fR_2 j | exact fS_2 j | (simp [*]; done)
  have zw2_3 : w1.heap.size < w2.heap.size := Nat.lt_of_lt_of_le (by first | omega | (simp; omega)) hg.size
  have new2_3 : w1.heap.size ≠ w.heap.size + 1 + 1 + 1 := by omega
  have cw2_3_0 : w2.cell? ⟨w1.heap.size, 0, none⟩ = some (.int .i64 mh) := by rw [hcl _ _ (by omega) new2_3]; assumption
  have cw2_3_1 : w2.cell? ⟨w1.heap.size, 1, none⟩ = some (.int .u64 ml) := by rw [hcl _ _ (by omega) new2_3]; assumption
  have HBw2 : Hid (Below w.heap.size w w2) := Below.grown (Hid.out (by assumption)) hg (by omega) (fun k hk => by cases hk; omega)
  have zzw2 : w.heap.size + 1 + 1 + 1 < w2.heap.size := Nat.lt_of_lt_of_le (by omega) hg.size
  clear hg hcl hfr
  go_wp2_with fail
  refine bodyPost_ret (by simp [results, Try.results25, go_sem, *]; try rfl) rfl ?_
  exact ⟨rfl, by repeat (first | with_reducible exact Below.refl _ _ | with_reducible exact Hid.out (by assumption) | with_reducible refine Below.setCell ?_ (by first | (simp; done) | omega | (simp <;> omega)) _ | with_reducible refine bl_al ?_ _ | with_reducible apply Below.drew)⟩
set_option maxRecDepth 20000 in
set_option maxHeartbeats 8000000 in
theorem dot_ok (axh axl ayh ayl bxh bxl byh byl mh ml nh nl sh sl e1 e2 e3 : Int) (h1 : e1 = 0) (h2 : e2 = 0) (w : World)
    (S1 : ∀ (W : World) (B : Nat), W.heap[B]? = some (.map #[] 0) → Calls Try.prog 59 #[.map (some B), .agg #[.int .i64 axh, .int .u64 axl, .int .i64 bxh, .int .u64 bxl]] W fun e' w' => e' = .returned (.tuple #[.agg #[.int .i64 mh, .int .u64 ml], .int .i64 e1]) ∧ W.grownBy w' (some B) ∧ (e1 = 0 → w'.heap[B]? = some (.map #[⟨.agg #[.int .i64 axh, .int .u64 axl, .int .i64 bxh, .int .u64 bxl], .agg #[.int .i64 mh, .int .u64 ml], 0⟩] 1)))
    (S2 : ∀ (W : World) (B : Nat), W.heap[B]? = some (.map #[⟨.agg #[.int .i64 axh, .int .u64 axl, .int .i64 bxh, .int .u64 bxl], .agg #[.int .i64 mh, .int .u64 ml], 0⟩] 1) → Calls Try.prog 59 #[.map (some B), .agg #[.int .i64 ayh, .int .u64 ayl, .int .i64 byh, .int .u64 byl]] W fun e' w' => e' = .returned (.tuple #[.agg #[.int .i64 nh, .int .u64 nl], .int .i64 e2]) ∧ W.grownBy w' (some B))
    (C3 : ∀ W, Calls Try.prog 56 #[.agg #[.int .i64 mh, .int .u64 ml], .agg #[.int .i64 nh, .int .u64 nl]] W fun e w' => e = .returned (.tuple #[.agg #[.int .i64 sh, .int .u64 sl], .int .i64 e3]) ∧ Below W.heap.size W w') :
    Calls Try.prog 25 #[.agg #[.int .i64 axh, .int .u64 axl, .int .i64 ayh, .int .u64 ayl], .agg #[.int .i64 bxh, .int .u64 bxl, .int .i64 byh, .int .u64 byl]] w fun e w' => e = .returned (.tuple #[.agg #[.int .i64 sh, .int .u64 sl], .int .i64 e3]) ∧ Below w.heap.size w w' := by
  subst h1; subst h2
  have K1 := Lib.hid S1
  clear S1
  have K2 := Lib.hid S2
  clear S2
  have K3 := Lib.hid C3
  clear C3
  have hmm := @run_makeMap Try.prog
  go_enter Try.func25, Try.ntmps25
  go_upto_region 2 with fail
  clear hmm
  refine name_world (P := fun W => Code.wp _ _ _ _ W) _ (fun R hR => ?_)
  have zR_0 : w.heap.size < R.heap.size := by rw [hR]; first | omega | (simp; done) | (simp; omega)
  have cR_0_0 : R.cell? ⟨w.heap.size, 0, none⟩ = some (.int .i64 axh) := by rw [hR]; simp [go_sem, *]
  have cR_0_1 : R.cell? ⟨w.heap.size, 1, none⟩ = some (.int .u64 axl) := by rw [hR]; simp [go_sem, *]
  have cR_0_2 : R.cell? ⟨w.heap.size, 2, none⟩ = some (.int .i64 ayh) := by rw [hR]; simp [go_sem, *]
  have cR_0_3 : R.cell? ⟨w.heap.size, 3, none⟩ = some (.int .u64 ayl) := by rw [hR]; simp [go_sem, *]
  have zR_1 : w.heap.size + 1 < R.heap.size := by rw [hR]; first | omega | (simp; done) | (simp; omega)
  have cR_1_0 : R.cell? ⟨w.heap.size + 1, 0, none⟩ = some (.int .i64 bxh) := by rw [hR]; simp [go_sem, *]
  have cR_1_1 : R.cell? ⟨w.heap.size + 1, 1, none⟩ = some (.int .u64 bxl) := by rw [hR]; simp [go_sem, *]
  have cR_1_2 : R.cell? ⟨w.heap.size + 1, 2, none⟩ = some (.int .i64 byh) := by rw [hR]; simp [go_sem, *]
  have cR_1_3 : R.cell? ⟨w.heap.size + 1, 3, none⟩ = some (.int .u64 byl) := by rw [hR]; simp [go_sem, *]
  have zR_2 : w.heap.size + 1 + 1 < R.heap.size := by rw [hR]; first | omega | (simp; done) | (simp; omega)
  have cR_2_0 : R.cell? ⟨w.heap.size + 1 + 1, 0, none⟩ = some (.int .i64 0) := by rw [hR]; simp [go_sem, *]
  have cR_2_1 : R.cell? ⟨w.heap.size + 1 + 1, 1, none⟩ = some (.int .u64 0) := by rw [hR]; simp [go_sem, *]
  have fR_2 : ∀ j, R.frozen? ⟨w.heap.size + 1 + 1, j, none⟩ = false := fun j => by rw [hR]; first | (simp [go_sem, *]; done) | (simp only [frozen?_alloc_cells]; simp [World.frozen?, *]; done) | (simp [frozen?_alloc_cells, World.frozen?, *]; done)
  have HBR : Hid (Below w.heap.size w R) := by rw [hR]; show Below _ _ _; exact (by repeat (first | with_reducible exact Below.refl _ _ | with_reducible exact Hid.out (by assumption) | with_reducible refine Below.setCell ?_ (by first | (simp; done) | omega | (simp <;> omega)) _ | with_reducible refine bl_al ?_ _ | with_reducible apply Below.drew))
  have zB : w.heap.size + 1 + 1 + 1 < R.heap.size := by rw [hR]; simp
  have hRb : R.heap[w.heap.size + 1 + 1 + 1]? = some (.map #[] 0) := by rw [hR]; have h := (MapKept.heap_alloc (((w.alloc (.cells #[.int .i64 axh, .int .u64 axl, .int .i64 ayh, .int .u64 ayl] 42)).alloc (.cells #[.int .i64 bxh, .int .u64 bxl, .int .i64 byh, .int .u64 byl] 42)).alloc (.cells #[.int .i64 0, .int .u64 0] 24)) (.map #[] 0)).1; simpa using h
  clear hR
  go_wp2_with fail
  (with_reducible refine (K1.out _ _ hRb).mono ?_); rintro e w1 ⟨rfl, hg, hm⟩
  obtain ⟨hcl, hfr⟩ := grown_cells hg
  have zw1_0 : w.heap.size < w1.heap.size := Nat.lt_of_lt_of_le (by first | omega | (simp; omega)) hg.size
  have new1_0 : w.heap.size ≠ w.heap.size + 1 + 1 + 1 := by omega
  have cw1_0_0 : w1.cell? ⟨w.heap.size, 0, none⟩ = some (.int .i64 axh) := by rw [hcl _ _ (by omega) new1_0]; assumption
  have cw1_0_1 : w1.cell? ⟨w.heap.size, 1, none⟩ = some (.int .u64 axl) := by rw [hcl _ _ (by omega) new1_0]; assumption
  have cw1_0_2 : w1.cell? ⟨w.heap.size, 2, none⟩ = some (.int .i64 ayh) := by rw [hcl _ _ (by omega) new1_0]; assumption
  have cw1_0_3 : w1.cell? ⟨w.heap.size, 3, none⟩ = some (.int .u64 ayl) := by rw [hcl _ _ (by omega) new1_0]; assumption
  have zw1_1 : w.heap.size + 1 < w1.heap.size := Nat.lt_of_lt_of_le (by first | omega | (simp; omega)) hg.size
  have new1_1 : w.heap.size + 1 ≠ w.heap.size + 1 + 1 + 1 := by omega
  have cw1_1_0 : w1.cell? ⟨w.heap.size + 1, 0, none⟩ = some (.int .i64 bxh) := by rw [hcl _ _ (by omega) new1_1]; assumption
  have cw1_1_1 : w1.cell? ⟨w.heap.size + 1, 1, none⟩ = some (.int .u64 bxl) := by rw [hcl _ _ (by omega) new1_1]; assumption
  have cw1_1_2 : w1.cell? ⟨w.heap.size + 1, 2, none⟩ = some (.int .i64 byh) := by rw [hcl _ _ (by omega) new1_1]; assumption
  have cw1_1_3 : w1.cell? ⟨w.heap.size + 1, 3, none⟩ = some (.int .u64 byl) := by rw [hcl _ _ (by omega) new1_1]; assumption
  have zw1_2 : w.heap.size + 1 + 1 < w1.heap.size := Nat.lt_of_lt_of_le (by first | omega | (simp; omega)) hg.size
  have new1_2 : w.heap.size + 1 + 1 ≠ w.heap.size + 1 + 1 + 1 := by omega
  have cw1_2_0 : w1.cell? ⟨w.heap.size + 1 + 1, 0, none⟩ = some (.int .i64 0) := by rw [hcl _ _ (by omega) new1_2]; assumption
  have cw1_2_1 : w1.cell? ⟨w.heap.size + 1 + 1, 1, none⟩ = some (.int .u64 0) := by rw [hcl _ _ (by omega) new1_2]; assumption
  have fw1_2 : ∀ j, w1.frozen? ⟨w.heap.size + 1 + 1, j, none⟩ = false := fun j => by rw [hfr _ _ (by omega) new1_2]; first | exact fR_2 j | exact fS_2 j | (simp [*]; done)
  have HBw1 : Hid (Below w.heap.size w w1) := Below.grown (Hid.out (by assumption)) hg (by omega) (fun k hk => by cases hk; omega)
  have zzw1 : w.heap.size + 1 + 1 + 1 < w1.heap.size := Nat.lt_of_lt_of_le (by omega) hg.size
  clear hg hcl hfr
  have hm := hm (by first | rfl | trivial)
  go_upto_region 5 with fail
  refine name_world (P := fun W => Code.wp _ _ _ _ W) _ (fun S hS => ?_)
  have zS_0 : w.heap.size < S.heap.size := by rw [hS]; first | omega | (simp; done) | (simp; omega)
  have cS_0_0 : S.cell? ⟨w.heap.size, 0, none⟩ = some (.int .i64 axh) := by rw [hS]; simp [go_sem, *]
  have cS_0_1 : S.cell? ⟨w.heap.size, 1, none⟩ = some (.int .u64 axl) := by rw [hS]; simp [go_sem, *]
  have cS_0_2 : S.cell? ⟨w.heap.size, 2, none⟩ = some (.int .i64 ayh) := by rw [hS]; simp [go_sem, *]
  have cS_0_3 : S.cell? ⟨w.heap.size, 3, none⟩ = some (.int .u64 ayl) := by rw [hS]; simp [go_sem, *]
  have zS_1 : w.heap.size + 1 < S.heap.size := by rw [hS]; first | omega | (simp; done) | (simp; omega)
  have cS_1_0 : S.cell? ⟨w.heap.size + 1, 0, none⟩ = some (.int .i64 bxh) := by rw [hS]; simp [go_sem, *]
  have cS_1_1 : S.cell? ⟨w.heap.size + 1, 1, none⟩ = some (.int .u64 bxl) := by rw [hS]; simp [go_sem, *]
  have cS_1_2 : S.cell? ⟨w.heap.size + 1, 2, none⟩ = some (.int .i64 byh) := by rw [hS]; simp [go_sem, *]
  have cS_1_3 : S.cell? ⟨w.heap.size + 1, 3, none⟩ = some (.int .u64 byl) := by rw [hS]; simp [go_sem, *]
  have zS_2 : w.heap.size + 1 + 1 < S.heap.size := by rw [hS]; first | omega | (simp; done) | (simp; omega)
  have cS_2_0 : S.cell? ⟨w.heap.size + 1 + 1, 0, none⟩ = some (.int .i64 0) := by rw [hS]; simp [go_sem, *]
  have cS_2_1 : S.cell? ⟨w.heap.size + 1 + 1, 1, none⟩ = some (.int .u64 0) := by rw [hS]; simp [go_sem, *]
  have fS_2 : ∀ j, S.frozen? ⟨w.heap.size + 1 + 1, j, none⟩ = false := fun j => by rw [hS]; first | (simp [go_sem, *]; done) | (simp only [frozen?_alloc_cells]; simp [World.frozen?, *]; done) | (simp [frozen?_alloc_cells, World.frozen?, *]; done)
  have zS_3 : w1.heap.size < S.heap.size := by rw [hS]; first | omega | (simp; done) | (simp; omega)
  have cS_3_0 : S.cell? ⟨w1.heap.size, 0, none⟩ = some (.int .i64 mh) := by rw [hS]; simp [go_sem, *]
  have cS_3_1 : S.cell? ⟨w1.heap.size, 1, none⟩ = some (.int .u64 ml) := by rw [hS]; simp [go_sem, *]
  have HBS : Hid (Below w.heap.size w S) := by rw [hS]; show Below _ _ _; exact (by repeat (first | with_reducible exact Below.refl _ _ | with_reducible exact Hid.out (by assumption) | with_reducible refine Below.setCell ?_ (by first | (simp; done) | omega | (simp <;> omega)) _ | with_reducible refine bl_al ?_ _ | with_reducible apply Below.drew))
  have zS : w.heap.size + 1 + 1 + 1 < S.heap.size := by rw [hS]; first | omega | (simp; omega)
  have hSb : S.heap[w.heap.size + 1 + 1 + 1]? = some (.map #[⟨.agg #[.int .i64 axh, .int .u64 axl, .int .i64 bxh, .int .u64 bxl], .agg #[.int .i64 mh, .int .u64 ml], 0⟩] 1) := by rw [hS]; repeat (first | with_reducible exact hm | refine heap_al ?_ _ | rw [set_heap _ _ _ (by omega)])
  clear hS hm hRb
  clear cR_0_0
  clear cR_0_1
  clear cR_0_2
  clear cR_0_3
  clear cR_1_0
  clear cR_1_1
  clear cR_1_2
  clear cR_1_3
  clear cR_2_0
  clear cR_2_1
  go_wp2_with fail
  (with_reducible refine (K2.out _ _ hSb).mono ?_); rintro e w2 ⟨rfl, hg⟩
  obtain ⟨hcl, hfr⟩ := grown_cells hg
  have zw2_0 : w.heap.size < w2.heap.size := Nat.lt_of_lt_of_le (by first | omega | (simp; omega)) hg.size
  have new2_0 : w.heap.size ≠ w.heap.size + 1 + 1 + 1 := by omega
  have cw2_0_0 : w2.cell? ⟨w.heap.size, 0, none⟩ = some (.int .i64 axh) := by rw [hcl _ _ (by omega) new2_0]; assumption
  have cw2_0_1 : w2.cell? ⟨w.heap.size, 1, none⟩ = some (.int .u64 axl) := by rw [hcl _ _ (by omega) new2_0]; assumption
  have cw2_0_2 : w2.cell? ⟨w.heap.size, 2, none⟩ = some (.int .i64 ayh) := by rw [hcl _ _ (by omega) new2_0]; assumption
  have cw2_0_3 : w2.cell? ⟨w.heap.size, 3, none⟩ = some (.int .u64 ayl) := by rw [hcl _ _ (by omega) new2_0]; assumption
  have zw2_1 : w.heap.size + 1 < w2.heap.size := Nat.lt_of_lt_of_le (by first | omega | (simp; omega)) hg.size
  have new2_1 : w.heap.size + 1 ≠ w.heap.size + 1 + 1 + 1 := by omega
  have cw2_1_0 : w2.cell? ⟨w.heap.size + 1, 0, none⟩ = some (.int .i64 bxh) := by rw [hcl _ _ (by omega) new2_1]; assumption
  have cw2_1_1 : w2.cell? ⟨w.heap.size + 1, 1, none⟩ = some (.int .u64 bxl) := by rw [hcl _ _ (by omega) new2_1]; assumption
  have cw2_1_2 : w2.cell? ⟨w.heap.size + 1, 2, none⟩ = some (.int .i64 byh) := by rw [hcl _ _ (by omega) new2_1]; assumption
  have cw2_1_3 : w2.cell? ⟨w.heap.size + 1, 3, none⟩ = some (.int .u64 byl) := by rw [hcl _ _ (by omega) new2_1]; assumption
  have zw2_2 : w.heap.size + 1 + 1 < w2.heap.size := Nat.lt_of_lt_of_le (by first | omega | (simp; omega)) hg.size
  have new2_2 : w.heap.size + 1 + 1 ≠ w.heap.size + 1 + 1 + 1 := by omega
  have cw2_2_0 : w2.cell? ⟨w.heap.size + 1 + 1, 0, none⟩ = some (.int .i64 0) := by rw [hcl _ _ (by omega) new2_2]; assumption
  have cw2_2_1 : w2.cell? ⟨w.heap.size + 1 + 1, 1, none⟩ = some (.int .u64 0) := by rw [hcl _ _ (by omega) new2_2]; assumption
  have fw2_2 : ∀ j, w2.frozen? ⟨w.heap.size + 1 + 1, j, none⟩ = false := fun j => by rw [hfr _ _ (by omega) new2_2]; first | exact fR_2 j | exact fS_2 j | (simp [*]; done)
  have zw2_3 : w1.heap.size < w2.heap.size := Nat.lt_of_lt_of_le (by first | omega | (simp; omega)) hg.size
  have new2_3 : w1.heap.size ≠ w.heap.size + 1 + 1 + 1 := by omega
  have cw2_3_0 : w2.cell? ⟨w1.heap.size, 0, none⟩ = some (.int .i64 mh) := by rw [hcl _ _ (by omega) new2_3]; assumption
  have cw2_3_1 : w2.cell? ⟨w1.heap.size, 1, none⟩ = some (.int .u64 ml) := by rw [hcl _ _ (by omega) new2_3]; assumption
  have HBw2 : Hid (Below w.heap.size w w2) := Below.grown (Hid.out (by assumption)) hg (by omega) (fun k hk => by cases hk; omega)
  have zzw2 : w.heap.size + 1 + 1 + 1 < w2.heap.size := Nat.lt_of_lt_of_le (by omega) hg.size
  clear hg hcl hfr
  go_wp2_with fail
  (with_reducible refine (K3.out _).mono ?_); rintro e w3 ⟨rfl, hb⟩
  obtain ⟨hcl, hfr⟩ := bcell hb
  have zw3_0 : w.heap.size + 1 + 1 < w3.heap.size := by have hz := hb.size; (try simp at hz); omega
  have cw3_0_0 : w3.cell? ⟨w.heap.size + 1 + 1, 0, none⟩ = some (.int .i64 0) := by rw [hcl _ _ (by first | omega | (simp; done) | (simp; omega))]; simp [go_sem, *]
  have cw3_0_1 : w3.cell? ⟨w.heap.size + 1 + 1, 1, none⟩ = some (.int .u64 0) := by rw [hcl _ _ (by first | omega | (simp; done) | (simp; omega))]; simp [go_sem, *]
  have fw3_0 : ∀ j, w3.frozen? ⟨w.heap.size + 1 + 1, j, none⟩ = false := fun j => by rw [hfr _ _ (by first | omega | (simp; done) | (simp; omega))]; first | (simp [go_sem, *]; done) | (simp only [frozen?_alloc_cells]; simp [World.frozen?, *]; done) | (simp [frozen?_alloc_cells, World.frozen?, *]; done)
  have HBw3 : Hid (Below w.heap.size w w3) := bl_trans (by repeat (first | with_reducible exact Below.refl _ _ | with_reducible exact Hid.out (by assumption) | with_reducible refine Below.setCell ?_ (by first | (simp; done) | omega | (simp <;> omega)) _ | with_reducible refine bl_al ?_ _ | with_reducible apply Below.drew)) hb
  clear hb hcl hfr
  go_wp2_with fail
  refine bodyPost_ret (by simp [results, Try.results25, go_sem, *]; try rfl) rfl ?_
  exact ⟨rfl, by repeat (first | with_reducible exact Below.refl _ _ | with_reducible exact Hid.out (by assumption) | with_reducible refine Below.setCell ?_ (by first | (simp; done) | omega | (simp <;> omega)) _ | with_reducible refine bl_al ?_ _ | with_reducible apply Below.drew)⟩
set_option maxRecDepth 20000 in
set_option maxHeartbeats 8000000 in
theorem len2_core (axh axl ayh ayl rh rl ee : Int) (w : World)
    (C1 : ∀ W, Calls Try.prog 25 #[.agg #[.int .i64 axh, .int .u64 axl, .int .i64 ayh, .int .u64 ayl], .agg #[.int .i64 axh, .int .u64 axl, .int .i64 ayh, .int .u64 ayl]] W fun e w' => e = .returned (.tuple #[.agg #[.int .i64 rh, .int .u64 rl], .int .i64 ee]) ∧ Below W.heap.size W w') :
    Calls Try.prog 26 #[.agg #[.int .i64 axh, .int .u64 axl, .int .i64 ayh, .int .u64 ayl]] w fun e w' => e = .returned (.tuple #[.agg #[.int .i64 rh, .int .u64 rl], .int .i64 ee]) ∧ Below w.heap.size w w' := by
  have K1 := Lib.hid C1
  clear C1
  go_enter Try.func26, Try.ntmps26
  go_wp2_with fail
  (with_reducible refine (K1.out _).mono ?_); rintro e w1 ⟨rfl, hb⟩
  obtain ⟨hcl, hfr⟩ := bcell hb
  have zw1_0 : w.heap.size + 1 < w1.heap.size := by have hz := hb.size; (try simp at hz); omega
  have cw1_0_0 : w1.cell? ⟨w.heap.size + 1, 0, none⟩ = some (.int .i64 0) := by rw [hcl _ _ (by first | omega | (simp; done) | (simp; omega))]; simp [go_sem, *]
  have cw1_0_1 : w1.cell? ⟨w.heap.size + 1, 1, none⟩ = some (.int .u64 0) := by rw [hcl _ _ (by first | omega | (simp; done) | (simp; omega))]; simp [go_sem, *]
  have fw1_0 : ∀ j, w1.frozen? ⟨w.heap.size + 1, j, none⟩ = false := fun j => by rw [hfr _ _ (by first | omega | (simp; done) | (simp; omega))]; first | (simp [go_sem, *]; done) | (simp only [frozen?_alloc_cells]; simp [World.frozen?, *]; done) | (simp [frozen?_alloc_cells, World.frozen?, *]; done)
  have HBw1 : Hid (Below w.heap.size w w1) := bl_trans (by repeat (first | with_reducible exact Below.refl _ _ | with_reducible exact Hid.out (by assumption) | with_reducible refine Below.setCell ?_ (by first | (simp; done) | omega | (simp <;> omega)) _ | with_reducible refine bl_al ?_ _ | with_reducible apply Below.drew)) hb
  clear hb hcl hfr
  go_wp2_with fail
  refine bodyPost_ret (by simp [results, Try.results26, go_sem, *]; try rfl) rfl ?_
  exact ⟨rfl, by repeat (first | with_reducible exact Below.refl _ _ | with_reducible exact Hid.out (by assumption) | with_reducible refine Below.setCell ?_ (by first | (simp; done) | omega | (simp <;> omega)) _ | with_reducible refine bl_al ?_ _ | with_reducible apply Below.drew)⟩
set_option maxRecDepth 20000 in
set_option maxHeartbeats 8000000 in
theorem len_err (axh axl ayh ayl rh rl ee : Int) (he : ¬ ee = 0) (w : World)
    (C1 : ∀ W, Calls Try.prog 26 #[.agg #[.int .i64 axh, .int .u64 axl, .int .i64 ayh, .int .u64 ayl]] W fun e w' => e = .returned (.tuple #[.agg #[.int .i64 rh, .int .u64 rl], .int .i64 ee]) ∧ Below W.heap.size W w') :
    Calls Try.prog 27 #[.agg #[.int .i64 axh, .int .u64 axl, .int .i64 ayh, .int .u64 ayl]] w fun e w' => e = .returned (.tuple #[.agg #[.int .i64 0, .int .u64 0], .int .i64 ee]) ∧ Below w.heap.size w w' := by
  have K1 := Lib.hid C1
  clear C1
  go_enter Try.func27, Try.ntmps27
  go_wp2_with fail
  (with_reducible refine (K1.out _).mono ?_); rintro e w1 ⟨rfl, hb⟩
  obtain ⟨hcl, hfr⟩ := bcell hb
  have zw1_0 : w.heap.size + 1 < w1.heap.size := by have hz := hb.size; (try simp at hz); omega
  have cw1_0_0 : w1.cell? ⟨w.heap.size + 1, 0, none⟩ = some (.int .i64 0) := by rw [hcl _ _ (by first | omega | (simp; done) | (simp; omega))]; simp [go_sem, *]
  have cw1_0_1 : w1.cell? ⟨w.heap.size + 1, 1, none⟩ = some (.int .u64 0) := by rw [hcl _ _ (by first | omega | (simp; done) | (simp; omega))]; simp [go_sem, *]
  have fw1_0 : ∀ j, w1.frozen? ⟨w.heap.size + 1, j, none⟩ = false := fun j => by rw [hfr _ _ (by first | omega | (simp; done) | (simp; omega))]; first | (simp [go_sem, *]; done) | (simp only [frozen?_alloc_cells]; simp [World.frozen?, *]; done) | (simp [frozen?_alloc_cells, World.frozen?, *]; done)
  have HBw1 : Hid (Below w.heap.size w w1) := bl_trans (by repeat (first | with_reducible exact Below.refl _ _ | with_reducible exact Hid.out (by assumption) | with_reducible refine Below.setCell ?_ (by first | (simp; done) | omega | (simp <;> omega)) _ | with_reducible refine bl_al ?_ _ | with_reducible apply Below.drew)) hb
  clear hb hcl hfr
  go_wp2_with fail
  refine bodyPost_ret (by simp [results, Try.results27, go_sem, *]; try rfl) rfl ?_
  exact ⟨rfl, by repeat (first | with_reducible exact Below.refl _ _ | with_reducible exact Hid.out (by assumption) | with_reducible refine Below.setCell ?_ (by first | (simp; done) | omega | (simp <;> omega)) _ | with_reducible refine bl_al ?_ _ | with_reducible apply Below.drew)⟩
set_option maxRecDepth 20000 in
set_option maxHeartbeats 8000000 in
theorem len_core (axh axl ayh ayl rh rl sh sl ee ef : Int) (he : ee = 0) (w : World)
    (C1 : ∀ W, Calls Try.prog 26 #[.agg #[.int .i64 axh, .int .u64 axl, .int .i64 ayh, .int .u64 ayl]] W fun e w' => e = .returned (.tuple #[.agg #[.int .i64 rh, .int .u64 rl], .int .i64 ee]) ∧ Below W.heap.size W w')
    (C2 : ∀ W, Calls Try.prog 60 #[.agg #[.int .i64 rh, .int .u64 rl]] W fun e w' => e = .returned (.tuple #[.agg #[.int .i64 sh, .int .u64 sl], .int .i64 ef]) ∧ Below W.heap.size W w') :
    Calls Try.prog 27 #[.agg #[.int .i64 axh, .int .u64 axl, .int .i64 ayh, .int .u64 ayl]] w fun e w' => e = .returned (.tuple #[.agg #[.int .i64 sh, .int .u64 sl], .int .i64 ef]) ∧ Below w.heap.size w w' := by
  subst he
  have K1 := Lib.hid C1; have K2 := Lib.hid C2
  clear C1 C2
  go_enter Try.func27, Try.ntmps27
  go_wp2_with fail
  (with_reducible refine (K1.out _).mono ?_); rintro e w1 ⟨rfl, hb⟩
  obtain ⟨hcl, hfr⟩ := bcell hb
  have zw1_0 : w.heap.size + 1 < w1.heap.size := by have hz := hb.size; (try simp at hz); omega
  have cw1_0_0 : w1.cell? ⟨w.heap.size + 1, 0, none⟩ = some (.int .i64 0) := by rw [hcl _ _ (by first | omega | (simp; done) | (simp; omega))]; simp [go_sem, *]
  have cw1_0_1 : w1.cell? ⟨w.heap.size + 1, 1, none⟩ = some (.int .u64 0) := by rw [hcl _ _ (by first | omega | (simp; done) | (simp; omega))]; simp [go_sem, *]
  have fw1_0 : ∀ j, w1.frozen? ⟨w.heap.size + 1, j, none⟩ = false := fun j => by rw [hfr _ _ (by first | omega | (simp; done) | (simp; omega))]; first | (simp [go_sem, *]; done) | (simp only [frozen?_alloc_cells]; simp [World.frozen?, *]; done) | (simp [frozen?_alloc_cells, World.frozen?, *]; done)
  have HBw1 : Hid (Below w.heap.size w w1) := bl_trans (by repeat (first | with_reducible exact Below.refl _ _ | with_reducible exact Hid.out (by assumption) | with_reducible refine Below.setCell ?_ (by first | (simp; done) | omega | (simp <;> omega)) _ | with_reducible refine bl_al ?_ _ | with_reducible apply Below.drew)) hb
  clear hb hcl hfr
  go_wp2_with fail
  (with_reducible refine (K2.out _).mono ?_); rintro e w2 ⟨rfl, hb⟩
  obtain ⟨hcl, hfr⟩ := bcell hb
  have zw2_0 : w.heap.size + 1 < w2.heap.size := by have hz := hb.size; (try simp at hz); omega
  have cw2_0_0 : w2.cell? ⟨w.heap.size + 1, 0, none⟩ = some (.int .i64 0) := by rw [hcl _ _ (by first | omega | (simp; done) | (simp; omega))]; simp [go_sem, *]
  have cw2_0_1 : w2.cell? ⟨w.heap.size + 1, 1, none⟩ = some (.int .u64 0) := by rw [hcl _ _ (by first | omega | (simp; done) | (simp; omega))]; simp [go_sem, *]
  have fw2_0 : ∀ j, w2.frozen? ⟨w.heap.size + 1, j, none⟩ = false := fun j => by rw [hfr _ _ (by first | omega | (simp; done) | (simp; omega))]; first | (simp [go_sem, *]; done) | (simp only [frozen?_alloc_cells]; simp [World.frozen?, *]; done) | (simp [frozen?_alloc_cells, World.frozen?, *]; done)
  have HBw2 : Hid (Below w.heap.size w w2) := bl_trans (by repeat (first | with_reducible exact Below.refl _ _ | with_reducible exact Hid.out (by assumption) | with_reducible refine Below.setCell ?_ (by first | (simp; done) | omega | (simp <;> omega)) _ | with_reducible refine bl_al ?_ _ | with_reducible apply Below.drew)) hb
  clear hb hcl hfr
  go_wp2_with fail
  refine bodyPost_ret (by simp [results, Try.results27, go_sem, *]; try rfl) rfl ?_
  exact ⟨rfl, by repeat (first | with_reducible exact Below.refl _ _ | with_reducible exact Hid.out (by assumption) | with_reducible refine Below.setCell ?_ (by first | (simp; done) | omega | (simp <;> omega)) _ | with_reducible refine bl_al ?_ _ | with_reducible apply Below.drew)⟩
end Go.Proofs.Ytgiamnehncbihaa
namespace Go.Proofs.Ytgiamnehncbihaa
open Go.RowKit
open Go.ChangeMaps (setBlock)
/-- The error of two steps, X ahead of Y; what they tell together. -/
def ve (p q : Int) : Int := if oe p = 0 then oe q else oe p
def vx (p q : Int) : Int := if ve p q = 0 then p else 0
def vy (p q : Int) : Int := if ve p q = 0 then q else 0
theorem oe_my {p : Int} (h : oe p = 0) : My p := by
  by_cases m : My p
  · exact m
  · rw [oe_out m] at h; omega
theorem oe_zero_iff (p : Int) : oe p = 0 ↔ My p := ⟨oe_my, oe_in⟩
theorem ve_out {p q : Int} (h : ¬ oe p = 0) : ve p q = oe p ∧ vx p q = 0 ∧ vy p q = 0 := by
  have e : ve p q = oe p := if_neg h
  exact ⟨e, if_neg (by rw [e]; exact h), if_neg (by rw [e]; exact h)⟩
theorem ve_mid {p q : Int} (h : oe p = 0) (g : ¬ oe q = 0) : ve p q = oe q ∧ vx p q = 0 ∧ vy p q = 0 := by
  have e : ve p q = oe q := if_pos h
  exact ⟨e, if_neg (by rw [e]; exact g), if_neg (by rw [e]; exact g)⟩
theorem ve_in {p q : Int} (h : oe p = 0) (g : oe q = 0) : ve p q = 0 ∧ vx p q = p ∧ vy p q = q := by
  have e : ve p q = 0 := (if_pos h).trans g
  exact ⟨e, if_pos e, if_pos e⟩
theorem zero_words : fh 0 = 0 ∧ fl 0 = 0 := by decide
theorem vec_zero : vec 0 0 = .agg #[.int .i64 0, .int .u64 0, .int .i64 0, .int .u64 0] := by unfold vec; rw [zero_words.1, zero_words.2]
theorem eachAdd_any (ax ay bx by_ : Int) (hax : My ax) (hay : My ay) (hbx : My bx) (hby : My by_) (w : World) :
    Calls Try.prog 55 #[.func (.func 56) #[] #[], vec ax ay, vec bx by_] w fun e w' => e = .returned (.tuple #[vec (vx (ax + bx) (ay + by_)) (vy (ax + bx) (ay + by_)), .int .i64 (ve (ax + bx) (ay + by_))]) ∧ Below w.heap.size w w' := by
  have CX := fadd_any ax bx hax hbx
  have CY := fadd_any ay by_ hay hby
  obtain ⟨p, hp⟩ : ∃ p, p = ax + bx := ⟨_, rfl⟩
  obtain ⟨q, hq⟩ : ∃ q, q = ay + by_ := ⟨_, rfl⟩
  rw [← hp] at CX ⊢
  rw [← hq] at CY ⊢
  by_cases c1 : oe p = 0
  · by_cases c2 : oe q = 0
    · obtain ⟨e1, e2, e3⟩ := ve_in c1 c2
      rw [e1, e2, e3]
      rw [ov_in (oe_my c1)] at CX
      rw [ov_in (oe_my c2)] at CY
      exact eachAdd_ok _ _ _ _ _ _ _ _ _ _ _ _ _ _ c1 c2 w CX CY
    · obtain ⟨e1, e2, e3⟩ := ve_mid c1 c2
      rw [e1, e2, e3, vec_zero]
      exact eachAdd_y _ _ _ _ _ _ _ _ _ _ _ _ _ _ c1 c2 w CX CY
  · obtain ⟨e1, e2, e3⟩ := ve_out (q := q) c1
    rw [e1, e2, e3, vec_zero]
    exact eachAdd_x _ _ _ _ _ _ _ _ _ _ 0 0 _ 0 c1 w CX
theorem eachSub_any (ax ay bx by_ : Int) (hax : My ax) (hay : My ay) (hbx : My bx) (hby : My by_) (w : World) :
    Calls Try.prog 55 #[.func (.func 57) #[] #[], vec ax ay, vec bx by_] w fun e w' => e = .returned (.tuple #[vec (vx (ax - bx) (ay - by_)) (vy (ax - bx) (ay - by_)), .int .i64 (ve (ax - bx) (ay - by_))]) ∧ Below w.heap.size w w' := by
  have CX := fsub_any ax bx hax hbx
  have CY := fsub_any ay by_ hay hby
  obtain ⟨p, hp⟩ : ∃ p, p = ax - bx := ⟨_, rfl⟩
  obtain ⟨q, hq⟩ : ∃ q, q = ay - by_ := ⟨_, rfl⟩
  rw [← hp] at CX ⊢
  rw [← hq] at CY ⊢
  by_cases c1 : oe p = 0
  · by_cases c2 : oe q = 0
    · obtain ⟨e1, e2, e3⟩ := ve_in c1 c2
      rw [e1, e2, e3]
      rw [ov_in (oe_my c1)] at CX
      rw [ov_in (oe_my c2)] at CY
      exact eachSub_ok _ _ _ _ _ _ _ _ _ _ _ _ _ _ c1 c2 w CX CY
    · obtain ⟨e1, e2, e3⟩ := ve_mid c1 c2
      rw [e1, e2, e3, vec_zero]
      exact eachSub_y _ _ _ _ _ _ _ _ _ _ _ _ _ _ c1 c2 w CX CY
  · obtain ⟨e1, e2, e3⟩ := ve_out (q := q) c1
    rw [e1, e2, e3, vec_zero]
    exact eachSub_x _ _ _ _ _ _ _ _ _ _ 0 0 _ 0 c1 w CX
theorem eachMul_any (ax ay bx by_ : Int) (hax : My ax) (hay : My ay) (hbx : My bx) (hby : My by_) (w : World) :
    Calls Try.prog 55 #[.func (.func 58) #[] #[], vec ax ay, vec bx by_] w fun e w' => e = .returned (.tuple #[vec (vx (mulr ax bx) (mulr ay by_)) (vy (mulr ax bx) (mulr ay by_)), .int .i64 (ve (mulr ax bx) (mulr ay by_))]) ∧ Below w.heap.size w w' := by
  have CX := fmul_any ax bx hax hbx
  have CY := fmul_any ay by_ hay hby
  obtain ⟨p, hp⟩ : ∃ p, p = mulr ax bx := ⟨_, rfl⟩
  obtain ⟨q, hq⟩ : ∃ q, q = mulr ay by_ := ⟨_, rfl⟩
  rw [← hp] at CX ⊢
  rw [← hq] at CY ⊢
  by_cases c1 : oe p = 0
  · by_cases c2 : oe q = 0
    · obtain ⟨e1, e2, e3⟩ := ve_in c1 c2
      rw [e1, e2, e3]
      rw [ov_in (oe_my c1)] at CX
      rw [ov_in (oe_my c2)] at CY
      exact eachMul_ok _ _ _ _ _ _ _ _ _ _ _ _ _ _ c1 c2 w CX CY
    · obtain ⟨e1, e2, e3⟩ := ve_mid c1 c2
      rw [e1, e2, e3, vec_zero]
      exact eachMul_y _ _ _ _ _ _ _ _ _ _ _ _ _ _ c1 c2 w CX CY
  · obtain ⟨e1, e2, e3⟩ := ve_out (q := q) c1
    rw [e1, e2, e3, vec_zero]
    exact eachMul_x _ _ _ _ _ _ _ _ _ _ 0 0 _ 0 c1 w CX
theorem vadd_any (ax ay bx by_ : Int) (hax : My ax) (hay : My ay) (hbx : My bx) (hby : My by_) (w : World) :
    Calls Try.prog 22 #[vec ax ay, vec bx by_] w fun e w' => e = .returned (.tuple #[vec (vx (ax + bx) (ay + by_)) (vy (ax + bx) (ay + by_)), .int .i64 (ve (ax + bx) (ay + by_))]) ∧ Below w.heap.size w w' :=
  vadd_core _ _ _ _ _ _ _ _ _ _ _ _ _ w (eachAdd_any ax ay bx by_ hax hay hbx hby)
theorem vsub_any (ax ay bx by_ : Int) (hax : My ax) (hay : My ay) (hbx : My bx) (hby : My by_) (w : World) :
    Calls Try.prog 23 #[vec ax ay, vec bx by_] w fun e w' => e = .returned (.tuple #[vec (vx (ax - bx) (ay - by_)) (vy (ax - bx) (ay - by_)), .int .i64 (ve (ax - bx) (ay - by_))]) ∧ Below w.heap.size w w' :=
  vsub_core _ _ _ _ _ _ _ _ _ _ _ _ _ w (eachSub_any ax ay bx by_ hax hay hbx hby)
theorem vscale_any (ax ay k : Int) (hax : My ax) (hay : My ay) (hk : My k) (w : World) :
    Calls Try.prog 24 #[vec ax ay, .agg #[.int .i64 (fh k), .int .u64 (fl k)]] w fun e w' => e = .returned (.tuple #[vec (vx (mulr ax k) (mulr ay k)) (vy (mulr ax k) (mulr ay k)), .int .i64 (ve (mulr ax k) (mulr ay k))]) ∧ Below w.heap.size w w' :=
  vscale_core _ _ _ _ _ _ _ _ _ _ _ w (eachMul_any ax ay k k hax hay hk hk)
theorem vneg_any (x y : Int) (hx : My x) (hy : My y) (w : World) :
    Calls Try.prog 28 #[vec x y] w fun e w' => e = .returned (vec (-x) (-y)) ∧ Below w.heap.size w w' :=
  vneg_core _ _ _ _ _ _ _ _ w (neg_any x hx) (neg_any y hy)
theorem vmay_any (x y : Int) (w : World) :
    Calls Try.prog 19 #[vec x y] w fun e w' => e = .returned (.bool (decide (x ≠ -170141183460469231731687303715884105728) && decide (y ≠ -170141183460469231731687303715884105728))) ∧ Below w.heap.size w w' :=
  vmay_core _ _ _ _ _ _ w (may_any x) (may_any y)
theorem rmayvec_any (x y : Int) (w : World) :
    Calls Try.prog 20 #[vec x y] w fun e w' => e = .returned (.bool (decide (x ≠ -170141183460469231731687303715884105728) && decide (y ≠ -170141183460469231731687303715884105728))) ∧ Below w.heap.size w w' :=
  rmayvec_core _ _ _ _ _ _ w (rmay_any x) (rmay_any y)
theorem span_first (x y : Int) (hx : My x) (hy : My y) (W : World) (B : Nat) (hb : W.heap[B]? = some (.map #[] 0)) :
    Calls Try.prog 59 #[.map (some B), vec x y] W fun e' w' => e' = .returned (.tuple #[.agg #[.int .i64 (fh (ov (mulr x y))), .int .u64 (fl (ov (mulr x y)))], .int .i64 (oe (mulr x y))]) ∧ W.grownBy w' (some B) ∧ (oe (mulr x y) = 0 → w'.heap[B]? = some (.map #[⟨vec x y, .agg #[.int .i64 (fh (ov (mulr x y))), .int .u64 (fl (ov (mulr x y)))], 0⟩] 1)) := by
  have CM := fmul_any x y hx hy
  by_cases c : oe (mulr x y) = 0
  · have h := span_miss (fh x) (fl x) (fh y) (fl y) _ _ _ #[] #[⟨vec x y, .agg #[.int .i64 (fh (ov (mulr x y))), .int .u64 (fl (ov (mulr x y)))], 0⟩] B 0 1 W hb c (fun W' h => look_empty h hx.fx hy.fx) (fun W' h => put_empty h hx.fx hy.fx) CM
    refine h.mono fun e' w' ⟨h1, h2, h3⟩ => ⟨by rw [h1, c], h2, fun _ => h3⟩
  · have hm : ¬ My (mulr x y) := fun m => c (oe_in m)
    have h := span_err (fh x) (fl x) (fh y) (fl y) _ _ _ #[] #[] B 0 1 W hb c (fun W' h => look_empty h hx.fx hy.fx) CM
    refine h.mono fun e' w' ⟨h1, h2⟩ => ⟨by rw [h1, ov_out hm, zero_words.1, zero_words.2], h2, fun g => absurd g c⟩
theorem span_second (x1 y1 x y : Int) (hx1 : My x1) (hy1 : My y1) (hx : My x) (hy : My y) (h0 : oe (mulr x1 y1) = 0) (W : World) (B : Nat) (hb : W.heap[B]? = some (.map #[⟨vec x1 y1, .agg #[.int .i64 (fh (ov (mulr x1 y1))), .int .u64 (fl (ov (mulr x1 y1)))], 0⟩] 1)) :
    Calls Try.prog 59 #[.map (some B), vec x y] W fun e' w' => e' = .returned (.tuple #[.agg #[.int .i64 (fh (ov (mulr x y))), .int .u64 (fl (ov (mulr x y)))], .int .i64 (oe (mulr x y))]) ∧ W.grownBy w' (some B) := by
  have CM := fmul_any x y hx hy
  by_cases k : vec x1 y1 = vec x y
  · obtain ⟨rfl, rfl⟩ := vec_inj k
    have h := span_hit (fh x1) (fl x1) (fh y1) (fl y1) _ _ 0 #[⟨vec x1 y1, .agg #[.int .i64 (fh (ov (mulr x1 y1))), .int .u64 (fl (ov (mulr x1 y1)))], 0⟩] #[] B 1 1 W hb (fun W' h => look_same h hx.fx hy.fx)
    exact h.mono fun e' w' ⟨h1, h2⟩ => ⟨by rw [h1, h0], h2⟩
  · by_cases c : oe (mulr x y) = 0
    · have h := span_miss (fh x) (fl x) (fh y) (fl y) _ _ _ #[⟨vec x1 y1, .agg #[.int .i64 (fh (ov (mulr x1 y1))), .int .u64 (fl (ov (mulr x1 y1)))], 0⟩] #[⟨vec x1 y1, .agg #[.int .i64 (fh (ov (mulr x1 y1))), .int .u64 (fl (ov (mulr x1 y1)))], 0⟩, ⟨vec x y, .agg #[.int .i64 (fh (ov (mulr x y))), .int .u64 (fl (ov (mulr x y)))], 1⟩] B 1 2 W hb c (fun W' h => look_other h hx.fx hy.fx hx1.fx hy1.fx k) (fun W' h => put_other h hx.fx hy.fx hx1.fx hy1.fx k) CM
      exact h.mono fun e' w' ⟨h1, h2, _⟩ => ⟨by rw [h1, c], h2⟩
    · have hm : ¬ My (mulr x y) := fun m => c (oe_in m)
      have h := span_err (fh x) (fl x) (fh y) (fl y) _ _ _ #[⟨vec x1 y1, .agg #[.int .i64 (fh (ov (mulr x1 y1))), .int .u64 (fl (ov (mulr x1 y1)))], 0⟩] #[] B 1 1 W hb c (fun W' h => look_other h hx.fx hy.fx hx1.fx hy1.fx k) CM
      exact h.mono fun e' w' ⟨h1, h2⟩ => ⟨by rw [h1, ov_out hm, zero_words.1, zero_words.2], h2⟩
/-- What Dot comes to: its error, its number. -/
def de (p q : Int) : Int := if oe p = 0 then (if oe q = 0 then oe (p + q) else oe q) else oe p
def dv (p q : Int) : Int := if de p q = 0 then p + q else 0
theorem de_3 (p q : Int) : de p q = 0 ∨ de p q = 3 := by
  have h : ∀ x, oe x = 0 ∨ oe x = 3 := fun x => by unfold oe; split; exact Or.inl rfl; exact Or.inr rfl
  unfold de
  split
  · split
    · exact h _
    · exact h _
  · exact h _
theorem de_zero {p q : Int} (h : de p q = 0) : My p ∧ My q ∧ My (p + q) ∧ dv p q = p + q := by
  have h0 := h
  unfold de at h
  split at h
  · rename_i a
    split at h
    · rename_i b
      exact ⟨oe_my a, oe_my b, oe_my h, if_pos h0⟩
    · rename_i b
      exact absurd h b
  · rename_i a
    exact absurd h a
theorem dv_My (p q : Int) : My (dv p q) := by
  by_cases h : de p q = 0
  · obtain ⟨_, _, a, b⟩ := de_zero h; rw [b]; exact a
  · rw [show dv p q = 0 from if_neg h]; exact ⟨by decide, by decide⟩
theorem vdot_any (ax ay bx by_ : Int) (hax : My ax) (hay : My ay) (hbx : My bx) (hby : My by_) (w : World) :
    Calls Try.prog 25 #[vec ax ay, vec bx by_] w fun e w' => e = .returned (.tuple #[.agg #[.int .i64 (fh (dv (mulr ax bx) (mulr ay by_))), .int .u64 (fl (dv (mulr ax bx) (mulr ay by_)))], .int .i64 (de (mulr ax bx) (mulr ay by_))]) ∧ Below w.heap.size w w' := by
  obtain ⟨p, hp⟩ : ∃ p, p = mulr ax bx := ⟨_, rfl⟩
  obtain ⟨q, hq⟩ : ∃ q, q = mulr ay by_ := ⟨_, rfl⟩
  have S1 := span_first ax bx hax hbx
  have S2 := span_second ax bx ay by_ hax hbx hay hby
  rw [← hp] at S1 S2 ⊢
  rw [← hq] at S2 ⊢
  by_cases c1 : oe p = 0
  · by_cases c2 : oe q = 0
    · have e : de p q = oe (p + q) := by unfold de; rw [if_pos c1, if_pos c2]
      have d : dv p q = ov (p + q) := by
        unfold dv; rw [e]
        by_cases c3 : oe (p + q) = 0
        · rw [if_pos c3, ov_in (oe_my c3)]
        · rw [if_neg c3, ov_out (fun m => c3 (oe_in m))]
      rw [e, d]
      have CA := fadd_any p q (oe_my c1) (oe_my c2)
      rw [ov_in (oe_my c1)] at S1 S2
      rw [ov_in (oe_my c2)] at S2
      exact dot_ok _ _ _ _ _ _ _ _ _ _ _ _ _ _ _ _ _ c1 c2 w S1 (S2 c1) CA
    · have e : de p q = oe q := by unfold de; rw [if_pos c1, if_neg c2]
      have d : dv p q = 0 := by unfold dv; rw [e, if_neg c2]
      rw [e, d, zero_words.1, zero_words.2]
      exact dot_y _ _ _ _ _ _ _ _ _ _ _ _ 0 0 _ _ 0 c1 c2 w S1 (S2 c1)
  · have e : de p q = oe p := by unfold de; rw [if_neg c1]
    have d : dv p q = 0 := by unfold dv; rw [e, if_neg c1]
    rw [e, d, zero_words.1, zero_words.2]
    exact dot_x _ _ _ _ _ _ _ _ _ _ 0 0 0 0 _ 0 0 c1 w S1
theorem vlen2_any (ax ay : Int) (hax : My ax) (hay : My ay) (w : World) :
    Calls Try.prog 26 #[vec ax ay] w fun e w' => e = .returned (.tuple #[.agg #[.int .i64 (fh (dv (mulr ax ax) (mulr ay ay))), .int .u64 (fl (dv (mulr ax ax) (mulr ay ay)))], .int .i64 (de (mulr ax ax) (mulr ay ay))]) ∧ Below w.heap.size w w' :=
  len2_core _ _ _ _ _ _ _ w (vdot_any ax ay ax ay hax hay hax hay)
theorem mulr_self (x : Int) : 0 ≤ mulr x x := by
  unfold mulr sg
  have : (decide (x < 0) != decide (x < 0)) = false := by cases decide (x < 0) <;> rfl
  rw [this]
  exact Int.natCast_nonneg _
theorem dv_self (ax ay : Int) : 0 ≤ dv (mulr ax ax) (mulr ay ay) := by
  have := mulr_self ax; have := mulr_self ay
  unfold dv; split <;> omega
/-- What Len comes to. -/
def lv (ax ay : Int) : Int := if de (mulr ax ax) (mulr ay ay) = 0 then sqr (dv (mulr ax ax) (mulr ay ay)) else 0
theorem vlen_any (ax ay : Int) (hax : My ax) (hay : My ay) (w : World) :
    Calls Try.prog 27 #[vec ax ay] w fun e w' => e = .returned (.tuple #[.agg #[.int .i64 (fh (lv ax ay)), .int .u64 (fl (lv ax ay))], .int .i64 (de (mulr ax ax) (mulr ay ay))]) ∧ Below w.heap.size w w' := by
  have L := vlen2_any ax ay hax hay
  by_cases c : de (mulr ax ax) (mulr ay ay) = 0
  · rw [show lv ax ay = sqr (dv (mulr ax ax) (mulr ay ay)) from if_pos c]
    have S := fsqrt_any (dv (mulr ax ax) (mulr ay ay)) (dv_My _ _) (dv_self ax ay)
    have h := len_core _ _ _ _ _ _ _ _ _ _ c w L S
    rw [c]; exact h
  · rw [show lv ax ay = 0 from if_neg c, zero_words.1, zero_words.2]
    exact len_err _ _ _ _ _ _ _ c w L
end Go.Proofs.Ytgiamnehncbihaa
namespace Go.Proofs.Ytgiamnehncbihaa
open Go.RowKit
theorem eq_vec_true (a b c d : Int) (W : World) : (Go.binOp .eql 42 (.agg #[.int .i64 a, .int .u64 b, .int .i64 c, .int .u64 d]) (.agg #[.int .i64 a, .int .u64 b, .int .i64 c, .int .u64 d])).run Try.prog W = .ok (.bool true) W := by
  simp [go_sem]
theorem ne_vec_false (a b c d : Int) (W : World) : (Go.binOp .neq 42 (.agg #[.int .i64 a, .int .u64 b, .int .i64 c, .int .u64 d]) (.agg #[.int .i64 a, .int .u64 b, .int .i64 c, .int .u64 d])).run Try.prog W = .ok (.bool false) W := by
  simp [go_sem]
set_option maxRecDepth 20000 in
set_option maxHeartbeats 60000000 in
theorem vawake_core (ph pl qh ql rh rl : Int)  (w : World)
    (C1 : ∀ W, Calls Try.prog 39 #[.int .i64 3] W fun e w' => e = .returned (.agg #[.int .i64 ph, .int .u64 pl]) ∧ Below W.heap.size W w')
    (C2 : ∀ W, Calls Try.prog 39 #[.int .i64 4] W fun e w' => e = .returned (.agg #[.int .i64 qh, .int .u64 ql]) ∧ Below W.heap.size W w')
    (C3 : ∀ W, Calls Try.prog 27 #[.agg #[.int .i64 ph, .int .u64 pl, .int .i64 qh, .int .u64 ql]] W fun e w' => e = .returned (.tuple #[.agg #[.int .i64 rh, .int .u64 rl], .int .i64 0]) ∧ Below W.heap.size W w')
    (C4 : ∀ W, Calls Try.prog 38 #[.int .i64 0] W fun e w' => e = .returned (.int .i64 0) ∧ Below W.heap.size W w')
    (C5 : ∀ W, Calls Try.prog 39 #[.int .i64 5] W fun e w' => e = .returned (.agg #[.int .i64 rh, .int .u64 rl]) ∧ Below W.heap.size W w') :
    Calls Try.prog 21 #[] w fun e w' => e = .returned (.bool true) ∧ Below w.heap.size w w' := by
  have K1 := Lib.hid C1; have K2 := Lib.hid C2; have K3 := Lib.hid C3; have K4 := Lib.hid C4; have K5 := Lib.hid C5
  clear C1 C2 C3 C4 C5
  have qe := eq_fix_true rh rl
  go_enter Try.func21, Try.ntmps21
  go_wp2_with fail
  (with_reducible refine (K1.out _).mono ?_); rintro e w1 ⟨rfl, hb⟩; obtain ⟨hclw1, hfrw1⟩ := bcell hb; have sxw1_0 : w.heap.size ≤ w1.heap.size := (by first | omega | (have hz := hb.size; (try simp at hz); omega)); have HBw1 : Hid (Below w.heap.size w w1) := (bl_trans (by repeat (first | with_reducible exact Below.refl _ _ | with_reducible exact Hid.out (by assumption) | with_reducible refine Below.setCell ?_ (by first | (simp; done) | omega | (simp <;> omega)) _ | with_reducible refine bl_al ?_ _ | with_reducible apply Below.drew)) hb); clear hb
  go_wp2_with fail
  (with_reducible refine (K2.out _).mono ?_); rintro e w2 ⟨rfl, hb⟩; obtain ⟨hclw2, hfrw2⟩ := bcell hb; have sxw2_0 : w1.heap.size ≤ w2.heap.size := (by first | omega | (have hz := hb.size; (try simp at hz); omega)); have HBw2 : Hid (Below w.heap.size w w2) := (bl_trans (by repeat (first | with_reducible exact Below.refl _ _ | with_reducible exact Hid.out (by assumption) | with_reducible refine Below.setCell ?_ (by first | (simp; done) | omega | (simp <;> omega)) _ | with_reducible refine bl_al ?_ _ | with_reducible apply Below.drew)) hb); clear hb
  go_wp2_with fail
  (with_reducible refine (K3.out _).mono ?_); rintro e w3 ⟨rfl, hb⟩; obtain ⟨hclw3, hfrw3⟩ := bcell hb; have sxw3_0 : w2.heap.size ≤ w3.heap.size := (by first | omega | (have hz := hb.size; (try simp at hz); omega)); have HBw3 : Hid (Below w.heap.size w w3) := (bl_trans (by repeat (first | with_reducible exact Below.refl _ _ | with_reducible exact Hid.out (by assumption) | with_reducible refine Below.setCell ?_ (by first | (simp; done) | omega | (simp <;> omega)) _ | with_reducible refine bl_al ?_ _ | with_reducible apply Below.drew)) hb); clear hb
  go_upto_region 2 with fail
  refine name_world (P := fun W => Code.wp _ _ _ _ W) _ (fun R1 hR1 => ?_)
  have zR1_r : w3.heap.size < R1.heap.size := by rw [hR1]; first | omega | (simp <;> omega)
  have yR1_r : w3.heap.size < R1.heap.size + 1 := by omega
  have yyR1_r : w3.heap.size < R1.heap.size + 1 + 1 := by omega
  have cR1_r_0 : R1.cell? ⟨w3.heap.size, 0, none⟩ = some (.int .i64 rh) := by rw [hR1]; first | assumption | (simp [go_sem, *]; done)
  have cR1_r_1 : R1.cell? ⟨w3.heap.size, 1, none⟩ = some (.int .u64 rl) := by rw [hR1]; first | assumption | (simp [go_sem, *]; done)
  have HBR1 : Hid (Below w.heap.size w R1) := by rw [hR1]; show Below _ _ _; exact (by repeat (first | with_reducible exact Below.refl _ _ | with_reducible exact Hid.out (by assumption) | with_reducible refine Below.setCell ?_ (by first | (simp; done) | omega | (simp <;> omega)) _ | with_reducible refine bl_al ?_ _ | with_reducible apply Below.drew))
  clear hR1
  clear sxw1_0 hclw1 hfrw1 HBw1 sxw2_0 hclw2 hfrw2 HBw2 sxw3_0 hclw3 hfrw3 HBw3
  go_region_held3 (fun w' => w'.cell? ⟨w3.heap.size, 0, none⟩ = some (.int .i64 rh) ∧ w'.cell? ⟨w3.heap.size, 1, none⟩ = some (.int .u64 rl)) (first | (simp [*, go_sem]; done) | (simp [*, go_sem, World.cell?_alloc_past]; done))
    (first
      | (go_at_call 38; (with_reducible refine (K4.out _).mono ?_); rintro e w4 ⟨rfl, hb⟩; (first | (with_reducible (obtain ⟨hclw4, hfrw4⟩ := bcell_drew hb)) | (obtain ⟨hclw4, hfrw4⟩ := bcell hb)); have zw4_r : w3.heap.size < w4.heap.size := (by first | omega | (have hz := hb.size; (try simp at hz); omega)); have yw4_r : w3.heap.size < w4.heap.size + 1 := (by omega); have yyw4_r : w3.heap.size < w4.heap.size + 1 + 1 := (by omega); have sxw4_0 : R1.heap.size ≤ w4.heap.size := (by first | omega | (have hz := hb.size; (try simp at hz); omega)); have HBw4 : Hid (Below w.heap.size w w4) := (bl_trans (by repeat (first | with_reducible exact Below.refl _ _ | with_reducible exact Hid.out (by assumption) | with_reducible refine Below.setCell ?_ (by first | (simp; done) | omega | (simp <;> omega)) _ | with_reducible refine bl_al ?_ _ | with_reducible apply Below.drew)) hb); clear hb; clear K4)
      | (go_at_call 39; (with_reducible refine (K5.out _).mono ?_); rintro e w5 ⟨rfl, hb⟩; obtain ⟨hclw5, hfrw5⟩ := bcell hb; have zw5_r : w3.heap.size < w5.heap.size := (by first | omega | (have hz := hb.size; (try simp at hz); omega)); have yw5_r : w3.heap.size < w5.heap.size + 1 := (by omega); have yyw5_r : w3.heap.size < w5.heap.size + 1 + 1 := (by omega); have sxw5_0 : R1.heap.size ≤ w5.heap.size := (by first | omega | (have hz := hb.size; (try simp at hz); omega)); have sxw5_w4 : w4.heap.size ≤ w5.heap.size := (by first | omega | (have hz := hb.size; (try simp at hz); omega)); have HBw5 : Hid (Below w.heap.size w w5) := (bl_trans (by repeat (first | with_reducible exact Below.refl _ _ | with_reducible exact Hid.out (by assumption) | with_reducible refine Below.setCell ?_ (by first | (simp; done) | omega | (simp <;> omega)) _ | with_reducible refine bl_al ?_ _ | with_reducible apply Below.drew)) hb); clear hb; clear K5))
  rename_i hHeld
  clear hHeld
  go_wp2_with fail
  go_returns
  exact ⟨rfl, by repeat (first | with_reducible exact Below.refl _ _ | with_reducible exact Hid.out (by assumption) | with_reducible refine Below.setCell ?_ (by first | (simp; done) | omega | (simp <;> omega)) _ | with_reducible refine bl_al ?_ _ | with_reducible apply Below.drew)⟩
theorem sqr_five : sqr 461168601842738790400 = 92233720368547758080 := by
  unfold sqr
  rw [show (461168601842738790400 : Int).toNat * 18446744073709551616 = 92233720368547758080 * 92233720368547758080 by decide, isq_of (Nat.le_refl _) (by omega)]
  rfl
theorem three_my : My 55340232221128654848 ∧ My 73786976294838206464 ∧ My 92233720368547758080 := by unfold My; omega
theorem vawake_any (w : World) : Calls Try.prog 21 #[] w fun e w' => e = .returned (.bool true) ∧ Below w.heap.size w w' := by
  have L := vlen_any 55340232221128654848 73786976294838206464 three_my.1 three_my.2.1
  have e1 : de (mulr 55340232221128654848 55340232221128654848) (mulr 73786976294838206464 73786976294838206464) = 0 := by decide
  have e2 : lv 55340232221128654848 73786976294838206464 = 92233720368547758080 := by
    unfold lv; rw [if_pos e1, (de_zero e1).2.2.2]
    have e3 : mulr 55340232221128654848 55340232221128654848 + mulr 73786976294838206464 73786976294838206464 = 461168601842738790400 := by decide
    rw [e3]; exact sqr_five
  rw [e1, e2] at L
  have i3 := rint_any 3; have i4 := rint_any 4; have i5 := rint_any 5
  rw [show intr 3 = 55340232221128654848 by decide] at i3
  rw [show intr 4 = 73786976294838206464 by decide] at i4
  rw [show intr 5 = 92233720368547758080 by decide] at i5
  exact vawake_core _ _ _ _ _ _ w i3 i4 L (num_any 0) i5
theorem rmv_true {x y : Int} (hx : My x) (hy : My y) (w : World) : Calls Try.prog 20 #[vec x y] w fun e w' => e = .returned (.bool true) ∧ Below w.heap.size w w' := by
  have h := rmayvec_any x y w
  rw [decide_eq_true (show x ≠ -170141183460469231731687303715884105728 by unfold My at hx; omega), decide_eq_true (show y ≠ -170141183460469231731687303715884105728 by unfold My at hy; omega)] at h; exact h
theorem rmv_false {x y : Int} (hx : Fx x) (hy : Fx y) (n : ¬ (My x ∧ My y)) (w : World) : Calls Try.prog 20 #[vec x y] w fun e w' => e = .returned (.bool false) ∧ Below w.heap.size w w' := by
  have h := rmayvec_any x y w
  by_cases mx : My x
  · have my : ¬ My y := fun g => n ⟨mx, g⟩
    rw [decide_eq_false (show ¬ y ≠ -170141183460469231731687303715884105728 by unfold My at my; unfold Fx at hy; omega), Bool.and_false] at h; exact h
  · rw [decide_eq_false (show ¬ x ≠ -170141183460469231731687303715884105728 by unfold My at mx; unfold Fx at hx; omega)] at h; exact h
end Go.Proofs.Ytgiamnehncbihaa
