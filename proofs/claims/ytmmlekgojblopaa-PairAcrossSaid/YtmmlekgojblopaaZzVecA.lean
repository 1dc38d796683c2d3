/- What the laws of vec want beside their walks: equality of ways, the law's own awake. -/
import Derived.Test.YtmmlekgojblopaaZzFixA
import Derived.Test.YtmmlekgojblopaaZzLimC
import Derived.Maps.Own
import Derived.MapViews
import Derived.DeepKeys4
import Derived.Test.YtmmlekgojblopaaZzFixB
import Derived.Test.YtmmlekgojblopaaZzLimA
import Derived.Carry
import Derived.Test.YtmmlekgojblopaaZzRefA
namespace Go.Proofs.Ytmmlekgojblopaa
open Go.ChangeShapes Go.WideShapes Go.ChangeAt Go.RowKit Go.Joins

theorem cells_vec : Try.prog.cellsOf 26 = 4 := by kernel_rfl
/-- A way as a value. -/
def vec (x y : Int) : Value := .agg #[.int .i64 (fh x), .int .u64 (fl x), .int .i64 (fh y), .int .u64 (fl y)]
section
variable {H : Type} {enc : TypeId × Value → H} {w : World} {base : Nat} {spare : Nat → Bool} {held : Bool}
def vecd (H : Type) (x y : Int) : DataW H := .agg [.agg [.lit (.int .i64 (fh x)), .lit (.int .u64 (fl x))], .agg [.lit (.int .i64 (fh y)), .lit (.int .u64 (fl y))]]
set_option maxRecDepth 20000 in
theorem open_vec {r : Reach} {b0 : Nat} {v : Value} {d : DataW H} {p : List MemPlace} (hv : Value.okWide Try.prog w r b0 26 v) (h : DataW.Trod enc Try.prog w base spare held 26 v d p) :
    ∃ x y : Int, v = vec x y ∧ d = vecd H x y ∧ p = [] ∧ Fx x ∧ Fx y := by
  obtain ⟨cs, rfl, hsz⟩ := okWide_struct Try.underlying26 hv
  obtain ⟨c0, c1, c2, c3, rfl⟩ := array4 (hsz.trans cells_vec)
  obtain ⟨fuel, hf⟩ := h
  obtain ⟨y0, y1, m, e, _, g0, g1⟩ := trod_struct2 Try.underlying26 hf
  simp [Value.cells, cells_fix] at g0 g1
  obtain ⟨a3, a2, rfl, rfl, rfl, k3, k2⟩ := trod_fix g0
  obtain ⟨a1, a0, rfl, rfl, rfl, k1, k0⟩ := trod_fix g1
  simp only [Prod.mk.injEq] at e
  refine ⟨fx a3 a2, fx a1 a0, ?_, ?_, by simpa using e.2, fx_Fx k3 k2, fx_Fx k1 k0⟩
  · unfold vec; rw [fh_fx k2, fl_fx k2, fh_fx k0, fl_fx k0]
  · unfold vecd; rw [fh_fx k2, fl_fx k2, fh_fx k0, fl_fx k0]; exact e.1
set_option maxRecDepth 20000 in
theorem shut_vec {x y : Int} (hx : Fx x) (hy : Fx y) : DataW.Trod enc Try.prog w base spare held 26 (vec x y) (vecd H x y) [] := by
  have := trod_struct2_mk (enc := enc) (w := w) (base := base) (spare := spare) (held := held) (n := 2) (cs := [.int .i64 (fh x), .int .u64 (fl x), .int .i64 (fh y), .int .u64 (fl y)]) (y0 := (.agg [.lit (.int .i64 (fh x)), .lit (.int .u64 (fl x))], [])) (y1 := (.agg [.lit (.int .i64 (fh y)), .lit (.int .u64 (fl y))], [])) Try.underlying26 (by simp [cells_vec])
    (by simpa [cells_fix] using trod_fix_mk 0 (fh_hd hx) (fl_wd x)) (by simpa [cells_fix] using trod_fix_mk 0 (fh_hd hy) (fl_wd y))
  exact ⟨3, by simpa [vec, vecd, Value.cells] using this⟩
end
theorem laidOut : laidOutB Try.prog = true := by kernel_rfl
theorem vec_row : (26 : TypeId) < Try.prog.types.size := of_decide_eq_true (by kernel_rfl)
set_option maxRecDepth 20000 in
theorem vec_wide : (match Try.prog.underlying 26 with | some (.array _ _) | some (.struct _) => true | _ => false) = true := by rw [Try.underlying26]
set_option maxRecDepth 100000 in
theorem vec_law : Maps.Keyed Try.prog 26 := Maps.Keyed.of_law (deep_law_laid laidOut (m := 3) (by omega) vec_row (by kernel_rfl) vec_wide)
theorem vec_deep : Try.prog.keyTypeAt (Try.prog.types.size + 1) 26 = true := by kernel_rfl
set_option maxRecDepth 20000 in
theorem vec_formed (x y : Int) : (vec x y).formed Try.prog 26 = true := by simp [vec, Value.formed, Try.underlying26, cells_vec]
set_option maxRecDepth 100000 in
theorem vec_key (x y : Int) (hx : Fx x) (hy : Fx y) : ∃ l, keyOf Try.prog 26 (vec x y) = some l :=
  ⟨_, (keyOf_asKey (H := Unit) (enc := fun _ => ()) (w := default) (base := 0) (sp := fun _ => false) (held := false) vec_deep vec_wide (vec_formed x y) (shut_vec hx hy)).1⟩
open Go.ChangeMaps (setBlock)
theorem meas_map : Try.prog.underlying 122 = some (.map 26 24) := Try.underlying122
theorem zero_fix (W : World) : (zeroValue 24).run Try.prog W = .ok (.agg #[.int .i64 0, .int .u64 0]) W := by kernel_rfl
section
variable {W : World} {B cl born : Nat} {x y x1 y1 : Int}
theorem look_empty (hb : W.heap[B]? = some (.map #[] cl)) (hx : Fx x) (hy : Fx y) : (Instr.lookup 122 (.map (some B)) (vec x y) true).run Try.prog W = .ok (.tuple #[.agg #[.int .i64 0, .int .u64 0], .bool false]) W := by
  obtain ⟨l, hk⟩ := vec_key x y hx hy
  rcases vec_law.find W hk [] (by simp) with ⟨h1, _⟩ | ⟨j, e, _, h2, _⟩
  · simp [Instr.lookup, run_underlying meas_map, MapKept.run_getObj_map hb, vec_law.check W _ hk, h1, Result.andThen]
  · simp at h2
theorem look_same {v : Value} (hb : W.heap[B]? = some (.map #[⟨vec x y, v, born⟩] cl)) (hx : Fx x) (hy : Fx y) : (Instr.lookup 122 (.map (some B)) (vec x y) true).run Try.prog W = .ok (.tuple #[v, .bool true]) W := by
  obtain ⟨l, hk⟩ := vec_key x y hx hy
  rcases vec_law.find W hk [⟨vec x y, v, born⟩] (by simp [hk]) with ⟨_, h2⟩ | ⟨j, e, h1, h2, _⟩
  · exact absurd rfl (h2 ⟨vec x y, v, born⟩ (by simp))
  · have he : e.val = v := by
      rcases j with _ | j
      · simp at h2; rw [← h2]
      · simp at h2
    simp [Instr.lookup, run_underlying meas_map, MapKept.run_getObj_map hb, vec_law.check W _ hk, h1, he, Result.andThen]
theorem look_other {v : Value} (hb : W.heap[B]? = some (.map #[⟨vec x1 y1, v, born⟩] cl)) (hx : Fx x) (hy : Fx y) (hx1 : Fx x1) (hy1 : Fx y1) (hne : vec x1 y1 ≠ vec x y) : (Instr.lookup 122 (.map (some B)) (vec x y) true).run Try.prog W = .ok (.tuple #[.agg #[.int .i64 0, .int .u64 0], .bool false]) W := by
  obtain ⟨l, hk⟩ := vec_key x y hx hy
  rcases vec_law.find W hk [⟨vec x1 y1, v, born⟩] (by simpa using vec_key x1 y1 hx1 hy1) with ⟨h1, _⟩ | ⟨j, e, _, h2, h3⟩
  · simp [Instr.lookup, run_underlying meas_map, MapKept.run_getObj_map hb, vec_law.check W _ hk, h1, Result.andThen]
  · rcases j with _ | j
    · simp at h2; rw [← h2] at h3; exact absurd h3 hne
    · simp at h2
theorem put_empty {v : Value} (hb : W.heap[B]? = some (.map #[] cl)) (hx : Fx x) (hy : Fx y) : (Instr.mapUpdate 122 (.map (some B)) (vec x y) v).run Try.prog W = .ok () (setBlock W B (.map #[⟨vec x y, v, cl⟩] (cl + 1))) := by
  obtain ⟨l, hk⟩ := vec_key x y hx hy
  rcases vec_law.find W hk [] (by simp) with ⟨h1, _⟩ | ⟨j, e, _, h2, _⟩
  · simp [Instr.mapUpdate, run_underlying meas_map, MapKept.run_getObj_map hb, vec_law.check W false hk, h1, MapKept.run_setObj_map _ hb, Result.andThen, setBlock]
  · simp at h2
theorem put_other {u v : Value} (hb : W.heap[B]? = some (.map #[⟨vec x1 y1, u, born⟩] cl)) (hx : Fx x) (hy : Fx y) (hx1 : Fx x1) (hy1 : Fx y1) (hne : vec x1 y1 ≠ vec x y) : (Instr.mapUpdate 122 (.map (some B)) (vec x y) v).run Try.prog W = .ok () (setBlock W B (.map #[⟨vec x1 y1, u, born⟩, ⟨vec x y, v, cl⟩] (cl + 1))) := by
  obtain ⟨l, hk⟩ := vec_key x y hx hy
  rcases vec_law.find W hk [⟨vec x1 y1, u, born⟩] (by simpa using vec_key x1 y1 hx1 hy1) with ⟨h1, _⟩ | ⟨j, e, _, h2, h3⟩
  · simp [Instr.mapUpdate, run_underlying meas_map, MapKept.run_getObj_map hb, vec_law.check W false hk, h1, MapKept.run_setObj_map _ hb, Result.andThen, setBlock]
  · rcases j with _ | j
    · simp at h2; rw [← h2] at h3; exact absurd h3 hne
    · simp at h2
end
theorem vec_inj {x y x1 y1 : Int} (h : vec x1 y1 = vec x y) : x1 = x ∧ y1 = y := by
  unfold vec at h
  injection h with h
  have e : ∀ i : Nat, (#[Value.int .i64 (fh x1), .int .u64 (fl x1), .int .i64 (fh y1), .int .u64 (fl y1)] : Array Value)[i]? = (#[Value.int .i64 (fh x), .int .u64 (fl x), .int .i64 (fh y), .int .u64 (fl y)] : Array Value)[i]? := fun i => by rw [h]
  have e0 := e 0; have e1 := e 1; have e2 := e 2; have e3 := e 3
  simp at e0 e1 e2 e3
  unfold fh at e0 e2; unfold fl at e1 e3
  exact ⟨by omega, by omega⟩
end Go.Proofs.Ytmmlekgojblopaa
namespace Go.Proofs.Ytmmlekgojblopaa
open Go.RowKit
set_option maxRecDepth 20000 in
set_option maxHeartbeats 8000000 in
theorem rmayvec_core (axh axl ayh ayl : Int) (p q : Bool) (w : World)
    (C1 : Ct 19 #[.agg #[.int .i64 axh, .int .u64 axl]] (.bool p))
    (C2 : Ct 19 #[.agg #[.int .i64 ayh, .int .u64 ayl]] (.bool q)) :
    Calls Try.prog 20 #[.agg #[.int .i64 axh, .int .u64 axl, .int .i64 ayh, .int .u64 ayl]] w fun e w' => e = .returned (.bool (p && q)) ∧ Below w.heap.size w w' := by
  have K1 := Lib.hid C1; have K2 := Lib.hid C2
  clear C1 C2
  cases p
  · clear K2
    go_enter Try.func20, Try.ntmps20
    go_wp2_with fail
    (with_reducible refine cm (K1.out _) fun w1 hcl hfr hb => ?_)
    have HBw1 := hbw (a := w) hb
    clear hb hcl hfr
    go_wp2_with fail
    go_returns
    exact ⟨rfl, HBw1.out⟩
  · rw [Bool.true_and]
    go_enter Try.func20, Try.ntmps20
    go_wp2_with fail
    (with_reducible refine cm (K1.out _) fun w1 hcl hfr hb => ?_)
    have zw1_0 := sz (B := w.heap.size) hb
    have cw1_0_0 : w1.cell? ⟨w.heap.size, 0, none⟩ = some (.int .i64 axh) := ca hcl
    have cw1_0_1 : w1.cell? ⟨w.heap.size, 1, none⟩ = some (.int .u64 axl) := ca hcl
    have cw1_0_2 : w1.cell? ⟨w.heap.size, 2, none⟩ = some (.int .i64 ayh) := ca hcl
    have cw1_0_3 : w1.cell? ⟨w.heap.size, 3, none⟩ = some (.int .u64 ayl) := ca hcl
    have HBw1 := hbw (a := w) hb
    clear hb hcl hfr
    go_wp2_with fail
    (with_reducible refine cm (K2.out _) fun w2 hcl hfr hb => ?_)
    have HBw2 := hbw (a := w) hb
    clear hb hcl hfr
    go_wp2_with fail
    go_returns
    exact ⟨rfl, HBw2.out⟩
set_option maxRecDepth 20000 in
set_option maxHeartbeats 8000000 in
theorem eachAdd_x (axh axl ayh ayl bxh bxl byh byl rh rl _sh _sl ex _ey : Int) (he : ¬ ex = 0) (w : World)
    (C1 : Ct 38 #[.agg #[.int .i64 axh, .int .u64 axl], .agg #[.int .i64 bxh, .int .u64 bxl]] (.tuple #[.agg #[.int .i64 rh, .int .u64 rl], .int .i64 ex])) :
    Calls Try.prog 47 #[.func (.func 38) #[] #[], .agg #[.int .i64 axh, .int .u64 axl, .int .i64 ayh, .int .u64 ayl], .agg #[.int .i64 bxh, .int .u64 bxl, .int .i64 byh, .int .u64 byl]] w fun e w' => e = .returned (.tuple #[.agg #[.int .i64 0, .int .u64 0, .int .i64 0, .int .u64 0], .int .i64 ex]) ∧ Below w.heap.size w w' := by
  have K1 := Lib.hid C1
  clear C1
  go_enter Try.func47, Try.ntmps47
  go_wp2_with fail
  (with_reducible refine cm (K1.out _) fun w1 hcl hfr hb => ?_)
  have zw1_0 := sz (B := w.heap.size + 1 + 1) hb
  have cw1_0_0 : w1.cell? ⟨w.heap.size + 1 + 1, 0, none⟩ = some (.int .i64 0) := ca hcl
  have cw1_0_1 : w1.cell? ⟨w.heap.size + 1 + 1, 1, none⟩ = some (.int .u64 0) := ca hcl
  have cw1_0_2 : w1.cell? ⟨w.heap.size + 1 + 1, 2, none⟩ = some (.int .i64 0) := ca hcl
  have cw1_0_3 : w1.cell? ⟨w.heap.size + 1 + 1, 3, none⟩ = some (.int .u64 0) := ca hcl
  have fw1_0 := fa (b := w.heap.size + 1 + 1) hfr
  have HBw1 := hbw (a := w) hb
  clear hb hcl hfr
  go_wp2_with fail
  refine bodyPost_ret (by simp [results, Try.results47, go_sem, *]; try rfl) rfl ?_
  exact ⟨rfl, bb⟩
set_option maxRecDepth 20000 in
set_option maxHeartbeats 8000000 in
theorem eachAdd_y (axh axl ayh ayl bxh bxl byh byl rh rl sh sl ex ey : Int) (hx : ex = 0) (he : ¬ ey = 0) (w : World)
    (C1 : Ct 38 #[.agg #[.int .i64 axh, .int .u64 axl], .agg #[.int .i64 bxh, .int .u64 bxl]] (.tuple #[.agg #[.int .i64 rh, .int .u64 rl], .int .i64 ex]))
    (C2 : Ct 38 #[.agg #[.int .i64 ayh, .int .u64 ayl], .agg #[.int .i64 byh, .int .u64 byl]] (.tuple #[.agg #[.int .i64 sh, .int .u64 sl], .int .i64 ey])) :
    Calls Try.prog 47 #[.func (.func 38) #[] #[], .agg #[.int .i64 axh, .int .u64 axl, .int .i64 ayh, .int .u64 ayl], .agg #[.int .i64 bxh, .int .u64 bxl, .int .i64 byh, .int .u64 byl]] w fun e w' => e = .returned (.tuple #[.agg #[.int .i64 0, .int .u64 0, .int .i64 0, .int .u64 0], .int .i64 ey]) ∧ Below w.heap.size w w' := by
  subst hx
  have K1 := Lib.hid C1; have K2 := Lib.hid C2
  clear C1 C2
  go_enter Try.func47, Try.ntmps47
  go_wp2_with fail
  (with_reducible refine cm (K1.out _) fun w1 hcl hfr hb => ?_)
  have zw1_0 := sz (B := w.heap.size) hb
  have cw1_0_0 : w1.cell? ⟨w.heap.size, 0, none⟩ = some (.int .i64 axh) := ca hcl
  have cw1_0_1 : w1.cell? ⟨w.heap.size, 1, none⟩ = some (.int .u64 axl) := ca hcl
  have cw1_0_2 : w1.cell? ⟨w.heap.size, 2, none⟩ = some (.int .i64 ayh) := ca hcl
  have cw1_0_3 : w1.cell? ⟨w.heap.size, 3, none⟩ = some (.int .u64 ayl) := ca hcl
  have zw1_1 := sz (B := w.heap.size + 1) hb
  have cw1_1_0 : w1.cell? ⟨w.heap.size + 1, 0, none⟩ = some (.int .i64 bxh) := ca hcl
  have cw1_1_1 : w1.cell? ⟨w.heap.size + 1, 1, none⟩ = some (.int .u64 bxl) := ca hcl
  have cw1_1_2 : w1.cell? ⟨w.heap.size + 1, 2, none⟩ = some (.int .i64 byh) := ca hcl
  have cw1_1_3 : w1.cell? ⟨w.heap.size + 1, 3, none⟩ = some (.int .u64 byl) := ca hcl
  have zw1_2 := sz (B := w.heap.size + 1 + 1) hb
  have cw1_2_0 : w1.cell? ⟨w.heap.size + 1 + 1, 0, none⟩ = some (.int .i64 0) := ca hcl
  have cw1_2_1 : w1.cell? ⟨w.heap.size + 1 + 1, 1, none⟩ = some (.int .u64 0) := ca hcl
  have cw1_2_2 : w1.cell? ⟨w.heap.size + 1 + 1, 2, none⟩ = some (.int .i64 0) := ca hcl
  have cw1_2_3 : w1.cell? ⟨w.heap.size + 1 + 1, 3, none⟩ = some (.int .u64 0) := ca hcl
  have fw1_2 := fa (b := w.heap.size + 1 + 1) hfr
  have HBw1 := hbw (a := w) hb
  clear hb hcl hfr
  go_wp2_with fail
  (with_reducible refine cm (K2.out _) fun w2 hcl hfr hb => ?_)
  have zw2_0 := sz (B := w.heap.size + 1 + 1) hb
  have cw2_0_0 : w2.cell? ⟨w.heap.size + 1 + 1, 0, none⟩ = some (.int .i64 0) := ca hcl
  have cw2_0_1 : w2.cell? ⟨w.heap.size + 1 + 1, 1, none⟩ = some (.int .u64 0) := ca hcl
  have cw2_0_2 : w2.cell? ⟨w.heap.size + 1 + 1, 2, none⟩ = some (.int .i64 0) := ca hcl
  have cw2_0_3 : w2.cell? ⟨w.heap.size + 1 + 1, 3, none⟩ = some (.int .u64 0) := ca hcl
  have fw2_0 := fa (b := w.heap.size + 1 + 1) hfr
  have HBw2 := hbw (a := w) hb
  clear hb hcl hfr
  go_wp2_with fail
  refine bodyPost_ret (by simp [results, Try.results47, go_sem, *]; try rfl) rfl ?_
  exact ⟨rfl, bb⟩
set_option maxRecDepth 20000 in
set_option maxHeartbeats 8000000 in
theorem eachAdd_ok (axh axl ayh ayl bxh bxl byh byl rh rl sh sl ex ey : Int) (hx : ex = 0) (he : ey = 0) (w : World)
    (C1 : Ct 38 #[.agg #[.int .i64 axh, .int .u64 axl], .agg #[.int .i64 bxh, .int .u64 bxl]] (.tuple #[.agg #[.int .i64 rh, .int .u64 rl], .int .i64 ex]))
    (C2 : Ct 38 #[.agg #[.int .i64 ayh, .int .u64 ayl], .agg #[.int .i64 byh, .int .u64 byl]] (.tuple #[.agg #[.int .i64 sh, .int .u64 sl], .int .i64 ey])) :
    Calls Try.prog 47 #[.func (.func 38) #[] #[], .agg #[.int .i64 axh, .int .u64 axl, .int .i64 ayh, .int .u64 ayl], .agg #[.int .i64 bxh, .int .u64 bxl, .int .i64 byh, .int .u64 byl]] w fun e w' => e = .returned (.tuple #[.agg #[.int .i64 rh, .int .u64 rl, .int .i64 sh, .int .u64 sl], .int .i64 0]) ∧ Below w.heap.size w w' := by
  subst hx; subst he
  have K1 := Lib.hid C1; have K2 := Lib.hid C2
  clear C1 C2
  go_enter Try.func47, Try.ntmps47
  go_wp2_with fail
  (with_reducible refine cm (K1.out _) fun w1 hcl hfr hb => ?_)
  have zw1_0 := sz (B := w.heap.size) hb
  have cw1_0_0 : w1.cell? ⟨w.heap.size, 0, none⟩ = some (.int .i64 axh) := ca hcl
  have cw1_0_1 : w1.cell? ⟨w.heap.size, 1, none⟩ = some (.int .u64 axl) := ca hcl
  have cw1_0_2 : w1.cell? ⟨w.heap.size, 2, none⟩ = some (.int .i64 ayh) := ca hcl
  have cw1_0_3 : w1.cell? ⟨w.heap.size, 3, none⟩ = some (.int .u64 ayl) := ca hcl
  have zw1_1 := sz (B := w.heap.size + 1) hb
  have cw1_1_0 : w1.cell? ⟨w.heap.size + 1, 0, none⟩ = some (.int .i64 bxh) := ca hcl
  have cw1_1_1 : w1.cell? ⟨w.heap.size + 1, 1, none⟩ = some (.int .u64 bxl) := ca hcl
  have cw1_1_2 : w1.cell? ⟨w.heap.size + 1, 2, none⟩ = some (.int .i64 byh) := ca hcl
  have cw1_1_3 : w1.cell? ⟨w.heap.size + 1, 3, none⟩ = some (.int .u64 byl) := ca hcl
  have zw1_2 := sz (B := w.heap.size + 1 + 1) hb
  have cw1_2_0 : w1.cell? ⟨w.heap.size + 1 + 1, 0, none⟩ = some (.int .i64 0) := ca hcl
  have cw1_2_1 : w1.cell? ⟨w.heap.size + 1 + 1, 1, none⟩ = some (.int .u64 0) := ca hcl
  have cw1_2_2 : w1.cell? ⟨w.heap.size + 1 + 1, 2, none⟩ = some (.int .i64 0) := ca hcl
  have cw1_2_3 : w1.cell? ⟨w.heap.size + 1 + 1, 3, none⟩ = some (.int .u64 0) := ca hcl
  have fw1_2 := fa (b := w.heap.size + 1 + 1) hfr
  have HBw1 := hbw (a := w) hb
  clear hb hcl hfr
  go_wp2_with fail
  (with_reducible refine cm (K2.out _) fun w2 hcl hfr hb => ?_)
  have zw2_0 := sz (B := w.heap.size + 1 + 1) hb
  have cw2_0_0 : w2.cell? ⟨w.heap.size + 1 + 1, 0, none⟩ = some (.int .i64 0) := ca hcl
  have cw2_0_1 : w2.cell? ⟨w.heap.size + 1 + 1, 1, none⟩ = some (.int .u64 0) := ca hcl
  have cw2_0_2 : w2.cell? ⟨w.heap.size + 1 + 1, 2, none⟩ = some (.int .i64 0) := ca hcl
  have cw2_0_3 : w2.cell? ⟨w.heap.size + 1 + 1, 3, none⟩ = some (.int .u64 0) := ca hcl
  have fw2_0 := fa (b := w.heap.size + 1 + 1) hfr
  have zw2_1 := sz (B := w1.heap.size) hb
  have cw2_1_0 : w2.cell? ⟨w1.heap.size, 0, none⟩ = some (.int .i64 rh) := ca hcl
  have cw2_1_1 : w2.cell? ⟨w1.heap.size, 1, none⟩ = some (.int .u64 rl) := ca hcl
  have HBw2 := hbw (a := w) hb
  clear hb hcl hfr
  go_wp2_with fail
  refine bodyPost_ret (by simp [results, Try.results47, go_sem, *]; try rfl) rfl ?_
  exact ⟨rfl, bb⟩
set_option maxRecDepth 20000 in
set_option maxHeartbeats 8000000 in
theorem eachMul_x (axh axl ayh ayl bxh bxl byh byl rh rl _sh _sl ex _ey : Int) (he : ¬ ex = 0) (w : World)
    (C1 : Ct 37 #[.agg #[.int .i64 axh, .int .u64 axl], .agg #[.int .i64 bxh, .int .u64 bxl]] (.tuple #[.agg #[.int .i64 rh, .int .u64 rl], .int .i64 ex])) :
    Calls Try.prog 47 #[.func (.func 37) #[] #[], .agg #[.int .i64 axh, .int .u64 axl, .int .i64 ayh, .int .u64 ayl], .agg #[.int .i64 bxh, .int .u64 bxl, .int .i64 byh, .int .u64 byl]] w fun e w' => e = .returned (.tuple #[.agg #[.int .i64 0, .int .u64 0, .int .i64 0, .int .u64 0], .int .i64 ex]) ∧ Below w.heap.size w w' := by
  have K1 := Lib.hid C1
  clear C1
  go_enter Try.func47, Try.ntmps47
  go_wp2_with fail
  (with_reducible refine cm (K1.out _) fun w1 hcl hfr hb => ?_)
  have zw1_0 := sz (B := w.heap.size + 1 + 1) hb
  have cw1_0_0 : w1.cell? ⟨w.heap.size + 1 + 1, 0, none⟩ = some (.int .i64 0) := ca hcl
  have cw1_0_1 : w1.cell? ⟨w.heap.size + 1 + 1, 1, none⟩ = some (.int .u64 0) := ca hcl
  have cw1_0_2 : w1.cell? ⟨w.heap.size + 1 + 1, 2, none⟩ = some (.int .i64 0) := ca hcl
  have cw1_0_3 : w1.cell? ⟨w.heap.size + 1 + 1, 3, none⟩ = some (.int .u64 0) := ca hcl
  have fw1_0 := fa (b := w.heap.size + 1 + 1) hfr
  have HBw1 := hbw (a := w) hb
  clear hb hcl hfr
  go_wp2_with fail
  refine bodyPost_ret (by simp [results, Try.results47, go_sem, *]; try rfl) rfl ?_
  exact ⟨rfl, bb⟩
set_option maxRecDepth 20000 in
set_option maxHeartbeats 8000000 in
theorem eachMul_y (axh axl ayh ayl bxh bxl byh byl rh rl sh sl ex ey : Int) (hx : ex = 0) (he : ¬ ey = 0) (w : World)
    (C1 : Ct 37 #[.agg #[.int .i64 axh, .int .u64 axl], .agg #[.int .i64 bxh, .int .u64 bxl]] (.tuple #[.agg #[.int .i64 rh, .int .u64 rl], .int .i64 ex]))
    (C2 : Ct 37 #[.agg #[.int .i64 ayh, .int .u64 ayl], .agg #[.int .i64 byh, .int .u64 byl]] (.tuple #[.agg #[.int .i64 sh, .int .u64 sl], .int .i64 ey])) :
    Calls Try.prog 47 #[.func (.func 37) #[] #[], .agg #[.int .i64 axh, .int .u64 axl, .int .i64 ayh, .int .u64 ayl], .agg #[.int .i64 bxh, .int .u64 bxl, .int .i64 byh, .int .u64 byl]] w fun e w' => e = .returned (.tuple #[.agg #[.int .i64 0, .int .u64 0, .int .i64 0, .int .u64 0], .int .i64 ey]) ∧ Below w.heap.size w w' := by
  subst hx
  have K1 := Lib.hid C1; have K2 := Lib.hid C2
  clear C1 C2
  go_enter Try.func47, Try.ntmps47
  go_wp2_with fail
  (with_reducible refine cm (K1.out _) fun w1 hcl hfr hb => ?_)
  have zw1_0 := sz (B := w.heap.size) hb
  have cw1_0_0 : w1.cell? ⟨w.heap.size, 0, none⟩ = some (.int .i64 axh) := ca hcl
  have cw1_0_1 : w1.cell? ⟨w.heap.size, 1, none⟩ = some (.int .u64 axl) := ca hcl
  have cw1_0_2 : w1.cell? ⟨w.heap.size, 2, none⟩ = some (.int .i64 ayh) := ca hcl
  have cw1_0_3 : w1.cell? ⟨w.heap.size, 3, none⟩ = some (.int .u64 ayl) := ca hcl
  have zw1_1 := sz (B := w.heap.size + 1) hb
  have cw1_1_0 : w1.cell? ⟨w.heap.size + 1, 0, none⟩ = some (.int .i64 bxh) := ca hcl
  have cw1_1_1 : w1.cell? ⟨w.heap.size + 1, 1, none⟩ = some (.int .u64 bxl) := ca hcl
  have cw1_1_2 : w1.cell? ⟨w.heap.size + 1, 2, none⟩ = some (.int .i64 byh) := ca hcl
  have cw1_1_3 : w1.cell? ⟨w.heap.size + 1, 3, none⟩ = some (.int .u64 byl) := ca hcl
  have zw1_2 := sz (B := w.heap.size + 1 + 1) hb
  have cw1_2_0 : w1.cell? ⟨w.heap.size + 1 + 1, 0, none⟩ = some (.int .i64 0) := ca hcl
  have cw1_2_1 : w1.cell? ⟨w.heap.size + 1 + 1, 1, none⟩ = some (.int .u64 0) := ca hcl
  have cw1_2_2 : w1.cell? ⟨w.heap.size + 1 + 1, 2, none⟩ = some (.int .i64 0) := ca hcl
  have cw1_2_3 : w1.cell? ⟨w.heap.size + 1 + 1, 3, none⟩ = some (.int .u64 0) := ca hcl
  have fw1_2 := fa (b := w.heap.size + 1 + 1) hfr
  have HBw1 := hbw (a := w) hb
  clear hb hcl hfr
  go_wp2_with fail
  (with_reducible refine cm (K2.out _) fun w2 hcl hfr hb => ?_)
  have zw2_0 := sz (B := w.heap.size + 1 + 1) hb
  have cw2_0_0 : w2.cell? ⟨w.heap.size + 1 + 1, 0, none⟩ = some (.int .i64 0) := ca hcl
  have cw2_0_1 : w2.cell? ⟨w.heap.size + 1 + 1, 1, none⟩ = some (.int .u64 0) := ca hcl
  have cw2_0_2 : w2.cell? ⟨w.heap.size + 1 + 1, 2, none⟩ = some (.int .i64 0) := ca hcl
  have cw2_0_3 : w2.cell? ⟨w.heap.size + 1 + 1, 3, none⟩ = some (.int .u64 0) := ca hcl
  have fw2_0 := fa (b := w.heap.size + 1 + 1) hfr
  have HBw2 := hbw (a := w) hb
  clear hb hcl hfr
  go_wp2_with fail
  refine bodyPost_ret (by simp [results, Try.results47, go_sem, *]; try rfl) rfl ?_
  exact ⟨rfl, bb⟩
set_option maxRecDepth 20000 in
set_option maxHeartbeats 8000000 in
theorem eachMul_ok (axh axl ayh ayl bxh bxl byh byl rh rl sh sl ex ey : Int) (hx : ex = 0) (he : ey = 0) (w : World)
    (C1 : Ct 37 #[.agg #[.int .i64 axh, .int .u64 axl], .agg #[.int .i64 bxh, .int .u64 bxl]] (.tuple #[.agg #[.int .i64 rh, .int .u64 rl], .int .i64 ex]))
    (C2 : Ct 37 #[.agg #[.int .i64 ayh, .int .u64 ayl], .agg #[.int .i64 byh, .int .u64 byl]] (.tuple #[.agg #[.int .i64 sh, .int .u64 sl], .int .i64 ey])) :
    Calls Try.prog 47 #[.func (.func 37) #[] #[], .agg #[.int .i64 axh, .int .u64 axl, .int .i64 ayh, .int .u64 ayl], .agg #[.int .i64 bxh, .int .u64 bxl, .int .i64 byh, .int .u64 byl]] w fun e w' => e = .returned (.tuple #[.agg #[.int .i64 rh, .int .u64 rl, .int .i64 sh, .int .u64 sl], .int .i64 0]) ∧ Below w.heap.size w w' := by
  subst hx; subst he
  have K1 := Lib.hid C1; have K2 := Lib.hid C2
  clear C1 C2
  go_enter Try.func47, Try.ntmps47
  go_wp2_with fail
  (with_reducible refine cm (K1.out _) fun w1 hcl hfr hb => ?_)
  have zw1_0 := sz (B := w.heap.size) hb
  have cw1_0_0 : w1.cell? ⟨w.heap.size, 0, none⟩ = some (.int .i64 axh) := ca hcl
  have cw1_0_1 : w1.cell? ⟨w.heap.size, 1, none⟩ = some (.int .u64 axl) := ca hcl
  have cw1_0_2 : w1.cell? ⟨w.heap.size, 2, none⟩ = some (.int .i64 ayh) := ca hcl
  have cw1_0_3 : w1.cell? ⟨w.heap.size, 3, none⟩ = some (.int .u64 ayl) := ca hcl
  have zw1_1 := sz (B := w.heap.size + 1) hb
  have cw1_1_0 : w1.cell? ⟨w.heap.size + 1, 0, none⟩ = some (.int .i64 bxh) := ca hcl
  have cw1_1_1 : w1.cell? ⟨w.heap.size + 1, 1, none⟩ = some (.int .u64 bxl) := ca hcl
  have cw1_1_2 : w1.cell? ⟨w.heap.size + 1, 2, none⟩ = some (.int .i64 byh) := ca hcl
  have cw1_1_3 : w1.cell? ⟨w.heap.size + 1, 3, none⟩ = some (.int .u64 byl) := ca hcl
  have zw1_2 := sz (B := w.heap.size + 1 + 1) hb
  have cw1_2_0 : w1.cell? ⟨w.heap.size + 1 + 1, 0, none⟩ = some (.int .i64 0) := ca hcl
  have cw1_2_1 : w1.cell? ⟨w.heap.size + 1 + 1, 1, none⟩ = some (.int .u64 0) := ca hcl
  have cw1_2_2 : w1.cell? ⟨w.heap.size + 1 + 1, 2, none⟩ = some (.int .i64 0) := ca hcl
  have cw1_2_3 : w1.cell? ⟨w.heap.size + 1 + 1, 3, none⟩ = some (.int .u64 0) := ca hcl
  have fw1_2 := fa (b := w.heap.size + 1 + 1) hfr
  have HBw1 := hbw (a := w) hb
  clear hb hcl hfr
  go_wp2_with fail
  (with_reducible refine cm (K2.out _) fun w2 hcl hfr hb => ?_)
  have zw2_0 := sz (B := w.heap.size + 1 + 1) hb
  have cw2_0_0 : w2.cell? ⟨w.heap.size + 1 + 1, 0, none⟩ = some (.int .i64 0) := ca hcl
  have cw2_0_1 : w2.cell? ⟨w.heap.size + 1 + 1, 1, none⟩ = some (.int .u64 0) := ca hcl
  have cw2_0_2 : w2.cell? ⟨w.heap.size + 1 + 1, 2, none⟩ = some (.int .i64 0) := ca hcl
  have cw2_0_3 : w2.cell? ⟨w.heap.size + 1 + 1, 3, none⟩ = some (.int .u64 0) := ca hcl
  have fw2_0 := fa (b := w.heap.size + 1 + 1) hfr
  have zw2_1 := sz (B := w1.heap.size) hb
  have cw2_1_0 : w2.cell? ⟨w1.heap.size, 0, none⟩ = some (.int .i64 rh) := ca hcl
  have cw2_1_1 : w2.cell? ⟨w1.heap.size, 1, none⟩ = some (.int .u64 rl) := ca hcl
  have HBw2 := hbw (a := w) hb
  clear hb hcl hfr
  go_wp2_with fail
  refine bodyPost_ret (by simp [results, Try.results47, go_sem, *]; try rfl) rfl ?_
  exact ⟨rfl, bb⟩
end Go.Proofs.Ytmmlekgojblopaa
namespace Go.Proofs.Ytmmlekgojblopaa
open Go.RowKit
open Go.ChangeMaps (setBlock)
set_option maxRecDepth 20000 in
set_option maxHeartbeats 8000000 in
theorem vscale_core (axh axl ayh ayl kh kl rh rl sh sl ee : Int) (w : World)
    (C1 : Ct 47 #[.func (.func 37) #[] #[], .agg #[.int .i64 axh, .int .u64 axl, .int .i64 ayh, .int .u64 ayl], .agg #[.int .i64 kh, .int .u64 kl, .int .i64 kh, .int .u64 kl]] (.tuple #[.agg #[.int .i64 rh, .int .u64 rl, .int .i64 sh, .int .u64 sl], .int .i64 ee])) :
    Calls Try.prog 24 #[.agg #[.int .i64 axh, .int .u64 axl, .int .i64 ayh, .int .u64 ayl], .agg #[.int .i64 kh, .int .u64 kl]] w fun e w' => e = .returned (.tuple #[.agg #[.int .i64 rh, .int .u64 rl, .int .i64 sh, .int .u64 sl], .int .i64 ee]) ∧ Below w.heap.size w w' := by
  have K1 := Lib.hid C1
  clear C1
  go_enter Try.func24, Try.ntmps24
  go_wp2_with fail
  (with_reducible refine cm (K1.out _) fun w1 hcl hfr hb => ?_)
  have zw1_0 := sz (B := w.heap.size + 1 + 1) hb
  have cw1_0_0 : w1.cell? ⟨w.heap.size + 1 + 1, 0, none⟩ = some (.int .i64 0) := ca hcl
  have cw1_0_1 : w1.cell? ⟨w.heap.size + 1 + 1, 1, none⟩ = some (.int .u64 0) := ca hcl
  have cw1_0_2 : w1.cell? ⟨w.heap.size + 1 + 1, 2, none⟩ = some (.int .i64 0) := ca hcl
  have cw1_0_3 : w1.cell? ⟨w.heap.size + 1 + 1, 3, none⟩ = some (.int .u64 0) := ca hcl
  have fw1_0 := fa (b := w.heap.size + 1 + 1) hfr
  have HBw1 := hbw (a := w) hb
  clear hb hcl hfr
  go_wp2_with fail
  refine bodyPost_ret (by simp [results, Try.results24, go_sem, *]; try rfl) rfl ?_
  exact ⟨rfl, bb⟩
section
variable {W : World} {B b : Nat}
theorem heap_al {v : Obj} (h : W.heap[B]? = some v) (o : Obj) : (W.alloc o).heap[B]? = some v := by
  have hlt : B < W.heap.size := (Array.getElem?_eq_some_iff.1 h).1
  rw [(MapKept.heap_alloc W o).2 B hlt]
  exact h
theorem cell_put (o : Obj) (j : Nat) (h : b ≠ B) : (setBlock W B o).cell? ⟨b, j, none⟩ = W.cell? ⟨b, j, none⟩ := World.cell?_of_block (by
  show (W.heap.setIfInBounds B o)[b]? = W.heap[b]?
  rw [Array.getElem?_setIfInBounds_ne (Ne.symm h)])
theorem frozen_put (o : Obj) (j : Nat) (h : b ≠ B) : (setBlock W B o).frozen? ⟨b, j, none⟩ = W.frozen? ⟨b, j, none⟩ := World.frozen?_of_block (by
  show (W.heap.setIfInBounds B o)[b]? = W.heap[b]?
  rw [Array.getElem?_setIfInBounds_ne (Ne.symm h)])
theorem set_heap (x : Value) (A j : Nat) (h : A ≠ B) : (W.setCell ⟨A, j, none⟩ x).heap[B]? = W.heap[B]? := Below.heap_setCell _ _ _ _ (fun e => h (by simpa using e.symm))
theorem grown_below {W' : World} (g : Below W.heap.size W W') : W.grownBy W' (some B) := ⟨g.os, g.tape, g.output, g.size, fun k hk _ => g.block k hk⟩
theorem grown_put {W' : World} (g : W.grownBy W' (some B)) (o : Obj) : W.grownBy (setBlock W' B o) (some B) :=
  ⟨g.os, g.tape, g.output, by simpa [setBlock] using g.size, fun k hk hne => by
    show (W'.heap.setIfInBounds B o)[k]? = _
    rw [Array.getElem?_setIfInBounds_ne (fun e => hne (by rw [e]))]; exact g.block k hk hne⟩
theorem grown_cell {W' : World} (g : W.grownBy W' (some B)) (A j : Nat) (x : Value) (h : W.heap.size ≤ A) : W.grownBy (W'.setCell ⟨A, j, none⟩ x) (some B) :=
  ⟨g.os, g.tape, g.output, by simpa using g.size, fun k hk hne => (Below.heap_setCell _ _ _ _ (fun e => by simp at e; omega)).trans (g.block k hk hne)⟩
theorem grown_cells {W' : World} (g : W.grownBy W' (some B)) : (∀ b o, b < W.heap.size → b ≠ B → W'.cell? ⟨b, o, none⟩ = W.cell? ⟨b, o, none⟩) ∧ (∀ b o, b < W.heap.size → b ≠ B → W'.frozen? ⟨b, o, none⟩ = W.frozen? ⟨b, o, none⟩) :=
  ⟨fun b _ hb h => World.cell?_of_block (g.block b hb (fun e => h (Option.some.inj e))), fun b _ hb h => World.frozen?_of_block (g.block b hb (fun e => h (Option.some.inj e)))⟩
end
set_option maxRecDepth 20000 in
set_option maxHeartbeats 8000000 in
theorem span_hit (xh xl yh yl mh ml _ee : Int) (es _es2 : Array MapEntry) (B cl _cl2 : Nat) (w : World) (hb0 : w.heap[B]? = some (.map es cl)) 
    (look : ∀ W : World, W.heap[B]? = some (.map es cl) → (Instr.lookup 122 (.map (some B)) (.agg #[.int .i64 xh, .int .u64 xl, .int .i64 yh, .int .u64 yl]) true).run Try.prog W = .ok (.tuple #[.agg #[.int .i64 mh, .int .u64 ml], .bool true]) W) :
    Calls Try.prog 79 #[.map (some B), .agg #[.int .i64 xh, .int .u64 xl, .int .i64 yh, .int .u64 yl]] w fun e' w' => e' = .returned (.tuple #[.agg #[.int .i64 mh, .int .u64 ml], .int .i64 0]) ∧ w.grownBy w' (some B) := by
  have hB : B < w.heap.size := (Array.getElem?_eq_some_iff.1 hb0).1
  go_enter Try.func79, Try.ntmps79
  go_upto_region 1 with fail
  refine nw _ fun R hR => ?_
  have zR_0 := sr (B := w.heap.size) hR
  have cR_0_0 : R.cell? ⟨w.heap.size, 0, none⟩ = some (.int .i64 xh) := cel hR
  have cR_0_1 : R.cell? ⟨w.heap.size, 1, none⟩ = some (.int .u64 xl) := cel hR
  have cR_0_2 : R.cell? ⟨w.heap.size, 2, none⟩ = some (.int .i64 yh) := cel hR
  have cR_0_3 : R.cell? ⟨w.heap.size, 3, none⟩ = some (.int .u64 yl) := cel hR
  have zR_1 := sr (B := w.heap.size + 1) hR
  have cR_1_0 : R.cell? ⟨w.heap.size + 1, 0, none⟩ = some (.int .i64 0) := cel hR
  have cR_1_1 : R.cell? ⟨w.heap.size + 1, 1, none⟩ = some (.int .u64 0) := cel hR
  have fR_1 := fz (b := w.heap.size + 1) hR
  have HBR := bhr (a := w) hR
  clear hR
  have hlk := look R ((HBR.out.block B hB).trans hb0)
  clear look
  go_wp2_with fail
  refine bodyPost_ret (by simp [results, Try.results79, go_sem, *]; try rfl) rfl ?_
  exact ⟨rfl, grown_below bb⟩
set_option maxRecDepth 20000 in
set_option maxHeartbeats 8000000 in
theorem span_err (xh xl yh yl mh ml ee : Int) (es _es2 : Array MapEntry) (B cl _cl2 : Nat) (w : World) (hb0 : w.heap[B]? = some (.map es cl)) (he : ¬ ee = 0)
    (look : ∀ W : World, W.heap[B]? = some (.map es cl) → (Instr.lookup 122 (.map (some B)) (.agg #[.int .i64 xh, .int .u64 xl, .int .i64 yh, .int .u64 yl]) true).run Try.prog W = .ok (.tuple #[.agg #[.int .i64 0, .int .u64 0], .bool false]) W)
    (C1 : Ct 37 #[.agg #[.int .i64 xh, .int .u64 xl], .agg #[.int .i64 yh, .int .u64 yl]] (.tuple #[.agg #[.int .i64 mh, .int .u64 ml], .int .i64 ee])) :
    Calls Try.prog 79 #[.map (some B), .agg #[.int .i64 xh, .int .u64 xl, .int .i64 yh, .int .u64 yl]] w fun e' w' => e' = .returned (.tuple #[.agg #[.int .i64 0, .int .u64 0], .int .i64 ee]) ∧ w.grownBy w' (some B) := by
  have K1 := Lib.hid C1
  clear C1
  have hB : B < w.heap.size := (Array.getElem?_eq_some_iff.1 hb0).1
  go_enter Try.func79, Try.ntmps79
  go_upto_region 1 with fail
  refine nw _ fun R hR => ?_
  have zR_0 := sr (B := w.heap.size) hR
  have cR_0_0 : R.cell? ⟨w.heap.size, 0, none⟩ = some (.int .i64 xh) := cel hR
  have cR_0_1 : R.cell? ⟨w.heap.size, 1, none⟩ = some (.int .u64 xl) := cel hR
  have cR_0_2 : R.cell? ⟨w.heap.size, 2, none⟩ = some (.int .i64 yh) := cel hR
  have cR_0_3 : R.cell? ⟨w.heap.size, 3, none⟩ = some (.int .u64 yl) := cel hR
  have zR_1 := sr (B := w.heap.size + 1) hR
  have cR_1_0 : R.cell? ⟨w.heap.size + 1, 0, none⟩ = some (.int .i64 0) := cel hR
  have cR_1_1 : R.cell? ⟨w.heap.size + 1, 1, none⟩ = some (.int .u64 0) := cel hR
  have fR_1 := fz (b := w.heap.size + 1) hR
  have HBR := bhr (a := w) hR
  clear hR
  have hlk := look R ((HBR.out.block B hB).trans hb0)
  clear look
  go_wp2_with fail
  (with_reducible refine cm (K1.out _) fun w1 hcl hfr hb => ?_)
  have zw1_0 := sz (B := w.heap.size + 1) hb
  have cw1_0_0 : w1.cell? ⟨w.heap.size + 1, 0, none⟩ = some (.int .i64 0) := ca hcl
  have cw1_0_1 : w1.cell? ⟨w.heap.size + 1, 1, none⟩ = some (.int .u64 0) := ca hcl
  have fw1_0 := fa (b := w.heap.size + 1) hfr
  have HBw1 := hbw (a := w) hb
  clear hb hcl hfr
  go_wp2_with fail
  refine bodyPost_ret (by simp [results, Try.results79, go_sem, *]; try rfl) rfl ?_
  exact ⟨rfl, grown_below bb⟩
set_option maxRecDepth 20000 in
set_option maxHeartbeats 8000000 in
theorem span_miss (xh xl yh yl mh ml ee : Int) (es es2 : Array MapEntry) (B cl cl2 : Nat) (w : World) (hb0 : w.heap[B]? = some (.map es cl)) (he : ee = 0)
    (look : ∀ W : World, W.heap[B]? = some (.map es cl) → (Instr.lookup 122 (.map (some B)) (.agg #[.int .i64 xh, .int .u64 xl, .int .i64 yh, .int .u64 yl]) true).run Try.prog W = .ok (.tuple #[.agg #[.int .i64 0, .int .u64 0], .bool false]) W)
    (put : ∀ W : World, W.heap[B]? = some (.map es cl) → (Instr.mapUpdate 122 (.map (some B)) (.agg #[.int .i64 xh, .int .u64 xl, .int .i64 yh, .int .u64 yl]) (.agg #[.int .i64 mh, .int .u64 ml])).run Try.prog W = .ok () (setBlock W B (.map es2 cl2)))
    (C1 : Ct 37 #[.agg #[.int .i64 xh, .int .u64 xl], .agg #[.int .i64 yh, .int .u64 yl]] (.tuple #[.agg #[.int .i64 mh, .int .u64 ml], .int .i64 ee])) :
    Calls Try.prog 79 #[.map (some B), .agg #[.int .i64 xh, .int .u64 xl, .int .i64 yh, .int .u64 yl]] w fun e' w' => e' = .returned (.tuple #[.agg #[.int .i64 mh, .int .u64 ml], .int .i64 0]) ∧ w.grownBy w' (some B) ∧ w'.heap[B]? = some (.map es2 cl2) := by
  subst he
  have K1 := Lib.hid C1
  clear C1
  have hB : B < w.heap.size := (Array.getElem?_eq_some_iff.1 hb0).1
  go_enter Try.func79, Try.ntmps79
  go_upto_region 1 with fail
  refine nw _ fun R hR => ?_
  have zR_0 := sr (B := w.heap.size) hR
  have cR_0_0 : R.cell? ⟨w.heap.size, 0, none⟩ = some (.int .i64 xh) := cel hR
  have cR_0_1 : R.cell? ⟨w.heap.size, 1, none⟩ = some (.int .u64 xl) := cel hR
  have cR_0_2 : R.cell? ⟨w.heap.size, 2, none⟩ = some (.int .i64 yh) := cel hR
  have cR_0_3 : R.cell? ⟨w.heap.size, 3, none⟩ = some (.int .u64 yl) := cel hR
  have zR_1 := sr (B := w.heap.size + 1) hR
  have cR_1_0 : R.cell? ⟨w.heap.size + 1, 0, none⟩ = some (.int .i64 0) := cel hR
  have cR_1_1 : R.cell? ⟨w.heap.size + 1, 1, none⟩ = some (.int .u64 0) := cel hR
  have fR_1 := fz (b := w.heap.size + 1) hR
  have HBR := bhr (a := w) hR
  clear hR
  have hlk := look R ((HBR.out.block B hB).trans hb0)
  clear look
  go_wp2_with fail
  (with_reducible refine cm (K1.out _) fun w1 hcl hfr hb => ?_)
  have zw1_0 := sz (B := w.heap.size) hb
  have cw1_0_0 : w1.cell? ⟨w.heap.size, 0, none⟩ = some (.int .i64 xh) := ca hcl
  have cw1_0_1 : w1.cell? ⟨w.heap.size, 1, none⟩ = some (.int .u64 xl) := ca hcl
  have cw1_0_2 : w1.cell? ⟨w.heap.size, 2, none⟩ = some (.int .i64 yh) := ca hcl
  have cw1_0_3 : w1.cell? ⟨w.heap.size, 3, none⟩ = some (.int .u64 yl) := ca hcl
  have zw1_1 := sz (B := w.heap.size + 1) hb
  have cw1_1_0 : w1.cell? ⟨w.heap.size + 1, 0, none⟩ = some (.int .i64 0) := ca hcl
  have cw1_1_1 : w1.cell? ⟨w.heap.size + 1, 1, none⟩ = some (.int .u64 0) := ca hcl
  have fw1_1 := fa (b := w.heap.size + 1) hfr
  have HBw1 := hbw (a := w) hb
  clear hb hcl hfr
  clear hlk
  go_upto_region 7 with fail
  refine nw _ fun S hS => ?_
  have zS_0 := sr (B := w.heap.size) hS
  have cS_0_0 : S.cell? ⟨w.heap.size, 0, none⟩ = some (.int .i64 xh) := cel hS
  have cS_0_1 : S.cell? ⟨w.heap.size, 1, none⟩ = some (.int .u64 xl) := cel hS
  have cS_0_2 : S.cell? ⟨w.heap.size, 2, none⟩ = some (.int .i64 yh) := cel hS
  have cS_0_3 : S.cell? ⟨w.heap.size, 3, none⟩ = some (.int .u64 yl) := cel hS
  have zS_1 := sr (B := w.heap.size + 1) hS
  have cS_1_0 : S.cell? ⟨w.heap.size + 1, 0, none⟩ = some (.int .i64 0) := cel hS
  have cS_1_1 : S.cell? ⟨w.heap.size + 1, 1, none⟩ = some (.int .u64 0) := cel hS
  have fS_1 := fz (b := w.heap.size + 1) hS
  have zS_2 := sr (B := w1.heap.size) hS
  have cS_2_0 : S.cell? ⟨w1.heap.size, 0, none⟩ = some (.int .i64 mh) := cel hS
  have cS_2_1 : S.cell? ⟨w1.heap.size, 1, none⟩ = some (.int .u64 ml) := cel hS
  have HBS := bhr (a := w) hS
  clear hS
  have hSb : S.heap[B]? = some (.map es cl) := (HBS.out.block B hB).trans hb0
  have hpt := put S hSb
  clear put
  go_upto_region 8 with fail
  refine nw _ fun Y hY => ?_
  have zv : w1.heap.size ≠ B := by omega
  have zr : w.heap.size + 1 ≠ B := by omega
  have v0 : Y.cell? ⟨w1.heap.size, 0, none⟩ = some (.int .i64 mh) := by rw [hY, cell_put _ _ zv]; exact cS_2_0
  have v1 : Y.cell? ⟨w1.heap.size, 1, none⟩ = some (.int .u64 ml) := by rw [hY, cell_put _ _ zv]; exact cS_2_1
  have r0 : Y.cell? ⟨w.heap.size + 1, 0, none⟩ = some (.int .i64 0) := by rw [hY, cell_put _ _ zr]; exact cS_1_0
  have r1 : Y.cell? ⟨w.heap.size + 1, 1, none⟩ = some (.int .u64 0) := by rw [hY, cell_put _ _ zr]; exact cS_1_1
  have fr : ∀ j, Y.frozen? ⟨w.heap.size + 1, j, none⟩ = false := fun j => by rw [hY, frozen_put _ _ zr]; exact fS_1 j
  have hYb : Y.heap[B]? = some (.map es2 cl2) := by rw [hY]; exact ChangeMaps.heap_setBlock_same hSb _
  have GY : Hid (w.grownBy Y (some B)) := by rw [hY]; exact grown_put (grown_below HBS.out) _
  clear hY hpt hSb
  go_wp2_with fail
  refine bodyPost_ret (by simp [results, Try.results79, go_sem, *]; try rfl) rfl ?_
  exact ⟨rfl, by repeat (first | with_reducible exact grown_below (Hid.out (by assumption)) | with_reducible exact Hid.out (by assumption) | with_reducible refine grown_cell ?_ _ _ _ (by first | (simp; done) | omega)), by rw [set_heap _ _ _ zr, set_heap _ _ _ zr]; exact hYb⟩
end Go.Proofs.Ytmmlekgojblopaa
namespace Go.Proofs.Ytmmlekgojblopaa
open Go.RowKit
open Go.ChangeMaps (setBlock)
set_option maxRecDepth 20000 in
set_option maxHeartbeats 8000000 in
theorem dot_x (axh axl ayh ayl bxh bxl byh byl mh ml _nh _nl _sh _sl e1 _e2 _e3 : Int) (he : ¬ e1 = 0) (w : World)
    (S1 : ∀ (W : World) (B : Nat), W.heap[B]? = some (.map #[] 0) → Calls Try.prog 79 #[.map (some B), .agg #[.int .i64 axh, .int .u64 axl, .int .i64 bxh, .int .u64 bxl]] W fun e' w' => e' = .returned (.tuple #[.agg #[.int .i64 mh, .int .u64 ml], .int .i64 e1]) ∧ W.grownBy w' (some B) ∧ (e1 = 0 → w'.heap[B]? = some (.map #[⟨.agg #[.int .i64 axh, .int .u64 axl, .int .i64 bxh, .int .u64 bxl], .agg #[.int .i64 mh, .int .u64 ml], 0⟩] 1))) :
    Calls Try.prog 57 #[.agg #[.int .i64 axh, .int .u64 axl, .int .i64 ayh, .int .u64 ayl], .agg #[.int .i64 bxh, .int .u64 bxl, .int .i64 byh, .int .u64 byl]] w fun e w' => e = .returned (.tuple #[.agg #[.int .i64 0, .int .u64 0], .int .i64 e1]) ∧ Below w.heap.size w w' := by
  have K1 := Lib.hid S1
  clear S1
  have hmm := @run_makeMap Try.prog
  go_enter Try.func57, Try.ntmps57
  go_upto_region 2 with fail
  clear hmm
  refine nw _ fun R hR => ?_
  have zR_0 := sr (B := w.heap.size) hR
  have cR_0_0 : R.cell? ⟨w.heap.size, 0, none⟩ = some (.int .i64 axh) := cel hR
  have cR_0_1 : R.cell? ⟨w.heap.size, 1, none⟩ = some (.int .u64 axl) := cel hR
  have cR_0_2 : R.cell? ⟨w.heap.size, 2, none⟩ = some (.int .i64 ayh) := cel hR
  have cR_0_3 : R.cell? ⟨w.heap.size, 3, none⟩ = some (.int .u64 ayl) := cel hR
  have zR_1 := sr (B := w.heap.size + 1) hR
  have cR_1_0 : R.cell? ⟨w.heap.size + 1, 0, none⟩ = some (.int .i64 bxh) := cel hR
  have cR_1_1 : R.cell? ⟨w.heap.size + 1, 1, none⟩ = some (.int .u64 bxl) := cel hR
  have cR_1_2 : R.cell? ⟨w.heap.size + 1, 2, none⟩ = some (.int .i64 byh) := cel hR
  have cR_1_3 : R.cell? ⟨w.heap.size + 1, 3, none⟩ = some (.int .u64 byl) := cel hR
  have zR_2 := sr (B := w.heap.size + 1 + 1) hR
  have cR_2_0 : R.cell? ⟨w.heap.size + 1 + 1, 0, none⟩ = some (.int .i64 0) := cel hR
  have cR_2_1 : R.cell? ⟨w.heap.size + 1 + 1, 1, none⟩ = some (.int .u64 0) := cel hR
  have fR_2 := fz (b := w.heap.size + 1 + 1) hR
  have HBR := bhr (a := w) hR
  have zB : w.heap.size + 1 + 1 + 1 < R.heap.size := by rw [hR]; simp
  have hRb : R.heap[w.heap.size + 1 + 1 + 1]? = some (.map #[] 0) := by rw [hR]; have h := (MapKept.heap_alloc (((w.alloc (.cells #[.int .i64 axh, .int .u64 axl, .int .i64 ayh, .int .u64 ayl] 26)).alloc (.cells #[.int .i64 bxh, .int .u64 bxl, .int .i64 byh, .int .u64 byl] 26)).alloc (.cells #[.int .i64 0, .int .u64 0] 24)) (.map #[] 0)).1; simpa using h
  clear hR
  go_wp2_with fail
  (with_reducible refine (K1.out _ _ hRb).mono ?_); rintro e w1 ⟨rfl, hg, hm⟩
  obtain ⟨hcl, hfr⟩ := grown_cells hg
  have zw1_0 : w.heap.size < w1.heap.size := Nat.lt_of_lt_of_le (by first | omega | (simp; omega)) hg.size
  have new1_0 : w.heap.size ≠ w.heap.size + 1 + 1 + 1 := by omega
  have cw1_0_0 : w1.cell? ⟨w.heap.size, 0, none⟩ = some (.int .i64 axh) := by rw [hcl _ _ (by omega) new1_0]; assumption
  have cw1_0_1 : w1.cell? ⟨w.heap.size, 1, none⟩ = some (.int .u64 axl) := by rw [hcl _ _ (by omega) new1_0]; assumption
  have cw1_0_2 : w1.cell? ⟨w.heap.size, 2, none⟩ = some (.int .i64 ayh) := by rw [hcl _ _ (by omega) new1_0]; assumption
  have cw1_0_3 : w1.cell? ⟨w.heap.size, 3, none⟩ = some (.int .u64 ayl) := by rw [hcl _ _ (by omega) new1_0]; assumption
  have zw1_1 : w.heap.size + 1 < w1.heap.size := Nat.lt_of_lt_of_le (by first | omega | (simp; omega)) hg.size
  have new1_1 : w.heap.size + 1 ≠ w.heap.size + 1 + 1 + 1 := by omega
  have cw1_1_0 : w1.cell? ⟨w.heap.size + 1, 0, none⟩ = some (.int .i64 bxh) := by rw [hcl _ _ (by omega) new1_1]; assumption
  have cw1_1_1 : w1.cell? ⟨w.heap.size + 1, 1, none⟩ = some (.int .u64 bxl) := by rw [hcl _ _ (by omega) new1_1]; assumption
  have cw1_1_2 : w1.cell? ⟨w.heap.size + 1, 2, none⟩ = some (.int .i64 byh) := by rw [hcl _ _ (by omega) new1_1]; assumption
  have cw1_1_3 : w1.cell? ⟨w.heap.size + 1, 3, none⟩ = some (.int .u64 byl) := by rw [hcl _ _ (by omega) new1_1]; assumption
  have zw1_2 : w.heap.size + 1 + 1 < w1.heap.size := Nat.lt_of_lt_of_le (by first | omega | (simp; omega)) hg.size
  have new1_2 : w.heap.size + 1 + 1 ≠ w.heap.size + 1 + 1 + 1 := by omega
  have cw1_2_0 : w1.cell? ⟨w.heap.size + 1 + 1, 0, none⟩ = some (.int .i64 0) := by rw [hcl _ _ (by omega) new1_2]; assumption
  have cw1_2_1 : w1.cell? ⟨w.heap.size + 1 + 1, 1, none⟩ = some (.int .u64 0) := by rw [hcl _ _ (by omega) new1_2]; assumption
  have fw1_2 : ∀ j, w1.frozen? ⟨w.heap.size + 1 + 1, j, none⟩ = false := fun j => by rw [hfr _ _ (by omega) new1_2]; first | exact fR_2 j | exact fS_2 j | (simp [*]; done)
  have HBw1 : Hid (Below w.heap.size w w1) := Below.grown (Hid.out (by assumption)) hg (by omega) (fun k hk => by cases hk; omega)
  have zzw1 : w.heap.size + 1 + 1 + 1 < w1.heap.size := Nat.lt_of_lt_of_le (by omega) hg.size
  clear hg hcl hfr
  clear hm
  go_wp2_with fail
  refine bodyPost_ret (by simp [results, Try.results57, go_sem, *]; try rfl) rfl ?_
  exact ⟨rfl, bb⟩
set_option maxRecDepth 20000 in
set_option maxHeartbeats 8000000 in
theorem dot_y (axh axl ayh ayl bxh bxl byh byl mh ml nh nl _sh _sl e1 e2 _e3 : Int) (h1 : e1 = 0) (he : ¬ e2 = 0) (w : World)
    (S1 : ∀ (W : World) (B : Nat), W.heap[B]? = some (.map #[] 0) → Calls Try.prog 79 #[.map (some B), .agg #[.int .i64 axh, .int .u64 axl, .int .i64 bxh, .int .u64 bxl]] W fun e' w' => e' = .returned (.tuple #[.agg #[.int .i64 mh, .int .u64 ml], .int .i64 e1]) ∧ W.grownBy w' (some B) ∧ (e1 = 0 → w'.heap[B]? = some (.map #[⟨.agg #[.int .i64 axh, .int .u64 axl, .int .i64 bxh, .int .u64 bxl], .agg #[.int .i64 mh, .int .u64 ml], 0⟩] 1)))
    (S2 : ∀ (W : World) (B : Nat), W.heap[B]? = some (.map #[⟨.agg #[.int .i64 axh, .int .u64 axl, .int .i64 bxh, .int .u64 bxl], .agg #[.int .i64 mh, .int .u64 ml], 0⟩] 1) → Calls Try.prog 79 #[.map (some B), .agg #[.int .i64 ayh, .int .u64 ayl, .int .i64 byh, .int .u64 byl]] W fun e' w' => e' = .returned (.tuple #[.agg #[.int .i64 nh, .int .u64 nl], .int .i64 e2]) ∧ W.grownBy w' (some B)) :
    Calls Try.prog 57 #[.agg #[.int .i64 axh, .int .u64 axl, .int .i64 ayh, .int .u64 ayl], .agg #[.int .i64 bxh, .int .u64 bxl, .int .i64 byh, .int .u64 byl]] w fun e w' => e = .returned (.tuple #[.agg #[.int .i64 0, .int .u64 0], .int .i64 e2]) ∧ Below w.heap.size w w' := by
  subst h1
  have K1 := Lib.hid S1
  clear S1
  have K2 := Lib.hid S2
  clear S2
  have hmm := @run_makeMap Try.prog
  go_enter Try.func57, Try.ntmps57
  go_upto_region 2 with fail
  clear hmm
  refine nw _ fun R hR => ?_
  have zR_0 := sr (B := w.heap.size) hR
  have cR_0_0 : R.cell? ⟨w.heap.size, 0, none⟩ = some (.int .i64 axh) := cel hR
  have cR_0_1 : R.cell? ⟨w.heap.size, 1, none⟩ = some (.int .u64 axl) := cel hR
  have cR_0_2 : R.cell? ⟨w.heap.size, 2, none⟩ = some (.int .i64 ayh) := cel hR
  have cR_0_3 : R.cell? ⟨w.heap.size, 3, none⟩ = some (.int .u64 ayl) := cel hR
  have zR_1 := sr (B := w.heap.size + 1) hR
  have cR_1_0 : R.cell? ⟨w.heap.size + 1, 0, none⟩ = some (.int .i64 bxh) := cel hR
  have cR_1_1 : R.cell? ⟨w.heap.size + 1, 1, none⟩ = some (.int .u64 bxl) := cel hR
  have cR_1_2 : R.cell? ⟨w.heap.size + 1, 2, none⟩ = some (.int .i64 byh) := cel hR
  have cR_1_3 : R.cell? ⟨w.heap.size + 1, 3, none⟩ = some (.int .u64 byl) := cel hR
  have zR_2 := sr (B := w.heap.size + 1 + 1) hR
  have cR_2_0 : R.cell? ⟨w.heap.size + 1 + 1, 0, none⟩ = some (.int .i64 0) := cel hR
  have cR_2_1 : R.cell? ⟨w.heap.size + 1 + 1, 1, none⟩ = some (.int .u64 0) := cel hR
  have fR_2 := fz (b := w.heap.size + 1 + 1) hR
  have HBR := bhr (a := w) hR
  have zB : w.heap.size + 1 + 1 + 1 < R.heap.size := by rw [hR]; simp
  have hRb : R.heap[w.heap.size + 1 + 1 + 1]? = some (.map #[] 0) := by rw [hR]; have h := (MapKept.heap_alloc (((w.alloc (.cells #[.int .i64 axh, .int .u64 axl, .int .i64 ayh, .int .u64 ayl] 26)).alloc (.cells #[.int .i64 bxh, .int .u64 bxl, .int .i64 byh, .int .u64 byl] 26)).alloc (.cells #[.int .i64 0, .int .u64 0] 24)) (.map #[] 0)).1; simpa using h
  clear hR
  go_wp2_with fail
  (with_reducible refine (K1.out _ _ hRb).mono ?_); rintro e w1 ⟨rfl, hg, hm⟩
  obtain ⟨hcl, hfr⟩ := grown_cells hg
  have zw1_0 : w.heap.size < w1.heap.size := Nat.lt_of_lt_of_le (by first | omega | (simp; omega)) hg.size
  have new1_0 : w.heap.size ≠ w.heap.size + 1 + 1 + 1 := by omega
  have cw1_0_0 : w1.cell? ⟨w.heap.size, 0, none⟩ = some (.int .i64 axh) := by rw [hcl _ _ (by omega) new1_0]; assumption
  have cw1_0_1 : w1.cell? ⟨w.heap.size, 1, none⟩ = some (.int .u64 axl) := by rw [hcl _ _ (by omega) new1_0]; assumption
  have cw1_0_2 : w1.cell? ⟨w.heap.size, 2, none⟩ = some (.int .i64 ayh) := by rw [hcl _ _ (by omega) new1_0]; assumption
  have cw1_0_3 : w1.cell? ⟨w.heap.size, 3, none⟩ = some (.int .u64 ayl) := by rw [hcl _ _ (by omega) new1_0]; assumption
  have zw1_1 : w.heap.size + 1 < w1.heap.size := Nat.lt_of_lt_of_le (by first | omega | (simp; omega)) hg.size
  have new1_1 : w.heap.size + 1 ≠ w.heap.size + 1 + 1 + 1 := by omega
  have cw1_1_0 : w1.cell? ⟨w.heap.size + 1, 0, none⟩ = some (.int .i64 bxh) := by rw [hcl _ _ (by omega) new1_1]; assumption
  have cw1_1_1 : w1.cell? ⟨w.heap.size + 1, 1, none⟩ = some (.int .u64 bxl) := by rw [hcl _ _ (by omega) new1_1]; assumption
  have cw1_1_2 : w1.cell? ⟨w.heap.size + 1, 2, none⟩ = some (.int .i64 byh) := by rw [hcl _ _ (by omega) new1_1]; assumption
  have cw1_1_3 : w1.cell? ⟨w.heap.size + 1, 3, none⟩ = some (.int .u64 byl) := by rw [hcl _ _ (by omega) new1_1]; assumption
  have zw1_2 : w.heap.size + 1 + 1 < w1.heap.size := Nat.lt_of_lt_of_le (by first | omega | (simp; omega)) hg.size
  have new1_2 : w.heap.size + 1 + 1 ≠ w.heap.size + 1 + 1 + 1 := by omega
  have cw1_2_0 : w1.cell? ⟨w.heap.size + 1 + 1, 0, none⟩ = some (.int .i64 0) := by rw [hcl _ _ (by omega) new1_2]; assumption
  have cw1_2_1 : w1.cell? ⟨w.heap.size + 1 + 1, 1, none⟩ = some (.int .u64 0) := by rw [hcl _ _ (by omega) new1_2]; assumption
  have fw1_2 : ∀ j, w1.frozen? ⟨w.heap.size + 1 + 1, j, none⟩ = false := fun j => by rw [hfr _ _ (by omega) new1_2]; first | exact fR_2 j | exact fS_2 j | (simp [*]; done)
  have HBw1 : Hid (Below w.heap.size w w1) := Below.grown (Hid.out (by assumption)) hg (by omega) (fun k hk => by cases hk; omega)
  have zzw1 : w.heap.size + 1 + 1 + 1 < w1.heap.size := Nat.lt_of_lt_of_le (by omega) hg.size
  clear hg hcl hfr
  have hm := hm (by first | rfl | trivial)
  go_upto_region 5 with fail
  refine nw _ fun S hS => ?_
  have zS_0 := sr (B := w.heap.size) hS
  have cS_0_0 : S.cell? ⟨w.heap.size, 0, none⟩ = some (.int .i64 axh) := cel hS
  have cS_0_1 : S.cell? ⟨w.heap.size, 1, none⟩ = some (.int .u64 axl) := cel hS
  have cS_0_2 : S.cell? ⟨w.heap.size, 2, none⟩ = some (.int .i64 ayh) := cel hS
  have cS_0_3 : S.cell? ⟨w.heap.size, 3, none⟩ = some (.int .u64 ayl) := cel hS
  have zS_1 := sr (B := w.heap.size + 1) hS
  have cS_1_0 : S.cell? ⟨w.heap.size + 1, 0, none⟩ = some (.int .i64 bxh) := cel hS
  have cS_1_1 : S.cell? ⟨w.heap.size + 1, 1, none⟩ = some (.int .u64 bxl) := cel hS
  have cS_1_2 : S.cell? ⟨w.heap.size + 1, 2, none⟩ = some (.int .i64 byh) := cel hS
  have cS_1_3 : S.cell? ⟨w.heap.size + 1, 3, none⟩ = some (.int .u64 byl) := cel hS
  have zS_2 := sr (B := w.heap.size + 1 + 1) hS
  have cS_2_0 : S.cell? ⟨w.heap.size + 1 + 1, 0, none⟩ = some (.int .i64 0) := cel hS
  have cS_2_1 : S.cell? ⟨w.heap.size + 1 + 1, 1, none⟩ = some (.int .u64 0) := cel hS
  have fS_2 := fz (b := w.heap.size + 1 + 1) hS
  have zS_3 := sr (B := w1.heap.size) hS
  have cS_3_0 : S.cell? ⟨w1.heap.size, 0, none⟩ = some (.int .i64 mh) := cel hS
  have cS_3_1 : S.cell? ⟨w1.heap.size, 1, none⟩ = some (.int .u64 ml) := cel hS
  have HBS := bhr (a := w) hS
  have zS : w.heap.size + 1 + 1 + 1 < S.heap.size := by rw [hS]; first | omega | (simp; omega)
  have hSb : S.heap[w.heap.size + 1 + 1 + 1]? = some (.map #[⟨.agg #[.int .i64 axh, .int .u64 axl, .int .i64 bxh, .int .u64 bxl], .agg #[.int .i64 mh, .int .u64 ml], 0⟩] 1) := by rw [hS]; repeat (first | with_reducible exact hm | refine heap_al ?_ _ | rw [set_heap _ _ _ (by omega)])
  clear hS hm hRb
  clear cR_0_0
  clear cR_0_1
  clear cR_0_2
  clear cR_0_3
  clear cR_1_0
  clear cR_1_1
  clear cR_1_2
  clear cR_1_3
  clear cR_2_0
  clear cR_2_1
  go_wp2_with fail
  (with_reducible refine (K2.out _ _ hSb).mono ?_); rintro e w2 ⟨rfl, hg⟩
  obtain ⟨hcl, hfr⟩ := grown_cells hg
  have zw2_0 : w.heap.size < w2.heap.size := Nat.lt_of_lt_of_le (by first | omega | (simp; omega)) hg.size
  have new2_0 : w.heap.size ≠ w.heap.size + 1 + 1 + 1 := by omega
  have cw2_0_0 : w2.cell? ⟨w.heap.size, 0, none⟩ = some (.int .i64 axh) := by rw [hcl _ _ (by omega) new2_0]; assumption
  have cw2_0_1 : w2.cell? ⟨w.heap.size, 1, none⟩ = some (.int .u64 axl) := by rw [hcl _ _ (by omega) new2_0]; assumption
  have cw2_0_2 : w2.cell? ⟨w.heap.size, 2, none⟩ = some (.int .i64 ayh) := by rw [hcl _ _ (by omega) new2_0]; assumption
  have cw2_0_3 : w2.cell? ⟨w.heap.size, 3, none⟩ = some (.int .u64 ayl) := by rw [hcl _ _ (by omega) new2_0]; assumption
  have zw2_1 : w.heap.size + 1 < w2.heap.size := Nat.lt_of_lt_of_le (by first | omega | (simp; omega)) hg.size
  have new2_1 : w.heap.size + 1 ≠ w.heap.size + 1 + 1 + 1 := by omega
  have cw2_1_0 : w2.cell? ⟨w.heap.size + 1, 0, none⟩ = some (.int .i64 bxh) := by rw [hcl _ _ (by omega) new2_1]; assumption
  have cw2_1_1 : w2.cell? ⟨w.heap.size + 1, 1, none⟩ = some (.int .u64 bxl) := by rw [hcl _ _ (by omega) new2_1]; assumption
  have cw2_1_2 : w2.cell? ⟨w.heap.size + 1, 2, none⟩ = some (.int .i64 byh) := by rw [hcl _ _ (by omega) new2_1]; assumption
  have cw2_1_3 : w2.cell? ⟨w.heap.size + 1, 3, none⟩ = some (.int .u64 byl) := by rw [hcl _ _ (by omega) new2_1]; assumption
  have zw2_2 : w.heap.size + 1 + 1 < w2.heap.size := Nat.lt_of_lt_of_le (by first | omega | (simp; omega)) hg.size
  have new2_2 : w.heap.size + 1 + 1 ≠ w.heap.size + 1 + 1 + 1 := by omega
  have cw2_2_0 : w2.cell? ⟨w.heap.size + 1 + 1, 0, none⟩ = some (.int .i64 0) := by rw [hcl _ _ (by omega) new2_2]; assumption
  have cw2_2_1 : w2.cell? ⟨w.heap.size + 1 + 1, 1, none⟩ = some (.int .u64 0) := by rw [hcl _ _ (by omega) new2_2]; assumption
  have fw2_2 : ∀ j, w2.frozen? ⟨w.heap.size + 1 + 1, j, none⟩ = false := fun j => by rw [hfr _ _ (by omega) new2_2]; first | exact fR_2 j | exact fS_2 j | (simp [*]; done)
  have zw2_3 : w1.heap.size < w2.heap.size := Nat.lt_of_lt_of_le (by first | omega | (simp; omega)) hg.size
  have new2_3 : w1.heap.size ≠ w.heap.size + 1 + 1 + 1 := by omega
  have cw2_3_0 : w2.cell? ⟨w1.heap.size, 0, none⟩ = some (.int .i64 mh) := by rw [hcl _ _ (by omega) new2_3]; assumption
  have cw2_3_1 : w2.cell? ⟨w1.heap.size, 1, none⟩ = some (.int .u64 ml) := by rw [hcl _ _ (by omega) new2_3]; assumption
  have HBw2 : Hid (Below w.heap.size w w2) := Below.grown (Hid.out (by assumption)) hg (by omega) (fun k hk => by cases hk; omega)
  have zzw2 : w.heap.size + 1 + 1 + 1 < w2.heap.size := Nat.lt_of_lt_of_le (by omega) hg.size
  clear hg hcl hfr
  go_wp2_with fail
  refine bodyPost_ret (by simp [results, Try.results57, go_sem, *]; try rfl) rfl ?_
  exact ⟨rfl, bb⟩
set_option maxRecDepth 20000 in
set_option maxHeartbeats 8000000 in
theorem dot_ok (axh axl ayh ayl bxh bxl byh byl mh ml nh nl sh sl e1 e2 e3 : Int) (h1 : e1 = 0) (h2 : e2 = 0) (w : World)
    (S1 : ∀ (W : World) (B : Nat), W.heap[B]? = some (.map #[] 0) → Calls Try.prog 79 #[.map (some B), .agg #[.int .i64 axh, .int .u64 axl, .int .i64 bxh, .int .u64 bxl]] W fun e' w' => e' = .returned (.tuple #[.agg #[.int .i64 mh, .int .u64 ml], .int .i64 e1]) ∧ W.grownBy w' (some B) ∧ (e1 = 0 → w'.heap[B]? = some (.map #[⟨.agg #[.int .i64 axh, .int .u64 axl, .int .i64 bxh, .int .u64 bxl], .agg #[.int .i64 mh, .int .u64 ml], 0⟩] 1)))
    (S2 : ∀ (W : World) (B : Nat), W.heap[B]? = some (.map #[⟨.agg #[.int .i64 axh, .int .u64 axl, .int .i64 bxh, .int .u64 bxl], .agg #[.int .i64 mh, .int .u64 ml], 0⟩] 1) → Calls Try.prog 79 #[.map (some B), .agg #[.int .i64 ayh, .int .u64 ayl, .int .i64 byh, .int .u64 byl]] W fun e' w' => e' = .returned (.tuple #[.agg #[.int .i64 nh, .int .u64 nl], .int .i64 e2]) ∧ W.grownBy w' (some B))
    (C3 : Ct 38 #[.agg #[.int .i64 mh, .int .u64 ml], .agg #[.int .i64 nh, .int .u64 nl]] (.tuple #[.agg #[.int .i64 sh, .int .u64 sl], .int .i64 e3])) :
    Calls Try.prog 57 #[.agg #[.int .i64 axh, .int .u64 axl, .int .i64 ayh, .int .u64 ayl], .agg #[.int .i64 bxh, .int .u64 bxl, .int .i64 byh, .int .u64 byl]] w fun e w' => e = .returned (.tuple #[.agg #[.int .i64 sh, .int .u64 sl], .int .i64 e3]) ∧ Below w.heap.size w w' := by
  subst h1; subst h2
  have K1 := Lib.hid S1
  clear S1
  have K2 := Lib.hid S2
  clear S2
  have K3 := Lib.hid C3
  clear C3
  have hmm := @run_makeMap Try.prog
  go_enter Try.func57, Try.ntmps57
  go_upto_region 2 with fail
  clear hmm
  refine nw _ fun R hR => ?_
  have zR_0 := sr (B := w.heap.size) hR
  have cR_0_0 : R.cell? ⟨w.heap.size, 0, none⟩ = some (.int .i64 axh) := cel hR
  have cR_0_1 : R.cell? ⟨w.heap.size, 1, none⟩ = some (.int .u64 axl) := cel hR
  have cR_0_2 : R.cell? ⟨w.heap.size, 2, none⟩ = some (.int .i64 ayh) := cel hR
  have cR_0_3 : R.cell? ⟨w.heap.size, 3, none⟩ = some (.int .u64 ayl) := cel hR
  have zR_1 := sr (B := w.heap.size + 1) hR
  have cR_1_0 : R.cell? ⟨w.heap.size + 1, 0, none⟩ = some (.int .i64 bxh) := cel hR
  have cR_1_1 : R.cell? ⟨w.heap.size + 1, 1, none⟩ = some (.int .u64 bxl) := cel hR
  have cR_1_2 : R.cell? ⟨w.heap.size + 1, 2, none⟩ = some (.int .i64 byh) := cel hR
  have cR_1_3 : R.cell? ⟨w.heap.size + 1, 3, none⟩ = some (.int .u64 byl) := cel hR
  have zR_2 := sr (B := w.heap.size + 1 + 1) hR
  have cR_2_0 : R.cell? ⟨w.heap.size + 1 + 1, 0, none⟩ = some (.int .i64 0) := cel hR
  have cR_2_1 : R.cell? ⟨w.heap.size + 1 + 1, 1, none⟩ = some (.int .u64 0) := cel hR
  have fR_2 := fz (b := w.heap.size + 1 + 1) hR
  have HBR := bhr (a := w) hR
  have zB : w.heap.size + 1 + 1 + 1 < R.heap.size := by rw [hR]; simp
  have hRb : R.heap[w.heap.size + 1 + 1 + 1]? = some (.map #[] 0) := by rw [hR]; have h := (MapKept.heap_alloc (((w.alloc (.cells #[.int .i64 axh, .int .u64 axl, .int .i64 ayh, .int .u64 ayl] 26)).alloc (.cells #[.int .i64 bxh, .int .u64 bxl, .int .i64 byh, .int .u64 byl] 26)).alloc (.cells #[.int .i64 0, .int .u64 0] 24)) (.map #[] 0)).1; simpa using h
  clear hR
  go_wp2_with fail
  (with_reducible refine (K1.out _ _ hRb).mono ?_); rintro e w1 ⟨rfl, hg, hm⟩
  obtain ⟨hcl, hfr⟩ := grown_cells hg
  have zw1_0 : w.heap.size < w1.heap.size := Nat.lt_of_lt_of_le (by first | omega | (simp; omega)) hg.size
  have new1_0 : w.heap.size ≠ w.heap.size + 1 + 1 + 1 := by omega
  have cw1_0_0 : w1.cell? ⟨w.heap.size, 0, none⟩ = some (.int .i64 axh) := by rw [hcl _ _ (by omega) new1_0]; assumption
  have cw1_0_1 : w1.cell? ⟨w.heap.size, 1, none⟩ = some (.int .u64 axl) := by rw [hcl _ _ (by omega) new1_0]; assumption
  have cw1_0_2 : w1.cell? ⟨w.heap.size, 2, none⟩ = some (.int .i64 ayh) := by rw [hcl _ _ (by omega) new1_0]; assumption
  have cw1_0_3 : w1.cell? ⟨w.heap.size, 3, none⟩ = some (.int .u64 ayl) := by rw [hcl _ _ (by omega) new1_0]; assumption
  have zw1_1 : w.heap.size + 1 < w1.heap.size := Nat.lt_of_lt_of_le (by first | omega | (simp; omega)) hg.size
  have new1_1 : w.heap.size + 1 ≠ w.heap.size + 1 + 1 + 1 := by omega
  have cw1_1_0 : w1.cell? ⟨w.heap.size + 1, 0, none⟩ = some (.int .i64 bxh) := by rw [hcl _ _ (by omega) new1_1]; assumption
  have cw1_1_1 : w1.cell? ⟨w.heap.size + 1, 1, none⟩ = some (.int .u64 bxl) := by rw [hcl _ _ (by omega) new1_1]; assumption
  have cw1_1_2 : w1.cell? ⟨w.heap.size + 1, 2, none⟩ = some (.int .i64 byh) := by rw [hcl _ _ (by omega) new1_1]; assumption
  have cw1_1_3 : w1.cell? ⟨w.heap.size + 1, 3, none⟩ = some (.int .u64 byl) := by rw [hcl _ _ (by omega) new1_1]; assumption
  have zw1_2 : w.heap.size + 1 + 1 < w1.heap.size := Nat.lt_of_lt_of_le (by first | omega | (simp; omega)) hg.size
  have new1_2 : w.heap.size + 1 + 1 ≠ w.heap.size + 1 + 1 + 1 := by omega
  have cw1_2_0 : w1.cell? ⟨w.heap.size + 1 + 1, 0, none⟩ = some (.int .i64 0) := by rw [hcl _ _ (by omega) new1_2]; assumption
  have cw1_2_1 : w1.cell? ⟨w.heap.size + 1 + 1, 1, none⟩ = some (.int .u64 0) := by rw [hcl _ _ (by omega) new1_2]; assumption
  have fw1_2 : ∀ j, w1.frozen? ⟨w.heap.size + 1 + 1, j, none⟩ = false := fun j => by rw [hfr _ _ (by omega) new1_2]; first | exact fR_2 j | exact fS_2 j | (simp [*]; done)
  have HBw1 : Hid (Below w.heap.size w w1) := Below.grown (Hid.out (by assumption)) hg (by omega) (fun k hk => by cases hk; omega)
  have zzw1 : w.heap.size + 1 + 1 + 1 < w1.heap.size := Nat.lt_of_lt_of_le (by omega) hg.size
  clear hg hcl hfr
  have hm := hm (by first | rfl | trivial)
  go_upto_region 5 with fail
  refine nw _ fun S hS => ?_
  have zS_0 := sr (B := w.heap.size) hS
  have cS_0_0 : S.cell? ⟨w.heap.size, 0, none⟩ = some (.int .i64 axh) := cel hS
  have cS_0_1 : S.cell? ⟨w.heap.size, 1, none⟩ = some (.int .u64 axl) := cel hS
  have cS_0_2 : S.cell? ⟨w.heap.size, 2, none⟩ = some (.int .i64 ayh) := cel hS
  have cS_0_3 : S.cell? ⟨w.heap.size, 3, none⟩ = some (.int .u64 ayl) := cel hS
  have zS_1 := sr (B := w.heap.size + 1) hS
  have cS_1_0 : S.cell? ⟨w.heap.size + 1, 0, none⟩ = some (.int .i64 bxh) := cel hS
  have cS_1_1 : S.cell? ⟨w.heap.size + 1, 1, none⟩ = some (.int .u64 bxl) := cel hS
  have cS_1_2 : S.cell? ⟨w.heap.size + 1, 2, none⟩ = some (.int .i64 byh) := cel hS
  have cS_1_3 : S.cell? ⟨w.heap.size + 1, 3, none⟩ = some (.int .u64 byl) := cel hS
  have zS_2 := sr (B := w.heap.size + 1 + 1) hS
  have cS_2_0 : S.cell? ⟨w.heap.size + 1 + 1, 0, none⟩ = some (.int .i64 0) := cel hS
  have cS_2_1 : S.cell? ⟨w.heap.size + 1 + 1, 1, none⟩ = some (.int .u64 0) := cel hS
  have fS_2 := fz (b := w.heap.size + 1 + 1) hS
  have zS_3 := sr (B := w1.heap.size) hS
  have cS_3_0 : S.cell? ⟨w1.heap.size, 0, none⟩ = some (.int .i64 mh) := cel hS
  have cS_3_1 : S.cell? ⟨w1.heap.size, 1, none⟩ = some (.int .u64 ml) := cel hS
  have HBS := bhr (a := w) hS
  have zS : w.heap.size + 1 + 1 + 1 < S.heap.size := by rw [hS]; first | omega | (simp; omega)
  have hSb : S.heap[w.heap.size + 1 + 1 + 1]? = some (.map #[⟨.agg #[.int .i64 axh, .int .u64 axl, .int .i64 bxh, .int .u64 bxl], .agg #[.int .i64 mh, .int .u64 ml], 0⟩] 1) := by rw [hS]; repeat (first | with_reducible exact hm | refine heap_al ?_ _ | rw [set_heap _ _ _ (by omega)])
  clear hS hm hRb
  clear cR_0_0
  clear cR_0_1
  clear cR_0_2
  clear cR_0_3
  clear cR_1_0
  clear cR_1_1
  clear cR_1_2
  clear cR_1_3
  clear cR_2_0
  clear cR_2_1
  go_wp2_with fail
  (with_reducible refine (K2.out _ _ hSb).mono ?_); rintro e w2 ⟨rfl, hg⟩
  obtain ⟨hcl, hfr⟩ := grown_cells hg
  have zw2_0 : w.heap.size < w2.heap.size := Nat.lt_of_lt_of_le (by first | omega | (simp; omega)) hg.size
  have new2_0 : w.heap.size ≠ w.heap.size + 1 + 1 + 1 := by omega
  have cw2_0_0 : w2.cell? ⟨w.heap.size, 0, none⟩ = some (.int .i64 axh) := by rw [hcl _ _ (by omega) new2_0]; assumption
  have cw2_0_1 : w2.cell? ⟨w.heap.size, 1, none⟩ = some (.int .u64 axl) := by rw [hcl _ _ (by omega) new2_0]; assumption
  have cw2_0_2 : w2.cell? ⟨w.heap.size, 2, none⟩ = some (.int .i64 ayh) := by rw [hcl _ _ (by omega) new2_0]; assumption
  have cw2_0_3 : w2.cell? ⟨w.heap.size, 3, none⟩ = some (.int .u64 ayl) := by rw [hcl _ _ (by omega) new2_0]; assumption
  have zw2_1 : w.heap.size + 1 < w2.heap.size := Nat.lt_of_lt_of_le (by first | omega | (simp; omega)) hg.size
  have new2_1 : w.heap.size + 1 ≠ w.heap.size + 1 + 1 + 1 := by omega
  have cw2_1_0 : w2.cell? ⟨w.heap.size + 1, 0, none⟩ = some (.int .i64 bxh) := by rw [hcl _ _ (by omega) new2_1]; assumption
  have cw2_1_1 : w2.cell? ⟨w.heap.size + 1, 1, none⟩ = some (.int .u64 bxl) := by rw [hcl _ _ (by omega) new2_1]; assumption
  have cw2_1_2 : w2.cell? ⟨w.heap.size + 1, 2, none⟩ = some (.int .i64 byh) := by rw [hcl _ _ (by omega) new2_1]; assumption
  have cw2_1_3 : w2.cell? ⟨w.heap.size + 1, 3, none⟩ = some (.int .u64 byl) := by rw [hcl _ _ (by omega) new2_1]; assumption
  have zw2_2 : w.heap.size + 1 + 1 < w2.heap.size := Nat.lt_of_lt_of_le (by first | omega | (simp; omega)) hg.size
  have new2_2 : w.heap.size + 1 + 1 ≠ w.heap.size + 1 + 1 + 1 := by omega
  have cw2_2_0 : w2.cell? ⟨w.heap.size + 1 + 1, 0, none⟩ = some (.int .i64 0) := by rw [hcl _ _ (by omega) new2_2]; assumption
  have cw2_2_1 : w2.cell? ⟨w.heap.size + 1 + 1, 1, none⟩ = some (.int .u64 0) := by rw [hcl _ _ (by omega) new2_2]; assumption
  have fw2_2 : ∀ j, w2.frozen? ⟨w.heap.size + 1 + 1, j, none⟩ = false := fun j => by rw [hfr _ _ (by omega) new2_2]; first | exact fR_2 j | exact fS_2 j | (simp [*]; done)
  have zw2_3 : w1.heap.size < w2.heap.size := Nat.lt_of_lt_of_le (by first | omega | (simp; omega)) hg.size
  have new2_3 : w1.heap.size ≠ w.heap.size + 1 + 1 + 1 := by omega
  have cw2_3_0 : w2.cell? ⟨w1.heap.size, 0, none⟩ = some (.int .i64 mh) := by rw [hcl _ _ (by omega) new2_3]; assumption
  have cw2_3_1 : w2.cell? ⟨w1.heap.size, 1, none⟩ = some (.int .u64 ml) := by rw [hcl _ _ (by omega) new2_3]; assumption
  have HBw2 : Hid (Below w.heap.size w w2) := Below.grown (Hid.out (by assumption)) hg (by omega) (fun k hk => by cases hk; omega)
  have zzw2 : w.heap.size + 1 + 1 + 1 < w2.heap.size := Nat.lt_of_lt_of_le (by omega) hg.size
  clear hg hcl hfr
  go_wp2_with fail
  (with_reducible refine cm (K3.out _) fun w3 hcl hfr hb => ?_)
  have zw3_0 := sz (B := w.heap.size + 1 + 1) hb
  have cw3_0_0 : w3.cell? ⟨w.heap.size + 1 + 1, 0, none⟩ = some (.int .i64 0) := ca hcl
  have cw3_0_1 : w3.cell? ⟨w.heap.size + 1 + 1, 1, none⟩ = some (.int .u64 0) := ca hcl
  have fw3_0 := fa (b := w.heap.size + 1 + 1) hfr
  have HBw3 := hbw (a := w) hb
  clear hb hcl hfr
  go_wp2_with fail
  refine bodyPost_ret (by simp [results, Try.results57, go_sem, *]; try rfl) rfl ?_
  exact ⟨rfl, bb⟩
set_option maxRecDepth 20000 in
set_option maxHeartbeats 8000000 in
theorem len2_core (axh axl ayh ayl rh rl ee : Int) (w : World)
    (C1 : Ct 57 #[.agg #[.int .i64 axh, .int .u64 axl, .int .i64 ayh, .int .u64 ayl], .agg #[.int .i64 axh, .int .u64 axl, .int .i64 ayh, .int .u64 ayl]] (.tuple #[.agg #[.int .i64 rh, .int .u64 rl], .int .i64 ee])) :
    Calls Try.prog 36 #[.agg #[.int .i64 axh, .int .u64 axl, .int .i64 ayh, .int .u64 ayl]] w fun e w' => e = .returned (.tuple #[.agg #[.int .i64 rh, .int .u64 rl], .int .i64 ee]) ∧ Below w.heap.size w w' := by
  have K1 := Lib.hid C1
  clear C1
  go_enter Try.func36, Try.ntmps36
  go_wp2_with fail
  (with_reducible refine cm (K1.out _) fun w1 hcl hfr hb => ?_)
  have zw1_0 := sz (B := w.heap.size + 1) hb
  have cw1_0_0 : w1.cell? ⟨w.heap.size + 1, 0, none⟩ = some (.int .i64 0) := ca hcl
  have cw1_0_1 : w1.cell? ⟨w.heap.size + 1, 1, none⟩ = some (.int .u64 0) := ca hcl
  have fw1_0 := fa (b := w.heap.size + 1) hfr
  have HBw1 := hbw (a := w) hb
  clear hb hcl hfr
  go_wp2_with fail
  refine bodyPost_ret (by simp [results, Try.results36, go_sem, *]; try rfl) rfl ?_
  exact ⟨rfl, bb⟩
end Go.Proofs.Ytmmlekgojblopaa
namespace Go.Proofs.Ytmmlekgojblopaa
open Go.RowKit
open Go.ChangeMaps (setBlock)
/-- The error of two steps, X ahead of Y; what they tell together. -/
def ve (p q : Int) : Int := if oe p = 0 then oe q else oe p
def vx (p q : Int) : Int := if ve p q = 0 then p else 0
def vy (p q : Int) : Int := if ve p q = 0 then q else 0
theorem oe_my {p : Int} (h : oe p = 0) : My p := by
  by_cases m : My p
  · exact m
  · rw [oe_out m] at h; omega
theorem oe_zero_iff (p : Int) : oe p = 0 ↔ My p := ⟨oe_my, oe_in⟩
theorem ve_out {p q : Int} (h : ¬ oe p = 0) : ve p q = oe p ∧ vx p q = 0 ∧ vy p q = 0 := by
  have e : ve p q = oe p := if_neg h
  exact ⟨e, if_neg (by rw [e]; exact h), if_neg (by rw [e]; exact h)⟩
theorem ve_mid {p q : Int} (h : oe p = 0) (g : ¬ oe q = 0) : ve p q = oe q ∧ vx p q = 0 ∧ vy p q = 0 := by
  have e : ve p q = oe q := if_pos h
  exact ⟨e, if_neg (by rw [e]; exact g), if_neg (by rw [e]; exact g)⟩
theorem ve_in {p q : Int} (h : oe p = 0) (g : oe q = 0) : ve p q = 0 ∧ vx p q = p ∧ vy p q = q := by
  have e : ve p q = 0 := (if_pos h).trans g
  exact ⟨e, if_pos e, if_pos e⟩
theorem zero_words : fh 0 = 0 ∧ fl 0 = 0 := by decide
theorem vec_zero : vec 0 0 = .agg #[.int .i64 0, .int .u64 0, .int .i64 0, .int .u64 0] := by unfold vec; rw [zero_words.1, zero_words.2]
theorem eachAdd_any (ax ay bx by_ : Int) (hax : My ax) (hay : My ay) (hbx : My bx) (hby : My by_) (w : World) :
    Calls Try.prog 47 #[.func (.func 38) #[] #[], vec ax ay, vec bx by_] w fun e w' => e = .returned (.tuple #[vec (vx (ax + bx) (ay + by_)) (vy (ax + bx) (ay + by_)), .int .i64 (ve (ax + bx) (ay + by_))]) ∧ Below w.heap.size w w' := by
  have CX := fadd_any ax bx hax hbx
  have CY := fadd_any ay by_ hay hby
  obtain ⟨p, hp⟩ : ∃ p, p = ax + bx := ⟨_, rfl⟩
  obtain ⟨q, hq⟩ : ∃ q, q = ay + by_ := ⟨_, rfl⟩
  rw [← hp] at CX ⊢
  rw [← hq] at CY ⊢
  by_cases c1 : oe p = 0
  · by_cases c2 : oe q = 0
    · obtain ⟨e1, e2, e3⟩ := ve_in c1 c2
      rw [e1, e2, e3]
      rw [ov_in (oe_my c1)] at CX
      rw [ov_in (oe_my c2)] at CY
      exact eachAdd_ok _ _ _ _ _ _ _ _ _ _ _ _ _ _ c1 c2 w CX CY
    · obtain ⟨e1, e2, e3⟩ := ve_mid c1 c2
      rw [e1, e2, e3, vec_zero]
      exact eachAdd_y _ _ _ _ _ _ _ _ _ _ _ _ _ _ c1 c2 w CX CY
  · obtain ⟨e1, e2, e3⟩ := ve_out (q := q) c1
    rw [e1, e2, e3, vec_zero]
    exact eachAdd_x _ _ _ _ _ _ _ _ _ _ 0 0 _ 0 c1 w CX
theorem eachMul_any (ax ay bx by_ : Int) (hax : My ax) (hay : My ay) (hbx : My bx) (hby : My by_) (w : World) :
    Calls Try.prog 47 #[.func (.func 37) #[] #[], vec ax ay, vec bx by_] w fun e w' => e = .returned (.tuple #[vec (vx (mulr ax bx) (mulr ay by_)) (vy (mulr ax bx) (mulr ay by_)), .int .i64 (ve (mulr ax bx) (mulr ay by_))]) ∧ Below w.heap.size w w' := by
  have CX := fmul_any ax bx hax hbx
  have CY := fmul_any ay by_ hay hby
  obtain ⟨p, hp⟩ : ∃ p, p = mulr ax bx := ⟨_, rfl⟩
  obtain ⟨q, hq⟩ : ∃ q, q = mulr ay by_ := ⟨_, rfl⟩
  rw [← hp] at CX ⊢
  rw [← hq] at CY ⊢
  by_cases c1 : oe p = 0
  · by_cases c2 : oe q = 0
    · obtain ⟨e1, e2, e3⟩ := ve_in c1 c2
      rw [e1, e2, e3]
      rw [ov_in (oe_my c1)] at CX
      rw [ov_in (oe_my c2)] at CY
      exact eachMul_ok _ _ _ _ _ _ _ _ _ _ _ _ _ _ c1 c2 w CX CY
    · obtain ⟨e1, e2, e3⟩ := ve_mid c1 c2
      rw [e1, e2, e3, vec_zero]
      exact eachMul_y _ _ _ _ _ _ _ _ _ _ _ _ _ _ c1 c2 w CX CY
  · obtain ⟨e1, e2, e3⟩ := ve_out (q := q) c1
    rw [e1, e2, e3, vec_zero]
    exact eachMul_x _ _ _ _ _ _ _ _ _ _ 0 0 _ 0 c1 w CX
theorem vscale_any (ax ay k : Int) (hax : My ax) (hay : My ay) (hk : My k) (w : World) :
    Calls Try.prog 24 #[vec ax ay, .agg #[.int .i64 (fh k), .int .u64 (fl k)]] w fun e w' => e = .returned (.tuple #[vec (vx (mulr ax k) (mulr ay k)) (vy (mulr ax k) (mulr ay k)), .int .i64 (ve (mulr ax k) (mulr ay k))]) ∧ Below w.heap.size w w' :=
  vscale_core _ _ _ _ _ _ _ _ _ _ _ w (eachMul_any ax ay k k hax hay hk hk)
theorem rmayvec_any (x y : Int) (w : World) :
    Calls Try.prog 20 #[vec x y] w fun e w' => e = .returned (.bool (decide (x ≠ -170141183460469231731687303715884105728) && decide (y ≠ -170141183460469231731687303715884105728))) ∧ Below w.heap.size w w' :=
  rmayvec_core _ _ _ _ _ _ w (rmay_any x) (rmay_any y)
theorem span_first (x y : Int) (hx : My x) (hy : My y) (W : World) (B : Nat) (hb : W.heap[B]? = some (.map #[] 0)) :
    Calls Try.prog 79 #[.map (some B), vec x y] W fun e' w' => e' = .returned (.tuple #[.agg #[.int .i64 (fh (ov (mulr x y))), .int .u64 (fl (ov (mulr x y)))], .int .i64 (oe (mulr x y))]) ∧ W.grownBy w' (some B) ∧ (oe (mulr x y) = 0 → w'.heap[B]? = some (.map #[⟨vec x y, .agg #[.int .i64 (fh (ov (mulr x y))), .int .u64 (fl (ov (mulr x y)))], 0⟩] 1)) := by
  have CM := fmul_any x y hx hy
  by_cases c : oe (mulr x y) = 0
  · have h := span_miss (fh x) (fl x) (fh y) (fl y) _ _ _ #[] #[⟨vec x y, .agg #[.int .i64 (fh (ov (mulr x y))), .int .u64 (fl (ov (mulr x y)))], 0⟩] B 0 1 W hb c (fun W' h => look_empty h hx.fx hy.fx) (fun W' h => put_empty h hx.fx hy.fx) CM
    refine h.mono fun e' w' ⟨h1, h2, h3⟩ => ⟨by rw [h1, c], h2, fun _ => h3⟩
  · have hm : ¬ My (mulr x y) := fun m => c (oe_in m)
    have h := span_err (fh x) (fl x) (fh y) (fl y) _ _ _ #[] #[] B 0 1 W hb c (fun W' h => look_empty h hx.fx hy.fx) CM
    refine h.mono fun e' w' ⟨h1, h2⟩ => ⟨by rw [h1, ov_out hm, zero_words.1, zero_words.2], h2, fun g => absurd g c⟩
theorem span_second (x1 y1 x y : Int) (hx1 : My x1) (hy1 : My y1) (hx : My x) (hy : My y) (h0 : oe (mulr x1 y1) = 0) (W : World) (B : Nat) (hb : W.heap[B]? = some (.map #[⟨vec x1 y1, .agg #[.int .i64 (fh (ov (mulr x1 y1))), .int .u64 (fl (ov (mulr x1 y1)))], 0⟩] 1)) :
    Calls Try.prog 79 #[.map (some B), vec x y] W fun e' w' => e' = .returned (.tuple #[.agg #[.int .i64 (fh (ov (mulr x y))), .int .u64 (fl (ov (mulr x y)))], .int .i64 (oe (mulr x y))]) ∧ W.grownBy w' (some B) := by
  have CM := fmul_any x y hx hy
  by_cases k : vec x1 y1 = vec x y
  · obtain ⟨rfl, rfl⟩ := vec_inj k
    have h := span_hit (fh x1) (fl x1) (fh y1) (fl y1) _ _ 0 #[⟨vec x1 y1, .agg #[.int .i64 (fh (ov (mulr x1 y1))), .int .u64 (fl (ov (mulr x1 y1)))], 0⟩] #[] B 1 1 W hb (fun W' h => look_same h hx.fx hy.fx)
    exact h.mono fun e' w' ⟨h1, h2⟩ => ⟨by rw [h1, h0], h2⟩
  · by_cases c : oe (mulr x y) = 0
    · have h := span_miss (fh x) (fl x) (fh y) (fl y) _ _ _ #[⟨vec x1 y1, .agg #[.int .i64 (fh (ov (mulr x1 y1))), .int .u64 (fl (ov (mulr x1 y1)))], 0⟩] #[⟨vec x1 y1, .agg #[.int .i64 (fh (ov (mulr x1 y1))), .int .u64 (fl (ov (mulr x1 y1)))], 0⟩, ⟨vec x y, .agg #[.int .i64 (fh (ov (mulr x y))), .int .u64 (fl (ov (mulr x y)))], 1⟩] B 1 2 W hb c (fun W' h => look_other h hx.fx hy.fx hx1.fx hy1.fx k) (fun W' h => put_other h hx.fx hy.fx hx1.fx hy1.fx k) CM
      exact h.mono fun e' w' ⟨h1, h2, _⟩ => ⟨by rw [h1, c], h2⟩
    · have hm : ¬ My (mulr x y) := fun m => c (oe_in m)
      have h := span_err (fh x) (fl x) (fh y) (fl y) _ _ _ #[⟨vec x1 y1, .agg #[.int .i64 (fh (ov (mulr x1 y1))), .int .u64 (fl (ov (mulr x1 y1)))], 0⟩] #[] B 1 1 W hb c (fun W' h => look_other h hx.fx hy.fx hx1.fx hy1.fx k) CM
      exact h.mono fun e' w' ⟨h1, h2⟩ => ⟨by rw [h1, ov_out hm, zero_words.1, zero_words.2], h2⟩
/-- What Dot comes to: its error, its number. -/
def de (p q : Int) : Int := if oe p = 0 then (if oe q = 0 then oe (p + q) else oe q) else oe p
def dv (p q : Int) : Int := if de p q = 0 then p + q else 0
theorem de_3 (p q : Int) : de p q = 0 ∨ de p q = 3 := by
  have h : ∀ x, oe x = 0 ∨ oe x = 3 := fun x => by unfold oe; split; exact Or.inl rfl; exact Or.inr rfl
  unfold de
  split
  · split
    · exact h _
    · exact h _
  · exact h _
theorem de_zero {p q : Int} (h : de p q = 0) : My p ∧ My q ∧ My (p + q) ∧ dv p q = p + q := by
  have h0 := h
  unfold de at h
  split at h
  · rename_i a
    split at h
    · rename_i b
      exact ⟨oe_my a, oe_my b, oe_my h, if_pos h0⟩
    · rename_i b
      exact absurd h b
  · rename_i a
    exact absurd h a
theorem dv_My (p q : Int) : My (dv p q) := by
  by_cases h : de p q = 0
  · obtain ⟨_, _, a, b⟩ := de_zero h; rw [b]; exact a
  · rw [show dv p q = 0 from if_neg h]; exact ⟨by decide, by decide⟩
theorem vdot_any (ax ay bx by_ : Int) (hax : My ax) (hay : My ay) (hbx : My bx) (hby : My by_) (w : World) :
    Calls Try.prog 57 #[vec ax ay, vec bx by_] w fun e w' => e = .returned (.tuple #[.agg #[.int .i64 (fh (dv (mulr ax bx) (mulr ay by_))), .int .u64 (fl (dv (mulr ax bx) (mulr ay by_)))], .int .i64 (de (mulr ax bx) (mulr ay by_))]) ∧ Below w.heap.size w w' := by
  obtain ⟨p, hp⟩ : ∃ p, p = mulr ax bx := ⟨_, rfl⟩
  obtain ⟨q, hq⟩ : ∃ q, q = mulr ay by_ := ⟨_, rfl⟩
  have S1 := span_first ax bx hax hbx
  have S2 := span_second ax bx ay by_ hax hbx hay hby
  rw [← hp] at S1 S2 ⊢
  rw [← hq] at S2 ⊢
  by_cases c1 : oe p = 0
  · by_cases c2 : oe q = 0
    · have e : de p q = oe (p + q) := by unfold de; rw [if_pos c1, if_pos c2]
      have d : dv p q = ov (p + q) := by
        unfold dv; rw [e]
        by_cases c3 : oe (p + q) = 0
        · rw [if_pos c3, ov_in (oe_my c3)]
        · rw [if_neg c3, ov_out (fun m => c3 (oe_in m))]
      rw [e, d]
      have CA := fadd_any p q (oe_my c1) (oe_my c2)
      rw [ov_in (oe_my c1)] at S1 S2
      rw [ov_in (oe_my c2)] at S2
      exact dot_ok _ _ _ _ _ _ _ _ _ _ _ _ _ _ _ _ _ c1 c2 w S1 (S2 c1) CA
    · have e : de p q = oe q := by unfold de; rw [if_pos c1, if_neg c2]
      have d : dv p q = 0 := by unfold dv; rw [e, if_neg c2]
      rw [e, d, zero_words.1, zero_words.2]
      exact dot_y _ _ _ _ _ _ _ _ _ _ _ _ 0 0 _ _ 0 c1 c2 w S1 (S2 c1)
  · have e : de p q = oe p := by unfold de; rw [if_neg c1]
    have d : dv p q = 0 := by unfold dv; rw [e, if_neg c1]
    rw [e, d, zero_words.1, zero_words.2]
    exact dot_x _ _ _ _ _ _ _ _ _ _ 0 0 0 0 _ 0 0 c1 w S1
theorem vlen2_any (ax ay : Int) (hax : My ax) (hay : My ay) (w : World) :
    Calls Try.prog 36 #[vec ax ay] w fun e w' => e = .returned (.tuple #[.agg #[.int .i64 (fh (dv (mulr ax ax) (mulr ay ay))), .int .u64 (fl (dv (mulr ax ax) (mulr ay ay)))], .int .i64 (de (mulr ax ax) (mulr ay ay))]) ∧ Below w.heap.size w w' :=
  len2_core _ _ _ _ _ _ _ w (vdot_any ax ay ax ay hax hay hax hay)
theorem mulr_self (x : Int) : 0 ≤ mulr x x := by
  unfold mulr sg
  have : (decide (x < 0) != decide (x < 0)) = false := by cases decide (x < 0) <;> rfl
  rw [this]
  exact Int.natCast_nonneg _
theorem dv_self (ax ay : Int) : 0 ≤ dv (mulr ax ax) (mulr ay ay) := by
  have := mulr_self ax; have := mulr_self ay
  unfold dv; split <;> omega
/-- What Len comes to. -/
def lv (ax ay : Int) : Int := if de (mulr ax ax) (mulr ay ay) = 0 then sqr (dv (mulr ax ax) (mulr ay ay)) else 0
end Go.Proofs.Ytmmlekgojblopaa
namespace Go.Proofs.Ytmmlekgojblopaa
open Go.RowKit
theorem sg_mul2 (a b : Int) : sg (decide (a < 0) != decide (b < 0)) ((a.natAbs * b.natAbs : Nat) : Int) = a * b := by
  have e := Int.natAbs_mul a b
  rw [← e]
  by_cases ha : a < 0 <;> by_cases hb : b < 0
  · have := Int.mul_nonneg_of_nonpos_of_nonpos (Int.le_of_lt ha) (Int.le_of_lt hb)
    simp [ha, hb, sg]; omega
  · have := Int.mul_nonpos_of_nonpos_of_nonneg (Int.le_of_lt ha) (show 0 ≤ b by omega)
    simp [ha, hb, sg]; omega
  · have := Int.mul_nonpos_of_nonneg_of_nonpos (show 0 ≤ a by omega) (Int.le_of_lt hb)
    simp [ha, hb, sg]; omega
  · have := Int.mul_nonneg (show 0 ≤ a by omega) (show 0 ≤ b by omega)
    simp [ha, hb, sg]; omega
theorem sign_int2 (a : Int) : decide (a * 18446744073709551616 < 0) = decide (a < 0) := by rw [decide_eq_decide]; omega
theorem mulr_int2 (a b : Int) : mulr (a * 18446744073709551616) (b * 18446744073709551616) = a * b * 18446744073709551616 := by
  unfold mulr
  have h : ((a * 18446744073709551616).natAbs * (b * 18446744073709551616).natAbs + 9223372036854775808) / 18446744073709551616 = a.natAbs * b.natAbs * 18446744073709551616 := by
    rw [Int.natAbs_mul, Int.natAbs_mul, show (18446744073709551616 : Int).natAbs = 18446744073709551616 from rfl, Nat.mul_mul_mul_comm, ← Nat.mul_assoc]
    generalize a.natAbs * b.natAbs = n
    omega
  rw [h, sign_int2, sign_int2]
  have := sg_mul2 a b
  generalize a.natAbs * b.natAbs = n at *
  rw [← this]; unfold sg; split <;> simp <;> omega
theorem prod_bound {a b : Int} {A B : Nat} (ha : a.natAbs ≤ A) (hb : b.natAbs ≤ B) : (a * b).natAbs ≤ A * B := by rw [Int.natAbs_mul]; exact Nat.mul_le_mul ha hb
theorem int_small {n : Int} (h : -9223372036854775807 ≤ n) : intr n = n * 18446744073709551616 := by unfold intr; rw [if_neg (by omega)]
theorem my_small {n : Int} (h : n.natAbs ≤ 4294967296) : My (n * 18446744073709551616) := by unfold My; omega
/-- A whole number, and a pair of them: what Scale, Add, Dot come to. -/
theorem scale_small {x y k : Int} (hx : (x * k).natAbs ≤ 4294967296) (hy : (y * k).natAbs ≤ 4294967296) : ve (mulr (x * 18446744073709551616) (k * 18446744073709551616)) (mulr (y * 18446744073709551616) (k * 18446744073709551616)) = 0 ∧ vx (mulr (x * 18446744073709551616) (k * 18446744073709551616)) (mulr (y * 18446744073709551616) (k * 18446744073709551616)) = x * k * 18446744073709551616 ∧ vy (mulr (x * 18446744073709551616) (k * 18446744073709551616)) (mulr (y * 18446744073709551616) (k * 18446744073709551616)) = y * k * 18446744073709551616 := by
  rw [mulr_int2, mulr_int2]
  exact ve_in (oe_in (my_small hx)) (oe_in (my_small hy))
theorem mulr_turn (x y : Int) : mulr (-x) y = -mulr x y ∧ mulr x (-y) = -mulr x y := by
  have sgn : ∀ (b : Bool) (n : Int), sg (!b) n = -sg b n := by intro b n; cases b <;> simp [sg]
  have hz : ∀ z : Int, mulr 0 z = 0 ∧ mulr z 0 = 0 := fun z => by
    have h : ((0 : Nat) + 9223372036854775808) / 18446744073709551616 = 0 := by decide
    constructor
    · unfold mulr sg; rw [Int.natAbs_zero, Nat.zero_mul, h]; split <;> rfl
    · unfold mulr sg; rw [Int.natAbs_zero, Nat.mul_zero, h]; split <;> rfl
  constructor
  · by_cases c : x = 0
    · subst c; rw [Int.neg_zero, (hz y).1]; rfl
    · unfold mulr; rw [Int.natAbs_neg, ← sgn]
      congr 1
      by_cases d : x < 0
      · rw [decide_eq_true d, decide_eq_false (show ¬ -x < 0 by omega)]; cases decide (y < 0) <;> rfl
      · rw [decide_eq_false d, decide_eq_true (show -x < 0 by omega)]; cases decide (y < 0) <;> rfl
  · by_cases c : y = 0
    · subst c; rw [Int.neg_zero, (hz x).2]; rfl
    · unfold mulr; rw [Int.natAbs_neg, ← sgn]
      congr 1
      by_cases d : y < 0
      · rw [decide_eq_true d, decide_eq_false (show ¬ -y < 0 by omega)]; cases decide (x < 0) <;> rfl
      · rw [decide_eq_false d, decide_eq_true (show -y < 0 by omega)]; cases decide (x < 0) <;> rfl
theorem mulr_comm (x y : Int) : mulr x y = mulr y x := by
  have e : (decide (x < 0) != decide (y < 0)) = (decide (y < 0) != decide (x < 0)) := by cases decide (x < 0) <;> cases decide (y < 0) <;> rfl
  unfold mulr; rw [Nat.mul_comm, e]
theorem my_neg_iff (x : Int) : My (-x) ↔ My x := by unfold My; omega
theorem oe_neg (x : Int) : oe (-x) = oe x := by
  by_cases h : My x
  · rw [oe_in h, oe_in ((my_neg_iff x).2 h)]
  · rw [oe_out h, oe_out (fun g => h ((my_neg_iff x).1 g))]
theorem ve_neg (p q : Int) : ve (-p) (-q) = ve p q ∧ vx (-p) (-q) = -vx p q ∧ vy (-p) (-q) = -vy p q := by
  have e : ve (-p) (-q) = ve p q := by unfold ve; rw [oe_neg, oe_neg]
  refine ⟨e, ?_, ?_⟩
  · unfold vx; rw [e]; split <;> simp
  · unfold vy; rw [e]; split <;> simp
theorem de_neg (p q : Int) : de (-p) (-q) = de p q ∧ dv (-p) (-q) = -dv p q := by
  have e : de (-p) (-q) = de p q := by unfold de; rw [oe_neg, oe_neg, ← Int.neg_add, oe_neg]
  refine ⟨e, ?_⟩
  unfold dv; rw [e]; split
  · omega
  · rfl
theorem vx_My (p q : Int) : My (vx p q) := by
  unfold vx
  split
  · rename_i h
    unfold ve at h
    split at h
    · rename_i g; exact oe_my g
    · rename_i g; exact absurd h g
  · exact ⟨by decide, by decide⟩
theorem vy_My (p q : Int) : My (vy p q) := by
  unfold vy
  split
  · rename_i h
    unfold ve at h
    split at h
    · exact oe_my h
    · rename_i g; exact absurd h g
  · exact ⟨by decide, by decide⟩
theorem my_neg2 {x : Int} (h : My x) : My (-x) := (my_neg_iff x).2 h
theorem mulr_nn (x : Int) : mulr (-x) (-x) = mulr x x := by rw [(mulr_turn x (-x)).1, (mulr_turn x x).2]; omega
end Go.Proofs.Ytmmlekgojblopaa
namespace Go.Proofs.Ytmmlekgojblopaa
open Go.RowKit
theorem eq_vec_true (a b c d : Int) (W : World) : (Go.binOp .eql 26 (.agg #[.int .i64 a, .int .u64 b, .int .i64 c, .int .u64 d]) (.agg #[.int .i64 a, .int .u64 b, .int .i64 c, .int .u64 d])).run Try.prog W = .ok (.bool true) W := by
  simp [go_sem]
theorem ne_vec_false (a b c d : Int) (W : World) : (Go.binOp .neq 26 (.agg #[.int .i64 a, .int .u64 b, .int .i64 c, .int .u64 d]) (.agg #[.int .i64 a, .int .u64 b, .int .i64 c, .int .u64 d])).run Try.prog W = .ok (.bool false) W := by
  simp [go_sem]
theorem sqr_five : sqr 461168601842738790400 = 92233720368547758080 := by
  unfold sqr
  rw [show (461168601842738790400 : Int).toNat * 18446744073709551616 = 92233720368547758080 * 92233720368547758080 by decide, isq_of (Nat.le_refl _) (by omega)]
  rfl
theorem three_my : My 55340232221128654848 ∧ My 73786976294838206464 ∧ My 92233720368547758080 := by unfold My; omega
theorem rmv_true {x y : Int} (hx : My x) (hy : My y) (w : World) : Calls Try.prog 20 #[vec x y] w fun e w' => e = .returned (.bool true) ∧ Below w.heap.size w w' := by
  have h := rmayvec_any x y w
  rw [decide_eq_true (show x ≠ -170141183460469231731687303715884105728 by unfold My at hx; omega), decide_eq_true (show y ≠ -170141183460469231731687303715884105728 by unfold My at hy; omega)] at h; exact h
theorem rmv_false {x y : Int} (hx : Fx x) (hy : Fx y) (n : ¬ (My x ∧ My y)) (w : World) : Calls Try.prog 20 #[vec x y] w fun e w' => e = .returned (.bool false) ∧ Below w.heap.size w w' := by
  have h := rmayvec_any x y w
  by_cases mx : My x
  · have my : ¬ My y := fun g => n ⟨mx, g⟩
    rw [decide_eq_false (show ¬ y ≠ -170141183460469231731687303715884105728 by unfold My at my; unfold Fx at hy; omega), Bool.and_false] at h; exact h
  · rw [decide_eq_false (show ¬ x ≠ -170141183460469231731687303715884105728 by unfold My at mx; unfold Fx at hx; omega)] at h; exact h
end Go.Proofs.Ytmmlekgojblopaa
