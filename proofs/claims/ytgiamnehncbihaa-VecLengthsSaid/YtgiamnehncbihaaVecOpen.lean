/- Ways as arguments: opened, and shut; ways as keys of a map. -/
import Derived.Test.YtgiamnehncbihaaFixOpen
import Derived.Test.YtgiamnehncbihaaRefSum
import Derived.Maps.Own
import Derived.MapViews
import Derived.DeepKeys4
namespace Go.Proofs.Ytgiamnehncbihaa
open Go.ChangeShapes Go.WideShapes Go.ChangeAt Go.RowKit Go.Joins

theorem cells_vec : Try.prog.cellsOf 42 = 4 := by kernel_rfl
/-- A way as a value. -/
def vec (x y : Int) : Value := .agg #[.int .i64 (fh x), .int .u64 (fl x), .int .i64 (fh y), .int .u64 (fl y)]
section
variable {H : Type} {enc : TypeId × Value → H} {w : World} {base : Nat} {spare : Nat → Bool} {held : Bool}
def vecd (H : Type) (x y : Int) : DataW H := .agg [.agg [.lit (.int .i64 (fh x)), .lit (.int .u64 (fl x))], .agg [.lit (.int .i64 (fh y)), .lit (.int .u64 (fl y))]]
set_option maxRecDepth 20000 in
theorem open_vec {r : Reach} {b0 : Nat} {v : Value} {d : DataW H} {p : List MemPlace} (hv : Value.okWide Try.prog w r b0 42 v) (h : DataW.Trod enc Try.prog w base spare held 42 v d p) :
    ∃ x y : Int, v = vec x y ∧ d = vecd H x y ∧ p = [] ∧ Fx x ∧ Fx y := by
  obtain ⟨cs, rfl, hsz⟩ := okWide_struct Try.underlying42 hv
  obtain ⟨c0, c1, c2, c3, rfl⟩ := array4 (hsz.trans cells_vec)
  obtain ⟨fuel, hf⟩ := h
  obtain ⟨y0, y1, m, e, _, g0, g1⟩ := trod_struct2 Try.underlying42 hf
  simp [Value.cells, cells_fix] at g0 g1
  obtain ⟨a3, a2, rfl, rfl, rfl, k3, k2⟩ := trod_fix g0
  obtain ⟨a1, a0, rfl, rfl, rfl, k1, k0⟩ := trod_fix g1
  simp only [Prod.mk.injEq] at e
  refine ⟨fx a3 a2, fx a1 a0, ?_, ?_, by simpa using e.2, fx_Fx k3 k2, fx_Fx k1 k0⟩
  · unfold vec; rw [fh_fx k2, fl_fx k2, fh_fx k0, fl_fx k0]
  · unfold vecd; rw [fh_fx k2, fl_fx k2, fh_fx k0, fl_fx k0]; exact e.1
set_option maxRecDepth 20000 in
theorem shut_vec {x y : Int} (hx : Fx x) (hy : Fx y) : DataW.Trod enc Try.prog w base spare held 42 (vec x y) (vecd H x y) [] := by
  have := trod_struct2_mk (enc := enc) (w := w) (base := base) (spare := spare) (held := held) (n := 2) (cs := [.int .i64 (fh x), .int .u64 (fl x), .int .i64 (fh y), .int .u64 (fl y)]) (y0 := (.agg [.lit (.int .i64 (fh x)), .lit (.int .u64 (fl x))], [])) (y1 := (.agg [.lit (.int .i64 (fh y)), .lit (.int .u64 (fl y))], [])) Try.underlying42 (by simp [cells_vec])
    (by simpa [cells_fix] using trod_fix_mk 0 (fh_hd hx) (fl_wd x)) (by simpa [cells_fix] using trod_fix_mk 0 (fh_hd hy) (fl_wd y))
  exact ⟨3, by simpa [vec, vecd, Value.cells] using this⟩
end
theorem laidOut : laidOutB Try.prog = true := by kernel_rfl
theorem vec_row : (42 : TypeId) < Try.prog.types.size := of_decide_eq_true (by kernel_rfl)
set_option maxRecDepth 20000 in
theorem vec_wide : (match Try.prog.underlying 42 with | some (.array _ _) | some (.struct _) => true | _ => false) = true := by rw [Try.underlying42]
set_option maxRecDepth 100000 in
theorem vec_law : Maps.Keyed Try.prog 42 := Maps.Keyed.of_law (deep_law_laid laidOut (m := 3) (by omega) vec_row (by kernel_rfl) vec_wide)
theorem vec_deep : Try.prog.keyTypeAt (Try.prog.types.size + 1) 42 = true := by kernel_rfl
set_option maxRecDepth 20000 in
theorem vec_formed (x y : Int) : (vec x y).formed Try.prog 42 = true := by simp [vec, Value.formed, Try.underlying42, cells_vec]
set_option maxRecDepth 100000 in
theorem vec_key (x y : Int) (hx : Fx x) (hy : Fx y) : ∃ l, keyOf Try.prog 42 (vec x y) = some l :=
  ⟨_, (keyOf_asKey (H := Unit) (enc := fun _ => ()) (w := default) (base := 0) (sp := fun _ => false) (held := false) vec_deep vec_wide (vec_formed x y) (shut_vec hx hy)).1⟩
open Go.ChangeMaps (setBlock)
theorem meas_map : Try.prog.underlying 93 = some (.map 42 24) := Try.underlying93
theorem zero_fix (W : World) : (zeroValue 24).run Try.prog W = .ok (.agg #[.int .i64 0, .int .u64 0]) W := by kernel_rfl
section
variable {W : World} {B cl born : Nat} {x y x1 y1 : Int}
theorem look_empty (hb : W.heap[B]? = some (.map #[] cl)) (hx : Fx x) (hy : Fx y) : (Instr.lookup 93 (.map (some B)) (vec x y) true).run Try.prog W = .ok (.tuple #[.agg #[.int .i64 0, .int .u64 0], .bool false]) W := by
  obtain ⟨l, hk⟩ := vec_key x y hx hy
  rcases vec_law.find W hk [] (by simp) with ⟨h1, _⟩ | ⟨j, e, _, h2, _⟩
  · simp [Instr.lookup, run_underlying meas_map, MapKept.run_getObj_map hb, vec_law.check W _ hk, h1, Result.andThen]
  · simp at h2
theorem look_same {v : Value} (hb : W.heap[B]? = some (.map #[⟨vec x y, v, born⟩] cl)) (hx : Fx x) (hy : Fx y) : (Instr.lookup 93 (.map (some B)) (vec x y) true).run Try.prog W = .ok (.tuple #[v, .bool true]) W := by
  obtain ⟨l, hk⟩ := vec_key x y hx hy
  rcases vec_law.find W hk [⟨vec x y, v, born⟩] (by simp [hk]) with ⟨_, h2⟩ | ⟨j, e, h1, h2, _⟩
  · exact absurd rfl (h2 ⟨vec x y, v, born⟩ (by simp))
  · have he : e.val = v := by
      rcases j with _ | j
      · simp at h2; rw [← h2]
      · simp at h2
    simp [Instr.lookup, run_underlying meas_map, MapKept.run_getObj_map hb, vec_law.check W _ hk, h1, he, Result.andThen]
theorem look_other {v : Value} (hb : W.heap[B]? = some (.map #[⟨vec x1 y1, v, born⟩] cl)) (hx : Fx x) (hy : Fx y) (hx1 : Fx x1) (hy1 : Fx y1) (hne : vec x1 y1 ≠ vec x y) : (Instr.lookup 93 (.map (some B)) (vec x y) true).run Try.prog W = .ok (.tuple #[.agg #[.int .i64 0, .int .u64 0], .bool false]) W := by
  obtain ⟨l, hk⟩ := vec_key x y hx hy
  rcases vec_law.find W hk [⟨vec x1 y1, v, born⟩] (by simpa using vec_key x1 y1 hx1 hy1) with ⟨h1, _⟩ | ⟨j, e, _, h2, h3⟩
  · simp [Instr.lookup, run_underlying meas_map, MapKept.run_getObj_map hb, vec_law.check W _ hk, h1, Result.andThen]
  · rcases j with _ | j
    · simp at h2; rw [← h2] at h3; exact absurd h3 hne
    · simp at h2
theorem put_empty {v : Value} (hb : W.heap[B]? = some (.map #[] cl)) (hx : Fx x) (hy : Fx y) : (Instr.mapUpdate 93 (.map (some B)) (vec x y) v).run Try.prog W = .ok () (setBlock W B (.map #[⟨vec x y, v, cl⟩] (cl + 1))) := by
  obtain ⟨l, hk⟩ := vec_key x y hx hy
  rcases vec_law.find W hk [] (by simp) with ⟨h1, _⟩ | ⟨j, e, _, h2, _⟩
  · simp [Instr.mapUpdate, run_underlying meas_map, MapKept.run_getObj_map hb, vec_law.check W false hk, h1, MapKept.run_setObj_map _ hb, Result.andThen, setBlock]
  · simp at h2
theorem put_other {u v : Value} (hb : W.heap[B]? = some (.map #[⟨vec x1 y1, u, born⟩] cl)) (hx : Fx x) (hy : Fx y) (hx1 : Fx x1) (hy1 : Fx y1) (hne : vec x1 y1 ≠ vec x y) : (Instr.mapUpdate 93 (.map (some B)) (vec x y) v).run Try.prog W = .ok () (setBlock W B (.map #[⟨vec x1 y1, u, born⟩, ⟨vec x y, v, cl⟩] (cl + 1))) := by
  obtain ⟨l, hk⟩ := vec_key x y hx hy
  rcases vec_law.find W hk [⟨vec x1 y1, u, born⟩] (by simpa using vec_key x1 y1 hx1 hy1) with ⟨h1, _⟩ | ⟨j, e, _, h2, h3⟩
  · simp [Instr.mapUpdate, run_underlying meas_map, MapKept.run_getObj_map hb, vec_law.check W false hk, h1, MapKept.run_setObj_map _ hb, Result.andThen, setBlock]
  · rcases j with _ | j
    · simp at h2; rw [← h2] at h3; exact absurd h3 hne
    · simp at h2
end
theorem vec_inj {x y x1 y1 : Int} (h : vec x1 y1 = vec x y) : x1 = x ∧ y1 = y := by
  unfold vec at h
  injection h with h
  have e : ∀ i : Nat, (#[Value.int .i64 (fh x1), .int .u64 (fl x1), .int .i64 (fh y1), .int .u64 (fl y1)] : Array Value)[i]? = (#[Value.int .i64 (fh x), .int .u64 (fl x), .int .i64 (fh y), .int .u64 (fl y)] : Array Value)[i]? := fun i => by rw [h]
  have e0 := e 0; have e1 := e 1; have e2 := e 2; have e3 := e 3
  simp at e0 e1 e2 e3
  unfold fh at e0 e2; unfold fl at e1 e3
  exact ⟨by omega, by omega⟩
end Go.Proofs.Ytgiamnehncbihaa
