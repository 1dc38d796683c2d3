/- How strong pulls became: a map that is keyed by a struct. -/
import Derived.Test.YtmmlekgojblopaaZzVecA
import Derived.Test.YtmmlekgojblopaaPairNum
import Derived.Test.YtmmlekgojblopaaZzRow
namespace Go.Proofs.Ytmmlekgojblopaa
open Go.ChangeShapes Go.WideShapes Go.ChangeAt Go.RowKit Go.Joins
open Go.ChangeMaps (setBlock)
theorem cells_pull : Try.prog.cellsOf 81 = 4 := by kernel_rfl
theorem pull_row : (81 : TypeId) < Try.prog.types.size := of_decide_eq_true (by kernel_rfl)
set_option maxRecDepth 20000 in
theorem pull_wide : (match Try.prog.underlying 81 with | some (.array _ _) | some (.struct _) => true | _ => false) = true := by rw [Try.underlying81]
set_option maxRecDepth 100000 in
theorem pull_law : Maps.Keyed Try.prog 81 := Maps.Keyed.of_law (deep_law_laid laidOut (m := 3) (by omega) pull_row (by kernel_rfl) pull_wide)
theorem pull_deep : Try.prog.keyTypeAt (Try.prog.types.size + 1) 81 = true := by kernel_rfl
set_option maxRecDepth 20000 in
theorem pull_formed (x y : Int) : (vec x y).formed Try.prog 81 = true := by simp [vec, Value.formed, Try.underlying81, cells_pull]
set_option maxRecDepth 20000 in
theorem shut_pull {H : Type} {enc : TypeId × Value → H} {w : World} {base : Nat} {spare : Nat → Bool} {held : Bool} {x y : Int} (hx : Fx x) (hy : Fx y) : DataW.Trod enc Try.prog w base spare held 81 (vec x y) (vecd H x y) [] := by
  have := trod_struct2_mk (enc := enc) (w := w) (base := base) (spare := spare) (held := held) (n := 2) (cs := [.int .i64 (fh x), .int .u64 (fl x), .int .i64 (fh y), .int .u64 (fl y)]) (y0 := (.agg [.lit (.int .i64 (fh x)), .lit (.int .u64 (fl x))], [])) (y1 := (.agg [.lit (.int .i64 (fh y)), .lit (.int .u64 (fl y))], [])) Try.underlying81 (by simp [cells_pull])
    (by simpa [cells_fix] using trod_fix_mk 0 (fh_hd hx) (fl_wd x)) (by simpa [cells_fix] using trod_fix_mk 0 (fh_hd hy) (fl_wd y))
  exact ⟨3, by simpa [vec, vecd, Value.cells] using this⟩
set_option maxRecDepth 100000 in
theorem pull_key {x y : Int} (hx : Fx x) (hy : Fx y) : ∃ l, keyOf Try.prog 81 (vec x y) = some l :=
  ⟨_, (keyOf_asKey (H := Unit) (enc := fun _ => ()) (w := default) (base := 0) (sp := fun _ => false) (held := false) pull_deep pull_wide (pull_formed x y) (shut_pull hx hy)).1⟩
theorem pulls_map : Try.prog.underlying 77 = some (.map 81 24) := Try.underlying77
section
variable {W : World} {B cl : Nat} {es : Array MapEntry} {x : Value}
theorem pull_look {l : Lit} (hb : W.heap[B]? = some (.map es cl)) (hk : keyOf Try.prog 81 x = some l) (hes : ∀ e ∈ es.toList, ∃ l, keyOf Try.prog 81 e.key = some l) :
    (∃ e ∈ es.toList, e.key = x ∧ (Instr.lookup 77 (.map (some B)) x true).run Try.prog W = .ok (.tuple #[e.val, .bool true]) W) ∨ ((∀ e ∈ es.toList, e.key ≠ x) ∧ (Instr.lookup 77 (.map (some B)) x true).run Try.prog W = .ok (.tuple #[.agg #[.int .i64 0, .int .u64 0], .bool false]) W) := by
  rcases pull_law.find W hk es.toList hes with ⟨h1, h2⟩ | ⟨j, e, h1, h2, h3⟩
  · refine Or.inr ⟨h2, ?_⟩
    simp [Instr.lookup, run_underlying pulls_map, MapKept.run_getObj_map hb, pull_law.check W _ hk, h1, Result.andThen]
  · refine Or.inl ⟨e, List.mem_of_getElem? h2, h3, ?_⟩
    simp [Instr.lookup, run_underlying pulls_map, MapKept.run_getObj_map hb, pull_law.check W _ hk, h1, Result.andThen]
theorem pull_put {l : Lit} {v : Value} (hb : W.heap[B]? = some (.map es cl)) (hk : keyOf Try.prog 81 x = some l) (hes : ∀ e ∈ es.toList, ∃ l, keyOf Try.prog 81 e.key = some l) (hne : ∀ e ∈ es.toList, e.key ≠ x) :
    (Instr.mapUpdate 77 (.map (some B)) x v).run Try.prog W = .ok () (setBlock W B (.map (es.push ⟨x, v, cl⟩) (cl + 1))) := by
  rcases pull_law.find W hk es.toList hes with ⟨h1, _⟩ | ⟨j, e, _, h2, h3⟩
  · simp [Instr.mapUpdate, run_underlying pulls_map, MapKept.run_getObj_map hb, pull_law.check W false hk, h1, MapKept.run_setObj_map _ hb, Result.andThen, setBlock]
  · exact absurd h3 (hne e (List.mem_of_getElem? h2))
end
/-- A map of pulls, each as strong as it should be. -/
def Pls (w : World) (B : Nat) : Prop := ∃ es cl, w.heap[B]? = some (.map es cl) ∧ ∀ e ∈ es.toList, ∃ s t : Int, Fx s ∧ Fx t ∧ My (mulr s t) ∧ e.key = vec s t ∧ e.val = fxv (mulr s t)
end Go.Proofs.Ytmmlekgojblopaa
