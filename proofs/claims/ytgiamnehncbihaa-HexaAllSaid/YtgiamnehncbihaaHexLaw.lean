/- The laws of hexa: what each of their claims wants beside its walk. -/
import Derived.Test.YtgiamnehncbihaaHexAwake
import Derived.Test.YtgiamnehncbihaaFixOpen
import Derived.HandedShaped
import Derived.Shelf.Strings.Shaped
namespace Go.Proofs.Ytgiamnehncbihaa
open Go.ChangeShapes Go.WideShapes Go.ChangeAt Go.RowKit Go.Joins

/-- The library's MaxLen holds some int, in whatever world a claim opens. -/
theorem maxlen_cell (W : World) (h : W.ShapedOpen Try.prog) : ∃ m, W.cell? ⟨0, 0, none⟩ = some (.int .i64 m) :=
  cell_of_shapedOpen_int (zero := #[.int .i64 0]) (t := 3) h (of_decide_eq_true (by kernel_rfl)) (by kernel_rfl) rfl (by kernel_rfl) (by kernel_rfl) Try.underlying3

theorem wf_u8 {n : Int} (h : (Lit.int .u8 n).wf = true) : 0 ≤ n ∧ n < 256 := by
  simp [Lit.wf, IntKind.min, IntKind.max, IntKind.bits, IntKind.signed] at h; omega
set_option maxRecDepth 100000 in
theorem hexaRefuses_lifted (walk : ∀ (x k m : Int) (w : World), Fx x → 0 ≤ k → k < 256 → w.cell? ⟨0, 0, none⟩ = some (.int .i64 m) →
      Calls Try.prog 6 #[.agg #[.int .i64 (fh x), .int .u64 (fl x)], .int .u8 k] w fun e w' => e = .returned (.bool true) ∧ Below w.heap.size w w')
    (os : Os) (started : os.Started) (H : Type) (enc : TypeId × Value → H) :
    ReturnsInHanded {} Try.checked os 6 .any (Rows.hexaRefusesSpec.pre6 enc Try.prog Try.f6 Rows.hexaRefusesRow.domain false) (Rows.hexaRefusesSpec.post enc Try.prog Try.f6 false true false false) := by
  refine returnsInHanded_of_change_shaped (C := Try.checked) Try.own started (by kernel_rfl) Try.func6
    (ChangeSpec.witness6 (enc := enc) (C := Try.checked) false ⟨#[], #[.agg #[.int .i64 0, .int .u64 0], .int .u8 0], []⟩ 8 (by kernel_rfl) (by kernel_rfl) (by kernel_rfl) (by kernel_rfl)) ?_
  intro W base args ds gs before hval0 hW hcnd _ hsh _
  have hval : ∀ (j : Nat) t v, Try.f6.params[j]? = some t → args[j]? = some v → Value.okWide Try.prog W .any base t v := hval0
  have hW' := hW
  obtain ⟨p, q, hA0, hV, rfl, hfz, hnd⟩ := hW
  have hA : DataW.TrodAll enc Try.prog W 0 (fun _ => true) true Try.f6.params.toList args.toList ds p := hA0
  rw [Try.params6] at hA hval
  obtain ⟨v0, v1, d0, d1, p0, p1, rfl, rfl, rfl, h0, h1⟩ := trodAll_two hA
  obtain ⟨rfl, rfl⟩ := trodVars_none hV
  obtain ⟨x, rfl, rfl, rfl, k00⟩ := open_fix (hval 0 24 v0 rfl rfl) h0
  obtain ⟨n, rfl, rfl, rfl, k10⟩ := open_int Try.underlying5 (hval 1 5 v1 rfl rfl) h1
  obtain ⟨m, hm⟩ := maxlen_cell W hsh
  clear hA0 hval0
  simp only [List.append_nil] at hW'
  refine (walk x n m W k00 (wf_u8 k10).1 (wf_u8 k10).2 hm).mono fun e W' ⟨he, hb⟩ => ?_
  subst he
  exact ⟨_, rfl, _, _, _, [], [], [], hW', trodAll_mk1 (shut_bool Try.underlying4 _), trodAll_mk2 (shut_fix k00) (shut_int Try.underlying5 k10), rfl, hb.frame _, fun h => by cases h⟩
end Go.Proofs.Ytgiamnehncbihaa
