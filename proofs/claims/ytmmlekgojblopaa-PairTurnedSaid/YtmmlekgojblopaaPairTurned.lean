/- The other one gets the same, turned about; so it is for a time turned about; both masses may change places: at any commit whose code this is, for every six arguments. -/
import Derived.Test.YtmmlekgojblopaaPairProg
import Derived.Test.YtmmlekgojblopaaPairEnd2
import Derived.Test.YtmmlekgojblopaaSix
import Derived.Test.YtmmlekgojblopaaZzFixA
import Derived.Test.YtmmlekgojblopaaZzVecA
namespace Go.Proofs.Ytmmlekgojblopaa
open Go.RowKit
open Go.ChangeShapes Go.WideShapes Go.ChangeAt Go.RowKit Go.Joins
set_option maxRecDepth 100000 in
theorem pairTurned_lifted (os : Os) (started : os.Started) (H : Type) (enc : TypeId × Value → H) :
    ReturnsInHanded {} Try.checked os 4 .any (Rows.pairTurnedSpec.pre6 enc Try.prog Try.f4 Rows.pairTurnedRow.domain false) (Rows.pairTurnedSpec.post enc Try.prog Try.f4 false true false false) := by
  refine returnsInHanded_of_change (C := Try.checked) Try.own started (by kernel_rfl) Try.func4
    (ChangeSpec.witness6 (enc := enc) (C := Try.checked) false ⟨#[], #[.agg #[.int .i64 0, .int .u64 0], .agg #[.int .i64 0, .int .u64 0], .agg #[.int .i64 0, .int .u64 0], .agg #[.int .i64 0, .int .u64 0, .int .i64 0, .int .u64 0], .agg #[.int .i64 0, .int .u64 0], .agg #[.int .i64 0, .int .u64 0]], []⟩ 8 (by kernel_rfl) (by kernel_rfl) (by kernel_rfl) (by kernel_rfl)) ?_
  intro W base args ds gs before hval0 hW hcnd _
  have hval : ∀ (j : Nat) t v, Try.f4.params[j]? = some t → args[j]? = some v → Value.okWide Try.prog W .any base t v := hval0
  have hW' := hW
  obtain ⟨p, q, hA0, hV, rfl, hfz, hnd⟩ := hW
  have hA : DataW.TrodAll enc Try.prog W 0 (fun _ => true) true Try.f4.params.toList args.toList ds p := hA0
  rw [Try.params4] at hA hval
  obtain ⟨v0, v1, v2, v3, v4, v5, d0, d1, d2, d3, d4, d5, p0, p1, p2, p3, p4, p5, rfl, rfl, rfl, h0, h1, h2, h3, h4, h5⟩ := args_six hA
  obtain ⟨rfl, rfl⟩ := trodVars_none hV
  obtain ⟨g, rfl, rfl, rfl, k00⟩ := open_fix (hval 0 24 v0 rfl rfl) h0
  obtain ⟨a, rfl, rfl, rfl, k10⟩ := open_fix (hval 1 24 v1 rfl rfl) h1
  obtain ⟨b, rfl, rfl, rfl, k20⟩ := open_fix (hval 2 24 v2 rfl rfl) h2
  obtain ⟨dx, dy, rfl, rfl, rfl, k30, k31⟩ := open_vec (hval 3 26 v3 rfl rfl) h3
  obtain ⟨ep, rfl, rfl, rfl, k40⟩ := open_fix (hval 4 24 v4 rfl rfl) h4
  obtain ⟨h, rfl, rfl, rfl, k50⟩ := open_fix (hval 5 24 v5 rfl rfl) h5
  clear hA0 hval0
  simp only [List.append_nil] at hW'
  refine (pairTurned_any pul_prog g a b dx dy ep h k00 k10 k20 k30 k31 k40 k50 W).mono fun e W' ⟨he, hb⟩ => ?_
  subst he
  exact ⟨_, rfl, _, _, _, [], [], [], hW', trodAll_mk1 (shut_bool Try.underlying4 _), shut_six (shut_fix k00) (shut_fix k10) (shut_fix k20) (shut_vec k30 k31) (shut_fix k40) (shut_fix k50), rfl, hb.frame _, fun h => by cases h⟩
theorem pairTurned_holds : Rows.PairTurnedSaid :=
  OpenClaim.holds_of_wide 4 Try.f4 rfl rfl rfl rfl rfl rfl rfl ⟨rfl, rfl, rfl, rfl, rfl⟩ rfl rfl rfl rfl rfl (by kernel_rfl) Try.func4 (by kernel_rfl)
    (of_decide_eq_true (by kernel_rfl)) (by unfold Func.isWrapper; first | (rw [if_pos (by decide +kernel)]; kernel_rfl) | (rw [if_neg (by decide +kernel)]; exact ⟨rfl, rfl⟩))
    (fun os started H enc _ => pairTurned_lifted os started H enc)
end Go.Proofs.Ytmmlekgojblopaa
