/- With both ways changed for one another what is got is changed so, too: at any commit whose code this is, for every five arguments. -/
import Derived.Test.YtmmlekgojblopaaPairProg
import Derived.Test.YtmmlekgojblopaaPairEnd2
import Derived.Test.YtmmlekgojblopaaSix
import Derived.Test.YtmmlekgojblopaaZzFixA
import Derived.Test.YtmmlekgojblopaaZzVecA
namespace Go.Proofs.Ytmmlekgojblopaa
open Go.RowKit
open Go.ChangeShapes Go.WideShapes Go.ChangeAt Go.RowKit Go.Joins
set_option maxRecDepth 100000 in
theorem pairAcross_lifted (os : Os) (started : os.Started) (H : Type) (enc : TypeId × Value → H) :
    ReturnsInHanded {} Try.checked os 8 .any (Rows.pairAcrossSpec.pre6 enc Try.prog Try.f8 Rows.pairAcrossRow.domain false) (Rows.pairAcrossSpec.post enc Try.prog Try.f8 false true false false) := by
  refine returnsInHanded_of_change (C := Try.checked) Try.own started (by kernel_rfl) Try.func8
    (ChangeSpec.witness6 (enc := enc) (C := Try.checked) false ⟨#[], #[.agg #[.int .i64 0, .int .u64 0], .agg #[.int .i64 0, .int .u64 0], .int .i32 0, .int .i32 0, .int .u64 0], []⟩ 8 (by kernel_rfl) (by kernel_rfl) (by kernel_rfl) (by kernel_rfl)) ?_
  intro W base args ds gs before hval0 hW hcnd _
  have hval : ∀ (j : Nat) t v, Try.f8.params[j]? = some t → args[j]? = some v → Value.okWide Try.prog W .any base t v := hval0
  have hW' := hW
  obtain ⟨p, q, hA0, hV, rfl, hfz, hnd⟩ := hW
  have hA : DataW.TrodAll enc Try.prog W 0 (fun _ => true) true Try.f8.params.toList args.toList ds p := hA0
  rw [Try.params8] at hA hval
  obtain ⟨v0, v1, v2, v3, v4, d0, d1, d2, d3, d4, p0, p1, p2, p3, p4, rfl, rfl, rfl, h0, h1, h2, h3, h4⟩ := args_five hA
  obtain ⟨rfl, rfl⟩ := trodVars_none hV
  obtain ⟨a, rfl, rfl, rfl, k00⟩ := open_fix (hval 0 24 v0 rfl rfl) h0
  obtain ⟨b, rfl, rfl, rfl, k10⟩ := open_fix (hval 1 24 v1 rfl rfl) h1
  obtain ⟨x, rfl, rfl, rfl, k20⟩ := open_int Try.underlying21 (hval 2 21 v2 rfl rfl) h2
  obtain ⟨y, rfl, rfl, rfl, k30⟩ := open_int Try.underlying21 (hval 3 21 v3 rfl rfl) h3
  obtain ⟨h, rfl, rfl, rfl, k40⟩ := open_int Try.underlying22 (hval 4 22 v4 rfl rfl) h4
  clear hA0 hval0
  simp only [List.append_nil] at hW'
  refine (pairAcross_any pul_prog a b x y h k00 k10 (wf_i32 k20).1 (wf_i32 k20).2 (wf_i32 k30).1 (wf_i32 k30).2 (wf_u64 k40).1 (wf_u64 k40).2 W).mono fun e W' ⟨he, hb⟩ => ?_
  subst he
  exact ⟨_, rfl, _, _, _, [], [], [], hW', trodAll_mk1 (shut_bool Try.underlying4 _), shut_five (shut_fix k00) (shut_fix k10) (shut_int Try.underlying21 k20) (shut_int Try.underlying21 k30) (shut_int Try.underlying22 k40), rfl, hb.frame _, fun h => by cases h⟩
theorem pairAcross_holds : Rows.PairAcrossSaid :=
  OpenClaim.holds_of_wide 8 Try.f8 rfl rfl rfl rfl rfl rfl rfl ⟨rfl, rfl, rfl, rfl, rfl⟩ rfl rfl rfl rfl rfl (by kernel_rfl) Try.func8 (by kernel_rfl)
    (of_decide_eq_true (by kernel_rfl)) (by unfold Func.isWrapper; first | (rw [if_pos (by decide +kernel)]; kernel_rfl) | (rw [if_neg (by decide +kernel)]; exact ⟨rfl, rfl⟩))
    (fun os started H enc _ => pairAcross_lifted os started H enc)
end Go.Proofs.Ytmmlekgojblopaa
