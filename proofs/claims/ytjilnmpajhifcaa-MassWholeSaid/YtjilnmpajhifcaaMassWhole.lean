/- Of two of one mass, at whole places, the middle is half the way, of one body it is where that is: at any commit whose code this is, for every five numbers. -/
import Derived.Test.YtjilnmpajhifcaaMassCenP
import Derived.Test.YtjilnmpajhifcaaMassWholeN
import Derived.Test.YtjilnmpajhifcaaFive
import Derived.Test.YtjilnmpajhifcaaSortOpen
namespace Go.Proofs.Ytjilnmpajhifcaa
open Go.RowKit
open Go.ChangeShapes Go.WideShapes Go.ChangeAt Go.RowKit Go.Joins
set_option maxRecDepth 100000 in
theorem massWhole_lifted (os : Os) (started : os.Started) (H : Type) (enc : TypeId × Value → H) :
    ReturnsInHanded {} Try.checked os 4 .any (Rows.massWholeSpec.pre6 enc Try.prog Try.f4 Rows.massWholeRow.domain false) (Rows.massWholeSpec.post enc Try.prog Try.f4 false true false false) := by
  refine returnsInHanded_of_change (C := Try.checked) Try.own started (by kernel_rfl) Try.func4
    (ChangeSpec.witness6 (enc := enc) (C := Try.checked) false ⟨#[], #[.int .u8 0, .int .i16 0, .int .i16 0, .int .i16 0, .int .i16 0], []⟩ 8 (by kernel_rfl) (by kernel_rfl) (by kernel_rfl) (by kernel_rfl)) ?_
  intro W base args ds gs before hval0 hW hcnd _
  have hval : ∀ (j : Nat) t v, Try.f4.params[j]? = some t → args[j]? = some v → Value.okWide Try.prog W .any base t v := hval0
  have hW' := hW
  obtain ⟨p, q, hA0, hV, rfl, hfz, hnd⟩ := hW
  have hA : DataW.TrodAll enc Try.prog W 0 (fun _ => true) true Try.f4.params.toList args.toList ds p := hA0
  rw [Try.params4] at hA hval
  obtain ⟨v0, v1, v2, v3, v4, d0, d1, d2, d3, d4, p0, p1, p2, p3, p4, rfl, rfl, rfl, h0, h1, h2, h3, h4⟩ := args_five hA
  obtain ⟨rfl, rfl⟩ := trodVars_none hV
  obtain ⟨m, rfl, rfl, rfl, k00⟩ := open_int Try.underlying5 (hval 0 5 v0 rfl rfl) h0
  obtain ⟨a, rfl, rfl, rfl, k10⟩ := open_int Try.underlying42 (hval 1 42 v1 rfl rfl) h1
  obtain ⟨b, rfl, rfl, rfl, k20⟩ := open_int Try.underlying42 (hval 2 42 v2 rfl rfl) h2
  obtain ⟨c, rfl, rfl, rfl, k30⟩ := open_int Try.underlying42 (hval 3 42 v3 rfl rfl) h3
  obtain ⟨d, rfl, rfl, rfl, k40⟩ := open_int Try.underlying42 (hval 4 42 v4 rfl rfl) h4
  clear hA0 hval0
  simp only [List.append_nil] at hW'
  refine (massWhole_any cen_prog cenn_prog m a b c d (wf_u8 k00).1 (wf_u8 k00).2 (wf_i16 k10).1 (wf_i16 k10).2 (wf_i16 k20).1 (wf_i16 k20).2 (wf_i16 k30).1 (wf_i16 k30).2 (wf_i16 k40).1 (wf_i16 k40).2 W).mono fun e W' ⟨he, hb⟩ => ?_
  subst he
  exact ⟨_, rfl, _, _, _, [], [], [], hW', trodAll_mk1 (shut_bool Try.underlying4 _), shut_five (shut_int Try.underlying5 k00) (shut_int Try.underlying42 k10) (shut_int Try.underlying42 k20) (shut_int Try.underlying42 k30) (shut_int Try.underlying42 k40), rfl, hb.frame _, fun h => by cases h⟩
theorem massWhole_holds : Rows.MassWholeSaid :=
  OpenClaim.holds_of_wide 4 Try.f4 rfl rfl rfl rfl rfl rfl rfl ⟨rfl, rfl, rfl, rfl, rfl⟩ rfl rfl rfl rfl rfl (by kernel_rfl) Try.func4 (by kernel_rfl)
    (of_decide_eq_true (by kernel_rfl)) (by unfold Func.isWrapper; first | (rw [if_pos (by decide +kernel)]; kernel_rfl) | (rw [if_neg (by decide +kernel)]; exact ⟨rfl, rfl⟩))
    (fun os started H enc _ => massWhole_lifted os started H enc)
end Go.Proofs.Ytjilnmpajhifcaa
