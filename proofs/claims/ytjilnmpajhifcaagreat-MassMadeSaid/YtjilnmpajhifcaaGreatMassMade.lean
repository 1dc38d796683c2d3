/- Of bodies by numbers the centre, the keys, the cells are the document's, and all mass is there: at any commit whose code this is, for every list of numbers. -/
import Derived.Test.YtjilnmpajhifcaaGreatZzMasD
import Derived.Test.YtjilnmpajhifcaaGreatMassMadeN
import Derived.Test.YtjilnmpajhifcaaGreatMassRef
import Derived.Test.YtjilnmpajhifcaaGreatZzFixA
import Derived.Test.YtjilnmpajhifcaaGreatSortOpen
namespace Go.Proofs.YtjilnmpajhifcaaGreat
open Go.RowKit
theorem massMade_any (A : Option Addr) (n c : Nat) (l : List Nat) (hn : n ≤ maxLen) (w : World) (hl : Bs w A n l) :
    Calls Tryz.prog 4 #[.slice A n c] w fun e w' => e = .returned (.bool true) ∧ Below w.heap.size w w' := by
  by_cases h : (bods l 20).length = 0
  · exact massMade_none cen_prog cenn_prog key_prog cel_prog (num_any 0) (num_any 1) A n c l hn h w hl
  · exact massMade_some cen_prog key_prog cel_prog rcen_prog (num_any 0) A n c l hn h w hl
open Go.ChangeShapes Go.WideShapes Go.ChangeAt Go.RowKit Go.Joins
set_option maxRecDepth 100000 in
theorem massMade_lifted (os : Os) (started : os.Started) (H : Type) (enc : TypeId × Value → H) :
    ReturnsInHanded {} Tryz.checked os 4 .any (Rows.massMadeSpec.pre6 enc Tryz.prog Tryz.f4 Rows.massMadeRow.domain false) (Rows.massMadeSpec.post enc Tryz.prog Tryz.f4 false true false false) := by
  refine returnsInHanded_of_change (C := Tryz.checked) Tryz.own started (by kernel_rfl) Tryz.func4
    (ChangeSpec.witness6 (enc := enc) (C := Tryz.checked) false ⟨#[], #[.slice none 0 0], []⟩ 8 (by kernel_rfl) (by kernel_rfl) (by kernel_rfl) (by kernel_rfl)) ?_
  intro W base args ds gs before hval0 hW hcnd _
  have hval : ∀ (j : Nat) t v, Tryz.f4.params[j]? = some t → args[j]? = some v → Value.okWide Tryz.prog W .any base t v := hval0
  have hW' := hW
  obtain ⟨p, q, hA0, hV, rfl, hfz, hnd⟩ := hW
  have hA : DataW.TrodAll enc Tryz.prog W 0 (fun _ => true) true Tryz.f4.params.toList args.toList ds p := hA0
  have hlt := hA.lt
  rw [Tryz.params4] at hA hval
  obtain ⟨v0, d0, rfl, rfl, h0⟩ := trodAll_one hA
  obtain ⟨rfl, rfl⟩ := trodVars_none hV
  obtain ⟨A, n, c, l, rfl, k00, k01, k02⟩ := open_bytes (hval 0 49 v0 rfl rfl) h0
  clear hA0 hval0
  simp only [List.append_nil] at hW'
  refine (massMade_any A n c l k02 W k01).mono fun e W' ⟨he, hb⟩ => ?_
  subst he
  exact ⟨_, rfl, _, _, _, [], _, [], hW', trodAll_mk1 (shut_bool Tryz.underlying4 _), trodAll_mk1 (Below.trod slaidOut (by kernel_rfl) (of_decide_eq_true (by kernel_rfl)) h0 hb (fun x hx => hlt x (by simp [hx]))), rfl, hb.frame _, fun h => by cases h⟩
theorem massMade_holds : Rows.MassMadeSaid :=
  OpenClaim.holds_of_wide 4 Tryz.f4 rfl rfl rfl rfl rfl rfl rfl ⟨rfl, rfl, rfl, rfl, rfl⟩ rfl rfl rfl rfl rfl (by kernel_rfl) Tryz.func4 (by kernel_rfl)
    (of_decide_eq_true (by kernel_rfl)) (by unfold Func.isWrapper; first | (rw [if_pos (by decide +kernel)]; kernel_rfl) | (rw [if_neg (by decide +kernel)]; exact ⟨rfl, rfl⟩))
    (fun os started H enc _ => massMade_lifted os started H enc)
end Go.Proofs.YtjilnmpajhifcaaGreat
