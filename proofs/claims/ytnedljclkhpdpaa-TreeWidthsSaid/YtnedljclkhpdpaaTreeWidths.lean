/- Each level is half as wide as the one ahead; the last one is one wide: at any commit whose code this is, for every number. -/
import Derived.Test.YtnedljclkhpdpaaTreeProg
import Derived.Test.YtnedljclkhpdpaaTreeAdd
import Derived.Test.YtnedljclkhpdpaaTreeWidthsC
import Derived.Test.YtnedljclkhpdpaaSortOpen
namespace Go.Proofs.Ytnedljclkhpdpaa
open Go.RowKit
theorem u8_wf {n : Int} (h : (Lit.int .u8 n).wf = true) : 0 ≤ n ∧ n < 256 := by
  simp [Lit.wf, IntKind.min, IntKind.max, IntKind.signed, IntKind.bits] at h
  exact ⟨by omega, by omega⟩
theorem treeWidths_any (n : Int) (hn : 0 ≤ n ∧ n < 256) (w : World) :
    Calls Try.prog 7 #[.int .u8 n] w fun e w' => e = .returned (.bool true) ∧ Below w.heap.size w w' := by
  obtain ⟨n, rfl⟩ := Int.eq_ofNat_of_zero_le hn.1
  have hk : n % 32 < 32 := Nat.mod_lt _ (by decide)
  have hp : 2 ^ (32 - n % 32) = 2 * 2 ^ (31 - n % 32) := by
    rw [show 32 - n % 32 = (31 - n % 32) + 1 by omega, Nat.pow_succ]; omega
  have hx : 2 ^ (31 - n % 32) ≤ 2147483648 := by
    have := Nat.pow_le_pow_right (n := 2) (by decide) (show 31 - n % 32 ≤ 31 by omega); simpa using this
  refine treeWidths_core bld_prog wid_prog n (n % 32) (2 ^ (31 - n % 32)) (by omega) rfl ?_ ?_ (add_prog _ hx) w
  · rw [wid_at (by omega), hp]
  · have e := wid_at (k := n % 32 + 1) (by omega)
    rw [show 32 - (n % 32 + 1) = 31 - n % 32 by omega] at e
    rw [← e]; congr 1
open Go.ChangeShapes Go.WideShapes Go.ChangeAt Go.RowKit Go.Joins
set_option maxRecDepth 100000 in
theorem treeWidths_lifted (os : Os) (started : os.Started) (H : Type) (enc : TypeId × Value → H) :
    ReturnsInHanded {} Try.checked os 7 .any (Rows.treeWidthsSpec.pre6 enc Try.prog Try.f7 Rows.treeWidthsRow.domain false) (Rows.treeWidthsSpec.post enc Try.prog Try.f7 false true false false) := by
  refine returnsInHanded_of_change (C := Try.checked) Try.own started (by kernel_rfl) Try.func7
    (ChangeSpec.witness6 (enc := enc) (C := Try.checked) false ⟨#[], #[.int .u8 0], []⟩ 8 (by kernel_rfl) (by kernel_rfl) (by kernel_rfl) (by kernel_rfl)) ?_
  intro W base args ds gs before hval0 hW hcnd _
  have hval : ∀ (j : Nat) t v, Try.f7.params[j]? = some t → args[j]? = some v → Value.okWide Try.prog W .any base t v := hval0
  have hW' := hW
  obtain ⟨p, q, hA0, hV, rfl, hfz, hnd⟩ := hW
  have hA : DataW.TrodAll enc Try.prog W 0 (fun _ => true) true Try.f7.params.toList args.toList ds p := hA0
  have hlt := hA.lt
  rw [Try.params7] at hA hval
  obtain ⟨v0, d0, rfl, rfl, h0⟩ := trodAll_one hA
  obtain ⟨rfl, rfl⟩ := trodVars_none hV
  obtain ⟨n, rfl, rfl, rfl, k00⟩ := open_int Try.underlying5 (hval 0 5 v0 rfl rfl) h0
  clear hA0 hval0
  simp only [List.append_nil] at hW'
  refine (treeWidths_any n (u8_wf k00) W).mono fun e W' ⟨he, hb⟩ => ?_
  subst he
  exact ⟨_, rfl, _, _, _, [], _, [], hW', trodAll_mk1 (shut_bool Try.underlying4 _), trodAll_mk1 (shut_int Try.underlying5 k00), rfl, hb.frame _, fun h => by cases h⟩
theorem treeWidths_holds : Rows.TreeWidthsSaid :=
  OpenClaim.holds_of_wide 7 Try.f7 rfl rfl rfl rfl rfl rfl rfl ⟨rfl, rfl, rfl, rfl, rfl⟩ rfl rfl rfl rfl rfl (by kernel_rfl) Try.func7 (by kernel_rfl)
    (of_decide_eq_true (by kernel_rfl)) (by unfold Func.isWrapper; first | (rw [if_pos (by decide +kernel)]; kernel_rfl) | (rw [if_neg (by decide +kernel)]; exact ⟨rfl, rfl⟩))
    (fun os started H enc _ => treeWidths_lifted os started H enc)
end Go.Proofs.Ytnedljclkhpdpaa
