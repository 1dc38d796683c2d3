/- Each body is of one leaf; a node's bodies are its kids', in order; a leaf has few, or is at the last level: at any commit whose code this is, for every list of numbers and every word. -/
import Derived.Test.YtnedljclkhpdpaaTreeProg
import Derived.Test.YtnedljclkhpdpaaTreeLeavesC
import Derived.Test.YtnedljclkhpdpaaSortOpen
namespace Go.Proofs.Ytnedljclkhpdpaa
open Go.RowKit
theorem treeLeaves_any (A : Option Addr) (n c : Nat) (l : List Nat) (hn : n ≤ maxLen) (H : Int) (hH : Wd H) (w : World) (hl : Bs w A n l) :
    Calls Try.prog 5 #[.slice A n c, .int .u64 H] w fun e w' => e = .returned (.bool true) ∧ Below w.heap.size w w' := by
  obtain ⟨h0, h1⟩ := hH
  obtain ⟨h, rfl⟩ := Int.eq_ofNat_of_zero_le h0
  exact treeLeaves_walk bld_prog A n c l hn h (by omega) w hl
open Go.ChangeShapes Go.WideShapes Go.ChangeAt Go.RowKit Go.Joins
set_option maxRecDepth 100000 in
theorem treeLeaves_lifted (os : Os) (started : os.Started) (H : Type) (enc : TypeId × Value → H) :
    ReturnsInHanded {} Try.checked os 5 .any (Rows.treeLeavesSpec.pre6 enc Try.prog Try.f5 Rows.treeLeavesRow.domain false) (Rows.treeLeavesSpec.post enc Try.prog Try.f5 false true false false) := by
  refine returnsInHanded_of_change (C := Try.checked) Try.own started (by kernel_rfl) Try.func5
    (ChangeSpec.witness6 (enc := enc) (C := Try.checked) false ⟨#[], #[.slice none 0 0, .int .u64 0], []⟩ 8 (by kernel_rfl) (by kernel_rfl) (by kernel_rfl) (by kernel_rfl)) ?_
  intro W base args ds gs before hval0 hW hcnd _
  have hval : ∀ (j : Nat) t v, Try.f5.params[j]? = some t → args[j]? = some v → Value.okWide Try.prog W .any base t v := hval0
  have hW' := hW
  obtain ⟨p, q, hA0, hV, rfl, hfz, hnd⟩ := hW
  have hA : DataW.TrodAll enc Try.prog W 0 (fun _ => true) true Try.f5.params.toList args.toList ds p := hA0
  have hlt := hA.lt
  rw [Try.params5] at hA hval
  obtain ⟨v0, v1, d0, d1, p0, p1, rfl, rfl, rfl, h0, h1⟩ := trodAll_two hA
  obtain ⟨rfl, rfl⟩ := trodVars_none hV
  obtain ⟨A, n, c, l, rfl, k00, k01, k02⟩ := open_bytes (hval 0 33 v0 rfl rfl) h0
  obtain ⟨H, rfl, rfl, rfl, k10⟩ := open_int Try.underlying28 (hval 1 28 v1 rfl rfl) h1
  clear hA0 hval0
  simp only [List.append_nil] at hW'
  refine (treeLeaves_any A n c l k02 H (wd_of_wf k10) W k01).mono fun e W' ⟨he, hb⟩ => ?_
  subst he
  exact ⟨_, rfl, _, _, _, [], _, [], hW', trodAll_mk1 (shut_bool Try.underlying4 _), trodAll_mk2 (Below.trod slaidOut (by kernel_rfl) (of_decide_eq_true (by kernel_rfl)) h0 hb (fun x hx => hlt x (by simp [hx]))) (shut_int Try.underlying28 k10), rfl, hb.frame _, fun h => by cases h⟩
theorem treeLeaves_holds : Rows.TreeLeavesSaid :=
  OpenClaim.holds_of_wide 5 Try.f5 rfl rfl rfl rfl rfl rfl rfl ⟨rfl, rfl, rfl, rfl, rfl⟩ rfl rfl rfl rfl rfl (by kernel_rfl) Try.func5 (by kernel_rfl)
    (of_decide_eq_true (by kernel_rfl)) (by unfold Func.isWrapper; first | (rw [if_pos (by decide +kernel)]; kernel_rfl) | (rw [if_neg (by decide +kernel)]; exact ⟨rfl, rfl⟩))
    (fun os started H enc _ => treeLeaves_lifted os started H enc)
end Go.Proofs.Ytnedljclkhpdpaa
