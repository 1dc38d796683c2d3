/- What is sorted of two lists together is what is sorted of the one sorted behind the other: at any commit whose code this is, for every two lists of numbers and every number. -/
import Derived.Test.YtdaajhfippnciaaSortBy
import Derived.Test.YtdaajhfippnciaaSortJoinsC
import Derived.Test.YtdaajhfippnciaaSortOpen
namespace Go.Proofs.Ytdaajhfippnciaa
open Go.RowKit
theorem sortJoins_any (A : Option Addr) (n c : Nat) (l : List Nat) (hn : n ≤ maxLen) (B : Option Addr) (n' c' : Nat) (l' : List Nat) (hn' : n' ≤ maxLen) (H : Int) (hH : Wd H) (w : World) (hl : Bs w A n l) (hl' : Bs w B n' l') :
    Calls Try.prog 5 #[.slice A n c, .slice B n' c', .int .u64 H] w fun e w' => e = .returned (.bool true) ∧ Below w.heap.size w w' := by
  obtain ⟨h0, h1⟩ := hH
  obtain ⟨h, rfl⟩ := Int.eq_ofNat_of_zero_le h0
  exact sortJoins_walk by_prog ris_prog A n c l hn B n' c' l' hn' h (by omega) w hl hl'
open Go.ChangeShapes Go.WideShapes Go.ChangeAt Go.RowKit Go.Joins
set_option maxRecDepth 100000 in
theorem sortJoins_lifted (os : Os) (started : os.Started) (H : Type) (enc : TypeId × Value → H) :
    ReturnsInHanded {} Try.checked os 5 .any (Rows.sortJoinsSpec.pre6 enc Try.prog Try.f5 Rows.sortJoinsRow.domain false) (Rows.sortJoinsSpec.post enc Try.prog Try.f5 false true false false) := by
  refine returnsInHanded_of_change (C := Try.checked) Try.own started (by kernel_rfl) Try.func5
    (ChangeSpec.witness6 (enc := enc) (C := Try.checked) false ⟨#[], #[.slice none 0 0, .slice none 0 0, .int .u64 0], []⟩ 8 (by kernel_rfl) (by kernel_rfl) (by kernel_rfl) (by kernel_rfl)) ?_
  intro W base args ds gs before hval0 hW hcnd _
  have hval : ∀ (j : Nat) t v, Try.f5.params[j]? = some t → args[j]? = some v → Value.okWide Try.prog W .any base t v := hval0
  have hW' := hW
  obtain ⟨p, q, hA0, hV, rfl, hfz, hnd⟩ := hW
  have hA : DataW.TrodAll enc Try.prog W 0 (fun _ => true) true Try.f5.params.toList args.toList ds p := hA0
  have hlt := hA.lt
  rw [Try.params5] at hA hval
  obtain ⟨v0, v1, v2, d0, d1, d2, p0, p1, p2, rfl, rfl, rfl, h0, h1, h2⟩ := trodAll_three hA
  obtain ⟨rfl, rfl⟩ := trodVars_none hV
  obtain ⟨A, n, c, l, rfl, k00, k01, k02⟩ := open_bytes (hval 0 27 v0 rfl rfl) h0
  obtain ⟨B, n', c', l', rfl, k10, k11, k12⟩ := open_bytes (hval 1 27 v1 rfl rfl) h1
  obtain ⟨H, rfl, rfl, rfl, k20⟩ := open_int Try.underlying30 (hval 2 30 v2 rfl rfl) h2
  clear hA0 hval0
  simp only [List.append_nil] at hW'
  refine (sortJoins_any A n c l k02 B n' c' l' k12 H (wd_of_wf k20) W k01 k11).mono fun e W' ⟨he, hb⟩ => ?_
  subst he
  exact ⟨_, rfl, _, _, _, [], _, [], hW', trodAll_mk1 (shut_bool Try.underlying4 _), trodAll_mk3 (Below.trod slaidOut (by kernel_rfl) (of_decide_eq_true (by kernel_rfl)) h0 hb (fun x hx => hlt x (by simp [hx]))) (Below.trod slaidOut (by kernel_rfl) (of_decide_eq_true (by kernel_rfl)) h1 hb (fun x hx => hlt x (by simp [hx]))) (shut_int Try.underlying30 k20), rfl, hb.frame _, fun h => by cases h⟩
theorem sortJoins_holds : Rows.SortJoinsSaid :=
  OpenClaim.holds_of_wide 5 Try.f5 rfl rfl rfl rfl rfl rfl rfl ⟨rfl, rfl, rfl, rfl, rfl⟩ rfl rfl rfl rfl rfl (by kernel_rfl) Try.func5 (by kernel_rfl)
    (of_decide_eq_true (by kernel_rfl)) (by unfold Func.isWrapper; first | (rw [if_pos (by decide +kernel)]; kernel_rfl) | (rw [if_neg (by decide +kernel)]; exact ⟨rfl, rfl⟩))
    (fun os started H enc _ => sortJoins_lifted os started H enc)
end Go.Proofs.Ytdaajhfippnciaa
