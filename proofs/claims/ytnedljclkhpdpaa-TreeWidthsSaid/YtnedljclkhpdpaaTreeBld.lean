/- The document's Build. -/
import Derived.Test.YtnedljclkhpdpaaTreeDoc
import Derived.Test.YtnedljclkhpdpaaSortDoc1
namespace Go.Proofs.Ytnedljclkhpdpaa
open Go.RowKit
/-- The tree of bodies. -/
def bld (n : Nat) (L : List (Nat × Int)) : List Nd := if n = 0 ∨ rs L = false then [] else gr 32 (keyAt L) 0 0 0 0 n
/-- A fresh row of nodes. -/
def Bld (w : World) (T : List Nd) (e : Ending) (w' : World) : Prop :=
  ∃ v', e = .returned v' ∧ w'.ownsRow w.heap.size 40 8 v' T.length (T.map ndc).flatten ∧ Below w.heap.size w w'
theorem Bld.nil (w w' : World) (h : Below w.heap.size w w') : Bld w [] (.returned (.slice none 0 0)) w' :=
  ⟨_, rfl, ⟨by simp, Or.inl ⟨rfl, rfl⟩⟩, h⟩
theorem Bld.of {w w1 w' : World} {T : List Nd} {e : Ending} (hb : Below w.heap.size w w1) (h : Grown w.heap.size w1 none 0 [] T e w') : Bld w T e w' := by
  obtain ⟨v', rfl, hown, hg, _⟩ := h
  refine ⟨v', rfl, ?_, hb.grown hg hb.size (fun q hq => by cases hq)⟩
  simpa using hown
set_option maxRecDepth 20000 in
set_option maxHeartbeats 8000000 in
theorem rbuild_any (A : Option Addr) (n c : Nat) (L : List (Nat × Int)) (w : World) (hL : Ks w A n L) (ho : ∀ x ∈ L, x.1 < 18446744073709551616) (hn : n ≤ 34359738368) :
    Calls Try.prog 13 #[.slice A n c] w (Bld w (bld n L)) := by
  have HL := Lib.hid hL; have HO := Lib.hid ho
  clear hL ho
  by_cases h0 : n = 0
  · subst h0
    have hb : Hid (bld 0 L = []) := rfl
    go_enter Try.func13, Try.ntmps13
    go_wp2_with fail
    go_returns
    rw [hb.out]
    exact Bld.nil _ _ (Below.refl _ _)
  · have n0 : ((n : Int) == 0) = false := by rw [beq_eq_false_iff_ne]; omega
    have n1 : (n == 0) = false := by rw [beq_eq_false_iff_ne]; omega
    have n2 : ¬ (n : Int) = 0 := by omega
    have KR := rrising_any A n c L (by omega) w HL.out
    have KG : ∀ w1, Below w.heap.size w w1 → Calls Try.prog 23 #[.slice none 0 0, .slice A n c, .agg #[.int .i64 0, .int .u64 0, .int .i64 0, .int .i64 (n : Int), .int .i64 0, .int .i64 0, .int .i64 0, .int .i64 0]] w1 (Grown w.heap.size w1 none 0 [] (gr 32 (keyAt L) 0 0 0 0 n)) := fun w1 hb =>
      rgrow_any 32 0 rfl w A n c L HL.out HO.out (by omega) 0 0 n (by omega) (by omega) (by decide) 0 [] rfl (by omega) (.slice none 0 0) w1 hb ⟨by simp, Or.inl ⟨rfl, rfl⟩⟩
    clear hn
    by_cases hr : rs L = false
    · have HB : Hid (bld n L = []) := by show bld n L = _; unfold bld; rw [if_pos (Or.inr hr)]
      rw [hr] at KR
      go_enter Try.func13, Try.ntmps13
      go_wp2_with (first
        | (go_at_call 22; (with_reducible refine KR.mono ?_); rintro e w9 ⟨rfl, hb9⟩)
        | fail)
      rw [HB.out]
      refine bodyPost_ret (by simp [results, Try.results13, go_sem]; try rfl) rfl ?_
      exact Bld.nil _ _ hb9
    · have HB : Hid (bld n L = gr 32 (keyAt L) 0 0 0 0 n) := by show bld n L = _; unfold bld; rw [if_neg (by simp [h0, hr])]
      rw [show rs L = true by simpa using hr] at KR
      have KG := Lib.hid KG
      go_enter Try.func13, Try.ntmps13
      go_wp2_with (first
        | (go_at_call 22; (with_reducible refine KR.mono ?_); rintro e w9 ⟨rfl, hb9⟩)
        | (go_at_call 23; (with_reducible refine (KG.out _ hb9).mono ?_); intro e w8 hgr; have hb8 := Bld.of hb9 hgr; obtain ⟨v8, rfl, _⟩ := hgr)
        | fail)
      rw [HB.out]
      first
        | (go_returns; exact hb8)
        | (refine bodyPost_ret (by simp [results, Try.results13, go_sem]; try rfl) rfl ?_; exact hb8)
end Go.Proofs.Ytnedljclkhpdpaa
