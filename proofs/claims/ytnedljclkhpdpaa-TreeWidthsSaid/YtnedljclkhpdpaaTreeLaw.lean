/- What the laws of tree want beside their walks: what Build and Width tell, the law's own awake. -/
import Derived.Test.YtnedljclkhpdpaaTreeSame
import Derived.Test.YtnedljclkhpdpaaTreeWid
import Derived.Test.YtnedljclkhpdpaaSortLaw
namespace Go.Proofs.Ytnedljclkhpdpaa
open Go.RowKit
theorem own_cap {w : World} {base : Nat} {t : TypeId} {s n c : Nat} {A : Option Addr} {xs : List Value} (h : w.ownsRow base t s (.slice A n c) n xs) : n ≤ c := by
  rcases h.2 with ⟨h, rfl⟩ | ⟨g, cap, cur, e, _, _, hn, _⟩
  · exact Nat.zero_le _
  · injection e with _ _ e3; omega
/-- What the program's Build comes to. -/
def BldT : Prop := ∀ (A : Option Addr) (n c : Nat) (L : List (Nat × Int)), n ≤ 34359738368 → (A = none → n = 0 ∧ c = 0) → Ok64 L → n ≤ c → ∀ W : World, Ks W A n L → Calls Try.prog 12 #[.slice A n c] W (Bld W (bld n L))
/-- What the program's Width comes to. -/
def WidT : Prop := ∀ (z : Int) (W : World), Calls Try.prog 15 #[.int .i64 z] W fun e w' => e = .returned (wid z) ∧ Below W.heap.size W w'
theorem Bld.use {w w' : World} {T : List Nd} {e : Ending} (h : Bld w T e w') : ∃ A c, e = .returned (.slice A T.length c) ∧ S0 8 w' A T.length (T.map ndc) ∧ Below w.heap.size w w' := by
  obtain ⟨v', rfl, hown, hb⟩ := h
  obtain ⟨A, c, rfl, _, hS⟩ := S0.of_own (Ln.map ndc_len T) (by decide) hown
  exact ⟨A, c, rfl, hS, hb⟩
theorem eq_fx (a b : Int) (W : World) : (Go.binOp .eql 30 (.agg #[.int .i64 a, .int .u64 b]) (.agg #[.int .i64 a, .int .u64 b])).run Try.prog W = .ok (.bool true) W := by
  simp [go_sem]
theorem eq_k4 (a b c e : Int) (W : World) : (Go.binOp .eql 38 (.agg #[.int .i64 a, .int .i64 b, .int .i64 c, .int .i64 e]) (.agg #[.int .i64 a, .int .i64 b, .int .i64 c, .int .i64 e])).run Try.prog W = .ok (.bool true) W := by
  have h := eq4 9998 a b c e W
  simp only [Nat.reduceAdd] at h
  simp [go_sem, h]
theorem bld_len (n : Nat) (L : List (Nat × Int)) (hn : n ≤ 34359738368) : (bld n L).length ≤ 1133871366144 := by
  unfold bld
  by_cases h : n = 0 ∨ rs L = false
  · rw [if_pos h]; exact Nat.zero_le _
  · rw [if_neg h]
    have := gr_len 32 (keyAt L) 0 0 0 0 n (by omega)
    omega
set_option maxRecDepth 20000 in
set_option maxHeartbeats 8000000 in
theorem tawake_any (BL : BldT) (w : World) : Calls Try.prog 10 #[] w fun e w' => e = .returned (.bool true) ∧ Below w.heap.size w w' := by
  have HBL := Lib.hid BL
  clear BL
  go_enter Try.func10, Try.ntmps10
  go_wp2_with fail
  have kn := Kr.new w [((9 : Nat), (0 : Int))] (cs := #[.int .u64 9, .int .i64 0]) rfl
  refine (HBL.out _ 1 1 [(9, 0)] (by omega) (by simp) (by intro x hx; simp at hx; subst hx; decide) (Nat.le_refl _) _ kn.slice).mono ?_
  intro e w1 h1
  obtain ⟨A, c, rfl, hS, hb⟩ := h1.use
  have e1 : bld 1 [((9 : Nat), (0 : Int))] = [⟨0, 0, 0, 1, fun _ => -1⟩] := rfl
  rw [e1] at hS ⊢
  obtain ⟨G, o, x, rfl, zB, hx, c0, c1, c2, c3, c4, c5, c6, c7⟩ := nodes_at hS (j := 0) (by decide)
  obtain rfl : (⟨0, 0, 0, 1, fun _ => -1⟩ : Nd) = x := by simpa using hx
  have HB1 := Lib.hid (bl_trans (bl_al (Below.refl w.heap.size w) _) hb)
  simp only [Nat.zero_mul, Nat.add_zero] at c0 c1 c2 c3 c4 c5 c6 c7
  have q := eq_k4 (-1) (-1) (-1) (-1)
  have cv : Try.prog.cellsOf 38 = 4 := by kernel_rfl
  clear kn h1 hS hb hx HBL e1 c0 c1 c2
  rw [show ([(⟨0, 0, 0, 1, fun _ => -1⟩ : Nd)]).length = 1 from rfl]
  go_wp2_with fail
  go_returns
  exact ⟨rfl, bb⟩
end Go.Proofs.Ytnedljclkhpdpaa
