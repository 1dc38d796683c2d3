/- MassNear, of no body; the document's Sub and Cmp, where the answers may be. -/
import Derived.Test.YtjilnmpajhifcaaMassNearC
import Derived.Test.YtjilnmpajhifcaaMassRef
namespace Go.Proofs.Ytjilnmpajhifcaa
open Go.RowKit
theorem rsub_prog : RSubT := fun x y hx hy h W => by
  have k := rsub_any x y hx hy W
  rw [ov_in h, oe_in h] at k; exact k
theorem rcmp_prog : RCmpT := fun x y W => rfcmp_any x y W
set_option maxRecDepth 20000 in
set_option maxHeartbeats 8000000 in
theorem massNear_none (C : CenT) (N0 : Ct 11 #[.int .i64 0] (.int .i64 0)) (A : Option Addr) (n c : Nat) (l : List Nat) (hn : n ≤ maxLen) (h4 : (bods l 12).length = 0) (w : World) (hl : Bs w A n l) :
    Calls Try.prog 3 #[.slice A n c] w fun e w' => e = .returned (.bool true) ∧ Below w.heap.size w w' := by
  have KW := Lib.hid (mawake_any C N0)
  have KB := Lib.hid (bodies_any A n c 12 l hn (by decide) w hl)
  rw [List.length_eq_zero_iff.1 h4] at KB
  clear C N0 hn hl h4
  go_enter Try.func3, Try.ntmps3
  go_wp2_with fail
  refine KB.out.mono ?_
  rintro e w1 ⟨⟨v1, rfl, hown⟩, hb1⟩
  obtain ⟨A1, c1, rfl, hA1, hS1⟩ := S0.of_own (C := []) (Ln.nil 20) (by decide) hown
  have B1 : Hid (Below w.heap.size w w1) := hb1
  have n0 : (([] : List Bod).length : Int) = 0 := rfl
  clear hown hS1 hA1 hb1 KB
  go_wp2_with fail
  refine (KW.out _).mono ?_
  rintro e w2 ⟨rfl, hb2⟩
  have B2 := Lib.hid (bl_trans B1.out hb2)
  clear hb2
  go_wp2_with fail
  go_returns
  exact ⟨rfl, B2.out⟩
end Go.Proofs.Ytjilnmpajhifcaa
