/- The awake of layer 9, from what Centre tells of one body. -/
import Derived.Test.YtjilnmpajhifcaaMassCel
namespace Go.Proofs.Ytjilnmpajhifcaa
open Go.RowKit
set_option maxRecDepth 20000 in
set_option maxHeartbeats 8000000 in
theorem mawake_core (k1 k0 j1 j0 : Int) (C1 : Ct 12 #[.int .i64 1] (.agg #[.int .i64 k1, .int .u64 k0])) (C3 : Ct 12 #[.int .i64 3] (.agg #[.int .i64 j1, .int .u64 j0]))
    (CN : Ct 11 #[.int .i64 0] (.int .i64 0))
    (CC : ∀ (W : World) (A : Option Addr), S0 20 W A 1 [[.int .i64 k1, .int .u64 k0, .int .i64 0, .int .u64 0, .int .i64 j1, .int .u64 j0, .int .i64 0, .int .u64 0, .int .i64 0, .int .u64 0, .int .i64 0, .int .u64 0, .int .i64 0, .int .u64 0, .int .i64 0, .int .u64 0, .int .i64 0, .int .u64 0, .int .i64 0, .int .i64 0]] → Calls Try.prog 7 #[.slice A 1 1] W fun e w' => e = .returned (.tuple #[.agg #[.int .i64 k1, .int .u64 k0], .agg #[.int .i64 j1, .int .u64 j0, .int .i64 0, .int .u64 0], .int .i64 0]) ∧ Below W.heap.size W w') (w : World) :
    Calls Try.prog 6 #[] w fun e w' => e = .returned (.bool true) ∧ Below w.heap.size w w' := by
  have K1 := Lib.hid C1; have K3 := Lib.hid C3; have KN := Lib.hid CN; have KC := Lib.hid CC
  clear C1 C3 CN CC
  go_enter Try.func6, Try.ntmps6
  go_wp2_with fail
  refine (K1.out _).mono ?_
  rintro e w1 ⟨rfl, hb1⟩
  have B1 : Hid (Below w.heap.size w w1) := hb1
  clear hb1
  go_wp2_with fail
  refine (K3.out _).mono ?_
  rintro e w2 ⟨rfl, hb2⟩
  have B2 : Hid (Below w.heap.size w w2) := bl_trans B1.out hb2
  clear hb2 B1
  go_wp2_with fail
  refine (KC.out _ _ ?_).mono ?_
  · exact (R0.new (s := 20) w2 32 (C := [[.int .i64 k1, .int .u64 k0, .int .i64 0, .int .u64 0, .int .i64 j1, .int .u64 j0, .int .i64 0, .int .u64 0, .int .i64 0, .int .u64 0, .int .i64 0, .int .u64 0, .int .i64 0, .int .u64 0, .int .i64 0, .int .u64 0, .int .i64 0, .int .u64 0, .int .i64 0, .int .i64 0]]) (by intro c hc; simp at hc; subst hc; rfl) rfl).slice
  rintro e w3 ⟨rfl, hb3⟩
  have B3 : Hid (Below w.heap.size w w3) := bl_trans (bl_al B2.out _) hb3
  clear hb3 B2
  go_upto_region 2 with fail
  obtain ⟨wx, ewx⟩ : ∃ x, x = (w3.alloc (.cells #[.int .i64 k1, .int .u64 k0] 28)).alloc (.cells #[.int .i64 j1, .int .u64 j0, .int .i64 0, .int .u64 0] 30) := ⟨_, rfl⟩
  have x1 : Bx 28 wx w3.heap.size [.int .i64 k1, .int .u64 k0] := by rw [ewx]; exact (Bx.new _ _ _).alloc _
  have x2 : Bx 30 wx (w3.heap.size + 1) [.int .i64 j1, .int .u64 j0, .int .i64 0, .int .u64 0] := by
    rw [ewx]
    have := Bx.new (w3.alloc (.cells #[.int .i64 k1, .int .u64 k0] 28)) 30 #[.int .i64 j1, .int .u64 j0, .int .i64 0, .int .u64 0]
    simpa using this
  have BX : Hid (Below w.heap.size w wx) := by show Below _ _ _; rw [ewx]; exact bl_al (bl_al B3.out _) _
  have f0 := stays (x1.cell (j := 0) rfl) x1.lt; have f1 := stays (x1.cell (j := 1) rfl) x1.lt
  have g0 := stays (x2.cell (j := 0) rfl) x2.lt; have g1 := stays (x2.cell (j := 1) rfl) x2.lt; have g2 := stays (x2.cell (j := 2) rfl) x2.lt; have g3 := stays (x2.cell (j := 3) rfl) x2.lt
  rw [← ewx]
  clear ewx x1 x2 B3
  go_region_held3 (fun w' => Below wx.heap.size wx w') (exact bs) (first
    | (go_at_call 11; (with_reducible refine (KN.out _).mono ?_); rintro e w4 ⟨rfl, hb4⟩)
    | (go_at_call 12; (with_reducible refine (K1.out _).mono ?_); rintro e w5 ⟨rfl, hb5⟩)
    | (go_at_call 12; (with_reducible refine (K3.out _).mono ?_); rintro e w6 ⟨rfl, hb6⟩))
  rename_i hHeld
  have BZ := Lib.hid (bl_trans BX.out hHeld)
  clear hHeld
  go_wp2_with fail
  go_returns
  exact ⟨rfl, BZ.out⟩
end Go.Proofs.Ytjilnmpajhifcaa
