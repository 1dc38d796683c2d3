/- TreeWidths, from what Build and Width tell. -/
import Derived.Test.YtnedljclkhpdpaaTreeLaw
namespace Go.Proofs.Ytnedljclkhpdpaa
open Go.RowKit
theorem wid_at {k : Nat} (h : k ≤ 32) : wid (k : Int) = .agg #[.int .i64 ((2 ^ (32 - k) : Nat) : Int), .int .u64 0] := by
  have e : wlev (k : Int) = k := by
    unfold wlev
    rw [if_neg (by omega), if_neg (by omega)]; omega
  unfold wid; rw [e]
set_option maxRecDepth 20000 in
set_option maxHeartbeats 8000000 in
theorem treeWidths_core (BL : BldT) (WI : WidT) (n k X : Nat) (hn : n < 256) (hk : k = n % 32) (W1 : wid (k : Int) = .agg #[.int .i64 ((2 * X : Nat) : Int), .int .u64 0]) (W2 : wid ((k : Int) + 1) = .agg #[.int .i64 (X : Int), .int .u64 0])
    (RA : ∀ W, Calls Try.prog 18 #[.agg #[.int .i64 (X : Int), .int .u64 0], .agg #[.int .i64 (X : Int), .int .u64 0]] W fun e w' => e = .returned (.agg #[.int .i64 ((2 * X : Nat) : Int), .int .u64 0, .int .i64 0]) ∧ Below W.heap.size W w') (w : World) :
    Calls Try.prog 7 #[.int .u8 (n : Int)] w fun e w' => e = .returned (.bool true) ∧ Below w.heap.size w w' := by
  have K2 := Lib.hid WI; have K3 := Lib.hid (tawake_any BL); have K4 := Lib.hid RA
  have hk9 : k < 32 := by omega
  have e1 : (n : Int).tmod 32 = (k : Int) := by rw [Int.tmod_eq_emod_of_nonneg (by omega)]; omega
  have e2 : (n : Int) % 32 = (k : Int) := by omega
  have e3 : IntKind.i64.wrap (n : Int) = (n : Int) := IntWalk.i64_in _ (by omega)
  have e4 : IntKind.i64.wrap ((k : Int) + 1) = (k : Int) + 1 := IntWalk.i64_in _ (by omega)
  have q1 := eq_fx ((2 * X : Nat) : Int) 0; have q2 := eq_fx 1 0; have q3 := eq_fx 4294967296 0
  have cv : Try.prog.cellsOf 30 = 2 := by kernel_rfl
  have HW1 := Lib.hid W1; have HW2 := Lib.hid W2
  clear BL WI RA hn hk hk9 W1 W2
  generalize ((2 * X : Nat) : Int) = Y at *
  go_enter Try.func7, Try.ntmps7
  go_wp2_with fail
  refine (K2.out _ _).mono ?_
  rintro e w1 ⟨rfl, b1⟩
  rw [HW1.out]
  have HB1 := Lib.hid b1
  clear b1
  go_wp2_with fail
  refine (K2.out _ _).mono ?_
  rintro e w2 ⟨rfl, b2⟩
  rw [HW2.out]
  have HB2 := Lib.hid (bl_trans HB1.out b2)
  clear b2 HB1
  go_wp2_with fail
  refine (K4.out _).mono ?_
  rintro e w3 ⟨rfl, b3⟩
  have zl : w2.heap.size < w3.heap.size := by have := b3.size; simp at this; omega
  have z0 : w3.cell? ⟨w2.heap.size, 0, none⟩ = some (.int .i64 Y) := by
    rw [b3.cell (p := ⟨w2.heap.size, 0, none⟩) (by simp; omega), World.cell?_alloc_lt _ _ _ (by simp)]
    exact cell_of_row _ _ 0 _ _ (0, 0) (heap_alloc_new _ _)
  have z1 : w3.cell? ⟨w2.heap.size, 1, none⟩ = some (.int .u64 0) := by
    rw [b3.cell (p := ⟨w2.heap.size, 1, none⟩) (by simp; omega), World.cell?_alloc_lt _ _ _ (by simp)]
    exact cell_of_row _ _ 1 _ _ (0, 0) (heap_alloc_new _ _)
  have HB3 := Lib.hid (bl_trans (bl_al (bl_al HB2.out _) _) b3)
  clear b3 HB2
  generalize w2.heap.size = p at *
  go_wp2_with fail
  refine (K2.out (32) _).mono ?_
  rintro e w4 ⟨rfl, b4⟩
  rw [show wid (32) = .agg #[.int .i64 1, .int .u64 0] from rfl]
  have HB4 := Lib.hid (bl_trans (bl_al HB3.out _) b4)
  clear b4 HB3
  go_wp2_with fail
  refine (rint_hi 1 (by omega) _).mono ?_
  rintro e w5 ⟨rfl, b5⟩
  have HB5 := Lib.hid (bl_trans HB4.out b5)
  clear b5 HB4
  go_wp2_with fail
  refine (K2.out (-5) _).mono ?_
  rintro e w6 ⟨rfl, b6⟩
  rw [show wid (-5) = .agg #[.int .i64 4294967296, .int .u64 0] from rfl]
  have HB6 := Lib.hid (bl_trans HB5.out b6)
  clear b6 HB5
  go_wp2_with fail
  refine (K2.out (0) _).mono ?_
  rintro e w7 ⟨rfl, b7⟩
  rw [show wid (0) = .agg #[.int .i64 4294967296, .int .u64 0] from rfl]
  have HB7 := Lib.hid (bl_trans HB6.out b7)
  clear b7 HB6
  go_wp2_with fail
  refine (K2.out (90) _).mono ?_
  rintro e w8 ⟨rfl, b8⟩
  rw [show wid (90) = .agg #[.int .i64 1, .int .u64 0] from rfl]
  have HB8 := Lib.hid (bl_trans HB7.out b8)
  clear b8 HB7
  go_wp2_with fail
  refine (rint_hi 1 (by omega) _).mono ?_
  rintro e w9 ⟨rfl, b9⟩
  have HB9 := Lib.hid (bl_trans HB8.out b9)
  clear b9 HB8
  go_wp2_with fail
  refine (K3.out _).mono ?_
  rintro e w10 ⟨rfl, b10⟩
  have HB10 := Lib.hid (bl_trans HB9.out b10)
  clear b10 HB9
  go_wp2_with fail
  go_returns
  exact ⟨rfl, HB10.out⟩
end Go.Proofs.Ytnedljclkhpdpaa
