/- What is beyond the cells is in the last one on its side: at any commit whose code this is, for every way. -/
import Derived.Test.YtgiiddioinhfiaaZzMortA
import Derived.Test.YtgiiddioinhfiaaZzFixA
import Derived.Test.YtgiiddioinhfiaaZzVecA
namespace Go.Proofs.Ytgiiddioinhfiaa
open Go.RowKit
set_option maxRecDepth 20000 in
set_option maxHeartbeats 60000000 in
theorem mortonEdges_out (vxh vxl vyh vyl : Int)  (w : World)
    (C1 : Ct 10 #[.agg #[.int .i64 vxh, .int .u64 vxl, .int .i64 vyh, .int .u64 vyl]] (.bool false))
    (C2 : Ct 11 #[] (.bool true)) :
    Calls Try.prog 6 #[.agg #[.int .i64 vxh, .int .u64 vxl, .int .i64 vyh, .int .u64 vyl]] w fun e w' => e = .returned (.bool true) ∧ Below w.heap.size w w' := by
  have K1 := Lib.hid C1; have K2 := Lib.hid C2
  clear C1 C2
  go_enter Try.func6, Try.ntmps6
  go_wp2_with fail
  (with_reducible refine cm (K1.out _) fun w1 hclw1 hfrw1 hb => ?_); obtain ⟨zw1_v, yw1_v, yyw1_v⟩ := sz3 (B := w.heap.size) hb; have sxw1_0 := sz1 (b := w.heap.size + 1) hb; have HBw1 := hbw (a := w) hb; clear hb
  go_wp2_with fail
  (with_reducible refine cm (K2.out _) fun w2 hclw2 hfrw2 hb => ?_); obtain ⟨zw2_v, yw2_v, yyw2_v⟩ := sz3 (B := w.heap.size) hb; have sxw2_0 := sz1 (b := w1.heap.size) hb; have HBw2 := hbw (a := w) hb; clear hb
  go_wp2_with fail
  go_returns
  exact ⟨rfl, bb⟩
set_option maxRecDepth 20000 in
set_option maxHeartbeats 60000000 in
theorem mortonEdges_00 (vxh vxl vyh vyl  : Int)  (c0 : vxh < -2147483648) (c1 : vyh < -2147483648) (w : World)
    (C1 : Ct 10 #[.agg #[.int .i64 vxh, .int .u64 vxl, .int .i64 vyh, .int .u64 vyl]] (.bool true))
    (C2 : Ct 12 #[.agg #[.int .i64 vxh, .int .u64 vxl, .int .i64 vyh, .int .u64 vyl]] (.tuple #[.int .u32 0, .int .u32 0]))
    (C3 : Ct 11 #[] (.bool true)) :
    Calls Try.prog 6 #[.agg #[.int .i64 vxh, .int .u64 vxl, .int .i64 vyh, .int .u64 vyl]] w fun e w' => e = .returned (.bool true) ∧ Below w.heap.size w w' := by
  have K1 := Lib.hid C1; have K2 := Lib.hid C2; have K3 := Lib.hid C3
  clear C1 C2 C3
  have n0 : ¬ (-2147483648 ≤ vxh) := by omega
  have m0 : vxh < 2147483648 := by omega
  have n1 : ¬ (-2147483648 ≤ vyh) := by omega
  have m1 : vyh < 2147483648 := by omega
  go_enter Try.func6, Try.ntmps6
  go_wp2_with fail
  (with_reducible refine cm (K1.out _) fun w1 hclw1 hfrw1 hb => ?_); obtain ⟨zw1_v, yw1_v, yyw1_v⟩ := sz3 (B := w.heap.size) hb; have sxw1_0 := sz1 (b := w.heap.size + 1) hb; have HBw1 := hbw (a := w) hb; clear hb
  go_wp2_with fail
  (with_reducible refine cm (K2.out _) fun w2 hclw2 hfrw2 hb => ?_); obtain ⟨zw2_v, yw2_v, yyw2_v⟩ := sz3 (B := w.heap.size) hb; have sxw2_0 := sz1 (b := w1.heap.size) hb; have HBw2 := hbw (a := w) hb; clear hb
  go_wp2_with fail
  (with_reducible refine cm (K3.out _) fun w3 hclw3 hfrw3 hb => ?_); obtain ⟨zw3_v, yw3_v, yyw3_v⟩ := sz3 (B := w.heap.size) hb; have sxw3_0 := sz1 (b := w2.heap.size) hb; have HBw3 := hbw (a := w) hb; clear hb
  go_wp2_with fail
  go_returns
  exact ⟨rfl, bb⟩
set_option maxRecDepth 20000 in
set_option maxHeartbeats 60000000 in
theorem mortonEdges_01 (vxh vxl vyh vyl  : Int)  (c0 : vxh < -2147483648) (c1 : 2147483648 ≤ vyh) (w : World)
    (C1 : Ct 10 #[.agg #[.int .i64 vxh, .int .u64 vxl, .int .i64 vyh, .int .u64 vyl]] (.bool true))
    (C2 : Ct 12 #[.agg #[.int .i64 vxh, .int .u64 vxl, .int .i64 vyh, .int .u64 vyl]] (.tuple #[.int .u32 0, .int .u32 4294967295]))
    (C3 : Ct 11 #[] (.bool true)) :
    Calls Try.prog 6 #[.agg #[.int .i64 vxh, .int .u64 vxl, .int .i64 vyh, .int .u64 vyl]] w fun e w' => e = .returned (.bool true) ∧ Below w.heap.size w w' := by
  have K1 := Lib.hid C1; have K2 := Lib.hid C2; have K3 := Lib.hid C3
  clear C1 C2 C3
  have n0 : ¬ (-2147483648 ≤ vxh) := by omega
  have m0 : vxh < 2147483648 := by omega
  have n1 : -2147483648 ≤ vyh := by omega
  have m1 : ¬ vyh < 2147483648 := by omega
  go_enter Try.func6, Try.ntmps6
  go_wp2_with fail
  (with_reducible refine cm (K1.out _) fun w1 hclw1 hfrw1 hb => ?_); obtain ⟨zw1_v, yw1_v, yyw1_v⟩ := sz3 (B := w.heap.size) hb; have sxw1_0 := sz1 (b := w.heap.size + 1) hb; have HBw1 := hbw (a := w) hb; clear hb
  go_wp2_with fail
  (with_reducible refine cm (K2.out _) fun w2 hclw2 hfrw2 hb => ?_); obtain ⟨zw2_v, yw2_v, yyw2_v⟩ := sz3 (B := w.heap.size) hb; have sxw2_0 := sz1 (b := w1.heap.size) hb; have HBw2 := hbw (a := w) hb; clear hb
  go_wp2_with fail
  (with_reducible refine cm (K3.out _) fun w3 hclw3 hfrw3 hb => ?_); obtain ⟨zw3_v, yw3_v, yyw3_v⟩ := sz3 (B := w.heap.size) hb; have sxw3_0 := sz1 (b := w2.heap.size) hb; have HBw3 := hbw (a := w) hb; clear hb
  go_wp2_with fail
  go_returns
  exact ⟨rfl, bb⟩
set_option maxRecDepth 20000 in
set_option maxHeartbeats 60000000 in
theorem mortonEdges_02 (vxh vxl vyh vyl q : Int)  (c0 : vxh < -2147483648) (n1 : -2147483648 ≤ vyh) (m1 : vyh < 2147483648) (w : World)
    (C1 : Ct 10 #[.agg #[.int .i64 vxh, .int .u64 vxl, .int .i64 vyh, .int .u64 vyl]] (.bool true))
    (C2 : Ct 12 #[.agg #[.int .i64 vxh, .int .u64 vxl, .int .i64 vyh, .int .u64 vyl]] (.tuple #[.int .u32 0, .int .u32 q]))
    (C3 : Ct 11 #[] (.bool true)) :
    Calls Try.prog 6 #[.agg #[.int .i64 vxh, .int .u64 vxl, .int .i64 vyh, .int .u64 vyl]] w fun e w' => e = .returned (.bool true) ∧ Below w.heap.size w w' := by
  have K1 := Lib.hid C1; have K2 := Lib.hid C2; have K3 := Lib.hid C3
  clear C1 C2 C3
  have n0 : ¬ (-2147483648 ≤ vxh) := by omega
  have m0 : vxh < 2147483648 := by omega
  go_enter Try.func6, Try.ntmps6
  go_wp2_with fail
  (with_reducible refine cm (K1.out _) fun w1 hclw1 hfrw1 hb => ?_); obtain ⟨zw1_v, yw1_v, yyw1_v⟩ := sz3 (B := w.heap.size) hb; have sxw1_0 := sz1 (b := w.heap.size + 1) hb; have HBw1 := hbw (a := w) hb; clear hb
  go_wp2_with fail
  (with_reducible refine cm (K2.out _) fun w2 hclw2 hfrw2 hb => ?_); obtain ⟨zw2_v, yw2_v, yyw2_v⟩ := sz3 (B := w.heap.size) hb; have sxw2_0 := sz1 (b := w1.heap.size) hb; have HBw2 := hbw (a := w) hb; clear hb
  go_wp2_with fail
  (with_reducible refine cm (K3.out _) fun w3 hclw3 hfrw3 hb => ?_); obtain ⟨zw3_v, yw3_v, yyw3_v⟩ := sz3 (B := w.heap.size) hb; have sxw3_0 := sz1 (b := w2.heap.size) hb; have HBw3 := hbw (a := w) hb; clear hb
  go_wp2_with fail
  go_returns
  exact ⟨rfl, bb⟩
set_option maxRecDepth 20000 in
set_option maxHeartbeats 60000000 in
theorem mortonEdges_10 (vxh vxl vyh vyl  : Int)  (c0 : 2147483648 ≤ vxh) (c1 : vyh < -2147483648) (w : World)
    (C1 : Ct 10 #[.agg #[.int .i64 vxh, .int .u64 vxl, .int .i64 vyh, .int .u64 vyl]] (.bool true))
    (C2 : Ct 12 #[.agg #[.int .i64 vxh, .int .u64 vxl, .int .i64 vyh, .int .u64 vyl]] (.tuple #[.int .u32 4294967295, .int .u32 0]))
    (C3 : Ct 11 #[] (.bool true)) :
    Calls Try.prog 6 #[.agg #[.int .i64 vxh, .int .u64 vxl, .int .i64 vyh, .int .u64 vyl]] w fun e w' => e = .returned (.bool true) ∧ Below w.heap.size w w' := by
  have K1 := Lib.hid C1; have K2 := Lib.hid C2; have K3 := Lib.hid C3
  clear C1 C2 C3
  have n0 : -2147483648 ≤ vxh := by omega
  have m0 : ¬ vxh < 2147483648 := by omega
  have n1 : ¬ (-2147483648 ≤ vyh) := by omega
  have m1 : vyh < 2147483648 := by omega
  go_enter Try.func6, Try.ntmps6
  go_wp2_with fail
  (with_reducible refine cm (K1.out _) fun w1 hclw1 hfrw1 hb => ?_); obtain ⟨zw1_v, yw1_v, yyw1_v⟩ := sz3 (B := w.heap.size) hb; have sxw1_0 := sz1 (b := w.heap.size + 1) hb; have HBw1 := hbw (a := w) hb; clear hb
  go_wp2_with fail
  (with_reducible refine cm (K2.out _) fun w2 hclw2 hfrw2 hb => ?_); obtain ⟨zw2_v, yw2_v, yyw2_v⟩ := sz3 (B := w.heap.size) hb; have sxw2_0 := sz1 (b := w1.heap.size) hb; have HBw2 := hbw (a := w) hb; clear hb
  go_wp2_with fail
  (with_reducible refine cm (K3.out _) fun w3 hclw3 hfrw3 hb => ?_); obtain ⟨zw3_v, yw3_v, yyw3_v⟩ := sz3 (B := w.heap.size) hb; have sxw3_0 := sz1 (b := w2.heap.size) hb; have HBw3 := hbw (a := w) hb; clear hb
  go_wp2_with fail
  go_returns
  exact ⟨rfl, bb⟩
set_option maxRecDepth 20000 in
set_option maxHeartbeats 60000000 in
theorem mortonEdges_11 (vxh vxl vyh vyl  : Int)  (c0 : 2147483648 ≤ vxh) (c1 : 2147483648 ≤ vyh) (w : World)
    (C1 : Ct 10 #[.agg #[.int .i64 vxh, .int .u64 vxl, .int .i64 vyh, .int .u64 vyl]] (.bool true))
    (C2 : Ct 12 #[.agg #[.int .i64 vxh, .int .u64 vxl, .int .i64 vyh, .int .u64 vyl]] (.tuple #[.int .u32 4294967295, .int .u32 4294967295]))
    (C3 : Ct 11 #[] (.bool true)) :
    Calls Try.prog 6 #[.agg #[.int .i64 vxh, .int .u64 vxl, .int .i64 vyh, .int .u64 vyl]] w fun e w' => e = .returned (.bool true) ∧ Below w.heap.size w w' := by
  have K1 := Lib.hid C1; have K2 := Lib.hid C2; have K3 := Lib.hid C3
  clear C1 C2 C3
  have n0 : -2147483648 ≤ vxh := by omega
  have m0 : ¬ vxh < 2147483648 := by omega
  have n1 : -2147483648 ≤ vyh := by omega
  have m1 : ¬ vyh < 2147483648 := by omega
  go_enter Try.func6, Try.ntmps6
  go_wp2_with fail
  (with_reducible refine cm (K1.out _) fun w1 hclw1 hfrw1 hb => ?_); obtain ⟨zw1_v, yw1_v, yyw1_v⟩ := sz3 (B := w.heap.size) hb; have sxw1_0 := sz1 (b := w.heap.size + 1) hb; have HBw1 := hbw (a := w) hb; clear hb
  go_wp2_with fail
  (with_reducible refine cm (K2.out _) fun w2 hclw2 hfrw2 hb => ?_); obtain ⟨zw2_v, yw2_v, yyw2_v⟩ := sz3 (B := w.heap.size) hb; have sxw2_0 := sz1 (b := w1.heap.size) hb; have HBw2 := hbw (a := w) hb; clear hb
  go_wp2_with fail
  (with_reducible refine cm (K3.out _) fun w3 hclw3 hfrw3 hb => ?_); obtain ⟨zw3_v, yw3_v, yyw3_v⟩ := sz3 (B := w.heap.size) hb; have sxw3_0 := sz1 (b := w2.heap.size) hb; have HBw3 := hbw (a := w) hb; clear hb
  go_wp2_with fail
  go_returns
  exact ⟨rfl, bb⟩
set_option maxRecDepth 20000 in
set_option maxHeartbeats 60000000 in
theorem mortonEdges_12 (vxh vxl vyh vyl q : Int)  (c0 : 2147483648 ≤ vxh) (n1 : -2147483648 ≤ vyh) (m1 : vyh < 2147483648) (w : World)
    (C1 : Ct 10 #[.agg #[.int .i64 vxh, .int .u64 vxl, .int .i64 vyh, .int .u64 vyl]] (.bool true))
    (C2 : Ct 12 #[.agg #[.int .i64 vxh, .int .u64 vxl, .int .i64 vyh, .int .u64 vyl]] (.tuple #[.int .u32 4294967295, .int .u32 q]))
    (C3 : Ct 11 #[] (.bool true)) :
    Calls Try.prog 6 #[.agg #[.int .i64 vxh, .int .u64 vxl, .int .i64 vyh, .int .u64 vyl]] w fun e w' => e = .returned (.bool true) ∧ Below w.heap.size w w' := by
  have K1 := Lib.hid C1; have K2 := Lib.hid C2; have K3 := Lib.hid C3
  clear C1 C2 C3
  have n0 : -2147483648 ≤ vxh := by omega
  have m0 : ¬ vxh < 2147483648 := by omega
  go_enter Try.func6, Try.ntmps6
  go_wp2_with fail
  (with_reducible refine cm (K1.out _) fun w1 hclw1 hfrw1 hb => ?_); obtain ⟨zw1_v, yw1_v, yyw1_v⟩ := sz3 (B := w.heap.size) hb; have sxw1_0 := sz1 (b := w.heap.size + 1) hb; have HBw1 := hbw (a := w) hb; clear hb
  go_wp2_with fail
  (with_reducible refine cm (K2.out _) fun w2 hclw2 hfrw2 hb => ?_); obtain ⟨zw2_v, yw2_v, yyw2_v⟩ := sz3 (B := w.heap.size) hb; have sxw2_0 := sz1 (b := w1.heap.size) hb; have HBw2 := hbw (a := w) hb; clear hb
  go_wp2_with fail
  (with_reducible refine cm (K3.out _) fun w3 hclw3 hfrw3 hb => ?_); obtain ⟨zw3_v, yw3_v, yyw3_v⟩ := sz3 (B := w.heap.size) hb; have sxw3_0 := sz1 (b := w2.heap.size) hb; have HBw3 := hbw (a := w) hb; clear hb
  go_wp2_with fail
  go_returns
  exact ⟨rfl, bb⟩
set_option maxRecDepth 20000 in
set_option maxHeartbeats 60000000 in
theorem mortonEdges_20 (vxh vxl vyh vyl p : Int)  (n0 : -2147483648 ≤ vxh) (m0 : vxh < 2147483648) (c1 : vyh < -2147483648) (w : World)
    (C1 : Ct 10 #[.agg #[.int .i64 vxh, .int .u64 vxl, .int .i64 vyh, .int .u64 vyl]] (.bool true))
    (C2 : Ct 12 #[.agg #[.int .i64 vxh, .int .u64 vxl, .int .i64 vyh, .int .u64 vyl]] (.tuple #[.int .u32 p, .int .u32 0]))
    (C3 : Ct 11 #[] (.bool true)) :
    Calls Try.prog 6 #[.agg #[.int .i64 vxh, .int .u64 vxl, .int .i64 vyh, .int .u64 vyl]] w fun e w' => e = .returned (.bool true) ∧ Below w.heap.size w w' := by
  have K1 := Lib.hid C1; have K2 := Lib.hid C2; have K3 := Lib.hid C3
  clear C1 C2 C3
  have n1 : ¬ (-2147483648 ≤ vyh) := by omega
  have m1 : vyh < 2147483648 := by omega
  go_enter Try.func6, Try.ntmps6
  go_wp2_with fail
  (with_reducible refine cm (K1.out _) fun w1 hclw1 hfrw1 hb => ?_); obtain ⟨zw1_v, yw1_v, yyw1_v⟩ := sz3 (B := w.heap.size) hb; have sxw1_0 := sz1 (b := w.heap.size + 1) hb; have HBw1 := hbw (a := w) hb; clear hb
  go_wp2_with fail
  (with_reducible refine cm (K2.out _) fun w2 hclw2 hfrw2 hb => ?_); obtain ⟨zw2_v, yw2_v, yyw2_v⟩ := sz3 (B := w.heap.size) hb; have sxw2_0 := sz1 (b := w1.heap.size) hb; have HBw2 := hbw (a := w) hb; clear hb
  go_wp2_with fail
  (with_reducible refine cm (K3.out _) fun w3 hclw3 hfrw3 hb => ?_); obtain ⟨zw3_v, yw3_v, yyw3_v⟩ := sz3 (B := w.heap.size) hb; have sxw3_0 := sz1 (b := w2.heap.size) hb; have HBw3 := hbw (a := w) hb; clear hb
  go_wp2_with fail
  go_returns
  exact ⟨rfl, bb⟩
set_option maxRecDepth 20000 in
set_option maxHeartbeats 60000000 in
theorem mortonEdges_21 (vxh vxl vyh vyl p : Int)  (n0 : -2147483648 ≤ vxh) (m0 : vxh < 2147483648) (c1 : 2147483648 ≤ vyh) (w : World)
    (C1 : Ct 10 #[.agg #[.int .i64 vxh, .int .u64 vxl, .int .i64 vyh, .int .u64 vyl]] (.bool true))
    (C2 : Ct 12 #[.agg #[.int .i64 vxh, .int .u64 vxl, .int .i64 vyh, .int .u64 vyl]] (.tuple #[.int .u32 p, .int .u32 4294967295]))
    (C3 : Ct 11 #[] (.bool true)) :
    Calls Try.prog 6 #[.agg #[.int .i64 vxh, .int .u64 vxl, .int .i64 vyh, .int .u64 vyl]] w fun e w' => e = .returned (.bool true) ∧ Below w.heap.size w w' := by
  have K1 := Lib.hid C1; have K2 := Lib.hid C2; have K3 := Lib.hid C3
  clear C1 C2 C3
  have n1 : -2147483648 ≤ vyh := by omega
  have m1 : ¬ vyh < 2147483648 := by omega
  go_enter Try.func6, Try.ntmps6
  go_wp2_with fail
  (with_reducible refine cm (K1.out _) fun w1 hclw1 hfrw1 hb => ?_); obtain ⟨zw1_v, yw1_v, yyw1_v⟩ := sz3 (B := w.heap.size) hb; have sxw1_0 := sz1 (b := w.heap.size + 1) hb; have HBw1 := hbw (a := w) hb; clear hb
  go_wp2_with fail
  (with_reducible refine cm (K2.out _) fun w2 hclw2 hfrw2 hb => ?_); obtain ⟨zw2_v, yw2_v, yyw2_v⟩ := sz3 (B := w.heap.size) hb; have sxw2_0 := sz1 (b := w1.heap.size) hb; have HBw2 := hbw (a := w) hb; clear hb
  go_wp2_with fail
  (with_reducible refine cm (K3.out _) fun w3 hclw3 hfrw3 hb => ?_); obtain ⟨zw3_v, yw3_v, yyw3_v⟩ := sz3 (B := w.heap.size) hb; have sxw3_0 := sz1 (b := w2.heap.size) hb; have HBw3 := hbw (a := w) hb; clear hb
  go_wp2_with fail
  go_returns
  exact ⟨rfl, bb⟩
set_option maxRecDepth 20000 in
set_option maxHeartbeats 60000000 in
theorem mortonEdges_22 (vxh vxl vyh vyl p q : Int)  (n0 : -2147483648 ≤ vxh) (m0 : vxh < 2147483648) (n1 : -2147483648 ≤ vyh) (m1 : vyh < 2147483648) (w : World)
    (C1 : Ct 10 #[.agg #[.int .i64 vxh, .int .u64 vxl, .int .i64 vyh, .int .u64 vyl]] (.bool true))
    (C2 : Ct 12 #[.agg #[.int .i64 vxh, .int .u64 vxl, .int .i64 vyh, .int .u64 vyl]] (.tuple #[.int .u32 p, .int .u32 q]))
    (C3 : Ct 11 #[] (.bool true)) :
    Calls Try.prog 6 #[.agg #[.int .i64 vxh, .int .u64 vxl, .int .i64 vyh, .int .u64 vyl]] w fun e w' => e = .returned (.bool true) ∧ Below w.heap.size w w' := by
  have K1 := Lib.hid C1; have K2 := Lib.hid C2; have K3 := Lib.hid C3
  clear C1 C2 C3
  go_enter Try.func6, Try.ntmps6
  go_wp2_with fail
  (with_reducible refine cm (K1.out _) fun w1 hclw1 hfrw1 hb => ?_); obtain ⟨zw1_v, yw1_v, yyw1_v⟩ := sz3 (B := w.heap.size) hb; have sxw1_0 := sz1 (b := w.heap.size + 1) hb; have HBw1 := hbw (a := w) hb; clear hb
  go_wp2_with fail
  (with_reducible refine cm (K2.out _) fun w2 hclw2 hfrw2 hb => ?_); obtain ⟨zw2_v, yw2_v, yyw2_v⟩ := sz3 (B := w.heap.size) hb; have sxw2_0 := sz1 (b := w1.heap.size) hb; have HBw2 := hbw (a := w) hb; clear hb
  go_wp2_with fail
  (with_reducible refine cm (K3.out _) fun w3 hclw3 hfrw3 hb => ?_); obtain ⟨zw3_v, yw3_v, yyw3_v⟩ := sz3 (B := w.heap.size) hb; have sxw3_0 := sz1 (b := w2.heap.size) hb; have HBw3 := hbw (a := w) hb; clear hb
  go_wp2_with fail
  go_returns
  exact ⟨rfl, bb⟩
theorem cl1_lo {h : Int} (c : h < -2147483648) : cl1 h = 0 := by unfold cl1; rw [if_pos c]
theorem cl1_hi {h : Int} (c : 2147483648 ≤ h) : cl1 h = 4294967295 := by unfold cl1; rw [if_neg (by omega), if_pos (by omega)]
theorem mortonEdges_walk (x y : Int) (hx : Fx x) (hy : Fx y) (w : World) :
    Calls Try.prog 6 #[vec x y] w fun e w' => e = .returned (.bool true) ∧ Below w.heap.size w w' := by
  by_cases m : My x ∧ My y
  · obtain ⟨mx, my⟩ := m
    have M := rmv_true mx my
    have C := cell_any x y
    rcases (show fh x < -2147483648 ∨ 2147483648 ≤ fh x ∨ (-2147483648 ≤ fh x ∧ fh x < 2147483648) by omega) with a | a | ⟨a, a'⟩ <;> rcases (show fh y < -2147483648 ∨ 2147483648 ≤ fh y ∨ (-2147483648 ≤ fh y ∧ fh y < 2147483648) by omega) with b | b | ⟨b, b'⟩
    · rw [cl1_lo a, cl1_lo b] at C; exact mortonEdges_00 _ _ _ _ a b w M C mawake_any
    · rw [cl1_lo a, cl1_hi b] at C; exact mortonEdges_01 _ _ _ _ a b w M C mawake_any
    · rw [cl1_lo a] at C; exact mortonEdges_02 _ _ _ _ _ a b b' w M C mawake_any
    · rw [cl1_hi a, cl1_lo b] at C; exact mortonEdges_10 _ _ _ _ a b w M C mawake_any
    · rw [cl1_hi a, cl1_hi b] at C; exact mortonEdges_11 _ _ _ _ a b w M C mawake_any
    · rw [cl1_hi a] at C; exact mortonEdges_12 _ _ _ _ _ a b b' w M C mawake_any
    · rw [cl1_lo b] at C; exact mortonEdges_20 _ _ _ _ _ a a' b w M C mawake_any
    · rw [cl1_hi b] at C; exact mortonEdges_21 _ _ _ _ _ a a' b w M C mawake_any
    · exact mortonEdges_22 _ _ _ _ _ _ a a' b b' w M C mawake_any
  · exact mortonEdges_out _ _ _ _ w (rmv_false hx hy m) mawake_any
open Go.ChangeShapes Go.WideShapes Go.ChangeAt Go.RowKit Go.Joins
set_option maxRecDepth 100000 in
theorem mortonEdges_lifted (os : Os) (started : os.Started) (H : Type) (enc : TypeId × Value → H) :
    ReturnsInHanded {} Try.checked os 6 .any (Rows.mortonEdgesSpec.pre6 enc Try.prog Try.f6 Rows.mortonEdgesRow.domain false) (Rows.mortonEdgesSpec.post enc Try.prog Try.f6 false true false false) := by
  refine returnsInHanded_of_change (C := Try.checked) Try.own started kr Try.func6
    (ChangeSpec.witness6 (enc := enc) (C := Try.checked) false ⟨#[], #[.agg #[.int .i64 0, .int .u64 0, .int .i64 0, .int .u64 0]], []⟩ 8 kr kr kr kr) ?_
  intro W base args ds gs before hval0 hW hcnd _
  have hval : ∀ (j : Nat) t v, Try.f6.params[j]? = some t → args[j]? = some v → Value.okWide Try.prog W .any base t v := hval0
  have hW' := hW
  obtain ⟨p, q, hA0, hV, rfl, hfz, hnd⟩ := hW
  have hA : DataW.TrodAll enc Try.prog W 0 (fun _ => true) true Try.f6.params.toList args.toList ds p := hA0
  rw [Try.params6] at hA hval
  obtain ⟨v0, d0, rfl, rfl, h0⟩ := trodAll_one hA
  obtain ⟨rfl, rfl⟩ := trodVars_none hV
  obtain ⟨x, y, rfl, rfl, rfl, k00, k01⟩ := open_vec (hval 0 27 v0 rfl rfl) h0
  clear hA0 hval0
  simp only [List.append_nil] at hW'
  refine (mortonEdges_walk x y k00 k01 W).mono fun e W' ⟨he, hb⟩ => ?_
  subst he
  exact ⟨_, rfl, _, _, _, [], [], [], hW', trodAll_mk1 (shut_bool Try.underlying4 _), trodAll_mk1 (shut_vec k00 k01), rfl, hb.frame _, fun h => by cases h⟩
theorem mortonEdges_holds : Rows.MortonEdgesSaid :=
  OpenClaim.holds_of_wide 6 Try.f6 rfl rfl rfl rfl rfl rfl rfl ⟨rfl, rfl, rfl, rfl, rfl⟩ rfl rfl rfl rfl rfl kr Try.func6 kr
    (of_decide_eq_true kr) (by unfold Func.isWrapper; first | (rw [if_pos (by decide +kernel)]; kernel_rfl) | (rw [if_neg (by decide +kernel)]; exact ⟨rfl, rfl⟩))
    (fun os started H enc _ => mortonEdges_lifted os started H enc)
end Go.Proofs.Ytgiiddioinhfiaa
