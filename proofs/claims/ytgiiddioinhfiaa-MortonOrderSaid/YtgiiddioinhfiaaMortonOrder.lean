/- Of two on one line the one further on has the greater key; whole places are their own cells: at any commit whose code this is, for every three numbers of 32 bits and every two whole numbers of 32 bits. -/
import Derived.Test.YtgiiddioinhfiaaZzMortA
import Derived.Test.YtgiiddioinhfiaaZzFixA
import Derived.Test.YtgiiddioinhfiaaZzVecA
namespace Go.Proofs.Ytgiiddioinhfiaa
open Go.RowKit
set_option maxRecDepth 20000 in
set_option maxHeartbeats 60000000 in
theorem mortonOrder_true (x y z m n a b c d p q : Int) (c1 : a < b) (c2 : x < y) (c3 : c < d) (w1 : IntKind.i64.wrap m = m) (w2 : IntKind.i64.wrap n = n) (w3 : IntKind.i64.wrap (m + 2147483648) = p) (w4 : IntKind.i64.wrap (n + 2147483648) = q) (w5 : IntKind.i64.wrap p = p) (w6 : IntKind.i64.wrap q = q) (w : World)
    (C1 : Ct 17 #[.int .i64 m] (.agg #[.int .i64 m, .int .u64 0]))
    (C2 : Ct 12 #[.agg #[.int .i64 m, .int .u64 0, .int .i64 n, .int .u64 18446744073709551615]] (.tuple #[.int .u32 p, .int .u32 q]))
    (C3 : Ct 8 #[.int .u32 x, .int .u32 z] (.int .u64 a))
    (C4 : Ct 8 #[.int .u32 y, .int .u32 z] (.int .u64 b))
    (C5 : Ct 8 #[.int .u32 z, .int .u32 x] (.int .u64 c))
    (C6 : Ct 8 #[.int .u32 z, .int .u32 y] (.int .u64 d))
    (C7 : Ct 11 #[] (.bool true)) :
    Calls Try.prog 5 #[.int .u32 x, .int .u32 y, .int .u32 z, .int .i32 m, .int .i32 n] w fun e w' => e = .returned (.bool true) ∧ Below w.heap.size w w' := by
  have K1 := Lib.hid C1; have K2 := Lib.hid C2; have K3 := Lib.hid C3; have K4 := Lib.hid C4; have K5 := Lib.hid C5; have K6 := Lib.hid C6; have K7 := Lib.hid C7
  clear C1 C2 C3 C4 C5 C6 C7
  go_enter Try.func5, Try.ntmps5
  go_wp2_with fail
  (with_reducible refine cm (K1.out _) fun w1 hclw1 hfrw1 hb => ?_); have sxw1_0 := sz1 (b := w.heap.size) hb; have HBw1 := hbw (a := w) hb; clear hb
  go_wp2_with fail
  (with_reducible refine cm (K2.out _) fun w2 hclw2 hfrw2 hb => ?_); have sxw2_0 := sz1 (b := w1.heap.size) hb; have HBw2 := hbw (a := w) hb; clear hb
  go_wp2_with fail
  (with_reducible refine cm (K3.out _) fun w3 hclw3 hfrw3 hb => ?_); have sxw3_0 := sz1 (b := w2.heap.size) hb; have HBw3 := hbw (a := w) hb; clear hb
  go_wp2_with fail
  (with_reducible refine cm (K4.out _) fun w4 hclw4 hfrw4 hb => ?_); have sxw4_0 := sz1 (b := w3.heap.size) hb; have HBw4 := hbw (a := w) hb; clear hb
  go_wp2_with fail
  (with_reducible refine cm (K5.out _) fun w5 hclw5 hfrw5 hb => ?_); have sxw5_0 := sz1 (b := w4.heap.size) hb; have HBw5 := hbw (a := w) hb; clear hb
  go_wp2_with fail
  (with_reducible refine cm (K6.out _) fun w6 hclw6 hfrw6 hb => ?_); have sxw6_0 := sz1 (b := w5.heap.size) hb; have HBw6 := hbw (a := w) hb; clear hb
  go_wp2_with fail
  (with_reducible refine cm (K7.out _) fun w7 hclw7 hfrw7 hb => ?_); have sxw7_0 := sz1 (b := w6.heap.size) hb; have HBw7 := hbw (a := w) hb; clear hb
  go_wp2_with fail
  go_returns
  exact ⟨rfl, bb⟩
set_option maxRecDepth 20000 in
set_option maxHeartbeats 60000000 in
theorem mortonOrder_false (x y z m n a b c d p q : Int) (c1 : ¬ a < b) (c2 : ¬ x < y) (c3 : ¬ c < d) (w1 : IntKind.i64.wrap m = m) (w2 : IntKind.i64.wrap n = n) (w3 : IntKind.i64.wrap (m + 2147483648) = p) (w4 : IntKind.i64.wrap (n + 2147483648) = q) (w5 : IntKind.i64.wrap p = p) (w6 : IntKind.i64.wrap q = q) (w : World)
    (C1 : Ct 17 #[.int .i64 m] (.agg #[.int .i64 m, .int .u64 0]))
    (C2 : Ct 12 #[.agg #[.int .i64 m, .int .u64 0, .int .i64 n, .int .u64 18446744073709551615]] (.tuple #[.int .u32 p, .int .u32 q]))
    (C3 : Ct 8 #[.int .u32 x, .int .u32 z] (.int .u64 a))
    (C4 : Ct 8 #[.int .u32 y, .int .u32 z] (.int .u64 b))
    (C5 : Ct 8 #[.int .u32 z, .int .u32 x] (.int .u64 c))
    (C6 : Ct 8 #[.int .u32 z, .int .u32 y] (.int .u64 d))
    (C7 : Ct 11 #[] (.bool true)) :
    Calls Try.prog 5 #[.int .u32 x, .int .u32 y, .int .u32 z, .int .i32 m, .int .i32 n] w fun e w' => e = .returned (.bool true) ∧ Below w.heap.size w w' := by
  have K1 := Lib.hid C1; have K2 := Lib.hid C2; have K3 := Lib.hid C3; have K4 := Lib.hid C4; have K5 := Lib.hid C5; have K6 := Lib.hid C6; have K7 := Lib.hid C7
  clear C1 C2 C3 C4 C5 C6 C7
  go_enter Try.func5, Try.ntmps5
  go_wp2_with fail
  (with_reducible refine cm (K1.out _) fun w1 hclw1 hfrw1 hb => ?_); have sxw1_0 := sz1 (b := w.heap.size) hb; have HBw1 := hbw (a := w) hb; clear hb
  go_wp2_with fail
  (with_reducible refine cm (K2.out _) fun w2 hclw2 hfrw2 hb => ?_); have sxw2_0 := sz1 (b := w1.heap.size) hb; have HBw2 := hbw (a := w) hb; clear hb
  go_wp2_with fail
  (with_reducible refine cm (K3.out _) fun w3 hclw3 hfrw3 hb => ?_); have sxw3_0 := sz1 (b := w2.heap.size) hb; have HBw3 := hbw (a := w) hb; clear hb
  go_wp2_with fail
  (with_reducible refine cm (K4.out _) fun w4 hclw4 hfrw4 hb => ?_); have sxw4_0 := sz1 (b := w3.heap.size) hb; have HBw4 := hbw (a := w) hb; clear hb
  go_wp2_with fail
  (with_reducible refine cm (K5.out _) fun w5 hclw5 hfrw5 hb => ?_); have sxw5_0 := sz1 (b := w4.heap.size) hb; have HBw5 := hbw (a := w) hb; clear hb
  go_wp2_with fail
  (with_reducible refine cm (K6.out _) fun w6 hclw6 hfrw6 hb => ?_); have sxw6_0 := sz1 (b := w5.heap.size) hb; have HBw6 := hbw (a := w) hb; clear hb
  go_wp2_with fail
  (with_reducible refine cm (K7.out _) fun w7 hclw7 hfrw7 hb => ?_); have sxw7_0 := sz1 (b := w6.heap.size) hb; have HBw7 := hbw (a := w) hb; clear hb
  go_wp2_with fail
  go_returns
  exact ⟨rfl, bb⟩
theorem hf_wf {n : Int} (h : (Lit.int .u32 n).wf = true) : Hf n := by
  simp [Lit.wf, IntKind.min, IntKind.max, IntKind.bits, IntKind.signed] at h; unfold Hf; omega
theorem wf_i32 {n : Int} (h : (Lit.int .i32 n).wf = true) : -2147483648 ≤ n ∧ n < 2147483648 := by
  simp [Lit.wf, IntKind.min, IntKind.max, IntKind.bits, IntKind.signed] at h; omega
theorem wf_u8 {n : Int} (h : (Lit.int .u8 n).wf = true) : 0 ≤ n ∧ n < 256 := by
  simp [Lit.wf, IntKind.min, IntKind.max, IntKind.bits, IntKind.signed] at h; omega
open Go.ChangeShapes Go.WideShapes Go.ChangeAt Go.RowKit Go.Joins
section
variable {H : Type} {enc : TypeId × Value → H} {P : Program} {w : World} {base : Nat} {spare : Nat → Bool} {held : Bool}
open Go.ChangeShapes
/-- Five arguments opened, and shut. -/
theorem args_five {t0 t1 t2 t3 t4 : TypeId} {args : Array Value} {ds : List (DataW H)} {ps : List MemPlace} (h : DataW.TrodAll enc P w base spare held [t0, t1, t2, t3, t4] args.toList ds ps) :
    ∃ v0 v1 v2 v3 v4 d0 d1 d2 d3 d4 p0 p1 p2 p3 p4, args = #[v0, v1, v2, v3, v4] ∧ ds = [d0, d1, d2, d3, d4] ∧ ps = p0 ++ p1 ++ p2 ++ p3 ++ p4 ∧ DataW.Trod enc P w base spare held t0 v0 d0 p0 ∧ DataW.Trod enc P w base spare held t1 v1 d1 p1 ∧ DataW.Trod enc P w base spare held t2 v2 d2 p2 ∧ DataW.Trod enc P w base spare held t3 v3 d3 p3 ∧ DataW.Trod enc P w base spare held t4 v4 d4 p4 := by
  obtain ⟨v0, vs0, d0, ds0, p0, q0, hargs, rfl, rfl, h0, r0⟩ := trodAll_cons h
  obtain ⟨v1, v2, v3, v4, d1, d2, d3, d4, p1, p2, p3, p4, e, rfl, rfl, h1, h2, h3, h4⟩ := trodAll_four (args := vs0.toArray) (by simpa using r0)
  refine ⟨v0, v1, v2, v3, v4, d0, d1, d2, d3, d4, p0, p1, p2, p3, p4, ?_, rfl, by simp, h0, h1, h2, h3, h4⟩
  have e2 : vs0 = [v1, v2, v3, v4] := by simpa using congrArg Array.toList e
  cases args; simp_all
theorem shut_five {t0 t1 t2 t3 t4 : TypeId} {v0 v1 v2 v3 v4 : Value} {d0 d1 d2 d3 d4 : DataW H} {p0 p1 p2 p3 p4 : List MemPlace} (h0 : DataW.Trod enc P w base spare held t0 v0 d0 p0) (h1 : DataW.Trod enc P w base spare held t1 v1 d1 p1) (h2 : DataW.Trod enc P w base spare held t2 v2 d2 p2) (h3 : DataW.Trod enc P w base spare held t3 v3 d3 p3) (h4 : DataW.Trod enc P w base spare held t4 v4 d4 p4) :
    DataW.TrodAll enc P w base spare held [t0, t1, t2, t3, t4] [v0, v1, v2, v3, v4] [d0, d1, d2, d3, d4] (p0 ++ (p1 ++ (p2 ++ (p3 ++ p4)))) := ⟨p0, p1 ++ (p2 ++ (p3 ++ p4)), h0, trodAll_mk4 h1 h2 h3 h4, rfl⟩
end
theorem mortonOrder_walk (x y z m n : Int) (hx : Hf x) (hy : Hf y) (hz : Hf z) (m0 : -2147483648 ≤ m) (m1 : m < 2147483648) (n0 : -2147483648 ≤ n) (n1 : n < 2147483648) (w : World) :
    Calls Try.prog 5 #[.int .u32 x, .int .u32 y, .int .u32 z, .int .i32 m, .int .i32 n] w fun e w' => e = .returned (.bool true) ∧ Below w.heap.size w w' := by
  have I : Ct 17 #[.int .i64 m] (.agg #[.int .i64 m, .int .u64 0]) := fun W => rint_hi m (by omega) W
  have C := fun W => cell_core m 0 n 18446744073709551615 _ _ W (along_any m 0) (along_any n 18446744073709551615)
  have e : ∀ h : Int, -2147483648 ≤ h → h < 2147483648 → cl1 h = h + 2147483648 := fun h a b => by unfold cl1; rw [if_neg (by omega), if_neg (by omega)]
  rw [e m m0 m1, e n n0 n1] at C
  obtain ⟨x0, x1⟩ := hx; obtain ⟨y0, y1⟩ := hy
  have L : (key x z < key y z ↔ x < y) ∧ (key z x < key z y ↔ x < y) := by
    obtain ⟨l1, l2⟩ := mk2_less 32 x.toNat y.toNat z.toNat (by simp only [Nat.reducePow]; omega) (by simp only [Nat.reducePow]; omega)
    unfold key; constructor <;> omega
  have W : ∀ h : Int, -4294967296 ≤ h → h < 8589934592 → IntKind.i64.wrap h = h := fun h a b => IntWalk.i64_in _ (by omega)
  by_cases c : x < y
  · exact mortonOrder_true _ _ _ _ _ _ _ _ _ _ _ (L.1.2 c) c (L.2.2 c) (W _ (by omega) (by omega)) (W _ (by omega) (by omega)) (W _ (by omega) (by omega)) (W _ (by omega) (by omega)) (W _ (by omega) (by omega)) (W _ (by omega) (by omega)) w I C (key_any x z ⟨x0, x1⟩ hz) (key_any y z ⟨y0, y1⟩ hz) (key_any z x hz ⟨x0, x1⟩) (key_any z y hz ⟨y0, y1⟩) mawake_any
  · exact mortonOrder_false _ _ _ _ _ _ _ _ _ _ _ (fun g => c (L.1.1 g)) c (fun g => c (L.2.1 g)) (W _ (by omega) (by omega)) (W _ (by omega) (by omega)) (W _ (by omega) (by omega)) (W _ (by omega) (by omega)) (W _ (by omega) (by omega)) (W _ (by omega) (by omega)) w I C (key_any x z ⟨x0, x1⟩ hz) (key_any y z ⟨y0, y1⟩ hz) (key_any z x hz ⟨x0, x1⟩) (key_any z y hz ⟨y0, y1⟩) mawake_any
open Go.ChangeShapes Go.WideShapes Go.ChangeAt Go.RowKit Go.Joins
set_option maxRecDepth 100000 in
theorem mortonOrder_lifted (os : Os) (started : os.Started) (H : Type) (enc : TypeId × Value → H) :
    ReturnsInHanded {} Try.checked os 5 .any (Rows.mortonOrderSpec.pre6 enc Try.prog Try.f5 Rows.mortonOrderRow.domain false) (Rows.mortonOrderSpec.post enc Try.prog Try.f5 false true false false) := by
  refine returnsInHanded_of_change (C := Try.checked) Try.own started kr Try.func5
    (ChangeSpec.witness6 (enc := enc) (C := Try.checked) false ⟨#[], #[.int .u32 0, .int .u32 0, .int .u32 0, .int .i32 0, .int .i32 0], []⟩ 8 kr kr kr kr) ?_
  intro W base args ds gs before hval0 hW hcnd _
  have hval : ∀ (j : Nat) t v, Try.f5.params[j]? = some t → args[j]? = some v → Value.okWide Try.prog W .any base t v := hval0
  have hW' := hW
  obtain ⟨p, q, hA0, hV, rfl, hfz, hnd⟩ := hW
  have hA : DataW.TrodAll enc Try.prog W 0 (fun _ => true) true Try.f5.params.toList args.toList ds p := hA0
  rw [Try.params5] at hA hval
  obtain ⟨v0, v1, v2, v3, v4, d0, d1, d2, d3, d4, p0, p1, p2, p3, p4, rfl, rfl, rfl, h0, h1, h2, h3, h4⟩ := args_five hA
  obtain ⟨rfl, rfl⟩ := trodVars_none hV
  obtain ⟨x, rfl, rfl, rfl, k00⟩ := open_int Try.underlying22 (hval 0 22 v0 rfl rfl) h0
  obtain ⟨y, rfl, rfl, rfl, k10⟩ := open_int Try.underlying22 (hval 1 22 v1 rfl rfl) h1
  obtain ⟨z, rfl, rfl, rfl, k20⟩ := open_int Try.underlying22 (hval 2 22 v2 rfl rfl) h2
  obtain ⟨m, rfl, rfl, rfl, k30⟩ := open_int Try.underlying21 (hval 3 21 v3 rfl rfl) h3
  obtain ⟨n, rfl, rfl, rfl, k40⟩ := open_int Try.underlying21 (hval 4 21 v4 rfl rfl) h4
  clear hA0 hval0
  simp only [List.append_nil] at hW'
  refine (mortonOrder_walk x y z m n (hf_wf k00) (hf_wf k10) (hf_wf k20) (wf_i32 k30).1 (wf_i32 k30).2 (wf_i32 k40).1 (wf_i32 k40).2 W).mono fun e W' ⟨he, hb⟩ => ?_
  subst he
  exact ⟨_, rfl, _, _, _, [], [], [], hW', trodAll_mk1 (shut_bool Try.underlying4 _), shut_five (shut_int Try.underlying22 k00) (shut_int Try.underlying22 k10) (shut_int Try.underlying22 k20) (shut_int Try.underlying21 k30) (shut_int Try.underlying21 k40), rfl, hb.frame _, fun h => by cases h⟩
theorem mortonOrder_holds : Rows.MortonOrderSaid :=
  OpenClaim.holds_of_wide 5 Try.f5 rfl rfl rfl rfl rfl rfl rfl ⟨rfl, rfl, rfl, rfl, rfl⟩ rfl rfl rfl rfl rfl kr Try.func5 kr
    (of_decide_eq_true kr) (by unfold Func.isWrapper; first | (rw [if_pos (by decide +kernel)]; kernel_rfl) | (rw [if_neg (by decide +kernel)]; exact ⟨rfl, rfl⟩))
    (fun os started H enc _ => mortonOrder_lifted os started H enc)
end Go.Proofs.Ytgiiddioinhfiaa
