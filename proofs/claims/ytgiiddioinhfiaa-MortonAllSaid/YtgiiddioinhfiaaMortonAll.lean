/- The key of any two numbers, and of any place, and its cell, is the document's: at any commit whose code this is, for every two numbers of 32 bits and every way. -/
import Derived.Test.YtgiiddioinhfiaaZzMortA
import Derived.Test.YtgiiddioinhfiaaZzFixA
import Derived.Test.YtgiiddioinhfiaaZzVecA
namespace Go.Proofs.Ytgiiddioinhfiaa
open Go.RowKit
set_option maxRecDepth 20000 in
set_option maxHeartbeats 60000000 in
theorem mortonAll_out (vxh vxl vyh vyl x y r : Int)  (w : World)
    (C1 : Ct 8 #[.int .u32 x, .int .u32 y] (.int .u64 r))
    (C2 : Ct 9 #[.int .u32 x, .int .u32 y] (.int .u64 r))
    (C3 : Ct 10 #[.agg #[.int .i64 vxh, .int .u64 vxl, .int .i64 vyh, .int .u64 vyl]] (.bool false))
    (C4 : Ct 11 #[] (.bool true)) :
    Calls Try.prog 3 #[.int .u32 x, .int .u32 y, .agg #[.int .i64 vxh, .int .u64 vxl, .int .i64 vyh, .int .u64 vyl]] w fun e w' => e = .returned (.bool true) ∧ Below w.heap.size w w' := by
  have K1 := Lib.hid C1; have K2 := Lib.hid C2; have K3 := Lib.hid C3; have K4 := Lib.hid C4
  clear C1 C2 C3 C4
  go_enter Try.func3, Try.ntmps3
  go_wp2_with fail
  (with_reducible refine cm (K1.out _) fun w1 hclw1 hfrw1 hb => ?_); obtain ⟨zw1_v, yw1_v, yyw1_v⟩ := sz3 (B := w.heap.size) hb; have sxw1_0 := sz1 (b := w.heap.size + 1) hb; have HBw1 := hbw (a := w) hb; clear hb
  go_wp2_with fail
  (with_reducible refine cm (K2.out _) fun w2 hclw2 hfrw2 hb => ?_); obtain ⟨zw2_v, yw2_v, yyw2_v⟩ := sz3 (B := w.heap.size) hb; have sxw2_0 := sz1 (b := w1.heap.size) hb; have HBw2 := hbw (a := w) hb; clear hb
  go_wp2_with fail
  (with_reducible refine cm (K3.out _) fun w3 hclw3 hfrw3 hb => ?_); obtain ⟨zw3_v, yw3_v, yyw3_v⟩ := sz3 (B := w.heap.size) hb; have sxw3_0 := sz1 (b := w2.heap.size) hb; have HBw3 := hbw (a := w) hb; clear hb
  go_wp2_with fail
  (with_reducible refine cm (K4.out _) fun w4 hclw4 hfrw4 hb => ?_); obtain ⟨zw4_v, yw4_v, yyw4_v⟩ := sz3 (B := w.heap.size) hb; have sxw4_0 := sz1 (b := w3.heap.size) hb; have HBw4 := hbw (a := w) hb; clear hb
  go_wp2_with fail
  go_returns
  exact ⟨rfl, bb⟩
set_option maxRecDepth 20000 in
set_option maxHeartbeats 60000000 in
theorem mortonAll_core (vxh vxl vyh vyl x y p q r s : Int)  (w : World)
    (C1 : Ct 8 #[.int .u32 x, .int .u32 y] (.int .u64 r))
    (C2 : Ct 9 #[.int .u32 x, .int .u32 y] (.int .u64 r))
    (C3 : Ct 10 #[.agg #[.int .i64 vxh, .int .u64 vxl, .int .i64 vyh, .int .u64 vyl]] (.bool true))
    (C4 : Ct 12 #[.agg #[.int .i64 vxh, .int .u64 vxl, .int .i64 vyh, .int .u64 vyl]] (.tuple #[.int .u32 p, .int .u32 q]))
    (C5 : Ct 13 #[.agg #[.int .i64 vxh, .int .u64 vxl, .int .i64 vyh, .int .u64 vyl]] (.tuple #[.int .u32 p, .int .u32 q]))
    (C6 : Ct 14 #[.agg #[.int .i64 vxh, .int .u64 vxl, .int .i64 vyh, .int .u64 vyl]] (.int .u64 s))
    (C7 : Ct 15 #[.agg #[.int .i64 vxh, .int .u64 vxl, .int .i64 vyh, .int .u64 vyl]] (.int .u64 s))
    (C8 : Ct 11 #[] (.bool true)) :
    Calls Try.prog 3 #[.int .u32 x, .int .u32 y, .agg #[.int .i64 vxh, .int .u64 vxl, .int .i64 vyh, .int .u64 vyl]] w fun e w' => e = .returned (.bool true) ∧ Below w.heap.size w w' := by
  have K1 := Lib.hid C1; have K2 := Lib.hid C2; have K3 := Lib.hid C3; have K4 := Lib.hid C4; have K5 := Lib.hid C5; have K6 := Lib.hid C6; have K7 := Lib.hid C7; have K8 := Lib.hid C8
  clear C1 C2 C3 C4 C5 C6 C7 C8
  go_enter Try.func3, Try.ntmps3
  go_wp2_with fail
  (with_reducible refine cm (K1.out _) fun w1 hclw1 hfrw1 hb => ?_); obtain ⟨zw1_v, yw1_v, yyw1_v⟩ := sz3 (B := w.heap.size) hb; have sxw1_0 := sz1 (b := w.heap.size + 1) hb; have HBw1 := hbw (a := w) hb; clear hb
  go_wp2_with fail
  (with_reducible refine cm (K2.out _) fun w2 hclw2 hfrw2 hb => ?_); obtain ⟨zw2_v, yw2_v, yyw2_v⟩ := sz3 (B := w.heap.size) hb; have sxw2_0 := sz1 (b := w1.heap.size) hb; have HBw2 := hbw (a := w) hb; clear hb
  go_wp2_with fail
  (with_reducible refine cm (K3.out _) fun w3 hclw3 hfrw3 hb => ?_); obtain ⟨zw3_v, yw3_v, yyw3_v⟩ := sz3 (B := w.heap.size) hb; have sxw3_0 := sz1 (b := w2.heap.size) hb; have HBw3 := hbw (a := w) hb; clear hb
  go_wp2_with fail
  (with_reducible refine cm (K4.out _) fun w4 hclw4 hfrw4 hb => ?_); obtain ⟨zw4_v, yw4_v, yyw4_v⟩ := sz3 (B := w.heap.size) hb; have sxw4_0 := sz1 (b := w3.heap.size) hb; have HBw4 := hbw (a := w) hb; clear hb
  go_wp2_with fail
  (with_reducible refine cm (K5.out _) fun w5 hclw5 hfrw5 hb => ?_); obtain ⟨zw5_v, yw5_v, yyw5_v⟩ := sz3 (B := w.heap.size) hb; have sxw5_0 := sz1 (b := w4.heap.size) hb; have HBw5 := hbw (a := w) hb; clear hb
  go_upto_region 7 with fail
  refine nw _ fun R1 hR1 => ?_
  obtain ⟨zR1_v, yR1_v, yyR1_v, cR1_v_0, cR1_v_1, cR1_v_2, cR1_v_3⟩ := cz4 hR1 w.heap.size (.int .i64 vxh) (.int .u64 vxl) (.int .i64 vyh) (.int .u64 vyl)
  have HBR1 := bhr (a := w) hR1
  clear hR1
  clear zw1_v yw1_v yyw1_v sxw1_0 hclw1 hfrw1 HBw1 zw2_v yw2_v yyw2_v sxw2_0 hclw2 hfrw2 HBw2 zw3_v yw3_v yyw3_v sxw3_0 hclw3 hfrw3 HBw3 zw4_v yw4_v yyw4_v sxw4_0 hclw4 hfrw4 HBw4 zw5_v yw5_v yyw5_v sxw5_0 hclw5 hfrw5 HBw5
  go_region_held3 (fun w' => w'.cell? ⟨w.heap.size, 0, none⟩ = some (.int .i64 vxh) ∧ w'.cell? ⟨w.heap.size, 1, none⟩ = some (.int .u64 vxl) ∧ w'.cell? ⟨w.heap.size, 2, none⟩ = some (.int .i64 vyh) ∧ w'.cell? ⟨w.heap.size, 3, none⟩ = some (.int .u64 vyl)) (first | (simp [*, go_sem]; done) | (simp [*, go_sem, World.cell?_alloc_past]; done))
    (first
      | (go_at_call 14; (with_reducible refine (K6.out _).mono ?_); rintro e w6 ⟨rfl, hb⟩; (first | (with_reducible (obtain ⟨hclw6, hfrw6⟩ := bcell_drew hb)) | (obtain ⟨hclw6, hfrw6⟩ := bcell hb)); obtain ⟨zw6_v, yw6_v, yyw6_v⟩ := sz3 (B := w.heap.size) hb; have sxw6_0 := sz1 (b := R1.heap.size) hb; have HBw6 := hbw (a := w) hb; clear hb; clear K6)
      | (go_at_call 15; (with_reducible refine cm (K7.out _) fun w7 hclw7 hfrw7 hb => ?_); obtain ⟨zw7_v, yw7_v, yyw7_v⟩ := sz3 (B := w.heap.size) hb; have sxw7_0 := sz1 (b := R1.heap.size) hb; have sxw7_w6 := sz1 (b := w6.heap.size) hb; have HBw7 := hbw (a := w) hb; clear hb; clear K7)
      | (go_at_call 11; (with_reducible refine cm (K8.out _) fun w8 hclw8 hfrw8 hb => ?_); obtain ⟨zw8_v, yw8_v, yyw8_v⟩ := sz3 (B := w.heap.size) hb; have sxw8_0 := sz1 (b := R1.heap.size) hb; have sxw8_w6 := sz1 (b := w6.heap.size) hb; have sxw8_w7 := sz1 (b := w7.heap.size) hb; have HBw8 := hbw (a := w) hb; clear hb; clear K8))
  rename_i hHeld
  clear hHeld
  go_wp2_with fail
  go_returns
  exact ⟨rfl, bb⟩
theorem hf_wf {n : Int} (h : (Lit.int .u32 n).wf = true) : Hf n := by
  simp [Lit.wf, IntKind.min, IntKind.max, IntKind.bits, IntKind.signed] at h; unfold Hf; omega
theorem wf_i32 {n : Int} (h : (Lit.int .i32 n).wf = true) : -2147483648 ≤ n ∧ n < 2147483648 := by
  simp [Lit.wf, IntKind.min, IntKind.max, IntKind.bits, IntKind.signed] at h; omega
theorem wf_u8 {n : Int} (h : (Lit.int .u8 n).wf = true) : 0 ≤ n ∧ n < 256 := by
  simp [Lit.wf, IntKind.min, IntKind.max, IntKind.bits, IntKind.signed] at h; omega
theorem mortonAll_walk (x y a b : Int) (hx : Hf x) (hy : Hf y) (ha : Fx a) (hb : Fx b) (w : World) :
    Calls Try.prog 3 #[.int .u32 x, .int .u32 y, vec a b] w fun e w' => e = .returned (.bool true) ∧ Below w.heap.size w w' := by
  by_cases m : My a ∧ My b
  · exact mortonAll_core _ _ _ _ _ _ _ _ _ _ w (key_any x y hx hy) (rkey_any x y hx hy) (rmv_true m.1 m.2) (cell_any a b) (rcell_any a b) (of_any a b) (rof_any a b) mawake_any
  · exact mortonAll_out _ _ _ _ _ _ _ w (key_any x y hx hy) (rkey_any x y hx hy) (rmv_false ha hb m) mawake_any
open Go.ChangeShapes Go.WideShapes Go.ChangeAt Go.RowKit Go.Joins
set_option maxRecDepth 100000 in
theorem mortonAll_lifted (os : Os) (started : os.Started) (H : Type) (enc : TypeId × Value → H) :
    ReturnsInHanded {} Try.checked os 3 .any (Rows.mortonAllSpec.pre6 enc Try.prog Try.f3 Rows.mortonAllRow.domain false) (Rows.mortonAllSpec.post enc Try.prog Try.f3 false true false false) := by
  refine returnsInHanded_of_change (C := Try.checked) Try.own started kr Try.func3
    (ChangeSpec.witness6 (enc := enc) (C := Try.checked) false ⟨#[], #[.int .u32 0, .int .u32 0, .agg #[.int .i64 0, .int .u64 0, .int .i64 0, .int .u64 0]], []⟩ 8 kr kr kr kr) ?_
  intro W base args ds gs before hval0 hW hcnd _
  have hval : ∀ (j : Nat) t v, Try.f3.params[j]? = some t → args[j]? = some v → Value.okWide Try.prog W .any base t v := hval0
  have hW' := hW
  obtain ⟨p, q, hA0, hV, rfl, hfz, hnd⟩ := hW
  have hA : DataW.TrodAll enc Try.prog W 0 (fun _ => true) true Try.f3.params.toList args.toList ds p := hA0
  rw [Try.params3] at hA hval
  obtain ⟨v0, v1, v2, d0, d1, d2, p0, p1, p2, rfl, rfl, rfl, h0, h1, h2⟩ := trodAll_three hA
  obtain ⟨rfl, rfl⟩ := trodVars_none hV
  obtain ⟨x, rfl, rfl, rfl, k00⟩ := open_int Try.underlying22 (hval 0 22 v0 rfl rfl) h0
  obtain ⟨y, rfl, rfl, rfl, k10⟩ := open_int Try.underlying22 (hval 1 22 v1 rfl rfl) h1
  obtain ⟨a, b, rfl, rfl, rfl, k20, k21⟩ := open_vec (hval 2 27 v2 rfl rfl) h2
  clear hA0 hval0
  simp only [List.append_nil] at hW'
  refine (mortonAll_walk x y a b (hf_wf k00) (hf_wf k10) k20 k21 W).mono fun e W' ⟨he, hb⟩ => ?_
  subst he
  exact ⟨_, rfl, _, _, _, [], [], [], hW', trodAll_mk1 (shut_bool Try.underlying4 _), trodAll_mk3 (shut_int Try.underlying22 k00) (shut_int Try.underlying22 k10) (shut_vec k20 k21), rfl, hb.frame _, fun h => by cases h⟩
theorem mortonAll_holds : Rows.MortonAllSaid :=
  OpenClaim.holds_of_wide 3 Try.f3 rfl rfl rfl rfl rfl rfl rfl ⟨rfl, rfl, rfl, rfl, rfl⟩ rfl rfl rfl rfl rfl kr Try.func3 kr
    (of_decide_eq_true kr) (by unfold Func.isWrapper; first | (rw [if_pos (by decide +kernel)]; kernel_rfl) | (rw [if_neg (by decide +kernel)]; exact ⟨rfl, rfl⟩))
    (fun os started H enc _ => mortonAll_lifted os started H enc)
end Go.Proofs.Ytgiiddioinhfiaa
