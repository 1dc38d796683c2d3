/- PairNone, as a walk. -/
import Derived.Test.YtmmlekgojblopaaPairLaw
import Derived.Test.YtmmlekgojblopaaZzLimA
import Derived.Test.YtmmlekgojblopaaPairDoc
namespace Go.Proofs.Ytmmlekgojblopaa
open Go.RowKit
/-- A box that an operation may have made, and another may have filled. -/
def Lb (T : TypeId) (l : Bool) (t : Value) (m : Bool) (cs zs : List Value) (s : Nat) (w : World) : Prop := l = true → ∃ b : Nat, t = .pointer (some ⟨b, 0, none⟩) ∧ s ≤ b ∧ Bx T w b (if m = true then cs else zs)
section
variable {T : TypeId} {l m : Bool} {t u : Value} {cs zs : List Value} {s : Nat} {w w' : World}
theorem Lb.step (h : Lb T l t m cs zs s w) (g : Below w.heap.size w w') : Lb T l t m cs zs s w' := fun e => by
  obtain ⟨b, e1, e2, e3⟩ := h e
  exact ⟨b, e1, e2, e3.below g⟩
theorem Lb.alloc (h : Lb T l t m cs zs s w) (o : Obj) : Lb T l t m cs zs s (w.alloc o) := h.step (bl_al (Below.refl _ _) o)
theorem Lb.far (h : Lb T l t m cs zs s w) {B : Nat} (n : l = true → t ≠ .pointer (some ⟨B, 0, none⟩)) (j : Nat) (v : Value) : Lb T l t m cs zs s (w.setCell ⟨B, j, none⟩ v) := fun e => by
  obtain ⟨b, e1, e2, e3⟩ := h e
  exact ⟨b, e1, e2, e3.far (fun q => n e (by rw [e1, q])) v⟩
theorem Lb.laid (h : s ≤ w.heap.size) : Lb T true (.pointer (some ⟨w.heap.size, 0, none⟩)) false cs zs s (w.alloc (.cells zs.toArray T)) := fun _ => ⟨_, rfl, h, by simpa using Bx.new w T zs.toArray⟩
theorem Lb.new (h : Lb T l t m cs zs s w) : l = true → t ≠ .pointer (some ⟨w.heap.size, 0, none⟩) := fun e => by
  obtain ⟨b, e1, _, e3⟩ := h e
  have := e3.lt
  rw [e1]; intro k
  simp at k <;> omega
theorem not_yet (h : m = true → l = true) (k : l = false) : m = false := by cases m <;> simp_all
/-- Two blocks are not one. -/
def Ap (l m : Bool) (t u : Value) : Prop := l = true → m = true → t ≠ u
end
set_option maxRecDepth 20000 in
set_option maxHeartbeats 8000000 in
theorem pairNone_core (a b d wh oh ol xh xl yh yl dh dl mh ml ph pl qh ql th tl : Int) (ha : 0 ≤ a ∧ a < 65536) (hb : 0 ≤ b ∧ b < 65536) (hd : 0 ≤ d ∧ d < 65536) (hw : 0 ≤ wh ∧ wh < 256) (hs : (wh % 4 = 0 ∧ ph = 0 ∧ pl = 0 ∧ qh = yh ∧ ql = yl ∧ mh = oh ∧ ml = ol ∧ th = oh ∧ tl = ol) ∨ (wh % 4 = 1 ∧ ph = xh ∧ pl = xl ∧ qh = 0 ∧ ql = 0 ∧ mh = oh ∧ ml = ol ∧ th = oh ∧ tl = ol) ∨ (wh % 4 = 2 ∧ ph = xh ∧ pl = xl ∧ qh = yh ∧ ql = yl ∧ mh = 0 ∧ ml = 0 ∧ th = oh ∧ tl = ol) ∨ (wh % 4 = 3 ∧ ph = xh ∧ pl = xl ∧ qh = yh ∧ ql = yl ∧ mh = oh ∧ ml = ol ∧ th = 0 ∧ tl = 0)) (w : World)
    (C1 : Ct 16 #[.int .i64 1] (.agg #[.int .i64 oh, .int .u64 ol]))
    (C2 : Ct 16 #[.int .i64 a] (.agg #[.int .i64 xh, .int .u64 xl]))
    (C3 : Ct 16 #[.int .i64 b] (.agg #[.int .i64 yh, .int .u64 yl]))
    (C4 : Ct 16 #[.int .i64 (1 + d)] (.agg #[.int .i64 dh, .int .u64 dl]))
    (C5 : Ct 11 #[.agg #[.int .i64 mh, .int .u64 ml], .agg #[.int .i64 ph, .int .u64 pl], .agg #[.int .i64 qh, .int .u64 ql], .agg #[.int .i64 dh, .int .u64 dl, .int .i64 0, .int .u64 0], .agg #[.int .i64 oh, .int .u64 ol], .agg #[.int .i64 th, .int .u64 tl]] (.tuple #[.agg #[.int .i64 0, .int .u64 0, .int .i64 0, .int .u64 0], .int .i64 0]))
    (C6 : Ct 11 #[.agg #[.int .i64 oh, .int .u64 ol], .agg #[.int .i64 xh, .int .u64 xl], .agg #[.int .i64 yh, .int .u64 yl], .agg #[.int .i64 0, .int .u64 0, .int .i64 0, .int .u64 0], .agg #[.int .i64 oh, .int .u64 ol], .agg #[.int .i64 oh, .int .u64 ol]] (.tuple #[.agg #[.int .i64 0, .int .u64 0, .int .i64 0, .int .u64 0], .int .i64 0]))
    (C7 : Ct 13 #[.int .i64 0] (.int .i64 0))
    (C8 : Ct 10 #[] (.bool true)) :
    Calls Try.prog 6 #[.int .u16 a, .int .u16 b, .int .u16 d, .int .u8 wh] w fun e w' => e = .returned (.bool true) ∧ Below w.heap.size w w' := by
  have K1 := Lib.hid C1; have K2 := Lib.hid C2; have K3 := Lib.hid C3; have K4 := Lib.hid C4; have K5 := Lib.hid C5; have K6 := Lib.hid C6; have K7 := Lib.hid C7; have K8 := Lib.hid C8
  clear C1 C2 C3 C4 C5 C6 C7 C8
  go_enter Try.func6, Try.ntmps6
  have w1 : IntKind.i64.wrap a = a := by rw [IntWalk.i64_in _ (by omega)]
  have w2 : IntKind.i64.wrap b = b := by rw [IntWalk.i64_in _ (by omega)]
  have w3 : IntKind.i64.wrap d = d := by rw [IntWalk.i64_in _ (by omega)]
  have w4 : IntKind.i64.wrap (1 + d) = 1 + d := by rw [IntWalk.i64_in _ (by omega)]
  have qj := eq_vec_same 0 0 0 0
  have HS := Lib.hid hs
  clear hs
  go_upto_region 2 with (first | (go_at_call 16; (with_reducible refine (K1.out _).mono ?_); rintro e u1 ⟨rfl, hb⟩) | fail)
  refine nw _ fun y1 hy => ?_
  have OB : Hid (Bx 24 y1 u1.heap.size [.int .i64 oh, .int .u64 ol]) := by rw [hy]; exact Bx.new _ _ _
  have Zy1 : Hid (Below w.heap.size w y1) := by rw [hy]; exact bl_al hb _
  clear hy hb   K1
  generalize u1.heap.size = NOB at *
  have zN : NOB < y1.heap.size := OB.out.lt
  have o0 := OB.out.cell (j := 0) rfl; have o1 := OB.out.cell (j := 1) rfl
  have qo0 := stays o0 (World.block_lt_of_cell? _ _ o0); have qo1 := stays o1 (World.block_lt_of_cell? _ _ o1)
  have Q0 := Lib.hid qo0; have Q1 := Lib.hid qo1
  clear o0 o1 qo0 qo1
  go_cut [10, 11, 12, 13] (fun s0 s1 s2 s3 wz => ∃ g0 g1 g2 g3 : Nat, s0 = .pointer (some ⟨g0, 0, none⟩) ∧ s1 = .pointer (some ⟨g1, 0, none⟩) ∧ s2 = .pointer (some ⟨g2, 0, none⟩) ∧ s3 = .pointer (some ⟨g3, 0, none⟩) ∧ g1 ≠ g0 ∧ g2 ≠ g0 ∧ g2 ≠ g1 ∧ g3 ≠ g0 ∧ g3 ≠ g1 ∧ g3 ≠ g2 ∧ y1.heap.size ≤ g0 ∧ y1.heap.size ≤ g1 ∧ y1.heap.size ≤ g2 ∧ y1.heap.size ≤ g3 ∧ Bx 24 wz g0 [.int .i64 xh, .int .u64 xl] ∧ Bx 24 wz g1 [.int .i64 yh, .int .u64 yl] ∧ Bx 24 wz g2 [.int .i64 oh, .int .u64 ol] ∧ Bx 24 wz g3 [.int .i64 oh, .int .u64 ol] ∧ Below y1.heap.size y1 wz)
  case first =>
    clear HS
    refine wp_region_inv_at (fun aa l a' w' => ∃ (l0 l1 l2 l3 l4 l5 l6 l7 l8 l9 l10 l11 l12 l13 l14 l15 : Bool) (t19 t20 t21 t22 t23 t24 t25 t26 t10 t11 t12 t13 : Value), l = #[l0, l1, l2, l3, l4, l5, l6, l7, l8, l9, l10, l11, l12, l13, l14, l15] ∧ a' = ((((((((((((aa).put (some 19) t19).put (some 20) t20).put (some 21) t21).put (some 22) t22).put (some 23) t23).put (some 24) t24).put (some 25) t25).put (some 26) t26).put (some 10) t10).put (some 11) t11).put (some 12) t12).put (some 13) t13 ∧ (l0 = true → t19 = .int .u16 a) ∧ (l1 = true → t20 = .int .i64 a) ∧ (l2 = true → t21 = .agg #[.int .i64 xh, .int .u64 xl]) ∧ (l3 = true → t22 = .int .u16 b) ∧ (l4 = true → t23 = .int .i64 b) ∧ (l5 = true → t24 = .agg #[.int .i64 yh, .int .u64 yl]) ∧ (l6 = true → t25 = .agg #[.int .i64 oh, .int .u64 ol]) ∧ (l7 = true → t26 = .agg #[.int .i64 oh, .int .u64 ol]) ∧ Lb 24 l8 t10 l12 [.int .i64 xh, .int .u64 xl] [.int .i64 0, .int .u64 0] y1.heap.size w' ∧ Lb 24 l9 t11 l13 [.int .i64 yh, .int .u64 yl] [.int .i64 0, .int .u64 0] y1.heap.size w' ∧ Lb 24 l10 t12 l14 [.int .i64 oh, .int .u64 ol] [.int .i64 0, .int .u64 0] y1.heap.size w' ∧ Lb 24 l11 t13 l15 [.int .i64 oh, .int .u64 ol] [.int .i64 0, .int .u64 0] y1.heap.size w' ∧ Ap l9 l8 t11 t10 ∧ Ap l10 l8 t12 t10 ∧ Ap l10 l9 t12 t11 ∧ Ap l11 l8 t13 t10 ∧ Ap l11 l9 t13 t11 ∧ Ap l11 l10 t13 t12 ∧ (l12 = true → l8 = true) ∧ (l13 = true → l9 = true) ∧ (l14 = true → l10 = true) ∧ (l15 = true → l11 = true) ∧ Below y1.heap.size y1 w') (by kernel_rfl) ?_ ?_ ?_
    · exact ⟨false, false, false, false, false, false, false, false, false, false, false, false, false, false, false, false, undef, undef, undef, undef, undef, undef, undef, undef, undef, undef, undef, undef, rfl, by simp only [Act.put, List.setIfInBounds_toArray, List.set_cons_zero, List.set_cons_succ], (fun h => by cases h), (fun h => by cases h), (fun h => by cases h), (fun h => by cases h), (fun h => by cases h), (fun h => by cases h), (fun h => by cases h), (fun h => by cases h), (fun h => by cases h), (fun h => by cases h), (fun h => by cases h), (fun h => by cases h), (fun h => by cases h), (fun h => by cases h), (fun h => by cases h), (fun h => by cases h), (fun h => by cases h), (fun h => by cases h), (fun h => by cases h), (fun h => by cases h), (fun h => by cases h), (fun h => by cases h), (Below.refl _ _).drew⟩
    · rintro l a' w' i ⟨l0, l1, l2, l3, l4, l5, l6, l7, l8, l9, l10, l11, l12, l13, l14, l15, t19, t20, t21, t22, t23, t24, t25, t26, t10, t11, t12, t13, rfl, rfl, c0, c1, c2, c3, c4, c5, c6, c7, d8, d9, d10, d11, n9_8, n10_8, n10_9, n11_8, n11_9, n11_10, f12, f13, f14, f15, hbl⟩ hi
      have hoff := ready_off hi
      have HBL := Lib.hid hbl
      have o0 := Q0.out w' hbl; have o1 := Q1.out w' hbl
      clear hbl
      have hin : i < 16 := by
        rcases Nat.lt_or_ge i 16 with h | h
        · exact h
        · rw [Array.getD_eq_getD_getElem?, Array.getElem?_eq_none (by simpa using h)] at hoff; cases hoff
      simp only [Act.put, List.setIfInBounds_toArray, List.set_cons_zero, List.set_cons_succ]
      rcases (show i = 0 ∨ i = 1 ∨ i = 2 ∨ i = 3 ∨ i = 4 ∨ i = 5 ∨ i = 6 ∨ i = 7 ∨ i = 8 ∨ i = 9 ∨ i = 10 ∨ i = 11 ∨ i = 12 ∨ i = 13 ∨ i = 14 ∨ i = 15 by omega) with rfl | rfl | rfl | rfl | rfl | rfl | rfl | rfl | rfl | rfl | rfl | rfl | rfl | rfl | rfl | rfl
      · have o0 : l0 = false := hoff
        clear hoff hin
        refine inv_step (i := 0) (o := _) (by simp only [List.getElem?_toArray, List.getElem?_cons_zero]; rfl) (fun K hK => ?_)
        go_simp
        exact hK.out _ _ ⟨true, l1, l2, l3, l4, l5, l6, l7, l8, l9, l10, l11, l12, l13, l14, l15, .int .u16 a, t20, t21, t22, t23, t24, t25, t26, t10, t11, t12, t13, rfl, by first | rfl | simp only [Act.put, List.setIfInBounds_toArray, List.set_cons_zero, List.set_cons_succ], (fun _ => rfl), c1, c2, c3, c4, c5, c6, c7, d8, d9, d10, d11, n9_8, n10_8, n10_9, n11_8, n11_9, n11_10, f12, f13, f14, f15, HBL.out⟩
      · have o1 : l1 = false := hoff
        have h0 : l0 = true := ready_dep (j := 0) hi (by kernel_rfl)
        clear hoff hin
        have e0 := c0 h0
        subst e0
        refine inv_step (i := 1) (o := _) (by simp only [List.getElem?_toArray, List.getElem?_cons_succ, List.getElem?_cons_zero]; rfl) (fun K hK => ?_)
        go_simp
        exact hK.out _ _ ⟨l0, true, l2, l3, l4, l5, l6, l7, l8, l9, l10, l11, l12, l13, l14, l15, .int .u16 a, .int .i64 a, t21, t22, t23, t24, t25, t26, t10, t11, t12, t13, rfl, by first | rfl | simp only [Act.put, List.setIfInBounds_toArray, List.set_cons_zero, List.set_cons_succ], (fun _ => rfl), (fun _ => rfl), c2, c3, c4, c5, c6, c7, d8, d9, d10, d11, n9_8, n10_8, n10_9, n11_8, n11_9, n11_10, f12, f13, f14, f15, HBL.out⟩
      · have o2 : l2 = false := hoff
        have h1 : l1 = true := ready_dep (j := 1) hi (by kernel_rfl)
        clear hoff hin
        have e1 := c1 h1
        subst e1
        refine inv_step (i := 2) (o := _) (by simp only [List.getElem?_toArray, List.getElem?_cons_succ, List.getElem?_cons_zero]; rfl) (fun K hK => ?_)
        go_simp
        (with_reducible refine (K2.out _).mono ?_)
        rintro e w2 ⟨rfl, hb⟩
        try go_wp2_with fail
        exact hK.out _ _ ⟨l0, l1, true, l3, l4, l5, l6, l7, l8, l9, l10, l11, l12, l13, l14, l15, t19, .int .i64 a, .agg #[.int .i64 xh, .int .u64 xl], t22, t23, t24, t25, t26, t10, t11, t12, t13, rfl, by first | rfl | simp only [Act.put, List.setIfInBounds_toArray, List.set_cons_zero, List.set_cons_succ], c0, (fun _ => rfl), (fun _ => rfl), c3, c4, c5, c6, c7, (d8.step hb), (d9.step hb), (d10.step hb), (d11.step hb), n9_8, n10_8, n10_9, n11_8, n11_9, n11_10, f12, f13, f14, f15, (bl_trans HBL.out hb)⟩
      · have o3 : l3 = false := hoff
        clear hoff hin
        refine inv_step (i := 3) (o := _) (by simp only [List.getElem?_toArray, List.getElem?_cons_succ, List.getElem?_cons_zero]; rfl) (fun K hK => ?_)
        go_simp
        exact hK.out _ _ ⟨l0, l1, l2, true, l4, l5, l6, l7, l8, l9, l10, l11, l12, l13, l14, l15, t19, t20, t21, .int .u16 b, t23, t24, t25, t26, t10, t11, t12, t13, rfl, by first | rfl | simp only [Act.put, List.setIfInBounds_toArray, List.set_cons_zero, List.set_cons_succ], c0, c1, c2, (fun _ => rfl), c4, c5, c6, c7, d8, d9, d10, d11, n9_8, n10_8, n10_9, n11_8, n11_9, n11_10, f12, f13, f14, f15, HBL.out⟩
      · have o4 : l4 = false := hoff
        have h3 : l3 = true := ready_dep (j := 3) hi (by kernel_rfl)
        clear hoff hin
        have e3 := c3 h3
        subst e3
        refine inv_step (i := 4) (o := _) (by simp only [List.getElem?_toArray, List.getElem?_cons_succ, List.getElem?_cons_zero]; rfl) (fun K hK => ?_)
        go_simp
        exact hK.out _ _ ⟨l0, l1, l2, l3, true, l5, l6, l7, l8, l9, l10, l11, l12, l13, l14, l15, t19, t20, t21, .int .u16 b, .int .i64 b, t24, t25, t26, t10, t11, t12, t13, rfl, by first | rfl | simp only [Act.put, List.setIfInBounds_toArray, List.set_cons_zero, List.set_cons_succ], c0, c1, c2, (fun _ => rfl), (fun _ => rfl), c5, c6, c7, d8, d9, d10, d11, n9_8, n10_8, n10_9, n11_8, n11_9, n11_10, f12, f13, f14, f15, HBL.out⟩
      · have o5 : l5 = false := hoff
        have h4 : l4 = true := ready_dep (j := 4) hi (by kernel_rfl)
        clear hoff hin
        have e4 := c4 h4
        subst e4
        refine inv_step (i := 5) (o := _) (by simp only [List.getElem?_toArray, List.getElem?_cons_succ, List.getElem?_cons_zero]; rfl) (fun K hK => ?_)
        go_simp
        (with_reducible refine (K3.out _).mono ?_)
        rintro e w2 ⟨rfl, hb⟩
        try go_wp2_with fail
        exact hK.out _ _ ⟨l0, l1, l2, l3, l4, true, l6, l7, l8, l9, l10, l11, l12, l13, l14, l15, t19, t20, t21, t22, .int .i64 b, .agg #[.int .i64 yh, .int .u64 yl], t25, t26, t10, t11, t12, t13, rfl, by first | rfl | simp only [Act.put, List.setIfInBounds_toArray, List.set_cons_zero, List.set_cons_succ], c0, c1, c2, c3, (fun _ => rfl), (fun _ => rfl), c6, c7, (d8.step hb), (d9.step hb), (d10.step hb), (d11.step hb), n9_8, n10_8, n10_9, n11_8, n11_9, n11_10, f12, f13, f14, f15, (bl_trans HBL.out hb)⟩
      · have o6 : l6 = false := hoff
        clear hoff hin
        refine inv_step (i := 6) (o := _) (by simp only [List.getElem?_toArray, List.getElem?_cons_succ, List.getElem?_cons_zero]; rfl) (fun K hK => ?_)
        go_simp
        exact hK.out _ _ ⟨l0, l1, l2, l3, l4, l5, true, l7, l8, l9, l10, l11, l12, l13, l14, l15, t19, t20, t21, t22, t23, t24, .agg #[.int .i64 oh, .int .u64 ol], t26, t10, t11, t12, t13, rfl, by first | rfl | simp only [Act.put, List.setIfInBounds_toArray, List.set_cons_zero, List.set_cons_succ], c0, c1, c2, c3, c4, c5, (fun _ => rfl), c7, d8, d9, d10, d11, n9_8, n10_8, n10_9, n11_8, n11_9, n11_10, f12, f13, f14, f15, HBL.out⟩
      · have o7 : l7 = false := hoff
        clear hoff hin
        refine inv_step (i := 7) (o := _) (by simp only [List.getElem?_toArray, List.getElem?_cons_succ, List.getElem?_cons_zero]; rfl) (fun K hK => ?_)
        go_simp
        exact hK.out _ _ ⟨l0, l1, l2, l3, l4, l5, l6, true, l8, l9, l10, l11, l12, l13, l14, l15, t19, t20, t21, t22, t23, t24, t25, .agg #[.int .i64 oh, .int .u64 ol], t10, t11, t12, t13, rfl, by first | rfl | simp only [Act.put, List.setIfInBounds_toArray, List.set_cons_zero, List.set_cons_succ], c0, c1, c2, c3, c4, c5, c6, (fun _ => rfl), d8, d9, d10, d11, n9_8, n10_8, n10_9, n11_8, n11_9, n11_10, f12, f13, f14, f15, HBL.out⟩
      · have o8 : l8 = false := hoff
        have fl12 : l12 = false := not_yet (f12) o8
        clear hoff hin
        refine inv_step (i := 8) (o := _) (by simp only [List.getElem?_toArray, List.getElem?_cons_succ, List.getElem?_cons_zero]; rfl) (fun K hK => ?_)
        go_simp
        exact hK.out _ _ ⟨l0, l1, l2, l3, l4, l5, l6, l7, true, l9, l10, l11, l12, l13, l14, l15, t19, t20, t21, t22, t23, t24, t25, t26, .pointer (some ⟨w'.heap.size, 0, none⟩), t11, t12, t13, rfl, by first | rfl | simp only [Act.put, List.setIfInBounds_toArray, List.set_cons_zero, List.set_cons_succ], c0, c1, c2, c3, c4, c5, c6, c7, (fl12 ▸ Lb.laid (zs := [.int .i64 0, .int .u64 0]) HBL.out.size), (d9.alloc _), (d10.alloc _), (d11.alloc _), (fun q _ => d9.new q), (fun q _ => d10.new q), n10_9, (fun q _ => d11.new q), n11_9, n11_10, (fun _ => rfl), f13, f14, f15, (bl_al HBL.out _)⟩
      · have o9 : l9 = false := hoff
        have fl13 : l13 = false := not_yet (f13) o9
        clear hoff hin
        refine inv_step (i := 9) (o := _) (by simp only [List.getElem?_toArray, List.getElem?_cons_succ, List.getElem?_cons_zero]; rfl) (fun K hK => ?_)
        go_simp
        exact hK.out _ _ ⟨l0, l1, l2, l3, l4, l5, l6, l7, l8, true, l10, l11, l12, l13, l14, l15, t19, t20, t21, t22, t23, t24, t25, t26, t10, .pointer (some ⟨w'.heap.size, 0, none⟩), t12, t13, rfl, by first | rfl | simp only [Act.put, List.setIfInBounds_toArray, List.set_cons_zero, List.set_cons_succ], c0, c1, c2, c3, c4, c5, c6, c7, (d8.alloc _), (fl13 ▸ Lb.laid (zs := [.int .i64 0, .int .u64 0]) HBL.out.size), (d10.alloc _), (d11.alloc _), (fun _ q => Ne.symm (d8.new q)), n10_8, (fun q _ => d10.new q), n11_8, (fun q _ => d11.new q), n11_10, f12, (fun _ => rfl), f14, f15, (bl_al HBL.out _)⟩
      · have o10 : l10 = false := hoff
        have fl14 : l14 = false := not_yet (f14) o10
        clear hoff hin
        refine inv_step (i := 10) (o := _) (by simp only [List.getElem?_toArray, List.getElem?_cons_succ, List.getElem?_cons_zero]; rfl) (fun K hK => ?_)
        go_simp
        exact hK.out _ _ ⟨l0, l1, l2, l3, l4, l5, l6, l7, l8, l9, true, l11, l12, l13, l14, l15, t19, t20, t21, t22, t23, t24, t25, t26, t10, t11, .pointer (some ⟨w'.heap.size, 0, none⟩), t13, rfl, by first | rfl | simp only [Act.put, List.setIfInBounds_toArray, List.set_cons_zero, List.set_cons_succ], c0, c1, c2, c3, c4, c5, c6, c7, (d8.alloc _), (d9.alloc _), (fl14 ▸ Lb.laid (zs := [.int .i64 0, .int .u64 0]) HBL.out.size), (d11.alloc _), n9_8, (fun _ q => Ne.symm (d8.new q)), (fun _ q => Ne.symm (d9.new q)), n11_8, n11_9, (fun q _ => d11.new q), f12, f13, (fun _ => rfl), f15, (bl_al HBL.out _)⟩
      · have o11 : l11 = false := hoff
        have fl15 : l15 = false := not_yet (f15) o11
        clear hoff hin
        refine inv_step (i := 11) (o := _) (by simp only [List.getElem?_toArray, List.getElem?_cons_succ, List.getElem?_cons_zero]; rfl) (fun K hK => ?_)
        go_simp
        exact hK.out _ _ ⟨l0, l1, l2, l3, l4, l5, l6, l7, l8, l9, l10, true, l12, l13, l14, l15, t19, t20, t21, t22, t23, t24, t25, t26, t10, t11, t12, .pointer (some ⟨w'.heap.size, 0, none⟩), rfl, by first | rfl | simp only [Act.put, List.setIfInBounds_toArray, List.set_cons_zero, List.set_cons_succ], c0, c1, c2, c3, c4, c5, c6, c7, (d8.alloc _), (d9.alloc _), (d10.alloc _), (fl15 ▸ Lb.laid (zs := [.int .i64 0, .int .u64 0]) HBL.out.size), n9_8, n10_8, n10_9, (fun _ q => Ne.symm (d8.new q)), (fun _ q => Ne.symm (d9.new q)), (fun _ q => Ne.symm (d10.new q)), f12, f13, f14, (fun _ => rfl), (bl_al HBL.out _)⟩
      · have o12 : l12 = false := hoff
        have h2 : l2 = true := ready_dep (j := 2) hi (by kernel_rfl)
        have h8 : l8 = true := ready_dep (j := 8) hi (by kernel_rfl)
        clear hoff hin
        have e2 := c2 h2
        subst e2
        obtain ⟨B, eB, hB1, hB2⟩ := d8 h8
        subst eB
        rw [o12] at hB2
        have BB : Hid (Bx 24 w' B [.int .i64 0, .int .u64 0]) := hB2
        have zB := BB.out.lt; have fB := BB.out.frz
        have z0 := BB.out.cell (j := 0) rfl; have z1 := BB.out.cell (j := 1) rfl
        clear hB2
        refine inv_step (i := 12) (o := _) (by simp only [List.getElem?_toArray, List.getElem?_cons_succ, List.getElem?_cons_zero]; rfl) (fun K hK => ?_)
        go_simp
        exact hK.out _ _ ⟨l0, l1, l2, l3, l4, l5, l6, l7, l8, l9, l10, l11, true, l13, l14, l15, t19, t20, .agg #[.int .i64 xh, .int .u64 xl], t22, t23, t24, t25, t26, .pointer (some ⟨B, 0, none⟩), t11, t12, t13, rfl, by first | rfl | simp only [Act.put, List.setIfInBounds_toArray, List.set_cons_zero, List.set_cons_succ], c0, c1, (fun _ => rfl), c3, c4, c5, c6, c7, (fun _ => ⟨B, rfl, hB1, ((BB.out).put 0 _).put 1 _⟩), (((d9).far (fun q => n9_8 q h8) 0 _).far (fun q => n9_8 q h8) 1 _), (((d10).far (fun q => n10_8 q h8) 0 _).far (fun q => n10_8 q h8) 1 _), (((d11).far (fun q => n11_8 q h8) 0 _).far (fun q => n11_8 q h8) 1 _), n9_8, n10_8, n10_9, n11_8, n11_9, n11_10, (fun _ => h8), f13, f14, f15, ((HBL.out).setCell hB1 _).setCell hB1 _⟩
      · have o13 : l13 = false := hoff
        have h5 : l5 = true := ready_dep (j := 5) hi (by kernel_rfl)
        have h9 : l9 = true := ready_dep (j := 9) hi (by kernel_rfl)
        clear hoff hin
        have e5 := c5 h5
        subst e5
        obtain ⟨B, eB, hB1, hB2⟩ := d9 h9
        subst eB
        rw [o13] at hB2
        have BB : Hid (Bx 24 w' B [.int .i64 0, .int .u64 0]) := hB2
        have zB := BB.out.lt; have fB := BB.out.frz
        have z0 := BB.out.cell (j := 0) rfl; have z1 := BB.out.cell (j := 1) rfl
        clear hB2
        refine inv_step (i := 13) (o := _) (by simp only [List.getElem?_toArray, List.getElem?_cons_succ, List.getElem?_cons_zero]; rfl) (fun K hK => ?_)
        go_simp
        exact hK.out _ _ ⟨l0, l1, l2, l3, l4, l5, l6, l7, l8, l9, l10, l11, l12, true, l14, l15, t19, t20, t21, t22, t23, .agg #[.int .i64 yh, .int .u64 yl], t25, t26, t10, .pointer (some ⟨B, 0, none⟩), t12, t13, rfl, by first | rfl | simp only [Act.put, List.setIfInBounds_toArray, List.set_cons_zero, List.set_cons_succ], c0, c1, c2, c3, c4, (fun _ => rfl), c6, c7, (((d8).far (fun q => Ne.symm (n9_8 h9 q)) 0 _).far (fun q => Ne.symm (n9_8 h9 q)) 1 _), (fun _ => ⟨B, rfl, hB1, ((BB.out).put 0 _).put 1 _⟩), (((d10).far (fun q => n10_9 q h9) 0 _).far (fun q => n10_9 q h9) 1 _), (((d11).far (fun q => n11_9 q h9) 0 _).far (fun q => n11_9 q h9) 1 _), n9_8, n10_8, n10_9, n11_8, n11_9, n11_10, f12, (fun _ => h9), f14, f15, ((HBL.out).setCell hB1 _).setCell hB1 _⟩
      · have o14 : l14 = false := hoff
        have h6 : l6 = true := ready_dep (j := 6) hi (by kernel_rfl)
        have h10 : l10 = true := ready_dep (j := 10) hi (by kernel_rfl)
        clear hoff hin
        have e6 := c6 h6
        subst e6
        obtain ⟨B, eB, hB1, hB2⟩ := d10 h10
        subst eB
        rw [o14] at hB2
        have BB : Hid (Bx 24 w' B [.int .i64 0, .int .u64 0]) := hB2
        have zB := BB.out.lt; have fB := BB.out.frz
        have z0 := BB.out.cell (j := 0) rfl; have z1 := BB.out.cell (j := 1) rfl
        clear hB2
        refine inv_step (i := 14) (o := _) (by simp only [List.getElem?_toArray, List.getElem?_cons_succ, List.getElem?_cons_zero]; rfl) (fun K hK => ?_)
        go_simp
        exact hK.out _ _ ⟨l0, l1, l2, l3, l4, l5, l6, l7, l8, l9, l10, l11, l12, l13, true, l15, t19, t20, t21, t22, t23, t24, .agg #[.int .i64 oh, .int .u64 ol], t26, t10, t11, .pointer (some ⟨B, 0, none⟩), t13, rfl, by first | rfl | simp only [Act.put, List.setIfInBounds_toArray, List.set_cons_zero, List.set_cons_succ], c0, c1, c2, c3, c4, c5, (fun _ => rfl), c7, (((d8).far (fun q => Ne.symm (n10_8 h10 q)) 0 _).far (fun q => Ne.symm (n10_8 h10 q)) 1 _), (((d9).far (fun q => Ne.symm (n10_9 h10 q)) 0 _).far (fun q => Ne.symm (n10_9 h10 q)) 1 _), (fun _ => ⟨B, rfl, hB1, ((BB.out).put 0 _).put 1 _⟩), (((d11).far (fun q => n11_10 q h10) 0 _).far (fun q => n11_10 q h10) 1 _), n9_8, n10_8, n10_9, n11_8, n11_9, n11_10, f12, f13, (fun _ => h10), f15, ((HBL.out).setCell hB1 _).setCell hB1 _⟩
      · have o15 : l15 = false := hoff
        have h7 : l7 = true := ready_dep (j := 7) hi (by kernel_rfl)
        have h11 : l11 = true := ready_dep (j := 11) hi (by kernel_rfl)
        clear hoff hin
        have e7 := c7 h7
        subst e7
        obtain ⟨B, eB, hB1, hB2⟩ := d11 h11
        subst eB
        rw [o15] at hB2
        have BB : Hid (Bx 24 w' B [.int .i64 0, .int .u64 0]) := hB2
        have zB := BB.out.lt; have fB := BB.out.frz
        have z0 := BB.out.cell (j := 0) rfl; have z1 := BB.out.cell (j := 1) rfl
        clear hB2
        refine inv_step (i := 15) (o := _) (by simp only [List.getElem?_toArray, List.getElem?_cons_succ, List.getElem?_cons_zero]; rfl) (fun K hK => ?_)
        go_simp
        exact hK.out _ _ ⟨l0, l1, l2, l3, l4, l5, l6, l7, l8, l9, l10, l11, l12, l13, l14, true, t19, t20, t21, t22, t23, t24, t25, .agg #[.int .i64 oh, .int .u64 ol], t10, t11, t12, .pointer (some ⟨B, 0, none⟩), rfl, by first | rfl | simp only [Act.put, List.setIfInBounds_toArray, List.set_cons_zero, List.set_cons_succ], c0, c1, c2, c3, c4, c5, c6, (fun _ => rfl), (((d8).far (fun q => Ne.symm (n11_8 h11 q)) 0 _).far (fun q => Ne.symm (n11_8 h11 q)) 1 _), (((d9).far (fun q => Ne.symm (n11_9 h11 q)) 0 _).far (fun q => Ne.symm (n11_9 h11 q)) 1 _), (((d10).far (fun q => Ne.symm (n11_10 h11 q)) 0 _).far (fun q => Ne.symm (n11_10 h11 q)) 1 _), (fun _ => ⟨B, rfl, hB1, ((BB.out).put 0 _).put 1 _⟩), n9_8, n10_8, n10_9, n11_8, n11_9, n11_10, f12, f13, f14, (fun _ => h11), ((HBL.out).setCell hB1 _).setCell hB1 _⟩
    · rintro l a' w' ⟨l0, l1, l2, l3, l4, l5, l6, l7, l8, l9, l10, l11, l12, l13, l14, l15, t19, t20, t21, t22, t23, t24, t25, t26, t10, t11, t12, t13, rfl, rfl, c0, c1, c2, c3, c4, c5, c6, c7, d8, d9, d10, d11, n9_8, n10_8, n10_9, n11_8, n11_9, n11_10, f12, f13, f14, f15, hbl⟩ hr
      have g0 : l0 = true := none_left hr (i := 0) (o := _) (by simp only [List.getElem?_toArray, List.getElem?_cons_zero]; rfl) (by intro e he q; first | (simp at he; done) | (simp at he; subst he; exact absurd q (by decide)))
      have g1 : l1 = true := none_left hr (i := 1) (o := _) (by simp only [List.getElem?_toArray, List.getElem?_cons_succ, List.getElem?_cons_zero]; rfl) (by intro e he q; simp at he; rcases he with rfl <;> first | (cases q; done) | exact g0)
      have g2 : l2 = true := none_left hr (i := 2) (o := _) (by simp only [List.getElem?_toArray, List.getElem?_cons_succ, List.getElem?_cons_zero]; rfl) (by intro e he q; simp at he; rcases he with rfl <;> first | (cases q; done) | exact g1)
      have g3 : l3 = true := none_left hr (i := 3) (o := _) (by simp only [List.getElem?_toArray, List.getElem?_cons_succ, List.getElem?_cons_zero]; rfl) (by intro e he q; first | (simp at he; done) | (simp at he; subst he; exact absurd q (by decide)))
      have g4 : l4 = true := none_left hr (i := 4) (o := _) (by simp only [List.getElem?_toArray, List.getElem?_cons_succ, List.getElem?_cons_zero]; rfl) (by intro e he q; simp at he; rcases he with rfl <;> first | (cases q; done) | exact g3)
      have g5 : l5 = true := none_left hr (i := 5) (o := _) (by simp only [List.getElem?_toArray, List.getElem?_cons_succ, List.getElem?_cons_zero]; rfl) (by intro e he q; simp at he; rcases he with rfl | rfl <;> first | (cases q; done) | exact g2 | exact g4)
      have g6 : l6 = true := none_left hr (i := 6) (o := _) (by simp only [List.getElem?_toArray, List.getElem?_cons_succ, List.getElem?_cons_zero]; rfl) (by intro e he q; first | (simp at he; done) | (simp at he; subst he; exact absurd q (by decide)))
      have g7 : l7 = true := none_left hr (i := 7) (o := _) (by simp only [List.getElem?_toArray, List.getElem?_cons_succ, List.getElem?_cons_zero]; rfl) (by intro e he q; first | (simp at he; done) | (simp at he; subst he; exact absurd q (by decide)))
      have g8 : l8 = true := none_left hr (i := 8) (o := _) (by simp only [List.getElem?_toArray, List.getElem?_cons_succ, List.getElem?_cons_zero]; rfl) (by intro e he q; first | (simp at he; done) | (simp at he; subst he; exact absurd q (by decide)))
      have g9 : l9 = true := none_left hr (i := 9) (o := _) (by simp only [List.getElem?_toArray, List.getElem?_cons_succ, List.getElem?_cons_zero]; rfl) (by intro e he q; first | (simp at he; done) | (simp at he; subst he; exact absurd q (by decide)))
      have g10 : l10 = true := none_left hr (i := 10) (o := _) (by simp only [List.getElem?_toArray, List.getElem?_cons_succ, List.getElem?_cons_zero]; rfl) (by intro e he q; first | (simp at he; done) | (simp at he; subst he; exact absurd q (by decide)))
      have g11 : l11 = true := none_left hr (i := 11) (o := _) (by simp only [List.getElem?_toArray, List.getElem?_cons_succ, List.getElem?_cons_zero]; rfl) (by intro e he q; first | (simp at he; done) | (simp at he; subst he; exact absurd q (by decide)))
      have g12 : l12 = true := none_left hr (i := 12) (o := _) (by simp only [List.getElem?_toArray, List.getElem?_cons_succ, List.getElem?_cons_zero]; rfl) (by intro e he q; simp at he; rcases he with rfl | rfl | rfl | rfl | rfl | rfl | rfl | rfl | rfl | rfl | rfl | rfl | rfl | rfl | rfl <;> first | (cases q; done) | exact g0 | exact g1 | exact g2 | exact g3 | exact g4 | exact g5 | exact g6 | exact g7 | exact g8 | exact g9 | exact g10 | exact g11)
      have g13 : l13 = true := none_left hr (i := 13) (o := _) (by simp only [List.getElem?_toArray, List.getElem?_cons_succ, List.getElem?_cons_zero]; rfl) (by intro e he q; simp at he; rcases he with rfl | rfl | rfl | rfl | rfl | rfl | rfl | rfl | rfl | rfl | rfl | rfl | rfl | rfl | rfl | rfl <;> first | (cases q; done) | exact g0 | exact g1 | exact g2 | exact g3 | exact g4 | exact g5 | exact g6 | exact g7 | exact g8 | exact g9 | exact g10 | exact g11 | exact g12)
      have g14 : l14 = true := none_left hr (i := 14) (o := _) (by simp only [List.getElem?_toArray, List.getElem?_cons_succ, List.getElem?_cons_zero]; rfl) (by intro e he q; simp at he; rcases he with rfl | rfl | rfl | rfl | rfl | rfl | rfl | rfl | rfl | rfl | rfl | rfl | rfl | rfl | rfl | rfl | rfl <;> first | (cases q; done) | exact g0 | exact g1 | exact g2 | exact g3 | exact g4 | exact g5 | exact g6 | exact g7 | exact g8 | exact g9 | exact g10 | exact g11 | exact g12 | exact g13)
      have g15 : l15 = true := none_left hr (i := 15) (o := _) (by simp only [List.getElem?_toArray, List.getElem?_cons_succ, List.getElem?_cons_zero]; rfl) (by intro e he q; simp at he; rcases he with rfl | rfl | rfl | rfl | rfl | rfl | rfl | rfl | rfl | rfl | rfl | rfl | rfl | rfl | rfl | rfl | rfl | rfl <;> first | (cases q; done) | exact g0 | exact g1 | exact g2 | exact g3 | exact g4 | exact g5 | exact g6 | exact g7 | exact g8 | exact g9 | exact g10 | exact g11 | exact g12 | exact g13 | exact g14)
      obtain ⟨b8, v8, x8, y8⟩ := d8 g8
      rw [if_pos g12] at y8
      subst v8
      obtain ⟨b9, v9, x9, y9⟩ := d9 g9
      rw [if_pos g13] at y9
      subst v9
      obtain ⟨b10, v10, x10, y10⟩ := d10 g10
      rw [if_pos g14] at y10
      subst v10
      obtain ⟨b11, v11, x11, y11⟩ := d11 g11
      rw [if_pos g15] at y11
      subst v11
      have m9_8 := n9_8 g9 g8
      have m10_8 := n10_8 g10 g8
      have m10_9 := n10_9 g10 g9
      have m11_8 := n11_8 g11 g8
      have m11_9 := n11_9 g11 g9
      have m11_10 := n11_10 g11 g10
      have u0 := c0 g0; subst u0
      have u1 := c1 g1; subst u1
      have u2 := c2 g2; subst u2
      have u3 := c3 g3; subst u3
      have u4 := c4 g4; subst u4
      have u5 := c5 g5; subst u5
      have u6 := c6 g6; subst u6
      have u7 := c7 g7; subst u7
      simp only [Act.put, List.setIfInBounds_toArray, List.set_cons_zero, List.set_cons_succ]
      go_wp2_with fail
      go_meet
      exact ⟨b8, b9, b10, b11, rfl, rfl, rfl, rfl, fun h => m9_8 (by rw [h]), fun h => m10_8 (by rw [h]), fun h => m10_9 (by rw [h]), fun h => m11_8 (by rw [h]), fun h => m11_9 (by rw [h]), fun h => m11_10 (by rw [h]), x8, x9, x10, x11, y8, y9, y10, y11, hbl⟩
  case rest =>
  obtain ⟨g0, g1, g2, g3, rfl, rfl, rfl, rfl, n10, n20, n21, n30, n31, n32, z0, z1, z2, z3, b0, b1, b2, b3, hbl⟩ := hcut
  obtain ⟨y2, hy⟩ : ∃ x : World, x = wc := ⟨wc, rfl⟩
  rw [← hy] at b0 b1 b2 b3 hbl ⊢
  clear hy
  have B0 := Lib.hid b0; have B1 := Lib.hid b1; have B2 := Lib.hid b2; have B3 := Lib.hid b3
  have HB2 := Lib.hid hbl
  have OB2 := Lib.hid (OB.out.below hbl)
  clear OB hbl b0 b1 b2 b3 Q0 Q1
  apply_assumption
  refine wp_seq_k fun KK hKK => ?_
  go_cut [28] (fun _ wz => Bx 24 wz g0 [.int .i64 ph, .int .u64 pl] ∧ Bx 24 wz g1 [.int .i64 qh, .int .u64 ql] ∧ Bx 24 wz g2 [.int .i64 mh, .int .u64 ml] ∧ Bx 24 wz g3 [.int .i64 th, .int .u64 tl] ∧ Bx 24 wz NOB [.int .i64 oh, .int .u64 ol] ∧ Below y1.heap.size y1 wz)
  case first =>
    have bz0 := B0.out.lt; have bz1 := B1.out.lt; have bz2 := B2.out.lt; have bz3 := B3.out.lt; have bf0 := B0.out.frz; have bf1 := B1.out.frz; have bf2 := B2.out.frz; have bf3 := B3.out.frz
    obtain ⟨e00, e01⟩ := B0.out.c2; obtain ⟨e10, e11⟩ := B1.out.c2; obtain ⟨e20, e21⟩ := B2.out.c2; obtain ⟨e30, e31⟩ := B3.out.c2
    rcases HS.out with ⟨hq, rfl, rfl, rfl, rfl, rfl, rfl, rfl, rfl⟩ | ⟨hq, rfl, rfl, rfl, rfl, rfl, rfl, rfl, rfl⟩ | ⟨hq, rfl, rfl, rfl, rfl, rfl, rfl, rfl, rfl⟩ | ⟨hq, rfl, rfl, rfl, rfl, rfl, rfl, rfl, rfl⟩
    · go_wp2_with fail
      go_meet
      exact ⟨((B0.out).putE 0 _ rfl).putE 1 _ rfl, ((B1.out).far (by simp; omega) _).far (by simp; omega) _, ((B2.out).far (by simp; omega) _).far (by simp; omega) _, ((B3.out).far (by simp; omega) _).far (by simp; omega) _, ((OB2.out).far (by simp; omega) _).far (by simp; omega) _, (HB2.out.setCell (by simp; omega) _).setCell (by simp; omega) _⟩
    · go_wp2_with fail
      go_meet
      exact ⟨((B0.out).far (by simp; omega) _).far (by simp; omega) _, ((B1.out).putE 0 _ rfl).putE 1 _ rfl, ((B2.out).far (by simp; omega) _).far (by simp; omega) _, ((B3.out).far (by simp; omega) _).far (by simp; omega) _, ((OB2.out).far (by simp; omega) _).far (by simp; omega) _, (HB2.out.setCell (by simp; omega) _).setCell (by simp; omega) _⟩
    · go_wp2_with fail
      go_meet
      exact ⟨((B0.out).far (by simp; omega) _).far (by simp; omega) _, ((B1.out).far (by simp; omega) _).far (by simp; omega) _, ((B2.out).putE 0 _ rfl).putE 1 _ rfl, ((B3.out).far (by simp; omega) _).far (by simp; omega) _, ((OB2.out).far (by simp; omega) _).far (by simp; omega) _, (HB2.out.setCell (by simp; omega) _).setCell (by simp; omega) _⟩
    · go_wp2_with fail
      go_meet
      exact ⟨((B0.out).far (by simp; omega) _).far (by simp; omega) _, ((B1.out).far (by simp; omega) _).far (by simp; omega) _, ((B2.out).far (by simp; omega) _).far (by simp; omega) _, ((B3.out).putE 0 _ rfl).putE 1 _ rfl, ((OB2.out).far (by simp; omega) _).far (by simp; omega) _, (HB2.out.setCell (by simp; omega) _).setCell (by simp; omega) _⟩
  case rest =>
  obtain ⟨b0, b1, b2, b3, bo, hbl⟩ := hcut
  obtain ⟨y3, hy⟩ : ∃ x : World, x = wc := ⟨wc, rfl⟩
  rw [← hy] at b0 b1 b2 b3 bo hbl ⊢
  clear hy OB2 B0 B1 B2 B3 HB2
  have Zy3 := Lib.hid hbl
  obtain ⟨x00, x01⟩ := b0.c2; obtain ⟨x10, x11⟩ := b1.c2; obtain ⟨x20, x21⟩ := b2.c2; obtain ⟨x30, x31⟩ := b3.c2
  obtain ⟨o0, o1⟩ := bo.c2
  clear b0 b1 b2 b3 bo hbl zN z0 z1 z2 z3 n10 n20 n21 n30 n31 n32
  go_upto_region 11 with fail
  have qo0 := stays o0 (World.block_lt_of_cell? _ _ o0); have qo1 := stays o1 (World.block_lt_of_cell? _ _ o1); have qx00 := stays x00 (World.block_lt_of_cell? _ _ x00); have qx01 := stays x01 (World.block_lt_of_cell? _ _ x01); have qx10 := stays x10 (World.block_lt_of_cell? _ _ x10); have qx11 := stays x11 (World.block_lt_of_cell? _ _ x11); have qx20 := stays x20 (World.block_lt_of_cell? _ _ x20); have qx21 := stays x21 (World.block_lt_of_cell? _ _ x21); have qx30 := stays x30 (World.block_lt_of_cell? _ _ x30); have qx31 := stays x31 (World.block_lt_of_cell? _ _ x31)
  clear o0 o1 x00 x01 x10 x11 x20 x21 x30 x31
  go_cut [14, 15] (fun s0 s1 wz => (∃ g, s0 = .pointer (some ⟨g, 0, none⟩) ∧ Bx 26 wz g [.int .i64 0, .int .u64 0, .int .i64 0, .int .u64 0]) ∧ s1 = .int .i64 0 ∧ Below y3.heap.size y3 wz)
  case first =>
    go_region_held3 (fun w' => Below y3.heap.size y3 w') (exact bs) (first
      | (go_at_call 16; (with_reducible refine (K4.out _).mono ?_); rintro e v0 ⟨rfl, hb0⟩; obtain ⟨hc0, hf0⟩ := bcell hb0; have s0 : y3.heap.size ≤ v0.heap.size := (by have q := hb0.size; (try simp at q); omega); (try have z0 : y3.heap.size < v0.heap.size := by have q := hb0.size; (try simp at q); omega))
      | (go_at_call 11; (with_reducible refine (K5.out _).mono ?_); rintro e v1 ⟨rfl, hb1⟩; obtain ⟨hc1, hf1⟩ := bcell hb1; have s1 : y3.heap.size ≤ v1.heap.size := (by have q := hb1.size; (try simp at q); omega); (try have z1 : y3.heap.size < v1.heap.size := by have q := hb1.size; (try simp at q); omega); (try have z1_0 : v0.heap.size < v1.heap.size := by have q := hb1.size; (try simp at q); omega)))
    all_goals (rename_i hHeld; have HH := Lib.hid hHeld; clear hHeld; go_wp2_with fail; go_meet; first
      | (refine ⟨⟨v1.heap.size, rfl, ?_⟩, rfl, HH.out⟩; exact Bx.new _ _ _)
      | (refine ⟨⟨v0.heap.size, rfl, ?_⟩, rfl, HH.out⟩; exact ((((bx_put hb1).put 0 _).put 1 _).put 2 _).put 3 _)
      | (refine ⟨⟨y3.heap.size, rfl, ?_⟩, rfl, HH.out⟩; exact (((((bx_putd hb0).below hb1).put 0 _).put 1 _).put 2 _).put 3 _)
      | (refine ⟨⟨y3.heap.size, rfl, ?_⟩, rfl, HH.out⟩; exact (((((bx_put hb0).below hb1).put 0 _).put 1 _).put 2 _).put 3 _))
  case rest =>
  obtain ⟨⟨NJB, rfl, bx⟩, rfl, hb⟩ := hcut
  obtain ⟨y4, hy⟩ : ∃ x : World, x = wc := ⟨wc, rfl⟩
  rw [← hy] at bx hb ⊢
  clear hy
  have JB := Lib.hid bx; have Zy4 := Lib.hid hb
  have o0 := qo0 y4 hb; have o1 := qo1 y4 hb; have x00 := qx00 y4 hb; have x01 := qx01 y4 hb; have x10 := qx10 y4 hb; have x11 := qx11 y4 hb; have x20 := qx20 y4 hb; have x21 := qx21 y4 hb; have x30 := qx30 y4 hb; have x31 := qx31 y4 hb
  clear bx hb qo0 qo1 qx00 qx01 qx10 qx11 qx20 qx21 qx30 qx31  K4 K5
  go_upto_region 12 with fail
  clear x00 x01 x10 x11 x20 x21 x30 x31
  have qo0 := stays o0 (World.block_lt_of_cell? _ _ o0); have qo1 := stays o1 (World.block_lt_of_cell? _ _ o1)
  clear o0 o1
  go_cut [16, 17] (fun s0 s1 wz => (∃ g, s0 = .pointer (some ⟨g, 0, none⟩) ∧ Bx 26 wz g [.int .i64 0, .int .u64 0, .int .i64 0, .int .u64 0]) ∧ s1 = .int .i64 0 ∧ Below y4.heap.size y4 wz)
  case first =>
    clear JB
    go_region_held3 (fun w' => Below y4.heap.size y4 w') (exact bs) (first
      | (go_at_call 16; (with_reducible refine (K2.out _).mono ?_); rintro e v0 ⟨rfl, hb0⟩; obtain ⟨hc0, hf0⟩ := bcell hb0; have s0 : y4.heap.size ≤ v0.heap.size := (by have q := hb0.size; (try simp at q); omega); (try have z0 : y4.heap.size < v0.heap.size := by have q := hb0.size; (try simp at q); omega))
      | (go_at_call 16; (with_reducible refine (K3.out _).mono ?_); rintro e v1 ⟨rfl, hb1⟩; obtain ⟨hc1, hf1⟩ := bcell hb1; have s1 : y4.heap.size ≤ v1.heap.size := (by have q := hb1.size; (try simp at q); omega); (try have z1 : y4.heap.size < v1.heap.size := by have q := hb1.size; (try simp at q); omega); (try have z1_0 : v0.heap.size < v1.heap.size := by have q := hb1.size; (try simp at q); omega))
      | (go_at_call 11; (with_reducible refine (K6.out _).mono ?_); rintro e v2 ⟨rfl, hb2⟩; obtain ⟨hc2, hf2⟩ := bcell hb2; have s2 : y4.heap.size ≤ v2.heap.size := (by have q := hb2.size; (try simp at q); omega); (try have z2 : y4.heap.size < v2.heap.size := by have q := hb2.size; (try simp at q); omega); (try have z2_0 : v0.heap.size < v2.heap.size := by have q := hb2.size; (try simp at q); omega); (try have z2_1 : v1.heap.size < v2.heap.size := by have q := hb2.size; (try simp at q); omega)))
    all_goals (rename_i hHeld; have HH := Lib.hid hHeld; clear hHeld; go_wp2_with fail; go_meet; first
      | (refine ⟨⟨v2.heap.size, rfl, ?_⟩, rfl, HH.out⟩; exact Bx.new _ _ _)
      | (refine ⟨⟨v1.heap.size, rfl, ?_⟩, rfl, HH.out⟩; exact ((((bx_put hb2).put 0 _).put 1 _).put 2 _).put 3 _)
      | (refine ⟨⟨v0.heap.size, rfl, ?_⟩, rfl, HH.out⟩; exact (((((bx_put hb1).below hb2).put 0 _).put 1 _).put 2 _).put 3 _)
      | (refine ⟨⟨y4.heap.size, rfl, ?_⟩, rfl, HH.out⟩; exact ((((((bx_putd hb0).below hb1).below hb2).put 0 _).put 1 _).put 2 _).put 3 _)
      | (refine ⟨⟨y4.heap.size, rfl, ?_⟩, rfl, HH.out⟩; exact ((((((bx_put hb0).below hb1).below hb2).put 0 _).put 1 _).put 2 _).put 3 _))
  case rest =>
  obtain ⟨⟨NKB, rfl, bx⟩, rfl, hb⟩ := hcut
  obtain ⟨y5, hy⟩ : ∃ x : World, x = wc := ⟨wc, rfl⟩
  rw [← hy] at bx hb ⊢
  clear hy
  have KB := Lib.hid bx; have Zy5 := Lib.hid hb
  have o0 := qo0 y5 hb; have o1 := qo1 y5 hb
  have JB' := Lib.hid (JB.out.below hb)
  clear bx hb qo0 qo1 JB K2 K3 K6
  have JB := JB'; clear JB'
  go_upto_region 13 with fail
  clear o0 o1
  have HF := Lib.hid (bl_trans (bl_trans (bl_trans Zy1.out Zy3.out) Zy4.out) Zy5.out)
  clear Zy1 Zy3 Zy4 Zy5
  have j0 := stays (JB.out.cell (j := 0) rfl) JB.out.lt; have k0 := stays (KB.out.cell (j := 0) rfl) KB.out.lt; have j1 := stays (JB.out.cell (j := 1) rfl) JB.out.lt; have k1 := stays (KB.out.cell (j := 1) rfl) KB.out.lt; have j2 := stays (JB.out.cell (j := 2) rfl) JB.out.lt; have k2 := stays (KB.out.cell (j := 2) rfl) KB.out.lt; have j3 := stays (JB.out.cell (j := 3) rfl) JB.out.lt; have k3 := stays (KB.out.cell (j := 3) rfl) KB.out.lt
  clear JB KB
  have W0 := Below.refl y5.heap.size y5
  go_wp2_with (first
    | (go_at_call 13; (with_reducible refine (K7.out _).mono ?_); rintro e wc ⟨rfl, hbc⟩; have W1 := bl_trans W0 hbc; clear W0 hbc; have W0 := W1; clear W1)
    | (go_at_call 10; (with_reducible refine (K8.out _).mono ?_); rintro e wc ⟨rfl, hbc⟩; have W1 := bl_trans W0 hbc; clear W0 hbc; have W0 := W1; clear W1)
    | fail)
  go_returns
  exact ⟨rfl, bl_trans HF.out W0⟩
end Go.Proofs.Ytmmlekgojblopaa
