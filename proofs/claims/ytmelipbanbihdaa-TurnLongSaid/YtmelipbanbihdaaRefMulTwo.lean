/- The document's product of two wide numbers. -/
import Derived.Test.YtmelipbanbihdaaRefTwo
namespace Go.Proofs.Ytmelipbanbihdaa
open Go.RowKit

theorem plus_mid_any (a3 a2 a1 a0 b1 b0 : Int) (h3 : Wd a3) (h2 : Wd a2) (h1 : Wd a1) (h0 : Wd a0) (k1 : Wd b1) (k0 : Wd b0) (w : World) :
    Calls Try.prog 58 #[.agg #[.int .u64 a3, .int .u64 a2, .int .u64 a1, .int .u64 a0], .agg #[.int .u64 b1, .int .u64 b0], .bool true] w fun e w' =>
      e = .returned (.agg #[.int .u64 (wd (v4 a3 a2 a1 a0 + v2 b1 b0 * 18446744073709551616) 3), .int .u64 (wd (v4 a3 a2 a1 a0 + v2 b1 b0 * 18446744073709551616) 2), .int .u64 (wd (v4 a3 a2 a1 a0 + v2 b1 b0 * 18446744073709551616) 1), .int .u64 (wd (v4 a3 a2 a1 a0 + v2 b1 b0 * 18446744073709551616) 0)]) ∧ Below w.heap.size w w' := by
  have z : Wd 0 := ⟨by omega, by omega⟩
  have hx : v4 a3 a2 a1 a0 = v2 a3 a2 * 340282366920938463463374607431768211456 + v2 a1 a0 := rfl
  have hb : v2 b1 b0 * 18446744073709551616 = b1.toNat * 340282366920938463463374607431768211456 + v2 b0 0 := by
    unfold v2
    rw [show (0 : Int).toNat = 0 from rfl, Nat.add_zero, Nat.add_mul, Nat.mul_assoc, show (18446744073709551616 * 18446744073709551616 : Nat) = 340282366920938463463374607431768211456 by decide]
  have hl := v2_lt h1 h0; have hu := v2_lt h3 h2; have hc := v2_lt k0 z
  have hk : b1.toNat < 18446744073709551616 := by obtain ⟨_, _⟩ := k1; omega
  have hm : v2 0 b1 = b1.toNat := by unfold v2; rw [show (0 : Int).toNat = 0 from rfl, Nat.zero_mul, Nat.zero_add]
  have C1 := addTwo_any a1 a0 b0 0 h1 h0 k0 z
  have e0 : wd (v4 a3 a2 a1 a0 + v2 b1 b0 * 18446744073709551616) 0 = wd (v2 a1 a0 + v2 b0 0) 0 := by rw [hx, hb, wd0, wd0]; omega
  have e1 : wd (v4 a3 a2 a1 a0 + v2 b1 b0 * 18446744073709551616) 1 = wd (v2 a1 a0 + v2 b0 0) 1 := by rw [hx, hb, wd1, wd1]; omega
  by_cases c : 340282366920938463463374607431768211456 ≤ v2 a1 a0 + v2 b0 0
  · rw [decide_eq_true c] at C1
    have C2 := addTwo_any 0 b1 0 1 z k1 z ⟨by omega, by omega⟩
    rw [hm, show v2 0 1 = 1 from rfl] at C2
    have C3 := addTwo_any a3 a2 (wd (b1.toNat + 1) 1) (wd (b1.toNat + 1) 0) h3 h2 (wd_wd _ _) (wd_wd _ _)
    rw [v2_wd, Nat.mod_eq_of_lt (show b1.toNat + 1 < 340282366920938463463374607431768211456 by omega)] at C3
    have e2 : wd (v4 a3 a2 a1 a0 + v2 b1 b0 * 18446744073709551616) 2 = wd (v2 a3 a2 + (b1.toNat + 1)) 0 := by rw [hx, hb, wd2, wd0]; omega
    have e3 : wd (v4 a3 a2 a1 a0 + v2 b1 b0 * 18446744073709551616) 3 = wd (v2 a3 a2 + (b1.toNat + 1)) 1 := by rw [hx, hb, wd3, wd1]; omega
    rw [e0, e1, e2, e3]
    exact plus_mid_true _ _ _ _ _ _ _ _ _ _ _ _ _ _ w C1 C2 C3
  · rw [decide_eq_false c] at C1
    have C2 := addTwo_any a3 a2 0 b1 h3 h2 z k1
    rw [hm] at C2
    have e2 : wd (v4 a3 a2 a1 a0 + v2 b1 b0 * 18446744073709551616) 2 = wd (v2 a3 a2 + b1.toNat) 0 := by rw [hx, hb, wd2, wd0]; omega
    have e3 : wd (v4 a3 a2 a1 a0 + v2 b1 b0 * 18446744073709551616) 3 = wd (v2 a3 a2 + b1.toNat) 1 := by rw [hx, hb, wd3, wd1]; omega
    rw [e0, e1, e2, e3]
    exact plus_mid_false _ _ _ _ _ _ _ _ _ _ _ w C1 C2
theorem frozen_past {W : World} {B j : Nat} (h : W.heap.size ≤ B) : W.frozen? ⟨B, j, none⟩ = false := by simp [World.frozen?, Array.getElem?_eq_none h]
/-- What stands between the steps: both numbers, room for the answer, what has come so far. -/
structure Mt (w : World) (O : Nat) (a1 a0 b1 b0 o3 o2 o1 o0 : Int) (X : World) : Prop where
  a : Has w.heap.size [.int .u64 a1, .int .u64 a0] X
  b : Has (w.heap.size + 1) [.int .u64 b1, .int .u64 b0] X
  r : Has (w.heap.size + 1 + 1) [.int .u64 0, .int .u64 0, .int .u64 0, .int .u64 0] X
  o : Has O [.int .u64 o3, .int .u64 o2, .int .u64 o1, .int .u64 o0] X
  zr : Clear (w.heap.size + 1 + 1) X
  zo : Clear O X
  below : Below w.heap.size w X
theorem Mt.stored {w : World} {O : Nat} {a1 a0 b1 b0 o3 o2 o1 o0 : Int} {R y : World} (h : Mt w O a1 a0 b1 b0 o3 o2 o1 o0 R) (g : Below R.heap.size R y) (n : w.heap.size + 1 + 1 < O) (m3 m2 m1 m0 : Int) :
    Mt w O a1 a0 b1 b0 m3 m2 m1 m0 ((((y.setCell ⟨O, 0, none⟩ (.int .u64 m3)).setCell ⟨O, 1, none⟩ (.int .u64 m2)).setCell ⟨O, 2, none⟩ (.int .u64 m1)).setCell ⟨O, 3, none⟩ (.int .u64 m0)) := by
  have hW : Wrote O 0 4 y ((((y.setCell ⟨O, 0, none⟩ (.int .u64 m3)).setCell ⟨O, 1, none⟩ (.int .u64 m2)).setCell ⟨O, 2, none⟩ (.int .u64 m1)).setCell ⟨O, 3, none⟩ (.int .u64 m0)) :=
    Wrote.setCell (Wrote.setCell (Wrote.setCell (Wrote.setCell (Wrote.refl _ _ _ _) (by decide) (by decide) _) (by decide) (by decide) _) (by decide) (by decide) _) (by decide) (by decide) _
  have hs := g.size
  have ha := h.a.step g; have hb := h.b.step g; have hr := h.r.step g; have ho := h.o.step g
  have co0 := ho.2 0 _ rfl; have co1 := ho.2 1 _ rfl; have co2 := ho.2 2 _ rfl; have co3 := ho.2 3 _ rfl
  refine ⟨⟨Nat.lt_of_lt_of_le ha.1 hW.size, fun j x e => ?_⟩, ⟨Nat.lt_of_lt_of_le hb.1 hW.size, fun j x e => ?_⟩, ⟨Nat.lt_of_lt_of_le hr.1 hW.size, fun j x e => ?_⟩,
    Has.mk4 (Nat.lt_of_lt_of_le ho.1 hW.size) (by simp [go_sem, *]) (by simp [go_sem, *]) (by simp [go_sem, *]) (by simp [go_sem, *]), fun j => ?_, fun j => ?_, ?_⟩
  · rw [hW.other ha.1 (by omega)]; exact ha.2 j x e
  · rw [hW.other hb.1 (by omega)]; exact hb.2 j x e
  · rw [hW.other hr.1 (by omega)]; exact hr.2 j x e
  · rw [World.frozen?_of_block (a := ⟨w.heap.size + 1 + 1, j, none⟩) (hW.block (w.heap.size + 1 + 1) hr.1 (by omega)), (bcell g).2 _ _ h.r.1]; exact h.zr j
  · rw [hW.frozen, (bcell g).2 _ _ h.o.1]; exact h.zo j
  · exact (bl_trans h.below g).trans (hW.below (B0 := w.heap.size) (by omega) (by have := ha.1; omega))
set_option maxRecDepth 20000 in
set_option maxHeartbeats 4000000 in
theorem mulTwo_core (a1 a0 b1 b0 p1 p0 q1 q0 m3 m2 m1 m0 r1 r0 n3 n2 n1 n0 s1 s0 o3 o2 o1 o0 : Int) (w : World)
    (C1 : ∀ W, Calls Try.prog 57 #[.int .u64 a0, .int .u64 b0] W fun e w' => e = .returned (.agg #[.int .u64 p1, .int .u64 p0]) ∧ Below W.heap.size W w')
    (C2 : ∀ W, Calls Try.prog 57 #[.int .u64 a1, .int .u64 b1] W fun e w' => e = .returned (.agg #[.int .u64 q1, .int .u64 q0]) ∧ Below W.heap.size W w')
    (C3 : ∀ W, Calls Try.prog 58 #[.agg #[.int .u64 0, .int .u64 0, .int .u64 p1, .int .u64 p0], .agg #[.int .u64 q1, .int .u64 q0], .bool false] W fun e w' => e = .returned (.agg #[.int .u64 m3, .int .u64 m2, .int .u64 m1, .int .u64 m0]) ∧ Below W.heap.size W w')
    (C4 : ∀ W, Calls Try.prog 57 #[.int .u64 a1, .int .u64 b0] W fun e w' => e = .returned (.agg #[.int .u64 r1, .int .u64 r0]) ∧ Below W.heap.size W w')
    (C5 : ∀ W, Calls Try.prog 58 #[.agg #[.int .u64 m3, .int .u64 m2, .int .u64 m1, .int .u64 m0], .agg #[.int .u64 r1, .int .u64 r0], .bool true] W fun e w' => e = .returned (.agg #[.int .u64 n3, .int .u64 n2, .int .u64 n1, .int .u64 n0]) ∧ Below W.heap.size W w')
    (C6 : ∀ W, Calls Try.prog 57 #[.int .u64 a0, .int .u64 b1] W fun e w' => e = .returned (.agg #[.int .u64 s1, .int .u64 s0]) ∧ Below W.heap.size W w')
    (C7 : ∀ W, Calls Try.prog 58 #[.agg #[.int .u64 n3, .int .u64 n2, .int .u64 n1, .int .u64 n0], .agg #[.int .u64 s1, .int .u64 s0], .bool true] W fun e w' => e = .returned (.agg #[.int .u64 o3, .int .u64 o2, .int .u64 o1, .int .u64 o0]) ∧ Below W.heap.size W w') :
    Calls Try.prog 40 #[.agg #[.int .u64 a1, .int .u64 a0], .agg #[.int .u64 b1, .int .u64 b0]] w fun e w' => e = .returned (.agg #[.int .u64 o3, .int .u64 o2, .int .u64 o1, .int .u64 o0]) ∧ Below w.heap.size w w' := by
  have K1 := Lib.hid C1; have K2 := Lib.hid C2; have K3 := Lib.hid C3; have K4 := Lib.hid C4; have K5 := Lib.hid C5; have K6 := Lib.hid C6; have K7 := Lib.hid C7
  clear C1 C2 C3 C4 C5 C6 C7
  go_enter Try.func40, Try.ntmps40
  go_wp2_with fail
  (with_reducible refine (K1.out _).mono ?_); rintro e w1 ⟨rfl, hb⟩
  obtain ⟨hcl, hfr⟩ := bcell hb
  have hz : w.heap.size + 1 + 1 < w1.heap.size := by have hz := hb.size; simp at hz; omega
  have hz1 : w.heap.size + 1 < w1.heap.size := by omega
  have hz0 : w.heap.size < w1.heap.size := by omega
  have HB : Hid (Below w.heap.size w w1) := bl_trans (by repeat (first | with_reducible exact Below.refl _ _ | with_reducible exact Hid.out (by assumption) | with_reducible refine Below.setCell ?_ (by first | (simp; done) | omega | (simp <;> omega)) _ | with_reducible refine bl_al ?_ _ | with_reducible apply Below.drew)) hb
  clear hb
  go_upto_region 2 with fail
  refine name_world (P := fun W => Code.wp _ _ _ _ W) _ (fun R hR => ?_)
  have M : Mt w w1.heap.size a1 a0 b1 b0 0 0 p1 p0 R := by
    rw [hR]
    refine ⟨Has.mk2 (by simp; omega) (by simp [go_sem, *]) (by simp [go_sem, *]), Has.mk2 (by simp; omega) (by simp [go_sem, *]) (by simp [go_sem, *]), Has.mk4 (by simp; omega) (by simp [go_sem, *]) (by simp [go_sem, *]) (by simp [go_sem, *]) (by simp [go_sem, *]), Has.mk4 (by simp) (by simp [go_sem, *]) (by simp [go_sem, *]) (by simp [go_sem, *]) (by simp [go_sem, *]), fun j => ?_, fun j => ?_, (by repeat (first | with_reducible exact Below.refl _ _ | with_reducible exact Hid.out (by assumption) | with_reducible refine Below.setCell ?_ (by first | (simp; done) | omega | (simp <;> omega)) _ | with_reducible refine bl_al ?_ _ | with_reducible apply Below.drew))⟩
    · simp only [frozen?_alloc_cells]; rw [hfr _ _ (by simp)]; simp only [frozen?_alloc_cells]; exact frozen_past (by omega)
    · simp only [frozen?_alloc_cells]; exact frozen_past (by omega)
  have hn1 : w.heap.size < w1.heap.size := hz0
  have hn2 : w.heap.size + 1 < w1.heap.size := hz1
  have hn3 : w.heap.size + 1 + 1 < w1.heap.size := hz
  clear hR hcl hfr hz hz1 hz0 HB K1
  generalize w1.heap.size = O at *
  have ne1 : ¬ w.heap.size = O := by omega
  have ne2 : ¬ w.heap.size + 1 = O := by omega
  have ne3 : ¬ w.heap.size + 1 + 1 = O := by omega
  have zA := M.a.1; have zB := M.b.1; have zR := M.r.1; have zO := M.o.1
  have ca1 := M.a.2 0 _ rfl; have ca0 := M.a.2 1 _ rfl; have cb1 := M.b.2 0 _ rfl; have cb0 := M.b.2 1 _ rfl
  have co3 := M.o.2 0 _ rfl; have co2 := M.o.2 1 _ rfl; have co1 := M.o.2 2 _ rfl; have co0 := M.o.2 3 _ rfl
  have cr3 := M.r.2 0 _ rfl; have cr2 := M.r.2 1 _ rfl; have cr1 := M.r.2 2 _ rfl; have cr0 := M.r.2 3 _ rfl
  have fo : ∀ j, R.frozen? ⟨O, j, none⟩ = false := M.zo
  have fr : ∀ j, R.frozen? ⟨w.heap.size + 1 + 1, j, none⟩ = false := M.zr
  have HM := Lib.hid M
  clear M
  go_cut [5] (fun s5 X => s5 = .pointer (some ⟨O, 0, none⟩) ∧ Mt w O a1 a0 b1 b0 m3 m2 m1 m0 X)
  case first =>
    go_region_with
      (first
        | (go_at_call 57; (with_reducible refine (K2.out _).mono ?_); rintro e x1 ⟨rfl, hb⟩; obtain ⟨hclx1, hfrx1⟩ := bcell_drew hb; have zAx1 : w.heap.size < x1.heap.size := (by have hz := hb.size; simp at hz; omega); have zBx1 : w.heap.size + 1 < x1.heap.size := (by have hz := hb.size; simp at hz; omega); have zRx1 : w.heap.size + 1 + 1 < x1.heap.size := (by have hz := hb.size; simp at hz; omega); have zOx1 : O < x1.heap.size := (by have hz := hb.size; simp at hz; omega); have HBx1 : Hid (Below R.heap.size R x1) := (bl_trans (by repeat (first | with_reducible exact Below.refl _ _ | with_reducible exact Hid.out (by assumption) | with_reducible refine Below.setCell ?_ (by first | (simp; done) | omega | (simp <;> omega)) _ | with_reducible refine bl_al ?_ _ | with_reducible apply Below.drew)) hb); clear hb)
        | (go_at_call 58; (with_reducible refine (K3.out _).mono ?_); rintro e y1 ⟨rfl, hb⟩; obtain ⟨hcly1, hfry1⟩ := bcell hb; have zAy1 : w.heap.size < y1.heap.size := (by have hz := hb.size; omega); have zBy1 : w.heap.size + 1 < y1.heap.size := (by have hz := hb.size; omega); have zRy1 : w.heap.size + 1 + 1 < y1.heap.size := (by have hz := hb.size; omega); have zOy1 : O < y1.heap.size := (by have hz := hb.size; omega); have HBy1 : Hid (Below R.heap.size R y1) := (bl_trans (by repeat (first | with_reducible exact Below.refl _ _ | with_reducible exact Hid.out (by assumption) | with_reducible refine Below.setCell ?_ (by first | (simp; done) | omega | (simp <;> omega)) _ | with_reducible refine bl_al ?_ _ | with_reducible apply Below.drew)) hb); clear hb))
    all_goals (go_wp2_with fail; go_meet; exact ⟨rfl, HM.out.stored HBy1.out hn3 _ _ _ _⟩)
  case rest =>
  obtain ⟨X1, hX1⟩ : ∃ X, X = wc := ⟨wc, rfl⟩
  subst hX1
  obtain ⟨rfl, M⟩ := hcut
  clear zA zB zR zO ca1 ca0 cb1 cb0 co3 co2 co1 co0 cr3 cr2 cr1 cr0 fo fr HM
  clear K2 K3
  go_upto_region 3 with fail
  have zA := M.a.1; have zB := M.b.1; have zR := M.r.1; have zO := M.o.1
  have ca1 := M.a.2 0 _ rfl; have ca0 := M.a.2 1 _ rfl; have cb1 := M.b.2 0 _ rfl; have cb0 := M.b.2 1 _ rfl
  have co3 := M.o.2 0 _ rfl; have co2 := M.o.2 1 _ rfl; have co1 := M.o.2 2 _ rfl; have co0 := M.o.2 3 _ rfl
  have cr3 := M.r.2 0 _ rfl; have cr2 := M.r.2 1 _ rfl; have cr1 := M.r.2 2 _ rfl; have cr0 := M.r.2 3 _ rfl
  have fo : ∀ j, X1.frozen? ⟨O, j, none⟩ = false := M.zo
  have fr : ∀ j, X1.frozen? ⟨w.heap.size + 1 + 1, j, none⟩ = false := M.zr
  have HM := Lib.hid M
  clear M
  go_cut [5] (fun s5 X => s5 = .pointer (some ⟨O, 0, none⟩) ∧ Mt w O a1 a0 b1 b0 n3 n2 n1 n0 X)
  case first =>
    go_region_with
      (first
        | (go_at_call 57; (with_reducible refine (K4.out _).mono ?_); rintro e x2 ⟨rfl, hb⟩; obtain ⟨hclx2, hfrx2⟩ := bcell_drew hb; have zAx2 : w.heap.size < x2.heap.size := (by have hz := hb.size; simp at hz; omega); have zBx2 : w.heap.size + 1 < x2.heap.size := (by have hz := hb.size; simp at hz; omega); have zRx2 : w.heap.size + 1 + 1 < x2.heap.size := (by have hz := hb.size; simp at hz; omega); have zOx2 : O < x2.heap.size := (by have hz := hb.size; simp at hz; omega); have HBx2 : Hid (Below X1.heap.size X1 x2) := (bl_trans (by repeat (first | with_reducible exact Below.refl _ _ | with_reducible exact Hid.out (by assumption) | with_reducible refine Below.setCell ?_ (by first | (simp; done) | omega | (simp <;> omega)) _ | with_reducible refine bl_al ?_ _ | with_reducible apply Below.drew)) hb); clear hb)
        | (go_at_call 58; (with_reducible refine (K5.out _).mono ?_); rintro e y2 ⟨rfl, hb⟩; obtain ⟨hcly2, hfry2⟩ := bcell hb; have zAy2 : w.heap.size < y2.heap.size := (by have hz := hb.size; omega); have zBy2 : w.heap.size + 1 < y2.heap.size := (by have hz := hb.size; omega); have zRy2 : w.heap.size + 1 + 1 < y2.heap.size := (by have hz := hb.size; omega); have zOy2 : O < y2.heap.size := (by have hz := hb.size; omega); have HBy2 : Hid (Below X1.heap.size X1 y2) := (bl_trans (by repeat (first | with_reducible exact Below.refl _ _ | with_reducible exact Hid.out (by assumption) | with_reducible refine Below.setCell ?_ (by first | (simp; done) | omega | (simp <;> omega)) _ | with_reducible refine bl_al ?_ _ | with_reducible apply Below.drew)) hb); clear hb))
    all_goals (go_wp2_with fail; go_meet; exact ⟨rfl, HM.out.stored HBy2.out hn3 _ _ _ _⟩)
  case rest =>
  obtain ⟨X2, hX2⟩ : ∃ X, X = wc := ⟨wc, rfl⟩
  subst hX2
  obtain ⟨rfl, M⟩ := hcut
  clear zA zB zR zO ca1 ca0 cb1 cb0 co3 co2 co1 co0 cr3 cr2 cr1 cr0 fo fr HM
  clear K4 K5
  go_upto_region 4 with fail
  have zA := M.a.1; have zB := M.b.1; have zR := M.r.1; have zO := M.o.1
  have ca1 := M.a.2 0 _ rfl; have ca0 := M.a.2 1 _ rfl; have cb1 := M.b.2 0 _ rfl; have cb0 := M.b.2 1 _ rfl
  have co3 := M.o.2 0 _ rfl; have co2 := M.o.2 1 _ rfl; have co1 := M.o.2 2 _ rfl; have co0 := M.o.2 3 _ rfl
  have cr3 := M.r.2 0 _ rfl; have cr2 := M.r.2 1 _ rfl; have cr1 := M.r.2 2 _ rfl; have cr0 := M.r.2 3 _ rfl
  have fo : ∀ j, X2.frozen? ⟨O, j, none⟩ = false := M.zo
  have fr : ∀ j, X2.frozen? ⟨w.heap.size + 1 + 1, j, none⟩ = false := M.zr
  have HM := Lib.hid M
  clear M
  go_region_with
    (first
      | (go_at_call 57; (with_reducible refine (K6.out _).mono ?_); rintro e x3 ⟨rfl, hb⟩; obtain ⟨hclx3, hfrx3⟩ := bcell_drew hb; have zAx3 : w.heap.size < x3.heap.size := (by have hz := hb.size; simp at hz; omega); have zBx3 : w.heap.size + 1 < x3.heap.size := (by have hz := hb.size; simp at hz; omega); have zRx3 : w.heap.size + 1 + 1 < x3.heap.size := (by have hz := hb.size; simp at hz; omega); have zOx3 : O < x3.heap.size := (by have hz := hb.size; simp at hz; omega); have HBx3 : Hid (Below X2.heap.size X2 x3) := (bl_trans (by repeat (first | with_reducible exact Below.refl _ _ | with_reducible exact Hid.out (by assumption) | with_reducible refine Below.setCell ?_ (by first | (simp; done) | omega | (simp <;> omega)) _ | with_reducible refine bl_al ?_ _ | with_reducible apply Below.drew)) hb); clear hb)
      | (go_at_call 58; (with_reducible refine (K7.out _).mono ?_); rintro e y3 ⟨rfl, hb⟩; obtain ⟨hcly3, hfry3⟩ := bcell hb; have zAy3 : w.heap.size < y3.heap.size := (by have hz := hb.size; omega); have zBy3 : w.heap.size + 1 < y3.heap.size := (by have hz := hb.size; omega); have zRy3 : w.heap.size + 1 + 1 < y3.heap.size := (by have hz := hb.size; omega); have zOy3 : O < y3.heap.size := (by have hz := hb.size; omega); have HBy3 : Hid (Below X2.heap.size X2 y3) := (bl_trans (by repeat (first | with_reducible exact Below.refl _ _ | with_reducible exact Hid.out (by assumption) | with_reducible refine Below.setCell ?_ (by first | (simp; done) | omega | (simp <;> omega)) _ | with_reducible refine bl_al ?_ _ | with_reducible apply Below.drew)) hb); clear hb))
  all_goals (
    go_wp2_with fail
    refine bodyPost_ret (by simp [results, Try.results40, go_sem, *]; try rfl) rfl ?_
    refine ⟨rfl, ?_⟩
    have hB := bl_trans HM.out.below HBy3.out
    exact Below.setCell (Below.setCell (Below.setCell (Below.setCell hB (by simp; omega) _) (by simp; omega) _) (by simp; omega) _) (by simp; omega) _)
theorem mulTwo_any (a1 a0 b1 b0 : Int) (ha1 : Wd a1) (ha0 : Wd a0) (hb1 : Wd b1) (hb0 : Wd b0) (w : World) :
    Calls Try.prog 40 #[.agg #[.int .u64 a1, .int .u64 a0], .agg #[.int .u64 b1, .int .u64 b0]] w fun e w' =>
      e = .returned (.agg #[.int .u64 (wd (v2 a1 a0 * v2 b1 b0) 3), .int .u64 (wd (v2 a1 a0 * v2 b1 b0) 2), .int .u64 (wd (v2 a1 a0 * v2 b1 b0) 1), .int .u64 (wd (v2 a1 a0 * v2 b1 b0) 0)]) ∧ Below w.heap.size w w' := by
  have z : Wd 0 := ⟨by omega, by omega⟩
  have hp : v2 a1 a0 * v2 b1 b0 = a0.toNat * b0.toNat + (a1.toNat * b1.toNat) * 340282366920938463463374607431768211456 + (a1.toNat * b0.toNat) * 18446744073709551616 + (a0.toNat * b1.toNat) * 18446744073709551616 := by
    unfold v2
    rw [Nat.add_mul, Nat.mul_add, Nat.mul_add, Nat.mul_right_comm a1.toNat 18446744073709551616 (b1.toNat * 18446744073709551616), ← Nat.mul_assoc a1.toNat b1.toNat, Nat.mul_assoc (a1.toNat * b1.toNat), show (18446744073709551616 * 18446744073709551616 : Nat) = 340282366920938463463374607431768211456 by decide, Nat.mul_right_comm a1.toNat 18446744073709551616 b0.toNat, ← Nat.mul_assoc a0.toNat b1.toNat]
    omega
  have hlt := mul_lt ha1 ha0 hb1 hb0
  have hw : ∀ x y : Int, Wd x → Wd y → x.toNat * y.toNat < 340282366920938463463374607431768211456 := fun x y hx hy => Nat.mul_lt_mul'' (c := 18446744073709551616) (d := 18446744073709551616) (by have := hx.2; omega) (by have := hy.2; omega)
  have w00 := hw _ _ ha0 hb0; have w11 := hw _ _ ha1 hb1; have w10 := hw _ _ ha1 hb0; have w01 := hw _ _ ha0 hb1
  have C1 := product_any a0 b0 ha0 hb0
  have C2 := product_any a1 b1 ha1 hb1
  have C4 := product_any a1 b0 ha1 hb0
  have C6 := product_any a0 b1 ha0 hb1
  rw [hp] at hlt ⊢
  generalize a0.toNat * b0.toNat = p at *
  generalize a1.toNat * b1.toNat = q at *
  generalize a1.toNat * b0.toNat = r at *
  generalize a0.toNat * b1.toNat = s at *
  have V2 : ∀ n : Nat, n < 340282366920938463463374607431768211456 → v2 (wd n 1) (wd n 0) = n := fun n hn => by rw [v2_wd, Nat.mod_eq_of_lt hn]
  have V4 : ∀ n : Nat, n < 115792089237316195423570985008687907853269984665640564039457584007913129639936 → v4 (wd n 3) (wd n 2) (wd n 1) (wd n 0) = n := fun n hn => by rw [v4_wd, Nat.mod_eq_of_lt hn]
  have C3 := plus_hi_any 0 0 (wd p 1) (wd p 0) (wd q 1) (wd q 0) z z (wd_wd _ _) (wd_wd _ _) (wd_wd _ _) (wd_wd _ _)
  rw [v4_low, V2 _ w00, V2 _ w11] at C3
  have C5 := plus_mid_any _ _ _ _ (wd r 1) (wd r 0) (wd_wd (p + q * 340282366920938463463374607431768211456) 3) (wd_wd (p + q * 340282366920938463463374607431768211456) 2) (wd_wd (p + q * 340282366920938463463374607431768211456) 1) (wd_wd (p + q * 340282366920938463463374607431768211456) 0) (wd_wd _ _) (wd_wd _ _)
  rw [V4 _ (by omega), V2 _ w10] at C5
  have C7 := plus_mid_any _ _ _ _ (wd s 1) (wd s 0) (wd_wd (p + q * 340282366920938463463374607431768211456 + r * 18446744073709551616) 3) (wd_wd (p + q * 340282366920938463463374607431768211456 + r * 18446744073709551616) 2) (wd_wd (p + q * 340282366920938463463374607431768211456 + r * 18446744073709551616) 1) (wd_wd (p + q * 340282366920938463463374607431768211456 + r * 18446744073709551616) 0) (wd_wd _ _) (wd_wd _ _)
  rw [V4 _ (by omega), V2 _ w01] at C7
  exact mulTwo_core _ _ _ _ _ _ _ _ _ _ _ _ _ _ _ _ _ _ _ _ _ _ _ _ w C1 C2 C3 C4 C5 C6 C7
end Go.Proofs.Ytmelipbanbihdaa
