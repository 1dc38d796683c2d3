/- The document's Shr. -/
import Derived.Test.YtmmlekgojblopaaZzRefA
import Derived.Test.YtmmlekgojblopaaZzLimC
import Derived.Test.YtmmlekgojblopaaZzLimA
import Derived.Deep.LoopGhost
import Derived.Test.YtmmlekgojblopaaZzLimB
namespace Go.Proofs.Ytmmlekgojblopaa
open Go.RowKit

theorem plus_mid_any (a3 a2 a1 a0 b1 b0 : Int) (h3 : Wd a3) (h2 : Wd a2) (h1 : Wd a1) (h0 : Wd a0) (k1 : Wd b1) (k0 : Wd b0) (w : World) :
    Calls Try.prog 77 #[.agg #[.int .u64 a3, .int .u64 a2, .int .u64 a1, .int .u64 a0], .agg #[.int .u64 b1, .int .u64 b0], .bool true] w fun e w' =>
      e = .returned (.agg #[.int .u64 (wd (v4 a3 a2 a1 a0 + v2 b1 b0 * 18446744073709551616) 3), .int .u64 (wd (v4 a3 a2 a1 a0 + v2 b1 b0 * 18446744073709551616) 2), .int .u64 (wd (v4 a3 a2 a1 a0 + v2 b1 b0 * 18446744073709551616) 1), .int .u64 (wd (v4 a3 a2 a1 a0 + v2 b1 b0 * 18446744073709551616) 0)]) ∧ Below w.heap.size w w' := by
  have z : Wd 0 := ⟨by omega, by omega⟩
  have hx : v4 a3 a2 a1 a0 = v2 a3 a2 * 340282366920938463463374607431768211456 + v2 a1 a0 := rfl
  have hb : v2 b1 b0 * 18446744073709551616 = b1.toNat * 340282366920938463463374607431768211456 + v2 b0 0 := by
    unfold v2
    rw [show (0 : Int).toNat = 0 from rfl, Nat.add_zero, Nat.add_mul, Nat.mul_assoc, show (18446744073709551616 * 18446744073709551616 : Nat) = 340282366920938463463374607431768211456 by decide]
  have hl := v2_lt h1 h0; have hu := v2_lt h3 h2; have hc := v2_lt k0 z
  have hk : b1.toNat < 18446744073709551616 := by obtain ⟨_, _⟩ := k1; omega
  have hm : v2 0 b1 = b1.toNat := by unfold v2; rw [show (0 : Int).toNat = 0 from rfl, Nat.zero_mul, Nat.zero_add]
  have C1 := addTwo_any a1 a0 b0 0 h1 h0 k0 z
  have e0 : wd (v4 a3 a2 a1 a0 + v2 b1 b0 * 18446744073709551616) 0 = wd (v2 a1 a0 + v2 b0 0) 0 := by rw [hx, hb, wd0, wd0]; omega
  have e1 : wd (v4 a3 a2 a1 a0 + v2 b1 b0 * 18446744073709551616) 1 = wd (v2 a1 a0 + v2 b0 0) 1 := by rw [hx, hb, wd1, wd1]; omega
  by_cases c : 340282366920938463463374607431768211456 ≤ v2 a1 a0 + v2 b0 0
  · rw [decide_eq_true c] at C1
    have C2 := addTwo_any 0 b1 0 1 z k1 z ⟨by omega, by omega⟩
    rw [hm, show v2 0 1 = 1 from rfl] at C2
    have C3 := addTwo_any a3 a2 (wd (b1.toNat + 1) 1) (wd (b1.toNat + 1) 0) h3 h2 (wd_wd _ _) (wd_wd _ _)
    rw [v2_wd, Nat.mod_eq_of_lt (show b1.toNat + 1 < 340282366920938463463374607431768211456 by omega)] at C3
    have e2 : wd (v4 a3 a2 a1 a0 + v2 b1 b0 * 18446744073709551616) 2 = wd (v2 a3 a2 + (b1.toNat + 1)) 0 := by rw [hx, hb, wd2, wd0]; omega
    have e3 : wd (v4 a3 a2 a1 a0 + v2 b1 b0 * 18446744073709551616) 3 = wd (v2 a3 a2 + (b1.toNat + 1)) 1 := by rw [hx, hb, wd3, wd1]; omega
    rw [e0, e1, e2, e3]
    exact plus_mid_true _ _ _ _ _ _ _ _ _ _ _ _ _ _ w C1 C2 C3
  · rw [decide_eq_false c] at C1
    have C2 := addTwo_any a3 a2 0 b1 h3 h2 z k1
    rw [hm] at C2
    have e2 : wd (v4 a3 a2 a1 a0 + v2 b1 b0 * 18446744073709551616) 2 = wd (v2 a3 a2 + b1.toNat) 0 := by rw [hx, hb, wd2, wd0]; omega
    have e3 : wd (v4 a3 a2 a1 a0 + v2 b1 b0 * 18446744073709551616) 3 = wd (v2 a3 a2 + b1.toNat) 1 := by rw [hx, hb, wd3, wd1]; omega
    rw [e0, e1, e2, e3]
    exact plus_mid_false _ _ _ _ _ _ _ _ _ _ _ w C1 C2
theorem frozen_past {W : World} {B j : Nat} (h : W.heap.size ≤ B) : W.frozen? ⟨B, j, none⟩ = false := by simp [World.frozen?, Array.getElem?_eq_none h]
/-- What stands between the steps: both numbers, room for the answer, what has come so far. -/
structure Mt (w : World) (O : Nat) (a1 a0 b1 b0 o3 o2 o1 o0 : Int) (X : World) : Prop where
  a : Has w.heap.size [.int .u64 a1, .int .u64 a0] X
  b : Has (w.heap.size + 1) [.int .u64 b1, .int .u64 b0] X
  r : Has (w.heap.size + 1 + 1) [.int .u64 0, .int .u64 0, .int .u64 0, .int .u64 0] X
  o : Has O [.int .u64 o3, .int .u64 o2, .int .u64 o1, .int .u64 o0] X
  zr : Clear (w.heap.size + 1 + 1) X
  zo : Clear O X
  below : Below w.heap.size w X
theorem Mt.stored {w : World} {O : Nat} {a1 a0 b1 b0 o3 o2 o1 o0 : Int} {R y : World} (h : Mt w O a1 a0 b1 b0 o3 o2 o1 o0 R) (g : Below R.heap.size R y) (n : w.heap.size + 1 + 1 < O) (m3 m2 m1 m0 : Int) :
    Mt w O a1 a0 b1 b0 m3 m2 m1 m0 ((((y.setCell ⟨O, 0, none⟩ (.int .u64 m3)).setCell ⟨O, 1, none⟩ (.int .u64 m2)).setCell ⟨O, 2, none⟩ (.int .u64 m1)).setCell ⟨O, 3, none⟩ (.int .u64 m0)) := by
  have hW : Wrote O 0 4 y ((((y.setCell ⟨O, 0, none⟩ (.int .u64 m3)).setCell ⟨O, 1, none⟩ (.int .u64 m2)).setCell ⟨O, 2, none⟩ (.int .u64 m1)).setCell ⟨O, 3, none⟩ (.int .u64 m0)) :=
    Wrote.setCell (Wrote.setCell (Wrote.setCell (Wrote.setCell (Wrote.refl _ _ _ _) (by decide) (by decide) _) (by decide) (by decide) _) (by decide) (by decide) _) (by decide) (by decide) _
  have hs := g.size
  have ha := h.a.step g; have hb := h.b.step g; have hr := h.r.step g; have ho := h.o.step g
  have co0 := ho.2 0 _ rfl; have co1 := ho.2 1 _ rfl; have co2 := ho.2 2 _ rfl; have co3 := ho.2 3 _ rfl
  refine ⟨⟨Nat.lt_of_lt_of_le ha.1 hW.size, fun j x e => ?_⟩, ⟨Nat.lt_of_lt_of_le hb.1 hW.size, fun j x e => ?_⟩, ⟨Nat.lt_of_lt_of_le hr.1 hW.size, fun j x e => ?_⟩,
    Has.mk4 (Nat.lt_of_lt_of_le ho.1 hW.size) (by simp [go_sem, *]) (by simp [go_sem, *]) (by simp [go_sem, *]) (by simp [go_sem, *]), fun j => ?_, fun j => ?_, ?_⟩
  · rw [hW.other ha.1 (by omega)]; exact ha.2 j x e
  · rw [hW.other hb.1 (by omega)]; exact hb.2 j x e
  · rw [hW.other hr.1 (by omega)]; exact hr.2 j x e
  · rw [World.frozen?_of_block (a := ⟨w.heap.size + 1 + 1, j, none⟩) (hW.block (w.heap.size + 1 + 1) hr.1 (by omega)), (bcell g).2 _ _ h.r.1]; exact h.zr j
  · rw [hW.frozen, (bcell g).2 _ _ h.o.1]; exact h.zo j
  · exact (bl_trans h.below g).trans (hW.below (B0 := w.heap.size) (by omega) (by have := ha.1; omega))
set_option maxRecDepth 20000 in
set_option maxHeartbeats 4000000 in
theorem mulTwo_core (a1 a0 b1 b0 p1 p0 q1 q0 m3 m2 m1 m0 r1 r0 n3 n2 n1 n0 s1 s0 o3 o2 o1 o0 : Int) (w : World)
    (C1 : Ct 76 #[.int .u64 a0, .int .u64 b0] (.agg #[.int .u64 p1, .int .u64 p0]))
    (C2 : Ct 76 #[.int .u64 a1, .int .u64 b1] (.agg #[.int .u64 q1, .int .u64 q0]))
    (C3 : Ct 77 #[.agg #[.int .u64 0, .int .u64 0, .int .u64 p1, .int .u64 p0], .agg #[.int .u64 q1, .int .u64 q0], .bool false] (.agg #[.int .u64 m3, .int .u64 m2, .int .u64 m1, .int .u64 m0]))
    (C4 : Ct 76 #[.int .u64 a1, .int .u64 b0] (.agg #[.int .u64 r1, .int .u64 r0]))
    (C5 : Ct 77 #[.agg #[.int .u64 m3, .int .u64 m2, .int .u64 m1, .int .u64 m0], .agg #[.int .u64 r1, .int .u64 r0], .bool true] (.agg #[.int .u64 n3, .int .u64 n2, .int .u64 n1, .int .u64 n0]))
    (C6 : Ct 76 #[.int .u64 a0, .int .u64 b1] (.agg #[.int .u64 s1, .int .u64 s0]))
    (C7 : Ct 77 #[.agg #[.int .u64 n3, .int .u64 n2, .int .u64 n1, .int .u64 n0], .agg #[.int .u64 s1, .int .u64 s0], .bool true] (.agg #[.int .u64 o3, .int .u64 o2, .int .u64 o1, .int .u64 o0])) :
    Calls Try.prog 49 #[.agg #[.int .u64 a1, .int .u64 a0], .agg #[.int .u64 b1, .int .u64 b0]] w fun e w' => e = .returned (.agg #[.int .u64 o3, .int .u64 o2, .int .u64 o1, .int .u64 o0]) ∧ Below w.heap.size w w' := by
  have K1 := Lib.hid C1; have K2 := Lib.hid C2; have K3 := Lib.hid C3; have K4 := Lib.hid C4; have K5 := Lib.hid C5; have K6 := Lib.hid C6; have K7 := Lib.hid C7
  clear C1 C2 C3 C4 C5 C6 C7
  go_enter Try.func49, Try.ntmps49
  go_wp2_with fail
  (with_reducible refine cm (K1.out _) fun w1 hcl hfr hb => ?_)
  have hz : w.heap.size + 1 + 1 < w1.heap.size := by have hz := hb.size; simp at hz; omega
  have hz1 : w.heap.size + 1 < w1.heap.size := by omega
  have hz0 : w.heap.size < w1.heap.size := by omega
  have HB : Hid (Below w.heap.size w w1) := btt hb
  clear hb
  go_upto_region 2 with fail
  refine nw _ fun R hR => ?_
  have M : Mt w w1.heap.size a1 a0 b1 b0 0 0 p1 p0 R := by
    rw [hR]
    refine ⟨Has.mk2 (by simp; omega) (by simp [go_sem, *]) (by simp [go_sem, *]), Has.mk2 (by simp; omega) (by simp [go_sem, *]) (by simp [go_sem, *]), Has.mk4 (by simp; omega) (by simp [go_sem, *]) (by simp [go_sem, *]) (by simp [go_sem, *]) (by simp [go_sem, *]), Has.mk4 (by simp) (by simp [go_sem, *]) (by simp [go_sem, *]) (by simp [go_sem, *]) (by simp [go_sem, *]), fun j => ?_, fun j => ?_, bb⟩
    · simp only [frozen?_alloc_cells]; rw [hfr _ _ (by simp)]; simp only [frozen?_alloc_cells]; exact frozen_past (by omega)
    · simp only [frozen?_alloc_cells]; exact frozen_past (by omega)
  have hn1 : w.heap.size < w1.heap.size := hz0
  have hn2 : w.heap.size + 1 < w1.heap.size := hz1
  have hn3 : w.heap.size + 1 + 1 < w1.heap.size := hz
  clear hR hcl hfr hz hz1 hz0 HB K1
  generalize w1.heap.size = O at *
  have ne1 : ¬ w.heap.size = O := by omega
  have ne2 : ¬ w.heap.size + 1 = O := by omega
  have ne3 : ¬ w.heap.size + 1 + 1 = O := by omega
  have zA := M.a.1; have zB := M.b.1; have zR := M.r.1; have zO := M.o.1
  have ca1 := M.a.2 0 _ rfl; have ca0 := M.a.2 1 _ rfl; have cb1 := M.b.2 0 _ rfl; have cb0 := M.b.2 1 _ rfl
  have co3 := M.o.2 0 _ rfl; have co2 := M.o.2 1 _ rfl; have co1 := M.o.2 2 _ rfl; have co0 := M.o.2 3 _ rfl
  have cr3 := M.r.2 0 _ rfl; have cr2 := M.r.2 1 _ rfl; have cr1 := M.r.2 2 _ rfl; have cr0 := M.r.2 3 _ rfl
  have fo : ∀ j, R.frozen? ⟨O, j, none⟩ = false := M.zo
  have fr : ∀ j, R.frozen? ⟨w.heap.size + 1 + 1, j, none⟩ = false := M.zr
  have HM := Lib.hid M
  clear M
  go_cut [5] (fun s5 X => s5 = .pointer (some ⟨O, 0, none⟩) ∧ Mt w O a1 a0 b1 b0 m3 m2 m1 m0 X)
  case first =>
    go_region_with
      (first
        | (go_at_call 76; (with_reducible refine (K2.out _).mono ?_); rintro e x1 ⟨rfl, hb⟩; obtain ⟨hclx1, hfrx1⟩ := bcell_drew hb; have zAx1 : w.heap.size < x1.heap.size := (by have hz := hb.size; simp at hz; omega); have zBx1 : w.heap.size + 1 < x1.heap.size := (by have hz := hb.size; simp at hz; omega); have zRx1 : w.heap.size + 1 + 1 < x1.heap.size := (by have hz := hb.size; simp at hz; omega); have zOx1 : O < x1.heap.size := (by have hz := hb.size; simp at hz; omega); have HBx1 := hbw (a := R) hb; clear hb)
        | (go_at_call 77; (with_reducible refine cm (K3.out _) fun y1 hcly1 hfry1 hb => ?_); have zAy1 : w.heap.size < y1.heap.size := (by have hz := hb.size; omega); have zBy1 : w.heap.size + 1 < y1.heap.size := (by have hz := hb.size; omega); have zRy1 : w.heap.size + 1 + 1 < y1.heap.size := (by have hz := hb.size; omega); have zOy1 : O < y1.heap.size := (by have hz := hb.size; omega); have HBy1 := hbw (a := R) hb; clear hb))
    all_goals (go_wp2_with fail; go_meet; exact ⟨rfl, HM.out.stored HBy1.out hn3 _ _ _ _⟩)
  case rest =>
  obtain ⟨X1, hX1⟩ : ∃ X, X = wc := ⟨wc, rfl⟩
  subst hX1
  obtain ⟨rfl, M⟩ := hcut
  clear zA zB zR zO ca1 ca0 cb1 cb0 co3 co2 co1 co0 cr3 cr2 cr1 cr0 fo fr HM
  clear K2 K3
  go_upto_region 3 with fail
  have zA := M.a.1; have zB := M.b.1; have zR := M.r.1; have zO := M.o.1
  have ca1 := M.a.2 0 _ rfl; have ca0 := M.a.2 1 _ rfl; have cb1 := M.b.2 0 _ rfl; have cb0 := M.b.2 1 _ rfl
  have co3 := M.o.2 0 _ rfl; have co2 := M.o.2 1 _ rfl; have co1 := M.o.2 2 _ rfl; have co0 := M.o.2 3 _ rfl
  have cr3 := M.r.2 0 _ rfl; have cr2 := M.r.2 1 _ rfl; have cr1 := M.r.2 2 _ rfl; have cr0 := M.r.2 3 _ rfl
  have fo : ∀ j, X1.frozen? ⟨O, j, none⟩ = false := M.zo
  have fr : ∀ j, X1.frozen? ⟨w.heap.size + 1 + 1, j, none⟩ = false := M.zr
  have HM := Lib.hid M
  clear M
  go_cut [5] (fun s5 X => s5 = .pointer (some ⟨O, 0, none⟩) ∧ Mt w O a1 a0 b1 b0 n3 n2 n1 n0 X)
  case first =>
    go_region_with
      (first
        | (go_at_call 76; (with_reducible refine (K4.out _).mono ?_); rintro e x2 ⟨rfl, hb⟩; obtain ⟨hclx2, hfrx2⟩ := bcell_drew hb; have zAx2 : w.heap.size < x2.heap.size := (by have hz := hb.size; simp at hz; omega); have zBx2 : w.heap.size + 1 < x2.heap.size := (by have hz := hb.size; simp at hz; omega); have zRx2 : w.heap.size + 1 + 1 < x2.heap.size := (by have hz := hb.size; simp at hz; omega); have zOx2 : O < x2.heap.size := (by have hz := hb.size; simp at hz; omega); have HBx2 := hbw (a := X1) hb; clear hb)
        | (go_at_call 77; (with_reducible refine cm (K5.out _) fun y2 hcly2 hfry2 hb => ?_); have zAy2 : w.heap.size < y2.heap.size := (by have hz := hb.size; omega); have zBy2 : w.heap.size + 1 < y2.heap.size := (by have hz := hb.size; omega); have zRy2 : w.heap.size + 1 + 1 < y2.heap.size := (by have hz := hb.size; omega); have zOy2 : O < y2.heap.size := (by have hz := hb.size; omega); have HBy2 := hbw (a := X1) hb; clear hb))
    all_goals (go_wp2_with fail; go_meet; exact ⟨rfl, HM.out.stored HBy2.out hn3 _ _ _ _⟩)
  case rest =>
  obtain ⟨X2, hX2⟩ : ∃ X, X = wc := ⟨wc, rfl⟩
  subst hX2
  obtain ⟨rfl, M⟩ := hcut
  clear zA zB zR zO ca1 ca0 cb1 cb0 co3 co2 co1 co0 cr3 cr2 cr1 cr0 fo fr HM
  clear K4 K5
  go_upto_region 4 with fail
  have zA := M.a.1; have zB := M.b.1; have zR := M.r.1; have zO := M.o.1
  have ca1 := M.a.2 0 _ rfl; have ca0 := M.a.2 1 _ rfl; have cb1 := M.b.2 0 _ rfl; have cb0 := M.b.2 1 _ rfl
  have co3 := M.o.2 0 _ rfl; have co2 := M.o.2 1 _ rfl; have co1 := M.o.2 2 _ rfl; have co0 := M.o.2 3 _ rfl
  have cr3 := M.r.2 0 _ rfl; have cr2 := M.r.2 1 _ rfl; have cr1 := M.r.2 2 _ rfl; have cr0 := M.r.2 3 _ rfl
  have fo : ∀ j, X2.frozen? ⟨O, j, none⟩ = false := M.zo
  have fr : ∀ j, X2.frozen? ⟨w.heap.size + 1 + 1, j, none⟩ = false := M.zr
  have HM := Lib.hid M
  clear M
  go_region_with
    (first
      | (go_at_call 76; (with_reducible refine (K6.out _).mono ?_); rintro e x3 ⟨rfl, hb⟩; obtain ⟨hclx3, hfrx3⟩ := bcell_drew hb; have zAx3 : w.heap.size < x3.heap.size := (by have hz := hb.size; simp at hz; omega); have zBx3 : w.heap.size + 1 < x3.heap.size := (by have hz := hb.size; simp at hz; omega); have zRx3 : w.heap.size + 1 + 1 < x3.heap.size := (by have hz := hb.size; simp at hz; omega); have zOx3 : O < x3.heap.size := (by have hz := hb.size; simp at hz; omega); have HBx3 := hbw (a := X2) hb; clear hb)
      | (go_at_call 77; (with_reducible refine cm (K7.out _) fun y3 hcly3 hfry3 hb => ?_); have zAy3 : w.heap.size < y3.heap.size := (by have hz := hb.size; omega); have zBy3 : w.heap.size + 1 < y3.heap.size := (by have hz := hb.size; omega); have zRy3 : w.heap.size + 1 + 1 < y3.heap.size := (by have hz := hb.size; omega); have zOy3 : O < y3.heap.size := (by have hz := hb.size; omega); have HBy3 := hbw (a := X2) hb; clear hb))
  all_goals (
    go_wp2_with fail
    refine bodyPost_ret (by simp [results, Try.results49, go_sem, *]; try rfl) rfl ?_
    refine ⟨rfl, ?_⟩
    have hB := bl_trans HM.out.below HBy3.out
    exact Below.setCell (Below.setCell (Below.setCell (Below.setCell hB (by simp; omega) _) (by simp; omega) _) (by simp; omega) _) (by simp; omega) _)
theorem mulTwo_any (a1 a0 b1 b0 : Int) (ha1 : Wd a1) (ha0 : Wd a0) (hb1 : Wd b1) (hb0 : Wd b0) (w : World) :
    Calls Try.prog 49 #[.agg #[.int .u64 a1, .int .u64 a0], .agg #[.int .u64 b1, .int .u64 b0]] w fun e w' =>
      e = .returned (.agg #[.int .u64 (wd (v2 a1 a0 * v2 b1 b0) 3), .int .u64 (wd (v2 a1 a0 * v2 b1 b0) 2), .int .u64 (wd (v2 a1 a0 * v2 b1 b0) 1), .int .u64 (wd (v2 a1 a0 * v2 b1 b0) 0)]) ∧ Below w.heap.size w w' := by
  have z : Wd 0 := ⟨by omega, by omega⟩
  have hp : v2 a1 a0 * v2 b1 b0 = a0.toNat * b0.toNat + (a1.toNat * b1.toNat) * 340282366920938463463374607431768211456 + (a1.toNat * b0.toNat) * 18446744073709551616 + (a0.toNat * b1.toNat) * 18446744073709551616 := by
    unfold v2
    rw [Nat.add_mul, Nat.mul_add, Nat.mul_add, Nat.mul_right_comm a1.toNat 18446744073709551616 (b1.toNat * 18446744073709551616), ← Nat.mul_assoc a1.toNat b1.toNat, Nat.mul_assoc (a1.toNat * b1.toNat), show (18446744073709551616 * 18446744073709551616 : Nat) = 340282366920938463463374607431768211456 by decide, Nat.mul_right_comm a1.toNat 18446744073709551616 b0.toNat, ← Nat.mul_assoc a0.toNat b1.toNat]
    omega
  have hlt := mul_lt ha1 ha0 hb1 hb0
  have hw : ∀ x y : Int, Wd x → Wd y → x.toNat * y.toNat < 340282366920938463463374607431768211456 := fun x y hx hy => Nat.mul_lt_mul'' (c := 18446744073709551616) (d := 18446744073709551616) (by have := hx.2; omega) (by have := hy.2; omega)
  have w00 := hw _ _ ha0 hb0; have w11 := hw _ _ ha1 hb1; have w10 := hw _ _ ha1 hb0; have w01 := hw _ _ ha0 hb1
  have C1 := product_any a0 b0 ha0 hb0
  have C2 := product_any a1 b1 ha1 hb1
  have C4 := product_any a1 b0 ha1 hb0
  have C6 := product_any a0 b1 ha0 hb1
  rw [hp] at hlt ⊢
  generalize a0.toNat * b0.toNat = p at *
  generalize a1.toNat * b1.toNat = q at *
  generalize a1.toNat * b0.toNat = r at *
  generalize a0.toNat * b1.toNat = s at *
  have V2 : ∀ n : Nat, n < 340282366920938463463374607431768211456 → v2 (wd n 1) (wd n 0) = n := fun n hn => by rw [v2_wd, Nat.mod_eq_of_lt hn]
  have V4 : ∀ n : Nat, n < 115792089237316195423570985008687907853269984665640564039457584007913129639936 → v4 (wd n 3) (wd n 2) (wd n 1) (wd n 0) = n := fun n hn => by rw [v4_wd, Nat.mod_eq_of_lt hn]
  have C3 := plus_hi_any 0 0 (wd p 1) (wd p 0) (wd q 1) (wd q 0) z z (wd_wd _ _) (wd_wd _ _) (wd_wd _ _) (wd_wd _ _)
  rw [v4_low, V2 _ w00, V2 _ w11] at C3
  have C5 := plus_mid_any _ _ _ _ (wd r 1) (wd r 0) (wd_wd (p + q * 340282366920938463463374607431768211456) 3) (wd_wd (p + q * 340282366920938463463374607431768211456) 2) (wd_wd (p + q * 340282366920938463463374607431768211456) 1) (wd_wd (p + q * 340282366920938463463374607431768211456) 0) (wd_wd _ _) (wd_wd _ _)
  rw [V4 _ (by omega), V2 _ w10] at C5
  have C7 := plus_mid_any _ _ _ _ (wd s 1) (wd s 0) (wd_wd (p + q * 340282366920938463463374607431768211456 + r * 18446744073709551616) 3) (wd_wd (p + q * 340282366920938463463374607431768211456 + r * 18446744073709551616) 2) (wd_wd (p + q * 340282366920938463463374607431768211456 + r * 18446744073709551616) 1) (wd_wd (p + q * 340282366920938463463374607431768211456 + r * 18446744073709551616) 0) (wd_wd _ _) (wd_wd _ _)
  rw [V4 _ (by omega), V2 _ w01] at C7
  exact mulTwo_core _ _ _ _ _ _ _ _ _ _ _ _ _ _ _ _ _ _ _ _ _ _ _ _ w C1 C2 C3 C4 C5 C6 C7
end Go.Proofs.Ytmmlekgojblopaa
namespace Go.Proofs.Ytmmlekgojblopaa
open Go.RowKit

theorem ret_four {a b c d a' b' c' d' : Int} (h1 : a = a') (h2 : b = b') (h3 : c = c') (h4 : d = d') :
    Ending.returned (.agg #[.int .u64 a, .int .u64 b, .int .u64 c, .int .u64 d]) = .returned (.agg #[.int .u64 a', .int .u64 b', .int .u64 c', .int .u64 d']) := by rw [h1, h2, h3, h4]
/-- What the document's words leave: a slice of four new cells. -/
def Worded (a3 a2 a1 a0 : Int) (w : World) (e : Ending) (w' : World) : Prop :=
  e = .returned (.slice (some ⟨w.heap.size + 1, 0, none⟩) 4 4) ∧ Has (w.heap.size + 1) [.int .u64 a0, .int .u64 a1, .int .u64 a2, .int .u64 a3] w' ∧ Below w.heap.size w w'
theorem rwords_any (a3 a2 a1 a0 : Int) (w : World) :
    Calls Try.prog 54 #[.agg #[.int .u64 a3, .int .u64 a2, .int .u64 a1, .int .u64 a0]] w (Worded a3 a2 a1 a0 w) := by
  go_enter Try.func54, Try.ntmps54
  go_wp2_with fail
  go_returns
  exact ⟨rfl, Has.mk4 (by simp) (by simp [go_sem]) (by simp [go_sem]) (by simp [go_sem]) (by simp [go_sem]), bl_al (bl_al (Below.refl _ _) _) _⟩
theorem rfour_any (B : Nat) (a3 a2 a1 a0 : Int) (w : World) (h : Has B [.int .u64 a0, .int .u64 a1, .int .u64 a2, .int .u64 a3] w) :
    Calls Try.prog 55 #[.slice (some ⟨B, 0, none⟩) 4 4] w fun e w' => e = .returned (.agg #[.int .u64 a3, .int .u64 a2, .int .u64 a1, .int .u64 a0]) ∧ Below w.heap.size w w' := by
  have hz := h.1
  have hz1 : B < w.heap.size + 1 := by omega
  have c0 := h.2 0 _ rfl; have c1 := h.2 1 _ rfl; have c2 := h.2 2 _ rfl; have c3 := h.2 3 _ rfl
  clear h
  go_enter Try.func55, Try.ntmps55
  go_wp2_with fail
  go_region_held3 (fun w' => w'.cell? ⟨B, 0, none⟩ = some (.int .u64 a0) ∧ w'.cell? ⟨B, 1, none⟩ = some (.int .u64 a1) ∧ w'.cell? ⟨B, 2, none⟩ = some (.int .u64 a2) ∧ w'.cell? ⟨B, 3, none⟩ = some (.int .u64 a3)) (first | (simp [*, go_sem]; done) | (simp [*, go_sem, World.cell?_alloc_past]; done)) (fail)
  rename_i hHeld
  clear hHeld
  go_wp2_with fail
  refine bodyPost_ret (by simp [results, Try.results55, go_sem, *]; try rfl) rfl ?_
  exact ⟨rfl, (bl_al (Below.refl _ _) _).drew⟩
theorem four_at {a3 a2 a1 a0 : Int} (h3 : Wd a3) (h2 : Wd a2) (h1 : Wd a1) (h0 : Wd a0) {q : Nat} (hq : q < 4) :
    ([.int .u64 a0, .int .u64 a1, .int .u64 a2, .int .u64 a3] : List Value)[q]? = some (.int .u64 (wd (v4 a3 a2 a1 a0) q)) := by
  rcases (show q = 0 ∨ q = 1 ∨ q = 2 ∨ q = 3 by omega) with rfl | rfl | rfl | rfl
  · rw [wd_v4_0 h3 h2 h1 h0]; rfl
  · rw [wd_v4_1 h3 h2 h1 h0]; rfl
  · rw [wd_v4_2 h3 h2 h1 h0]; rfl
  · rw [wd_v4_3 h3 h2 h1 h0]; rfl
theorem rbit_core (a3 a2 a1 a0 : Int) (q r : Nat) (i x y : Int) (hx : ([.int .u64 a0, .int .u64 a1, .int .u64 a2, .int .u64 a3] : List Value)[q]? = some (.int .u64 x)) (hq : q < 4) (hr : r < 64)
    (e1 : i.tdiv 64 = (q : Int)) (e2 : i.tmod 64 = (r : Int)) (e3 : bits .and .u64 (x / 2 ^ r) 1 = y) (w : World) :
    Calls Try.prog 56 #[.agg #[.int .u64 a3, .int .u64 a2, .int .u64 a1, .int .u64 a0], .int .i64 i] w fun e w' => e = .returned (.int .u64 y) ∧ Below w.heap.size w w' := by
  have q4 : (q : Int) < 4 := by omega
  have r6 : (r : Int) < 64 := by omega
  have e4 : IntKind.i64.wrap (q : Int) = q := IntWalk.i64_in _ (by omega)
  go_enter Try.func56, Try.ntmps56
  go_wp2_with fail
  refine (rwords_any _ _ _ _ _).mono ?_
  rintro e w1 ⟨rfl, hH, hb⟩
  have hc := hH.2 q _ hx
  simp at hc
  have HB1 : Hid (Below w.heap.size w w1) := bl_trans (bl_al (Below.refl _ _) _) hb
  clear hH hb hx
  go_wp2_with fail
  go_returns
  exact ⟨rfl, HB1.out⟩
theorem rbit_any (a3 a2 a1 a0 : Int) (h3 : Wd a3) (h2 : Wd a2) (h1 : Wd a1) (h0 : Wd a0) (i : Nat) (hi : i < 256) (w : World) :
    Calls Try.prog 56 #[.agg #[.int .u64 a3, .int .u64 a2, .int .u64 a1, .int .u64 a0], .int .i64 (i : Int)] w fun e w' => e = .returned (.int .u64 ((bt (v4 a3 a2 a1 a0) i : Nat) : Int)) ∧ Below w.heap.size w w' := by
  have e := bit_word (v4 a3 a2 a1 a0) (i / 64) (i % 64) (by omega)
  rw [show 64 * (i / 64) + i % 64 = i by omega] at e
  exact rbit_core _ _ _ _ (i / 64) (i % 64) _ _ _ (four_at h3 h2 h1 h0 (by omega)) (by omega) (by omega) (by rw [Int.tdiv_eq_ediv_of_nonneg (by omega)]; omega) (by rw [Int.tmod_eq_emod_of_nonneg (by omega)]; omega) e w
theorem cmp_less {A B k : Nat} (hA : A < 115792089237316195423570985008687907853269984665640564039457584007913129639936) (hB : B < 115792089237316195423570985008687907853269984665640564039457584007913129639936) (hk : k < 4) (h : ∀ j, k < j → j < 4 → wd A j = wd B j) (g : wd A k < wd B k) : A < B := by
  rcases (show k = 0 ∨ k = 1 ∨ k = 2 ∨ k = 3 by omega) with rfl | rfl | rfl | rfl
  · have h1 := h 1 (by decide) (by decide); have h2 := h 2 (by decide) (by decide); have h3 := h 3 (by decide) (by decide)
    rw [wd1, wd1] at h1; rw [wd2, wd2] at h2; rw [wd3, wd3] at h3; rw [wd0, wd0] at g; omega
  · have h2 := h 2 (by decide) (by decide); have h3 := h 3 (by decide) (by decide)
    rw [wd2, wd2] at h2; rw [wd3, wd3] at h3; rw [wd1, wd1] at g; omega
  · have h3 := h 3 (by decide) (by decide)
    rw [wd3, wd3] at h3; rw [wd2, wd2] at g; omega
  · rw [wd3, wd3] at g; omega
theorem cmp_same {A B : Nat} (hA : A < 115792089237316195423570985008687907853269984665640564039457584007913129639936) (hB : B < 115792089237316195423570985008687907853269984665640564039457584007913129639936) (h : ∀ j, 0 ≤ j → j < 4 → wd A j = wd B j) : A = B := by
  have h0 := h 0 (by decide) (by decide); have h1 := h 1 (by decide) (by decide); have h2 := h 2 (by decide) (by decide); have h3 := h 3 (by decide) (by decide)
  rw [wd0, wd0] at h0; rw [wd1, wd1] at h1; rw [wd2, wd2] at h2; rw [wd3, wd3] at h3; omega
set_option maxHeartbeats 4000000 in
theorem rcmp_any (a3 a2 a1 a0 b3 b2 b1 b0 : Int) (h3 : Wd a3) (h2 : Wd a2) (h1 : Wd a1) (h0 : Wd a0) (k3 : Wd b3) (k2 : Wd b2) (k1 : Wd b1) (k0 : Wd b0) (w : World) :
    Calls Try.prog 78 #[.agg #[.int .u64 a3, .int .u64 a2, .int .u64 a1, .int .u64 a0], .agg #[.int .u64 b3, .int .u64 b2, .int .u64 b1, .int .u64 b0]] w fun e w' =>
      e = .returned (.int .i64 (icmp ((v4 a3 a2 a1 a0 : Nat) : Int) ((v4 b3 b2 b1 b0 : Nat) : Int))) ∧ Below w.heap.size w w' := by
  have HA := Lib.hid (v4_lt h3 h2 h1 h0)
  have HB := Lib.hid (v4_lt k3 k2 k1 k0)
  have FA : Hid (∀ q, q < 4 → ([.int .u64 a0, .int .u64 a1, .int .u64 a2, .int .u64 a3] : List Value)[q]? = some (.int .u64 (wd (v4 a3 a2 a1 a0) q))) := fun q hq => four_at h3 h2 h1 h0 hq
  have FB : Hid (∀ q, q < 4 → ([.int .u64 b0, .int .u64 b1, .int .u64 b2, .int .u64 b3] : List Value)[q]? = some (.int .u64 (wd (v4 b3 b2 b1 b0) q))) := fun q hq => four_at k3 k2 k1 k0 hq
  clear h3 h2 h1 h0 k3 k2 k1 k0
  generalize v4 a3 a2 a1 a0 = A at *
  generalize v4 b3 b2 b1 b0 = B at *
  go_enter Try.func78, Try.ntmps78
  go_wp2_with fail
  go_region_held3 (fun w' => w'.cell? ⟨w.heap.size, 0, none⟩ = some (.int .u64 a3) ∧ w'.cell? ⟨w.heap.size, 1, none⟩ = some (.int .u64 a2) ∧ w'.cell? ⟨w.heap.size, 2, none⟩ = some (.int .u64 a1) ∧ w'.cell? ⟨w.heap.size, 3, none⟩ = some (.int .u64 a0) ∧ w'.cell? ⟨w.heap.size + 1, 0, none⟩ = some (.int .u64 b3) ∧ w'.cell? ⟨w.heap.size + 1, 1, none⟩ = some (.int .u64 b2) ∧ w'.cell? ⟨w.heap.size + 1, 2, none⟩ = some (.int .u64 b1) ∧ w'.cell? ⟨w.heap.size + 1, 3, none⟩ = some (.int .u64 b0)) (first | (simp [*, go_sem]; done) | (simp [*, go_sem, World.cell?_alloc_past]; done))
    (first
      | (go_at_call 54; (with_reducible refine (rwords_any a3 a2 a1 a0 _).mono ?_); rintro e w1 ⟨rfl, hH, hb⟩; obtain ⟨hcl1, hfr1⟩ := bcell hb; have z1 : w.heap.size < w1.heap.size := (by have hz := hb.size; simp at hz; omega); have y1 : w.heap.size + 1 < w1.heap.size := (by have hz := hb.size; simp at hz; omega); have HX := Lib.hid hH; have HB1 : Hid (Below w.heap.size w w1) := (bl_trans (by repeat (first | with_reducible exact Below.refl _ _ | with_reducible exact Hid.out (by assumption) | with_reducible refine bl_al ?_ _ | with_reducible apply Below.drew)) hb); clear hb hH)
      | (go_at_call 54; (with_reducible refine (rwords_any b3 b2 b1 b0 _).mono ?_); rintro e w2 ⟨rfl, hH, hb⟩; obtain ⟨hcl2, hfr2⟩ := bcell hb; have z2 : w.heap.size < w2.heap.size := (by have hz := hb.size; omega); have y2 : w.heap.size + 1 < w2.heap.size := (by have hz := hb.size; omega); have HX2 := Lib.hid (HX.out.step hb); have HY := Lib.hid hH; have HB2 : Hid (Below w.heap.size w w2) := (bl_trans HB1.out hb); clear hb hH))
  rename_i hHeld
  clear hHeld
  go_wp2_with fail
  have gx : Has (w.heap.size + 1 + 1 + 1) [.int .u64 a0, .int .u64 a1, .int .u64 a2, .int .u64 a3] w2 := by have := HX2.out; simpa using this
  have GX := Lib.hid gx
  clear hcl1 hfr1 z1 y1 HX HB1 hcl2 hfr2 z2 y2 HX2 gx
  generalize w.heap.size + 1 + 1 + 1 = X at *
  generalize w1.heap.size + 1 = Y at *
  have g0 : Has X [.int .u64 a0, .int .u64 a1, .int .u64 a2, .int .u64 a3] w2 ∧ Has Y [.int .u64 b0, .int .u64 b1, .int .u64 b2, .int .u64 b3] w2 ∧ Below w.heap.size w w2 := ⟨GX.out, HY.out, HB2.out⟩
  have G0 := Lib.hid g0
  clear g0 GX HY HB2
  go_loopg [7] 4 (fun k iv wr => k ≤ 4 ∧ iv = .int .i64 ((k : Int) - 1) ∧ (∀ j, k ≤ j → j < 4 → wd A j = wd B j) ∧ Has X [.int .u64 a0, .int .u64 a1, .int .u64 a2, .int .u64 a3] wr ∧ Has Y [.int .u64 b0, .int .u64 b1, .int .u64 b2, .int .u64 b3] wr ∧ Below w.heap.size w wr)
  case atStart => exact ⟨Nat.le_refl _, rfl, fun j h1 h2 => absurd h2 (by omega), G0.out⟩
  case round =>
    obtain ⟨hk, rfl, he, hX, hY, hbl⟩ := hrel
    clear G0
    have HE := Lib.hid he
    have HBL := Lib.hid hbl
    clear he hbl
    rcases gk with _ | k
    · have hs := cmp_same HA.out HB.out HE.out
      have E : Hid (icmp (A : Int) (B : Int) = 0) := by show _ = _; rw [hs]; unfold icmp; simp
      clear HE hX hY HA HB FA FB hs
      go_wp2_with fail
      go_returns
      exact ⟨ret_int E.out.symm, HBL.out⟩
    · have cx := hX.2 k _ (FA.out k (by omega))
      have cy := hY.2 k _ (FB.out k (by omega))
      have HX := Lib.hid hX; have HY := Lib.hid hY
      have k1 : ((k + 1 : Nat) : Int) - 1 = (k : Int) := by omega
      have k4 : (k : Int) < 4 := by omega
      have wk : IntKind.i64.wrap ((k : Int) - 1) = (k : Int) - 1 := IntWalk.i64_in _ (by omega)
      rw [k1]
      have Hlt : Hid (wd A k < wd B k → icmp (A : Int) (B : Int) = -1) := fun g => by
        have := cmp_less HA.out HB.out (by omega) (fun j h1 h2 => HE.out j (by omega) h2) g
        unfold icmp; rw [if_pos (by omega)]
      have Hgt : Hid (wd B k < wd A k → icmp (A : Int) (B : Int) = 1) := fun g => by
        have := cmp_less HB.out HA.out (by omega) (fun j h1 h2 => (HE.out j (by omega) h2).symm) g
        unfold icmp; rw [if_neg (by omega), if_pos (by omega)]
      have Heq : Hid (wd A k = wd B k → ∀ j, k ≤ j → j < 4 → wd A j = wd B j) := fun g j h1 h2 => by
        rcases Nat.lt_or_ge k j with h | h
        · exact HE.out j (by omega) h2
        · rw [show j = k by omega]; exact g
      clear HA HB FA FB hX hY HE k1
      generalize hxx : wd A k = x at *
      generalize hyy : wd B k = y at *
      clear hxx hyy
      rcases Int.lt_trichotomy x y with h | h | h
      · have E := Lib.hid (Hlt.out h)
        clear Hlt Hgt Heq
        go_wp2_with fail
        go_region_held3 (fun w' => w'.cell? ⟨X, k, none⟩ = some (.int .u64 x) ∧ w'.cell? ⟨Y, k, none⟩ = some (.int .u64 y)) (first | (simp [*, go_sem]; done)) (fail)
        rename_i hHeld
        clear hHeld
        go_wp2_with fail
        go_returns
        exact ⟨ret_int E.out.symm, HBL.out.drew⟩
      · have HE := Lib.hid (Heq.out h)
        clear Hlt Hgt Heq
        subst h
        go_wp2_with fail
        go_region_held3 (fun w' => w'.cell? ⟨X, k, none⟩ = some (.int .u64 x) ∧ w'.cell? ⟨Y, k, none⟩ = some (.int .u64 x)) (first | (simp [*, go_sem]; done)) (fail)
        rename_i hHeld
        clear hHeld
        go_wp2_with fail
        go_region_held3 (fun w' => w'.cell? ⟨X, k, none⟩ = some (.int .u64 x) ∧ w'.cell? ⟨Y, k, none⟩ = some (.int .u64 x)) (first | (simp [*, go_sem]; done)) (fail)
        rename_i hHeld
        clear hHeld
        go_wp2_with fail
        go_roundg k
        case measure => omega
        case rel => exact ⟨by omega, rfl, HE.out, HX.out.step (Below.refl _ _).drew.drew, HY.out.step (Below.refl _ _).drew.drew, HBL.out.drew.drew⟩
      · have E := Lib.hid (Hgt.out h)
        have h2 : ¬ x < y := by omega
        clear Hlt Hgt Heq
        go_wp2_with fail
        go_region_held3 (fun w' => w'.cell? ⟨X, k, none⟩ = some (.int .u64 x) ∧ w'.cell? ⟨Y, k, none⟩ = some (.int .u64 y)) (first | (simp [*, go_sem]; done)) (fail)
        rename_i hHeld
        clear hHeld
        go_wp2_with fail
        go_region_held3 (fun w' => w'.cell? ⟨X, k, none⟩ = some (.int .u64 x) ∧ w'.cell? ⟨Y, k, none⟩ = some (.int .u64 y)) (first | (simp [*, go_sem]; done)) (fail)
        rename_i hHeld
        clear hHeld
        go_wp2_with fail
        go_returns
        exact ⟨ret_int E.out.symm, HBL.out.drew.drew⟩
end Go.Proofs.Ytmmlekgojblopaa
namespace Go.Proofs.Ytmmlekgojblopaa
open Go.RowKit

theorem rt_room {N k : Nat} (h : isq N < 340282366920938463463374607431768211456) (hk : k < 128) : rt N (k + 1) + 2 ^ k < 340282366920938463463374607431768211456 := by
  unfold rt
  have e : (340282366920938463463374607431768211456 : Nat) = 2 ^ (127 - k) * 2 ^ (k + 1) := by
    rw [← Nat.pow_add, show 127 - k + (k + 1) = 128 by omega]
  have hp := Nat.two_pow_pos k
  have h1 : isq N / 2 ^ (k + 1) < 2 ^ (127 - k) := by rw [Nat.div_lt_iff_lt_mul (Nat.two_pow_pos _), ← e]; exact h
  have h2 := Nat.mul_le_mul_right (2 ^ (k + 1)) (show isq N / 2 ^ (k + 1) + 1 ≤ 2 ^ (127 - k) from h1)
  rw [← e, Nat.add_mul, Nat.one_mul] at h2
  have h3 : (2 : Nat) ^ (k + 1) = 2 ^ k * 2 := Nat.pow_succ 2 k
  omega
/-- What stands at a round's head: the number, room for the answer, the root's bits that have come. -/
structure Rh (w : World) (a3 a2 a1 a0 s1 s0 : Int) (X : World) : Prop where
  a : Has w.heap.size [.int .u64 a3, .int .u64 a2, .int .u64 a1, .int .u64 a0] X
  r : Has (w.heap.size + 1) [.int .u64 0, .int .u64 0] X
  s : Has (w.heap.size + 1 + 1) [.int .u64 s1, .int .u64 s0] X
  zr : Clear (w.heap.size + 1) X
  zs : Clear (w.heap.size + 1 + 1) X
  below : Below w.heap.size w X
theorem Rh.step {w : World} {a3 a2 a1 a0 s1 s0 : Int} {X Y : World} (h : Rh w a3 a2 a1 a0 s1 s0 X) (g : Below X.heap.size X Y) : Rh w a3 a2 a1 a0 s1 s0 Y :=
  ⟨h.a.step g, h.r.step g, h.s.step g, fun j => by rw [(bcell g).2 _ _ h.r.1]; exact h.zr j, fun j => by rw [(bcell g).2 _ _ h.s.1]; exact h.zs j, bl_trans h.below g⟩
theorem Rh.stored {w : World} {a3 a2 a1 a0 s1 s0 : Int} {X : World} (h : Rh w a3 a2 a1 a0 s1 s0 X) (t1 t0 : Int) :
    Rh w a3 a2 a1 a0 t1 t0 ((X.setCell ⟨w.heap.size + 1 + 1, 0, none⟩ (.int .u64 t1)).setCell ⟨w.heap.size + 1 + 1, 1, none⟩ (.int .u64 t0)) := by
  have hW : Wrote (w.heap.size + 1 + 1) 0 2 X ((X.setCell ⟨w.heap.size + 1 + 1, 0, none⟩ (.int .u64 t1)).setCell ⟨w.heap.size + 1 + 1, 1, none⟩ (.int .u64 t0)) :=
    Wrote.setCell (Wrote.setCell (Wrote.refl _ _ _ _) (by decide) (by decide) _) (by decide) (by decide) _
  have hs := h.s
  have cs0 := hs.2 0 _ rfl; have cs1 := hs.2 1 _ rfl
  refine ⟨⟨Nat.lt_of_lt_of_le h.a.1 hW.size, fun j x e => ?_⟩, ⟨Nat.lt_of_lt_of_le h.r.1 hW.size, fun j x e => ?_⟩, Has.mk2 (Nat.lt_of_lt_of_le hs.1 hW.size) (by simp [go_sem, *]) (by simp [go_sem, *]), fun j => ?_, fun j => ?_, ?_⟩
  · rw [hW.other h.a.1 (by omega)]; exact h.a.2 j x e
  · rw [hW.other h.r.1 (by omega)]; exact h.r.2 j x e
  · rw [World.frozen?_of_block (a := ⟨w.heap.size + 1, j, none⟩) (hW.block (w.heap.size + 1) h.r.1 (by omega))]; exact h.zr j
  · rw [hW.frozen]; exact h.zs j
  · exact h.below.trans (hW.below (B0 := w.heap.size) (by omega) (by have := h.a.1; omega))
set_option maxRecDepth 20000 in
set_option maxHeartbeats 8000000 in
theorem rroot_any (a3 a2 a1 a0 : Int) (h3 : Wd a3) (h2 : Wd a2) (h1 : Wd a1) (h0 : Wd a0) (w : World) :
    Calls Try.prog 52 #[.agg #[.int .u64 a3, .int .u64 a2, .int .u64 a1, .int .u64 a0]] w fun e w' => e = .returned (.agg #[.int .u64 (wd (isq (v4 a3 a2 a1 a0)) 1), .int .u64 (wd (isq (v4 a3 a2 a1 a0)) 0)]) ∧ Below w.heap.size w w' := by
  have HA := Lib.hid (isq_128 (v4_lt h3 h2 h1 h0))
  have HM : Hid (∀ q : Nat, q < 340282366920938463463374607431768211456 → ∀ W, Calls Try.prog 49 #[.agg #[.int .u64 (wd q 1), .int .u64 (wd q 0)], .agg #[.int .u64 (wd q 1), .int .u64 (wd q 0)]] W fun e w' =>
      e = .returned (.agg #[.int .u64 (wd (q * q) 3), .int .u64 (wd (q * q) 2), .int .u64 (wd (q * q) 1), .int .u64 (wd (q * q) 0)]) ∧ Below W.heap.size W w') := fun q hq W => by
    have := mulTwo_any _ _ _ _ (wd_wd q 1) (wd_wd q 0) (wd_wd q 1) (wd_wd q 0) W
    rw [v2_wd, Nat.mod_eq_of_lt hq] at this
    exact this
  have HC : Hid (∀ q : Nat, q < 340282366920938463463374607431768211456 → ∀ W, Calls Try.prog 78 #[.agg #[.int .u64 (wd (q * q) 3), .int .u64 (wd (q * q) 2), .int .u64 (wd (q * q) 1), .int .u64 (wd (q * q) 0)], .agg #[.int .u64 a3, .int .u64 a2, .int .u64 a1, .int .u64 a0]] W fun e w' =>
      e = .returned (.int .i64 (icmp ((q * q : Nat) : Int) ((v4 a3 a2 a1 a0 : Nat) : Int))) ∧ Below W.heap.size W w') := fun q hq W => by
    have := rcmp_any _ _ _ _ a3 a2 a1 a0 (wd_wd (q * q) 3) (wd_wd (q * q) 2) (wd_wd (q * q) 1) (wd_wd (q * q) 0) h3 h2 h1 h0 W
    rw [v4_small (Nat.mul_lt_mul'' (c := 340282366920938463463374607431768211456) (d := 340282366920938463463374607431768211456) hq hq)] at this
    exact this
  clear h3 h2 h1 h0
  generalize v4 a3 a2 a1 a0 = N at *
  go_enter Try.func52, Try.ntmps52
  go_wp2_with fail
  refine nw _ fun R hR => ?_
  have g0 : Rh w a3 a2 a1 a0 0 0 R := by
    rw [hR]
    refine ⟨Has.mk4 (by first | (simp; done) | (simp; omega)) (by simp [go_sem]) (by simp [go_sem]) (by simp [go_sem]) (by simp [go_sem]), Has.mk2 (by first | (simp; done) | (simp; omega)) (by simp [go_sem]) (by simp [go_sem]), Has.mk2 (by first | (simp; done) | (simp; omega)) (by simp [go_sem]) (by simp [go_sem]), fun j => ?_, fun j => ?_, bb⟩
    · simp only [frozen?_alloc_cells]; exact frozen_past (by omega)
    · simp only [frozen?_alloc_cells]; exact frozen_past (by omega)
  have G0 := Lib.hid g0
  clear g0 hR
  go_loopg [4] 128 (fun k iv wr => k ≤ 128 ∧ iv = .int .i64 ((k : Int) - 1) ∧ Rh w a3 a2 a1 a0 (wd (rt N k) 1) (wd (rt N k) 0) wr)
  case atStart =>
    refine ⟨Nat.le_refl _, rfl, ?_⟩
    have e : rt N 128 = 0 := rt_top HA.out
    rw [e]; exact G0.out
  case round =>
    obtain ⟨hk, rfl, P⟩ := hrel
    clear G0
    rcases gk with _ | k
    · rw [rt_end] at P
      have HP := Lib.hid P
      have cs1 := P.s.2 0 _ rfl; have cs0 := P.s.2 1 _ rfl
      have cr1 := P.r.2 0 _ rfl; have cr0 := P.r.2 1 _ rfl
      have zr : ∀ j, wr.frozen? ⟨w.heap.size + 1, j, none⟩ = false := P.zr
      clear P HA HM HC
      go_wp2_with fail
      refine bodyPost_ret (by simp [results, Try.results52, go_sem, *]; try rfl) rfl ?_
      exact ⟨rfl, Below.setCell (Below.setCell HP.out.below (by simp) _) (by simp) _⟩
    · have HP := Lib.hid P
      have k1 : ((k + 1 : Nat) : Int) - 1 = (k : Int) := by omega
      have k4 : (k : Int) < 128 := by omega
      have wk : IntKind.i64.wrap ((k : Int) - 1) = (k : Int) - 1 := IntWalk.i64_in _ (by omega)
      rw [k1]
      have hroom := rt_room HA.out (show k < 128 by omega)
      have HM1 := Lib.hid (HM.out _ hroom)
      have HC1 := Lib.hid (HC.out _ hroom)
      have hst := rt_step N k
      have HNX : Hid ((icmp (((rt N (k + 1) + 2 ^ k) * (rt N (k + 1) + 2 ^ k) : Nat) : Int) ((N : Nat) : Int) ≤ 0 ∧ rt N k = rt N (k + 1) + 2 ^ k) ∨ (¬ icmp (((rt N (k + 1) + 2 ^ k) * (rt N (k + 1) + 2 ^ k) : Nat) : Int) ((N : Nat) : Int) ≤ 0 ∧ rt N k = rt N (k + 1))) := by
        rcases hst with ⟨g, e⟩ | ⟨g, e⟩
        · left; refine ⟨?_, e⟩; generalize (rt N (k + 1) + 2 ^ k) * (rt N (k + 1) + 2 ^ k) = T at *; unfold icmp; split <;> (try split) <;> omega
        · right; refine ⟨?_, e⟩; generalize (rt N (k + 1) + 2 ^ k) * (rt N (k + 1) + 2 ^ k) = T at *; unfold icmp; rw [if_neg (by omega), if_pos (by omega)]; decide
      have cs1 := P.s.2 0 _ rfl; have cs0 := P.s.2 1 _ rfl
      have ca3 := P.a.2 0 _ rfl; have ca2 := P.a.2 1 _ rfl; have ca1 := P.a.2 2 _ rfl; have ca0 := P.a.2 3 _ rfl
      have zA := P.a.1; have zS := P.s.1
      have zs : ∀ j, wr.frozen? ⟨w.heap.size + 1 + 1, j, none⟩ = false := P.zs
      have hQ := rt_dvd N (k + 1)
      clear P HA HM HC hst k1 hroom
      generalize (rt N (k + 1) + 2 ^ k) * (rt N (k + 1) + 2 ^ k) = TT at *
      rcases Nat.lt_or_ge k 64 with hlt | hge
      · obtain ⟨w1, w2⟩ := word_more (Q := rt N (k + 1)) (m := k) (q := 0) (r := k) hlt (by omega) hQ
        have hw := w2 1 (by decide)
        have hor : bits .or .u64 (wd (rt N (k + 1)) 0) (2 ^ k) = wd (rt N (k + 1) + 2 ^ k) 0 := by rw [← w1]; congr 1
        have hsh : IntKind.u64.wrap ((2 : Int) ^ k) = 2 ^ k := by
          have := pow_word k hlt
          have e : ((2 : Int) ^ k) = ((2 ^ k : Nat) : Int) := by simp
          rw [e]; clear e; generalize (2 : Nat) ^ k = Z at *; exact IntWalk.u64_in _ (by omega)
        have kk : ¬ (64 : Int) ≤ k := by omega
        clear w1 w2 hQ
        have HNY : Hid ((icmp (TT : Int) (N : Int) ≤ 0 ∧ (wd (rt N k) 1 = wd (rt N (k + 1) + 2 ^ k) 1 ∧ wd (rt N k) 0 = wd (rt N (k + 1) + 2 ^ k) 0)) ∨ (¬ icmp (TT : Int) (N : Int) ≤ 0 ∧ (wd (rt N k) 1 = wd (rt N (k + 1)) 1 ∧ wd (rt N k) 0 = wd (rt N (k + 1)) 0))) := by
          rcases HNX.out with ⟨g, e⟩ | ⟨g, e⟩
          · exact Or.inl ⟨g, by rw [e], by rw [e]⟩
          · exact Or.inr ⟨g, by rw [e], by rw [e]⟩
        clear HNX
        rw [hw] at HM1 HNY
        generalize ht0 : wd (rt N (k + 1) + 2 ^ k) 0 = t0 at *
        generalize hs1 : wd (rt N (k + 1)) 1 = s1 at *
        generalize hs0 : wd (rt N (k + 1)) 0 = s0 at *
        generalize hr1 : wd (rt N k) 1 = r1 at *
        generalize hr0 : wd (rt N k) 0 = r0 at *
        generalize wd TT 3 = q3 at *
        generalize wd TT 2 = q2 at *
        generalize wd TT 1 = q1 at *
        generalize wd TT 0 = q0 at *
        generalize icmp (TT : Int) (N : Int) = c at *
        clear hw ht0 hs1 hs0
        go_wp2_with fail
        go_region_with (fail)
        go_wp2_with fail
        refine nw _ fun R hR => ?_
        have hB : Below wr.heap.size wr R := by rw [hR]; exact bb
        have ct1 : R.cell? ⟨wr.heap.size, 0, none⟩ = some (.int .u64 s1) := cel hR
        have ct0 : R.cell? ⟨wr.heap.size, 1, none⟩ = some (.int .u64 t0) := cel hR
        have zT : wr.heap.size < R.heap.size := by rw [hR]; simp
        have HPR := Lib.hid (HP.out.step hB)
        have PR := HPR.out
        have da3 := PR.a.2 0 _ rfl; have da2 := PR.a.2 1 _ rfl; have da1 := PR.a.2 2 _ rfl; have da0 := PR.a.2 3 _ rfl
        have yA := PR.a.1; have yS := PR.s.1
        have ys : ∀ j, R.frozen? ⟨w.heap.size + 1 + 1, j, none⟩ = false := PR.zs
        have nT : ¬ wr.heap.size = w.heap.size + 1 + 1 := by omega
        have nT2 : ¬ w.heap.size + 1 + 1 = wr.heap.size := by omega
        clear hR hB PR ca3 ca2 ca1 ca0 cs1 cs0 zA zS zs HP
        generalize wr.heap.size = T at *
        go_region_held3 (fun w' => w'.cell? ⟨T, 0, none⟩ = some (.int .u64 s1) ∧ w'.cell? ⟨T, 1, none⟩ = some (.int .u64 t0) ∧ w'.cell? ⟨w.heap.size, 0, none⟩ = some (.int .u64 a3) ∧ w'.cell? ⟨w.heap.size, 1, none⟩ = some (.int .u64 a2) ∧ w'.cell? ⟨w.heap.size, 2, none⟩ = some (.int .u64 a1) ∧ w'.cell? ⟨w.heap.size, 3, none⟩ = some (.int .u64 a0)) (first | (simp [*, go_sem]; done))
          (first
            | (go_at_call 49; (with_reducible refine (HM1.out _).mono ?_); rintro e x1 ⟨rfl, hb⟩; obtain ⟨hcl1, hfr1⟩ := bcell_drew hb; have z1A : w.heap.size < x1.heap.size := (by have hz := hb.size; simp at hz; omega); have z1S : w.heap.size + 1 + 1 < x1.heap.size := (by have hz := hb.size; simp at hz; omega); have z1T : T < x1.heap.size := (by have hz := hb.size; simp at hz; omega); have HB1 : Hid (Below R.heap.size R x1) := (bl_trans (Below.refl _ _).drew hb); clear hb)
            | (go_at_call 78; (with_reducible refine cm (HC1.out _) fun x2 hcl2 hfr2 hb => ?_); have z2A : w.heap.size < x2.heap.size := (by have hz := hb.size; omega); have z2S : w.heap.size + 1 + 1 < x2.heap.size := (by have hz := hb.size; omega); have z2T : T < x2.heap.size := (by have hz := hb.size; omega); have HB2 : Hid (Below R.heap.size R x2) := (bl_trans HB1.out hb); clear hb))
        rename_i hHeld
        clear hHeld
        have HP2 := Lib.hid (HPR.out.step HB2.out)
        have ds1 := HP2.out.s.2 0 _ rfl; have ds0 := HP2.out.s.2 1 _ rfl
        have xs : ∀ j, x2.frozen? ⟨w.heap.size + 1 + 1, j, none⟩ = false := HP2.out.zs
        have dt1 : x2.cell? ⟨T, 0, none⟩ = some (.int .u64 s1) := by rw [hcl2 _ _ z1T, hcl1 _ _ zT]; exact ct1
        have dt0 : x2.cell? ⟨T, 1, none⟩ = some (.int .u64 t0) := by rw [hcl2 _ _ z1T, hcl1 _ _ zT]; exact ct0
        clear hcl2 hfr2 hcl1 hfr1 ct1 ct0 da3 da2 da1 da0 HM1 HC1 HB1 HB2 HPR ys
        rcases HNY.out with ⟨hc, e1, e0⟩ | ⟨hc, e1, e0⟩
        · clear HNY
          subst e1; subst e0
          go_wp2_with fail
          go_roundg k
          case measure => omega
          case rel => exact ⟨by omega, rfl, by rw [hr1, hr0]; exact HP2.out.stored _ _⟩
        · clear HNY
          subst e1; subst e0
          go_wp2_with fail
          go_roundg k
          case measure => omega
          case rel => exact ⟨by omega, rfl, by rw [hr1, hr0]; exact HP2.out⟩
      · obtain ⟨r, rfl⟩ : ∃ r, k = 64 + r := ⟨k - 64, by omega⟩
        obtain ⟨w1, w2⟩ := word_more (Q := rt N (64 + r + 1)) (m := 64 + r) (q := 1) (r := r) (by omega) (by omega) hQ
        have hw := w2 0 (by decide)
        have hor : bits .or .u64 (wd (rt N (64 + r + 1)) 1) (2 ^ r) = wd (rt N (64 + r + 1) + 2 ^ (64 + r)) 1 := by rw [← w1]; congr 1
        have hsh : IntKind.u64.wrap ((2 : Int) ^ r) = 2 ^ r := by
          have := pow_word r (by omega)
          have e : ((2 : Int) ^ r) = ((2 ^ r : Nat) : Int) := by simp
          rw [e]; clear e; generalize (2 : Nat) ^ r = Z at *; exact IntWalk.u64_in _ (by omega)
        have kk : (64 : Int) ≤ ((64 + r : Nat) : Int) := by omega
        have kr : IntKind.i64.wrap (((64 + r : Nat) : Int) - 64) = (r : Int) := by rw [show ((64 + r : Nat) : Int) - 64 = (r : Int) by omega]; exact IntWalk.i64_in _ (by omega)
        have r6 : (r : Int) < 64 := by omega
        generalize hkk : ((64 + r : Nat) : Int) = K at *
        have HKK := Lib.hid hkk
        clear hkk
        clear w1 w2 hQ
        have HNY : Hid ((icmp (TT : Int) (N : Int) ≤ 0 ∧ (wd (rt N (64 + r)) 1 = wd (rt N ((64 + r) + 1) + 2 ^ (64 + r)) 1 ∧ wd (rt N (64 + r)) 0 = wd (rt N ((64 + r) + 1) + 2 ^ (64 + r)) 0)) ∨ (¬ icmp (TT : Int) (N : Int) ≤ 0 ∧ (wd (rt N (64 + r)) 1 = wd (rt N ((64 + r) + 1)) 1 ∧ wd (rt N (64 + r)) 0 = wd (rt N ((64 + r) + 1)) 0))) := by
          rcases HNX.out with ⟨g, e⟩ | ⟨g, e⟩
          · exact Or.inl ⟨g, by rw [e], by rw [e]⟩
          · exact Or.inr ⟨g, by rw [e], by rw [e]⟩
        clear HNX
        rw [hw] at HM1 HNY
        generalize ht1 : wd (rt N ((64 + r) + 1) + 2 ^ (64 + r)) 1 = t1 at *
        generalize hs1 : wd (rt N ((64 + r) + 1)) 1 = s1 at *
        generalize hs0 : wd (rt N ((64 + r) + 1)) 0 = s0 at *
        generalize hr1 : wd (rt N (64 + r)) 1 = r1 at *
        generalize hr0 : wd (rt N (64 + r)) 0 = r0 at *
        generalize wd TT 3 = q3 at *
        generalize wd TT 2 = q2 at *
        generalize wd TT 1 = q1 at *
        generalize wd TT 0 = q0 at *
        generalize icmp (TT : Int) (N : Int) = c at *
        clear hw ht1 hs1 hs0
        go_wp2_with fail
        go_region_with (fail)
        go_wp2_with fail
        refine nw _ fun R hR => ?_
        have hB : Below wr.heap.size wr R := by rw [hR]; exact bb
        have ct1 : R.cell? ⟨wr.heap.size, 0, none⟩ = some (.int .u64 t1) := cel hR
        have ct0 : R.cell? ⟨wr.heap.size, 1, none⟩ = some (.int .u64 s0) := cel hR
        have zT : wr.heap.size < R.heap.size := by rw [hR]; simp
        have HPR := Lib.hid (HP.out.step hB)
        have PR := HPR.out
        have da3 := PR.a.2 0 _ rfl; have da2 := PR.a.2 1 _ rfl; have da1 := PR.a.2 2 _ rfl; have da0 := PR.a.2 3 _ rfl
        have yA := PR.a.1; have yS := PR.s.1
        have ys : ∀ j, R.frozen? ⟨w.heap.size + 1 + 1, j, none⟩ = false := PR.zs
        have nT : ¬ wr.heap.size = w.heap.size + 1 + 1 := by omega
        have nT2 : ¬ w.heap.size + 1 + 1 = wr.heap.size := by omega
        clear hR hB PR ca3 ca2 ca1 ca0 cs1 cs0 zA zS zs HP
        generalize wr.heap.size = T at *
        go_region_held3 (fun w' => w'.cell? ⟨T, 0, none⟩ = some (.int .u64 t1) ∧ w'.cell? ⟨T, 1, none⟩ = some (.int .u64 s0) ∧ w'.cell? ⟨w.heap.size, 0, none⟩ = some (.int .u64 a3) ∧ w'.cell? ⟨w.heap.size, 1, none⟩ = some (.int .u64 a2) ∧ w'.cell? ⟨w.heap.size, 2, none⟩ = some (.int .u64 a1) ∧ w'.cell? ⟨w.heap.size, 3, none⟩ = some (.int .u64 a0)) (first | (simp [*, go_sem]; done))
          (first
            | (go_at_call 49; (with_reducible refine (HM1.out _).mono ?_); rintro e x1 ⟨rfl, hb⟩; obtain ⟨hcl1, hfr1⟩ := bcell_drew hb; have z1A : w.heap.size < x1.heap.size := (by have hz := hb.size; simp at hz; omega); have z1S : w.heap.size + 1 + 1 < x1.heap.size := (by have hz := hb.size; simp at hz; omega); have z1T : T < x1.heap.size := (by have hz := hb.size; simp at hz; omega); have HB1 : Hid (Below R.heap.size R x1) := (bl_trans (Below.refl _ _).drew hb); clear hb)
            | (go_at_call 78; (with_reducible refine cm (HC1.out _) fun x2 hcl2 hfr2 hb => ?_); have z2A : w.heap.size < x2.heap.size := (by have hz := hb.size; omega); have z2S : w.heap.size + 1 + 1 < x2.heap.size := (by have hz := hb.size; omega); have z2T : T < x2.heap.size := (by have hz := hb.size; omega); have HB2 : Hid (Below R.heap.size R x2) := (bl_trans HB1.out hb); clear hb))
        rename_i hHeld
        clear hHeld
        have HP2 := Lib.hid (HPR.out.step HB2.out)
        have ds1 := HP2.out.s.2 0 _ rfl; have ds0 := HP2.out.s.2 1 _ rfl
        have xs : ∀ j, x2.frozen? ⟨w.heap.size + 1 + 1, j, none⟩ = false := HP2.out.zs
        have dt1 : x2.cell? ⟨T, 0, none⟩ = some (.int .u64 t1) := by rw [hcl2 _ _ z1T, hcl1 _ _ zT]; exact ct1
        have dt0 : x2.cell? ⟨T, 1, none⟩ = some (.int .u64 s0) := by rw [hcl2 _ _ z1T, hcl1 _ _ zT]; exact ct0
        clear hcl2 hfr2 hcl1 hfr1 ct1 ct0 da3 da2 da1 da0 HM1 HC1 HB1 HB2 HPR ys
        rcases HNY.out with ⟨hc, e1, e0⟩ | ⟨hc, e1, e0⟩
        · clear HNY
          subst e1; subst e0
          go_wp2_with fail
          go_roundg (64 + r)
          case measure => omega
          case rel => exact ⟨by omega, by rw [HKK.out], by rw [hr1, hr0]; exact HP2.out.stored _ _⟩
        · clear HNY
          subst e1; subst e0
          go_wp2_with fail
          go_roundg (64 + r)
          case measure => omega
          case rel => exact ⟨by omega, by rw [HKK.out], by rw [hr1, hr0]; exact HP2.out⟩
end Go.Proofs.Ytmmlekgojblopaa
namespace Go.Proofs.Ytmmlekgojblopaa
open Go.RowKit

theorem frozen_new {W : World} {B j : Nat} (h : W.heap.size ≤ B) : W.frozen? ⟨B, j, none⟩ = false := by simp [World.frozen?, Array.getElem?_eq_none h]
/-- The words of M up to k, and noughts. -/
def upto (M k j : Nat) : Int := if j < k then wd M j else 0
theorem upto_all (M j : Nat) (h : j < 4) : upto M 4 j = wd M j := if_pos h
theorem upto_none (M j : Nat) : upto M 0 j = 0 := if_neg (by omega)
theorem upto_at (M k : Nat) : upto M k k = 0 := if_neg (by omega)
/-- Room for the answer, the number's words, the answer's words up to k. -/
structure Sh (w : World) (W O : Nat) (a3 a2 a1 a0 : Int) (M k : Nat) (X : World) : Prop where
  r : Has (w.heap.size + 1) [.int .u64 0, .int .u64 0, .int .u64 0, .int .u64 0] X
  a : Has W [.int .u64 a0, .int .u64 a1, .int .u64 a2, .int .u64 a3] X
  size : O < X.heap.size
  o : ∀ j, j < 4 → X.cell? ⟨O, j, none⟩ = some (.int .u64 (upto M k j))
  zr : Clear (w.heap.size + 1) X
  zo : Clear O X
  below : Below w.heap.size w X
theorem Sh.step {w : World} {W O : Nat} {a3 a2 a1 a0 : Int} {M k : Nat} {X Y : World} (h : Sh w W O a3 a2 a1 a0 M k X) (g : Below X.heap.size X Y) : Sh w W O a3 a2 a1 a0 M k Y :=
  ⟨h.r.step g, h.a.step g, Nat.lt_of_lt_of_le h.size g.size, fun j hj => by rw [(bcell g).1 _ _ h.size]; exact h.o j hj, fun j => by rw [(bcell g).2 _ _ h.r.1]; exact h.zr j, fun j => by rw [(bcell g).2 _ _ h.size]; exact h.zo j, bl_trans h.below g⟩
theorem Sh.kept {w : World} {W O : Nat} {a3 a2 a1 a0 : Int} {M k : Nat} {X : World} (h : Sh w W O a3 a2 a1 a0 M k X) (e : wd M k = 0) : Sh w W O a3 a2 a1 a0 M (k + 1) X := by
  refine ⟨h.r, h.a, h.size, fun j hj => ?_, h.zr, h.zo, h.below⟩
  rw [h.o j hj]
  congr 2
  unfold upto
  rcases Nat.lt_trichotomy j k with c | c | c
  · rw [if_pos c, if_pos (by omega)]
  · subst c; rw [if_neg (by omega), if_pos (by omega), e]
  · rw [if_neg (by omega), if_neg (by omega)]
theorem Sh.wrote {w : World} {W O : Nat} {a3 a2 a1 a0 : Int} {M k : Nat} {X Y : World} (h : Sh w W O a3 a2 a1 a0 M k X) (hW : Wrote O k 1 X Y) (nr : w.heap.size + 1 ≠ O) (nw : W ≠ O) (hO : w.heap.size ≤ O) (e : Y.cell? ⟨O, k, none⟩ = some (.int .u64 (wd M k))) :
    Sh w W O a3 a2 a1 a0 M (k + 1) Y := by
  refine ⟨⟨Nat.lt_of_lt_of_le h.r.1 hW.size, fun j x g => ?_⟩, ⟨Nat.lt_of_lt_of_le h.a.1 hW.size, fun j x g => ?_⟩, Nat.lt_of_lt_of_le h.size hW.size, fun j hj => ?_, fun j => ?_, fun j => ?_, ?_⟩
  · rw [hW.other h.r.1 nr]; exact h.r.2 j x g
  · rw [hW.other h.a.1 nw]; exact h.a.2 j x g
  · unfold upto
    rcases Nat.lt_trichotomy j k with c | c | c
    · rw [hW.cells j (Or.inl c), h.o j hj]; unfold upto; rw [if_pos c, if_pos (by omega)]
    · subst c; rw [if_pos (by omega)]; exact e
    · rw [hW.cells j (Or.inr (by omega)), h.o j hj]; unfold upto; rw [if_neg (by omega), if_neg (by omega)]
  · rw [World.frozen?_of_block (a := ⟨w.heap.size + 1, j, none⟩) (hW.block (w.heap.size + 1) h.r.1 nr)]; exact h.zr j
  · rw [hW.frozen]; exact h.zo j
  · exact h.below.trans (hW.below (B0 := w.heap.size) hO (by have := h.below.size; omega))
end Go.Proofs.Ytmmlekgojblopaa
namespace Go.Proofs.Ytmmlekgojblopaa
open Go.RowKit

theorem rshl_neg (a3 a2 a1 a0 : Int) (n : Int) (hn : n < 0) (w : World) :
    Calls Try.prog 31 #[.agg #[.int .u64 a3, .int .u64 a2, .int .u64 a1, .int .u64 a0], .int .i64 n] w fun e w' => e = .returned (.agg #[.int .u64 a3, .int .u64 a2, .int .u64 a1, .int .u64 a0]) ∧ Below w.heap.size w w' := by
  go_enter Try.func31, Try.ntmps31
  go_wp2_with fail
  refine bodyPost_ret (by simp [results, Try.results31, go_sem, *]; try rfl) rfl ?_
  exact ⟨rfl, bb⟩
set_option maxHeartbeats 8000000 in
theorem rshl_core (a3 a2 a1 a0 : Int) (q r M : Nat) (n : Int) (hn0 : 0 ≤ n) (hr : r < 64) (hq : q < 4 → n < 256) (hq2 : ¬ q < 4 → ¬ n < 256) (h63 : q < 9223372036854775800)
    (e1 : n.tdiv 64 = (q : Int)) (e2 : n.tmod 64 = (r : Int)) (x : Nat → Int) (hx : ∀ j, j < 4 → ([.int .u64 a0, .int .u64 a1, .int .u64 a2, .int .u64 a3] : List Value)[j]? = some (.int .u64 (x j)))
    (m1 : ∀ k, k < q → k < 4 → wd M k = 0) (m2 : q < 4 → IntKind.u64.wrap (x 0 * 2 ^ r) = wd M q)
    (m3 : ∀ j, q + j + 1 < 4 → r = 0 → IntKind.u64.wrap (x (j + 1) * 2 ^ r) = wd M (q + j + 1))
    (m4 : ∀ j, q + j + 1 < 4 → 0 < r → bits .or .u64 (IntKind.u64.wrap (x (j + 1) * 2 ^ r)) (x j / 2 ^ (64 - r)) = wd M (q + j + 1))
    (w : World) :
    Calls Try.prog 31 #[.agg #[.int .u64 a3, .int .u64 a2, .int .u64 a1, .int .u64 a0], .int .i64 n] w fun e w' => e = .returned (.agg #[.int .u64 (wd M 3), .int .u64 (wd M 2), .int .u64 (wd M 1), .int .u64 (wd M 0)]) ∧ Below w.heap.size w w' := by
  have HM1 := Lib.hid m1; have HM2 := Lib.hid m2; have HM3 := Lib.hid m3; have HM4 := Lib.hid m4; have HX := Lib.hid hx
  have HQ := Lib.hid hq; have HQ2 := Lib.hid hq2
  clear m1 m2 m3 m4 hx hq hq2
  have hn : ¬ n < 0 := by omega
  have hmk : ∀ w, (Instr.makeSlice 93 (.int .i64 4) (.int .i64 4)).run Try.prog w = .ok (.slice (some ⟨w.heap.size, 0, none⟩) 4 4) (w.alloc (.cells #[.int .u64 0, .int .u64 0, .int .u64 0, .int .u64 0] 22)) := fun _ => by kernel_rfl
  go_enter Try.func31, Try.ntmps31
  go_wp2_with fail
  refine (rwords_any a3 a2 a1 a0 _).mono ?_
  rintro e w1 ⟨rfl, hH, hb⟩
  have hz : w.heap.size + 1 < w1.heap.size := by have hz := hb.size; simp at hz; omega
  obtain ⟨hcl, hfr⟩ := bcell hb
  have HB1 := hbw (a := w) hb
  have HH := Lib.hid hH
  clear hb hH
  go_wp2_with fail
  refine nw _ fun R hR => ?_
  have hH : Has (w.heap.size + 1 + 1 + 1) [.int .u64 a0, .int .u64 a1, .int .u64 a2, .int .u64 a3] w1 := by have := HH.out; simpa using this
  have hz2 := hH.1
  have g0 : Sh w (w.heap.size + 1 + 1 + 1) w1.heap.size a3 a2 a1 a0 M 0 R := by
    have hst : Below w1.heap.size w1 (w1.alloc (.cells #[.int .u64 0, .int .u64 0, .int .u64 0, .int .u64 0] 22)) := bl_al (Below.refl _ _) _
    rw [hR]
    refine ⟨Has.mk4 (by simp; omega) (by simp [go_sem, *]) (by simp [go_sem, *]) (by simp [go_sem, *]) (by simp [go_sem, *]), hH.step hst, by simp, fun j hj => ?_, fun j => ?_, fun j => ?_, bb⟩
    · rw [upto_none]; rcases (show j = 0 ∨ j = 1 ∨ j = 2 ∨ j = 3 by omega) with rfl | rfl | rfl | rfl <;> simp [go_sem]
    · simp only [frozen?_alloc_cells]; rw [hfr _ _ (by simp)]; simp only [frozen?_alloc_cells]; exact frozen_new (by omega)
    · simp only [frozen?_alloc_cells]; exact frozen_new (by omega)
  have nr : w.heap.size + 1 ≠ w1.heap.size := by omega
  have nw : w.heap.size + 1 + 1 + 1 ≠ w1.heap.size := by omega
  have nl : w.heap.size ≤ w1.heap.size := by omega
  have G0 := Lib.hid g0
  clear g0 hR hH hz2 hz hcl hfr HB1 HH hmk
  generalize w.heap.size + 1 + 1 + 1 = W at *
  generalize w1.heap.size = O at *
  have nr2 : ¬ O = w.heap.size + 1 := fun h => nr h.symm
  have nw2 : ¬ O = W := fun h => nw h.symm
  go_loopg [7] 4 (fun m iv wr => ∃ k : Nat, k + m = 4 ∧ iv = .int .i64 (k : Int) ∧ Sh w W O a3 a2 a1 a0 M k wr)
  case atStart => exact ⟨0, rfl, rfl, G0.out⟩
  case round =>
    obtain ⟨k, hk, rfl, P⟩ := hrel
    clear G0
    have HP := Lib.hid P
    have e4 : IntKind.i64.wrap (q : Int) = q := IntWalk.i64_in _ (by omega)
    have e5 : IntKind.i64.wrap ((k : Int) + 1) = (k : Int) + 1 := IntWalk.i64_in _ (by omega)
    have r6 : (r : Int) < 64 := by omega
    have r7 : (0 : Int) ≤ 64 - (r : Int) := by omega
    have r8 : IntKind.i64.wrap (64 - (r : Int)) = 64 - (r : Int) := IntWalk.i64_in _ (by omega)
    have r9 : (64 - (r : Int)).toNat = 64 - r := by omega
    by_cases hend : k = 4 ∨ ¬ q < 4
    · have hF : Has O [.int .u64 (wd M 0), .int .u64 (wd M 1), .int .u64 (wd M 2), .int .u64 (wd M 3)] wr := by
        have key : ∀ j, j < 4 → upto M k j = wd M j := fun j hj => by
          rcases hend with h | h
          · subst h; exact upto_all M j hj
          · have := HM1.out j (by omega) hj
            unfold upto; split
            · rfl
            · exact this.symm
        refine Has.mk4 P.size ?_ ?_ ?_ ?_
        all_goals (rw [P.o _ (by decide), key _ (by decide)])
      have hF1 := Lib.hid hF
      have hr0 := P.r.2 0 _ rfl; have hr1 := P.r.2 1 _ rfl; have hr2 := P.r.2 2 _ rfl; have hr3 := P.r.2 3 _ rfl
      have zr : ∀ j, wr.frozen? ⟨w.heap.size + 1, j, none⟩ = false := P.zr
      have zz := P.r.1
      clear P hF HM1 HM2 HM3 HM4 HX
      have hex : ¬ (k : Int) < 4 ∨ ((k : Int) < 4 ∧ ¬ n < 256) := by
        rcases Nat.lt_or_ge k 4 with h | h
        · right; rcases hend with c | c
          · omega
          · exact ⟨by omega, by have := HQ2.out c; omega⟩
        · left; omega
      clear hend HQ HQ2
      rcases hex with hex | ⟨hex, hex2⟩
      all_goals (
        go_wp2_with fail
        refine (rfour_any O _ _ _ _ _ hF1.out).mono ?_
        rintro e w2 ⟨rfl, hb⟩
        obtain ⟨hcl, hfr⟩ := bcell hb
        have zz2 : w.heap.size + 1 < w2.heap.size := Nat.lt_of_lt_of_le zz hb.size
        have zf : ∀ j, w2.frozen? ⟨w.heap.size + 1, j, none⟩ = false := fun j => by rw [hfr _ _ zz]; exact zr j
        have HB := Lib.hid (bl_trans HP.out.below hb)
        clear hb hF1 HP hfr
        go_wp2_with fail
        refine bodyPost_ret (by simp [results, Try.results31, go_sem, *]; try rfl) rfl ?_
        exact ⟨rfl, Below.setCell (Below.setCell (Below.setCell (Below.setCell HB.out (by simp) _) (by simp) _) (by simp) _) (by simp) _⟩)
    · have hk4 : k < 4 := by omega
      have hq4 : q < 4 := by omega
      have h256 := HQ.out hq4
      obtain ⟨m, rfl⟩ : ∃ m, gk = m + 1 := ⟨gk - 1, by omega⟩
      have kk : (k : Int) < 4 := by omega
      have co := P.o k hk4
      have fo : ∀ j, wr.frozen? ⟨O, j, none⟩ = false := P.zo
      have zO := P.size
      clear hend HQ HQ2
      rw [upto_at] at co
      rcases Nat.lt_trichotomy k q with hlt | heq | hgt
      · have hd : ¬ (0 : Int) ≤ (k : Int) - q := by omega
        have hd1 : ¬ (1 : Int) ≤ (k : Int) - q := by omega
        have hw : IntKind.i64.wrap ((k : Int) - q) = (k : Int) - q := IntWalk.i64_in _ (by omega)
        have hm := Lib.hid (HM1.out k hlt hk4)
        clear P HM1 HM2 HM3 HM4 HX
        go_wp2_with fail
        go_roundg m
        case measure => omega
        case rel => exact ⟨k + 1, by omega, by simp, HP.out.kept hm.out⟩
      · have hd : (k : Int) - q = 0 := by omega
        have cw := P.a.2 0 _ (HX.out 0 (by decide))
        have hm := HM2.out hq4
        rw [← heq] at hm
        clear P HM1 HM2 HM3 HM4 HX heq
        go_wp2_with fail
        go_roundg m
        case measure => omega
        case rel => exact ⟨k + 1, by omega, by simp, HP.out.wrote (Wrote.setCell (Wrote.refl _ _ _ _) (Nat.le_refl _) (Nat.lt_succ_self _) _) nr nw nl (by simp [go_sem, *])⟩
      · obtain ⟨j, hj⟩ : ∃ j, k = q + j + 1 := ⟨k - q - 1, by omega⟩
        obtain ⟨jj, hjj⟩ : ∃ jj, jj = j + 1 := ⟨_, rfl⟩
        have hd : (k : Int) - q = (jj : Int) := by omega
        have hd1 : (1 : Int) ≤ (jj : Int) := by omega
        have hd2 : (jj : Int) - 1 = (j : Int) := by omega
        have hd3 : (jj : Int) < 4 := by omega
        have hd4 : (j : Int) < 4 := by omega
        have hw1 : IntKind.i64.wrap (jj : Int) = jj := IntWalk.i64_in _ (by omega)
        have hw2 : IntKind.i64.wrap (j : Int) = j := IntWalk.i64_in _ (by omega)
        have cw := P.a.2 jj _ (HX.out jj (by omega))
        have cv := P.a.2 j _ (HX.out j (by omega))
        have zW := P.a.1
        rcases Nat.eq_zero_or_pos r with hr0 | hr0
        · have hm := HM3.out j (by omega) hr0
          rw [← hj, ← hjj] at hm
          have hr1 : ¬ (0 : Int) < (r : Int) := by omega
          clear P HM1 HM2 HM3 HM4 HX hj hjj hgt hr0
          go_wp2_with fail
          go_roundg m
          case measure => omega
          case rel => exact ⟨k + 1, by omega, by simp, HP.out.wrote (Wrote.setCell (Wrote.refl _ _ _ _) (Nat.le_refl _) (Nat.lt_succ_self _) _) nr nw nl (by simp [go_sem, *])⟩
        · have hm := HM4.out j (by omega) hr0
          rw [← hj, ← hjj] at hm
          have hr1 : (0 : Int) < (r : Int) := by omega
          clear P HM1 HM2 HM3 HM4 HX hj hjj hgt hr0
          go_wp2_with fail
          go_region_with (fail)
          all_goals (
            go_wp2_with fail
            go_roundg m
            case measure => omega
            case rel => exact ⟨k + 1, by omega, by simp, HP.out.wrote ((Wrote.setCell (Wrote.setCell (Wrote.refl _ _ _ _) (Nat.le_refl _) (Nat.lt_succ_self _) _) (Nat.le_refl _) (Nat.lt_succ_self _) _).drew) nr nw nl (by simp [go_sem, *])⟩)
theorem rshl_any (a3 a2 a1 a0 n : Int) (h3 : Wd a3) (h2 : Wd a2) (h1 : Wd a1) (h0 : Wd a0) (hn : n < 9223372036854775808) (w : World) :
    Calls Try.prog 31 #[.agg #[.int .u64 a3, .int .u64 a2, .int .u64 a1, .int .u64 a0], .int .i64 n] w fun e w' => e = .returned (.agg #[.int .u64 (wd (v4 a3 a2 a1 a0 * 2 ^ n.toNat) 3), .int .u64 (wd (v4 a3 a2 a1 a0 * 2 ^ n.toNat) 2), .int .u64 (wd (v4 a3 a2 a1 a0 * 2 ^ n.toNat) 1), .int .u64 (wd (v4 a3 a2 a1 a0 * 2 ^ n.toNat) 0)]) ∧ Below w.heap.size w w' := by
  by_cases c : n < 0
  · rw [show n.toNat = 0 by omega, Nat.pow_zero, Nat.mul_one, wd_v4_3 h3 h2 h1 h0, wd_v4_2 h3 h2 h1 h0, wd_v4_1 h3 h2 h1 h0, wd_v4_0 h3 h2 h1 h0]
    exact rshl_neg a3 a2 a1 a0 n c w
  have hV := v4_lt h3 h2 h1 h0
  obtain ⟨N, rfl⟩ := Int.eq_ofNat_of_zero_le (show 0 ≤ n by omega)
  rw [Int.toNat_natCast]
  have e : 64 * (N / 64) + N % 64 = N := by omega
  have F : ∀ j, j < 4 → ([.int .u64 a0, .int .u64 a1, .int .u64 a2, .int .u64 a3] : List Value)[j]? = some (.int .u64 (wd (v4 a3 a2 a1 a0) j)) := fun j hj => four_at h3 h2 h1 h0 hj
  refine rshl_core a3 a2 a1 a0 (N / 64) (N % 64) _ N (by omega) (by omega) (by omega) (by omega) (by omega) (by rw [Int.tdiv_eq_ediv_of_nonneg (by omega)]; omega) (by rw [Int.tmod_eq_emod_of_nonneg (by omega)]; omega) (fun j => wd (v4 a3 a2 a1 a0) j) F ?_ ?_ ?_ ?_ w
  · intro k hk _
    rw [← e]; exact shl_none (by omega)
  · intro _
    have := shl_lo (v4 a3 a2 a1 a0) (N / 64) (N % 64)
    rw [e] at this; exact this.symm
  · intro j _ hr
    have := shl_hi (v4 a3 a2 a1 a0) (N / 64) (N % 64) j (by omega)
    rw [e] at this; rw [this, hr, show (64 : Nat) - 0 = 64 from rfl]
    have hw := wd_wd (v4 a3 a2 a1 a0) j
    rw [show wd (v4 a3 a2 a1 a0) j / 2 ^ 64 = 0 by obtain ⟨_, _⟩ := hw; rw [show ((2 : Int) ^ 64) = 18446744073709551616 by decide]; omega]
    exact (or_zero2 _ (by rw [wrap_u64]; exact ⟨by omega, by omega⟩)).symm
  · intro j _ _
    have := shl_hi (v4 a3 a2 a1 a0) (N / 64) (N % 64) j (by omega)
    rw [e] at this; exact this.symm
end Go.Proofs.Ytmmlekgojblopaa
namespace Go.Proofs.Ytmmlekgojblopaa
open Go.RowKit

theorem rshr_neg (a3 a2 a1 a0 : Int) (n : Int) (hn : n < 0) (w : World) :
    Calls Try.prog 50 #[.agg #[.int .u64 a3, .int .u64 a2, .int .u64 a1, .int .u64 a0], .int .i64 n] w fun e w' => e = .returned (.agg #[.int .u64 a3, .int .u64 a2, .int .u64 a1, .int .u64 a0]) ∧ Below w.heap.size w w' := by
  go_enter Try.func50, Try.ntmps50
  go_wp2_with fail
  refine bodyPost_ret (by simp [results, Try.results50, go_sem, *]; try rfl) rfl ?_
  exact ⟨rfl, bb⟩
set_option maxHeartbeats 8000000 in
theorem rshr_core (a3 a2 a1 a0 : Int) (q r M : Nat) (n : Int) (hn0 : 0 ≤ n) (hr : r < 64) (hq : q < 4 → n < 256) (hq2 : ¬ q < 4 → ¬ n < 256) (h63 : q < 9223372036854775800)
    (e1 : n.tdiv 64 = (q : Int)) (e2 : n.tmod 64 = (r : Int)) (x : Nat → Int) (hx : ∀ j, j < 4 → ([.int .u64 a0, .int .u64 a1, .int .u64 a2, .int .u64 a3] : List Value)[j]? = some (.int .u64 (x j)))
    (m1 : ∀ k, 4 ≤ k + q → k < 4 → wd M k = 0) (m2 : ∀ k, k + q = 3 → x 3 / 2 ^ r = wd M k)
    (m3 : ∀ k, k + q < 3 → r = 0 → x (k + q) / 2 ^ r = wd M k)
    (m4 : ∀ k, k + q < 3 → 0 < r → bits .or .u64 (x (k + q) / 2 ^ r) (IntKind.u64.wrap (x (k + q + 1) * 2 ^ (64 - r))) = wd M k)
    (w : World) :
    Calls Try.prog 50 #[.agg #[.int .u64 a3, .int .u64 a2, .int .u64 a1, .int .u64 a0], .int .i64 n] w fun e w' => e = .returned (.agg #[.int .u64 (wd M 3), .int .u64 (wd M 2), .int .u64 (wd M 1), .int .u64 (wd M 0)]) ∧ Below w.heap.size w w' := by
  have HM1 := Lib.hid m1; have HM2 := Lib.hid m2; have HM3 := Lib.hid m3; have HM4 := Lib.hid m4; have HX := Lib.hid hx
  have HQ := Lib.hid hq; have HQ2 := Lib.hid hq2
  clear m1 m2 m3 m4 hx hq hq2
  have hn : ¬ n < 0 := by omega
  have hmk : ∀ w, (Instr.makeSlice 93 (.int .i64 4) (.int .i64 4)).run Try.prog w = .ok (.slice (some ⟨w.heap.size, 0, none⟩) 4 4) (w.alloc (.cells #[.int .u64 0, .int .u64 0, .int .u64 0, .int .u64 0] 22)) := fun _ => by kernel_rfl
  go_enter Try.func50, Try.ntmps50
  go_wp2_with fail
  refine (rwords_any a3 a2 a1 a0 _).mono ?_
  rintro e w1 ⟨rfl, hH, hb⟩
  have hz : w.heap.size + 1 < w1.heap.size := by have hz := hb.size; simp at hz; omega
  obtain ⟨hcl, hfr⟩ := bcell hb
  have HB1 := hbw (a := w) hb
  have HH := Lib.hid hH
  clear hb hH
  go_wp2_with fail
  refine nw _ fun R hR => ?_
  have hH : Has (w.heap.size + 1 + 1 + 1) [.int .u64 a0, .int .u64 a1, .int .u64 a2, .int .u64 a3] w1 := by have := HH.out; simpa using this
  have hz2 := hH.1
  have g0 : Sh w (w.heap.size + 1 + 1 + 1) w1.heap.size a3 a2 a1 a0 M 0 R := by
    have hst : Below w1.heap.size w1 (w1.alloc (.cells #[.int .u64 0, .int .u64 0, .int .u64 0, .int .u64 0] 22)) := bl_al (Below.refl _ _) _
    rw [hR]
    refine ⟨Has.mk4 (by simp; omega) (by simp [go_sem, *]) (by simp [go_sem, *]) (by simp [go_sem, *]) (by simp [go_sem, *]), hH.step hst, by simp, fun j hj => ?_, fun j => ?_, fun j => ?_, bb⟩
    · rw [upto_none]; rcases (show j = 0 ∨ j = 1 ∨ j = 2 ∨ j = 3 by omega) with rfl | rfl | rfl | rfl <;> simp [go_sem]
    · simp only [frozen?_alloc_cells]; rw [hfr _ _ (by simp)]; simp only [frozen?_alloc_cells]; exact frozen_new (by omega)
    · simp only [frozen?_alloc_cells]; exact frozen_new (by omega)
  have nr : w.heap.size + 1 ≠ w1.heap.size := by omega
  have nw : w.heap.size + 1 + 1 + 1 ≠ w1.heap.size := by omega
  have nl : w.heap.size ≤ w1.heap.size := by omega
  have G0 := Lib.hid g0
  clear g0 hR hH hz2 hz hcl hfr HB1 HH hmk
  generalize w.heap.size + 1 + 1 + 1 = W at *
  generalize w1.heap.size = O at *
  have nr2 : ¬ O = w.heap.size + 1 := fun h => nr h.symm
  have nw2 : ¬ O = W := fun h => nw h.symm
  go_loopg [7] 4 (fun m iv wr => ∃ k : Nat, k + m = 4 ∧ iv = .int .i64 (k : Int) ∧ Sh w W O a3 a2 a1 a0 M k wr)
  case atStart => exact ⟨0, rfl, rfl, G0.out⟩
  case round =>
    obtain ⟨k, hk, rfl, P⟩ := hrel
    clear G0
    have HP := Lib.hid P
    have e4 : IntKind.i64.wrap (q : Int) = q := IntWalk.i64_in _ (by omega)
    have e5 : IntKind.i64.wrap ((k : Int) + 1) = (k : Int) + 1 := IntWalk.i64_in _ (by omega)
    have r6 : (r : Int) < 64 := by omega
    have r7 : (0 : Int) ≤ 64 - (r : Int) := by omega
    have r8 : IntKind.i64.wrap (64 - (r : Int)) = 64 - (r : Int) := IntWalk.i64_in _ (by omega)
    have r9 : (64 - (r : Int)).toNat = 64 - r := by omega
    by_cases hend : k = 4 ∨ ¬ q < 4
    · have hF : Has O [.int .u64 (wd M 0), .int .u64 (wd M 1), .int .u64 (wd M 2), .int .u64 (wd M 3)] wr := by
        have key : ∀ j, j < 4 → upto M k j = wd M j := fun j hj => by
          rcases hend with h | h
          · subst h; exact upto_all M j hj
          · have := HM1.out j (by omega) hj
            unfold upto; split
            · rfl
            · exact this.symm
        refine Has.mk4 P.size ?_ ?_ ?_ ?_
        all_goals (rw [P.o _ (by decide), key _ (by decide)])
      have hF1 := Lib.hid hF
      have hr0 := P.r.2 0 _ rfl; have hr1 := P.r.2 1 _ rfl; have hr2 := P.r.2 2 _ rfl; have hr3 := P.r.2 3 _ rfl
      have zr : ∀ j, wr.frozen? ⟨w.heap.size + 1, j, none⟩ = false := P.zr
      have zz := P.r.1
      clear P hF HM1 HM2 HM3 HM4 HX
      have hex : ¬ (k : Int) < 4 ∨ ((k : Int) < 4 ∧ ¬ n < 256) := by
        rcases Nat.lt_or_ge k 4 with h | h
        · right; rcases hend with c | c
          · omega
          · exact ⟨by omega, by have := HQ2.out c; omega⟩
        · left; omega
      clear hend HQ HQ2
      rcases hex with hex | ⟨hex, hex2⟩
      all_goals (
        go_wp2_with fail
        refine (rfour_any O _ _ _ _ _ hF1.out).mono ?_
        rintro e w2 ⟨rfl, hb⟩
        obtain ⟨hcl, hfr⟩ := bcell hb
        have zz2 : w.heap.size + 1 < w2.heap.size := Nat.lt_of_lt_of_le zz hb.size
        have zf : ∀ j, w2.frozen? ⟨w.heap.size + 1, j, none⟩ = false := fun j => by rw [hfr _ _ zz]; exact zr j
        have HB := Lib.hid (bl_trans HP.out.below hb)
        clear hb hF1 HP hfr
        go_wp2_with fail
        refine bodyPost_ret (by simp [results, Try.results50, go_sem, *]; try rfl) rfl ?_
        exact ⟨rfl, Below.setCell (Below.setCell (Below.setCell (Below.setCell HB.out (by simp) _) (by simp) _) (by simp) _) (by simp) _⟩)
    · have hk4 : k < 4 := by omega
      have hq4 : q < 4 := by omega
      have h256 := HQ.out hq4
      obtain ⟨m, rfl⟩ : ∃ m, gk = m + 1 := ⟨gk - 1, by omega⟩
      have kk : (k : Int) < 4 := by omega
      have co := P.o k hk4
      have fo : ∀ j, wr.frozen? ⟨O, j, none⟩ = false := P.zo
      have zO := P.size
      clear hend HQ HQ2
      rw [upto_at] at co
      rcases (show 4 ≤ k + q ∨ k + q = 3 ∨ k + q < 3 by omega) with hlt | heq | hgt
      · have hd : ¬ (k : Int) + q < 4 := by omega
        have hd1 : ¬ (k : Int) + q < 3 := by omega
        have hw : IntKind.i64.wrap ((k : Int) + q) = (k : Int) + q := IntWalk.i64_in _ (by omega)
        have hm := Lib.hid (HM1.out k hlt hk4)
        clear P HM1 HM2 HM3 HM4 HX
        go_wp2_with fail
        go_roundg m
        case measure => omega
        case rel => exact ⟨k + 1, by omega, by simp, HP.out.kept hm.out⟩
      · have hd : (k : Int) + q = 3 := by omega
        have cw := P.a.2 3 _ (HX.out 3 (by decide))
        have hm := HM2.out k heq
        clear P HM1 HM2 HM3 HM4 HX heq
        go_wp2_with fail
        go_roundg m
        case measure => omega
        case rel => exact ⟨k + 1, by omega, by simp, HP.out.wrote (Wrote.setCell (Wrote.refl _ _ _ _) (Nat.le_refl _) (Nat.lt_succ_self _) _) nr nw nl (by simp [go_sem, *])⟩
      · obtain ⟨j, hj⟩ : ∃ j, j = k + q := ⟨_, rfl⟩
        obtain ⟨jj, hjj⟩ : ∃ jj, jj = j + 1 := ⟨_, rfl⟩
        have hd : (k : Int) + q = (j : Int) := by omega
        have hd1 : (j : Int) < 3 := by omega
        have hd2 : (j : Int) + 1 = (jj : Int) := by omega
        have hd3 : (jj : Int) < 4 := by omega
        have hd4 : (j : Int) < 4 := by omega
        have hw1 : IntKind.i64.wrap (jj : Int) = jj := IntWalk.i64_in _ (by omega)
        have hw2 : IntKind.i64.wrap (j : Int) = j := IntWalk.i64_in _ (by omega)
        have cw := P.a.2 jj _ (HX.out jj (by omega))
        have cv := P.a.2 j _ (HX.out j (by omega))
        have zW := P.a.1
        rcases Nat.eq_zero_or_pos r with hr0 | hr0
        · have hm := HM3.out k (by omega) hr0
          rw [← hj] at hm
          have hr1 : ¬ (0 : Int) < (r : Int) := by omega
          clear P HM1 HM2 HM3 HM4 HX hj hjj hgt hr0
          go_wp2_with fail
          go_roundg m
          case measure => omega
          case rel => exact ⟨k + 1, by omega, by simp, HP.out.wrote (Wrote.setCell (Wrote.refl _ _ _ _) (Nat.le_refl _) (Nat.lt_succ_self _) _) nr nw nl (by simp [go_sem, *])⟩
        · have hm := HM4.out k (by omega) hr0
          rw [← hj, ← hjj] at hm
          have hr1 : (0 : Int) < (r : Int) := by omega
          clear P HM1 HM2 HM3 HM4 HX hj hjj hgt hr0
          go_wp2_with fail
          go_region_with (fail)
          all_goals (
            go_wp2_with fail
            go_roundg m
            case measure => omega
            case rel => exact ⟨k + 1, by omega, by simp, HP.out.wrote ((Wrote.setCell (Wrote.setCell (Wrote.refl _ _ _ _) (Nat.le_refl _) (Nat.lt_succ_self _) _) (Nat.le_refl _) (Nat.lt_succ_self _) _).drew) nr nw nl (by simp [go_sem, *])⟩)
theorem rshr_any (a3 a2 a1 a0 n : Int) (h3 : Wd a3) (h2 : Wd a2) (h1 : Wd a1) (h0 : Wd a0) (hn : n < 9223372036854775808) (w : World) :
    Calls Try.prog 50 #[.agg #[.int .u64 a3, .int .u64 a2, .int .u64 a1, .int .u64 a0], .int .i64 n] w fun e w' => e = .returned (.agg #[.int .u64 (wd (v4 a3 a2 a1 a0 / 2 ^ n.toNat) 3), .int .u64 (wd (v4 a3 a2 a1 a0 / 2 ^ n.toNat) 2), .int .u64 (wd (v4 a3 a2 a1 a0 / 2 ^ n.toNat) 1), .int .u64 (wd (v4 a3 a2 a1 a0 / 2 ^ n.toNat) 0)]) ∧ Below w.heap.size w w' := by
  by_cases c : n < 0
  · rw [show n.toNat = 0 by omega, Nat.pow_zero, Nat.div_one, wd_v4_3 h3 h2 h1 h0, wd_v4_2 h3 h2 h1 h0, wd_v4_1 h3 h2 h1 h0, wd_v4_0 h3 h2 h1 h0]
    exact rshr_neg a3 a2 a1 a0 n c w
  have hV := v4_lt h3 h2 h1 h0
  obtain ⟨N, rfl⟩ := Int.eq_ofNat_of_zero_le (show 0 ≤ n by omega)
  rw [Int.toNat_natCast]
  have e : 64 * (N / 64) + N % 64 = N := by omega
  have F : ∀ j, j < 4 → ([.int .u64 a0, .int .u64 a1, .int .u64 a2, .int .u64 a3] : List Value)[j]? = some (.int .u64 (wd (v4 a3 a2 a1 a0) j)) := fun j hj => four_at h3 h2 h1 h0 hj
  refine rshr_core a3 a2 a1 a0 (N / 64) (N % 64) _ N (by omega) (by omega) (by omega) (by omega) (by omega) (by rw [Int.tdiv_eq_ediv_of_nonneg (by omega)]; omega) (by rw [Int.tmod_eq_emod_of_nonneg (by omega)]; omega) (fun j => wd (v4 a3 a2 a1 a0) j) F ?_ ?_ ?_ ?_ w
  · intro k hk _
    have := shr_w (v4 a3 a2 a1 a0) (N / 64) (N % 64) k (by omega)
    rw [e, wd_high hV (by omega), wd_high hV (by omega), ← shr_zero] at this
    exact this
  · intro k hk
    have := shr_w (v4 a3 a2 a1 a0) (N / 64) (N % 64) k (by omega)
    rw [e, wd_high (k := k + N / 64 + 1) hV (by omega), hk, Int.zero_mul, show IntKind.u64.wrap 0 = 0 from rfl, or_zero2 _ (wd_div (wd_wd _ _) _)] at this
    exact this.symm
  · intro k _ hr
    have := shr_w (v4 a3 a2 a1 a0) (N / 64) (N % 64) k (by omega)
    rw [e, hr, show (64 : Nat) - 0 = 64 from rfl] at this
    have z : IntKind.u64.wrap (wd (v4 a3 a2 a1 a0) (k + N / 64 + 1) * 2 ^ 64) = 0 := by rw [wrap_u64, show ((2 : Int) ^ 64) = 18446744073709551616 by decide]; exact Int.mul_emod_left _ _
    rw [z, or_zero2 _ (wd_div (wd_wd _ _) _)] at this
    rw [hr]; exact this.symm
  · intro k _ _
    have := shr_w (v4 a3 a2 a1 a0) (N / 64) (N % 64) k (by omega)
    rw [e] at this; exact this.symm
end Go.Proofs.Ytmmlekgojblopaa
