/- What the laws of vec want beside their walks: equality of ways, the law's own awake. -/
import Derived.Test.YtjilnmpajhifcaaGreatZzFixA
import Derived.Test.YtjilnmpajhifcaaGreatZzLimC
import Derived.Maps.Own
import Derived.MapViews
import Derived.DeepKeys4
import Derived.Test.YtjilnmpajhifcaaGreatZzFixB
import Derived.Test.YtjilnmpajhifcaaGreatZzLimA
import Derived.Carry
import Derived.Test.YtjilnmpajhifcaaGreatZzRefA
namespace Go.Proofs.YtjilnmpajhifcaaGreat
open Go.ChangeShapes Go.WideShapes Go.ChangeAt Go.RowKit Go.Joins

theorem cells_vec : Tryz.prog.cellsOf 29 = 4 := by kernel_rfl
/-- A way as a value. -/
def vec (x y : Int) : Value := .agg #[.int .i64 (fh x), .int .u64 (fl x), .int .i64 (fh y), .int .u64 (fl y)]
section
variable {H : Type} {enc : TypeId × Value → H} {w : World} {base : Nat} {spare : Nat → Bool} {held : Bool}
def vecd (H : Type) (x y : Int) : DataW H := .agg [.agg [.lit (.int .i64 (fh x)), .lit (.int .u64 (fl x))], .agg [.lit (.int .i64 (fh y)), .lit (.int .u64 (fl y))]]
set_option maxRecDepth 20000 in
theorem open_vec {r : Reach} {b0 : Nat} {v : Value} {d : DataW H} {p : List MemPlace} (hv : Value.okWide Tryz.prog w r b0 29 v) (h : DataW.Trod enc Tryz.prog w base spare held 29 v d p) :
    ∃ x y : Int, v = vec x y ∧ d = vecd H x y ∧ p = [] ∧ Fx x ∧ Fx y := by
  obtain ⟨cs, rfl, hsz⟩ := okWide_struct Tryz.underlying29 hv
  obtain ⟨c0, c1, c2, c3, rfl⟩ := array4 (hsz.trans cells_vec)
  obtain ⟨fuel, hf⟩ := h
  obtain ⟨y0, y1, m, e, _, g0, g1⟩ := trod_struct2 Tryz.underlying29 hf
  simp [Value.cells, cells_fix] at g0 g1
  obtain ⟨a3, a2, rfl, rfl, rfl, k3, k2⟩ := trod_fix g0
  obtain ⟨a1, a0, rfl, rfl, rfl, k1, k0⟩ := trod_fix g1
  simp only [Prod.mk.injEq] at e
  refine ⟨fx a3 a2, fx a1 a0, ?_, ?_, by simpa using e.2, fx_Fx k3 k2, fx_Fx k1 k0⟩
  · unfold vec; rw [fh_fx k2, fl_fx k2, fh_fx k0, fl_fx k0]
  · unfold vecd; rw [fh_fx k2, fl_fx k2, fh_fx k0, fl_fx k0]; exact e.1
set_option maxRecDepth 20000 in
theorem shut_vec {x y : Int} (hx : Fx x) (hy : Fx y) : DataW.Trod enc Tryz.prog w base spare held 29 (vec x y) (vecd H x y) [] := by
  have := trod_struct2_mk (enc := enc) (w := w) (base := base) (spare := spare) (held := held) (n := 2) (cs := [.int .i64 (fh x), .int .u64 (fl x), .int .i64 (fh y), .int .u64 (fl y)]) (y0 := (.agg [.lit (.int .i64 (fh x)), .lit (.int .u64 (fl x))], [])) (y1 := (.agg [.lit (.int .i64 (fh y)), .lit (.int .u64 (fl y))], [])) Tryz.underlying29 (by simp [cells_vec])
    (by simpa [cells_fix] using trod_fix_mk 0 (fh_hd hx) (fl_wd x)) (by simpa [cells_fix] using trod_fix_mk 0 (fh_hd hy) (fl_wd y))
  exact ⟨3, by simpa [vec, vecd, Value.cells] using this⟩
end
theorem laidOut : laidOutB Tryz.prog = true := by kernel_rfl
theorem vec_row : (29 : TypeId) < Tryz.prog.types.size := of_decide_eq_true (by kernel_rfl)
set_option maxRecDepth 20000 in
theorem vec_wide : (match Tryz.prog.underlying 29 with | some (.array _ _) | some (.struct _) => true | _ => false) = true := by rw [Tryz.underlying29]
set_option maxRecDepth 100000 in
theorem vec_law : Maps.Keyed Tryz.prog 29 := Maps.Keyed.of_law (deep_law_laid laidOut (m := 3) (by omega) vec_row (by kernel_rfl) vec_wide)
theorem vec_deep : Tryz.prog.keyTypeAt (Tryz.prog.types.size + 1) 29 = true := by kernel_rfl
set_option maxRecDepth 20000 in
theorem vec_formed (x y : Int) : (vec x y).formed Tryz.prog 29 = true := by simp [vec, Value.formed, Tryz.underlying29, cells_vec]
set_option maxRecDepth 100000 in
theorem vec_key (x y : Int) (hx : Fx x) (hy : Fx y) : ∃ l, keyOf Tryz.prog 29 (vec x y) = some l :=
  ⟨_, (keyOf_asKey (H := Unit) (enc := fun _ => ()) (w := default) (base := 0) (sp := fun _ => false) (held := false) vec_deep vec_wide (vec_formed x y) (shut_vec hx hy)).1⟩
open Go.ChangeMaps (setBlock)
theorem zero_fix (W : World) : (zeroValue 27).run Tryz.prog W = .ok (.agg #[.int .i64 0, .int .u64 0]) W := by kernel_rfl
section
variable {W : World} {B cl born : Nat} {x y x1 y1 : Int}
end
theorem vec_inj {x y x1 y1 : Int} (h : vec x1 y1 = vec x y) : x1 = x ∧ y1 = y := by
  unfold vec at h
  injection h with h
  have e : ∀ i : Nat, (#[Value.int .i64 (fh x1), .int .u64 (fl x1), .int .i64 (fh y1), .int .u64 (fl y1)] : Array Value)[i]? = (#[Value.int .i64 (fh x), .int .u64 (fl x), .int .i64 (fh y), .int .u64 (fl y)] : Array Value)[i]? := fun i => by rw [h]
  have e0 := e 0; have e1 := e 1; have e2 := e 2; have e3 := e 3
  simp at e0 e1 e2 e3
  unfold fh at e0 e2; unfold fl at e1 e3
  exact ⟨by omega, by omega⟩
end Go.Proofs.YtjilnmpajhifcaaGreat
namespace Go.Proofs.YtjilnmpajhifcaaGreat
open Go.RowKit
set_option maxRecDepth 20000 in
set_option maxHeartbeats 8000000 in
theorem rmayvec_core (axh axl ayh ayl : Int) (p q : Bool) (w : World)
    (C1 : Ct 64 #[.agg #[.int .i64 axh, .int .u64 axl]] (.bool p))
    (C2 : Ct 64 #[.agg #[.int .i64 ayh, .int .u64 ayl]] (.bool q)) :
    Calls Tryz.prog 38 #[.agg #[.int .i64 axh, .int .u64 axl, .int .i64 ayh, .int .u64 ayl]] w fun e w' => e = .returned (.bool (p && q)) ∧ Below w.heap.size w w' := by
  have K1 := Lib.hid C1; have K2 := Lib.hid C2
  clear C1 C2
  cases p
  · clear K2
    go_enter Tryz.func38, Tryz.ntmps38
    go_wp2_with fail
    (with_reducible refine cm (K1.out _) fun w1 hcl hfr hb => ?_)
    have HBw1 := hbw (a := w) hb
    clear hb hcl hfr
    go_wp2_with fail
    go_returns
    exact ⟨rfl, HBw1.out⟩
  · rw [Bool.true_and]
    go_enter Tryz.func38, Tryz.ntmps38
    go_wp2_with fail
    (with_reducible refine cm (K1.out _) fun w1 hcl hfr hb => ?_)
    have zw1_0 := sz (B := w.heap.size) hb
    have cw1_0_0 : w1.cell? ⟨w.heap.size, 0, none⟩ = some (.int .i64 axh) := ca hcl
    have cw1_0_1 : w1.cell? ⟨w.heap.size, 1, none⟩ = some (.int .u64 axl) := ca hcl
    have cw1_0_2 : w1.cell? ⟨w.heap.size, 2, none⟩ = some (.int .i64 ayh) := ca hcl
    have cw1_0_3 : w1.cell? ⟨w.heap.size, 3, none⟩ = some (.int .u64 ayl) := ca hcl
    have HBw1 := hbw (a := w) hb
    clear hb hcl hfr
    go_wp2_with fail
    (with_reducible refine cm (K2.out _) fun w2 hcl hfr hb => ?_)
    have HBw2 := hbw (a := w) hb
    clear hb hcl hfr
    go_wp2_with fail
    go_returns
    exact ⟨rfl, HBw2.out⟩
end Go.Proofs.YtjilnmpajhifcaaGreat
namespace Go.Proofs.YtjilnmpajhifcaaGreat
open Go.RowKit
open Go.ChangeMaps (setBlock)
section
variable {W : World} {B b : Nat}
theorem heap_al {v : Obj} (h : W.heap[B]? = some v) (o : Obj) : (W.alloc o).heap[B]? = some v := by
  have hlt : B < W.heap.size := (Array.getElem?_eq_some_iff.1 h).1
  rw [(MapKept.heap_alloc W o).2 B hlt]
  exact h
theorem cell_put (o : Obj) (j : Nat) (h : b ≠ B) : (setBlock W B o).cell? ⟨b, j, none⟩ = W.cell? ⟨b, j, none⟩ := World.cell?_of_block (by
  show (W.heap.setIfInBounds B o)[b]? = W.heap[b]?
  rw [Array.getElem?_setIfInBounds_ne (Ne.symm h)])
theorem frozen_put (o : Obj) (j : Nat) (h : b ≠ B) : (setBlock W B o).frozen? ⟨b, j, none⟩ = W.frozen? ⟨b, j, none⟩ := World.frozen?_of_block (by
  show (W.heap.setIfInBounds B o)[b]? = W.heap[b]?
  rw [Array.getElem?_setIfInBounds_ne (Ne.symm h)])
theorem set_heap (x : Value) (A j : Nat) (h : A ≠ B) : (W.setCell ⟨A, j, none⟩ x).heap[B]? = W.heap[B]? := Below.heap_setCell _ _ _ _ (fun e => h (by simpa using e.symm))
theorem grown_below {W' : World} (g : Below W.heap.size W W') : W.grownBy W' (some B) := ⟨g.os, g.tape, g.output, g.size, fun k hk _ => g.block k hk⟩
theorem grown_put {W' : World} (g : W.grownBy W' (some B)) (o : Obj) : W.grownBy (setBlock W' B o) (some B) :=
  ⟨g.os, g.tape, g.output, by simpa [setBlock] using g.size, fun k hk hne => by
    show (W'.heap.setIfInBounds B o)[k]? = _
    rw [Array.getElem?_setIfInBounds_ne (fun e => hne (by rw [e]))]; exact g.block k hk hne⟩
theorem grown_cell {W' : World} (g : W.grownBy W' (some B)) (A j : Nat) (x : Value) (h : W.heap.size ≤ A) : W.grownBy (W'.setCell ⟨A, j, none⟩ x) (some B) :=
  ⟨g.os, g.tape, g.output, by simpa using g.size, fun k hk hne => (Below.heap_setCell _ _ _ _ (fun e => by simp at e; omega)).trans (g.block k hk hne)⟩
theorem grown_cells {W' : World} (g : W.grownBy W' (some B)) : (∀ b o, b < W.heap.size → b ≠ B → W'.cell? ⟨b, o, none⟩ = W.cell? ⟨b, o, none⟩) ∧ (∀ b o, b < W.heap.size → b ≠ B → W'.frozen? ⟨b, o, none⟩ = W.frozen? ⟨b, o, none⟩) :=
  ⟨fun b _ hb h => World.cell?_of_block (g.block b hb (fun e => h (Option.some.inj e))), fun b _ hb h => World.frozen?_of_block (g.block b hb (fun e => h (Option.some.inj e)))⟩
end
end Go.Proofs.YtjilnmpajhifcaaGreat
namespace Go.Proofs.YtjilnmpajhifcaaGreat
open Go.RowKit
open Go.ChangeMaps (setBlock)
end Go.Proofs.YtjilnmpajhifcaaGreat
namespace Go.Proofs.YtjilnmpajhifcaaGreat
open Go.RowKit
open Go.ChangeMaps (setBlock)
/-- The error of two steps, X ahead of Y; what they tell together. -/
def ve (p q : Int) : Int := if oe p = 0 then oe q else oe p
def vx (p q : Int) : Int := if ve p q = 0 then p else 0
def vy (p q : Int) : Int := if ve p q = 0 then q else 0
theorem oe_my {p : Int} (h : oe p = 0) : My p := by
  by_cases m : My p
  · exact m
  · rw [oe_out m] at h; omega
theorem oe_zero_iff (p : Int) : oe p = 0 ↔ My p := ⟨oe_my, oe_in⟩
theorem ve_out {p q : Int} (h : ¬ oe p = 0) : ve p q = oe p ∧ vx p q = 0 ∧ vy p q = 0 := by
  have e : ve p q = oe p := if_neg h
  exact ⟨e, if_neg (by rw [e]; exact h), if_neg (by rw [e]; exact h)⟩
theorem ve_mid {p q : Int} (h : oe p = 0) (g : ¬ oe q = 0) : ve p q = oe q ∧ vx p q = 0 ∧ vy p q = 0 := by
  have e : ve p q = oe q := if_pos h
  exact ⟨e, if_neg (by rw [e]; exact g), if_neg (by rw [e]; exact g)⟩
theorem ve_in {p q : Int} (h : oe p = 0) (g : oe q = 0) : ve p q = 0 ∧ vx p q = p ∧ vy p q = q := by
  have e : ve p q = 0 := (if_pos h).trans g
  exact ⟨e, if_pos e, if_pos e⟩
theorem zero_words : fh 0 = 0 ∧ fl 0 = 0 := by decide
theorem vec_zero : vec 0 0 = .agg #[.int .i64 0, .int .u64 0, .int .i64 0, .int .u64 0] := by unfold vec; rw [zero_words.1, zero_words.2]
theorem rmayvec_any (x y : Int) (w : World) :
    Calls Tryz.prog 38 #[vec x y] w fun e w' => e = .returned (.bool (decide (x ≠ -170141183460469231731687303715884105728) && decide (y ≠ -170141183460469231731687303715884105728))) ∧ Below w.heap.size w w' :=
  rmayvec_core _ _ _ _ _ _ w (rmay_any x) (rmay_any y)
/-- What Dot comes to: its error, its number. -/
def de (p q : Int) : Int := if oe p = 0 then (if oe q = 0 then oe (p + q) else oe q) else oe p
def dv (p q : Int) : Int := if de p q = 0 then p + q else 0
theorem de_3 (p q : Int) : de p q = 0 ∨ de p q = 3 := by
  have h : ∀ x, oe x = 0 ∨ oe x = 3 := fun x => by unfold oe; split; exact Or.inl rfl; exact Or.inr rfl
  unfold de
  split
  · split
    · exact h _
    · exact h _
  · exact h _
theorem de_zero {p q : Int} (h : de p q = 0) : My p ∧ My q ∧ My (p + q) ∧ dv p q = p + q := by
  have h0 := h
  unfold de at h
  split at h
  · rename_i a
    split at h
    · rename_i b
      exact ⟨oe_my a, oe_my b, oe_my h, if_pos h0⟩
    · rename_i b
      exact absurd h b
  · rename_i a
    exact absurd h a
theorem dv_My (p q : Int) : My (dv p q) := by
  by_cases h : de p q = 0
  · obtain ⟨_, _, a, b⟩ := de_zero h; rw [b]; exact a
  · rw [show dv p q = 0 from if_neg h]; exact ⟨by decide, by decide⟩
theorem mulr_self (x : Int) : 0 ≤ mulr x x := by
  unfold mulr sg
  have : (decide (x < 0) != decide (x < 0)) = false := by cases decide (x < 0) <;> rfl
  rw [this]
  exact Int.natCast_nonneg _
theorem dv_self (ax ay : Int) : 0 ≤ dv (mulr ax ax) (mulr ay ay) := by
  have := mulr_self ax; have := mulr_self ay
  unfold dv; split <;> omega
/-- What Len comes to. -/
def lv (ax ay : Int) : Int := if de (mulr ax ax) (mulr ay ay) = 0 then sqr (dv (mulr ax ax) (mulr ay ay)) else 0
end Go.Proofs.YtjilnmpajhifcaaGreat
namespace Go.Proofs.YtjilnmpajhifcaaGreat
open Go.RowKit
theorem sg_mul2 (a b : Int) : sg (decide (a < 0) != decide (b < 0)) ((a.natAbs * b.natAbs : Nat) : Int) = a * b := by
  have e := Int.natAbs_mul a b
  rw [← e]
  by_cases ha : a < 0 <;> by_cases hb : b < 0
  · have := Int.mul_nonneg_of_nonpos_of_nonpos (Int.le_of_lt ha) (Int.le_of_lt hb)
    simp [ha, hb, sg]; omega
  · have := Int.mul_nonpos_of_nonpos_of_nonneg (Int.le_of_lt ha) (show 0 ≤ b by omega)
    simp [ha, hb, sg]; omega
  · have := Int.mul_nonpos_of_nonneg_of_nonpos (show 0 ≤ a by omega) (Int.le_of_lt hb)
    simp [ha, hb, sg]; omega
  · have := Int.mul_nonneg (show 0 ≤ a by omega) (show 0 ≤ b by omega)
    simp [ha, hb, sg]; omega
theorem sign_int2 (a : Int) : decide (a * 18446744073709551616 < 0) = decide (a < 0) := by rw [decide_eq_decide]; omega
theorem mulr_int2 (a b : Int) : mulr (a * 18446744073709551616) (b * 18446744073709551616) = a * b * 18446744073709551616 := by
  unfold mulr
  have h : ((a * 18446744073709551616).natAbs * (b * 18446744073709551616).natAbs + 9223372036854775808) / 18446744073709551616 = a.natAbs * b.natAbs * 18446744073709551616 := by
    rw [Int.natAbs_mul, Int.natAbs_mul, show (18446744073709551616 : Int).natAbs = 18446744073709551616 from rfl, Nat.mul_mul_mul_comm, ← Nat.mul_assoc]
    generalize a.natAbs * b.natAbs = n
    omega
  rw [h, sign_int2, sign_int2]
  have := sg_mul2 a b
  generalize a.natAbs * b.natAbs = n at *
  rw [← this]; unfold sg; split <;> simp <;> omega
theorem prod_bound {a b : Int} {A B : Nat} (ha : a.natAbs ≤ A) (hb : b.natAbs ≤ B) : (a * b).natAbs ≤ A * B := by rw [Int.natAbs_mul]; exact Nat.mul_le_mul ha hb
theorem int_small {n : Int} (h : -9223372036854775807 ≤ n) : intr n = n * 18446744073709551616 := by unfold intr; rw [if_neg (by omega)]
theorem my_small {n : Int} (h : n.natAbs ≤ 4294967296) : My (n * 18446744073709551616) := by unfold My; omega
/-- A whole number, and a pair of them: what Scale, Add, Dot come to. -/
theorem scale_small {x y k : Int} (hx : (x * k).natAbs ≤ 4294967296) (hy : (y * k).natAbs ≤ 4294967296) : ve (mulr (x * 18446744073709551616) (k * 18446744073709551616)) (mulr (y * 18446744073709551616) (k * 18446744073709551616)) = 0 ∧ vx (mulr (x * 18446744073709551616) (k * 18446744073709551616)) (mulr (y * 18446744073709551616) (k * 18446744073709551616)) = x * k * 18446744073709551616 ∧ vy (mulr (x * 18446744073709551616) (k * 18446744073709551616)) (mulr (y * 18446744073709551616) (k * 18446744073709551616)) = y * k * 18446744073709551616 := by
  rw [mulr_int2, mulr_int2]
  exact ve_in (oe_in (my_small hx)) (oe_in (my_small hy))
theorem mulr_turn (x y : Int) : mulr (-x) y = -mulr x y ∧ mulr x (-y) = -mulr x y := by
  have sgn : ∀ (b : Bool) (n : Int), sg (!b) n = -sg b n := by intro b n; cases b <;> simp [sg]
  have hz : ∀ z : Int, mulr 0 z = 0 ∧ mulr z 0 = 0 := fun z => by
    have h : ((0 : Nat) + 9223372036854775808) / 18446744073709551616 = 0 := by decide
    constructor
    · unfold mulr sg; rw [Int.natAbs_zero, Nat.zero_mul, h]; split <;> rfl
    · unfold mulr sg; rw [Int.natAbs_zero, Nat.mul_zero, h]; split <;> rfl
  constructor
  · by_cases c : x = 0
    · subst c; rw [Int.neg_zero, (hz y).1]; rfl
    · unfold mulr; rw [Int.natAbs_neg, ← sgn]
      congr 1
      by_cases d : x < 0
      · rw [decide_eq_true d, decide_eq_false (show ¬ -x < 0 by omega)]; cases decide (y < 0) <;> rfl
      · rw [decide_eq_false d, decide_eq_true (show -x < 0 by omega)]; cases decide (y < 0) <;> rfl
  · by_cases c : y = 0
    · subst c; rw [Int.neg_zero, (hz x).2]; rfl
    · unfold mulr; rw [Int.natAbs_neg, ← sgn]
      congr 1
      by_cases d : y < 0
      · rw [decide_eq_true d, decide_eq_false (show ¬ -y < 0 by omega)]; cases decide (x < 0) <;> rfl
      · rw [decide_eq_false d, decide_eq_true (show -y < 0 by omega)]; cases decide (x < 0) <;> rfl
theorem mulr_comm (x y : Int) : mulr x y = mulr y x := by
  have e : (decide (x < 0) != decide (y < 0)) = (decide (y < 0) != decide (x < 0)) := by cases decide (x < 0) <;> cases decide (y < 0) <;> rfl
  unfold mulr; rw [Nat.mul_comm, e]
theorem my_neg_iff (x : Int) : My (-x) ↔ My x := by unfold My; omega
theorem oe_neg (x : Int) : oe (-x) = oe x := by
  by_cases h : My x
  · rw [oe_in h, oe_in ((my_neg_iff x).2 h)]
  · rw [oe_out h, oe_out (fun g => h ((my_neg_iff x).1 g))]
theorem ve_neg (p q : Int) : ve (-p) (-q) = ve p q ∧ vx (-p) (-q) = -vx p q ∧ vy (-p) (-q) = -vy p q := by
  have e : ve (-p) (-q) = ve p q := by unfold ve; rw [oe_neg, oe_neg]
  refine ⟨e, ?_, ?_⟩
  · unfold vx; rw [e]; split <;> simp
  · unfold vy; rw [e]; split <;> simp
theorem de_neg (p q : Int) : de (-p) (-q) = de p q ∧ dv (-p) (-q) = -dv p q := by
  have e : de (-p) (-q) = de p q := by unfold de; rw [oe_neg, oe_neg, ← Int.neg_add, oe_neg]
  refine ⟨e, ?_⟩
  unfold dv; rw [e]; split
  · omega
  · rfl
theorem vx_My (p q : Int) : My (vx p q) := by
  unfold vx
  split
  · rename_i h
    unfold ve at h
    split at h
    · rename_i g; exact oe_my g
    · rename_i g; exact absurd h g
  · exact ⟨by decide, by decide⟩
theorem vy_My (p q : Int) : My (vy p q) := by
  unfold vy
  split
  · rename_i h
    unfold ve at h
    split at h
    · exact oe_my h
    · rename_i g; exact absurd h g
  · exact ⟨by decide, by decide⟩
theorem my_neg2 {x : Int} (h : My x) : My (-x) := (my_neg_iff x).2 h
theorem mulr_nn (x : Int) : mulr (-x) (-x) = mulr x x := by rw [(mulr_turn x (-x)).1, (mulr_turn x x).2]; omega
end Go.Proofs.YtjilnmpajhifcaaGreat
namespace Go.Proofs.YtjilnmpajhifcaaGreat
open Go.RowKit
theorem eq_vec_true (a b c d : Int) (W : World) : (Go.binOp .eql 29 (.agg #[.int .i64 a, .int .u64 b, .int .i64 c, .int .u64 d]) (.agg #[.int .i64 a, .int .u64 b, .int .i64 c, .int .u64 d])).run Tryz.prog W = .ok (.bool true) W := by
  simp [go_sem]
theorem ne_vec_false (a b c d : Int) (W : World) : (Go.binOp .neq 29 (.agg #[.int .i64 a, .int .u64 b, .int .i64 c, .int .u64 d]) (.agg #[.int .i64 a, .int .u64 b, .int .i64 c, .int .u64 d])).run Tryz.prog W = .ok (.bool false) W := by
  simp [go_sem]
theorem sqr_five : sqr 461168601842738790400 = 92233720368547758080 := by
  unfold sqr
  rw [show (461168601842738790400 : Int).toNat * 18446744073709551616 = 92233720368547758080 * 92233720368547758080 by decide, isq_of (Nat.le_refl _) (by omega)]
  rfl
theorem three_my : My 55340232221128654848 ∧ My 73786976294838206464 ∧ My 92233720368547758080 := by unfold My; omega
theorem rmv_true {x y : Int} (hx : My x) (hy : My y) (w : World) : Calls Tryz.prog 38 #[vec x y] w fun e w' => e = .returned (.bool true) ∧ Below w.heap.size w w' := by
  have h := rmayvec_any x y w
  rw [decide_eq_true (show x ≠ -170141183460469231731687303715884105728 by unfold My at hx; omega), decide_eq_true (show y ≠ -170141183460469231731687303715884105728 by unfold My at hy; omega)] at h; exact h
theorem rmv_false {x y : Int} (hx : Fx x) (hy : Fx y) (n : ¬ (My x ∧ My y)) (w : World) : Calls Tryz.prog 38 #[vec x y] w fun e w' => e = .returned (.bool false) ∧ Below w.heap.size w w' := by
  have h := rmayvec_any x y w
  by_cases mx : My x
  · have my : ¬ My y := fun g => n ⟨mx, g⟩
    rw [decide_eq_false (show ¬ y ≠ -170141183460469231731687303715884105728 by unfold My at my; unfold Fx at hy; omega), Bool.and_false] at h; exact h
  · rw [decide_eq_false (show ¬ x ≠ -170141183460469231731687303715884105728 by unfold My at mx; unfold Fx at hx; omega)] at h; exact h
end Go.Proofs.YtjilnmpajhifcaaGreat
