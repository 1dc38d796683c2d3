/- The root of any number. -/
import Derived.Test.YtmelipbanbihdaaDiv
import Derived.Test.YtmelipbanbihdaaCmp
import Derived.Test.YtmelipbanbihdaaRoot
import Derived.Test.YtmelipbanbihdaaSqrtNum
import Derived.Deep.LoopGhost
namespace Go.Proofs.Ytmelipbanbihdaa
open Go.RowKit

/-- What has been laid ahead of the first call. -/
structure SqPro (w : World) (a3 a2 a1 a0 : Int) (W : World) : Prop where
  size : w.heap.size + 1 < W.heap.size
  below : Below w.heap.size w W
  ca0 : W.cell? ⟨w.heap.size, 0, none⟩ = some (.int .u64 a3)
  ca1 : W.cell? ⟨w.heap.size, 1, none⟩ = some (.int .u64 a2)
  ca2 : W.cell? ⟨w.heap.size, 2, none⟩ = some (.int .u64 a1)
  ca3 : W.cell? ⟨w.heap.size, 3, none⟩ = some (.int .u64 a0)
  cr0 : W.cell? ⟨w.heap.size + 1, 0, none⟩ = some (.int .u64 0)
  cr1 : W.cell? ⟨w.heap.size + 1, 1, none⟩ = some (.int .u64 0)
  zr : Clear (w.heap.size + 1) W
theorem SqPro.step {w : World} {a3 a2 a1 a0 : Int} {W W' : World} (h : SqPro w a3 a2 a1 a0 W) (g : Below W.heap.size W W') : SqPro w a3 a2 a1 a0 W' := by
  have hs := h.size
  have c := (bcell g).1
  refine ⟨Nat.lt_of_lt_of_le h.size g.size, bl_trans h.below g, ?_, ?_, ?_, ?_, ?_, ?_, fun j => ?_⟩
  · rw [c _ _ (by omega)]; exact h.ca0
  · rw [c _ _ (by omega)]; exact h.ca1
  · rw [c _ _ (by omega)]; exact h.ca2
  · rw [c _ _ (by omega)]; exact h.ca3
  · rw [c _ _ (by omega)]; exact h.cr0
  · rw [c _ _ (by omega)]; exact h.cr1
  · rw [(bcell g).2 _ _ (by omega)]; exact h.zr j
theorem SqPro.other {w : World} {a3 a2 a1 a0 : Int} {B o n : Nat} {W W' : World} (h : SqPro w a3 a2 a1 a0 W) (g : Wrote B o n W W') (hB : w.heap.size + 1 < B) : SqPro w a3 a2 a1 a0 W' := by
  have hs := h.size
  have c := fun b j (hb : b < W.heap.size) (hn : b ≠ B) => g.other (j := j) hb hn
  refine ⟨Nat.lt_of_lt_of_le h.size g.size, h.below.trans (g.below (B0 := w.heap.size) (by omega) (by omega)), ?_, ?_, ?_, ?_, ?_, ?_, fun j => ?_⟩
  · rw [c _ _ (by omega) (by omega)]; exact h.ca0
  · rw [c _ _ (by omega) (by omega)]; exact h.ca1
  · rw [c _ _ (by omega) (by omega)]; exact h.ca2
  · rw [c _ _ (by omega) (by omega)]; exact h.ca3
  · rw [c _ _ (by omega) (by omega)]; exact h.cr0
  · rw [c _ _ (by omega) (by omega)]; exact h.cr1
  · rw [World.frozen?_of_block (a := ⟨w.heap.size + 1, j, none⟩) (g.block (w.heap.size + 1) (by omega) (by omega))]; exact h.zr j

/-- Of a number of one word. -/
theorem sqrt_small (a0 : Int) (h0 : Wd a0) (w : World) :
    Calls Try.prog 65 #[.agg #[.int .u64 0, .int .u64 0, .int .u64 0, .int .u64 a0]] w fun e w' =>
      e = .returned (.agg #[.int .u64 0, .int .u64 ((isq a0.toNat : Nat) : Int)]) ∧ Below w.heap.size w w' := by
  have hz : Wd (0 : Int) := ⟨by decide, by decide⟩
  have H1 := len_any 0 0 0 a0 hz hz hz h0
  rw [show v4 0 0 0 a0 = a0.toNat by unfold v4 v2; simp] at H1
  have hl : blen a0.toNat ≤ 64 := blen_le (by have := h0.1; have := h0.2; omega)
  have hl2 : ((blen a0.toNat : Nat) : Int) ≤ 64 := by omega
  generalize ((blen a0.toNat : Nat) : Int) = L at *
  have H := Lib.hid H1
  clear H1
  go_enter Try.func65, Try.ntmps65
  go_wp2_with fail
  refine calls_gen (SqPro w 0 0 0 a0) ?_ ?_
  · refine ⟨by simp, by go_grown, ?_, ?_, ?_, ?_, ?_, ?_, fun j => ?_⟩
    all_goals first | (simp [go_sem]; done) | (simp [frozen?_alloc_cells, World.frozen?]; done)
  intro W0 P0
  refine (H.out _).mono ?_
  rintro e w1 ⟨rfl, hb⟩
  have HP := Lib.hid (P0.step hb)
  have c3 := HP.out.ca3
  clear hb P0
  go_wp2_with (go_at_call 75; refine (rootOfWord_any _ h0 _).mono ?_; rintro e w' ⟨rfl, rfl⟩; have r0 := HP.out.cr0; have r1 := HP.out.cr1; have z := fun j => HP.out.zr j)
  refine bodyPost_ret (by simp [results, Try.results65, go_sem, *]; try rfl) rfl ?_
  exact ⟨rfl, Below.setCell (Below.setCell HP.out.below (by simp) _) (by simp) _⟩

theorem ret_two_words {a b a' b' : Int} (h : a = a') (g : b = b') : Ending.returned (.agg #[.int .u64 a, .int .u64 b]) = .returned (.agg #[.int .u64 a', .int .u64 b']) := by rw [h, g]
theorem abv_walk (a3 a2 a1 a0 L c3 c2 c1 c0 r1 r0 t1 t0 u3 u2 u1 u0 x1 x0 : Int) (b : Bool) (hL0 : 0 ≤ L) (hL1 : L ≤ 256)
    (hx : (u3 = 0 ∧ u2 = 0 ∧ x1 = u1 ∧ x0 = u0) ∨ (¬(u3 = 0 ∧ u2 = 0) ∧ x1 = 18446744073709551615 ∧ x0 = 18446744073709551615)) (w : World)
    (C1 : ∀ W, Calls Try.prog 74 #[.agg #[.int .u64 a3, .int .u64 a2, .int .u64 a1, .int .u64 a0]] W fun e w' => e = .returned (.int .i64 L) ∧ Below W.heap.size W w')
    (C2 : ∀ W, Calls Try.prog 68 #[.agg #[.int .u64 a3, .int .u64 a2, .int .u64 a1, .int .u64 a0], .int .i64 (2 * (L / 4))] W fun e w' => e = .returned (.agg #[.int .u64 c3, .int .u64 c2, .int .u64 c1, .int .u64 c0]) ∧ Below W.heap.size W w')
    (C3 : ∀ W, Calls Try.prog 65 #[.agg #[.int .u64 c3, .int .u64 c2, .int .u64 c1, .int .u64 c0]] W fun e w' => e = .returned (.agg #[.int .u64 r1, .int .u64 r0]) ∧ Below W.heap.size W w')
    (C4 : ∀ W, Calls Try.prog 61 #[.agg #[.int .u64 r1, .int .u64 r0], .agg #[.int .u64 0, .int .u64 1]] W fun e w' => e = .returned (.tuple #[.agg #[.int .u64 t1, .int .u64 t0], .bool b]) ∧ Below W.heap.size W w')
    (C5 : ∀ W, Calls Try.prog 66 #[.agg #[.int .u64 0, .int .u64 0, .int .u64 t1, .int .u64 t0], .int .i64 (L / 4)] W fun e w' => e = .returned (.agg #[.int .u64 u3, .int .u64 u2, .int .u64 u1, .int .u64 u0]) ∧ Below W.heap.size W w') :
    Calls Try.prog 76 #[.agg #[.int .u64 a3, .int .u64 a2, .int .u64 a1, .int .u64 a0]] w fun e w' => e = .returned (.agg #[.int .u64 x1, .int .u64 x0]) ∧ Below w.heap.size w w' := by
  have H1 := Lib.hid C1; have H2 := Lib.hid C2; have H3 := Lib.hid C3; have H4 := Lib.hid C4; have H5 := Lib.hid C5
  clear C1 C2 C3 C4 C5
  have hneq : ∀ W, (Go.binOp .neq 51 (.agg #[.int .u64 u3, .int .u64 u2]) (.agg #[.int .u64 0, .int .u64 0])).run Try.prog W = .ok (.bool (!(decide (u3 = 0 ∧ u2 = 0)))) W := by
    intro W
    by_cases c : u3 = 0 <;> by_cases d : u2 = 0 <;> simp [go_sem, *]
  have HX := Lib.hid hx
  have hq0 : 0 ≤ L / 4 := by omega
  go_enter Try.func76, Try.ntmps76
  go_wp2_with fail
  refine calls_gen (SqPro w a3 a2 a1 a0) ?_ ?_
  · refine ⟨by simp, by go_grown, ?_, ?_, ?_, ?_, ?_, ?_, fun j => ?_⟩
    all_goals first | (simp [go_sem]; done) | (simp [frozen?_alloc_cells, World.frozen?]; done)
  intro W0 P0
  refine (H1.out _).mono ?_
  rintro e w1 ⟨rfl, hb⟩
  have HP1 := Lib.hid (P0.step hb)
  have c0' := HP1.out.ca0; have c1' := HP1.out.ca1; have c2' := HP1.out.ca2; have c3' := HP1.out.ca3
  clear hb P0
  go_wp2_with fail
  refine (H2.out _).mono ?_
  rintro e w2 ⟨rfl, hb⟩
  have HP2 := Lib.hid (HP1.out.step hb)
  clear hb HP1 c0' c1' c2' c3'
  go_wp2_with fail
  refine (H3.out _).mono ?_
  rintro e w3 ⟨rfl, hb⟩
  have HP3 := Lib.hid (HP2.out.step hb)
  clear hb HP2
  go_wp2_with fail
  refine (H4.out _).mono ?_
  rintro e w4 ⟨rfl, hb⟩
  have HP4 := Lib.hid (HP3.out.step hb)
  clear hb HP3
  go_wp2_with fail
  refine (H5.out _).mono ?_
  rintro e w5 ⟨rfl, hb⟩
  have hB := bl_trans (bl_al (Below.refl w4.heap.size w4) (.cells #[.int .u64 t1, .int .u64 t0] 51)) hb
  have HP5 := Lib.hid (HP4.out.step hB)
  have r0' := HP5.out.cr0; have r1' := HP5.out.cr1; have z := fun j => HP5.out.zr j
  have hs := HP5.out.size
  have hs2 : w.heap.size + 1 ≠ w5.heap.size := Nat.ne_of_lt hs
  clear hb hB HP4 hx
  rcases HX.out with ⟨rfl, rfl, rfl, rfl⟩ | ⟨hn, rfl, rfl⟩
  · clear HX
    go_wp2_with fail
    refine bodyPost_ret (by simp [results, Try.results76, go_sem, *]; try rfl) rfl ?_
    exact ⟨rfl, bl_al (Below.setCell (Below.setCell HP5.out.below (by simp) _) (by simp) _) _⟩
  · clear HX
    rw [decide_eq_false hn] at hneq
    go_wp2_with fail
    refine bodyPost_ret (by simp [results, Try.results76, go_sem, *]; try rfl) rfl ?_
    exact ⟨rfl, bl_al (Below.setCell (Below.setCell HP5.out.below (by simp) _) (by simp) _) _⟩

theorem v4_low (x y : Int) : v4 0 0 x y = v2 x y := by unfold v4; rw [show v2 0 0 = 0 from rfl, Nat.zero_mul, Nat.zero_add]
theorem above_any (a3 a2 a1 a0 : Int) (h3 : Wd a3) (h2 : Wd a2) (h1 : Wd a1) (h0 : Wd a0) (hl : 64 < blen (v4 a3 a2 a1 a0))
    (IH : ∀ c3 c2 c1 c0 : Int, Wd c3 → Wd c2 → Wd c1 → Wd c0 → v4 c3 c2 c1 c0 < v4 a3 a2 a1 a0 → ∀ W, Calls Try.prog 65 #[.agg #[.int .u64 c3, .int .u64 c2, .int .u64 c1, .int .u64 c0]] W fun e w' =>
      e = .returned (.agg #[.int .u64 (wd (isq (v4 c3 c2 c1 c0)) 1), .int .u64 (wd (isq (v4 c3 c2 c1 c0)) 0)]) ∧ Below W.heap.size W w') (w : World) :
    Calls Try.prog 76 #[.agg #[.int .u64 a3, .int .u64 a2, .int .u64 a1, .int .u64 a0]] w fun e w' =>
      e = .returned (.agg #[.int .u64 (wd (abv (v4 a3 a2 a1 a0)) 1), .int .u64 (wd (abv (v4 a3 a2 a1 a0)) 0)]) ∧ Below w.heap.size w w' := by
  have hA := v4_lt h3 h2 h1 h0
  have hz : Wd (0 : Int) := ⟨by decide, by decide⟩
  have hr := up_room hA hl
  have hb := blen_le (n := v4 a3 a2 a1 a0) (k := 256) (by rw [show (2 : Nat) ^ 256 = 115792089237316195423570985008687907853269984665640564039457584007913129639936 by decide]; exact hA)
  have C1 := len_any a3 a2 a1 a0 h3 h2 h1 h0
  have C2 := shr_any a3 a2 a1 a0 (2 * (((blen (v4 a3 a2 a1 a0) : Nat) : Int) / 4)) h3 h2 h1 h0 (by omega)
  rw [show (2 * (((blen (v4 a3 a2 a1 a0) : Nat) : Int) / 4)).toNat = 2 * (blen (v4 a3 a2 a1 a0) / 4) by omega] at C2
  have hM : v4 a3 a2 a1 a0 / 2 ^ (2 * (blen (v4 a3 a2 a1 a0) / 4)) < 115792089237316195423570985008687907853269984665640564039457584007913129639936 := Nat.lt_trans hr.2 hA
  have eM := v4_wd (v4 a3 a2 a1 a0 / 2 ^ (2 * (blen (v4 a3 a2 a1 a0) / 4)))
  rw [Nat.mod_eq_of_lt hM] at eM
  have C3 := IH _ _ _ _ (wd_wd (v4 a3 a2 a1 a0 / 2 ^ (2 * (blen (v4 a3 a2 a1 a0) / 4))) 3) (wd_wd (v4 a3 a2 a1 a0 / 2 ^ (2 * (blen (v4 a3 a2 a1 a0) / 4))) 2) (wd_wd (v4 a3 a2 a1 a0 / 2 ^ (2 * (blen (v4 a3 a2 a1 a0) / 4))) 1) (wd_wd (v4 a3 a2 a1 a0 / 2 ^ (2 * (blen (v4 a3 a2 a1 a0) / 4))) 0) (by rw [eM]; exact hr.2)
  rw [eM] at C3
  have C4 := add_any (wd (isq (v4 a3 a2 a1 a0 / 2 ^ (2 * (blen (v4 a3 a2 a1 a0) / 4)))) 1) (wd (isq (v4 a3 a2 a1 a0 / 2 ^ (2 * (blen (v4 a3 a2 a1 a0) / 4)))) 0) 0 1 (wd_wd _ _) (wd_wd _ _) hz ⟨by decide, by decide⟩
  rw [v2_wd, Nat.mod_eq_of_lt (by omega), show v2 0 1 = 1 from rfl] at C4
  have C5 := shl_any 0 0 (wd (isq (v4 a3 a2 a1 a0 / 2 ^ (2 * (blen (v4 a3 a2 a1 a0) / 4))) + 1) 1) (wd (isq (v4 a3 a2 a1 a0 / 2 ^ (2 * (blen (v4 a3 a2 a1 a0) / 4))) + 1) 0) (((blen (v4 a3 a2 a1 a0) : Nat) : Int) / 4) hz hz (wd_wd _ _) (wd_wd _ _) (by omega)
  rw [show (((blen (v4 a3 a2 a1 a0) : Nat) : Int) / 4).toNat = blen (v4 a3 a2 a1 a0) / 4 by omega,
    show v4 0 0 (wd (isq (v4 a3 a2 a1 a0 / 2 ^ (2 * (blen (v4 a3 a2 a1 a0) / 4))) + 1) 1) (wd (isq (v4 a3 a2 a1 a0 / 2 ^ (2 * (blen (v4 a3 a2 a1 a0) / 4))) + 1) 0) = isq (v4 a3 a2 a1 a0 / 2 ^ (2 * (blen (v4 a3 a2 a1 a0) / 4))) + 1 by
      rw [v4_low, v2_wd, Nat.mod_eq_of_lt hr.1]] at C5
  have hup : isq (v4 a3 a2 a1 a0 / 2 ^ (2 * (blen (v4 a3 a2 a1 a0) / 4))) + 1 < 340282366920938463463374607431768211456 := hr.1
  have hbig : (isq (v4 a3 a2 a1 a0 / 2 ^ (2 * (blen (v4 a3 a2 a1 a0) / 4))) + 1) * 2 ^ (blen (v4 a3 a2 a1 a0) / 4) < 115792089237316195423570985008687907853269984665640564039457584007913129639936 := by
    have hp : 2 ^ (blen (v4 a3 a2 a1 a0) / 4) ≤ 2 ^ 64 := Nat.pow_le_pow_right (by decide) (by omega)
    have := Nat.mul_le_mul (Nat.le_of_lt hup) hp
    omega
  refine abv_walk a3 a2 a1 a0 _ _ _ _ _ _ _ _ _ _ _ _ _ _ _ _ (Int.natCast_nonneg _) (by omega) ?_ w C1 C2 C3 C4 C5
  unfold abv
  by_cases c : (isq (v4 a3 a2 a1 a0 / 2 ^ (2 * (blen (v4 a3 a2 a1 a0) / 4))) + 1) * 2 ^ (blen (v4 a3 a2 a1 a0) / 4) < 340282366920938463463374607431768211456
  · rw [if_pos c]
    refine Or.inl ⟨?_, ?_, rfl, rfl⟩
    · rw [wd3]; omega
    · rw [wd2]; omega
  · rw [if_neg c]
    refine Or.inr ⟨?_, by rw [wd1]; rfl, by rw [wd0]; rfl⟩
    rw [wd3, wd2]; omega

/-- What stands at each round's head: a number that is not below the root. -/
def SqHead (S : Nat) (w : World) (a3 a2 a1 a0 : Int) (k : Nat) (wr : World) : Prop := ∃ x1 x0 : Int, Wd x1 ∧ Wd x0 ∧ v2 x1 x0 ≤ k ∧ isq (v4 a3 a2 a1 a0) ≤ v2 x1 x0 ∧ v2 x1 x0 ≠ 0 ∧ SqPro w a3 a2 a1 a0 wr ∧
  wr.cell? ⟨S, 0, none⟩ = some (.int .u64 x1) ∧ wr.cell? ⟨S, 1, none⟩ = some (.int .u64 x0) ∧ Clear S wr ∧ S < wr.heap.size
set_option maxHeartbeats 4000000 in
theorem sqrt_walk (a3 a2 a1 a0 L s1 s0 : Int) (h3 : Wd a3) (h2 : Wd a2) (h1 : Wd a1) (h0 : Wd a0) (hL : 64 < L) (k1 : Wd s1) (k0 : Wd s0) (hs : isq (v4 a3 a2 a1 a0) ≤ v2 s1 s0) (hne : v2 s1 s0 ≠ 0) (hp : isq (v4 a3 a2 a1 a0) ≠ 0) (w : World)
    (C1 : ∀ W, Calls Try.prog 74 #[.agg #[.int .u64 a3, .int .u64 a2, .int .u64 a1, .int .u64 a0]] W fun e w' => e = .returned (.int .i64 L) ∧ Below W.heap.size W w')
    (C2 : ∀ W, Calls Try.prog 76 #[.agg #[.int .u64 a3, .int .u64 a2, .int .u64 a1, .int .u64 a0]] W fun e w' => e = .returned (.agg #[.int .u64 s1, .int .u64 s0]) ∧ Below W.heap.size W w') :
    Calls Try.prog 65 #[.agg #[.int .u64 a3, .int .u64 a2, .int .u64 a1, .int .u64 a0]] w fun e w' =>
      e = .returned (.agg #[.int .u64 (wd (isq (v4 a3 a2 a1 a0)) 1), .int .u64 (wd (isq (v4 a3 a2 a1 a0)) 0)]) ∧ Below w.heap.size w w' := by
  have H1 := Lib.hid C1; have H2 := Lib.hid C2
  clear C1 C2
  have hA := Lib.hid (v4_lt h3 h2 h1 h0)
  have HPos := Lib.hid hp
  clear hp
  go_enter Try.func65, Try.ntmps65
  go_wp2_with fail
  refine calls_gen (SqPro w a3 a2 a1 a0) ?_ ?_
  · refine ⟨by simp, by go_grown, ?_, ?_, ?_, ?_, ?_, ?_, fun j => ?_⟩
    all_goals first | (simp [go_sem]; done) | (simp [frozen?_alloc_cells, World.frozen?]; done)
  intro W0 P0
  refine (H1.out _).mono ?_
  rintro e w1 ⟨rfl, hb⟩
  have HP1 := Lib.hid (P0.step hb)
  have c0' := HP1.out.ca0; have c1' := HP1.out.ca1; have c2' := HP1.out.ca2; have c3' := HP1.out.ca3
  clear hb P0
  go_wp2_with fail
  refine (H2.out _).mono ?_
  rintro e w2 ⟨rfl, hb⟩
  have HP2 := Lib.hid (HP1.out.step hb)
  have hsz := HP2.out.size
  clear hb HP1 c0' c1' c2' c3' H1 H2
  go_wp2_with fail
  have g1 : SqHead w2.heap.size w a3 a2 a1 a0 (v2 s1 s0) (w2.alloc (.cells #[.int .u64 s1, .int .u64 s0] 51)) := by
    refine ⟨s1, s0, k1, k0, Nat.le_refl _, hs, hne, HP2.out.step (bl_al (Below.refl _ _) _), by simp [go_sem], by simp [go_sem], fun j => ?_, by simp⟩
    rw [frozen?_alloc_cells]; simp [World.frozen?]
  have G1 := Lib.hid g1
  clear g1
  go_loopg [6] (v2 s1 s0) (fun k v wr => SqHead w2.heap.size w a3 a2 a1 a0 k wr)
  case atStart => exact G1.out
  case round =>
    obtain ⟨x1, x0, j1, j0, hk, hi, hn, P, d1, d0, hC, hS⟩ := hrel
    clear G1 HP2
    generalize w2.heap.size = S at *
    have HP := Lib.hid P
    have HC := Lib.hid hC
    have HK := Lib.hid hk
    have HI := Lib.hid hi
    have HN := Lib.hid hn
    have c0' := P.ca0; have c1' := P.ca1; have c2' := P.ca2; have c3' := P.ca3
    clear P hC hk hi hn hs hne
    have HQ : Hid (v4 a3 a2 a1 a0 / v2 x1 x0 < 115792089237316195423570985008687907853269984665640564039457584007913129639936) := Nat.lt_of_le_of_lt (Nat.div_le_self _ _) hA.out
    have D := div_any a3 a2 a1 a0 x1 x0 h3 h2 h1 h0 j1 j0 HN.out
    have q0' := wd_wd (v4 a3 a2 a1 a0 / v2 x1 x0) 0
    have q1' := wd_wd (v4 a3 a2 a1 a0 / v2 x1 x0) 1
    have q2' := wd_wd (v4 a3 a2 a1 a0 / v2 x1 x0) 2
    have q3' := wd_wd (v4 a3 a2 a1 a0 / v2 x1 x0) 3
    have hz : Wd (0 : Int) := ⟨by decide, by decide⟩
    have C := cmp_any _ _ _ _ 0 0 x1 x0 q3' q2' q1' q0' hz hz j1 j0
    have M := mean_any x1 x0 _ _ j1 j0 q1' q0'
    rw [v4_wd, Nat.mod_eq_of_lt HQ.out, v4_low] at C
    rw [v2_wd] at M
    have HX : Hid (∀ y1 y0 : Int, y1 = wd ((v2 x1 x0 + v4 a3 a2 a1 a0 / v2 x1 x0 % 340282366920938463463374607431768211456) / 2) 1 → y0 = wd ((v2 x1 x0 + v4 a3 a2 a1 a0 / v2 x1 x0 % 340282366920938463463374607431768211456) / 2) 0 → v4 a3 a2 a1 a0 / v2 x1 x0 < v2 x1 x0 → v2 y1 y0 < v2 x1 x0 ∧ isq (v4 a3 a2 a1 a0) ≤ v2 y1 y0 ∧ v2 y1 y0 ≠ 0) := by
      intro y1 y0 e1 e0 hlt
      have hx := v2_lt j1 j0
      have hm := mean_ge (n := v4 a3 a2 a1 a0) HN.out
      rw [Nat.mod_eq_of_lt (Nat.lt_trans hlt hx)] at e1 e0
      have hI := HI.out
      have hpos := HPos.out
      rw [e1, e0, v2_wd]
      have hn := HN.out
      generalize v4 a3 a2 a1 a0 / v2 x1 x0 = Q at *
      generalize v2 x1 x0 = s at *
      generalize isq (v4 a3 a2 a1 a0) = r at *
      have h1 : (s + Q) / 2 < s := by omega
      rw [Nat.mod_eq_of_lt (by omega)]
      exact ⟨h1, hm, by omega⟩
    have hcase : Hid ((v2 x1 x0 ≤ v4 a3 a2 a1 a0 / v2 x1 x0 ∧ 0 ≤ icmp ((v4 a3 a2 a1 a0 / v2 x1 x0 : Nat) : Int) ((v2 x1 x0 : Nat) : Int)) ∨ (v4 a3 a2 a1 a0 / v2 x1 x0 < v2 x1 x0 ∧ icmp ((v4 a3 a2 a1 a0 / v2 x1 x0 : Nat) : Int) ((v2 x1 x0 : Nat) : Int) < 0)) := by
      show _ ∨ _
      unfold icmp
      rcases Nat.lt_or_ge (v4 a3 a2 a1 a0 / v2 x1 x0) (v2 x1 x0) with h | h
      · right; rw [if_pos (by omega)]; exact ⟨h, by decide⟩
      · left; rw [if_neg (by omega)]; refine ⟨h, ?_⟩; split <;> decide
    have HD := Lib.hid D
    have HCm := Lib.hid C
    have HM := Lib.hid M
    have hy1' := wd_wd ((v2 x1 x0 + v4 a3 a2 a1 a0 / v2 x1 x0 % 340282366920938463463374607431768211456) / 2) 1
    have hy0' := wd_wd ((v2 x1 x0 + v4 a3 a2 a1 a0 / v2 x1 x0 % 340282366920938463463374607431768211456) / 2) 0
    clear D C M HQ q0' q1' q2' q3' hz
    generalize icmp ((v4 a3 a2 a1 a0 / v2 x1 x0 : Nat) : Int) ((v2 x1 x0 : Nat) : Int) = c at *
    generalize hy1 : wd ((v2 x1 x0 + v4 a3 a2 a1 a0 / v2 x1 x0 % 340282366920938463463374607431768211456) / 2) 1 = y1 at *
    generalize hy0 : wd ((v2 x1 x0 + v4 a3 a2 a1 a0 / v2 x1 x0 % 340282366920938463463374607431768211456) / 2) 0 = y0 at *
    have HY := Lib.hid (HX.out y1 y0 rfl rfl)
    clear hy1 hy0 HX
    have HRT : Hid (v2 x1 x0 ≤ v4 a3 a2 a1 a0 / v2 x1 x0 → isq (v4 a3 a2 a1 a0) = v2 x1 x0) := root_there HN.out HI.out
    generalize wd (v4 a3 a2 a1 a0 / v2 x1 x0) 0 = q0 at *
    generalize wd (v4 a3 a2 a1 a0 / v2 x1 x0) 1 = q1 at *
    generalize wd (v4 a3 a2 a1 a0 / v2 x1 x0) 2 = q2 at *
    generalize wd (v4 a3 a2 a1 a0 / v2 x1 x0) 3 = q3 at *
    generalize wd (v4 a3 a2 a1 a0 % v2 x1 x0) 0 = m0 at *
    generalize wd (v4 a3 a2 a1 a0 % v2 x1 x0) 1 = m1 at *
    go_wp2_with fail
    refine (HD.out _).mono ?_
    rintro e w3 ⟨rfl, hb⟩
    have HP3 := Lib.hid (HP.out.step hb)
    have e1 : w3.cell? ⟨S, 0, none⟩ = some (.int .u64 x1) := by rw [(bcell hb).1 _ _ hS]; exact d1
    have e0 : w3.cell? ⟨S, 1, none⟩ = some (.int .u64 x0) := by rw [(bcell hb).1 _ _ hS]; exact d0
    have HC3 : Hid (Clear S w3) := fun j => by rw [(bcell hb).2 _ _ hS]; exact HC.out j
    have hS3 : S < w3.heap.size := Nat.lt_of_lt_of_le hS hb.size
    have hn3 : S ≠ w3.heap.size := Nat.ne_of_lt hS3
    have hn4 : S ≠ w3.heap.size + 1 := by omega
    clear hb d1 d0 HC hS HP c0' c1' c2' c3' HD
    go_wp2_with fail
    refine (HCm.out _).mono ?_
    rintro e w4 ⟨rfl, hb⟩
    have hB : Below w3.heap.size w3 w4 := bl_trans (by repeat (first | exact Below.refl _ _ | with_reducible refine bl_al ?_ _ | with_reducible apply Below.drew)) hb
    have HP4 := Lib.hid (HP3.out.step hB)
    have f1 : w4.cell? ⟨S, 0, none⟩ = some (.int .u64 x1) := by rw [(bcell hB).1 _ _ hS3]; exact e1
    have f0 : w4.cell? ⟨S, 1, none⟩ = some (.int .u64 x0) := by rw [(bcell hB).1 _ _ hS3]; exact e0
    have HC4 : Hid (Clear S w4) := fun j => by rw [(bcell hB).2 _ _ hS3]; exact HC3.out j
    have hS4 : S < w4.heap.size := Nat.lt_of_lt_of_le hS3 hB.size
    have p2 : w4.cell? ⟨w3.heap.size, 2, none⟩ = some (.int .u64 q1) := by rw [(bcell hb).1 _ _ (by simp; omega)]; simp [go_sem]
    have p3 : w4.cell? ⟨w3.heap.size, 3, none⟩ = some (.int .u64 q0) := by rw [(bcell hb).1 _ _ (by simp; omega)]; simp [go_sem]
    clear hb hB e1 e0 HC3 hS3 hn3 hn4 HP3 HCm
    rcases hcase.out with ⟨hle, hc⟩ | ⟨hlt, hc⟩
    · have r0' := HP4.out.cr0; have r1' := HP4.out.cr1; have z := fun j => HP4.out.zr j
      have hr := Lib.hid (HRT.out hle)
      clear hcase hle HY HRT
      go_wp2_with fail
      refine bodyPost_ret (by simp [results, Try.results65, go_sem, *]; try rfl) rfl ?_
      refine ⟨?_, Below.setCell (Below.setCell HP4.out.below (by simp) _) (by simp) _⟩
      rw [hr.out, wd_v2_1 j1 j0, wd_v2_0 j1 j0]
    · have HT := Lib.hid (HY.out hlt)
      clear hcase hlt HY HRT
      go_wp2_with fail
      refine (HM.out _).mono ?_
      rintro e w5 ⟨rfl, hb⟩
      have HP5 := Lib.hid (HP4.out.step hb)
      have g1 : w5.cell? ⟨S, 0, none⟩ = some (.int .u64 x1) := by rw [(bcell hb).1 _ _ hS4]; exact f1
      have g0 : w5.cell? ⟨S, 1, none⟩ = some (.int .u64 x0) := by rw [(bcell hb).1 _ _ hS4]; exact f0
      have HC5 : Clear S w5 := fun j => by rw [(bcell hb).2 _ _ hS4]; exact HC4.out j
      have hS5 : S < w5.heap.size := Nat.lt_of_lt_of_le hS4 hb.size
      unfold Clear at HC5
      clear hb f1 f0 HC4 hS4 HP4 HM p2 p3
      go_wp2_with fail
      go_roundg (v2 y1 y0)
      case measure => exact Nat.lt_of_lt_of_le HT.out.1 HK.out
      case rel =>
        have hW : Wrote S 0 2 w5 ((w5.setCell ⟨S, 0, none⟩ (.int .u64 y1)).setCell ⟨S, 1, none⟩ (.int .u64 y0)) := Wrote.setCell (Wrote.setCell (Wrote.refl _ _ _ _) (by decide) (by decide) _) (by decide) (by decide) _
        refine ⟨y1, y0, hy1', hy0', Nat.le_refl _, HT.out.2.1, HT.out.2.2, HP5.out.other hW hsz, by simp [go_sem, *], by simp [go_sem, *], fun j => by rw [hW.frozen]; exact HC5 j, Nat.lt_of_lt_of_le hS5 hW.size⟩

theorem isq_pos {n : Nat} (h : n ≠ 0) : isq n ≠ 0 := by
  intro e
  have := (isq_spec n).2
  rw [e] at this
  omega
theorem sqrt_upto (N : Nat) : ∀ a3 a2 a1 a0 : Int, Wd a3 → Wd a2 → Wd a1 → Wd a0 → v4 a3 a2 a1 a0 < N → ∀ W, Calls Try.prog 65 #[.agg #[.int .u64 a3, .int .u64 a2, .int .u64 a1, .int .u64 a0]] W fun e w' =>
      e = .returned (.agg #[.int .u64 (wd (isq (v4 a3 a2 a1 a0)) 1), .int .u64 (wd (isq (v4 a3 a2 a1 a0)) 0)]) ∧ Below W.heap.size W w' := by
  induction N with
  | zero => intro _ _ _ _ _ _ _ _ h; omega
  | succ N ih =>
    intro a3 a2 a1 a0 h3 h2 h1 h0 hN W
    have hA := v4_lt h3 h2 h1 h0
    by_cases hl : 64 < blen (v4 a3 a2 a1 a0)
    · have ha := abv_ok hA
      have hn : v4 a3 a2 a1 a0 ≠ 0 := fun e => by rw [e] at hl; simp [blen] at hl
      have ev := v2_wd (abv (v4 a3 a2 a1 a0))
      rw [Nat.mod_eq_of_lt ha.2.2] at ev
      exact sqrt_walk a3 a2 a1 a0 _ _ _ h3 h2 h1 h0 (by omega) (wd_wd _ 1) (wd_wd _ 0) (by rw [ev]; exact ha.1) (by rw [ev]; exact ha.2.1) (isq_pos hn) W
        (len_any a3 a2 a1 a0 h3 h2 h1 h0)
        (above_any a3 a2 a1 a0 h3 h2 h1 h0 hl (fun c3 c2 c1 c0 g3 g2 g1 g0 hc W' => ih c3 c2 c1 c0 g3 g2 g1 g0 (by omega) W'))
    · have hlt : v4 a3 a2 a1 a0 < 2 ^ 64 := Nat.lt_of_lt_of_le (blen_lt _) (Nat.pow_le_pow_right (by decide) (by omega))
      obtain ⟨_, _⟩ := h3; obtain ⟨_, _⟩ := h2; obtain ⟨_, _⟩ := h1
      have hlt2 := hlt
      unfold v4 v2 at hlt2
      obtain rfl : a3 = 0 := by omega
      obtain rfl : a2 = 0 := by omega
      obtain rfl : a1 = 0 := by omega
      have e : v4 0 0 0 a0 = a0.toNat := by unfold v4 v2; simp
      have hr : isq a0.toNat < 4294967296 := isq_lt (n := a0.toNat) (k := 4294967296) (by have := h0.1; have := h0.2; clear hlt hlt2 e ih hN hA; omega)
      rw [e, wd1, wd0, show isq a0.toNat / 18446744073709551616 % 18446744073709551616 = 0 by omega, show isq a0.toNat % 18446744073709551616 = isq a0.toNat by omega]
      exact sqrt_small a0 h0 W
theorem sqrt_any (a3 a2 a1 a0 : Int) (h3 : Wd a3) (h2 : Wd a2) (h1 : Wd a1) (h0 : Wd a0) (w : World) :
    Calls Try.prog 65 #[.agg #[.int .u64 a3, .int .u64 a2, .int .u64 a1, .int .u64 a0]] w fun e w' =>
      e = .returned (.agg #[.int .u64 (wd (isq (v4 a3 a2 a1 a0)) 1), .int .u64 (wd (isq (v4 a3 a2 a1 a0)) 0)]) ∧ Below w.heap.size w w' :=
  sqrt_upto _ a3 a2 a1 a0 h3 h2 h1 h0 (Nat.lt_succ_self _) w
end Go.Proofs.Ytmelipbanbihdaa
