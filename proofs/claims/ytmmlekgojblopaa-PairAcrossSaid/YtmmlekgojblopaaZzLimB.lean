/- Div: the greatest quotient, and the rest. -/
import Derived.Test.YtmmlekgojblopaaZzLimA
import Derived.Laws.IdiomCopy
namespace Go.Proofs.Ytmmlekgojblopaa
open Go.RowKit

/-- Five cells of a block from o on. -/
def Five (B o : Nat) (y0 y1 y2 y3 y4 : Int) (w : World) : Prop := w.cell? ⟨B, o, none⟩ = some (.int .u32 y0) ∧ w.cell? ⟨B, o + 1, none⟩ = some (.int .u32 y1) ∧ w.cell? ⟨B, o + 2, none⟩ = some (.int .u32 y2) ∧ w.cell? ⟨B, o + 3, none⟩ = some (.int .u32 y3) ∧ w.cell? ⟨B, o + 4, none⟩ = some (.int .u32 y4)
def Taken (B o : Nat) (R V t : Int) (w : World) (e : Ending) (w' : World) : Prop := ∃ y0 y1 y2 y3 y4 u : Int, e = .returned (.bool (u != 0)) ∧ Hf y0 ∧ Hf y1 ∧ Hf y2 ∧ Hf y3 ∧ Hf y4 ∧ 0 ≤ u ∧ u ≤ 1 ∧
  hv5 y0 y1 y2 y3 y4 = R - t * V + u * 1461501637330902918203684832716283019655932542976 ∧ Wrote B o 5 w w' ∧ Five B o y0 y1 y2 y3 y4 w'
def Given (B o : Nat) (R V : Int) (w : World) (e : Ending) (w' : World) : Prop := ∃ y0 y1 y2 y3 y4 u : Int, e = .returned (.tuple #[]) ∧ Hf y0 ∧ Hf y1 ∧ Hf y2 ∧ Hf y3 ∧ Hf y4 ∧ 0 ≤ u ∧ u ≤ 1 ∧
  hv5 y0 y1 y2 y3 y4 = R + V - u * 1461501637330902918203684832716283019655932542976 ∧ Wrote B o 5 w w' ∧ Five B o y0 y1 y2 y3 y4 w'
theorem index4 (v0 v1 v2 v3 : Value) :
    (∀ w, (Instr.index 105 (.agg #[v0, v1, v2, v3]) (.int .i64 0)).run Try.prog w = .ok v0 w) ∧ (∀ w, (Instr.index 105 (.agg #[v0, v1, v2, v3]) (.int .i64 1)).run Try.prog w = .ok v1 w) ∧
    (∀ w, (Instr.index 105 (.agg #[v0, v1, v2, v3]) (.int .i64 2)).run Try.prog w = .ok v2 w) ∧ (∀ w, (Instr.index 105 (.agg #[v0, v1, v2, v3]) (.int .i64 3)).run Try.prog w = .ok v3 w) :=
  ⟨fun _ => by kernel_rfl, fun _ => by kernel_rfl, fun _ => by kernel_rfl, fun _ => by kernel_rfl⟩
theorem half_mul {t v : Int} (ht : Hf t) (hv : Hf v) : 0 ≤ t * v ∧ t * v ≤ 18446744065119617025 := by
  obtain ⟨t0, t1⟩ := ht; obtain ⟨v0, v1⟩ := hv
  have p1 : 0 ≤ t * v := Int.mul_nonneg t0 v0
  have p2 : t * v ≤ t * 4294967295 := Int.mul_le_mul_of_nonneg_left (by omega) t0
  exact ⟨p1, by omega⟩
set_option maxHeartbeats 2000000 in
theorem takeTimes_any (B o cap : Nat) (r0 r1 r2 r3 r4 v0 v1 v2 v3 t : Int) (a0 : Hf r0) (a1 : Hf r1) (a2 : Hf r2) (a3 : Hf r3) (a4 : Hf r4) (b0 : Hf v0) (b1 : Hf v1) (b2 : Hf v2) (b3 : Hf v3) (ht : Hf t)
    (w : World) (hB : B < w.heap.size) (c0 : w.cell? ⟨B, o, none⟩ = some (.int .u32 r0)) (c1 : w.cell? ⟨B, o + 1, none⟩ = some (.int .u32 r1)) (c2 : w.cell? ⟨B, o + 2, none⟩ = some (.int .u32 r2)) (c3 : w.cell? ⟨B, o + 3, none⟩ = some (.int .u32 r3)) (c4 : w.cell? ⟨B, o + 4, none⟩ = some (.int .u32 r4)) (z0 : w.frozen? ⟨B, o, none⟩ = false) (z1 : w.frozen? ⟨B, o + 1, none⟩ = false) (z2 : w.frozen? ⟨B, o + 2, none⟩ = false) (z3 : w.frozen? ⟨B, o + 3, none⟩ = false) (z4 : w.frozen? ⟨B, o + 4, none⟩ = false) :
    Calls Try.prog 88 #[.slice (some ⟨B, o, none⟩) 5 cap, .agg #[.int .u32 v0, .int .u32 v1, .int .u32 v2, .int .u32 v3], .int .u64 t] w (Taken B o (hv5 r0 r1 r2 r3 r4) (hv4 v0 v1 v2 v3) t w) := by
  have ⟨m0, n0⟩ := half_mul ht b0
  have ⟨m1, n1⟩ := half_mul ht b1
  have ⟨m2, n2⟩ := half_mul ht b2
  have ⟨m3, n3⟩ := half_mul ht b3
  have ht0 := ht.1; have ht1 := ht.2
  have hne : B ≠ w.heap.size := by omega
  obtain ⟨x0, x1, x2, x3⟩ := index4 (.int .u32 v0) (.int .u32 v1) (.int .u32 v2) (.int .u32 v3)
  have g0 := b0.1; have g0' := b0.2; have f0 : IntKind.u64.wrap (t * v0) = t * v0 := IntWalk.u64_in _ (by omega)
  have g1 := b1.1; have g1' := b1.2; have f1 : IntKind.u64.wrap (t * v1) = t * v1 := IntWalk.u64_in _ (by omega)
  have g2 := b2.1; have g2' := b2.2; have f2 : IntKind.u64.wrap (t * v2) = t * v2 := IntWalk.u64_in _ (by omega)
  have g3 := b3.1; have g3' := b3.2; have f3 : IntKind.u64.wrap (t * v3) = t * v3 := IntWalk.u64_in _ (by omega)
  go_enter Try.func88, Try.ntmps88
  go_wp2_with fail
  refine wp_loop_rounds 5 ?_
  rw [rounds_succ]; go_wp2_with fail
  refine (split_ex _ ⟨by omega, by omega⟩ _).mono ?_
  rintro e w1 ⟨p0, o1, rfl, hp0, ho1, E0, rfl⟩
  have ho1' := ho1.1; have ho1'' := ho1.2
  go_wp2_with fail
  refine (subHalf_ex _ _ _ a0 hp0 (by omega) (by omega) _).mono ?_
  rintro e w1 ⟨y0, u1, rfl, hy0, hu1, hu1', F0, rfl⟩
  go_wp2_with fail
  rw [rounds_succ]; go_wp2_with fail
  refine (split_ex _ ⟨by omega, by omega⟩ _).mono ?_
  rintro e w1 ⟨p1, o2, rfl, hp1, ho2, E1, rfl⟩
  have ho2' := ho2.1; have ho2'' := ho2.2
  go_wp2_with fail
  refine (subHalf_ex _ _ _ a1 hp1 (by omega) (by omega) _).mono ?_
  rintro e w1 ⟨y1, u2, rfl, hy1, hu2, hu2', F1, rfl⟩
  go_wp2_with fail
  rw [rounds_succ]; go_wp2_with fail
  refine (split_ex _ ⟨by omega, by omega⟩ _).mono ?_
  rintro e w1 ⟨p2, o3, rfl, hp2, ho3, E2, rfl⟩
  have ho3' := ho3.1; have ho3'' := ho3.2
  go_wp2_with fail
  refine (subHalf_ex _ _ _ a2 hp2 (by omega) (by omega) _).mono ?_
  rintro e w1 ⟨y2, u3, rfl, hy2, hu3, hu3', F2, rfl⟩
  go_wp2_with fail
  rw [rounds_succ]; go_wp2_with fail
  refine (split_ex _ ⟨by omega, by omega⟩ _).mono ?_
  rintro e w1 ⟨p3, o4, rfl, hp3, ho4, E3, rfl⟩
  have ho4' := ho4.1; have ho4'' := ho4.2
  go_wp2_with fail
  refine (subHalf_ex _ _ _ a3 hp3 (by omega) (by omega) _).mono ?_
  rintro e w1 ⟨y3, u4, rfl, hy3, hu4, hu4', F3, rfl⟩
  go_wp2_with fail
  rw [rounds_succ]; go_wp2_with fail
  refine (subHalf_ex _ _ _ a4 ho4 (by omega) (by omega) _).mono ?_
  rintro e w1 ⟨y4, u5, rfl, hy4, hu5, hu5', F4, rfl⟩
  go_wp2_with fail
  go_returns
  refine ⟨y0, y1, y2, y3, y4, u5, rfl, hy0, hy1, hy2, hy3, hy4, hu5, hu5', ?_, ?_, ?_⟩
  · have E0 := E0.out; have E1 := E1.out; have E2 := E2.out; have E3 := E3.out
    have F0 := F0.out; have F1 := F1.out; have F2 := F2.out; have F3 := F3.out; have F4 := F4.out
    have e : t * hv4 v0 v1 v2 v3 = t * v0 + t * v1 * 4294967296 + t * v2 * 18446744073709551616 + t * v3 * 79228162514264337593543950336 := by
      unfold hv4; rw [Int.mul_add, Int.mul_add, Int.mul_add, Int.mul_assoc, Int.mul_assoc, Int.mul_assoc]
    rw [e]; unfold hv5 hv4; omega
  · exact Wrote.alloc (Wrote.setCell (Wrote.setCell (Wrote.setCell (Wrote.setCell (Wrote.setCell (Wrote.refl _ _ _ _) (Nat.le_refl _) (by omega) _) (by omega) (by omega) _) (by omega) (by omega) _) (by omega) (by omega) _) (by omega) (by omega) _) hB _
  · unfold Five; simp [go_sem, *]
set_option maxHeartbeats 2000000 in
theorem giveBack_any (B o cap : Nat) (r0 r1 r2 r3 r4 v0 v1 v2 v3 : Int) (a0 : Hf r0) (a1 : Hf r1) (a2 : Hf r2) (a3 : Hf r3) (a4 : Hf r4) (b0 : Hf v0) (b1 : Hf v1) (b2 : Hf v2) (b3 : Hf v3)
    (w : World) (hB : B < w.heap.size) (c0 : w.cell? ⟨B, o, none⟩ = some (.int .u32 r0)) (c1 : w.cell? ⟨B, o + 1, none⟩ = some (.int .u32 r1)) (c2 : w.cell? ⟨B, o + 2, none⟩ = some (.int .u32 r2)) (c3 : w.cell? ⟨B, o + 3, none⟩ = some (.int .u32 r3)) (c4 : w.cell? ⟨B, o + 4, none⟩ = some (.int .u32 r4)) (z0 : w.frozen? ⟨B, o, none⟩ = false) (z1 : w.frozen? ⟨B, o + 1, none⟩ = false) (z2 : w.frozen? ⟨B, o + 2, none⟩ = false) (z3 : w.frozen? ⟨B, o + 3, none⟩ = false) (z4 : w.frozen? ⟨B, o + 4, none⟩ = false) :
    Calls Try.prog 89 #[.slice (some ⟨B, o, none⟩) 5 cap, .agg #[.int .u32 v0, .int .u32 v1, .int .u32 v2, .int .u32 v3]] w (Given B o (hv5 r0 r1 r2 r3 r4) (hv4 v0 v1 v2 v3) w) := by
  have hne : B ≠ w.heap.size := by omega
  obtain ⟨x0, x1, x2, x3⟩ := index4 (.int .u32 v0) (.int .u32 v1) (.int .u32 v2) (.int .u32 v3)
  have g0 := b0.1; have g0' := b0.2
  have g1 := b1.1; have g1' := b1.2
  have g2 := b2.1; have g2' := b2.2
  have g3 := b3.1; have g3' := b3.2
  have h0 := a0.1; have h0' := a0.2
  have h1 := a1.1; have h1' := a1.2
  have h2 := a2.1; have h2' := a2.2
  have h3 := a3.1; have h3' := a3.2
  have h4 := a4.1; have h4' := a4.2
  go_enter Try.func89, Try.ntmps89
  go_wp2_with fail
  refine wp_loop_rounds 5 ?_
  rw [rounds_succ]; go_wp2_with fail
  refine (split_ex _ ⟨by omega, by omega⟩ _).mono ?_
  rintro e w1 ⟨y0, o1, rfl, hy0, ho1, E0, rfl⟩
  have ho1' := ho1.1; have ho1'' := ho1.2
  go_wp2_with fail
  rw [rounds_succ]; go_wp2_with fail
  refine (split_ex _ ⟨by omega, by omega⟩ _).mono ?_
  rintro e w1 ⟨y1, o2, rfl, hy1, ho2, E1, rfl⟩
  have ho2' := ho2.1; have ho2'' := ho2.2
  go_wp2_with fail
  rw [rounds_succ]; go_wp2_with fail
  refine (split_ex _ ⟨by omega, by omega⟩ _).mono ?_
  rintro e w1 ⟨y2, o3, rfl, hy2, ho3, E2, rfl⟩
  have ho3' := ho3.1; have ho3'' := ho3.2
  go_wp2_with fail
  rw [rounds_succ]; go_wp2_with fail
  refine (split_ex _ ⟨by omega, by omega⟩ _).mono ?_
  rintro e w1 ⟨y3, o4, rfl, hy3, ho4, E3, rfl⟩
  have ho4' := ho4.1; have ho4'' := ho4.2
  go_wp2_with fail
  rw [rounds_succ]; go_wp2_with fail
  go_returns
  refine ⟨y0, y1, y2, y3, (r4 + o4) % 4294967296, (r4 + o4) / 4294967296, rfl, hy0, hy1, hy2, hy3, ⟨by omega, by omega⟩, by omega, by omega, ?_, ?_, ?_⟩
  · have E0 := E0.out; have E1 := E1.out; have E2 := E2.out; have E3 := E3.out
    unfold hv5 hv4; omega
  · exact Wrote.alloc (Wrote.setCell (Wrote.setCell (Wrote.setCell (Wrote.setCell (Wrote.setCell (Wrote.refl _ _ _ _) (Nat.le_refl _) (by omega) _) (by omega) (by omega) _) (by omega) (by omega) _) (by omega) (by omega) _) (by omega) (by omega) _) hB _
  · unfold Five; simp [go_sem, *]
end Go.Proofs.Ytmmlekgojblopaa
namespace Go.Proofs.Ytmmlekgojblopaa
open Go.RowKit

theorem hv5_lt {a b c d e : Int} (h0 : Hf a) (h1 : Hf b) (h2 : Hf c) (h3 : Hf d) (h4 : Hf e) : 0 ≤ hv5 a b c d e ∧ hv5 a b c d e < 1461501637330902918203684832716283019655932542976 := by
  obtain ⟨_, _⟩ := h0; obtain ⟨_, _⟩ := h1; obtain ⟨_, _⟩ := h2; obtain ⟨_, _⟩ := h3; obtain ⟨_, _⟩ := h4
  unfold hv5 hv4; omega
theorem hv4_lt {a b c d : Int} (h0 : Hf a) (h1 : Hf b) (h2 : Hf c) (h3 : Hf d) : 0 ≤ hv4 a b c d ∧ hv4 a b c d < 340282366920938463463374607431768211456 := by
  obtain ⟨_, _⟩ := h0; obtain ⟨_, _⟩ := h1; obtain ⟨_, _⟩ := h2; obtain ⟨_, _⟩ := h3
  unfold hv4; omega
theorem Wrote.other {B o n b j : Nat} {w w' : World} (h : Wrote B o n w w') (hb : b < w.heap.size) (hn : b ≠ B) : w'.cell? ⟨b, j, none⟩ = w.cell? ⟨b, j, none⟩ := World.cell?_of_block (h.block b hb hn)
def TookOut (B o : Nat) (R V : Int) (w : World) (e : Ending) (w' : World) : Prop := ∃ y0 y1 y2 y3 y4 q : Int, e = .returned (.int .u32 q) ∧ Hf q ∧ Hf y0 ∧ Hf y1 ∧ Hf y2 ∧ Hf y3 ∧ Hf y4 ∧
  hv5 y0 y1 y2 y3 y4 = R - q * V ∧ hv5 y0 y1 y2 y3 y4 < V ∧ Wrote B o 5 w w' ∧ Five B o y0 y1 y2 y3 y4 w'
set_option maxHeartbeats 2000000 in
theorem takeOut_any (B o cap : Nat) (r0 r1 r2 r3 r4 v0 v1 v2 v3 : Int) (a0 : Hf r0) (a1 : Hf r1) (a2 : Hf r2) (a3 : Hf r3) (a4 : Hf r4) (b0 : Hf v0) (b1 : Hf v1) (b2 : Hf v2) (b3 : Hf v3) (hT : 2147483648 ≤ v3) (hlt : hv4 r1 r2 r3 r4 < hv4 v0 v1 v2 v3)
    (w : World) (hB : B < w.heap.size) (c0 : w.cell? ⟨B, o, none⟩ = some (.int .u32 r0)) (c1 : w.cell? ⟨B, o + 1, none⟩ = some (.int .u32 r1)) (c2 : w.cell? ⟨B, o + 2, none⟩ = some (.int .u32 r2)) (c3 : w.cell? ⟨B, o + 3, none⟩ = some (.int .u32 r3)) (c4 : w.cell? ⟨B, o + 4, none⟩ = some (.int .u32 r4)) (z0 : w.frozen? ⟨B, o, none⟩ = false) (z1 : w.frozen? ⟨B, o + 1, none⟩ = false) (z2 : w.frozen? ⟨B, o + 2, none⟩ = false) (z3 : w.frozen? ⟨B, o + 3, none⟩ = false) (z4 : w.frozen? ⟨B, o + 4, none⟩ = false) :
    Calls Try.prog 69 #[.slice (some ⟨B, o, none⟩) 5 cap, .agg #[.int .u32 v0, .int .u32 v1, .int .u32 v2, .int .u32 v3]] w (TookOut B o (hv5 r0 r1 r2 r3 r4) (hv4 v0 v1 v2 v3) w) := by
  have hR5 := hv5_lt a0 a1 a2 a3 a4
  have hV4 := hv4_lt b0 b1 b2 b3
  have hne : B ≠ w.heap.size := by omega
  go_enter Try.func69, Try.ntmps69
  go_wp2_with fail
  refine (guess_any B o cap r0 r1 r2 r3 r4 v0 v1 v2 v3 a0 a1 a2 a3 a4 b0 b1 b2 b3 hT hlt _ (by simp; omega) (by simp [go_sem, *]) (by simp [go_sem, *]) (by simp [go_sem, *])).mono ?_
  rintro e w1 ⟨t, rfl, ht, hR, hV, hb⟩
  have HB : Hid (Below w.heap.size w w1) := bl_trans (bl_al (Below.refl _ _) _) hb
  have hz : w.heap.size < w1.heap.size := by have h := hb.size; simp at h; omega
  have hB1 : B < w1.heap.size := by omega
  have d0 : w1.cell? ⟨w.heap.size, 0, none⟩ = some (.int .u32 v0) := by rw [(bcell hb).1 _ _ (by simp)]; simp [go_sem]
  have d1 : w1.cell? ⟨w.heap.size, 1, none⟩ = some (.int .u32 v1) := by rw [(bcell hb).1 _ _ (by simp)]; simp [go_sem]
  have d2 : w1.cell? ⟨w.heap.size, 2, none⟩ = some (.int .u32 v2) := by rw [(bcell hb).1 _ _ (by simp)]; simp [go_sem]
  have d3 : w1.cell? ⟨w.heap.size, 3, none⟩ = some (.int .u32 v3) := by rw [(bcell hb).1 _ _ (by simp)]; simp [go_sem]
  have c0' : w1.cell? ⟨B, o, none⟩ = some (.int .u32 r0) := by rw [(bcell HB.out).1 _ _ hB]; exact c0
  have z0' : w1.frozen? ⟨B, o, none⟩ = false := by rw [(bcell HB.out).2 _ _ hB]; exact z0
  have c1' : w1.cell? ⟨B, o + 1, none⟩ = some (.int .u32 r1) := by rw [(bcell HB.out).1 _ _ hB]; exact c1
  have z1' : w1.frozen? ⟨B, o + 1, none⟩ = false := by rw [(bcell HB.out).2 _ _ hB]; exact z1
  have c2' : w1.cell? ⟨B, o + 2, none⟩ = some (.int .u32 r2) := by rw [(bcell HB.out).1 _ _ hB]; exact c2
  have z2' : w1.frozen? ⟨B, o + 2, none⟩ = false := by rw [(bcell HB.out).2 _ _ hB]; exact z2
  have c3' : w1.cell? ⟨B, o + 3, none⟩ = some (.int .u32 r3) := by rw [(bcell HB.out).1 _ _ hB]; exact c3
  have z3' : w1.frozen? ⟨B, o + 3, none⟩ = false := by rw [(bcell HB.out).2 _ _ hB]; exact z3
  have c4' : w1.cell? ⟨B, o + 4, none⟩ = some (.int .u32 r4) := by rw [(bcell HB.out).1 _ _ hB]; exact c4
  have z4' : w1.frozen? ⟨B, o + 4, none⟩ = false := by rw [(bcell HB.out).2 _ _ hB]; exact z4
  clear hb
  have ht0 := ht.1; have ht1 := ht.2
  by_cases hz0 : t = 0
  · have hq : Hid (hv5 r0 r1 r2 r3 r4 = hv5 r0 r1 r2 r3 r4 - 0 * hv4 v0 v1 v2 v3 ∧ hv5 r0 r1 r2 r3 r4 < hv4 v0 v1 v2 v3) := by
      subst hz0; rw [Int.zero_mul] at hR ⊢; exact ⟨by omega, by omega⟩
    subst hz0
    clear hR hV
    go_wp2_with fail
    go_returns
    exact ⟨r0, r1, r2, r3, r4, 0, rfl, ⟨by decide, by decide⟩, a0, a1, a2, a3, a4, hq.out.1, hq.out.2, Wrote.of_below hB HB.out, c0', c1', c2', c3', c4'⟩
  · have t1 : (t != 0) = true := by rw [bne_iff_ne]; exact hz0
    have HR := Lib.hid hR
    have HV := Lib.hid hV
    clear hR hV
    go_wp2_with fail
    refine (takeTimes_any B o cap r0 r1 r2 r3 r4 v0 v1 v2 v3 t a0 a1 a2 a3 a4 b0 b1 b2 b3 ht w1 hB1 c0' c1' c2' c3' c4' z0' z1' z2' z3' z4').mono ?_
    rintro e w2 ⟨y0, y1, y2, y3, y4, u, rfl, hy0, hy1, hy2, hy3, hy4, hu0, hu1, hE, hW, hF⟩
    have HE := Lib.hid hE
    have HW : Hid (Wrote B o 5 w w2) := (Wrote.of_below hB HB.out).trans hW
    have hB2 : B < w2.heap.size := Nat.lt_of_lt_of_le hB1 hW.size
    obtain ⟨s0, s1, s2, s3, s4⟩ := hF
    have d0' : w2.cell? ⟨w.heap.size, 0, none⟩ = some (.int .u32 v0) := by rw [hW.other hz (Ne.symm hne)]; exact d0
    have d1' : w2.cell? ⟨w.heap.size, 1, none⟩ = some (.int .u32 v1) := by rw [hW.other hz (Ne.symm hne)]; exact d1
    have d2' : w2.cell? ⟨w.heap.size, 2, none⟩ = some (.int .u32 v2) := by rw [hW.other hz (Ne.symm hne)]; exact d2
    have d3' : w2.cell? ⟨w.heap.size, 3, none⟩ = some (.int .u32 v3) := by rw [hW.other hz (Ne.symm hne)]; exact d3
    have z0'' : w2.frozen? ⟨B, o, none⟩ = false := by rw [hW.frozen]; exact z0'
    have z1'' : w2.frozen? ⟨B, o + 1, none⟩ = false := by rw [hW.frozen]; exact z1'
    have z2'' : w2.frozen? ⟨B, o + 2, none⟩ = false := by rw [hW.frozen]; exact z2'
    have z3'' : w2.frozen? ⟨B, o + 3, none⟩ = false := by rw [hW.frozen]; exact z3'
    have z4'' : w2.frozen? ⟨B, o + 4, none⟩ = false := by rw [hW.frozen]; exact z4'
    clear hE hW
    by_cases hu : u = 0
    · have t2 : (u != 0) = false := by rw [bne_eq_false_iff_eq]; exact hu
      go_wp2_with fail
      go_returns
      have h1 := HR.out; have h2 := HE.out; rw [hu] at h2
      exact ⟨y0, y1, y2, y3, y4, t, rfl, ht, hy0, hy1, hy2, hy3, hy4, by omega, by omega, HW.out, s0, s1, s2, s3, s4⟩
    · have t2 : (u != 0) = true := by rw [bne_iff_ne]; exact hu
      have hu2 : Hid (u = 1) := by show _ = _; omega
      go_wp2_with fail
      refine (giveBack_any B o cap y0 y1 y2 y3 y4 v0 v1 v2 v3 hy0 hy1 hy2 hy3 hy4 b0 b1 b2 b3 w2 hB2 s0 s1 s2 s3 s4 z0'' z1'' z2'' z3'' z4'').mono ?_
      rintro e w3 ⟨x0, x1, x2, x3, x4, u', rfl, hx0, hx1, hx2, hx3, hx4, hu0', hu1', hE, hW, hF⟩
      have HE2 := Lib.hid hE
      have HW2 : Hid (Wrote B o 5 w w3) := HW.out.trans hW
      clear hE hW
      go_wp2_with fail
      go_returns
      have h1 := HR.out; have h2 := HE.out; have h3 := HE2.out; have h4 := HV.out; have h5 := hu2.out
      rw [h5] at h2
      have h6 := hv5_lt hx0 hx1 hx2 hx3 hx4
      have h7 := hv5_lt hy0 hy1 hy2 hy3 hy4
      have h8 : u' = 1 := by omega
      rw [h8] at h3
      exact ⟨x0, x1, x2, x3, x4, t - 1, rfl, ⟨by omega, by omega⟩, hx0, hx1, hx2, hx3, hx4, by rw [Int.sub_mul]; omega, by omega, HW2.out, hF⟩
end Go.Proofs.Ytmmlekgojblopaa
namespace Go.Proofs.Ytmmlekgojblopaa
open Go.RowKit
theorem shl_low (a3 a2 a1 a0 : Int) (h3 : Wd a3) (h2 : Wd a2) (h1 : Wd a1) (h0 : Wd a0) (n : Int) (hn0 : n ≤ 0) (w : World) :
    Calls Try.prog 43 #[.agg #[.int .u64 a3, .int .u64 a2, .int .u64 a1, .int .u64 a0], .int .i64 n] w fun e w' =>
      e = .returned (.agg #[.int .u64 (wd (v4 a3 a2 a1 a0 * 2 ^ n.toNat) 3), .int .u64 (wd (v4 a3 a2 a1 a0 * 2 ^ n.toNat) 2), .int .u64 (wd (v4 a3 a2 a1 a0 * 2 ^ n.toNat) 1), .int .u64 (wd (v4 a3 a2 a1 a0 * 2 ^ n.toNat) 0)]) ∧ Below w.heap.size w w' := by
  rw [show n.toNat = 0 by omega, Nat.pow_zero, Nat.mul_one, wd_v4_3 h3 h2 h1 h0, wd_v4_2 h3 h2 h1 h0, wd_v4_1 h3 h2 h1 h0, wd_v4_0 h3 h2 h1 h0]
  go_enter Try.func43, Try.ntmps43
  go_wp2
  go_returns
  exact ⟨rfl, by go_grown⟩
set_option maxHeartbeats 1000000 in
theorem shl_big (a3 a2 a1 a0 : Int) (_ : Wd a3) (_ : Wd a2) (_ : Wd a1) (_ : Wd a0) (n : Int) (hn0 : 256 ≤ n) (hn1 : n < 9223372036854775808) (w : World) :
    Calls Try.prog 43 #[.agg #[.int .u64 a3, .int .u64 a2, .int .u64 a1, .int .u64 a0], .int .i64 n] w fun e w' =>
      e = .returned (.agg #[.int .u64 (wd (v4 a3 a2 a1 a0 * 2 ^ n.toNat) 3), .int .u64 (wd (v4 a3 a2 a1 a0 * 2 ^ n.toNat) 2), .int .u64 (wd (v4 a3 a2 a1 a0 * 2 ^ n.toNat) 1), .int .u64 (wd (v4 a3 a2 a1 a0 * 2 ^ n.toNat) 0)]) ∧ Below w.heap.size w w' := by
  have k0 : ¬ n ≤ 0 := by omega
  have k1 : ¬ n / 64 < 4 := by omega
  have k2 : 0 ≤ n := by omega
  go_enter Try.func43, Try.ntmps43
  go_wp2_with (first | (go_at_call 72; refine (words_any _ _ _ _ _).mono ?_; rintro e w' ⟨rfl, hb⟩; obtain ⟨hcl, hfr⟩ := bcell hb; have hz2 : w.heap.size + 1 < w'.heap.size := (by have hz := hb.size; simp at hz; omega); have hz1 : w.heap.size < w'.heap.size := (by omega); have HB : Hid (Below w.heap.size w w') := (bl_trans (by repeat (first | exact Below.refl _ _ | exact Hid.out (by assumption) | with_reducible refine bl_al ?_ _ | with_reducible apply Below.drew)) hb); clear hb))
  refine wp_loop_rounds 1 ?_
  rw [rounds_succ]; go_wp2_with (first | (go_at_call 73; refine (fourOfWords_any _ _ _ _ _).mono ?_; rintro e w'' ⟨rfl, hb⟩; have hB : Below w'.heap.size w' w'' := (bl_trans (by repeat (first | exact Below.refl _ _ | with_reducible refine bl_al ?_ _ | with_reducible apply Below.drew)) hb); obtain ⟨hcl2, hfr2⟩ := bcell hB; have hz2' : w.heap.size + 1 < w''.heap.size := (by have hz := hB.size; omega); have hz1' : w.heap.size < w''.heap.size := (by omega); have HB2 : Hid (Below w.heap.size w w'') := (bl_trans HB.out hB); clear hb hB))
  refine bodyPost_ret (by simp [results, Try.results43, go_sem, *]; try rfl) rfl ?_
  refine ⟨ret_agg4 (by rw [show n.toNat = 64 * (n.toNat / 64) + n.toNat % 64 by omega]; exact (shl_none (by omega)).symm) (by rw [show n.toNat = 64 * (n.toNat / 64) + n.toNat % 64 by omega]; exact (shl_none (by omega)).symm) (by rw [show n.toNat = 64 * (n.toNat / 64) + n.toNat % 64 by omega]; exact (shl_none (by omega)).symm) (by rw [show n.toNat = 64 * (n.toNat / 64) + n.toNat % 64 by omega]; exact (shl_none (by omega)).symm), ?_⟩
  exact Below.setCell (Below.setCell (Below.setCell (Below.setCell HB2.out (by simp) _) (by simp) _) (by simp) _) (by simp) _
set_option maxHeartbeats 1000000 in
theorem shl_0 (a3 a2 a1 a0 : Int) (r : Nat) (h3 : Wd a3) (h2 : Wd a2) (h1 : Wd a1) (h0 : Wd a0) (hr : r < 64) (hr0 : 0 < r) (n : Int) (hn : n = 0 + r) (w : World) :
    Calls Try.prog 43 #[.agg #[.int .u64 a3, .int .u64 a2, .int .u64 a1, .int .u64 a0], .int .i64 n] w fun e w' =>
      e = .returned (.agg #[.int .u64 (wd (v4 a3 a2 a1 a0 * 2 ^ n.toNat) 3), .int .u64 (wd (v4 a3 a2 a1 a0 * 2 ^ n.toNat) 2), .int .u64 (wd (v4 a3 a2 a1 a0 * 2 ^ n.toNat) 1), .int .u64 (wd (v4 a3 a2 a1 a0 * 2 ^ n.toNat) 0)]) ∧ Below w.heap.size w w' := by
  rw [show n.toNat = 64 * 0 + r by omega]
  have hn0 : 0 < n := by omega
  have hn1 : n < 256 := by omega
  have hr1 : (r : Int) < 64 := by omega
  have hr2 : (0 : Int) ≤ 64 - (r : Int) := by omega
  have hr3 : (r : Int) ≤ 64 := by omega
  have hr4 : r ≤ 64 := by omega
  have hq : n / 64 = 0 := by omega
  have hm : n % 64 = (r : Int) := by omega
  have hq2 : n.tdiv 64 = 0 := by rw [Int.tdiv_eq_ediv_of_nonneg (by omega)]; omega
  have hm2 : n.tmod 64 = (r : Int) := by rw [Int.tmod_eq_emod_of_nonneg (by omega)]; omega
  have hq3 : IntKind.i64.wrap (n.tdiv 64) = 0 := by rw [hq2]; rfl
  have hr5 : IntKind.i64.wrap (64 - (r : Int)) = 64 - (r : Int) := IntWalk.i64_in _ (by omega)
  clear hn
  go_enter Try.func43, Try.ntmps43
  go_wp2_with (first | (go_at_call 72; refine (words_any _ _ _ _ _).mono ?_; rintro e w' ⟨rfl, hb⟩; obtain ⟨hcl, hfr⟩ := bcell hb; have hz2 : w.heap.size + 1 < w'.heap.size := (by have hz := hb.size; simp at hz; omega); have hz1 : w.heap.size < w'.heap.size := (by omega); have HB : Hid (Below w.heap.size w w') := (bl_trans (by repeat (first | exact Below.refl _ _ | exact Hid.out (by assumption) | with_reducible refine bl_al ?_ _ | with_reducible apply Below.drew)) hb); clear hb))
  refine wp_loop_rounds 5 ?_
  repeat (first | (rw [rounds_succ]; go_wp2_with (first | (go_at_call 73; refine (fourOfWords_any _ _ _ _ _).mono ?_; rintro e w'' ⟨rfl, hb⟩; have hB : Below w'.heap.size w' w'' := (bl_trans (by repeat (first | exact Below.refl _ _ | with_reducible refine bl_al ?_ _ | with_reducible apply Below.drew)) hb); obtain ⟨hcl2, hfr2⟩ := bcell hB; have hz2' : w.heap.size + 1 < w''.heap.size := (by have hz := hB.size; omega); have hz1' : w.heap.size < w''.heap.size := (by omega); have HB2 : Hid (Below w.heap.size w w'') := (bl_trans HB.out hB); clear hb hB))) | (go_region; go_wp2_with (first | (go_at_call 73; refine (fourOfWords_any _ _ _ _ _).mono ?_; rintro e w'' ⟨rfl, hb⟩; have hB : Below w'.heap.size w' w'' := (bl_trans (by repeat (first | exact Below.refl _ _ | with_reducible refine bl_al ?_ _ | with_reducible apply Below.drew)) hb); obtain ⟨hcl2, hfr2⟩ := bcell hB; have hz2' : w.heap.size + 1 < w''.heap.size := (by have hz := hB.size; omega); have hz1' : w.heap.size < w''.heap.size := (by omega); have HB2 : Hid (Below w.heap.size w w'') := (bl_trans HB.out hB); clear hb hB))))
  refine bodyPost_ret (by simp [results, Try.results43, go_sem, *]; try rfl) rfl ?_
  refine ⟨ret_agg4 (by rw [show wd (v4 a3 a2 a1 a0 * 2 ^ (64 * 0 + r)) 3 = _ from shl_hi (v4 a3 a2 a1 a0) 0 r 2 (by omega), wd_v4_2 h3 h2 h1 h0, wd_v4_3 h3 h2 h1 h0]) (by rw [show wd (v4 a3 a2 a1 a0 * 2 ^ (64 * 0 + r)) 2 = _ from shl_hi (v4 a3 a2 a1 a0) 0 r 1 (by omega), wd_v4_1 h3 h2 h1 h0, wd_v4_2 h3 h2 h1 h0]) (by rw [show wd (v4 a3 a2 a1 a0 * 2 ^ (64 * 0 + r)) 1 = _ from shl_hi (v4 a3 a2 a1 a0) 0 r 0 (by omega), wd_v4_0 h3 h2 h1 h0, wd_v4_1 h3 h2 h1 h0]) (by rw [show wd (v4 a3 a2 a1 a0 * 2 ^ (64 * 0 + r)) 0 = _ from shl_lo (v4 a3 a2 a1 a0) 0 r, wd_v4_0 h3 h2 h1 h0]), ?_⟩
  exact Below.setCell (Below.setCell (Below.setCell (Below.setCell HB2.out (by simp) _) (by simp) _) (by simp) _) (by simp) _
set_option maxHeartbeats 1000000 in
theorem shl_1 (a3 a2 a1 a0 : Int) (r : Nat) (h3 : Wd a3) (h2 : Wd a2) (h1 : Wd a1) (h0 : Wd a0) (hr : r < 64) (n : Int) (hn : n = 64 + r) (w : World) :
    Calls Try.prog 43 #[.agg #[.int .u64 a3, .int .u64 a2, .int .u64 a1, .int .u64 a0], .int .i64 n] w fun e w' =>
      e = .returned (.agg #[.int .u64 (wd (v4 a3 a2 a1 a0 * 2 ^ n.toNat) 3), .int .u64 (wd (v4 a3 a2 a1 a0 * 2 ^ n.toNat) 2), .int .u64 (wd (v4 a3 a2 a1 a0 * 2 ^ n.toNat) 1), .int .u64 (wd (v4 a3 a2 a1 a0 * 2 ^ n.toNat) 0)]) ∧ Below w.heap.size w w' := by
  rw [show n.toNat = 64 * 1 + r by omega]
  have hn0 : 0 < n := by omega
  have hn1 : n < 256 := by omega
  have hr1 : (r : Int) < 64 := by omega
  have hr2 : (0 : Int) ≤ 64 - (r : Int) := by omega
  have hr3 : (r : Int) ≤ 64 := by omega
  have hr4 : r ≤ 64 := by omega
  have hq : n / 64 = 1 := by omega
  have hm : n % 64 = (r : Int) := by omega
  have hq2 : n.tdiv 64 = 1 := by rw [Int.tdiv_eq_ediv_of_nonneg (by omega)]; omega
  have hm2 : n.tmod 64 = (r : Int) := by rw [Int.tmod_eq_emod_of_nonneg (by omega)]; omega
  have hq3 : IntKind.i64.wrap (n.tdiv 64) = 1 := by rw [hq2]; rfl
  have hr5 : IntKind.i64.wrap (64 - (r : Int)) = 64 - (r : Int) := IntWalk.i64_in _ (by omega)
  clear hn
  go_enter Try.func43, Try.ntmps43
  go_wp2_with (first | (go_at_call 72; refine (words_any _ _ _ _ _).mono ?_; rintro e w' ⟨rfl, hb⟩; obtain ⟨hcl, hfr⟩ := bcell hb; have hz2 : w.heap.size + 1 < w'.heap.size := (by have hz := hb.size; simp at hz; omega); have hz1 : w.heap.size < w'.heap.size := (by omega); have HB : Hid (Below w.heap.size w w') := (bl_trans (by repeat (first | exact Below.refl _ _ | exact Hid.out (by assumption) | with_reducible refine bl_al ?_ _ | with_reducible apply Below.drew)) hb); clear hb))
  refine wp_loop_rounds 5 ?_
  repeat (first | (rw [rounds_succ]; go_wp2_with (first | (go_at_call 73; refine (fourOfWords_any _ _ _ _ _).mono ?_; rintro e w'' ⟨rfl, hb⟩; have hB : Below w'.heap.size w' w'' := (bl_trans (by repeat (first | exact Below.refl _ _ | with_reducible refine bl_al ?_ _ | with_reducible apply Below.drew)) hb); obtain ⟨hcl2, hfr2⟩ := bcell hB; have hz2' : w.heap.size + 1 < w''.heap.size := (by have hz := hB.size; omega); have hz1' : w.heap.size < w''.heap.size := (by omega); have HB2 : Hid (Below w.heap.size w w'') := (bl_trans HB.out hB); clear hb hB))) | (go_region; go_wp2_with (first | (go_at_call 73; refine (fourOfWords_any _ _ _ _ _).mono ?_; rintro e w'' ⟨rfl, hb⟩; have hB : Below w'.heap.size w' w'' := (bl_trans (by repeat (first | exact Below.refl _ _ | with_reducible refine bl_al ?_ _ | with_reducible apply Below.drew)) hb); obtain ⟨hcl2, hfr2⟩ := bcell hB; have hz2' : w.heap.size + 1 < w''.heap.size := (by have hz := hB.size; omega); have hz1' : w.heap.size < w''.heap.size := (by omega); have HB2 : Hid (Below w.heap.size w w'') := (bl_trans HB.out hB); clear hb hB))))
  refine bodyPost_ret (by simp [results, Try.results43, go_sem, *]; try rfl) rfl ?_
  refine ⟨ret_agg4 (by rw [show wd (v4 a3 a2 a1 a0 * 2 ^ (64 * 1 + r)) 3 = _ from shl_hi (v4 a3 a2 a1 a0) 1 r 1 (by omega), wd_v4_1 h3 h2 h1 h0, wd_v4_2 h3 h2 h1 h0]) (by rw [show wd (v4 a3 a2 a1 a0 * 2 ^ (64 * 1 + r)) 2 = _ from shl_hi (v4 a3 a2 a1 a0) 1 r 0 (by omega), wd_v4_0 h3 h2 h1 h0, wd_v4_1 h3 h2 h1 h0]) (by rw [show wd (v4 a3 a2 a1 a0 * 2 ^ (64 * 1 + r)) 1 = _ from shl_lo (v4 a3 a2 a1 a0) 1 r, wd_v4_0 h3 h2 h1 h0]) (shl_none (V := v4 a3 a2 a1 a0) (q := 1) (r := r) (i := 0) (by decide)).symm, ?_⟩
  exact Below.setCell (Below.setCell (Below.setCell (Below.setCell HB2.out (by simp) _) (by simp) _) (by simp) _) (by simp) _
set_option maxHeartbeats 1000000 in
theorem shl_2 (a3 a2 a1 a0 : Int) (r : Nat) (h3 : Wd a3) (h2 : Wd a2) (h1 : Wd a1) (h0 : Wd a0) (hr : r < 64) (n : Int) (hn : n = 128 + r) (w : World) :
    Calls Try.prog 43 #[.agg #[.int .u64 a3, .int .u64 a2, .int .u64 a1, .int .u64 a0], .int .i64 n] w fun e w' =>
      e = .returned (.agg #[.int .u64 (wd (v4 a3 a2 a1 a0 * 2 ^ n.toNat) 3), .int .u64 (wd (v4 a3 a2 a1 a0 * 2 ^ n.toNat) 2), .int .u64 (wd (v4 a3 a2 a1 a0 * 2 ^ n.toNat) 1), .int .u64 (wd (v4 a3 a2 a1 a0 * 2 ^ n.toNat) 0)]) ∧ Below w.heap.size w w' := by
  rw [show n.toNat = 64 * 2 + r by omega]
  have hn0 : 0 < n := by omega
  have hn1 : n < 256 := by omega
  have hr1 : (r : Int) < 64 := by omega
  have hr2 : (0 : Int) ≤ 64 - (r : Int) := by omega
  have hr3 : (r : Int) ≤ 64 := by omega
  have hr4 : r ≤ 64 := by omega
  have hq : n / 64 = 2 := by omega
  have hm : n % 64 = (r : Int) := by omega
  have hq2 : n.tdiv 64 = 2 := by rw [Int.tdiv_eq_ediv_of_nonneg (by omega)]; omega
  have hm2 : n.tmod 64 = (r : Int) := by rw [Int.tmod_eq_emod_of_nonneg (by omega)]; omega
  have hq3 : IntKind.i64.wrap (n.tdiv 64) = 2 := by rw [hq2]; rfl
  have hr5 : IntKind.i64.wrap (64 - (r : Int)) = 64 - (r : Int) := IntWalk.i64_in _ (by omega)
  clear hn
  go_enter Try.func43, Try.ntmps43
  go_wp2_with (first | (go_at_call 72; refine (words_any _ _ _ _ _).mono ?_; rintro e w' ⟨rfl, hb⟩; obtain ⟨hcl, hfr⟩ := bcell hb; have hz2 : w.heap.size + 1 < w'.heap.size := (by have hz := hb.size; simp at hz; omega); have hz1 : w.heap.size < w'.heap.size := (by omega); have HB : Hid (Below w.heap.size w w') := (bl_trans (by repeat (first | exact Below.refl _ _ | exact Hid.out (by assumption) | with_reducible refine bl_al ?_ _ | with_reducible apply Below.drew)) hb); clear hb))
  refine wp_loop_rounds 5 ?_
  repeat (first | (rw [rounds_succ]; go_wp2_with (first | (go_at_call 73; refine (fourOfWords_any _ _ _ _ _).mono ?_; rintro e w'' ⟨rfl, hb⟩; have hB : Below w'.heap.size w' w'' := (bl_trans (by repeat (first | exact Below.refl _ _ | with_reducible refine bl_al ?_ _ | with_reducible apply Below.drew)) hb); obtain ⟨hcl2, hfr2⟩ := bcell hB; have hz2' : w.heap.size + 1 < w''.heap.size := (by have hz := hB.size; omega); have hz1' : w.heap.size < w''.heap.size := (by omega); have HB2 : Hid (Below w.heap.size w w'') := (bl_trans HB.out hB); clear hb hB))) | (go_region; go_wp2_with (first | (go_at_call 73; refine (fourOfWords_any _ _ _ _ _).mono ?_; rintro e w'' ⟨rfl, hb⟩; have hB : Below w'.heap.size w' w'' := (bl_trans (by repeat (first | exact Below.refl _ _ | with_reducible refine bl_al ?_ _ | with_reducible apply Below.drew)) hb); obtain ⟨hcl2, hfr2⟩ := bcell hB; have hz2' : w.heap.size + 1 < w''.heap.size := (by have hz := hB.size; omega); have hz1' : w.heap.size < w''.heap.size := (by omega); have HB2 : Hid (Below w.heap.size w w'') := (bl_trans HB.out hB); clear hb hB))))
  refine bodyPost_ret (by simp [results, Try.results43, go_sem, *]; try rfl) rfl ?_
  refine ⟨ret_agg4 (by rw [show wd (v4 a3 a2 a1 a0 * 2 ^ (64 * 2 + r)) 3 = _ from shl_hi (v4 a3 a2 a1 a0) 2 r 0 (by omega), wd_v4_0 h3 h2 h1 h0, wd_v4_1 h3 h2 h1 h0]) (by rw [show wd (v4 a3 a2 a1 a0 * 2 ^ (64 * 2 + r)) 2 = _ from shl_lo (v4 a3 a2 a1 a0) 2 r, wd_v4_0 h3 h2 h1 h0]) (shl_none (V := v4 a3 a2 a1 a0) (q := 2) (r := r) (i := 1) (by decide)).symm (shl_none (V := v4 a3 a2 a1 a0) (q := 2) (r := r) (i := 0) (by decide)).symm, ?_⟩
  exact Below.setCell (Below.setCell (Below.setCell (Below.setCell HB2.out (by simp) _) (by simp) _) (by simp) _) (by simp) _
set_option maxHeartbeats 1000000 in
theorem shl_3 (a3 a2 a1 a0 : Int) (r : Nat) (h3 : Wd a3) (h2 : Wd a2) (h1 : Wd a1) (h0 : Wd a0) (hr : r < 64) (n : Int) (hn : n = 192 + r) (w : World) :
    Calls Try.prog 43 #[.agg #[.int .u64 a3, .int .u64 a2, .int .u64 a1, .int .u64 a0], .int .i64 n] w fun e w' =>
      e = .returned (.agg #[.int .u64 (wd (v4 a3 a2 a1 a0 * 2 ^ n.toNat) 3), .int .u64 (wd (v4 a3 a2 a1 a0 * 2 ^ n.toNat) 2), .int .u64 (wd (v4 a3 a2 a1 a0 * 2 ^ n.toNat) 1), .int .u64 (wd (v4 a3 a2 a1 a0 * 2 ^ n.toNat) 0)]) ∧ Below w.heap.size w w' := by
  rw [show n.toNat = 64 * 3 + r by omega]
  have hn0 : 0 < n := by omega
  have hn1 : n < 256 := by omega
  have hr1 : (r : Int) < 64 := by omega
  have hr2 : (0 : Int) ≤ 64 - (r : Int) := by omega
  have hr3 : (r : Int) ≤ 64 := by omega
  have hr4 : r ≤ 64 := by omega
  have hq : n / 64 = 3 := by omega
  have hm : n % 64 = (r : Int) := by omega
  have hq2 : n.tdiv 64 = 3 := by rw [Int.tdiv_eq_ediv_of_nonneg (by omega)]; omega
  have hm2 : n.tmod 64 = (r : Int) := by rw [Int.tmod_eq_emod_of_nonneg (by omega)]; omega
  have hq3 : IntKind.i64.wrap (n.tdiv 64) = 3 := by rw [hq2]; rfl
  have hr5 : IntKind.i64.wrap (64 - (r : Int)) = 64 - (r : Int) := IntWalk.i64_in _ (by omega)
  clear hn
  go_enter Try.func43, Try.ntmps43
  go_wp2_with (first | (go_at_call 72; refine (words_any _ _ _ _ _).mono ?_; rintro e w' ⟨rfl, hb⟩; obtain ⟨hcl, hfr⟩ := bcell hb; have hz2 : w.heap.size + 1 < w'.heap.size := (by have hz := hb.size; simp at hz; omega); have hz1 : w.heap.size < w'.heap.size := (by omega); have HB : Hid (Below w.heap.size w w') := (bl_trans (by repeat (first | exact Below.refl _ _ | exact Hid.out (by assumption) | with_reducible refine bl_al ?_ _ | with_reducible apply Below.drew)) hb); clear hb))
  refine wp_loop_rounds 5 ?_
  repeat (first | (rw [rounds_succ]; go_wp2_with (first | (go_at_call 73; refine (fourOfWords_any _ _ _ _ _).mono ?_; rintro e w'' ⟨rfl, hb⟩; have hB : Below w'.heap.size w' w'' := (bl_trans (by repeat (first | exact Below.refl _ _ | with_reducible refine bl_al ?_ _ | with_reducible apply Below.drew)) hb); obtain ⟨hcl2, hfr2⟩ := bcell hB; have hz2' : w.heap.size + 1 < w''.heap.size := (by have hz := hB.size; omega); have hz1' : w.heap.size < w''.heap.size := (by omega); have HB2 : Hid (Below w.heap.size w w'') := (bl_trans HB.out hB); clear hb hB))) | (go_region; go_wp2_with (first | (go_at_call 73; refine (fourOfWords_any _ _ _ _ _).mono ?_; rintro e w'' ⟨rfl, hb⟩; have hB : Below w'.heap.size w' w'' := (bl_trans (by repeat (first | exact Below.refl _ _ | with_reducible refine bl_al ?_ _ | with_reducible apply Below.drew)) hb); obtain ⟨hcl2, hfr2⟩ := bcell hB; have hz2' : w.heap.size + 1 < w''.heap.size := (by have hz := hB.size; omega); have hz1' : w.heap.size < w''.heap.size := (by omega); have HB2 : Hid (Below w.heap.size w w'') := (bl_trans HB.out hB); clear hb hB))))
  refine bodyPost_ret (by simp [results, Try.results43, go_sem, *]; try rfl) rfl ?_
  refine ⟨ret_agg4 (by rw [show wd (v4 a3 a2 a1 a0 * 2 ^ (64 * 3 + r)) 3 = _ from shl_lo (v4 a3 a2 a1 a0) 3 r, wd_v4_0 h3 h2 h1 h0]) (shl_none (V := v4 a3 a2 a1 a0) (q := 3) (r := r) (i := 2) (by decide)).symm (shl_none (V := v4 a3 a2 a1 a0) (q := 3) (r := r) (i := 1) (by decide)).symm (shl_none (V := v4 a3 a2 a1 a0) (q := 3) (r := r) (i := 0) (by decide)).symm, ?_⟩
  exact Below.setCell (Below.setCell (Below.setCell (Below.setCell HB2.out (by simp) _) (by simp) _) (by simp) _) (by simp) _
theorem shl_any (a3 a2 a1 a0 n : Int) (h3 : Wd a3) (h2 : Wd a2) (h1 : Wd a1) (h0 : Wd a0) (hn : n < 9223372036854775808) (w : World) :
    Calls Try.prog 43 #[.agg #[.int .u64 a3, .int .u64 a2, .int .u64 a1, .int .u64 a0], .int .i64 n] w fun e w' =>
      e = .returned (.agg #[.int .u64 (wd (v4 a3 a2 a1 a0 * 2 ^ n.toNat) 3), .int .u64 (wd (v4 a3 a2 a1 a0 * 2 ^ n.toNat) 2), .int .u64 (wd (v4 a3 a2 a1 a0 * 2 ^ n.toNat) 1), .int .u64 (wd (v4 a3 a2 a1 a0 * 2 ^ n.toNat) 0)]) ∧ Below w.heap.size w w' := by
  by_cases c : n ≤ 0
  · exact shl_low a3 a2 a1 a0 h3 h2 h1 h0 n c w
  by_cases c4 : 256 ≤ n
  · exact shl_big a3 a2 a1 a0 h3 h2 h1 h0 n c4 hn w
  rcases (show n / 64 = 0 ∨ n / 64 = 1 ∨ n / 64 = 2 ∨ n / 64 = 3 by omega) with k | k | k | k
  · exact shl_0 a3 a2 a1 a0 (n % 64).toNat h3 h2 h1 h0 (by omega) (by omega) n (by omega) w
  · exact shl_1 a3 a2 a1 a0 (n % 64).toNat h3 h2 h1 h0 (by omega) n (by omega) w
  · exact shl_2 a3 a2 a1 a0 (n % 64).toNat h3 h2 h1 h0 (by omega) n (by omega) w
  · exact shl_3 a3 a2 a1 a0 (n % 64).toNat h3 h2 h1 h0 (by omega) n (by omega) w
end Go.Proofs.Ytmmlekgojblopaa
namespace Go.Proofs.Ytmmlekgojblopaa
open Go.RowKit
theorem big_pow {n : Nat} (h : 256 ≤ n) : 115792089237316195423570985008687907853269984665640564039457584007913129639936 ≤ 2 ^ n := by
  rw [show (115792089237316195423570985008687907853269984665640564039457584007913129639936 : Nat) = 2 ^ 256 by decide]
  exact Nat.pow_le_pow_right (by decide) h
theorem shr_low (a3 a2 a1 a0 : Int) (h3 : Wd a3) (h2 : Wd a2) (h1 : Wd a1) (h0 : Wd a0) (n : Int) (hn0 : n ≤ 0) (w : World) :
    Calls Try.prog 59 #[.agg #[.int .u64 a3, .int .u64 a2, .int .u64 a1, .int .u64 a0], .int .i64 n] w fun e w' =>
      e = .returned (.agg #[.int .u64 (wd (v4 a3 a2 a1 a0 / 2 ^ n.toNat) 3), .int .u64 (wd (v4 a3 a2 a1 a0 / 2 ^ n.toNat) 2), .int .u64 (wd (v4 a3 a2 a1 a0 / 2 ^ n.toNat) 1), .int .u64 (wd (v4 a3 a2 a1 a0 / 2 ^ n.toNat) 0)]) ∧ Below w.heap.size w w' := by
  rw [show n.toNat = 0 by omega, Nat.pow_zero, Nat.div_one, wd_v4_3 h3 h2 h1 h0, wd_v4_2 h3 h2 h1 h0, wd_v4_1 h3 h2 h1 h0, wd_v4_0 h3 h2 h1 h0]
  go_enter Try.func59, Try.ntmps59
  go_wp2
  go_returns
  exact ⟨rfl, by go_grown⟩
set_option maxHeartbeats 1000000 in
theorem shr_big (a3 a2 a1 a0 : Int) (h3 : Wd a3) (h2 : Wd a2) (h1 : Wd a1) (h0 : Wd a0) (n : Int) (hn0 : 256 ≤ n) (hn1 : n < 9223372036854775808) (w : World) :
    Calls Try.prog 59 #[.agg #[.int .u64 a3, .int .u64 a2, .int .u64 a1, .int .u64 a0], .int .i64 n] w fun e w' =>
      e = .returned (.agg #[.int .u64 (wd (v4 a3 a2 a1 a0 / 2 ^ n.toNat) 3), .int .u64 (wd (v4 a3 a2 a1 a0 / 2 ^ n.toNat) 2), .int .u64 (wd (v4 a3 a2 a1 a0 / 2 ^ n.toNat) 1), .int .u64 (wd (v4 a3 a2 a1 a0 / 2 ^ n.toNat) 0)]) ∧ Below w.heap.size w w' := by
  have k0 : ¬ n ≤ 0 := by omega
  have k1 : ¬ n / 64 < 4 := by omega
  have k2 : 0 ≤ n := by omega
  go_enter Try.func59, Try.ntmps59
  go_wp2_with (first | (go_at_call 72; refine (words_any _ _ _ _ _).mono ?_; rintro e w' ⟨rfl, hb⟩; obtain ⟨hcl, hfr⟩ := bcell hb; have hz2 : w.heap.size + 1 < w'.heap.size := (by have hz := hb.size; simp at hz; omega); have hz1 : w.heap.size < w'.heap.size := (by omega); have HB : Hid (Below w.heap.size w w') := (bl_trans (by repeat (first | exact Below.refl _ _ | exact Hid.out (by assumption) | with_reducible refine bl_al ?_ _ | with_reducible apply Below.drew)) hb); clear hb))
  refine wp_loop_rounds 1 ?_
  rw [rounds_succ]; go_wp2_with (first | (go_at_call 73; refine (fourOfWords_any _ _ _ _ _).mono ?_; rintro e w'' ⟨rfl, hb⟩; have hB : Below w'.heap.size w' w'' := (bl_trans (by repeat (first | exact Below.refl _ _ | with_reducible refine bl_al ?_ _ | with_reducible apply Below.drew)) hb); obtain ⟨hcl2, hfr2⟩ := bcell hB; have hz2' : w.heap.size + 1 < w''.heap.size := (by have hz := hB.size; omega); have hz1' : w.heap.size < w''.heap.size := (by omega); have HB2 : Hid (Below w.heap.size w w'') := (bl_trans HB.out hB); clear hb hB))
  refine bodyPost_ret (by simp [results, Try.results59, go_sem, *]; try rfl) rfl ?_
  refine ⟨ret_agg4 (by rw [Nat.div_eq_of_lt (Nat.lt_of_lt_of_le (v4_lt h3 h2 h1 h0) (big_pow (by omega)))]; rfl) (by rw [Nat.div_eq_of_lt (Nat.lt_of_lt_of_le (v4_lt h3 h2 h1 h0) (big_pow (by omega)))]; rfl) (by rw [Nat.div_eq_of_lt (Nat.lt_of_lt_of_le (v4_lt h3 h2 h1 h0) (big_pow (by omega)))]; rfl) (by rw [Nat.div_eq_of_lt (Nat.lt_of_lt_of_le (v4_lt h3 h2 h1 h0) (big_pow (by omega)))]; rfl), ?_⟩
  exact Below.setCell (Below.setCell (Below.setCell (Below.setCell HB2.out (by simp) _) (by simp) _) (by simp) _) (by simp) _
set_option maxHeartbeats 1000000 in
theorem shr_0 (a3 a2 a1 a0 : Int) (r : Nat) (h3 : Wd a3) (h2 : Wd a2) (h1 : Wd a1) (h0 : Wd a0) (hr : r < 64) (hr0 : 0 < r) (n : Int) (hn : n = 0 + r) (w : World) :
    Calls Try.prog 59 #[.agg #[.int .u64 a3, .int .u64 a2, .int .u64 a1, .int .u64 a0], .int .i64 n] w fun e w' =>
      e = .returned (.agg #[.int .u64 (wd (v4 a3 a2 a1 a0 / 2 ^ n.toNat) 3), .int .u64 (wd (v4 a3 a2 a1 a0 / 2 ^ n.toNat) 2), .int .u64 (wd (v4 a3 a2 a1 a0 / 2 ^ n.toNat) 1), .int .u64 (wd (v4 a3 a2 a1 a0 / 2 ^ n.toNat) 0)]) ∧ Below w.heap.size w w' := by
  rw [show n.toNat = 64 * 0 + r by omega]
  have hn0 : 0 < n := by omega
  have hn1 : n < 256 := by omega
  have hr1 : (r : Int) < 64 := by omega
  have hr2 : (0 : Int) ≤ 64 - (r : Int) := by omega
  have hr3 : (r : Int) ≤ 64 := by omega
  have hr4 : r ≤ 64 := by omega
  have hq : n / 64 = 0 := by omega
  have hm : n % 64 = (r : Int) := by omega
  have hq2 : n.tdiv 64 = 0 := by rw [Int.tdiv_eq_ediv_of_nonneg (by omega)]; omega
  have hm2 : n.tmod 64 = (r : Int) := by rw [Int.tmod_eq_emod_of_nonneg (by omega)]; omega
  have hq3 : IntKind.i64.wrap (n.tdiv 64) = 0 := by rw [hq2]; rfl
  have hr5 : IntKind.i64.wrap (64 - (r : Int)) = 64 - (r : Int) := IntWalk.i64_in _ (by omega)
  clear hn
  go_enter Try.func59, Try.ntmps59
  go_wp2_with (first | (go_at_call 72; refine (words_any _ _ _ _ _).mono ?_; rintro e w' ⟨rfl, hb⟩; obtain ⟨hcl, hfr⟩ := bcell hb; have hz2 : w.heap.size + 1 < w'.heap.size := (by have hz := hb.size; simp at hz; omega); have hz1 : w.heap.size < w'.heap.size := (by omega); have HB : Hid (Below w.heap.size w w') := (bl_trans (by repeat (first | exact Below.refl _ _ | exact Hid.out (by assumption) | with_reducible refine bl_al ?_ _ | with_reducible apply Below.drew)) hb); clear hb))
  refine wp_loop_rounds 5 ?_
  repeat (first | (rw [rounds_succ]; go_wp2_with (first | (go_at_call 73; refine (fourOfWords_any _ _ _ _ _).mono ?_; rintro e w'' ⟨rfl, hb⟩; have hB : Below w'.heap.size w' w'' := (bl_trans (by repeat (first | exact Below.refl _ _ | with_reducible refine bl_al ?_ _ | with_reducible apply Below.drew)) hb); obtain ⟨hcl2, hfr2⟩ := bcell hB; have hz2' : w.heap.size + 1 < w''.heap.size := (by have hz := hB.size; omega); have hz1' : w.heap.size < w''.heap.size := (by omega); have HB2 : Hid (Below w.heap.size w w'') := (bl_trans HB.out hB); clear hb hB))) | (go_region; go_wp2_with (first | (go_at_call 73; refine (fourOfWords_any _ _ _ _ _).mono ?_; rintro e w'' ⟨rfl, hb⟩; have hB : Below w'.heap.size w' w'' := (bl_trans (by repeat (first | exact Below.refl _ _ | with_reducible refine bl_al ?_ _ | with_reducible apply Below.drew)) hb); obtain ⟨hcl2, hfr2⟩ := bcell hB; have hz2' : w.heap.size + 1 < w''.heap.size := (by have hz := hB.size; omega); have hz1' : w.heap.size < w''.heap.size := (by omega); have HB2 : Hid (Below w.heap.size w w'') := (bl_trans HB.out hB); clear hb hB))))
  refine bodyPost_ret (by simp [results, Try.results59, go_sem, *]; try rfl) rfl ?_
  refine ⟨ret_agg4 (by rw [show wd (v4 a3 a2 a1 a0 / 2 ^ (64 * 0 + r)) 3 = _ from shr_w (v4 a3 a2 a1 a0) 0 r 3 (by omega), wd_v4_3 h3 h2 h1 h0, wd_high (v4_lt h3 h2 h1 h0) (by decide)]; exact shr_top h3 r) (by rw [show wd (v4 a3 a2 a1 a0 / 2 ^ (64 * 0 + r)) 2 = _ from shr_w (v4 a3 a2 a1 a0) 0 r 2 (by omega), wd_v4_2 h3 h2 h1 h0, wd_v4_3 h3 h2 h1 h0]; exact shr_mid h2 r _) (by rw [show wd (v4 a3 a2 a1 a0 / 2 ^ (64 * 0 + r)) 1 = _ from shr_w (v4 a3 a2 a1 a0) 0 r 1 (by omega), wd_v4_1 h3 h2 h1 h0, wd_v4_2 h3 h2 h1 h0]; exact shr_mid h1 r _) (by rw [show wd (v4 a3 a2 a1 a0 / 2 ^ (64 * 0 + r)) 0 = _ from shr_w (v4 a3 a2 a1 a0) 0 r 0 (by omega), wd_v4_0 h3 h2 h1 h0, wd_v4_1 h3 h2 h1 h0]; exact shr_mid h0 r _), ?_⟩
  exact Below.setCell (Below.setCell (Below.setCell (Below.setCell HB2.out (by simp) _) (by simp) _) (by simp) _) (by simp) _
set_option maxHeartbeats 1000000 in
theorem shr_1 (a3 a2 a1 a0 : Int) (r : Nat) (h3 : Wd a3) (h2 : Wd a2) (h1 : Wd a1) (h0 : Wd a0) (hr : r < 64) (n : Int) (hn : n = 64 + r) (w : World) :
    Calls Try.prog 59 #[.agg #[.int .u64 a3, .int .u64 a2, .int .u64 a1, .int .u64 a0], .int .i64 n] w fun e w' =>
      e = .returned (.agg #[.int .u64 (wd (v4 a3 a2 a1 a0 / 2 ^ n.toNat) 3), .int .u64 (wd (v4 a3 a2 a1 a0 / 2 ^ n.toNat) 2), .int .u64 (wd (v4 a3 a2 a1 a0 / 2 ^ n.toNat) 1), .int .u64 (wd (v4 a3 a2 a1 a0 / 2 ^ n.toNat) 0)]) ∧ Below w.heap.size w w' := by
  rw [show n.toNat = 64 * 1 + r by omega]
  have hn0 : 0 < n := by omega
  have hn1 : n < 256 := by omega
  have hr1 : (r : Int) < 64 := by omega
  have hr2 : (0 : Int) ≤ 64 - (r : Int) := by omega
  have hr3 : (r : Int) ≤ 64 := by omega
  have hr4 : r ≤ 64 := by omega
  have hq : n / 64 = 1 := by omega
  have hm : n % 64 = (r : Int) := by omega
  have hq2 : n.tdiv 64 = 1 := by rw [Int.tdiv_eq_ediv_of_nonneg (by omega)]; omega
  have hm2 : n.tmod 64 = (r : Int) := by rw [Int.tmod_eq_emod_of_nonneg (by omega)]; omega
  have hq3 : IntKind.i64.wrap (n.tdiv 64) = 1 := by rw [hq2]; rfl
  have hr5 : IntKind.i64.wrap (64 - (r : Int)) = 64 - (r : Int) := IntWalk.i64_in _ (by omega)
  clear hn
  go_enter Try.func59, Try.ntmps59
  go_wp2_with (first | (go_at_call 72; refine (words_any _ _ _ _ _).mono ?_; rintro e w' ⟨rfl, hb⟩; obtain ⟨hcl, hfr⟩ := bcell hb; have hz2 : w.heap.size + 1 < w'.heap.size := (by have hz := hb.size; simp at hz; omega); have hz1 : w.heap.size < w'.heap.size := (by omega); have HB : Hid (Below w.heap.size w w') := (bl_trans (by repeat (first | exact Below.refl _ _ | exact Hid.out (by assumption) | with_reducible refine bl_al ?_ _ | with_reducible apply Below.drew)) hb); clear hb))
  refine wp_loop_rounds 5 ?_
  repeat (first | (rw [rounds_succ]; go_wp2_with (first | (go_at_call 73; refine (fourOfWords_any _ _ _ _ _).mono ?_; rintro e w'' ⟨rfl, hb⟩; have hB : Below w'.heap.size w' w'' := (bl_trans (by repeat (first | exact Below.refl _ _ | with_reducible refine bl_al ?_ _ | with_reducible apply Below.drew)) hb); obtain ⟨hcl2, hfr2⟩ := bcell hB; have hz2' : w.heap.size + 1 < w''.heap.size := (by have hz := hB.size; omega); have hz1' : w.heap.size < w''.heap.size := (by omega); have HB2 : Hid (Below w.heap.size w w'') := (bl_trans HB.out hB); clear hb hB))) | (go_region; go_wp2_with (first | (go_at_call 73; refine (fourOfWords_any _ _ _ _ _).mono ?_; rintro e w'' ⟨rfl, hb⟩; have hB : Below w'.heap.size w' w'' := (bl_trans (by repeat (first | exact Below.refl _ _ | with_reducible refine bl_al ?_ _ | with_reducible apply Below.drew)) hb); obtain ⟨hcl2, hfr2⟩ := bcell hB; have hz2' : w.heap.size + 1 < w''.heap.size := (by have hz := hB.size; omega); have hz1' : w.heap.size < w''.heap.size := (by omega); have HB2 : Hid (Below w.heap.size w w'') := (bl_trans HB.out hB); clear hb hB))))
  refine bodyPost_ret (by simp [results, Try.results59, go_sem, *]; try rfl) rfl ?_
  refine ⟨ret_agg4 (by rw [show wd (v4 a3 a2 a1 a0 / 2 ^ (64 * 1 + r)) 3 = _ from shr_w (v4 a3 a2 a1 a0) 1 r 3 (by omega), wd_high (v4_lt h3 h2 h1 h0) (by decide), wd_high (v4_lt h3 h2 h1 h0) (by decide)]; exact shr_zero r) (by rw [show wd (v4 a3 a2 a1 a0 / 2 ^ (64 * 1 + r)) 2 = _ from shr_w (v4 a3 a2 a1 a0) 1 r 2 (by omega), wd_v4_3 h3 h2 h1 h0, wd_high (v4_lt h3 h2 h1 h0) (by decide)]; exact shr_top h3 r) (by rw [show wd (v4 a3 a2 a1 a0 / 2 ^ (64 * 1 + r)) 1 = _ from shr_w (v4 a3 a2 a1 a0) 1 r 1 (by omega), wd_v4_2 h3 h2 h1 h0, wd_v4_3 h3 h2 h1 h0]; exact shr_mid h2 r _) (by rw [show wd (v4 a3 a2 a1 a0 / 2 ^ (64 * 1 + r)) 0 = _ from shr_w (v4 a3 a2 a1 a0) 1 r 0 (by omega), wd_v4_1 h3 h2 h1 h0, wd_v4_2 h3 h2 h1 h0]; exact shr_mid h1 r _), ?_⟩
  exact Below.setCell (Below.setCell (Below.setCell (Below.setCell HB2.out (by simp) _) (by simp) _) (by simp) _) (by simp) _
set_option maxHeartbeats 1000000 in
theorem shr_2 (a3 a2 a1 a0 : Int) (r : Nat) (h3 : Wd a3) (h2 : Wd a2) (h1 : Wd a1) (h0 : Wd a0) (hr : r < 64) (n : Int) (hn : n = 128 + r) (w : World) :
    Calls Try.prog 59 #[.agg #[.int .u64 a3, .int .u64 a2, .int .u64 a1, .int .u64 a0], .int .i64 n] w fun e w' =>
      e = .returned (.agg #[.int .u64 (wd (v4 a3 a2 a1 a0 / 2 ^ n.toNat) 3), .int .u64 (wd (v4 a3 a2 a1 a0 / 2 ^ n.toNat) 2), .int .u64 (wd (v4 a3 a2 a1 a0 / 2 ^ n.toNat) 1), .int .u64 (wd (v4 a3 a2 a1 a0 / 2 ^ n.toNat) 0)]) ∧ Below w.heap.size w w' := by
  rw [show n.toNat = 64 * 2 + r by omega]
  have hn0 : 0 < n := by omega
  have hn1 : n < 256 := by omega
  have hr1 : (r : Int) < 64 := by omega
  have hr2 : (0 : Int) ≤ 64 - (r : Int) := by omega
  have hr3 : (r : Int) ≤ 64 := by omega
  have hr4 : r ≤ 64 := by omega
  have hq : n / 64 = 2 := by omega
  have hm : n % 64 = (r : Int) := by omega
  have hq2 : n.tdiv 64 = 2 := by rw [Int.tdiv_eq_ediv_of_nonneg (by omega)]; omega
  have hm2 : n.tmod 64 = (r : Int) := by rw [Int.tmod_eq_emod_of_nonneg (by omega)]; omega
  have hq3 : IntKind.i64.wrap (n.tdiv 64) = 2 := by rw [hq2]; rfl
  have hr5 : IntKind.i64.wrap (64 - (r : Int)) = 64 - (r : Int) := IntWalk.i64_in _ (by omega)
  clear hn
  go_enter Try.func59, Try.ntmps59
  go_wp2_with (first | (go_at_call 72; refine (words_any _ _ _ _ _).mono ?_; rintro e w' ⟨rfl, hb⟩; obtain ⟨hcl, hfr⟩ := bcell hb; have hz2 : w.heap.size + 1 < w'.heap.size := (by have hz := hb.size; simp at hz; omega); have hz1 : w.heap.size < w'.heap.size := (by omega); have HB : Hid (Below w.heap.size w w') := (bl_trans (by repeat (first | exact Below.refl _ _ | exact Hid.out (by assumption) | with_reducible refine bl_al ?_ _ | with_reducible apply Below.drew)) hb); clear hb))
  refine wp_loop_rounds 5 ?_
  repeat (first | (rw [rounds_succ]; go_wp2_with (first | (go_at_call 73; refine (fourOfWords_any _ _ _ _ _).mono ?_; rintro e w'' ⟨rfl, hb⟩; have hB : Below w'.heap.size w' w'' := (bl_trans (by repeat (first | exact Below.refl _ _ | with_reducible refine bl_al ?_ _ | with_reducible apply Below.drew)) hb); obtain ⟨hcl2, hfr2⟩ := bcell hB; have hz2' : w.heap.size + 1 < w''.heap.size := (by have hz := hB.size; omega); have hz1' : w.heap.size < w''.heap.size := (by omega); have HB2 : Hid (Below w.heap.size w w'') := (bl_trans HB.out hB); clear hb hB))) | (go_region; go_wp2_with (first | (go_at_call 73; refine (fourOfWords_any _ _ _ _ _).mono ?_; rintro e w'' ⟨rfl, hb⟩; have hB : Below w'.heap.size w' w'' := (bl_trans (by repeat (first | exact Below.refl _ _ | with_reducible refine bl_al ?_ _ | with_reducible apply Below.drew)) hb); obtain ⟨hcl2, hfr2⟩ := bcell hB; have hz2' : w.heap.size + 1 < w''.heap.size := (by have hz := hB.size; omega); have hz1' : w.heap.size < w''.heap.size := (by omega); have HB2 : Hid (Below w.heap.size w w'') := (bl_trans HB.out hB); clear hb hB))))
  refine bodyPost_ret (by simp [results, Try.results59, go_sem, *]; try rfl) rfl ?_
  refine ⟨ret_agg4 (by rw [show wd (v4 a3 a2 a1 a0 / 2 ^ (64 * 2 + r)) 3 = _ from shr_w (v4 a3 a2 a1 a0) 2 r 3 (by omega), wd_high (v4_lt h3 h2 h1 h0) (by decide), wd_high (v4_lt h3 h2 h1 h0) (by decide)]; exact shr_zero r) (by rw [show wd (v4 a3 a2 a1 a0 / 2 ^ (64 * 2 + r)) 2 = _ from shr_w (v4 a3 a2 a1 a0) 2 r 2 (by omega), wd_high (v4_lt h3 h2 h1 h0) (by decide), wd_high (v4_lt h3 h2 h1 h0) (by decide)]; exact shr_zero r) (by rw [show wd (v4 a3 a2 a1 a0 / 2 ^ (64 * 2 + r)) 1 = _ from shr_w (v4 a3 a2 a1 a0) 2 r 1 (by omega), wd_v4_3 h3 h2 h1 h0, wd_high (v4_lt h3 h2 h1 h0) (by decide)]; exact shr_top h3 r) (by rw [show wd (v4 a3 a2 a1 a0 / 2 ^ (64 * 2 + r)) 0 = _ from shr_w (v4 a3 a2 a1 a0) 2 r 0 (by omega), wd_v4_2 h3 h2 h1 h0, wd_v4_3 h3 h2 h1 h0]; exact shr_mid h2 r _), ?_⟩
  exact Below.setCell (Below.setCell (Below.setCell (Below.setCell HB2.out (by simp) _) (by simp) _) (by simp) _) (by simp) _
set_option maxHeartbeats 1000000 in
theorem shr_3 (a3 a2 a1 a0 : Int) (r : Nat) (h3 : Wd a3) (h2 : Wd a2) (h1 : Wd a1) (h0 : Wd a0) (hr : r < 64) (n : Int) (hn : n = 192 + r) (w : World) :
    Calls Try.prog 59 #[.agg #[.int .u64 a3, .int .u64 a2, .int .u64 a1, .int .u64 a0], .int .i64 n] w fun e w' =>
      e = .returned (.agg #[.int .u64 (wd (v4 a3 a2 a1 a0 / 2 ^ n.toNat) 3), .int .u64 (wd (v4 a3 a2 a1 a0 / 2 ^ n.toNat) 2), .int .u64 (wd (v4 a3 a2 a1 a0 / 2 ^ n.toNat) 1), .int .u64 (wd (v4 a3 a2 a1 a0 / 2 ^ n.toNat) 0)]) ∧ Below w.heap.size w w' := by
  rw [show n.toNat = 64 * 3 + r by omega]
  have hn0 : 0 < n := by omega
  have hn1 : n < 256 := by omega
  have hr1 : (r : Int) < 64 := by omega
  have hr2 : (0 : Int) ≤ 64 - (r : Int) := by omega
  have hr3 : (r : Int) ≤ 64 := by omega
  have hr4 : r ≤ 64 := by omega
  have hq : n / 64 = 3 := by omega
  have hm : n % 64 = (r : Int) := by omega
  have hq2 : n.tdiv 64 = 3 := by rw [Int.tdiv_eq_ediv_of_nonneg (by omega)]; omega
  have hm2 : n.tmod 64 = (r : Int) := by rw [Int.tmod_eq_emod_of_nonneg (by omega)]; omega
  have hq3 : IntKind.i64.wrap (n.tdiv 64) = 3 := by rw [hq2]; rfl
  have hr5 : IntKind.i64.wrap (64 - (r : Int)) = 64 - (r : Int) := IntWalk.i64_in _ (by omega)
  clear hn
  go_enter Try.func59, Try.ntmps59
  go_wp2_with (first | (go_at_call 72; refine (words_any _ _ _ _ _).mono ?_; rintro e w' ⟨rfl, hb⟩; obtain ⟨hcl, hfr⟩ := bcell hb; have hz2 : w.heap.size + 1 < w'.heap.size := (by have hz := hb.size; simp at hz; omega); have hz1 : w.heap.size < w'.heap.size := (by omega); have HB : Hid (Below w.heap.size w w') := (bl_trans (by repeat (first | exact Below.refl _ _ | exact Hid.out (by assumption) | with_reducible refine bl_al ?_ _ | with_reducible apply Below.drew)) hb); clear hb))
  refine wp_loop_rounds 5 ?_
  repeat (first | (rw [rounds_succ]; go_wp2_with (first | (go_at_call 73; refine (fourOfWords_any _ _ _ _ _).mono ?_; rintro e w'' ⟨rfl, hb⟩; have hB : Below w'.heap.size w' w'' := (bl_trans (by repeat (first | exact Below.refl _ _ | with_reducible refine bl_al ?_ _ | with_reducible apply Below.drew)) hb); obtain ⟨hcl2, hfr2⟩ := bcell hB; have hz2' : w.heap.size + 1 < w''.heap.size := (by have hz := hB.size; omega); have hz1' : w.heap.size < w''.heap.size := (by omega); have HB2 : Hid (Below w.heap.size w w'') := (bl_trans HB.out hB); clear hb hB))) | (go_region; go_wp2_with (first | (go_at_call 73; refine (fourOfWords_any _ _ _ _ _).mono ?_; rintro e w'' ⟨rfl, hb⟩; have hB : Below w'.heap.size w' w'' := (bl_trans (by repeat (first | exact Below.refl _ _ | with_reducible refine bl_al ?_ _ | with_reducible apply Below.drew)) hb); obtain ⟨hcl2, hfr2⟩ := bcell hB; have hz2' : w.heap.size + 1 < w''.heap.size := (by have hz := hB.size; omega); have hz1' : w.heap.size < w''.heap.size := (by omega); have HB2 : Hid (Below w.heap.size w w'') := (bl_trans HB.out hB); clear hb hB))))
  refine bodyPost_ret (by simp [results, Try.results59, go_sem, *]; try rfl) rfl ?_
  refine ⟨ret_agg4 (by rw [show wd (v4 a3 a2 a1 a0 / 2 ^ (64 * 3 + r)) 3 = _ from shr_w (v4 a3 a2 a1 a0) 3 r 3 (by omega), wd_high (v4_lt h3 h2 h1 h0) (by decide), wd_high (v4_lt h3 h2 h1 h0) (by decide)]; exact shr_zero r) (by rw [show wd (v4 a3 a2 a1 a0 / 2 ^ (64 * 3 + r)) 2 = _ from shr_w (v4 a3 a2 a1 a0) 3 r 2 (by omega), wd_high (v4_lt h3 h2 h1 h0) (by decide), wd_high (v4_lt h3 h2 h1 h0) (by decide)]; exact shr_zero r) (by rw [show wd (v4 a3 a2 a1 a0 / 2 ^ (64 * 3 + r)) 1 = _ from shr_w (v4 a3 a2 a1 a0) 3 r 1 (by omega), wd_high (v4_lt h3 h2 h1 h0) (by decide), wd_high (v4_lt h3 h2 h1 h0) (by decide)]; exact shr_zero r) (by rw [show wd (v4 a3 a2 a1 a0 / 2 ^ (64 * 3 + r)) 0 = _ from shr_w (v4 a3 a2 a1 a0) 3 r 0 (by omega), wd_v4_3 h3 h2 h1 h0, wd_high (v4_lt h3 h2 h1 h0) (by decide)]; exact shr_top h3 r), ?_⟩
  exact Below.setCell (Below.setCell (Below.setCell (Below.setCell HB2.out (by simp) _) (by simp) _) (by simp) _) (by simp) _
theorem shr_any (a3 a2 a1 a0 n : Int) (h3 : Wd a3) (h2 : Wd a2) (h1 : Wd a1) (h0 : Wd a0) (hn : n < 9223372036854775808) (w : World) :
    Calls Try.prog 59 #[.agg #[.int .u64 a3, .int .u64 a2, .int .u64 a1, .int .u64 a0], .int .i64 n] w fun e w' =>
      e = .returned (.agg #[.int .u64 (wd (v4 a3 a2 a1 a0 / 2 ^ n.toNat) 3), .int .u64 (wd (v4 a3 a2 a1 a0 / 2 ^ n.toNat) 2), .int .u64 (wd (v4 a3 a2 a1 a0 / 2 ^ n.toNat) 1), .int .u64 (wd (v4 a3 a2 a1 a0 / 2 ^ n.toNat) 0)]) ∧ Below w.heap.size w w' := by
  by_cases c : n ≤ 0
  · exact shr_low a3 a2 a1 a0 h3 h2 h1 h0 n c w
  by_cases c4 : 256 ≤ n
  · exact shr_big a3 a2 a1 a0 h3 h2 h1 h0 n c4 hn w
  rcases (show n / 64 = 0 ∨ n / 64 = 1 ∨ n / 64 = 2 ∨ n / 64 = 3 by omega) with k | k | k | k
  · exact shr_0 a3 a2 a1 a0 (n % 64).toNat h3 h2 h1 h0 (by omega) (by omega) n (by omega) w
  · exact shr_1 a3 a2 a1 a0 (n % 64).toNat h3 h2 h1 h0 (by omega) n (by omega) w
  · exact shr_2 a3 a2 a1 a0 (n % 64).toNat h3 h2 h1 h0 (by omega) n (by omega) w
  · exact shr_3 a3 a2 a1 a0 (n % 64).toNat h3 h2 h1 h0 (by omega) n (by omega) w
end Go.Proofs.Ytmmlekgojblopaa
namespace Go.Proofs.Ytmmlekgojblopaa
open Go.RowKit

/-- Twelve cells of a block. -/
def Twelve (B : Nat) (x0 x1 x2 x3 x4 x5 x6 x7 x8 x9 x10 x11 : Int) (w : World) : Prop := w.cell? ⟨B, 0, none⟩ = some (.int .u32 x0) ∧ w.cell? ⟨B, 1, none⟩ = some (.int .u32 x1) ∧ w.cell? ⟨B, 2, none⟩ = some (.int .u32 x2) ∧ w.cell? ⟨B, 3, none⟩ = some (.int .u32 x3) ∧ w.cell? ⟨B, 4, none⟩ = some (.int .u32 x4) ∧ w.cell? ⟨B, 5, none⟩ = some (.int .u32 x5) ∧ w.cell? ⟨B, 6, none⟩ = some (.int .u32 x6) ∧ w.cell? ⟨B, 7, none⟩ = some (.int .u32 x7) ∧ w.cell? ⟨B, 8, none⟩ = some (.int .u32 x8) ∧ w.cell? ⟨B, 9, none⟩ = some (.int .u32 x9) ∧ w.cell? ⟨B, 10, none⟩ = some (.int .u32 x10) ∧ w.cell? ⟨B, 11, none⟩ = some (.int .u32 x11)
/-- A block that is not frozen anywhere. -/
def Clear (B : Nat) (w : World) : Prop := ∀ j, w.frozen? ⟨B, j, none⟩ = false
theorem rounds_gen {P : Program} {c : Code} {Q : Exit → Act → World → Prop} {n : Nat} {a : Act} {W : World} (φ : World → Prop) (h : φ W) (k : ∀ w, φ w → Code.rounds P c Q n a w) : Code.rounds P c Q n a W := k W h
theorem field_four (x0 x1 x2 x3 : Value) (w : World) : (Instr.field 67 (.agg #[x0, x1, x2, x3]) 0).run Try.prog w = .ok (.agg #[x0, x1]) w ∧ (Instr.field 67 (.agg #[x0, x1, x2, x3]) 1).run Try.prog w = .ok (.agg #[x2, x3]) w :=
  ⟨by kernel_rfl, by kernel_rfl⟩
theorem index_three (x0 x1 x2 x3 x4 x5 : Value) : (∀ w, (Instr.index 130 (.agg #[x0, x1, x2, x3, x4, x5]) (.int .i64 0)).run Try.prog w = .ok (.agg #[x0, x1]) w) ∧ (∀ w, (Instr.index 130 (.agg #[x0, x1, x2, x3, x4, x5]) (.int .i64 1)).run Try.prog w = .ok (.agg #[x2, x3]) w) ∧ (∀ w, (Instr.index 130 (.agg #[x0, x1, x2, x3, x4, x5]) (.int .i64 2)).run Try.prog w = .ok (.agg #[x4, x5]) w) :=
  ⟨fun _ => by kernel_rfl, fun _ => by kernel_rfl, fun _ => by kernel_rfl⟩
theorem copy_four (B o dLen dCap S : Nat) (x0 x1 x2 x3 : Int) (h4 : 4 ≤ dLen) (W : World)
    (s0 : W.cell? ⟨S, 0, none⟩ = some (.int .u32 x0)) (s1 : W.cell? ⟨S, 1, none⟩ = some (.int .u32 x1)) (s2 : W.cell? ⟨S, 2, none⟩ = some (.int .u32 x2)) (s3 : W.cell? ⟨S, 3, none⟩ = some (.int .u32 x3))
    (d0 : (W.cell? ⟨B, o, none⟩).isSome = true) (d1 : (W.cell? ⟨B, o + 1, none⟩).isSome = true) (d2 : (W.cell? ⟨B, o + 2, none⟩).isSome = true) (d3 : (W.cell? ⟨B, o + 3, none⟩).isSome = true)
    (z0 : W.frozen? ⟨B, o, none⟩ = false) (z1 : W.frozen? ⟨B, o + 1, none⟩ = false) (z2 : W.frozen? ⟨B, o + 2, none⟩ = false) (z3 : W.frozen? ⟨B, o + 3, none⟩ = false) :
    (Builtin.copy_ #[111, 111] 3 #[.slice (some ⟨B, o, none⟩) dLen dCap, .slice (some ⟨S, 0, none⟩) 4 4]).run Try.prog W =
      .ok (.int .i64 4) ((((W.setCell ⟨B, o, none⟩ (.int .u32 x0)).setCell ⟨B, o + 1, none⟩ (.int .u32 x1)).setCell ⟨B, o + 2, none⟩ (.int .u32 x2)).setCell ⟨B, o + 3, none⟩ (.int .u32 x3)) := by
  refine (run_copy_cells W 111 111 3 104 B o dLen dCap ⟨S, 0, none⟩ 4 4 [.int .u32 x0, .int .u32 x1, .int .u32 x2, .int .u32 x3] Try.underlying111 (by kernel_rfl) ?_ ?_ ?_ ?_ ?_).trans ?_
  · show 4 = min 4 dLen; omega
  · intro j v hj
    match j, hj with
    | 0, hj => simp at hj; subst hj; simpa [Addr.add] using s0
    | 1, hj => simp at hj; subst hj; simpa [Addr.add] using s1
    | 2, hj => simp at hj; subst hj; simpa [Addr.add] using s2
    | 3, hj => simp at hj; subst hj; simpa [Addr.add] using s3
  · intro j hj
    match j, hj with
    | 0, _ => simpa using d0
    | 1, _ => simpa using d1
    | 2, _ => simpa using d2
    | 3, _ => simpa using d3
  · intro j hj
    match j, hj with
    | 0, _ => simpa using z0
    | 1, _ => simpa using z1
    | 2, _ => simpa using z2
    | 3, _ => simpa using z3
  · intro v hv
    simp at hv
    rcases hv with rfl | rfl | rfl | rfl <;> rfl
  · rfl
set_option maxHeartbeats 4000000 in
theorem dividend_raw (a3 a2 a1 a0 n : Int) (h3 : Wd a3) (h2 : Wd a2) (h1 : Wd a1) (h0 : Wd a0) (hn0 : 0 ≤ n) (hn1 : n ≤ 128) (w : World) (s0 s1 s2 s3 t0 t1 : Int)
    (es0 : s0 = wd (v4 a3 a2 a1 a0 * 2 ^ n.toNat) 0) (es1 : s1 = wd (v4 a3 a2 a1 a0 * 2 ^ n.toNat) 1) (es2 : s2 = wd (v4 a3 a2 a1 a0 * 2 ^ n.toNat) 2) (es3 : s3 = wd (v4 a3 a2 a1 a0 * 2 ^ n.toNat) 3)
    (et0 : t0 = wd (v4 a3 a2 a1 a0 / 2 ^ (256 - n).toNat) 0) (et1 : t1 = wd (v4 a3 a2 a1 a0 / 2 ^ (256 - n).toNat) 1) :
    Calls Try.prog 68 #[.agg #[.int .u64 a3, .int .u64 a2, .int .u64 a1, .int .u64 a0], .int .i64 n] w fun e w' =>
      e = .returned (.agg #[.int .u32 (s0 % 4294967296), .int .u32 (s0 / 4294967296), .int .u32 (s1 % 4294967296), .int .u32 (s1 / 4294967296), .int .u32 (s2 % 4294967296), .int .u32 (s2 / 4294967296), .int .u32 (s3 % 4294967296), .int .u32 (s3 / 4294967296), .int .u32 (t0 % 4294967296), .int .u32 (t0 / 4294967296), .int .u32 (t1 % 4294967296), .int .u32 (t1 / 4294967296)]) ∧ Below w.heap.size w w' := by
  have e1 : IntKind.i64.wrap (256 - n) = 256 - n := IntWalk.i64_in _ (by omega)
  have w00 : IntKind.i64.wrap 0 = 0 := rfl
  have w04 : IntKind.i64.wrap 4 = 4 := rfl
  have w08 : IntKind.i64.wrap 8 = 8 := rfl
  have fl := fun x0 x1 x2 x3 w => (field_four x0 x1 x2 x3 w).2
  have g0 : Wd s0 := by rw [es0]; exact wd_wd _ _
  have g1 : Wd s1 := by rw [es1]; exact wd_wd _ _
  have g2 : Wd s2 := by rw [es2]; exact wd_wd _ _
  have g3 : Wd s3 := by rw [es3]; exact wd_wd _ _
  have q0 : Wd t0 := by rw [et0]; exact wd_wd _ _
  have q1 : Wd t1 := by rw [et1]; exact wd_wd _ _
  have C1 := shl_any a3 a2 a1 a0 n h3 h2 h1 h0 (by omega)
  have C2 := shr_any a3 a2 a1 a0 (256 - n) h3 h2 h1 h0 (by omega)
  rw [← es0, ← es1, ← es2, ← es3] at C1
  rw [← et0, ← et1] at C2
  generalize wd (v4 a3 a2 a1 a0 / 2 ^ (256 - n).toNat) 2 = t2 at C2
  generalize wd (v4 a3 a2 a1 a0 / 2 ^ (256 - n).toNat) 3 = t3 at C2
  have H1 := Lib.hid C1
  have H2 := Lib.hid C2
  clear C1 C2 es0 es1 es2 es3 et0 et1
  go_enter Try.func68, Try.ntmps68
  go_wp2_with fail
  refine (H1.out _).mono ?_
  rintro e w1 ⟨rfl, hb⟩
  have HB : Hid (Below w.heap.size w w1) := bl_trans (bl_al (bl_al (Below.refl _ _) _) _) hb
  have hz : w.heap.size + 1 < w1.heap.size := by have h := hb.size; simp at h; omega
  have hz' : w.heap.size < w1.heap.size := by omega
  have hz2 : w.heap.size ≠ w1.heap.size := by omega
  have hz4 : w.heap.size + 1 ≠ w1.heap.size := by omega
  have c0 : w1.cell? ⟨w.heap.size, 0, none⟩ = some (.int .u64 a3) := by rw [(bcell hb).1 _ _ (by simp; omega)]; simp [go_sem]
  have c1 : w1.cell? ⟨w.heap.size, 1, none⟩ = some (.int .u64 a2) := by rw [(bcell hb).1 _ _ (by simp; omega)]; simp [go_sem]
  have c2 : w1.cell? ⟨w.heap.size, 2, none⟩ = some (.int .u64 a1) := by rw [(bcell hb).1 _ _ (by simp; omega)]; simp [go_sem]
  have c3 : w1.cell? ⟨w.heap.size, 3, none⟩ = some (.int .u64 a0) := by rw [(bcell hb).1 _ _ (by simp; omega)]; simp [go_sem]
  have d0 : ∀ j, j < 12 → w1.cell? ⟨w.heap.size + 1, j, none⟩ = some (.int .u32 0) := by
    intro j hj
    rw [(bcell hb).1 _ _ (by simp)]
    rcases (show j = 0 ∨ j = 1 ∨ j = 2 ∨ j = 3 ∨ j = 4 ∨ j = 5 ∨ j = 6 ∨ j = 7 ∨ j = 8 ∨ j = 9 ∨ j = 10 ∨ j = 11 by omega) with rfl | rfl | rfl | rfl | rfl | rfl | rfl | rfl | rfl | rfl | rfl | rfl <;> simp [go_sem]
  have dz0 : ∀ j, w1.frozen? ⟨w.heap.size + 1, j, none⟩ = false := by
    intro j
    rw [(bcell hb).2 _ _ (by simp)]
    rw [frozen?_alloc_cells, frozen?_alloc_cells]; simp [World.frozen?]
  clear hb
  go_wp2_with fail
  go_region_held3 (fun w' => w'.cell? ⟨w.heap.size, 0, none⟩ = some (.int .u64 a3) ∧ w'.cell? ⟨w.heap.size, 1, none⟩ = some (.int .u64 a2) ∧ w'.cell? ⟨w.heap.size, 2, none⟩ = some (.int .u64 a1) ∧ w'.cell? ⟨w.heap.size, 3, none⟩ = some (.int .u64 a0) ∧
      w'.cell? ⟨w1.heap.size, 0, none⟩ = some (.int .u64 s3) ∧ w'.cell? ⟨w1.heap.size, 1, none⟩ = some (.int .u64 s2) ∧ w'.cell? ⟨w1.heap.size, 2, none⟩ = some (.int .u64 s1) ∧ w'.cell? ⟨w1.heap.size, 3, none⟩ = some (.int .u64 s0)) (simp [*, go_sem, World.cell?_alloc_past])
    (first
      | (go_at_call 59; refine (H2.out _).mono ?_; rintro e w2 ⟨rfl, hb⟩; have hB : Below w1.heap.size w1 w2 := (bl_trans (by repeat (first | exact Below.refl _ _ | with_reducible refine bl_al ?_ _ | with_reducible apply Below.drew)) hb); obtain ⟨hcl, hfr⟩ := bcell hb; obtain ⟨hcl2, hfr2⟩ := bcell hB; have hz3 : w1.heap.size < w2.heap.size := (by have hz := hb.size; simp at hz; omega); have HB2 : Hid (Below w1.heap.size w1 w2) := hB; clear hb hB))
  rename_i hHeld
  clear hHeld
  clear hcl hfr
  have HT : Hid (Twelve (w.heap.size + 1) 0 0 0 0 0 0 0 0 0 0 0 0 w2) := by
    refine ⟨?_, ?_, ?_, ?_, ?_, ?_, ?_, ?_, ?_, ?_, ?_, ?_⟩ <;> (rw [hcl2 _ _ hz, d0 _ (by decide)])
  have HC : Hid (Clear (w.heap.size + 1) w2) := fun j => by rw [hfr2 _ _ hz, dz0 j]
  have HW : Hid (Below w.heap.size w w2) := bl_trans HB.out HB2.out
  have hza : w.heap.size + 1 < w2.heap.size := by omega
  clear d0 dz0 c0 c1 c2 c3 hcl2 hfr2 HB HB2 hz hz2 hz' hz3 hz4 H1 H2
  obtain ⟨i0, i1, i2⟩ := index_three (.int .u64 s1) (.int .u64 s0) (.int .u64 s3) (.int .u64 s2) (.int .u64 t1) (.int .u64 t0)
  have hcp0 := fun S => copy_four (w.heap.size + 1) 0 12 12 S (s0 % 4294967296) (s0 / 4294967296) (s1 % 4294967296) (s1 / 4294967296) (by decide)
  have hcp1 := fun S => copy_four (w.heap.size + 1) 4 8 8 S (s2 % 4294967296) (s2 / 4294967296) (s3 % 4294967296) (s3 / 4294967296) (by decide)
  have hcp2 := fun S => copy_four (w.heap.size + 1) 8 4 4 S (t0 % 4294967296) (t0 / 4294967296) (t1 % 4294967296) (t1 / 4294967296) (by decide)
  simp only [Nat.zero_add, Nat.reduceAdd] at hcp0 hcp1 hcp2
  go_wp2_with fail
  refine wp_loop_rounds 4 ?_
  refine rounds_gen (fun w' => Hid (Twelve (w.heap.size + 1) 0 0 0 0 0 0 0 0 0 0 0 0 w') ∧ Hid (Clear (w.heap.size + 1) w') ∧ Hid (Below w.heap.size w w') ∧ w.heap.size + 1 < w'.heap.size) ?_ ?_
  · exact ⟨HT, HC, HW, hza⟩
  clear HT HC HW hza
  rintro w3 ⟨HT0, HC0, HW0, hza0⟩
  rw [rounds_succ]; go_wp2_with fail
  refine (halves_any _ _ g1 g0 _).mono ?_
  rintro e v3 ⟨rfl, hb⟩
  have hB : Below w3.heap.size w3 v3 := bl_trans (bl_al (Below.refl _ _) _) hb
  have hza : w.heap.size + 1 < v3.heap.size := Nat.lt_of_lt_of_le hza0 hB.size
  have hzb : w.heap.size + 1 ≠ v3.heap.size := Nat.ne_of_lt hza
  have HW : Hid (Below w.heap.size w v3) := bl_trans HW0.out hB
  obtain ⟨D0, D1, D2, D3, D4, D5, D6, D7, D8, D9, D10, D11⟩ : Twelve (w.heap.size + 1) 0 0 0 0 0 0 0 0 0 0 0 0 v3 := by
    obtain ⟨D0, D1, D2, D3, D4, D5, D6, D7, D8, D9, D10, D11⟩ := HT0.out
    refine ⟨?_, ?_, ?_, ?_, ?_, ?_, ?_, ?_, ?_, ?_, ?_, ?_⟩ <;> (rw [(bcell hB).1 _ _ hza0]; assumption)
  have HC : Clear (w.heap.size + 1) v3 := fun j => by rw [(bcell hB).2 _ _ hza0]; exact HC0.out j
  unfold Clear at HC
  clear HT0 HC0 HW0 hb hB hza0
  go_wp2_with fail
  go_region
  go_wp2_with fail
  refine rounds_gen (fun w' => Hid (Twelve (w.heap.size + 1) (s0 % 4294967296) (s0 / 4294967296) (s1 % 4294967296) (s1 / 4294967296) 0 0 0 0 0 0 0 0 w') ∧ Hid (Clear (w.heap.size + 1) w') ∧ Hid (Below w.heap.size w w') ∧ w.heap.size + 1 < w'.heap.size) ?_ ?_
  · refine ⟨?_, ?_, ?_, ?_⟩
    · show Twelve _ _ _ _ _ _ _ _ _ _ _ _ _ _
      unfold Twelve; simp [go_sem, *]
    · show Clear _ _
      intro j
      simp [go_sem, frozen?_alloc_cells, HC]
    · exact Below.drew (bl_al (Below.setCell (Below.setCell (Below.setCell (Below.setCell HW.out (by simp) _) (by simp) _) (by simp) _) (by simp) _) _)
    · simp [go_sem]; omega
  clear D0 D1 D2 D3 D4 D5 D6 D7 D8 D9 D10 D11 HC HW hza hzb
  rintro w4 ⟨HT0, HC0, HW0, hza0⟩
  rw [rounds_succ]; go_wp2_with fail
  refine (halves_any _ _ g3 g2 _).mono ?_
  rintro e v4 ⟨rfl, hb⟩
  have hB : Below w4.heap.size w4 v4 := bl_trans (bl_al (Below.refl _ _) _) hb
  have hza : w.heap.size + 1 < v4.heap.size := Nat.lt_of_lt_of_le hza0 hB.size
  have hzb : w.heap.size + 1 ≠ v4.heap.size := Nat.ne_of_lt hza
  have HW : Hid (Below w.heap.size w v4) := bl_trans HW0.out hB
  obtain ⟨D0, D1, D2, D3, D4, D5, D6, D7, D8, D9, D10, D11⟩ : Twelve (w.heap.size + 1) (s0 % 4294967296) (s0 / 4294967296) (s1 % 4294967296) (s1 / 4294967296) 0 0 0 0 0 0 0 0 v4 := by
    obtain ⟨D0, D1, D2, D3, D4, D5, D6, D7, D8, D9, D10, D11⟩ := HT0.out
    refine ⟨?_, ?_, ?_, ?_, ?_, ?_, ?_, ?_, ?_, ?_, ?_, ?_⟩ <;> (rw [(bcell hB).1 _ _ hza0]; assumption)
  have HC : Clear (w.heap.size + 1) v4 := fun j => by rw [(bcell hB).2 _ _ hza0]; exact HC0.out j
  unfold Clear at HC
  clear HT0 HC0 HW0 hb hB hza0
  go_wp2_with fail
  go_region
  go_wp2_with fail
  refine rounds_gen (fun w' => Hid (Twelve (w.heap.size + 1) (s0 % 4294967296) (s0 / 4294967296) (s1 % 4294967296) (s1 / 4294967296) (s2 % 4294967296) (s2 / 4294967296) (s3 % 4294967296) (s3 / 4294967296) 0 0 0 0 w') ∧ Hid (Clear (w.heap.size + 1) w') ∧ Hid (Below w.heap.size w w') ∧ w.heap.size + 1 < w'.heap.size) ?_ ?_
  · refine ⟨?_, ?_, ?_, ?_⟩
    · show Twelve _ _ _ _ _ _ _ _ _ _ _ _ _ _
      unfold Twelve; simp [go_sem, *]
    · show Clear _ _
      intro j
      simp [go_sem, frozen?_alloc_cells, HC]
    · exact Below.drew (bl_al (Below.setCell (Below.setCell (Below.setCell (Below.setCell HW.out (by simp) _) (by simp) _) (by simp) _) (by simp) _) _)
    · simp [go_sem]; omega
  clear D0 D1 D2 D3 D4 D5 D6 D7 D8 D9 D10 D11 HC HW hza hzb
  rintro w5 ⟨HT0, HC0, HW0, hza0⟩
  rw [rounds_succ]; go_wp2_with fail
  refine (halves_any _ _ q1 q0 _).mono ?_
  rintro e v5 ⟨rfl, hb⟩
  have hB : Below w5.heap.size w5 v5 := bl_trans (bl_al (Below.refl _ _) _) hb
  have hza : w.heap.size + 1 < v5.heap.size := Nat.lt_of_lt_of_le hza0 hB.size
  have hzb : w.heap.size + 1 ≠ v5.heap.size := Nat.ne_of_lt hza
  have HW : Hid (Below w.heap.size w v5) := bl_trans HW0.out hB
  obtain ⟨D0, D1, D2, D3, D4, D5, D6, D7, D8, D9, D10, D11⟩ : Twelve (w.heap.size + 1) (s0 % 4294967296) (s0 / 4294967296) (s1 % 4294967296) (s1 / 4294967296) (s2 % 4294967296) (s2 / 4294967296) (s3 % 4294967296) (s3 / 4294967296) 0 0 0 0 v5 := by
    obtain ⟨D0, D1, D2, D3, D4, D5, D6, D7, D8, D9, D10, D11⟩ := HT0.out
    refine ⟨?_, ?_, ?_, ?_, ?_, ?_, ?_, ?_, ?_, ?_, ?_, ?_⟩ <;> (rw [(bcell hB).1 _ _ hza0]; assumption)
  have HC : Clear (w.heap.size + 1) v5 := fun j => by rw [(bcell hB).2 _ _ hza0]; exact HC0.out j
  unfold Clear at HC
  clear HT0 HC0 HW0 hb hB hza0
  go_wp2_with fail
  go_region
  go_wp2_with fail
  refine rounds_gen (fun w' => Hid (Twelve (w.heap.size + 1) (s0 % 4294967296) (s0 / 4294967296) (s1 % 4294967296) (s1 / 4294967296) (s2 % 4294967296) (s2 / 4294967296) (s3 % 4294967296) (s3 / 4294967296) (t0 % 4294967296) (t0 / 4294967296) (t1 % 4294967296) (t1 / 4294967296) w') ∧ Hid (Clear (w.heap.size + 1) w') ∧ Hid (Below w.heap.size w w') ∧ w.heap.size + 1 < w'.heap.size) ?_ ?_
  · refine ⟨?_, ?_, ?_, ?_⟩
    · show Twelve _ _ _ _ _ _ _ _ _ _ _ _ _ _
      unfold Twelve; simp [go_sem, *]
    · show Clear _ _
      intro j
      simp [go_sem, frozen?_alloc_cells, HC]
    · exact Below.drew (bl_al (Below.setCell (Below.setCell (Below.setCell (Below.setCell HW.out (by simp) _) (by simp) _) (by simp) _) (by simp) _) _)
    · simp [go_sem]; omega
  clear D0 D1 D2 D3 D4 D5 D6 D7 D8 D9 D10 D11 HC HW hza hzb
  rintro w6 ⟨HT0, HC0, HW0, hza0⟩
  obtain ⟨D0, D1, D2, D3, D4, D5, D6, D7, D8, D9, D10, D11⟩ := HT0.out
  have HC : Clear (w.heap.size + 1) w6 := HC0.out
  unfold Clear at HC
  rw [rounds_succ]; go_wp2_with fail
  refine bodyPost_ret (by simp [results, Try.results68, go_sem, *]; try rfl) rfl ?_
  refine ⟨rfl, ?_⟩
  trace_state
  exact (Below.setCell (Below.setCell (Below.setCell (Below.setCell (Below.setCell (Below.setCell (Below.setCell (Below.setCell (Below.setCell (Below.setCell (Below.setCell (Below.setCell HW0.out (by simp) _) (by simp) _) (by simp) _) (by simp) _) (by simp) _) (by simp) _) (by simp) _) (by simp) _) (by simp) _) (by simp) _) (by simp) _) (by simp) _)
end Go.Proofs.Ytmmlekgojblopaa
namespace Go.Proofs.Ytmmlekgojblopaa
open Go.RowKit

theorem calls_gen {P : Program} {f : FuncId} {args : Array Value} {W : World} {Q : Ending → World → Prop} (φ : World → Prop) (h : φ W) (k : ∀ w, φ w → Calls P f args w Q) : Calls P f args W Q := k W h
def Eight (B : Nat) (x0 x1 x2 x3 x4 x5 x6 x7 : Int) (w : World) : Prop := w.cell? ⟨B, 0, none⟩ = some (.int .u32 x0) ∧ w.cell? ⟨B, 1, none⟩ = some (.int .u32 x1) ∧ w.cell? ⟨B, 2, none⟩ = some (.int .u32 x2) ∧ w.cell? ⟨B, 3, none⟩ = some (.int .u32 x3) ∧ w.cell? ⟨B, 4, none⟩ = some (.int .u32 x4) ∧ w.cell? ⟨B, 5, none⟩ = some (.int .u32 x5) ∧ w.cell? ⟨B, 6, none⟩ = some (.int .u32 x6) ∧ w.cell? ⟨B, 7, none⟩ = some (.int .u32 x7)
def Quad (B : Nat) (x0 x1 x2 x3 : Int) (w : World) : Prop := w.cell? ⟨B, 0, none⟩ = some (.int .u32 x0) ∧ w.cell? ⟨B, 1, none⟩ = some (.int .u32 x1) ∧ w.cell? ⟨B, 2, none⟩ = some (.int .u32 x2) ∧ w.cell? ⟨B, 3, none⟩ = some (.int .u32 x3)
theorem Quad.other {B o n b : Nat} {x0 x1 x2 x3 : Int} {w w' : World} (h : Quad b x0 x1 x2 x3 w) (hw : Wrote B o n w w') (hb : b < w.heap.size) (hn : b ≠ B) : Quad b x0 x1 x2 x3 w' := by
  obtain ⟨c0, c1, c2, c3⟩ := h
  refine ⟨?_, ?_, ?_, ?_⟩ <;> (rw [hw.other hb hn]; assumption)
theorem Eight.other {B o n b : Nat} {x0 x1 x2 x3 x4 x5 x6 x7 : Int} {w w' : World} (h : Eight b x0 x1 x2 x3 x4 x5 x6 x7 w) (hw : Wrote B o n w w') (hb : b < w.heap.size) (hn : b ≠ B) : Eight b x0 x1 x2 x3 x4 x5 x6 x7 w' := by
  obtain ⟨c0, c1, c2, c3, c4, c5, c6, c7⟩ := h
  refine ⟨?_, ?_, ?_, ?_, ?_, ?_, ?_, ?_⟩ <;> (rw [hw.other hb hn]; assumption)
theorem Clear.other {B o n b : Nat} {w w' : World} (h : Clear b w) (hw : Wrote B o n w w') (hb : b < w.heap.size) (hn : b ≠ B) : Clear b w' := fun j => by
  rw [World.frozen?_of_block (hw.block b hb hn)]; exact h j
theorem Clear.wrote {B o n : Nat} {w w' : World} (h : Clear B w) (hw : Wrote B o n w w') : Clear B w' := fun j => by rw [hw.frozen]; exact h j
theorem Twelve.win0 {B : Nat} {x0 x1 x2 x3 x4 x5 x6 x7 x8 x9 x10 x11 y0 y1 y2 y3 y4 : Int} {w w' : World} (h : Twelve B x0 x1 x2 x3 x4 x5 x6 x7 x8 x9 x10 x11 w) (hw : Wrote B 0 5 w w') (hF : Five B 0 y0 y1 y2 y3 y4 w') : Twelve B y0 y1 y2 y3 y4 x5 x6 x7 x8 x9 x10 x11 w' := by
  obtain ⟨D0, D1, D2, D3, D4, D5, D6, D7, D8, D9, D10, D11⟩ := h
  obtain ⟨F0, F1, F2, F3, F4⟩ := hF
  exact ⟨F0, F1, F2, F3, F4, (by rw [hw.cells 5 (by omega)]; exact D5), (by rw [hw.cells 6 (by omega)]; exact D6), (by rw [hw.cells 7 (by omega)]; exact D7), (by rw [hw.cells 8 (by omega)]; exact D8), (by rw [hw.cells 9 (by omega)]; exact D9), (by rw [hw.cells 10 (by omega)]; exact D10), (by rw [hw.cells 11 (by omega)]; exact D11)⟩
theorem Twelve.win1 {B : Nat} {x0 x1 x2 x3 x4 x5 x6 x7 x8 x9 x10 x11 y0 y1 y2 y3 y4 : Int} {w w' : World} (h : Twelve B x0 x1 x2 x3 x4 x5 x6 x7 x8 x9 x10 x11 w) (hw : Wrote B 1 5 w w') (hF : Five B 1 y0 y1 y2 y3 y4 w') : Twelve B x0 y0 y1 y2 y3 y4 x6 x7 x8 x9 x10 x11 w' := by
  obtain ⟨D0, D1, D2, D3, D4, D5, D6, D7, D8, D9, D10, D11⟩ := h
  obtain ⟨F0, F1, F2, F3, F4⟩ := hF
  exact ⟨(by rw [hw.cells 0 (by omega)]; exact D0), F0, F1, F2, F3, F4, (by rw [hw.cells 6 (by omega)]; exact D6), (by rw [hw.cells 7 (by omega)]; exact D7), (by rw [hw.cells 8 (by omega)]; exact D8), (by rw [hw.cells 9 (by omega)]; exact D9), (by rw [hw.cells 10 (by omega)]; exact D10), (by rw [hw.cells 11 (by omega)]; exact D11)⟩
theorem Twelve.win2 {B : Nat} {x0 x1 x2 x3 x4 x5 x6 x7 x8 x9 x10 x11 y0 y1 y2 y3 y4 : Int} {w w' : World} (h : Twelve B x0 x1 x2 x3 x4 x5 x6 x7 x8 x9 x10 x11 w) (hw : Wrote B 2 5 w w') (hF : Five B 2 y0 y1 y2 y3 y4 w') : Twelve B x0 x1 y0 y1 y2 y3 y4 x7 x8 x9 x10 x11 w' := by
  obtain ⟨D0, D1, D2, D3, D4, D5, D6, D7, D8, D9, D10, D11⟩ := h
  obtain ⟨F0, F1, F2, F3, F4⟩ := hF
  exact ⟨(by rw [hw.cells 0 (by omega)]; exact D0), (by rw [hw.cells 1 (by omega)]; exact D1), F0, F1, F2, F3, F4, (by rw [hw.cells 7 (by omega)]; exact D7), (by rw [hw.cells 8 (by omega)]; exact D8), (by rw [hw.cells 9 (by omega)]; exact D9), (by rw [hw.cells 10 (by omega)]; exact D10), (by rw [hw.cells 11 (by omega)]; exact D11)⟩
theorem Twelve.win3 {B : Nat} {x0 x1 x2 x3 x4 x5 x6 x7 x8 x9 x10 x11 y0 y1 y2 y3 y4 : Int} {w w' : World} (h : Twelve B x0 x1 x2 x3 x4 x5 x6 x7 x8 x9 x10 x11 w) (hw : Wrote B 3 5 w w') (hF : Five B 3 y0 y1 y2 y3 y4 w') : Twelve B x0 x1 x2 y0 y1 y2 y3 y4 x8 x9 x10 x11 w' := by
  obtain ⟨D0, D1, D2, D3, D4, D5, D6, D7, D8, D9, D10, D11⟩ := h
  obtain ⟨F0, F1, F2, F3, F4⟩ := hF
  exact ⟨(by rw [hw.cells 0 (by omega)]; exact D0), (by rw [hw.cells 1 (by omega)]; exact D1), (by rw [hw.cells 2 (by omega)]; exact D2), F0, F1, F2, F3, F4, (by rw [hw.cells 8 (by omega)]; exact D8), (by rw [hw.cells 9 (by omega)]; exact D9), (by rw [hw.cells 10 (by omega)]; exact D10), (by rw [hw.cells 11 (by omega)]; exact D11)⟩
theorem Twelve.win4 {B : Nat} {x0 x1 x2 x3 x4 x5 x6 x7 x8 x9 x10 x11 y0 y1 y2 y3 y4 : Int} {w w' : World} (h : Twelve B x0 x1 x2 x3 x4 x5 x6 x7 x8 x9 x10 x11 w) (hw : Wrote B 4 5 w w') (hF : Five B 4 y0 y1 y2 y3 y4 w') : Twelve B x0 x1 x2 x3 y0 y1 y2 y3 y4 x9 x10 x11 w' := by
  obtain ⟨D0, D1, D2, D3, D4, D5, D6, D7, D8, D9, D10, D11⟩ := h
  obtain ⟨F0, F1, F2, F3, F4⟩ := hF
  exact ⟨(by rw [hw.cells 0 (by omega)]; exact D0), (by rw [hw.cells 1 (by omega)]; exact D1), (by rw [hw.cells 2 (by omega)]; exact D2), (by rw [hw.cells 3 (by omega)]; exact D3), F0, F1, F2, F3, F4, (by rw [hw.cells 9 (by omega)]; exact D9), (by rw [hw.cells 10 (by omega)]; exact D10), (by rw [hw.cells 11 (by omega)]; exact D11)⟩
theorem Twelve.win5 {B : Nat} {x0 x1 x2 x3 x4 x5 x6 x7 x8 x9 x10 x11 y0 y1 y2 y3 y4 : Int} {w w' : World} (h : Twelve B x0 x1 x2 x3 x4 x5 x6 x7 x8 x9 x10 x11 w) (hw : Wrote B 5 5 w w') (hF : Five B 5 y0 y1 y2 y3 y4 w') : Twelve B x0 x1 x2 x3 x4 y0 y1 y2 y3 y4 x10 x11 w' := by
  obtain ⟨D0, D1, D2, D3, D4, D5, D6, D7, D8, D9, D10, D11⟩ := h
  obtain ⟨F0, F1, F2, F3, F4⟩ := hF
  exact ⟨(by rw [hw.cells 0 (by omega)]; exact D0), (by rw [hw.cells 1 (by omega)]; exact D1), (by rw [hw.cells 2 (by omega)]; exact D2), (by rw [hw.cells 3 (by omega)]; exact D3), (by rw [hw.cells 4 (by omega)]; exact D4), F0, F1, F2, F3, F4, (by rw [hw.cells 10 (by omega)]; exact D10), (by rw [hw.cells 11 (by omega)]; exact D11)⟩
theorem Twelve.win6 {B : Nat} {x0 x1 x2 x3 x4 x5 x6 x7 x8 x9 x10 x11 y0 y1 y2 y3 y4 : Int} {w w' : World} (h : Twelve B x0 x1 x2 x3 x4 x5 x6 x7 x8 x9 x10 x11 w) (hw : Wrote B 6 5 w w') (hF : Five B 6 y0 y1 y2 y3 y4 w') : Twelve B x0 x1 x2 x3 x4 x5 y0 y1 y2 y3 y4 x11 w' := by
  obtain ⟨D0, D1, D2, D3, D4, D5, D6, D7, D8, D9, D10, D11⟩ := h
  obtain ⟨F0, F1, F2, F3, F4⟩ := hF
  exact ⟨(by rw [hw.cells 0 (by omega)]; exact D0), (by rw [hw.cells 1 (by omega)]; exact D1), (by rw [hw.cells 2 (by omega)]; exact D2), (by rw [hw.cells 3 (by omega)]; exact D3), (by rw [hw.cells 4 (by omega)]; exact D4), (by rw [hw.cells 5 (by omega)]; exact D5), F0, F1, F2, F3, F4, (by rw [hw.cells 11 (by omega)]; exact D11)⟩
theorem Twelve.win7 {B : Nat} {x0 x1 x2 x3 x4 x5 x6 x7 x8 x9 x10 x11 y0 y1 y2 y3 y4 : Int} {w w' : World} (h : Twelve B x0 x1 x2 x3 x4 x5 x6 x7 x8 x9 x10 x11 w) (hw : Wrote B 7 5 w w') (hF : Five B 7 y0 y1 y2 y3 y4 w') : Twelve B x0 x1 x2 x3 x4 x5 x6 y0 y1 y2 y3 y4 w' := by
  obtain ⟨D0, D1, D2, D3, D4, D5, D6, D7, D8, D9, D10, D11⟩ := h
  obtain ⟨F0, F1, F2, F3, F4⟩ := hF
  exact ⟨(by rw [hw.cells 0 (by omega)]; exact D0), (by rw [hw.cells 1 (by omega)]; exact D1), (by rw [hw.cells 2 (by omega)]; exact D2), (by rw [hw.cells 3 (by omega)]; exact D3), (by rw [hw.cells 4 (by omega)]; exact D4), (by rw [hw.cells 5 (by omega)]; exact D5), (by rw [hw.cells 6 (by omega)]; exact D6), F0, F1, F2, F3, F4⟩
theorem div_zero (a3 a2 a1 a0 : Int) (w : World) :
    Calls Try.prog 42 #[.agg #[.int .u64 a3, .int .u64 a2, .int .u64 a1, .int .u64 a0], .agg #[.int .u64 0, .int .u64 0]] w fun e w' =>
      e = .returned (.tuple #[.agg #[.int .u64 0, .int .u64 0, .int .u64 0, .int .u64 0], .agg #[.int .u64 0, .int .u64 0], .bool false]) ∧ Below w.heap.size w w' := by
  go_enter Try.func42, Try.ntmps42
  go_wp2
  go_returns
  exact ⟨rfl, by go_grown⟩
/-- What Div has laid ahead of its first call. -/
structure DivPro (w : World) (a3 a2 a1 a0 b1 b0 : Int) (W : World) : Prop where
  size : w.heap.size + 3 < W.heap.size
  below : Below w.heap.size w W
  ca0 : W.cell? ⟨w.heap.size, 0, none⟩ = some (.int .u64 a3)
  ca1 : W.cell? ⟨w.heap.size, 1, none⟩ = some (.int .u64 a2)
  ca2 : W.cell? ⟨w.heap.size, 2, none⟩ = some (.int .u64 a1)
  ca3 : W.cell? ⟨w.heap.size, 3, none⟩ = some (.int .u64 a0)
  cb0 : W.cell? ⟨w.heap.size + 1, 0, none⟩ = some (.int .u64 b1)
  cb1 : W.cell? ⟨w.heap.size + 1, 1, none⟩ = some (.int .u64 b0)
  cq0 : W.cell? ⟨w.heap.size + 2, 0, none⟩ = some (.int .u64 0)
  cq1 : W.cell? ⟨w.heap.size + 2, 1, none⟩ = some (.int .u64 0)
  cq2 : W.cell? ⟨w.heap.size + 2, 2, none⟩ = some (.int .u64 0)
  cq3 : W.cell? ⟨w.heap.size + 2, 3, none⟩ = some (.int .u64 0)
  cr0 : W.cell? ⟨w.heap.size + 3, 0, none⟩ = some (.int .u64 0)
  cr1 : W.cell? ⟨w.heap.size + 3, 1, none⟩ = some (.int .u64 0)
  zq : Clear (w.heap.size + 2) W
  zr : Clear (w.heap.size + 3) W
theorem DivPro.step {w : World} {a3 a2 a1 a0 b1 b0 : Int} {W W' : World} (h : DivPro w a3 a2 a1 a0 b1 b0 W) (g : Below W.heap.size W W') : DivPro w a3 a2 a1 a0 b1 b0 W' := by
  have hs := h.size
  have c := (bcell g).1
  refine ⟨Nat.lt_of_lt_of_le h.size g.size, bl_trans h.below g, ?_, ?_, ?_, ?_, ?_, ?_, ?_, ?_, ?_, ?_, ?_, ?_, fun j => ?_, fun j => ?_⟩
  · rw [c _ _ (by omega)]; exact h.ca0
  · rw [c _ _ (by omega)]; exact h.ca1
  · rw [c _ _ (by omega)]; exact h.ca2
  · rw [c _ _ (by omega)]; exact h.ca3
  · rw [c _ _ (by omega)]; exact h.cb0
  · rw [c _ _ (by omega)]; exact h.cb1
  · rw [c _ _ (by omega)]; exact h.cq0
  · rw [c _ _ (by omega)]; exact h.cq1
  · rw [c _ _ (by omega)]; exact h.cq2
  · rw [c _ _ (by omega)]; exact h.cq3
  · rw [c _ _ (by omega)]; exact h.cr0
  · rw [c _ _ (by omega)]; exact h.cr1
  · rw [(bcell g).2 _ _ (by omega)]; exact h.zq j
  · rw [(bcell g).2 _ _ (by omega)]; exact h.zr j

end Go.Proofs.Ytmmlekgojblopaa
