/- A half of the quotient is taken out. -/
import Derived.Test.YtmelipbanbihdaaGuess
import Derived.Test.YtmelipbanbihdaaWrote
namespace Go.Proofs.Ytmelipbanbihdaa
open Go.RowKit

/-- Five cells of a block from o on. -/
def Five (B o : Nat) (y0 y1 y2 y3 y4 : Int) (w : World) : Prop := w.cell? ⟨B, o, none⟩ = some (.int .u32 y0) ∧ w.cell? ⟨B, o + 1, none⟩ = some (.int .u32 y1) ∧ w.cell? ⟨B, o + 2, none⟩ = some (.int .u32 y2) ∧ w.cell? ⟨B, o + 3, none⟩ = some (.int .u32 y3) ∧ w.cell? ⟨B, o + 4, none⟩ = some (.int .u32 y4)
def Taken (B o : Nat) (R V t : Int) (w : World) (e : Ending) (w' : World) : Prop := ∃ y0 y1 y2 y3 y4 u : Int, e = .returned (.bool (u != 0)) ∧ Hf y0 ∧ Hf y1 ∧ Hf y2 ∧ Hf y3 ∧ Hf y4 ∧ 0 ≤ u ∧ u ≤ 1 ∧
  hv5 y0 y1 y2 y3 y4 = R - t * V + u * 1461501637330902918203684832716283019655932542976 ∧ Wrote B o 5 w w' ∧ Five B o y0 y1 y2 y3 y4 w'
def Given (B o : Nat) (R V : Int) (w : World) (e : Ending) (w' : World) : Prop := ∃ y0 y1 y2 y3 y4 u : Int, e = .returned (.tuple #[]) ∧ Hf y0 ∧ Hf y1 ∧ Hf y2 ∧ Hf y3 ∧ Hf y4 ∧ 0 ≤ u ∧ u ≤ 1 ∧
  hv5 y0 y1 y2 y3 y4 = R + V - u * 1461501637330902918203684832716283019655932542976 ∧ Wrote B o 5 w w' ∧ Five B o y0 y1 y2 y3 y4 w'
theorem index4 (v0 v1 v2 v3 : Value) :
    (∀ w, (Instr.index 105 (.agg #[v0, v1, v2, v3]) (.int .i64 0)).run Try.prog w = .ok v0 w) ∧ (∀ w, (Instr.index 105 (.agg #[v0, v1, v2, v3]) (.int .i64 1)).run Try.prog w = .ok v1 w) ∧
    (∀ w, (Instr.index 105 (.agg #[v0, v1, v2, v3]) (.int .i64 2)).run Try.prog w = .ok v2 w) ∧ (∀ w, (Instr.index 105 (.agg #[v0, v1, v2, v3]) (.int .i64 3)).run Try.prog w = .ok v3 w) :=
  ⟨fun _ => by kernel_rfl, fun _ => by kernel_rfl, fun _ => by kernel_rfl, fun _ => by kernel_rfl⟩
theorem half_mul {t v : Int} (ht : Hf t) (hv : Hf v) : 0 ≤ t * v ∧ t * v ≤ 18446744065119617025 := by
  obtain ⟨t0, t1⟩ := ht; obtain ⟨v0, v1⟩ := hv
  have p1 : 0 ≤ t * v := Int.mul_nonneg t0 v0
  have p2 : t * v ≤ t * 4294967295 := Int.mul_le_mul_of_nonneg_left (by omega) t0
  exact ⟨p1, by omega⟩
set_option maxHeartbeats 2000000 in
theorem takeTimes_any (B o cap : Nat) (r0 r1 r2 r3 r4 v0 v1 v2 v3 t : Int) (a0 : Hf r0) (a1 : Hf r1) (a2 : Hf r2) (a3 : Hf r3) (a4 : Hf r4) (b0 : Hf v0) (b1 : Hf v1) (b2 : Hf v2) (b3 : Hf v3) (ht : Hf t)
    (w : World) (hB : B < w.heap.size) (c0 : w.cell? ⟨B, o, none⟩ = some (.int .u32 r0)) (c1 : w.cell? ⟨B, o + 1, none⟩ = some (.int .u32 r1)) (c2 : w.cell? ⟨B, o + 2, none⟩ = some (.int .u32 r2)) (c3 : w.cell? ⟨B, o + 3, none⟩ = some (.int .u32 r3)) (c4 : w.cell? ⟨B, o + 4, none⟩ = some (.int .u32 r4)) (z0 : w.frozen? ⟨B, o, none⟩ = false) (z1 : w.frozen? ⟨B, o + 1, none⟩ = false) (z2 : w.frozen? ⟨B, o + 2, none⟩ = false) (z3 : w.frozen? ⟨B, o + 3, none⟩ = false) (z4 : w.frozen? ⟨B, o + 4, none⟩ = false) :
    Calls Try.prog 92 #[.slice (some ⟨B, o, none⟩) 5 cap, .agg #[.int .u32 v0, .int .u32 v1, .int .u32 v2, .int .u32 v3], .int .u64 t] w (Taken B o (hv5 r0 r1 r2 r3 r4) (hv4 v0 v1 v2 v3) t w) := by
  have ⟨m0, n0⟩ := half_mul ht b0
  have ⟨m1, n1⟩ := half_mul ht b1
  have ⟨m2, n2⟩ := half_mul ht b2
  have ⟨m3, n3⟩ := half_mul ht b3
  have ht0 := ht.1; have ht1 := ht.2
  have hne : B ≠ w.heap.size := by omega
  obtain ⟨x0, x1, x2, x3⟩ := index4 (.int .u32 v0) (.int .u32 v1) (.int .u32 v2) (.int .u32 v3)
  have g0 := b0.1; have g0' := b0.2; have f0 : IntKind.u64.wrap (t * v0) = t * v0 := IntWalk.u64_in _ (by omega)
  have g1 := b1.1; have g1' := b1.2; have f1 : IntKind.u64.wrap (t * v1) = t * v1 := IntWalk.u64_in _ (by omega)
  have g2 := b2.1; have g2' := b2.2; have f2 : IntKind.u64.wrap (t * v2) = t * v2 := IntWalk.u64_in _ (by omega)
  have g3 := b3.1; have g3' := b3.2; have f3 : IntKind.u64.wrap (t * v3) = t * v3 := IntWalk.u64_in _ (by omega)
  go_enter Try.func92, Try.ntmps92
  go_wp2_with fail
  refine wp_loop_rounds 5 ?_
  rw [rounds_succ]; go_wp2_with fail
  refine (split_ex _ ⟨by omega, by omega⟩ _).mono ?_
  rintro e w1 ⟨p0, o1, rfl, hp0, ho1, E0, rfl⟩
  have ho1' := ho1.1; have ho1'' := ho1.2
  go_wp2_with fail
  refine (subHalf_ex _ _ _ a0 hp0 (by omega) (by omega) _).mono ?_
  rintro e w1 ⟨y0, u1, rfl, hy0, hu1, hu1', F0, rfl⟩
  go_wp2_with fail
  rw [rounds_succ]; go_wp2_with fail
  refine (split_ex _ ⟨by omega, by omega⟩ _).mono ?_
  rintro e w1 ⟨p1, o2, rfl, hp1, ho2, E1, rfl⟩
  have ho2' := ho2.1; have ho2'' := ho2.2
  go_wp2_with fail
  refine (subHalf_ex _ _ _ a1 hp1 (by omega) (by omega) _).mono ?_
  rintro e w1 ⟨y1, u2, rfl, hy1, hu2, hu2', F1, rfl⟩
  go_wp2_with fail
  rw [rounds_succ]; go_wp2_with fail
  refine (split_ex _ ⟨by omega, by omega⟩ _).mono ?_
  rintro e w1 ⟨p2, o3, rfl, hp2, ho3, E2, rfl⟩
  have ho3' := ho3.1; have ho3'' := ho3.2
  go_wp2_with fail
  refine (subHalf_ex _ _ _ a2 hp2 (by omega) (by omega) _).mono ?_
  rintro e w1 ⟨y2, u3, rfl, hy2, hu3, hu3', F2, rfl⟩
  go_wp2_with fail
  rw [rounds_succ]; go_wp2_with fail
  refine (split_ex _ ⟨by omega, by omega⟩ _).mono ?_
  rintro e w1 ⟨p3, o4, rfl, hp3, ho4, E3, rfl⟩
  have ho4' := ho4.1; have ho4'' := ho4.2
  go_wp2_with fail
  refine (subHalf_ex _ _ _ a3 hp3 (by omega) (by omega) _).mono ?_
  rintro e w1 ⟨y3, u4, rfl, hy3, hu4, hu4', F3, rfl⟩
  go_wp2_with fail
  rw [rounds_succ]; go_wp2_with fail
  refine (subHalf_ex _ _ _ a4 ho4 (by omega) (by omega) _).mono ?_
  rintro e w1 ⟨y4, u5, rfl, hy4, hu5, hu5', F4, rfl⟩
  go_wp2_with fail
  go_returns
  refine ⟨y0, y1, y2, y3, y4, u5, rfl, hy0, hy1, hy2, hy3, hy4, hu5, hu5', ?_, ?_, ?_⟩
  · have E0 := E0.out; have E1 := E1.out; have E2 := E2.out; have E3 := E3.out
    have F0 := F0.out; have F1 := F1.out; have F2 := F2.out; have F3 := F3.out; have F4 := F4.out
    have e : t * hv4 v0 v1 v2 v3 = t * v0 + t * v1 * 4294967296 + t * v2 * 18446744073709551616 + t * v3 * 79228162514264337593543950336 := by
      unfold hv4; rw [Int.mul_add, Int.mul_add, Int.mul_add, Int.mul_assoc, Int.mul_assoc, Int.mul_assoc]
    rw [e]; unfold hv5 hv4; omega
  · exact Wrote.alloc (Wrote.setCell (Wrote.setCell (Wrote.setCell (Wrote.setCell (Wrote.setCell (Wrote.refl _ _ _ _) (Nat.le_refl _) (by omega) _) (by omega) (by omega) _) (by omega) (by omega) _) (by omega) (by omega) _) (by omega) (by omega) _) hB _
  · unfold Five; simp [go_sem, *]
set_option maxHeartbeats 2000000 in
theorem giveBack_any (B o cap : Nat) (r0 r1 r2 r3 r4 v0 v1 v2 v3 : Int) (a0 : Hf r0) (a1 : Hf r1) (a2 : Hf r2) (a3 : Hf r3) (a4 : Hf r4) (b0 : Hf v0) (b1 : Hf v1) (b2 : Hf v2) (b3 : Hf v3)
    (w : World) (hB : B < w.heap.size) (c0 : w.cell? ⟨B, o, none⟩ = some (.int .u32 r0)) (c1 : w.cell? ⟨B, o + 1, none⟩ = some (.int .u32 r1)) (c2 : w.cell? ⟨B, o + 2, none⟩ = some (.int .u32 r2)) (c3 : w.cell? ⟨B, o + 3, none⟩ = some (.int .u32 r3)) (c4 : w.cell? ⟨B, o + 4, none⟩ = some (.int .u32 r4)) (z0 : w.frozen? ⟨B, o, none⟩ = false) (z1 : w.frozen? ⟨B, o + 1, none⟩ = false) (z2 : w.frozen? ⟨B, o + 2, none⟩ = false) (z3 : w.frozen? ⟨B, o + 3, none⟩ = false) (z4 : w.frozen? ⟨B, o + 4, none⟩ = false) :
    Calls Try.prog 93 #[.slice (some ⟨B, o, none⟩) 5 cap, .agg #[.int .u32 v0, .int .u32 v1, .int .u32 v2, .int .u32 v3]] w (Given B o (hv5 r0 r1 r2 r3 r4) (hv4 v0 v1 v2 v3) w) := by
  have hne : B ≠ w.heap.size := by omega
  obtain ⟨x0, x1, x2, x3⟩ := index4 (.int .u32 v0) (.int .u32 v1) (.int .u32 v2) (.int .u32 v3)
  have g0 := b0.1; have g0' := b0.2
  have g1 := b1.1; have g1' := b1.2
  have g2 := b2.1; have g2' := b2.2
  have g3 := b3.1; have g3' := b3.2
  have h0 := a0.1; have h0' := a0.2
  have h1 := a1.1; have h1' := a1.2
  have h2 := a2.1; have h2' := a2.2
  have h3 := a3.1; have h3' := a3.2
  have h4 := a4.1; have h4' := a4.2
  go_enter Try.func93, Try.ntmps93
  go_wp2_with fail
  refine wp_loop_rounds 5 ?_
  rw [rounds_succ]; go_wp2_with fail
  refine (split_ex _ ⟨by omega, by omega⟩ _).mono ?_
  rintro e w1 ⟨y0, o1, rfl, hy0, ho1, E0, rfl⟩
  have ho1' := ho1.1; have ho1'' := ho1.2
  go_wp2_with fail
  rw [rounds_succ]; go_wp2_with fail
  refine (split_ex _ ⟨by omega, by omega⟩ _).mono ?_
  rintro e w1 ⟨y1, o2, rfl, hy1, ho2, E1, rfl⟩
  have ho2' := ho2.1; have ho2'' := ho2.2
  go_wp2_with fail
  rw [rounds_succ]; go_wp2_with fail
  refine (split_ex _ ⟨by omega, by omega⟩ _).mono ?_
  rintro e w1 ⟨y2, o3, rfl, hy2, ho3, E2, rfl⟩
  have ho3' := ho3.1; have ho3'' := ho3.2
  go_wp2_with fail
  rw [rounds_succ]; go_wp2_with fail
  refine (split_ex _ ⟨by omega, by omega⟩ _).mono ?_
  rintro e w1 ⟨y3, o4, rfl, hy3, ho4, E3, rfl⟩
  have ho4' := ho4.1; have ho4'' := ho4.2
  go_wp2_with fail
  rw [rounds_succ]; go_wp2_with fail
  go_returns
  refine ⟨y0, y1, y2, y3, (r4 + o4) % 4294967296, (r4 + o4) / 4294967296, rfl, hy0, hy1, hy2, hy3, ⟨by omega, by omega⟩, by omega, by omega, ?_, ?_, ?_⟩
  · have E0 := E0.out; have E1 := E1.out; have E2 := E2.out; have E3 := E3.out
    unfold hv5 hv4; omega
  · exact Wrote.alloc (Wrote.setCell (Wrote.setCell (Wrote.setCell (Wrote.setCell (Wrote.setCell (Wrote.refl _ _ _ _) (Nat.le_refl _) (by omega) _) (by omega) (by omega) _) (by omega) (by omega) _) (by omega) (by omega) _) (by omega) (by omega) _) hB _
  · unfold Five; simp [go_sem, *]
end Go.Proofs.Ytmelipbanbihdaa
