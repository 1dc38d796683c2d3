/- What is divided, by halves. -/
import Derived.Test.YtmelipbanbihdaaWrote
import Derived.Test.YtmelipbanbihdaaShl
import Derived.Test.YtmelipbanbihdaaShr
import Derived.Laws.IdiomCopy
namespace Go.Proofs.Ytmelipbanbihdaa
open Go.RowKit

/-- Twelve cells of a block. -/
def Twelve (B : Nat) (x0 x1 x2 x3 x4 x5 x6 x7 x8 x9 x10 x11 : Int) (w : World) : Prop := w.cell? ⟨B, 0, none⟩ = some (.int .u32 x0) ∧ w.cell? ⟨B, 1, none⟩ = some (.int .u32 x1) ∧ w.cell? ⟨B, 2, none⟩ = some (.int .u32 x2) ∧ w.cell? ⟨B, 3, none⟩ = some (.int .u32 x3) ∧ w.cell? ⟨B, 4, none⟩ = some (.int .u32 x4) ∧ w.cell? ⟨B, 5, none⟩ = some (.int .u32 x5) ∧ w.cell? ⟨B, 6, none⟩ = some (.int .u32 x6) ∧ w.cell? ⟨B, 7, none⟩ = some (.int .u32 x7) ∧ w.cell? ⟨B, 8, none⟩ = some (.int .u32 x8) ∧ w.cell? ⟨B, 9, none⟩ = some (.int .u32 x9) ∧ w.cell? ⟨B, 10, none⟩ = some (.int .u32 x10) ∧ w.cell? ⟨B, 11, none⟩ = some (.int .u32 x11)
/-- A block that is not frozen anywhere. -/
def Clear (B : Nat) (w : World) : Prop := ∀ j, w.frozen? ⟨B, j, none⟩ = false
theorem rounds_gen {P : Program} {c : Code} {Q : Exit → Act → World → Prop} {n : Nat} {a : Act} {W : World} (φ : World → Prop) (h : φ W) (k : ∀ w, φ w → Code.rounds P c Q n a w) : Code.rounds P c Q n a W := k W h
theorem field_four (x0 x1 x2 x3 : Value) (w : World) : (Instr.field 70 (.agg #[x0, x1, x2, x3]) 0).run Try.prog w = .ok (.agg #[x0, x1]) w ∧ (Instr.field 70 (.agg #[x0, x1, x2, x3]) 1).run Try.prog w = .ok (.agg #[x2, x3]) w :=
  ⟨by kernel_rfl, by kernel_rfl⟩
theorem index_three (x0 x1 x2 x3 x4 x5 : Value) : (∀ w, (Instr.index 119 (.agg #[x0, x1, x2, x3, x4, x5]) (.int .i64 0)).run Try.prog w = .ok (.agg #[x0, x1]) w) ∧ (∀ w, (Instr.index 119 (.agg #[x0, x1, x2, x3, x4, x5]) (.int .i64 1)).run Try.prog w = .ok (.agg #[x2, x3]) w) ∧ (∀ w, (Instr.index 119 (.agg #[x0, x1, x2, x3, x4, x5]) (.int .i64 2)).run Try.prog w = .ok (.agg #[x4, x5]) w) :=
  ⟨fun _ => by kernel_rfl, fun _ => by kernel_rfl, fun _ => by kernel_rfl⟩
theorem copy_four (B o dLen dCap S : Nat) (x0 x1 x2 x3 : Int) (h4 : 4 ≤ dLen) (W : World)
    (s0 : W.cell? ⟨S, 0, none⟩ = some (.int .u32 x0)) (s1 : W.cell? ⟨S, 1, none⟩ = some (.int .u32 x1)) (s2 : W.cell? ⟨S, 2, none⟩ = some (.int .u32 x2)) (s3 : W.cell? ⟨S, 3, none⟩ = some (.int .u32 x3))
    (d0 : (W.cell? ⟨B, o, none⟩).isSome = true) (d1 : (W.cell? ⟨B, o + 1, none⟩).isSome = true) (d2 : (W.cell? ⟨B, o + 2, none⟩).isSome = true) (d3 : (W.cell? ⟨B, o + 3, none⟩).isSome = true)
    (z0 : W.frozen? ⟨B, o, none⟩ = false) (z1 : W.frozen? ⟨B, o + 1, none⟩ = false) (z2 : W.frozen? ⟨B, o + 2, none⟩ = false) (z3 : W.frozen? ⟨B, o + 3, none⟩ = false) :
    (Builtin.copy_ #[115, 115] 3 #[.slice (some ⟨B, o, none⟩) dLen dCap, .slice (some ⟨S, 0, none⟩) 4 4]).run Try.prog W =
      .ok (.int .i64 4) ((((W.setCell ⟨B, o, none⟩ (.int .u32 x0)).setCell ⟨B, o + 1, none⟩ (.int .u32 x1)).setCell ⟨B, o + 2, none⟩ (.int .u32 x2)).setCell ⟨B, o + 3, none⟩ (.int .u32 x3)) := by
  refine (run_copy_cells W 115 115 3 104 B o dLen dCap ⟨S, 0, none⟩ 4 4 [.int .u32 x0, .int .u32 x1, .int .u32 x2, .int .u32 x3] Try.underlying115 (by kernel_rfl) ?_ ?_ ?_ ?_ ?_).trans ?_
  · show 4 = min 4 dLen; omega
  · intro j v hj
    match j, hj with
    | 0, hj => simp at hj; subst hj; simpa [Addr.add] using s0
    | 1, hj => simp at hj; subst hj; simpa [Addr.add] using s1
    | 2, hj => simp at hj; subst hj; simpa [Addr.add] using s2
    | 3, hj => simp at hj; subst hj; simpa [Addr.add] using s3
  · intro j hj
    match j, hj with
    | 0, _ => simpa using d0
    | 1, _ => simpa using d1
    | 2, _ => simpa using d2
    | 3, _ => simpa using d3
  · intro j hj
    match j, hj with
    | 0, _ => simpa using z0
    | 1, _ => simpa using z1
    | 2, _ => simpa using z2
    | 3, _ => simpa using z3
  · intro v hv
    simp at hv
    rcases hv with rfl | rfl | rfl | rfl <;> rfl
  · rfl
set_option maxHeartbeats 4000000 in
theorem dividend_raw (a3 a2 a1 a0 n : Int) (h3 : Wd a3) (h2 : Wd a2) (h1 : Wd a1) (h0 : Wd a0) (hn0 : 0 ≤ n) (hn1 : n ≤ 128) (w : World) (s0 s1 s2 s3 t0 t1 : Int)
    (es0 : s0 = wd (v4 a3 a2 a1 a0 * 2 ^ n.toNat) 0) (es1 : s1 = wd (v4 a3 a2 a1 a0 * 2 ^ n.toNat) 1) (es2 : s2 = wd (v4 a3 a2 a1 a0 * 2 ^ n.toNat) 2) (es3 : s3 = wd (v4 a3 a2 a1 a0 * 2 ^ n.toNat) 3)
    (et0 : t0 = wd (v4 a3 a2 a1 a0 / 2 ^ (256 - n).toNat) 0) (et1 : t1 = wd (v4 a3 a2 a1 a0 / 2 ^ (256 - n).toNat) 1) :
    Calls Try.prog 86 #[.agg #[.int .u64 a3, .int .u64 a2, .int .u64 a1, .int .u64 a0], .int .i64 n] w fun e w' =>
      e = .returned (.agg #[.int .u32 (s0 % 4294967296), .int .u32 (s0 / 4294967296), .int .u32 (s1 % 4294967296), .int .u32 (s1 / 4294967296), .int .u32 (s2 % 4294967296), .int .u32 (s2 / 4294967296), .int .u32 (s3 % 4294967296), .int .u32 (s3 / 4294967296), .int .u32 (t0 % 4294967296), .int .u32 (t0 / 4294967296), .int .u32 (t1 % 4294967296), .int .u32 (t1 / 4294967296)]) ∧ Below w.heap.size w w' := by
  have e1 : IntKind.i64.wrap (256 - n) = 256 - n := IntWalk.i64_in _ (by omega)
  have w00 : IntKind.i64.wrap 0 = 0 := rfl
  have w04 : IntKind.i64.wrap 4 = 4 := rfl
  have w08 : IntKind.i64.wrap 8 = 8 := rfl
  have fl := fun x0 x1 x2 x3 w => (field_four x0 x1 x2 x3 w).2
  have g0 : Wd s0 := by rw [es0]; exact wd_wd _ _
  have g1 : Wd s1 := by rw [es1]; exact wd_wd _ _
  have g2 : Wd s2 := by rw [es2]; exact wd_wd _ _
  have g3 : Wd s3 := by rw [es3]; exact wd_wd _ _
  have q0 : Wd t0 := by rw [et0]; exact wd_wd _ _
  have q1 : Wd t1 := by rw [et1]; exact wd_wd _ _
  have C1 := shl_any a3 a2 a1 a0 n h3 h2 h1 h0 (by omega)
  have C2 := shr_any a3 a2 a1 a0 (256 - n) h3 h2 h1 h0 (by omega)
  rw [← es0, ← es1, ← es2, ← es3] at C1
  rw [← et0, ← et1] at C2
  generalize wd (v4 a3 a2 a1 a0 / 2 ^ (256 - n).toNat) 2 = t2 at C2
  generalize wd (v4 a3 a2 a1 a0 / 2 ^ (256 - n).toNat) 3 = t3 at C2
  have H1 := Lib.hid C1
  have H2 := Lib.hid C2
  clear C1 C2 es0 es1 es2 es3 et0 et1
  go_enter Try.func86, Try.ntmps86
  go_wp2_with fail
  refine (H1.out _).mono ?_
  rintro e w1 ⟨rfl, hb⟩
  have HB : Hid (Below w.heap.size w w1) := bl_trans (bl_al (bl_al (Below.refl _ _) _) _) hb
  have hz : w.heap.size + 1 < w1.heap.size := by have h := hb.size; simp at h; omega
  have hz' : w.heap.size < w1.heap.size := by omega
  have hz2 : w.heap.size ≠ w1.heap.size := by omega
  have hz4 : w.heap.size + 1 ≠ w1.heap.size := by omega
  have c0 : w1.cell? ⟨w.heap.size, 0, none⟩ = some (.int .u64 a3) := by rw [(bcell hb).1 _ _ (by simp; omega)]; simp [go_sem]
  have c1 : w1.cell? ⟨w.heap.size, 1, none⟩ = some (.int .u64 a2) := by rw [(bcell hb).1 _ _ (by simp; omega)]; simp [go_sem]
  have c2 : w1.cell? ⟨w.heap.size, 2, none⟩ = some (.int .u64 a1) := by rw [(bcell hb).1 _ _ (by simp; omega)]; simp [go_sem]
  have c3 : w1.cell? ⟨w.heap.size, 3, none⟩ = some (.int .u64 a0) := by rw [(bcell hb).1 _ _ (by simp; omega)]; simp [go_sem]
  have d0 : ∀ j, j < 12 → w1.cell? ⟨w.heap.size + 1, j, none⟩ = some (.int .u32 0) := by
    intro j hj
    rw [(bcell hb).1 _ _ (by simp)]
    rcases (show j = 0 ∨ j = 1 ∨ j = 2 ∨ j = 3 ∨ j = 4 ∨ j = 5 ∨ j = 6 ∨ j = 7 ∨ j = 8 ∨ j = 9 ∨ j = 10 ∨ j = 11 by omega) with rfl | rfl | rfl | rfl | rfl | rfl | rfl | rfl | rfl | rfl | rfl | rfl <;> simp [go_sem]
  have dz0 : ∀ j, w1.frozen? ⟨w.heap.size + 1, j, none⟩ = false := by
    intro j
    rw [(bcell hb).2 _ _ (by simp)]
    rw [frozen?_alloc_cells, frozen?_alloc_cells]; simp [World.frozen?]
  clear hb
  go_wp2_with fail
  go_region_held3 (fun w' => w'.cell? ⟨w.heap.size, 0, none⟩ = some (.int .u64 a3) ∧ w'.cell? ⟨w.heap.size, 1, none⟩ = some (.int .u64 a2) ∧ w'.cell? ⟨w.heap.size, 2, none⟩ = some (.int .u64 a1) ∧ w'.cell? ⟨w.heap.size, 3, none⟩ = some (.int .u64 a0) ∧
      w'.cell? ⟨w1.heap.size, 0, none⟩ = some (.int .u64 s3) ∧ w'.cell? ⟨w1.heap.size, 1, none⟩ = some (.int .u64 s2) ∧ w'.cell? ⟨w1.heap.size, 2, none⟩ = some (.int .u64 s1) ∧ w'.cell? ⟨w1.heap.size, 3, none⟩ = some (.int .u64 s0)) (simp [*, go_sem, World.cell?_alloc_past])
    (first
      | (go_at_call 68; refine (H2.out _).mono ?_; rintro e w2 ⟨rfl, hb⟩; have hB : Below w1.heap.size w1 w2 := (bl_trans (by repeat (first | exact Below.refl _ _ | with_reducible refine bl_al ?_ _ | with_reducible apply Below.drew)) hb); obtain ⟨hcl, hfr⟩ := bcell hb; obtain ⟨hcl2, hfr2⟩ := bcell hB; have hz3 : w1.heap.size < w2.heap.size := (by have hz := hb.size; simp at hz; omega); have HB2 : Hid (Below w1.heap.size w1 w2) := hB; clear hb hB))
  rename_i hHeld
  clear hHeld
  clear hcl hfr
  have HT : Hid (Twelve (w.heap.size + 1) 0 0 0 0 0 0 0 0 0 0 0 0 w2) := by
    refine ⟨?_, ?_, ?_, ?_, ?_, ?_, ?_, ?_, ?_, ?_, ?_, ?_⟩ <;> (rw [hcl2 _ _ hz, d0 _ (by decide)])
  have HC : Hid (Clear (w.heap.size + 1) w2) := fun j => by rw [hfr2 _ _ hz, dz0 j]
  have HW : Hid (Below w.heap.size w w2) := bl_trans HB.out HB2.out
  have hza : w.heap.size + 1 < w2.heap.size := by omega
  clear d0 dz0 c0 c1 c2 c3 hcl2 hfr2 HB HB2 hz hz2 hz' hz3 hz4 H1 H2
  obtain ⟨i0, i1, i2⟩ := index_three (.int .u64 s1) (.int .u64 s0) (.int .u64 s3) (.int .u64 s2) (.int .u64 t1) (.int .u64 t0)
  have hcp0 := fun S => copy_four (w.heap.size + 1) 0 12 12 S (s0 % 4294967296) (s0 / 4294967296) (s1 % 4294967296) (s1 / 4294967296) (by decide)
  have hcp1 := fun S => copy_four (w.heap.size + 1) 4 8 8 S (s2 % 4294967296) (s2 / 4294967296) (s3 % 4294967296) (s3 / 4294967296) (by decide)
  have hcp2 := fun S => copy_four (w.heap.size + 1) 8 4 4 S (t0 % 4294967296) (t0 / 4294967296) (t1 % 4294967296) (t1 / 4294967296) (by decide)
  simp only [Nat.zero_add, Nat.reduceAdd] at hcp0 hcp1 hcp2
  go_wp2_with fail
  refine wp_loop_rounds 4 ?_
  refine rounds_gen (fun w' => Hid (Twelve (w.heap.size + 1) 0 0 0 0 0 0 0 0 0 0 0 0 w') ∧ Hid (Clear (w.heap.size + 1) w') ∧ Hid (Below w.heap.size w w') ∧ w.heap.size + 1 < w'.heap.size) ?_ ?_
  · exact ⟨HT, HC, HW, hza⟩
  clear HT HC HW hza
  rintro w3 ⟨HT0, HC0, HW0, hza0⟩
  rw [rounds_succ]; go_wp2_with fail
  refine (halves_any _ _ g1 g0 _).mono ?_
  rintro e v3 ⟨rfl, hb⟩
  have hB : Below w3.heap.size w3 v3 := bl_trans (bl_al (Below.refl _ _) _) hb
  have hza : w.heap.size + 1 < v3.heap.size := Nat.lt_of_lt_of_le hza0 hB.size
  have hzb : w.heap.size + 1 ≠ v3.heap.size := Nat.ne_of_lt hza
  have HW : Hid (Below w.heap.size w v3) := bl_trans HW0.out hB
  obtain ⟨D0, D1, D2, D3, D4, D5, D6, D7, D8, D9, D10, D11⟩ : Twelve (w.heap.size + 1) 0 0 0 0 0 0 0 0 0 0 0 0 v3 := by
    obtain ⟨D0, D1, D2, D3, D4, D5, D6, D7, D8, D9, D10, D11⟩ := HT0.out
    refine ⟨?_, ?_, ?_, ?_, ?_, ?_, ?_, ?_, ?_, ?_, ?_, ?_⟩ <;> (rw [(bcell hB).1 _ _ hza0]; assumption)
  have HC : Clear (w.heap.size + 1) v3 := fun j => by rw [(bcell hB).2 _ _ hza0]; exact HC0.out j
  unfold Clear at HC
  clear HT0 HC0 HW0 hb hB hza0
  go_wp2_with fail
  go_region
  go_wp2_with fail
  refine rounds_gen (fun w' => Hid (Twelve (w.heap.size + 1) (s0 % 4294967296) (s0 / 4294967296) (s1 % 4294967296) (s1 / 4294967296) 0 0 0 0 0 0 0 0 w') ∧ Hid (Clear (w.heap.size + 1) w') ∧ Hid (Below w.heap.size w w') ∧ w.heap.size + 1 < w'.heap.size) ?_ ?_
  · refine ⟨?_, ?_, ?_, ?_⟩
    · show Twelve _ _ _ _ _ _ _ _ _ _ _ _ _ _
      unfold Twelve; simp [go_sem, *]
    · show Clear _ _
      intro j
      simp [go_sem, frozen?_alloc_cells, HC]
    · exact Below.drew (bl_al (Below.setCell (Below.setCell (Below.setCell (Below.setCell HW.out (by simp) _) (by simp) _) (by simp) _) (by simp) _) _)
    · simp [go_sem]; omega
  clear D0 D1 D2 D3 D4 D5 D6 D7 D8 D9 D10 D11 HC HW hza hzb
  rintro w4 ⟨HT0, HC0, HW0, hza0⟩
  rw [rounds_succ]; go_wp2_with fail
  refine (halves_any _ _ g3 g2 _).mono ?_
  rintro e v4 ⟨rfl, hb⟩
  have hB : Below w4.heap.size w4 v4 := bl_trans (bl_al (Below.refl _ _) _) hb
  have hza : w.heap.size + 1 < v4.heap.size := Nat.lt_of_lt_of_le hza0 hB.size
  have hzb : w.heap.size + 1 ≠ v4.heap.size := Nat.ne_of_lt hza
  have HW : Hid (Below w.heap.size w v4) := bl_trans HW0.out hB
  obtain ⟨D0, D1, D2, D3, D4, D5, D6, D7, D8, D9, D10, D11⟩ : Twelve (w.heap.size + 1) (s0 % 4294967296) (s0 / 4294967296) (s1 % 4294967296) (s1 / 4294967296) 0 0 0 0 0 0 0 0 v4 := by
    obtain ⟨D0, D1, D2, D3, D4, D5, D6, D7, D8, D9, D10, D11⟩ := HT0.out
    refine ⟨?_, ?_, ?_, ?_, ?_, ?_, ?_, ?_, ?_, ?_, ?_, ?_⟩ <;> (rw [(bcell hB).1 _ _ hza0]; assumption)
  have HC : Clear (w.heap.size + 1) v4 := fun j => by rw [(bcell hB).2 _ _ hza0]; exact HC0.out j
  unfold Clear at HC
  clear HT0 HC0 HW0 hb hB hza0
  go_wp2_with fail
  go_region
  go_wp2_with fail
  refine rounds_gen (fun w' => Hid (Twelve (w.heap.size + 1) (s0 % 4294967296) (s0 / 4294967296) (s1 % 4294967296) (s1 / 4294967296) (s2 % 4294967296) (s2 / 4294967296) (s3 % 4294967296) (s3 / 4294967296) 0 0 0 0 w') ∧ Hid (Clear (w.heap.size + 1) w') ∧ Hid (Below w.heap.size w w') ∧ w.heap.size + 1 < w'.heap.size) ?_ ?_
  · refine ⟨?_, ?_, ?_, ?_⟩
    · show Twelve _ _ _ _ _ _ _ _ _ _ _ _ _ _
      unfold Twelve; simp [go_sem, *]
    · show Clear _ _
      intro j
      simp [go_sem, frozen?_alloc_cells, HC]
    · exact Below.drew (bl_al (Below.setCell (Below.setCell (Below.setCell (Below.setCell HW.out (by simp) _) (by simp) _) (by simp) _) (by simp) _) _)
    · simp [go_sem]; omega
  clear D0 D1 D2 D3 D4 D5 D6 D7 D8 D9 D10 D11 HC HW hza hzb
  rintro w5 ⟨HT0, HC0, HW0, hza0⟩
  rw [rounds_succ]; go_wp2_with fail
  refine (halves_any _ _ q1 q0 _).mono ?_
  rintro e v5 ⟨rfl, hb⟩
  have hB : Below w5.heap.size w5 v5 := bl_trans (bl_al (Below.refl _ _) _) hb
  have hza : w.heap.size + 1 < v5.heap.size := Nat.lt_of_lt_of_le hza0 hB.size
  have hzb : w.heap.size + 1 ≠ v5.heap.size := Nat.ne_of_lt hza
  have HW : Hid (Below w.heap.size w v5) := bl_trans HW0.out hB
  obtain ⟨D0, D1, D2, D3, D4, D5, D6, D7, D8, D9, D10, D11⟩ : Twelve (w.heap.size + 1) (s0 % 4294967296) (s0 / 4294967296) (s1 % 4294967296) (s1 / 4294967296) (s2 % 4294967296) (s2 / 4294967296) (s3 % 4294967296) (s3 / 4294967296) 0 0 0 0 v5 := by
    obtain ⟨D0, D1, D2, D3, D4, D5, D6, D7, D8, D9, D10, D11⟩ := HT0.out
    refine ⟨?_, ?_, ?_, ?_, ?_, ?_, ?_, ?_, ?_, ?_, ?_, ?_⟩ <;> (rw [(bcell hB).1 _ _ hza0]; assumption)
  have HC : Clear (w.heap.size + 1) v5 := fun j => by rw [(bcell hB).2 _ _ hza0]; exact HC0.out j
  unfold Clear at HC
  clear HT0 HC0 HW0 hb hB hza0
  go_wp2_with fail
  go_region
  go_wp2_with fail
  refine rounds_gen (fun w' => Hid (Twelve (w.heap.size + 1) (s0 % 4294967296) (s0 / 4294967296) (s1 % 4294967296) (s1 / 4294967296) (s2 % 4294967296) (s2 / 4294967296) (s3 % 4294967296) (s3 / 4294967296) (t0 % 4294967296) (t0 / 4294967296) (t1 % 4294967296) (t1 / 4294967296) w') ∧ Hid (Clear (w.heap.size + 1) w') ∧ Hid (Below w.heap.size w w') ∧ w.heap.size + 1 < w'.heap.size) ?_ ?_
  · refine ⟨?_, ?_, ?_, ?_⟩
    · show Twelve _ _ _ _ _ _ _ _ _ _ _ _ _ _
      unfold Twelve; simp [go_sem, *]
    · show Clear _ _
      intro j
      simp [go_sem, frozen?_alloc_cells, HC]
    · exact Below.drew (bl_al (Below.setCell (Below.setCell (Below.setCell (Below.setCell HW.out (by simp) _) (by simp) _) (by simp) _) (by simp) _) _)
    · simp [go_sem]; omega
  clear D0 D1 D2 D3 D4 D5 D6 D7 D8 D9 D10 D11 HC HW hza hzb
  rintro w6 ⟨HT0, HC0, HW0, hza0⟩
  obtain ⟨D0, D1, D2, D3, D4, D5, D6, D7, D8, D9, D10, D11⟩ := HT0.out
  have HC : Clear (w.heap.size + 1) w6 := HC0.out
  unfold Clear at HC
  rw [rounds_succ]; go_wp2_with fail
  refine bodyPost_ret (by simp [results, Try.results86, go_sem, *]; try rfl) rfl ?_
  refine ⟨rfl, ?_⟩
  trace_state
  exact (Below.setCell (Below.setCell (Below.setCell (Below.setCell (Below.setCell (Below.setCell (Below.setCell (Below.setCell (Below.setCell (Below.setCell (Below.setCell (Below.setCell HW0.out (by simp) _) (by simp) _) (by simp) _) (by simp) _) (by simp) _) (by simp) _) (by simp) _) (by simp) _) (by simp) _) (by simp) _) (by simp) _) (by simp) _)
end Go.Proofs.Ytmelipbanbihdaa
