/- A half of the quotient is taken out: as often as it goes. -/
import Derived.Test.YtmelipbanbihdaaTake
namespace Go.Proofs.Ytmelipbanbihdaa
open Go.RowKit

theorem hv5_lt {a b c d e : Int} (h0 : Hf a) (h1 : Hf b) (h2 : Hf c) (h3 : Hf d) (h4 : Hf e) : 0 ≤ hv5 a b c d e ∧ hv5 a b c d e < 1461501637330902918203684832716283019655932542976 := by
  obtain ⟨_, _⟩ := h0; obtain ⟨_, _⟩ := h1; obtain ⟨_, _⟩ := h2; obtain ⟨_, _⟩ := h3; obtain ⟨_, _⟩ := h4
  unfold hv5 hv4; omega
theorem hv4_lt {a b c d : Int} (h0 : Hf a) (h1 : Hf b) (h2 : Hf c) (h3 : Hf d) : 0 ≤ hv4 a b c d ∧ hv4 a b c d < 340282366920938463463374607431768211456 := by
  obtain ⟨_, _⟩ := h0; obtain ⟨_, _⟩ := h1; obtain ⟨_, _⟩ := h2; obtain ⟨_, _⟩ := h3
  unfold hv4; omega
theorem Wrote.other {B o n b j : Nat} {w w' : World} (h : Wrote B o n w w') (hb : b < w.heap.size) (hn : b ≠ B) : w'.cell? ⟨b, j, none⟩ = w.cell? ⟨b, j, none⟩ := World.cell?_of_block (h.block b hb hn)
def TookOut (B o : Nat) (R V : Int) (w : World) (e : Ending) (w' : World) : Prop := ∃ y0 y1 y2 y3 y4 q : Int, e = .returned (.int .u32 q) ∧ Hf q ∧ Hf y0 ∧ Hf y1 ∧ Hf y2 ∧ Hf y3 ∧ Hf y4 ∧
  hv5 y0 y1 y2 y3 y4 = R - q * V ∧ hv5 y0 y1 y2 y3 y4 < V ∧ Wrote B o 5 w w' ∧ Five B o y0 y1 y2 y3 y4 w'
set_option maxHeartbeats 2000000 in
theorem takeOut_any (B o cap : Nat) (r0 r1 r2 r3 r4 v0 v1 v2 v3 : Int) (a0 : Hf r0) (a1 : Hf r1) (a2 : Hf r2) (a3 : Hf r3) (a4 : Hf r4) (b0 : Hf v0) (b1 : Hf v1) (b2 : Hf v2) (b3 : Hf v3) (hT : 2147483648 ≤ v3) (hlt : hv4 r1 r2 r3 r4 < hv4 v0 v1 v2 v3)
    (w : World) (hB : B < w.heap.size) (c0 : w.cell? ⟨B, o, none⟩ = some (.int .u32 r0)) (c1 : w.cell? ⟨B, o + 1, none⟩ = some (.int .u32 r1)) (c2 : w.cell? ⟨B, o + 2, none⟩ = some (.int .u32 r2)) (c3 : w.cell? ⟨B, o + 3, none⟩ = some (.int .u32 r3)) (c4 : w.cell? ⟨B, o + 4, none⟩ = some (.int .u32 r4)) (z0 : w.frozen? ⟨B, o, none⟩ = false) (z1 : w.frozen? ⟨B, o + 1, none⟩ = false) (z2 : w.frozen? ⟨B, o + 2, none⟩ = false) (z3 : w.frozen? ⟨B, o + 3, none⟩ = false) (z4 : w.frozen? ⟨B, o + 4, none⟩ = false) :
    Calls Try.prog 87 #[.slice (some ⟨B, o, none⟩) 5 cap, .agg #[.int .u32 v0, .int .u32 v1, .int .u32 v2, .int .u32 v3]] w (TookOut B o (hv5 r0 r1 r2 r3 r4) (hv4 v0 v1 v2 v3) w) := by
  have hR5 := hv5_lt a0 a1 a2 a3 a4
  have hV4 := hv4_lt b0 b1 b2 b3
  have hne : B ≠ w.heap.size := by omega
  go_enter Try.func87, Try.ntmps87
  go_wp2_with fail
  refine (guess_any B o cap r0 r1 r2 r3 r4 v0 v1 v2 v3 a0 a1 a2 a3 a4 b0 b1 b2 b3 hT hlt _ (by simp; omega) (by simp [go_sem, *]) (by simp [go_sem, *]) (by simp [go_sem, *])).mono ?_
  rintro e w1 ⟨t, rfl, ht, hR, hV, hb⟩
  have HB : Hid (Below w.heap.size w w1) := bl_trans (bl_al (Below.refl _ _) _) hb
  have hz : w.heap.size < w1.heap.size := by have h := hb.size; simp at h; omega
  have hB1 : B < w1.heap.size := by omega
  have d0 : w1.cell? ⟨w.heap.size, 0, none⟩ = some (.int .u32 v0) := by rw [(bcell hb).1 _ _ (by simp)]; simp [go_sem]
  have d1 : w1.cell? ⟨w.heap.size, 1, none⟩ = some (.int .u32 v1) := by rw [(bcell hb).1 _ _ (by simp)]; simp [go_sem]
  have d2 : w1.cell? ⟨w.heap.size, 2, none⟩ = some (.int .u32 v2) := by rw [(bcell hb).1 _ _ (by simp)]; simp [go_sem]
  have d3 : w1.cell? ⟨w.heap.size, 3, none⟩ = some (.int .u32 v3) := by rw [(bcell hb).1 _ _ (by simp)]; simp [go_sem]
  have c0' : w1.cell? ⟨B, o, none⟩ = some (.int .u32 r0) := by rw [(bcell HB.out).1 _ _ hB]; exact c0
  have z0' : w1.frozen? ⟨B, o, none⟩ = false := by rw [(bcell HB.out).2 _ _ hB]; exact z0
  have c1' : w1.cell? ⟨B, o + 1, none⟩ = some (.int .u32 r1) := by rw [(bcell HB.out).1 _ _ hB]; exact c1
  have z1' : w1.frozen? ⟨B, o + 1, none⟩ = false := by rw [(bcell HB.out).2 _ _ hB]; exact z1
  have c2' : w1.cell? ⟨B, o + 2, none⟩ = some (.int .u32 r2) := by rw [(bcell HB.out).1 _ _ hB]; exact c2
  have z2' : w1.frozen? ⟨B, o + 2, none⟩ = false := by rw [(bcell HB.out).2 _ _ hB]; exact z2
  have c3' : w1.cell? ⟨B, o + 3, none⟩ = some (.int .u32 r3) := by rw [(bcell HB.out).1 _ _ hB]; exact c3
  have z3' : w1.frozen? ⟨B, o + 3, none⟩ = false := by rw [(bcell HB.out).2 _ _ hB]; exact z3
  have c4' : w1.cell? ⟨B, o + 4, none⟩ = some (.int .u32 r4) := by rw [(bcell HB.out).1 _ _ hB]; exact c4
  have z4' : w1.frozen? ⟨B, o + 4, none⟩ = false := by rw [(bcell HB.out).2 _ _ hB]; exact z4
  clear hb
  have ht0 := ht.1; have ht1 := ht.2
  by_cases hz0 : t = 0
  · have hq : Hid (hv5 r0 r1 r2 r3 r4 = hv5 r0 r1 r2 r3 r4 - 0 * hv4 v0 v1 v2 v3 ∧ hv5 r0 r1 r2 r3 r4 < hv4 v0 v1 v2 v3) := by
      subst hz0; rw [Int.zero_mul] at hR ⊢; exact ⟨by omega, by omega⟩
    subst hz0
    clear hR hV
    go_wp2_with fail
    go_returns
    exact ⟨r0, r1, r2, r3, r4, 0, rfl, ⟨by decide, by decide⟩, a0, a1, a2, a3, a4, hq.out.1, hq.out.2, Wrote.of_below hB HB.out, c0', c1', c2', c3', c4'⟩
  · have t1 : (t != 0) = true := by rw [bne_iff_ne]; exact hz0
    have HR := Lib.hid hR
    have HV := Lib.hid hV
    clear hR hV
    go_wp2_with fail
    refine (takeTimes_any B o cap r0 r1 r2 r3 r4 v0 v1 v2 v3 t a0 a1 a2 a3 a4 b0 b1 b2 b3 ht w1 hB1 c0' c1' c2' c3' c4' z0' z1' z2' z3' z4').mono ?_
    rintro e w2 ⟨y0, y1, y2, y3, y4, u, rfl, hy0, hy1, hy2, hy3, hy4, hu0, hu1, hE, hW, hF⟩
    have HE := Lib.hid hE
    have HW : Hid (Wrote B o 5 w w2) := (Wrote.of_below hB HB.out).trans hW
    have hB2 : B < w2.heap.size := Nat.lt_of_lt_of_le hB1 hW.size
    obtain ⟨s0, s1, s2, s3, s4⟩ := hF
    have d0' : w2.cell? ⟨w.heap.size, 0, none⟩ = some (.int .u32 v0) := by rw [hW.other hz (Ne.symm hne)]; exact d0
    have d1' : w2.cell? ⟨w.heap.size, 1, none⟩ = some (.int .u32 v1) := by rw [hW.other hz (Ne.symm hne)]; exact d1
    have d2' : w2.cell? ⟨w.heap.size, 2, none⟩ = some (.int .u32 v2) := by rw [hW.other hz (Ne.symm hne)]; exact d2
    have d3' : w2.cell? ⟨w.heap.size, 3, none⟩ = some (.int .u32 v3) := by rw [hW.other hz (Ne.symm hne)]; exact d3
    have z0'' : w2.frozen? ⟨B, o, none⟩ = false := by rw [hW.frozen]; exact z0'
    have z1'' : w2.frozen? ⟨B, o + 1, none⟩ = false := by rw [hW.frozen]; exact z1'
    have z2'' : w2.frozen? ⟨B, o + 2, none⟩ = false := by rw [hW.frozen]; exact z2'
    have z3'' : w2.frozen? ⟨B, o + 3, none⟩ = false := by rw [hW.frozen]; exact z3'
    have z4'' : w2.frozen? ⟨B, o + 4, none⟩ = false := by rw [hW.frozen]; exact z4'
    clear hE hW
    by_cases hu : u = 0
    · have t2 : (u != 0) = false := by rw [bne_eq_false_iff_eq]; exact hu
      go_wp2_with fail
      go_returns
      have h1 := HR.out; have h2 := HE.out; rw [hu] at h2
      exact ⟨y0, y1, y2, y3, y4, t, rfl, ht, hy0, hy1, hy2, hy3, hy4, by omega, by omega, HW.out, s0, s1, s2, s3, s4⟩
    · have t2 : (u != 0) = true := by rw [bne_iff_ne]; exact hu
      have hu2 : Hid (u = 1) := by show _ = _; omega
      go_wp2_with fail
      refine (giveBack_any B o cap y0 y1 y2 y3 y4 v0 v1 v2 v3 hy0 hy1 hy2 hy3 hy4 b0 b1 b2 b3 w2 hB2 s0 s1 s2 s3 s4 z0'' z1'' z2'' z3'' z4'').mono ?_
      rintro e w3 ⟨x0, x1, x2, x3, x4, u', rfl, hx0, hx1, hx2, hx3, hx4, hu0', hu1', hE, hW, hF⟩
      have HE2 := Lib.hid hE
      have HW2 : Hid (Wrote B o 5 w w3) := HW.out.trans hW
      clear hE hW
      go_wp2_with fail
      go_returns
      have h1 := HR.out; have h2 := HE.out; have h3 := HE2.out; have h4 := HV.out; have h5 := hu2.out
      rw [h5] at h2
      have h6 := hv5_lt hx0 hx1 hx2 hx3 hx4
      have h7 := hv5_lt hy0 hy1 hy2 hy3 hy4
      have h8 : u' = 1 := by omega
      rw [h8] at h3
      exact ⟨x0, x1, x2, x3, x4, t - 1, rfl, ⟨by omega, by omega⟩, hx0, hx1, hx2, hx3, hx4, by rw [Int.sub_mul]; omega, by omega, HW2.out, hF⟩
end Go.Proofs.Ytmelipbanbihdaa
