/- PairFar, as a walk. -/
import Derived.Test.YtmmlekgojblopaaPairLaw
namespace Go.Proofs.Ytmmlekgojblopaa
open Go.RowKit
set_option maxRecDepth 20000 in
set_option maxHeartbeats 8000000 in
theorem pairFar_core (m n far a b r s p q u v v' oh ol ah al bh bl rh rl sh sl jh jl kh kl ph pl qh ql uh ul vh vl e1 e2 : Int) (hm : 0 ≤ m ∧ m < 256) (hn : 0 ≤ n ∧ n < 256) (hf : 0 ≤ far ∧ far < 256) (ea : 1 + m = a) (eb : 1 + n = b) (er : wrap64 (2 ^ (far % 8).toNat) = r) (es : IntKind.i64.wrap (-2 * r) = s) (es' : IntKind.i64.wrap (-(2 * r)) = s) (ep : IntKind.i64.wrap (a * b) = p) (eq_ : IntKind.i64.wrap (r * r) = q) (eu : IntKind.i64.wrap (-a * b) = u) (eu' : IntKind.i64.wrap (-(a * b)) = u) (ev : IntKind.i64.wrap (4 * r) = v') (ev' : IntKind.i64.wrap (v' * r) = v) (w : World)
    (C1 : Ct 16 #[.int .i64 1] (.agg #[.int .i64 oh, .int .u64 ol]))
    (C2 : Ct 16 #[.int .i64 a] (.agg #[.int .i64 ah, .int .u64 al]))
    (C3 : Ct 16 #[.int .i64 b] (.agg #[.int .i64 bh, .int .u64 bl]))
    (C4 : Ct 16 #[.int .i64 r] (.agg #[.int .i64 rh, .int .u64 rl]))
    (C5 : Ct 16 #[.int .i64 s] (.agg #[.int .i64 sh, .int .u64 sl]))
    (C6 : Ct 11 #[.agg #[.int .i64 oh, .int .u64 ol], .agg #[.int .i64 ah, .int .u64 al], .agg #[.int .i64 bh, .int .u64 bl], .agg #[.int .i64 rh, .int .u64 rl, .int .i64 0, .int .u64 0], .agg #[.int .i64 0, .int .u64 0], .agg #[.int .i64 oh, .int .u64 ol]] (.tuple #[.agg #[.int .i64 jh, .int .u64 jl, .int .i64 0, .int .u64 0], .int .i64 0]))
    (C7 : Ct 11 #[.agg #[.int .i64 oh, .int .u64 ol], .agg #[.int .i64 ah, .int .u64 al], .agg #[.int .i64 bh, .int .u64 bl], .agg #[.int .i64 0, .int .u64 0, .int .i64 sh, .int .u64 sl], .agg #[.int .i64 0, .int .u64 0], .agg #[.int .i64 oh, .int .u64 ol]] (.tuple #[.agg #[.int .i64 0, .int .u64 0, .int .i64 kh, .int .u64 kl], .int .i64 0]))
    (C8 : Ct 16 #[.int .i64 p] (.agg #[.int .i64 ph, .int .u64 pl]))
    (C9 : Ct 16 #[.int .i64 q] (.agg #[.int .i64 qh, .int .u64 ql]))
    (C10 : Ct 17 #[.agg #[.int .i64 ph, .int .u64 pl], .agg #[.int .i64 qh, .int .u64 ql]] (.agg #[.int .i64 jh, .int .u64 jl, .int .i64 e1]))
    (C11 : Ct 16 #[.int .i64 u] (.agg #[.int .i64 uh, .int .u64 ul]))
    (C12 : Ct 16 #[.int .i64 v] (.agg #[.int .i64 vh, .int .u64 vl]))
    (C13 : Ct 17 #[.agg #[.int .i64 uh, .int .u64 ul], .agg #[.int .i64 vh, .int .u64 vl]] (.agg #[.int .i64 kh, .int .u64 kl, .int .i64 e2]))
    (C14 : Ct 13 #[.int .i64 0] (.int .i64 0))
    (C15 : Ct 10 #[] (.bool true)) :
    Calls Try.prog 5 #[.int .u8 m, .int .u8 n, .int .u8 far] w fun e w' => e = .returned (.bool true) ∧ Below w.heap.size w w' := by
  have K1 := Lib.hid C1; have K2 := Lib.hid C2; have K3 := Lib.hid C3; have K4 := Lib.hid C4; have K5 := Lib.hid C5; have K6 := Lib.hid C6; have K7 := Lib.hid C7; have K8 := Lib.hid C8; have K9 := Lib.hid C9; have K10 := Lib.hid C10; have K11 := Lib.hid C11; have K12 := Lib.hid C12; have K13 := Lib.hid C13; have K14 := Lib.hid C14; have K15 := Lib.hid C15
  clear C1 C2 C3 C4 C5 C6 C7 C8 C9 C10 C11 C12 C13 C14 C15
  go_enter Try.func5, Try.ntmps5
  have w1 : IntKind.i64.wrap m = m := by rw [IntWalk.i64_in _ (by omega)]
  have w2 : IntKind.i64.wrap n = n := by rw [IntWalk.i64_in _ (by omega)]
  have w3 : IntKind.i64.wrap far = far := by rw [IntWalk.i64_in _ (by omega)]
  have w4 : IntKind.i64.wrap a = a := by rw [IntWalk.i64_in _ (by omega)]
  have w5 : IntKind.i64.wrap b = b := by rw [IntWalk.i64_in _ (by omega)]
  have w6 : IntKind.i64.wrap (-a) = -a := by rw [IntWalk.i64_in _ (by omega)]
  have qj := eq_vec_same jh jl 0 0; have qk := eq_vec_same 0 0 kh kl
  go_upto_region 4 with (first | (go_at_call 16; (with_reducible refine (K1.out _).mono ?_); rintro e u1 ⟨rfl, hb⟩) | fail)
  refine nw _ fun y1 hy => ?_
  have OB : Hid (Bx 24 y1 u1.heap.size [.int .i64 oh, .int .u64 ol]) := by rw [hy]; exact Bx.new _ _ _
  have Zy1 : Hid (Below w.heap.size w y1) := by rw [hy]; exact bl_al hb _
  clear hy hb   K1
  generalize u1.heap.size = NOB at *
  have o0 := OB.out.cell (j := 0) rfl; have o1 := OB.out.cell (j := 1) rfl
  clear OB
  have qo0 := stays o0 (World.block_lt_of_cell? _ _ o0); have qo1 := stays o1 (World.block_lt_of_cell? _ _ o1)
  clear o0 o1
  go_cut [11, 12] (fun s0 s1 wz => (∃ g, s0 = .pointer (some ⟨g, 0, none⟩) ∧ Bx 26 wz g [.int .i64 jh, .int .u64 jl, .int .i64 0, .int .u64 0]) ∧ s1 = .int .i64 0 ∧ Below y1.heap.size y1 wz)
  case first =>
    go_region_held3 (fun w' => Below y1.heap.size y1 w') (exact bs) (first
      | (go_at_call 16; (with_reducible refine (K2.out _).mono ?_); rintro e v0 ⟨rfl, hb0⟩; obtain ⟨hc0, hf0⟩ := bcell hb0; have s0 : y1.heap.size ≤ v0.heap.size := (by have q := hb0.size; (try simp at q); omega); (try have z0 : y1.heap.size < v0.heap.size := by have q := hb0.size; (try simp at q); omega))
      | (go_at_call 16; (with_reducible refine (K3.out _).mono ?_); rintro e v1 ⟨rfl, hb1⟩; obtain ⟨hc1, hf1⟩ := bcell hb1; have s1 : y1.heap.size ≤ v1.heap.size := (by have q := hb1.size; (try simp at q); omega); (try have z1 : y1.heap.size < v1.heap.size := by have q := hb1.size; (try simp at q); omega); (try have z1_0 : v0.heap.size < v1.heap.size := by have q := hb1.size; (try simp at q); omega))
      | (go_at_call 16; (with_reducible refine (K4.out _).mono ?_); rintro e v2 ⟨rfl, hb2⟩; obtain ⟨hc2, hf2⟩ := bcell hb2; have s2 : y1.heap.size ≤ v2.heap.size := (by have q := hb2.size; (try simp at q); omega); (try have z2 : y1.heap.size < v2.heap.size := by have q := hb2.size; (try simp at q); omega); (try have z2_0 : v0.heap.size < v2.heap.size := by have q := hb2.size; (try simp at q); omega); (try have z2_1 : v1.heap.size < v2.heap.size := by have q := hb2.size; (try simp at q); omega))
      | (go_at_call 11; (with_reducible refine (K6.out _).mono ?_); rintro e v3 ⟨rfl, hb3⟩; obtain ⟨hc3, hf3⟩ := bcell hb3; have s3 : y1.heap.size ≤ v3.heap.size := (by have q := hb3.size; (try simp at q); omega); (try have z3 : y1.heap.size < v3.heap.size := by have q := hb3.size; (try simp at q); omega); (try have z3_0 : v0.heap.size < v3.heap.size := by have q := hb3.size; (try simp at q); omega); (try have z3_1 : v1.heap.size < v3.heap.size := by have q := hb3.size; (try simp at q); omega); (try have z3_2 : v2.heap.size < v3.heap.size := by have q := hb3.size; (try simp at q); omega)))
    all_goals (rename_i hHeld; have HH := Lib.hid hHeld; clear hHeld; go_wp2_with fail; go_meet; first
      | (refine ⟨⟨v3.heap.size, rfl, ?_⟩, rfl, HH.out⟩; exact Bx.new _ _ _)
      | (refine ⟨⟨v2.heap.size, rfl, ?_⟩, rfl, HH.out⟩; exact ((((bx_put hb3).put 0 _).put 1 _).put 2 _).put 3 _)
      | (refine ⟨⟨v1.heap.size, rfl, ?_⟩, rfl, HH.out⟩; exact (((((bx_put hb2).below hb3).put 0 _).put 1 _).put 2 _).put 3 _)
      | (refine ⟨⟨v0.heap.size, rfl, ?_⟩, rfl, HH.out⟩; exact ((((((bx_put hb1).below hb2).below hb3).put 0 _).put 1 _).put 2 _).put 3 _)
      | (refine ⟨⟨y1.heap.size, rfl, ?_⟩, rfl, HH.out⟩; exact (((((((bx_putd hb0).below hb1).below hb2).below hb3).put 0 _).put 1 _).put 2 _).put 3 _)
      | (refine ⟨⟨y1.heap.size, rfl, ?_⟩, rfl, HH.out⟩; exact (((((((bx_put hb0).below hb1).below hb2).below hb3).put 0 _).put 1 _).put 2 _).put 3 _))
  case rest =>
  obtain ⟨⟨NJB, rfl, bx⟩, rfl, hb⟩ := hcut
  obtain ⟨y2, hy⟩ : ∃ x : World, x = wc := ⟨wc, rfl⟩
  rw [← hy] at bx hb ⊢
  clear hy
  have JB := Lib.hid bx; have Zy2 := Lib.hid hb
  have o0 := qo0 y2 hb; have o1 := qo1 y2 hb
  clear bx hb qo0 qo1  K4 K6
  go_upto_region 5 with fail
  have qo0 := stays o0 (World.block_lt_of_cell? _ _ o0); have qo1 := stays o1 (World.block_lt_of_cell? _ _ o1)
  clear o0 o1
  go_cut [13, 14] (fun s0 s1 wz => (∃ g, s0 = .pointer (some ⟨g, 0, none⟩) ∧ Bx 26 wz g [.int .i64 0, .int .u64 0, .int .i64 kh, .int .u64 kl]) ∧ s1 = .int .i64 0 ∧ Below y2.heap.size y2 wz)
  case first =>
    clear JB
    go_region_held3 (fun w' => Below y2.heap.size y2 w') (exact bs) (first
      | (go_at_call 16; (with_reducible refine (K2.out _).mono ?_); rintro e v0 ⟨rfl, hb0⟩; obtain ⟨hc0, hf0⟩ := bcell hb0; have s0 : y2.heap.size ≤ v0.heap.size := (by have q := hb0.size; (try simp at q); omega); (try have z0 : y2.heap.size < v0.heap.size := by have q := hb0.size; (try simp at q); omega))
      | (go_at_call 16; (with_reducible refine (K3.out _).mono ?_); rintro e v1 ⟨rfl, hb1⟩; obtain ⟨hc1, hf1⟩ := bcell hb1; have s1 : y2.heap.size ≤ v1.heap.size := (by have q := hb1.size; (try simp at q); omega); (try have z1 : y2.heap.size < v1.heap.size := by have q := hb1.size; (try simp at q); omega); (try have z1_0 : v0.heap.size < v1.heap.size := by have q := hb1.size; (try simp at q); omega))
      | (go_at_call 16; (with_reducible refine (K5.out _).mono ?_); rintro e v2 ⟨rfl, hb2⟩; obtain ⟨hc2, hf2⟩ := bcell hb2; have s2 : y2.heap.size ≤ v2.heap.size := (by have q := hb2.size; (try simp at q); omega); (try have z2 : y2.heap.size < v2.heap.size := by have q := hb2.size; (try simp at q); omega); (try have z2_0 : v0.heap.size < v2.heap.size := by have q := hb2.size; (try simp at q); omega); (try have z2_1 : v1.heap.size < v2.heap.size := by have q := hb2.size; (try simp at q); omega))
      | (go_at_call 11; (with_reducible refine (K7.out _).mono ?_); rintro e v3 ⟨rfl, hb3⟩; obtain ⟨hc3, hf3⟩ := bcell hb3; have s3 : y2.heap.size ≤ v3.heap.size := (by have q := hb3.size; (try simp at q); omega); (try have z3 : y2.heap.size < v3.heap.size := by have q := hb3.size; (try simp at q); omega); (try have z3_0 : v0.heap.size < v3.heap.size := by have q := hb3.size; (try simp at q); omega); (try have z3_1 : v1.heap.size < v3.heap.size := by have q := hb3.size; (try simp at q); omega); (try have z3_2 : v2.heap.size < v3.heap.size := by have q := hb3.size; (try simp at q); omega)))
    all_goals (rename_i hHeld; have HH := Lib.hid hHeld; clear hHeld; go_wp2_with fail; go_meet; first
      | (refine ⟨⟨v3.heap.size, rfl, ?_⟩, rfl, HH.out⟩; exact Bx.new _ _ _)
      | (refine ⟨⟨v2.heap.size, rfl, ?_⟩, rfl, HH.out⟩; exact ((((bx_put hb3).put 0 _).put 1 _).put 2 _).put 3 _)
      | (refine ⟨⟨v1.heap.size, rfl, ?_⟩, rfl, HH.out⟩; exact (((((bx_put hb2).below hb3).put 0 _).put 1 _).put 2 _).put 3 _)
      | (refine ⟨⟨v0.heap.size, rfl, ?_⟩, rfl, HH.out⟩; exact ((((((bx_put hb1).below hb2).below hb3).put 0 _).put 1 _).put 2 _).put 3 _)
      | (refine ⟨⟨y2.heap.size, rfl, ?_⟩, rfl, HH.out⟩; exact (((((((bx_putd hb0).below hb1).below hb2).below hb3).put 0 _).put 1 _).put 2 _).put 3 _)
      | (refine ⟨⟨y2.heap.size, rfl, ?_⟩, rfl, HH.out⟩; exact (((((((bx_put hb0).below hb1).below hb2).below hb3).put 0 _).put 1 _).put 2 _).put 3 _))
  case rest =>
  obtain ⟨⟨NKB, rfl, bx⟩, rfl, hb⟩ := hcut
  obtain ⟨y3, hy⟩ : ∃ x : World, x = wc := ⟨wc, rfl⟩
  rw [← hy] at bx hb ⊢
  clear hy
  have KB := Lib.hid bx; have Zy3 := Lib.hid hb
  have o0 := qo0 y3 hb; have o1 := qo1 y3 hb
  have JB' := Lib.hid (JB.out.below hb)
  clear bx hb qo0 qo1 JB K2 K3 K5 K7
  have JB := JB'; clear JB'
  go_upto_region 6 with fail
  clear o0 o1
  have HB := Lib.hid (bl_trans (bl_trans Zy1.out Zy2.out) Zy3.out)
  clear Zy1 Zy2 Zy3
  have W0 := Below.refl y3.heap.size y3
  go_upto_region 7 with (first
    | (go_at_call 16; (with_reducible refine (K8.out _).mono ?_); rintro e wc ⟨rfl, hbc⟩; have W1 := bl_trans W0 hbc; clear W0 hbc; have W0 := W1; clear W1)
    | (go_at_call 16; (with_reducible refine (K9.out _).mono ?_); rintro e wc ⟨rfl, hbc⟩; have W1 := bl_trans W0 hbc; clear W0 hbc; have W0 := W1; clear W1)
    | (go_at_call 17; (with_reducible refine (K10.out _).mono ?_); rintro e wc ⟨rfl, hbc⟩; have W1 := bl_trans W0 hbc; clear W0 hbc; have W0 := W1; clear W1)
    | fail)
  refine nw _ fun y4 hy => ?_
  have PB : Hid (Bx 40 y4 wc.heap.size [.int .i64 jh, .int .u64 jl, .int .i64 e1]) := by rw [hy]; exact Bx.new _ _ _
  have Zy4 : Hid (Below y3.heap.size y3 y4) := by rw [hy]; exact bl_al W0 _
  have JB' := Lib.hid (JB.out.below Zy4.out)
  have KB' := Lib.hid (KB.out.below Zy4.out)
  clear hy W0 JB KB K8 K9 K10
  generalize wc.heap.size = NPB at *
  have JB := JB'; clear JB'
  have KB := KB'; clear KB'
  have W0 := Below.refl y4.heap.size y4
  go_upto_region 8 with (first
    | (go_at_call 16; (with_reducible refine (K11.out _).mono ?_); rintro e wc ⟨rfl, hbc⟩; have W1 := bl_trans W0 hbc; clear W0 hbc; have W0 := W1; clear W1)
    | (go_at_call 16; (with_reducible refine (K12.out _).mono ?_); rintro e wc ⟨rfl, hbc⟩; have W1 := bl_trans W0 hbc; clear W0 hbc; have W0 := W1; clear W1)
    | (go_at_call 17; (with_reducible refine (K13.out _).mono ?_); rintro e wc ⟨rfl, hbc⟩; have W1 := bl_trans W0 hbc; clear W0 hbc; have W0 := W1; clear W1)
    | fail)
  refine nw _ fun y5 hy => ?_
  have QB : Hid (Bx 40 y5 wc.heap.size [.int .i64 kh, .int .u64 kl, .int .i64 e2]) := by rw [hy]; exact Bx.new _ _ _
  have Zy5 : Hid (Below y4.heap.size y4 y5) := by rw [hy]; exact bl_al W0 _
  have JB' := Lib.hid (JB.out.below Zy5.out)
  have KB' := Lib.hid (KB.out.below Zy5.out)
  have PB' := Lib.hid (PB.out.below Zy5.out)
  clear hy W0 JB KB PB K11 K12 K13
  generalize wc.heap.size = NQB at *
  have JB := JB'; clear JB'
  have KB := KB'; clear KB'
  have PB := PB'; clear PB'
  have HF := Lib.hid (bl_trans (bl_trans HB.out Zy4.out) Zy5.out)
  clear HB Zy4 Zy5
  have j0 := stays (JB.out.cell (j := 0) rfl) JB.out.lt; have k0 := stays (KB.out.cell (j := 0) rfl) KB.out.lt; have j1 := stays (JB.out.cell (j := 1) rfl) JB.out.lt; have k1 := stays (KB.out.cell (j := 1) rfl) KB.out.lt; have j2 := stays (JB.out.cell (j := 2) rfl) JB.out.lt; have k2 := stays (KB.out.cell (j := 2) rfl) KB.out.lt; have j3 := stays (JB.out.cell (j := 3) rfl) JB.out.lt; have k3 := stays (KB.out.cell (j := 3) rfl) KB.out.lt
  have p0 := stays (PB.out.cell (j := 0) rfl) PB.out.lt; have q0 := stays (QB.out.cell (j := 0) rfl) QB.out.lt; have p1 := stays (PB.out.cell (j := 1) rfl) PB.out.lt; have q1 := stays (QB.out.cell (j := 1) rfl) QB.out.lt; have p2 := stays (PB.out.cell (j := 2) rfl) PB.out.lt; have q2 := stays (QB.out.cell (j := 2) rfl) QB.out.lt
  clear JB KB PB QB
  have W0 := Below.refl y5.heap.size y5
  go_wp2_with (first
    | (go_at_call 13; (with_reducible refine (K14.out _).mono ?_); rintro e wc ⟨rfl, hbc⟩; have W1 := bl_trans W0 hbc; clear W0 hbc; have W0 := W1; clear W1)
    | (go_at_call 10; (with_reducible refine (K15.out _).mono ?_); rintro e wc ⟨rfl, hbc⟩; have W1 := bl_trans W0 hbc; clear W0 hbc; have W0 := W1; clear W1)
    | fail)
  go_returns
  exact ⟨rfl, bl_trans HF.out W0⟩
end Go.Proofs.Ytmmlekgojblopaa
