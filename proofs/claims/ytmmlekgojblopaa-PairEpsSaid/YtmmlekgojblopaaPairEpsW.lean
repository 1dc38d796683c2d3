/- PairEps, as a walk. -/
import Derived.Test.YtmmlekgojblopaaPairLaw
import Derived.Test.YtmmlekgojblopaaZzFixA
namespace Go.Proofs.Ytmmlekgojblopaa
open Go.RowKit
set_option maxRecDepth 20000 in
set_option maxHeartbeats 8000000 in
theorem pairEps_core (m n far a b lo hi oh ol dh dl mh ml nh nl lh ll th tl jh jl kh kl c1 c2 : Int) (hm : 0 ≤ m ∧ m < 256) (hn : 0 ≤ n ∧ n < 256) (hf : 0 ≤ far ∧ far < 256) (ha : 0 ≤ a ∧ a < 256) (hb : 0 ≤ b ∧ b < 256) (e1 : (if b < a then b else a) = lo) (e2 : (if a < b then b else a) = hi) (h1 : 0 ≤ c1) (h2 : c2 ≤ 0) (w : World)
    (C1 : Ct 16 #[.int .i64 1] (.agg #[.int .i64 oh, .int .u64 ol]))
    (C2 : Ct 16 #[.int .i64 (1 + far)] (.agg #[.int .i64 dh, .int .u64 dl]))
    (C3 : Ct 16 #[.int .i64 (1 + m)] (.agg #[.int .i64 mh, .int .u64 ml]))
    (C4 : Ct 16 #[.int .i64 (1 + n)] (.agg #[.int .i64 nh, .int .u64 nl]))
    (C5 : Ct 16 #[.int .i64 lo] (.agg #[.int .i64 lh, .int .u64 ll]))
    (C6 : Ct 16 #[.int .i64 hi] (.agg #[.int .i64 th, .int .u64 tl]))
    (C7 : Ct 11 #[.agg #[.int .i64 oh, .int .u64 ol], .agg #[.int .i64 mh, .int .u64 ml], .agg #[.int .i64 nh, .int .u64 nl], .agg #[.int .i64 dh, .int .u64 dl, .int .i64 0, .int .u64 0], .agg #[.int .i64 lh, .int .u64 ll], .agg #[.int .i64 oh, .int .u64 ol]] (.tuple #[.agg #[.int .i64 jh, .int .u64 jl, .int .i64 0, .int .u64 0], .int .i64 0]))
    (C8 : Ct 11 #[.agg #[.int .i64 oh, .int .u64 ol], .agg #[.int .i64 mh, .int .u64 ml], .agg #[.int .i64 nh, .int .u64 nl], .agg #[.int .i64 dh, .int .u64 dl, .int .i64 0, .int .u64 0], .agg #[.int .i64 th, .int .u64 tl], .agg #[.int .i64 oh, .int .u64 ol]] (.tuple #[.agg #[.int .i64 kh, .int .u64 kl, .int .i64 0, .int .u64 0], .int .i64 0]))
    (C9 : Ct 13 #[.int .i64 0] (.int .i64 0))
    (C10 : Ct 18 #[.agg #[.int .i64 jh, .int .u64 jl], .agg #[.int .i64 0, .int .u64 0]] (.int .i64 c1))
    (C11 : Ct 18 #[.agg #[.int .i64 kh, .int .u64 kl], .agg #[.int .i64 jh, .int .u64 jl]] (.int .i64 c2))
    (C12 : Ct 10 #[] (.bool true)) :
    Calls Try.prog 7 #[.int .u8 m, .int .u8 n, .int .u8 far, .int .u8 a, .int .u8 b] w fun e w' => e = .returned (.bool true) ∧ Below w.heap.size w w' := by
  have K1 := Lib.hid C1; have K2 := Lib.hid C2; have K3 := Lib.hid C3; have K4 := Lib.hid C4; have K5 := Lib.hid C5; have K6 := Lib.hid C6; have K7 := Lib.hid C7; have K8 := Lib.hid C8; have K9 := Lib.hid C9; have K10 := Lib.hid C10; have K11 := Lib.hid C11; have K12 := Lib.hid C12
  clear C1 C2 C3 C4 C5 C6 C7 C8 C9 C10 C11 C12
  go_enter Try.func7, Try.ntmps7
  have w1 : IntKind.i64.wrap m = m := by rw [IntWalk.i64_in _ (by omega)]
  have w2 : IntKind.i64.wrap n = n := by rw [IntWalk.i64_in _ (by omega)]
  have w3 : IntKind.i64.wrap far = far := by rw [IntWalk.i64_in _ (by omega)]
  have w4 : IntKind.i64.wrap (1 + m) = 1 + m := by rw [IntWalk.i64_in _ (by omega)]
  have w5 : IntKind.i64.wrap (1 + n) = 1 + n := by rw [IntWalk.i64_in _ (by omega)]
  have w6 : IntKind.i64.wrap (1 + far) = 1 + far := by rw [IntWalk.i64_in _ (by omega)]
  have hlo : 0 ≤ lo ∧ lo < 256 := by rw [← e1]; split <;> omega
  have hhi : 0 ≤ hi ∧ hi < 256 := by rw [← e2]; split <;> omega
  have w7 : IntKind.i64.wrap lo = lo := by rw [IntWalk.i64_in _ (by omega)]
  have w8 : IntKind.i64.wrap hi = hi := by rw [IntWalk.i64_in _ (by omega)]
  have h3 : ¬ c1 < 0 := by omega
  have h4 : ¬ 0 < c2 := by omega
  have ef := eq_fix_true 0 0
  go_upto_region 2 with (first | (go_at_call 16; (with_reducible refine (K1.out _).mono ?_); rintro e u1 ⟨rfl, hb⟩) | fail)
  refine nw _ fun y1 hy => ?_
  have OB : Hid (Bx 24 y1 u1.heap.size [.int .i64 oh, .int .u64 ol]) := by rw [hy]; exact Bx.new _ _ _
  have Zy1 : Hid (Below w.heap.size w y1) := by rw [hy]; exact bl_al hb _
  clear hy hb   K1
  generalize u1.heap.size = NOB at *
  go_upto_region 3 with (first | (go_at_call 16; (with_reducible refine (K2.out _).mono ?_); rintro e u2 ⟨rfl, hb⟩) | fail)
  refine nw _ fun y2 hy => ?_
  have DB : Hid (Bx 26 y2 u2.heap.size [.int .i64 dh, .int .u64 dl, .int .i64 0, .int .u64 0]) := by rw [hy]; exact Bx.new _ _ _
  have Zy2 : Hid (Below y1.heap.size y1 y2) := by rw [hy]; exact bl_al hb _
  have OB' := Lib.hid (OB.out.below Zy2.out)
  clear hy hb OB  K2
  generalize u2.heap.size = NDB at *
  have OB := OB'; clear OB'
  have HB := Lib.hid (bl_trans Zy1.out Zy2.out)
  clear Zy1 Zy2
  have o0 := OB.out.cell (j := 0) rfl; have o1 := OB.out.cell (j := 1) rfl; have d0 := DB.out.cell (j := 0) rfl; have d1 := DB.out.cell (j := 1) rfl; have d2 := DB.out.cell (j := 2) rfl; have d3 := DB.out.cell (j := 3) rfl
  clear OB DB
  have qo0 := stays o0 (World.block_lt_of_cell? _ _ o0); have qo1 := stays o1 (World.block_lt_of_cell? _ _ o1); have qd0 := stays d0 (World.block_lt_of_cell? _ _ d0); have qd1 := stays d1 (World.block_lt_of_cell? _ _ d1); have qd2 := stays d2 (World.block_lt_of_cell? _ _ d2); have qd3 := stays d3 (World.block_lt_of_cell? _ _ d3)
  clear o0 o1 d0 d1 d2 d3
  go_cut [13, 14] (fun s0 s1 wz => (∃ g, s0 = .pointer (some ⟨g, 0, none⟩) ∧ Bx 26 wz g [.int .i64 jh, .int .u64 jl, .int .i64 0, .int .u64 0]) ∧ s1 = .int .i64 0 ∧ Below y2.heap.size y2 wz)
  case first =>
    go_region_held3 (fun w' => Below y2.heap.size y2 w') (exact bs) (first
      | (go_at_call 16; (with_reducible refine (K3.out _).mono ?_); rintro e v0 ⟨rfl, hb0⟩; obtain ⟨hc0, hf0⟩ := bcell hb0; have s0 : y2.heap.size ≤ v0.heap.size := (by have q := hb0.size; (try simp at q); omega); (try have z0 : y2.heap.size < v0.heap.size := by have q := hb0.size; (try simp at q); omega))
      | (go_at_call 16; (with_reducible refine (K4.out _).mono ?_); rintro e v1 ⟨rfl, hb1⟩; obtain ⟨hc1, hf1⟩ := bcell hb1; have s1 : y2.heap.size ≤ v1.heap.size := (by have q := hb1.size; (try simp at q); omega); (try have z1 : y2.heap.size < v1.heap.size := by have q := hb1.size; (try simp at q); omega); (try have z1_0 : v0.heap.size < v1.heap.size := by have q := hb1.size; (try simp at q); omega))
      | (go_at_call 16; (with_reducible refine (K5.out _).mono ?_); rintro e v2 ⟨rfl, hb2⟩; obtain ⟨hc2, hf2⟩ := bcell hb2; have s2 : y2.heap.size ≤ v2.heap.size := (by have q := hb2.size; (try simp at q); omega); (try have z2 : y2.heap.size < v2.heap.size := by have q := hb2.size; (try simp at q); omega); (try have z2_0 : v0.heap.size < v2.heap.size := by have q := hb2.size; (try simp at q); omega); (try have z2_1 : v1.heap.size < v2.heap.size := by have q := hb2.size; (try simp at q); omega))
      | (go_at_call 11; (with_reducible refine (K7.out _).mono ?_); rintro e v3 ⟨rfl, hb3⟩; obtain ⟨hc3, hf3⟩ := bcell hb3; have s3 : y2.heap.size ≤ v3.heap.size := (by have q := hb3.size; (try simp at q); omega); (try have z3 : y2.heap.size < v3.heap.size := by have q := hb3.size; (try simp at q); omega); (try have z3_0 : v0.heap.size < v3.heap.size := by have q := hb3.size; (try simp at q); omega); (try have z3_1 : v1.heap.size < v3.heap.size := by have q := hb3.size; (try simp at q); omega); (try have z3_2 : v2.heap.size < v3.heap.size := by have q := hb3.size; (try simp at q); omega)))
    all_goals (rename_i hHeld; have HH := Lib.hid hHeld; clear hHeld; go_wp2_with fail; go_meet; first
      | (refine ⟨⟨v3.heap.size, rfl, ?_⟩, rfl, HH.out⟩; exact Bx.new _ _ _)
      | (refine ⟨⟨v2.heap.size, rfl, ?_⟩, rfl, HH.out⟩; exact ((((bx_put hb3).put 0 _).put 1 _).put 2 _).put 3 _)
      | (refine ⟨⟨v1.heap.size, rfl, ?_⟩, rfl, HH.out⟩; exact (((((bx_put hb2).below hb3).put 0 _).put 1 _).put 2 _).put 3 _)
      | (refine ⟨⟨v0.heap.size, rfl, ?_⟩, rfl, HH.out⟩; exact ((((((bx_put hb1).below hb2).below hb3).put 0 _).put 1 _).put 2 _).put 3 _)
      | (refine ⟨⟨y2.heap.size, rfl, ?_⟩, rfl, HH.out⟩; exact (((((((bx_putd hb0).below hb1).below hb2).below hb3).put 0 _).put 1 _).put 2 _).put 3 _)
      | (refine ⟨⟨y2.heap.size, rfl, ?_⟩, rfl, HH.out⟩; exact (((((((bx_put hb0).below hb1).below hb2).below hb3).put 0 _).put 1 _).put 2 _).put 3 _))
  case rest =>
  obtain ⟨⟨NJB, rfl, bx⟩, rfl, hb⟩ := hcut
  obtain ⟨y3, hy⟩ : ∃ x : World, x = wc := ⟨wc, rfl⟩
  rw [← hy] at bx hb ⊢
  clear hy
  have JB := Lib.hid bx; have Zy3 := Lib.hid hb
  have o0 := qo0 y3 hb; have o1 := qo1 y3 hb; have d0 := qd0 y3 hb; have d1 := qd1 y3 hb; have d2 := qd2 y3 hb; have d3 := qd3 y3 hb
  clear bx hb qo0 qo1 qd0 qd1 qd2 qd3  K5 K7
  go_upto_region 4 with fail
  have qo0 := stays o0 (World.block_lt_of_cell? _ _ o0); have qo1 := stays o1 (World.block_lt_of_cell? _ _ o1); have qd0 := stays d0 (World.block_lt_of_cell? _ _ d0); have qd1 := stays d1 (World.block_lt_of_cell? _ _ d1); have qd2 := stays d2 (World.block_lt_of_cell? _ _ d2); have qd3 := stays d3 (World.block_lt_of_cell? _ _ d3)
  clear o0 o1 d0 d1 d2 d3
  go_cut [15, 16] (fun s0 s1 wz => (∃ g, s0 = .pointer (some ⟨g, 0, none⟩) ∧ Bx 26 wz g [.int .i64 kh, .int .u64 kl, .int .i64 0, .int .u64 0]) ∧ s1 = .int .i64 0 ∧ Below y3.heap.size y3 wz)
  case first =>
    clear JB
    go_region_held3 (fun w' => Below y3.heap.size y3 w') (exact bs) (first
      | (go_at_call 16; (with_reducible refine (K3.out _).mono ?_); rintro e v0 ⟨rfl, hb0⟩; obtain ⟨hc0, hf0⟩ := bcell hb0; have s0 : y3.heap.size ≤ v0.heap.size := (by have q := hb0.size; (try simp at q); omega); (try have z0 : y3.heap.size < v0.heap.size := by have q := hb0.size; (try simp at q); omega))
      | (go_at_call 16; (with_reducible refine (K4.out _).mono ?_); rintro e v1 ⟨rfl, hb1⟩; obtain ⟨hc1, hf1⟩ := bcell hb1; have s1 : y3.heap.size ≤ v1.heap.size := (by have q := hb1.size; (try simp at q); omega); (try have z1 : y3.heap.size < v1.heap.size := by have q := hb1.size; (try simp at q); omega); (try have z1_0 : v0.heap.size < v1.heap.size := by have q := hb1.size; (try simp at q); omega))
      | (go_at_call 16; (with_reducible refine (K6.out _).mono ?_); rintro e v2 ⟨rfl, hb2⟩; obtain ⟨hc2, hf2⟩ := bcell hb2; have s2 : y3.heap.size ≤ v2.heap.size := (by have q := hb2.size; (try simp at q); omega); (try have z2 : y3.heap.size < v2.heap.size := by have q := hb2.size; (try simp at q); omega); (try have z2_0 : v0.heap.size < v2.heap.size := by have q := hb2.size; (try simp at q); omega); (try have z2_1 : v1.heap.size < v2.heap.size := by have q := hb2.size; (try simp at q); omega))
      | (go_at_call 11; (with_reducible refine (K8.out _).mono ?_); rintro e v3 ⟨rfl, hb3⟩; obtain ⟨hc3, hf3⟩ := bcell hb3; have s3 : y3.heap.size ≤ v3.heap.size := (by have q := hb3.size; (try simp at q); omega); (try have z3 : y3.heap.size < v3.heap.size := by have q := hb3.size; (try simp at q); omega); (try have z3_0 : v0.heap.size < v3.heap.size := by have q := hb3.size; (try simp at q); omega); (try have z3_1 : v1.heap.size < v3.heap.size := by have q := hb3.size; (try simp at q); omega); (try have z3_2 : v2.heap.size < v3.heap.size := by have q := hb3.size; (try simp at q); omega)))
    all_goals (rename_i hHeld; have HH := Lib.hid hHeld; clear hHeld; go_wp2_with fail; go_meet; first
      | (refine ⟨⟨v3.heap.size, rfl, ?_⟩, rfl, HH.out⟩; exact Bx.new _ _ _)
      | (refine ⟨⟨v2.heap.size, rfl, ?_⟩, rfl, HH.out⟩; exact ((((bx_put hb3).put 0 _).put 1 _).put 2 _).put 3 _)
      | (refine ⟨⟨v1.heap.size, rfl, ?_⟩, rfl, HH.out⟩; exact (((((bx_put hb2).below hb3).put 0 _).put 1 _).put 2 _).put 3 _)
      | (refine ⟨⟨v0.heap.size, rfl, ?_⟩, rfl, HH.out⟩; exact ((((((bx_put hb1).below hb2).below hb3).put 0 _).put 1 _).put 2 _).put 3 _)
      | (refine ⟨⟨y3.heap.size, rfl, ?_⟩, rfl, HH.out⟩; exact (((((((bx_putd hb0).below hb1).below hb2).below hb3).put 0 _).put 1 _).put 2 _).put 3 _)
      | (refine ⟨⟨y3.heap.size, rfl, ?_⟩, rfl, HH.out⟩; exact (((((((bx_put hb0).below hb1).below hb2).below hb3).put 0 _).put 1 _).put 2 _).put 3 _))
  case rest =>
  obtain ⟨⟨NKB, rfl, bx⟩, rfl, hb⟩ := hcut
  obtain ⟨y4, hy⟩ : ∃ x : World, x = wc := ⟨wc, rfl⟩
  rw [← hy] at bx hb ⊢
  clear hy
  have KB := Lib.hid bx; have Zy4 := Lib.hid hb
  have o0 := qo0 y4 hb; have o1 := qo1 y4 hb; have d0 := qd0 y4 hb; have d1 := qd1 y4 hb; have d2 := qd2 y4 hb; have d3 := qd3 y4 hb
  have JB' := Lib.hid (JB.out.below hb)
  clear bx hb qo0 qo1 qd0 qd1 qd2 qd3 JB K3 K4 K6 K8
  have JB := JB'; clear JB'
  go_upto_region 5 with fail
  have HF := Lib.hid (bl_trans (bl_trans HB.out Zy3.out) Zy4.out)
  clear HB Zy3 Zy4 o0 o1 d0 d1 d2 d3
  have j0 := stays (JB.out.cell (j := 0) rfl) JB.out.lt; have k0 := stays (KB.out.cell (j := 0) rfl) KB.out.lt; have j1 := stays (JB.out.cell (j := 1) rfl) JB.out.lt; have k1 := stays (KB.out.cell (j := 1) rfl) KB.out.lt; have j2 := stays (JB.out.cell (j := 2) rfl) JB.out.lt; have k2 := stays (KB.out.cell (j := 2) rfl) KB.out.lt; have j3 := stays (JB.out.cell (j := 3) rfl) JB.out.lt; have k3 := stays (KB.out.cell (j := 3) rfl) KB.out.lt
  clear JB KB
  have W0 := Below.refl y4.heap.size y4
  go_wp2_with (first
    | (go_at_call 13; (with_reducible refine (K9.out _).mono ?_); rintro e wc ⟨rfl, hbc⟩; have W1 := bl_trans W0 hbc; clear W0 hbc; have W0 := W1; clear W1)
    | (go_at_call 18; (with_reducible refine (K10.out _).mono ?_); rintro e wc ⟨rfl, hbc⟩; have W1 := bl_trans W0 hbc; clear W0 hbc; have W0 := W1; clear W1)
    | (go_at_call 18; (with_reducible refine (K11.out _).mono ?_); rintro e wc ⟨rfl, hbc⟩; have W1 := bl_trans W0 hbc; clear W0 hbc; have W0 := W1; clear W1)
    | (go_at_call 10; (with_reducible refine (K12.out _).mono ?_); rintro e wc ⟨rfl, hbc⟩; have W1 := bl_trans W0 hbc; clear W0 hbc; have W0 := W1; clear W1)
    | fail)
  go_returns
  exact ⟨rfl, bl_trans HF.out W0⟩
end Go.Proofs.Ytmmlekgojblopaa
