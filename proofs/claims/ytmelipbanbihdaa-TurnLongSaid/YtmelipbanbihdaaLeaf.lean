/- The leaves: what each small function of the package comes to. -/
import Derived.Test.YtmelipbanbihdaaRows
import Derived.Test.YtmelipbanbihdaaNum
import Derived.WalkKit
import Derived.WalkSpells
import Derived.WalkLawsBesides
import Derived.Lib.Hide
import Derived.Deep.RegionWith
import Derived.Deep.QuietTactic
import Derived.BigQuiet
import Derived.StillTailTactics
import Derived.Deep.RegionHeld3
namespace Go.Proofs.Ytmelipbanbihdaa
open Go.RowKit

theorem ret_int {k : IntKind} {a b : Int} (h : a = b) : Ending.returned (.int k a) = .returned (.int k b) := by rw [h]
theorem ret_two {k : IntKind} {a b a' b' : Int} (h : a = a') (g : b = b') : Ending.returned (.tuple #[.int k a, .int k b]) = .returned (.tuple #[.int k a', .int k b']) := by rw [h, g]
theorem ret_bool {a b : Bool} (h : a = b) : Ending.returned (.bool a) = .returned (.bool b) := by rw [h]
theorem bcell {W w1 : World} (hb : Below W.heap.size W w1) : (∀ b o, b < W.heap.size → w1.cell? ⟨b, o, none⟩ = W.cell? ⟨b, o, none⟩) ∧ (∀ b o, b < W.heap.size → w1.frozen? ⟨b, o, none⟩ = W.frozen? ⟨b, o, none⟩) :=
  ⟨fun b o h => hb.cell (p := ⟨b, o, none⟩) h, fun b o h => hb.frozen (p := ⟨b, o, none⟩) h⟩

theorem bl_al {a w : World} (h : Below a.heap.size a w) (o : Obj) : Below a.heap.size a (w.alloc o) := Below.alloc h h.size o
theorem bl_size {a w : World} (h : Below a.heap.size a w) : a.heap.size ≤ w.heap.size := h.size
theorem bl_trans {a w w' : World} (h : Below a.heap.size a w) (g : Below w.heap.size w w') : Below a.heap.size a w' := h.trans (g.mono h.size)

theorem addWord_any (a b c : Int) (ha : Wd a) (hb : Wd b) (h0 : 0 ≤ c) (h1 : c ≤ 1) (w : World) :
    Calls Try.prog 72 #[.int .u64 a, .int .u64 b, .int .u64 c] w fun e w' => e = .returned (.tuple #[.int .u64 ((a + b + c) % 18446744073709551616), .int .u64 ((a + b + c) / 18446744073709551616)]) ∧ w = w' := by
  have e1 := carry_of ha hb h0 h1
  have e2 : IntKind.u64.wrap (IntKind.u64.wrap (a + b) + c) = (a + b + c) % 18446744073709551616 := by rw [wrap_u64, wrap_u64]; omega
  have E1 := Lib.hid e1
  have E2 := Lib.hid e2
  clear e1 e2
  go_enter Try.func72, Try.ntmps72
  go_wp2
  go_ret2
  refine ⟨ret_two E2.out (Eq.trans ?_ E1.out), rfl⟩
  rw [E2.out]
theorem borrow_of {a b c : Int} (ha : Wd a) (hb : Wd b) (h0 : 0 ≤ c) (h1 : c ≤ 1) :
    bits .or .u64 (bits .and .u64 (bits .xor .u64 IntKind.u64.max a) b) (bits .and .u64 (bits .xor .u64 IntKind.u64.max (bits .xor .u64 a b)) ((a - b - c) % 18446744073709551616)) / 9223372036854775808 = -((a - b - c) / 18446744073709551616) := by
  have hs : Wd ((a - b - c) % 18446744073709551616) := ⟨by omega, by omega⟩
  have hm : Wd IntKind.u64.max := ⟨by decide, by decide⟩
  have hk : (9223372036854775808 : Int) ≤ IntKind.u64.max := by decide
  rw [top_of (bits_wd _ _ _), ofInt_or, ofInt_and, ofInt_and, ofInt_xor, ofInt_xor, ofInt_xor]
  simp only [BitVec.msb_or, BitVec.msb_and, BitVec.msb_xor, msb_of ha, msb_of hb, msb_of hs, msb_of hm, hk, decide_true]
  obtain ⟨_, _⟩ := ha; obtain ⟨_, _⟩ := hb
  by_cases k1 : 9223372036854775808 ≤ a <;> by_cases k2 : 9223372036854775808 ≤ b <;> by_cases k3 : 9223372036854775808 ≤ (a - b - c) % 18446744073709551616 <;> simp [k1, k2, k3] <;> omega
theorem subWord_any (a b c : Int) (ha : Wd a) (hb : Wd b) (h0 : 0 ≤ c) (h1 : c ≤ 1) (w : World) :
    Calls Try.prog 73 #[.int .u64 a, .int .u64 b, .int .u64 c] w fun e w' => e = .returned (.tuple #[.int .u64 ((a - b - c) % 18446744073709551616), .int .u64 (-((a - b - c) / 18446744073709551616))]) ∧ w = w' := by
  have e1 := borrow_of ha hb h0 h1
  have e2 : IntKind.u64.wrap (IntKind.u64.wrap (a - b) - c) = (a - b - c) % 18446744073709551616 := by rw [wrap_u64, wrap_u64]; omega
  have E1 := Lib.hid e1
  have E2 := Lib.hid e2
  clear e1 e2
  have hs : ¬ IntKind.u64.signed = true := by decide
  go_enter Try.func73, Try.ntmps73
  go_wp2
  go_ret2
  refine ⟨ret_two E2.out (Eq.trans ?_ E1.out), rfl⟩
  rw [E2.out]
theorem split_any (a : Int) (ha : Wd a) (w : World) :
    Calls Try.prog 83 #[.int .u64 a] w fun e w' => e = .returned (.tuple #[.int .u32 (a % 4294967296), .int .u32 (a / 4294967296)]) ∧ w = w' := by
  obtain ⟨h0, h1⟩ := ha
  go_enter Try.func83, Try.ntmps83
  go_wp2
  go_ret2
  exact ⟨ret_two rfl rfl, rfl⟩
theorem join_any (lo hi : Int) (h0 : Hf lo) (h1 : Hf hi) (w : World) :
    Calls Try.prog 94 #[.int .u32 lo, .int .u32 hi] w fun e w' => e = .returned (.int .u64 (hi * 4294967296 + lo)) ∧ w = w' := by
  obtain ⟨a0, a1⟩ := h0; obtain ⟨b0, b1⟩ := h1
  have E : Hid (bits .or .u64 (hi * 4294967296) lo = hi * 4294967296 + lo) :=
    bits_join .u64 64 (by decide) (fun n h0 h1 => IntWalk.u64_in n (by omega)) 32 _ _ (by omega) (by omega) (by omega) (by omega) (by omega) (by omega)
  go_enter Try.func94, Try.ntmps94
  go_wp2
  go_ret
  exact ⟨ret_int E.out, rfl⟩
theorem u32_and1 (x : Int) (h₀ : 0 ≤ x) (h₁ : x < 4294967296) : bits .and .u32 x 1 = x % 2 := bits_mask .u32 32 (by decide) (fun n h0 h1 => IntWalk.u32_in n (by omega)) 1 (by decide) x h₀ h₁
theorem subHalf_any (a b c : Int) (ha : Hf a) (hb : Hf b) (h0 : 0 ≤ c) (h1 : c ≤ 1) (w : World) :
    Calls Try.prog 96 #[.int .u32 a, .int .u32 b, .int .u32 c] w fun e w' => e = .returned (.tuple #[.int .u32 ((a - b - c) % 4294967296), .int .u32 (-((a - b - c) / 4294967296))]) ∧ w = w' := by
  obtain ⟨a0, a1⟩ := ha; obtain ⟨b0, b1⟩ := hb
  have E1 : Hid (IntKind.u64.wrap (IntKind.u64.wrap (a - b) - c) % 4294967296 = (a - b - c) % 4294967296) := by
    show _ = _; rw [wrap_u64, wrap_u64]; omega
  have E2 : Hid (bits .and .u32 (IntKind.u64.wrap (IntKind.u64.wrap (a - b) - c) / 4294967296) 1 = -((a - b - c) / 4294967296)) := by
    show _ = _; rw [wrap_u64, wrap_u64, u32_and1 _ (by omega) (by omega)]; omega
  go_enter Try.func96, Try.ntmps96
  go_wp2_with (go_at_call 83; refine (split_any _ (by rw [wrap_u64]; exact ⟨by omega, by omega⟩) _).mono ?_; rintro e w' ⟨rfl, rfl⟩)
  go_ret2
  exact ⟨ret_two E1.out E2.out, rfl⟩
theorem halves_any (a b : Int) (ha : Wd a) (hb : Wd b) (w : World) :
    Calls Try.prog 82 #[.agg #[.int .u64 a, .int .u64 b]] w fun e w' => e = .returned (.agg #[.int .u32 (b % 4294967296), .int .u32 (b / 4294967296), .int .u32 (a % 4294967296), .int .u32 (a / 4294967296)]) ∧ Below w.heap.size w w' := by
  go_enter Try.func82, Try.ntmps82
  go_wp2_with (go_at_call 83; refine (split_any _ (by assumption) _).mono ?_; rintro e w' ⟨rfl, rfl⟩)
  simp [bodyPost, results, Try.results82, go_sem]
  exact bl_al (bl_al (Below.refl _ _) _) _
theorem twoOf_any (a b c d : Int) (ha : Hf a) (hb : Hf b) (hc : Hf c) (hd : Hf d) (w : World) :
    Calls Try.prog 88 #[.agg #[.int .u32 a, .int .u32 b, .int .u32 c, .int .u32 d]] w fun e w' => e = .returned (.agg #[.int .u64 (d * 4294967296 + c), .int .u64 (b * 4294967296 + a)]) ∧ Below w.heap.size w w' := by
  go_enter Try.func88, Try.ntmps88
  go_wp2
  go_region_held3 (fun w' => w'.cell? ⟨w.heap.size, 0, none⟩ = some (.int .u32 a) ∧ w'.cell? ⟨w.heap.size, 1, none⟩ = some (.int .u32 b) ∧ w'.cell? ⟨w.heap.size, 2, none⟩ = some (.int .u32 c) ∧ w'.cell? ⟨w.heap.size, 3, none⟩ = some (.int .u32 d)) (simp [go_sem, World.cell?_alloc_past])
    (first
      | (go_at_call 94; refine (join_any _ _ (by assumption) (by assumption) _).mono ?_; rintro e w' ⟨rfl, rfl⟩))
  rename_i hHeld
  clear hHeld
  go_wp2
  simp [bodyPost, results, Try.results88, go_sem]
  exact (bl_al (bl_al (Below.refl _ _) _) _).drew
theorem words_any (a b c d : Int) (w : World) :
    Calls Try.prog 80 #[.agg #[.int .u64 a, .int .u64 b, .int .u64 c, .int .u64 d]] w fun e w' => e = .returned (.agg #[.int .u64 d, .int .u64 c, .int .u64 b, .int .u64 a]) ∧ Below w.heap.size w w' := by
  go_enter Try.func80, Try.ntmps80
  go_wp2
  simp [bodyPost, results, Try.results80, go_sem]
  exact bl_al (bl_al (Below.refl _ _) _) _
theorem fourOfWords_any (a b c d : Int) (w : World) :
    Calls Try.prog 81 #[.agg #[.int .u64 d, .int .u64 c, .int .u64 b, .int .u64 a]] w fun e w' => e = .returned (.agg #[.int .u64 a, .int .u64 b, .int .u64 c, .int .u64 d]) ∧ Below w.heap.size w w' := by
  go_enter Try.func81, Try.ntmps81
  go_wp2
  simp [bodyPost, results, Try.results81, go_sem]
  exact bl_al (bl_al (Below.refl _ _) _) _
set_option maxHeartbeats 400000 in
theorem fourOf_any (a b c d a' b' c' d' : Int) (ha : Hf a) (hb : Hf b) (hc : Hf c) (hd : Hf d) (ha' : Hf a') (hb' : Hf b') (hc' : Hf c') (hd' : Hf d') (w : World) :
    Calls Try.prog 84 #[.agg #[.int .u32 a, .int .u32 b, .int .u32 c, .int .u32 d, .int .u32 a', .int .u32 b', .int .u32 c', .int .u32 d']] w fun e w' => e = .returned (.agg #[.int .u64 (d' * 4294967296 + c'), .int .u64 (b' * 4294967296 + a'), .int .u64 (d * 4294967296 + c), .int .u64 (b * 4294967296 + a)]) ∧ Below w.heap.size w w' := by
  go_enter Try.func84, Try.ntmps84
  go_wp2
  go_region_held3 (fun w' => w'.cell? ⟨w.heap.size, 0, none⟩ = some (.int .u32 a) ∧ w'.cell? ⟨w.heap.size, 1, none⟩ = some (.int .u32 b) ∧ w'.cell? ⟨w.heap.size, 2, none⟩ = some (.int .u32 c) ∧ w'.cell? ⟨w.heap.size, 3, none⟩ = some (.int .u32 d) ∧ w'.cell? ⟨w.heap.size, 4, none⟩ = some (.int .u32 a') ∧ w'.cell? ⟨w.heap.size, 5, none⟩ = some (.int .u32 b') ∧ w'.cell? ⟨w.heap.size, 6, none⟩ = some (.int .u32 c') ∧ w'.cell? ⟨w.heap.size, 7, none⟩ = some (.int .u32 d')) (simp [*, go_sem, World.cell?_alloc_past])
    (first
      | (go_at_call 88; refine (twoOf_any _ _ _ _ (by assumption) (by assumption) (by assumption) (by assumption) _).mono ?_; rintro e w' ⟨rfl, hb⟩; obtain ⟨hcl, hfr⟩ := bcell hb; have hz2 : w.heap.size + 1 < w'.heap.size := (by have hz := hb.size; first | (simp at hz; omega) | omega); have hz1 : w.heap.size < w'.heap.size := (by omega); have HB : Hid (Below w.heap.size w w') := (bl_trans (by repeat (first | exact Below.refl _ _ | exact Hid.out (by assumption) | with_reducible refine bl_al ?_ _ | with_reducible apply Below.drew)) hb); clear hb))
  rename_i hHeld
  clear hHeld
  go_wp2
  simp [bodyPost, results, Try.results84, go_sem, *]
  refine Below.setCell (Below.setCell (Below.setCell (Below.setCell HB.out ?_ _) ?_ _) ?_ _) ?_ _ <;> simp
set_option maxHeartbeats 400000 in
theorem lenWord_any (a : Int) (ha : Wd a) (w : World) :
    Calls Try.prog 85 #[.int .u64 a] w fun e w' => e = .returned (.int .i64 ((blen a.toNat : Nat) : Int)) ∧ w = w' := by
  have hst := LW_start ha
  go_enter Try.func85, Try.ntmps85
  go_wp2
  go_loop [0, 3, 4] (fun x n s => ∃ W N S : Int, x = .int .u64 W ∧ n = .int .i64 N ∧ s = .int .i64 S ∧ LW a W N S) (fun _ _ s => (intOf s).toNat)
  case atStart => exact ⟨a, 0, 32, rfl, rfl, rfl, hst⟩
  case round =>
    obtain ⟨W, N, S, rfl, rfl, rfl, hlw⟩ := hrel
    have h0 := hlw.1
    have h1 := hlw.2.1
    have h2 := hlw.2.2.1
    have h7 := hlw.2.2.2.2.2.2
    clear hst
    rcases h7 with rfl | rfl | rfl | rfl | rfl | rfl | rfl
    · by_cases hz : W / 4294967296 = 0
      · go_wp2
        exact ⟨⟨W, N, 16, rfl, rfl, rfl, LW_keep hlw (by decide) hz⟩, by decide⟩
      · go_wp2
        exact ⟨⟨W / 4294967296, N + 32, 16, rfl, rfl, rfl, LW_move hlw (by decide) hz⟩, by decide⟩
    · by_cases hz : W / 65536 = 0
      · go_wp2
        exact ⟨⟨W, N, 8, rfl, rfl, rfl, LW_keep hlw (by decide) hz⟩, by decide⟩
      · go_wp2
        exact ⟨⟨W / 65536, N + 16, 8, rfl, rfl, rfl, LW_move hlw (by decide) hz⟩, by decide⟩
    · by_cases hz : W / 256 = 0
      · go_wp2
        exact ⟨⟨W, N, 4, rfl, rfl, rfl, LW_keep hlw (by decide) hz⟩, by decide⟩
      · go_wp2
        exact ⟨⟨W / 256, N + 8, 4, rfl, rfl, rfl, LW_move hlw (by decide) hz⟩, by decide⟩
    · by_cases hz : W / 16 = 0
      · go_wp2
        exact ⟨⟨W, N, 2, rfl, rfl, rfl, LW_keep hlw (by decide) hz⟩, by decide⟩
      · go_wp2
        exact ⟨⟨W / 16, N + 4, 2, rfl, rfl, rfl, LW_move hlw (by decide) hz⟩, by decide⟩
    · by_cases hz : W / 4 = 0
      · go_wp2
        exact ⟨⟨W, N, 1, rfl, rfl, rfl, LW_keep hlw (by decide) hz⟩, by decide⟩
      · go_wp2
        exact ⟨⟨W / 4, N + 2, 1, rfl, rfl, rfl, LW_move hlw (by decide) hz⟩, by decide⟩
    · by_cases hz : W / 2 = 0
      · go_wp2
        exact ⟨⟨W, N, 0, rfl, rfl, rfl, LW_keep hlw (by decide) hz⟩, by decide⟩
      · go_wp2
        exact ⟨⟨W / 2, N + 1, 0, rfl, rfl, rfl, LW_move hlw (by decide) hz⟩, by decide⟩
    · have h3 : W < 2 := hlw.2.2.2.2.2.1
      have he := Lib.hid (LW_end ha hlw)
      go_wp2
      go_ret
      exact ⟨ret_int he.out, rfl⟩
end Go.Proofs.Ytmelipbanbihdaa
