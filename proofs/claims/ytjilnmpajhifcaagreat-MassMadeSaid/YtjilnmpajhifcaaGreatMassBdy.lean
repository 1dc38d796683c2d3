/- The law's Body: a body by four bytes. -/
import Derived.Test.YtjilnmpajhifcaaGreatZzMasA
import Derived.Test.YtjilnmpajhifcaaGreatTk
import Derived.Laws.ResultCell
namespace Go.Proofs.YtjilnmpajhifcaaGreat
open Go.RowKit
/-- What stands while a box is filled: all else, the box's cells, what was below. -/
def Fil (R n : Nat) (w wx u : World) : Prop := Kb (fun k => k ≠ R) wx u ∧ u.there R 0 n ∧ Below R w u
theorem Fil.call {R n : Nat} {w wx u v : World} (h : Fil R n w wx u) (hR : R < wx.heap.size) (g : Below u.heap.size u v) : Fil R n w wx v :=
  ⟨h.1.call g, there_below h.2.1 (by have := h.1.1; omega) g, h.2.2.trans (g.mono (by have := h.1.1; omega))⟩
theorem below_setCells {B b : Nat} {w0 : World} (hB : B ≤ b) : ∀ (vs : List Value) (o : Nat) (u : World), Below B w0 u → Below B w0 (u.setCells b o vs) := by
  intro vs
  induction vs with
  | nil => intro o u h; exact h
  | cons v t ih => intro o u h; exact ih _ _ (h.setCell hB v)
theorem Fil.store {R n : Nat} {w wx u : World} (h : Fil R n w wx u) (vs : List Value) : Fil R n w wx (u.setCells R 0 vs) :=
  ⟨h.1.store (by simp) _ _, World.there_setCells h.2.1 _ _ _, below_setCells (Nat.le_refl _) vs 0 u h.2.2⟩
set_option maxRecDepth 20000 in
set_option maxHeartbeats 8000000 in
theorem body_core (a b c d dz : Int) (a0 : 0 ≤ a) (a1 : a < 256) (b0 : 0 ≤ b) (b1 : b < 256) (c0 : 0 ≤ c) (c1 : c < 256) (d0 : 0 ≤ d) (d1 : d < 256) (k1 k0 j1 j0 : Int) (e1 : IntKind.u64.wrap (d * 1152921504606846976) = dz)
    (C1 : Ct 19 #[.int .i64 (1 + c % 9)] (.agg #[.int .i64 k1, .int .u64 k0])) (C2 : Ct 19 #[.int .i64 (b % 4)] (.agg #[.int .i64 j1, .int .u64 j0])) (w : World) :
    Calls Tryz.prog 35 #[.int .u8 a, .int .u8 b, .int .u8 c, .int .u8 d] w fun e w' => e = .returned (.agg #[.int .i64 k1, .int .u64 k0, .int .i64 (d % 3), .int .u64 4611686018427387904, .int .i64 (a - 128), .int .u64 (b * 72057594037927936), .int .i64 (b - 128), .int .u64 (c * 1099511627776), .int .i64 (d % 7 - 3), .int .u64 a, .int .i64 (c % 5 - 2), .int .u64 dz, .int .i64 0, .int .u64 (d * 1125899906842624), .int .i64 0, .int .u64 (a * 1125899906842624), .int .i64 j1, .int .u64 j0, .int .i64 0, .int .i64 (d * 257)]) ∧ Below w.heap.size w w' := by
  have K1 := Lib.hid C1; have K2 := Lib.hid C2
  clear C1 C2
  go_enter Tryz.func35, Tryz.ntmps35
  go_upto_region 2 with fail
  obtain ⟨wx, ewx⟩ : ∃ x, x = (w.alloc (.cells #[.int .i64 0, .int .u64 0, .int .i64 0, .int .u64 0, .int .i64 0, .int .u64 0, .int .i64 0, .int .u64 0, .int .i64 0, .int .u64 0, .int .i64 0, .int .u64 0, .int .i64 0, .int .u64 0, .int .i64 0, .int .u64 0, .int .i64 0, .int .u64 0, .int .i64 0, .int .i64 0] 56)).alloc (.cells #[.int .i64 (a - 128), .int .u64 (b * 72057594037927936), .int .i64 (b - 128), .int .u64 (c * 1099511627776)] 29) := ⟨_, rfl⟩
  have x1 : Bx 56 wx w.heap.size [.int .i64 0, .int .u64 0, .int .i64 0, .int .u64 0, .int .i64 0, .int .u64 0, .int .i64 0, .int .u64 0, .int .i64 0, .int .u64 0, .int .i64 0, .int .u64 0, .int .i64 0, .int .u64 0, .int .i64 0, .int .u64 0, .int .i64 0, .int .u64 0, .int .i64 0, .int .i64 0] := by rw [ewx]; exact (Bx.new _ _ _).alloc _
  have x2 : Bx 29 wx (w.heap.size + 1) [.int .i64 (a - 128), .int .u64 (b * 72057594037927936), .int .i64 (b - 128), .int .u64 (c * 1099511627776)] := by
    rw [ewx]
    have := Bx.new (w.alloc (.cells #[.int .i64 0, .int .u64 0, .int .i64 0, .int .u64 0, .int .i64 0, .int .u64 0, .int .i64 0, .int .u64 0, .int .i64 0, .int .u64 0, .int .i64 0, .int .u64 0, .int .i64 0, .int .u64 0, .int .i64 0, .int .u64 0, .int .i64 0, .int .u64 0, .int .i64 0, .int .i64 0] 56)) 29 #[.int .i64 (a - 128), .int .u64 (b * 72057594037927936), .int .i64 (b - 128), .int .u64 (c * 1099511627776)]
    simpa using this
  have BX : Hid (Below w.heap.size w wx) := by show Below _ _ _; rw [ewx]; exact bl_al (bl_al (Below.refl _ _) _) _
  have hxt : wx.there w.heap.size 0 20 := x1.there
  have hxl := x1.lt; have hxl2 := x2.lt
  have g0 : ∀ w' : World, Fil w.heap.size 20 w wx w' → w'.cell? ⟨w.heap.size + 1, 0, none⟩ = some (.int .i64 (a - 128)) := fun w' h => staysK (P := fun k => k ≠ w.heap.size) (x2.cell (j := 0) rfl) x2.lt (by omega) w' h.1; have g1 : ∀ w' : World, Fil w.heap.size 20 w wx w' → w'.cell? ⟨w.heap.size + 1, 1, none⟩ = some (.int .u64 (b * 72057594037927936)) := fun w' h => staysK (P := fun k => k ≠ w.heap.size) (x2.cell (j := 1) rfl) x2.lt (by omega) w' h.1; have g2 : ∀ w' : World, Fil w.heap.size 20 w wx w' → w'.cell? ⟨w.heap.size + 1, 2, none⟩ = some (.int .i64 (b - 128)) := fun w' h => staysK (P := fun k => k ≠ w.heap.size) (x2.cell (j := 2) rfl) x2.lt (by omega) w' h.1; have g3 : ∀ w' : World, Fil w.heap.size 20 w wx w' → w'.cell? ⟨w.heap.size + 1, 3, none⟩ = some (.int .u64 (c * 1099511627776)) := fun w' h => staysK (P := fun k => k ≠ w.heap.size) (x2.cell (j := 3) rfl) x2.lt (by omega) w' h.1
  have hone : ∀ v ∈ ([.int .i64 k1, .int .u64 k0, .int .i64 (d % 3), .int .u64 4611686018427387904, .int .i64 (a - 128), .int .u64 (b * 72057594037927936), .int .i64 (b - 128), .int .u64 (c * 1099511627776), .int .i64 (d % 7 - 3), .int .u64 a, .int .i64 (c % 5 - 2), .int .u64 dz, .int .i64 0, .int .u64 (d * 1125899906842624), .int .i64 0, .int .u64 (a * 1125899906842624), .int .i64 j1, .int .u64 j0, .int .i64 0, .int .i64 (d * 257)] : List Value), v.oneCell' = true := by
    intro v hv
    simp only [List.mem_cons, List.not_mem_nil, or_false] at hv
    rcases hv with rfl | rfl | rfl | rfl | rfl | rfl | rfl | rfl | rfl | rfl | rfl | rfl | rfl | rfl | rfl | rfl | rfl | rfl | rfl | rfl <;> rfl
  have hsz : (Tryz.prog.info? 56).map (·.size) = some 20 := by kernel_rfl
  rw [← ewx]
  clear ewx x1 x2
  have q0 : IntKind.i64.wrap (a) = a := by rw [IntWalk.i64_in _ (by omega)]
  have q1 : IntKind.u64.wrap (a) = a := by rw [IntWalk.u64_in _ (by omega)]
  have q2 : IntKind.i64.wrap (b) = b := by rw [IntWalk.i64_in _ (by omega)]
  have q3 : IntKind.u64.wrap (b) = b := by rw [IntWalk.u64_in _ (by omega)]
  have q4 : IntKind.i64.wrap (c) = c := by rw [IntWalk.i64_in _ (by omega)]
  have q5 : IntKind.u64.wrap (c) = c := by rw [IntWalk.u64_in _ (by omega)]
  have q6 : IntKind.i64.wrap (d) = d := by rw [IntWalk.i64_in _ (by omega)]
  have q7 : IntKind.u64.wrap (d) = d := by rw [IntWalk.u64_in _ (by omega)]
  have q8 : IntKind.i64.wrap (1 + c % 9) = 1 + c % 9 := by rw [IntWalk.i64_in _ (by omega)]
  have q9 : IntKind.i64.wrap (c % 9) = c % 9 := by rw [IntWalk.i64_in _ (by omega)]
  have q10 : IntKind.i64.wrap (d % 3) = d % 3 := by rw [IntWalk.i64_in _ (by omega)]
  have q11 : IntKind.i64.wrap (d % 7) = d % 7 := by rw [IntWalk.i64_in _ (by omega)]
  have q12 : IntKind.i64.wrap (d % 7 - 3) = d % 7 - 3 := by rw [IntWalk.i64_in _ (by omega)]
  have q13 : IntKind.i64.wrap (c % 5) = c % 5 := by rw [IntWalk.i64_in _ (by omega)]
  have q14 : IntKind.i64.wrap (c % 5 - 2) = c % 5 - 2 := by rw [IntWalk.i64_in _ (by omega)]
  have q15 : IntKind.i64.wrap (b % 4) = b % 4 := by rw [IntWalk.i64_in _ (by omega)]
  have q16 : IntKind.i64.wrap (d * 257) = d * 257 := by rw [IntWalk.i64_in _ (by omega)]
  have q17 : IntKind.u8.wrap (d % 3) = d % 3 := by rw [IntWalk.u8_in _ (by omega)]
  have q18 : IntKind.u8.wrap (d % 7) = d % 7 := by rw [IntWalk.u8_in _ (by omega)]
  have q19 : IntKind.u8.wrap (c % 5) = c % 5 := by rw [IntWalk.u8_in _ (by omega)]
  have q20 : IntKind.u64.wrap (d * 1125899906842624) = d * 1125899906842624 := by rw [IntWalk.u64_in _ (by omega)]
  have q21 : IntKind.u64.wrap (a * 1125899906842624) = a * 1125899906842624 := by rw [IntWalk.u64_in _ (by omega)]
  have q22 : Int.tmod c 9 = c % 9 := Int.tmod_eq_emod_of_nonneg (by omega)
  have q23 : Int.tmod d 3 = d % 3 := Int.tmod_eq_emod_of_nonneg (by omega)
  have q24 : Int.tmod d 7 = d % 7 := Int.tmod_eq_emod_of_nonneg (by omega)
  have q25 : Int.tmod c 5 = c % 5 := Int.tmod_eq_emod_of_nonneg (by omega)
  have q26 : Int.tmod b 4 = b % 4 := Int.tmod_eq_emod_of_nonneg (by omega)
  refine wp_region_held_drew (S := fun w' => Fil w.heap.size 20 w wx w') kr ⟨Kb.refl _ _, hxt, BX.out.drew⟩ (fun hHeld => ?_)
  refine tk 0 hHeld ?_
  refine tk 1 hHeld ?_
  refine tk 2 hHeld ?_
  refine tk 3 hHeld ?_
  refine tk 5 hHeld ?_
  refine tk 6 hHeld ?_
  refine tk 7 hHeld ?_
  refine tk 8 hHeld ?_
  refine tk 9 hHeld ?_
  refine tk 10 hHeld ?_
  refine tk 11 hHeld ?_
  refine tk 12 hHeld ?_
  refine tk 13 hHeld ?_
  refine tk 14 hHeld ?_
  refine tk 15 hHeld ?_
  refine tk 16 hHeld ?_
  refine tk 17 hHeld ?_
  refine tk 18 hHeld ?_
  refine tk 19 hHeld ?_
  refine tk 20 hHeld ?_
  refine tk 21 hHeld ?_
  refine tk 22 hHeld ?_
  refine tk 23 hHeld ?_
  refine tk 24 hHeld ?_
  refine tk 25 hHeld ?_
  refine tk 26 hHeld ?_
  refine tk 27 hHeld ?_
  refine tk 28 hHeld ?_
  refine tk 29 hHeld ?_
  refine tk 30 hHeld ?_
  refine tk 31 hHeld ?_
  refine tk 32 hHeld ?_
  refine tk 33 hHeld ?_
  refine tk 34 hHeld ?_
  refine tk 35 hHeld ?_
  refine tk 36 hHeld ?_
  refine tk 38 hHeld ?_
  refine tk 39 hHeld ?_
  refine tk 40 hHeld ?_
  refine wpAnyH_ready (rs := [4]) kr (by simp) ?_
  refine AllReadyH.cons (o := _) ge (fun K hK => ?_) AllReadyH.nil
  go_simp
  (with_reducible refine (K1.out _).mono ?_); rintro e w4 ⟨rfl, hb⟩
  refine hK.out _ _ (Fil.call hHeld hxl hb) (fun hHeldN => ?_)
  clear hK K hHeld hb; have hHeld := hHeldN; clear hHeldN
  try simp only [Act.put, List.setIfInBounds_toArray, List.set_cons_zero, List.set_cons_succ]
  refine wpAnyH_ready (rs := [37]) kr (by simp) ?_
  refine AllReadyH.cons (o := _) ge (fun K hK => ?_) AllReadyH.nil
  go_simp
  (with_reducible refine (K2.out _).mono ?_); rintro e w5 ⟨rfl, hb⟩
  refine hK.out _ _ (Fil.call hHeld hxl hb) (fun hHeldN => ?_)
  clear hK K hHeld hb; have hHeld := hHeldN; clear hHeldN
  try simp only [Act.put, List.setIfInBounds_toArray, List.set_cons_zero, List.set_cons_succ]
  refine tk 41 hHeld ?_
  refine wpAnyH_ready (rs := [42]) kr (by simp) ?_
  refine AllReadyH.cons (o := _) ge (fun K hK => ?_) AllReadyH.nil
  rw [if_pos (by rfl)]
  refine wp_store_mid 56 _ _ rfl w.heap.size 0 #[.int .i64 k1, .int .u64 k0, .int .i64 (d % 3), .int .u64 4611686018427387904, .int .i64 (a - 128), .int .u64 (b * 72057594037927936), .int .i64 (b - 128), .int .u64 (c * 1099511627776), .int .i64 (d % 7 - 3), .int .u64 a, .int .i64 (c % 5 - 2), .int .u64 dz, .int .i64 0, .int .u64 (d * 1125899906842624), .int .i64 0, .int .u64 (a * 1125899906842624), .int .i64 j1, .int .u64 j0, .int .i64 0, .int .i64 (d * 257)] rfl rfl hHeld.2.1 hsz (all_oneCell_toArray hone) ?_
  refine hK.out _ _ (Fil.store hHeld _) (fun hHeldN => ?_)
  have hth := hHeld.2.1
  clear hK K hHeld; have hHeld := hHeldN; clear hHeldN
  try simp only [Act.put]
  refine wpAnyH_done kr ?_ _
  have hrg := World.rangeAt_setCells_same w5 w.heap.size 0 [.int .i64 k1, .int .u64 k0, .int .i64 (d % 3), .int .u64 4611686018427387904, .int .i64 (a - 128), .int .u64 (b * 72057594037927936), .int .i64 (b - 128), .int .u64 (c * 1099511627776), .int .i64 (d % 7 - 3), .int .u64 a, .int .i64 (c % 5 - 2), .int .u64 dz, .int .i64 0, .int .u64 (d * 1125899906842624), .int .i64 0, .int .u64 (a * 1125899906842624), .int .i64 j1, .int .u64 j0, .int .i64 0, .int .i64 (d * 257)] hth
  have hbw := hHeld.2.2
  have hlv := run_loadVar_mid (P := Tryz.prog) _ w.heap.size 0 56 [.int .i64 k1, .int .u64 k0, .int .i64 (d % 3), .int .u64 4611686018427387904, .int .i64 (a - 128), .int .u64 (b * 72057594037927936), .int .i64 (b - 128), .int .u64 (c * 1099511627776), .int .i64 (d % 7 - 3), .int .u64 a, .int .i64 (c % 5 - 2), .int .u64 dz, .int .i64 0, .int .u64 (d * 1125899906842624), .int .i64 0, .int .u64 (a * 1125899906842624), .int .i64 j1, .int .u64 j0, .int .i64 0, .int .i64 (d * 257)] _ hrg Tryz.underlying56 rfl hsz
  have HL := Lib.hid hlv; have HB := Lib.hid hbw
  clear hHeld hth hrg hbw hlv hone g0 g1 g2 g3 hxt
  generalize w5.setCells w.heap.size 0 [.int .i64 k1, .int .u64 k0, .int .i64 (d % 3), .int .u64 4611686018427387904, .int .i64 (a - 128), .int .u64 (b * 72057594037927936), .int .i64 (b - 128), .int .u64 (c * 1099511627776), .int .i64 (d % 7 - 3), .int .u64 a, .int .i64 (c % 5 - 2), .int .u64 dz, .int .i64 0, .int .u64 (d * 1125899906842624), .int .i64 0, .int .u64 (a * 1125899906842624), .int .i64 j1, .int .u64 j0, .int .i64 0, .int .i64 (d * 257)] = w6 at *
  go_wp2_with fail
  (try simp only [Exit.inBlock, Exit.then])
  refine bodyPost_ret (v := .agg #[.int .i64 k1, .int .u64 k0, .int .i64 (d % 3), .int .u64 4611686018427387904, .int .i64 (a - 128), .int .u64 (b * 72057594037927936), .int .i64 (b - 128), .int .u64 (c * 1099511627776), .int .i64 (d % 7 - 3), .int .u64 a, .int .i64 (c % 5 - 2), .int .u64 dz, .int .i64 0, .int .u64 (d * 1125899906842624), .int .i64 0, .int .u64 (a * 1125899906842624), .int .i64 j1, .int .u64 j0, .int .i64 0, .int .i64 (d * 257)]) ?_ rfl ⟨rfl, HB.out⟩
  have hlv := HL.out
  simp [results, asAddr, hlv]
/-- A body by four bytes. -/
def bodn (a b c d : Int) : Bod := ⟨fx (1 + c % 9) 0, fx (d % 3) 4611686018427387904, fx (a - 128) (b * 72057594037927936), fx (b - 128) (c * 1099511627776), fx (d % 7 - 3) a, fx (c % 5 - 2) (d * 1152921504606846976 % 18446744073709551616), fx 0 (d * 1125899906842624), fx 0 (a * 1125899906842624), fx (b % 4) 0, 0, d * 257⟩
theorem fhx {h l : Int} (h0 : 0 ≤ l) (h1 : l < 18446744073709551616) : fh (fx h l) = h := by unfold fh fx; omega
theorem flx {h l : Int} (h0 : 0 ≤ l) (h1 : l < 18446744073709551616) : fl (fx h l) = l := by unfold fl fx; omega
theorem bodn_cells (a b c d : Int) (a0 : 0 ≤ a) (a1 : a < 256) (b0 : 0 ≤ b) (b1 : b < 256) (c0 : 0 ≤ c) (c1 : c < 256) (d0 : 0 ≤ d) (d1 : d < 256) :
    bdc (bodn a b c d) = [.int .i64 (1 + c % 9), .int .u64 0, .int .i64 (d % 3), .int .u64 4611686018427387904, .int .i64 (a - 128), .int .u64 (b * 72057594037927936), .int .i64 (b - 128), .int .u64 (c * 1099511627776), .int .i64 (d % 7 - 3), .int .u64 a, .int .i64 (c % 5 - 2), .int .u64 (d * 1152921504606846976 % 18446744073709551616), .int .i64 0, .int .u64 (d * 1125899906842624), .int .i64 0, .int .u64 (a * 1125899906842624), .int .i64 (b % 4), .int .u64 0, .int .i64 0, .int .i64 (d * 257)] := by
  unfold bdc bodn
  dsimp only
  have z0 : (0 : Int) ≤ 0 := by omega
  have z1 : (0 : Int) < 18446744073709551616 := by omega
  rw [fhx (h := 1 + c % 9) z0 z1, flx (h := 1 + c % 9) z0 z1, fhx (h := d % 3) (l := 4611686018427387904) (by omega) (by omega), flx (h := d % 3) (l := 4611686018427387904) (by omega) (by omega),
    fhx (h := a - 128) (l := b * 72057594037927936) (by omega) (by omega), flx (h := a - 128) (l := b * 72057594037927936) (by omega) (by omega), fhx (h := b - 128) (l := c * 1099511627776) (by omega) (by omega), flx (h := b - 128) (l := c * 1099511627776) (by omega) (by omega),
    fhx (h := d % 7 - 3) (l := a) (by omega) (by omega), flx (h := d % 7 - 3) (l := a) (by omega) (by omega), fhx (h := c % 5 - 2) (l := d * 1152921504606846976 % 18446744073709551616) (by omega) (by omega), flx (h := c % 5 - 2) (l := d * 1152921504606846976 % 18446744073709551616) (by omega) (by omega),
    fhx (h := 0) (l := d * 1125899906842624) (by omega) (by omega), flx (h := 0) (l := d * 1125899906842624) (by omega) (by omega), fhx (h := 0) (l := a * 1125899906842624) (by omega) (by omega), flx (h := 0) (l := a * 1125899906842624) (by omega) (by omega), fhx (h := b % 4) z0 z1, flx (h := b % 4) z0 z1]
theorem body_any (a b c d : Int) (a0 : 0 ≤ a) (a1 : a < 256) (b0 : 0 ≤ b) (b1 : b < 256) (c0 : 0 ≤ c) (c1 : c < 256) (d0 : 0 ≤ d) (d1 : d < 256) (w : World) :
    Calls Tryz.prog 35 #[.int .u8 a, .int .u8 b, .int .u8 c, .int .u8 d] w fun e w' => e = .returned (.agg (bdc (bodn a b c d)).toArray) ∧ Below w.heap.size w w' := by
  rw [bodn_cells a b c d a0 a1 b0 b1 c0 c1 d0 d1]
  have i1 : intr (1 + c % 9) = fx (1 + c % 9) 0 := by rw [intr_in (by omega)]; unfold fx; omega
  have i2 : intr (b % 4) = fx (b % 4) 0 := by rw [intr_in (by omega)]; unfold fx; omega
  have z0 : (0 : Int) ≤ 0 := by omega
  have z1 : (0 : Int) < 18446744073709551616 := by omega
  refine body_core a b c d (d * 1152921504606846976 % 18446744073709551616) a0 a1 b0 b1 c0 c1 d0 d1 (1 + c % 9) 0 (b % 4) 0 (by simp [IntKind.wrap, IntKind.bits, IntKind.signed]) (fun W => ?_) (fun W => ?_) w
  · have k := rint_any (1 + c % 9) W
    rw [i1, fhx z0 z1, flx z0 z1] at k; exact k
  · have k := rint_any (b % 4) W
    rw [i2, fhx z0 z1, flx z0 z1] at k; exact k
theorem bodn_ok {a b c d : Int} (a0 : 0 ≤ a) (a1 : a < 256) (b0 : 0 ≤ b) (b1 : b < 256) (c0 : 0 ≤ c) (c1 : c < 256) : Mb (bodn a b c d) := by
  unfold Mb bodn fx
  dsimp only
  omega
end Go.Proofs.YtjilnmpajhifcaaGreat
