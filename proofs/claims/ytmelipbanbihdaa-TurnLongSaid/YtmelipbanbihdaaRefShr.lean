/- The document's Shr. -/
import Derived.Test.YtmelipbanbihdaaRefShift
namespace Go.Proofs.Ytmelipbanbihdaa
open Go.RowKit

theorem rshr_neg (a3 a2 a1 a0 : Int) (n : Int) (hn : n < 0) (w : World) :
    Calls Try.prog 43 #[.agg #[.int .u64 a3, .int .u64 a2, .int .u64 a1, .int .u64 a0], .int .i64 n] w fun e w' => e = .returned (.agg #[.int .u64 a3, .int .u64 a2, .int .u64 a1, .int .u64 a0]) ∧ Below w.heap.size w w' := by
  go_enter Try.func43, Try.ntmps43
  go_wp2_with fail
  refine bodyPost_ret (by simp [results, Try.results43, go_sem, *]; try rfl) rfl ?_
  exact ⟨rfl, by repeat (first | with_reducible exact Below.refl _ _ | with_reducible exact Hid.out (by assumption) | with_reducible refine Below.setCell ?_ (by first | (simp; done) | omega | (simp <;> omega)) _ | with_reducible refine bl_al ?_ _ | with_reducible apply Below.drew)⟩
set_option maxHeartbeats 8000000 in
theorem rshr_core (a3 a2 a1 a0 : Int) (q r M : Nat) (n : Int) (hn0 : 0 ≤ n) (hr : r < 64) (hq : q < 4 → n < 256) (hq2 : ¬ q < 4 → ¬ n < 256) (h63 : q < 9223372036854775800)
    (e1 : n.tdiv 64 = (q : Int)) (e2 : n.tmod 64 = (r : Int)) (x : Nat → Int) (hx : ∀ j, j < 4 → ([.int .u64 a0, .int .u64 a1, .int .u64 a2, .int .u64 a3] : List Value)[j]? = some (.int .u64 (x j)))
    (m1 : ∀ k, 4 ≤ k + q → k < 4 → wd M k = 0) (m2 : ∀ k, k + q = 3 → x 3 / 2 ^ r = wd M k)
    (m3 : ∀ k, k + q < 3 → r = 0 → x (k + q) / 2 ^ r = wd M k)
    (m4 : ∀ k, k + q < 3 → 0 < r → bits .or .u64 (x (k + q) / 2 ^ r) (IntKind.u64.wrap (x (k + q + 1) * 2 ^ (64 - r))) = wd M k)
    (w : World) :
    Calls Try.prog 43 #[.agg #[.int .u64 a3, .int .u64 a2, .int .u64 a1, .int .u64 a0], .int .i64 n] w fun e w' => e = .returned (.agg #[.int .u64 (wd M 3), .int .u64 (wd M 2), .int .u64 (wd M 1), .int .u64 (wd M 0)]) ∧ Below w.heap.size w w' := by
  have HM1 := Lib.hid m1; have HM2 := Lib.hid m2; have HM3 := Lib.hid m3; have HM4 := Lib.hid m4; have HX := Lib.hid hx
  have HQ := Lib.hid hq; have HQ2 := Lib.hid hq2
  clear m1 m2 m3 m4 hx hq hq2
  have hn : ¬ n < 0 := by omega
  have hmk : ∀ w, (Instr.makeSlice 85 (.int .i64 4) (.int .i64 4)).run Try.prog w = .ok (.slice (some ⟨w.heap.size, 0, none⟩) 4 4) (w.alloc (.cells #[.int .u64 0, .int .u64 0, .int .u64 0, .int .u64 0] 22)) := fun _ => by kernel_rfl
  go_enter Try.func43, Try.ntmps43
  go_wp2_with fail
  refine (rwords_any a3 a2 a1 a0 _).mono ?_
  rintro e w1 ⟨rfl, hH, hb⟩
  have hz : w.heap.size + 1 < w1.heap.size := by have hz := hb.size; simp at hz; omega
  obtain ⟨hcl, hfr⟩ := bcell hb
  have HB1 : Hid (Below w.heap.size w w1) := bl_trans (by repeat (first | with_reducible exact Below.refl _ _ | with_reducible exact Hid.out (by assumption) | with_reducible refine Below.setCell ?_ (by first | (simp; done) | omega | (simp <;> omega)) _ | with_reducible refine bl_al ?_ _ | with_reducible apply Below.drew)) hb
  have HH := Lib.hid hH
  clear hb hH
  go_wp2_with fail
  refine name_world (P := fun W => Code.wp _ _ _ _ W) _ (fun R hR => ?_)
  have hH : Has (w.heap.size + 1 + 1 + 1) [.int .u64 a0, .int .u64 a1, .int .u64 a2, .int .u64 a3] w1 := by have := HH.out; simpa using this
  have hz2 := hH.1
  have g0 : Sh w (w.heap.size + 1 + 1 + 1) w1.heap.size a3 a2 a1 a0 M 0 R := by
    have hst : Below w1.heap.size w1 (w1.alloc (.cells #[.int .u64 0, .int .u64 0, .int .u64 0, .int .u64 0] 22)) := bl_al (Below.refl _ _) _
    rw [hR]
    refine ⟨Has.mk4 (by simp; omega) (by simp [go_sem, *]) (by simp [go_sem, *]) (by simp [go_sem, *]) (by simp [go_sem, *]), hH.step hst, by simp, fun j hj => ?_, fun j => ?_, fun j => ?_, (by repeat (first | with_reducible exact Below.refl _ _ | with_reducible exact Hid.out (by assumption) | with_reducible refine Below.setCell ?_ (by first | (simp; done) | omega | (simp <;> omega)) _ | with_reducible refine bl_al ?_ _ | with_reducible apply Below.drew))⟩
    · rw [upto_none]; rcases (show j = 0 ∨ j = 1 ∨ j = 2 ∨ j = 3 by omega) with rfl | rfl | rfl | rfl <;> simp [go_sem]
    · simp only [frozen?_alloc_cells]; rw [hfr _ _ (by simp)]; simp only [frozen?_alloc_cells]; exact frozen_new (by omega)
    · simp only [frozen?_alloc_cells]; exact frozen_new (by omega)
  have nr : w.heap.size + 1 ≠ w1.heap.size := by omega
  have nw : w.heap.size + 1 + 1 + 1 ≠ w1.heap.size := by omega
  have nl : w.heap.size ≤ w1.heap.size := by omega
  have G0 := Lib.hid g0
  clear g0 hR hH hz2 hz hcl hfr HB1 HH hmk
  generalize w.heap.size + 1 + 1 + 1 = W at *
  generalize w1.heap.size = O at *
  have nr2 : ¬ O = w.heap.size + 1 := fun h => nr h.symm
  have nw2 : ¬ O = W := fun h => nw h.symm
  go_loopg [7] 4 (fun m iv wr => ∃ k : Nat, k + m = 4 ∧ iv = .int .i64 (k : Int) ∧ Sh w W O a3 a2 a1 a0 M k wr)
  case atStart => exact ⟨0, rfl, rfl, G0.out⟩
  case round =>
    obtain ⟨k, hk, rfl, P⟩ := hrel
    clear G0
    have HP := Lib.hid P
    have e4 : IntKind.i64.wrap (q : Int) = q := IntWalk.i64_in _ (by omega)
    have e5 : IntKind.i64.wrap ((k : Int) + 1) = (k : Int) + 1 := IntWalk.i64_in _ (by omega)
    have r6 : (r : Int) < 64 := by omega
    have r7 : (0 : Int) ≤ 64 - (r : Int) := by omega
    have r8 : IntKind.i64.wrap (64 - (r : Int)) = 64 - (r : Int) := IntWalk.i64_in _ (by omega)
    have r9 : (64 - (r : Int)).toNat = 64 - r := by omega
    by_cases hend : k = 4 ∨ ¬ q < 4
    · have hF : Has O [.int .u64 (wd M 0), .int .u64 (wd M 1), .int .u64 (wd M 2), .int .u64 (wd M 3)] wr := by
        have key : ∀ j, j < 4 → upto M k j = wd M j := fun j hj => by
          rcases hend with h | h
          · subst h; exact upto_all M j hj
          · have := HM1.out j (by omega) hj
            unfold upto; split
            · rfl
            · exact this.symm
        refine Has.mk4 P.size ?_ ?_ ?_ ?_
        all_goals (rw [P.o _ (by decide), key _ (by decide)])
      have hF1 := Lib.hid hF
      have hr0 := P.r.2 0 _ rfl; have hr1 := P.r.2 1 _ rfl; have hr2 := P.r.2 2 _ rfl; have hr3 := P.r.2 3 _ rfl
      have zr : ∀ j, wr.frozen? ⟨w.heap.size + 1, j, none⟩ = false := P.zr
      have zz := P.r.1
      clear P hF HM1 HM2 HM3 HM4 HX
      have hex : ¬ (k : Int) < 4 ∨ ((k : Int) < 4 ∧ ¬ n < 256) := by
        rcases Nat.lt_or_ge k 4 with h | h
        · right; rcases hend with c | c
          · omega
          · exact ⟨by omega, by have := HQ2.out c; omega⟩
        · left; omega
      clear hend HQ HQ2
      rcases hex with hex | ⟨hex, hex2⟩
      all_goals (
        go_wp2_with fail
        refine (rfour_any O _ _ _ _ _ hF1.out).mono ?_
        rintro e w2 ⟨rfl, hb⟩
        obtain ⟨hcl, hfr⟩ := bcell hb
        have zz2 : w.heap.size + 1 < w2.heap.size := Nat.lt_of_lt_of_le zz hb.size
        have zf : ∀ j, w2.frozen? ⟨w.heap.size + 1, j, none⟩ = false := fun j => by rw [hfr _ _ zz]; exact zr j
        have HB := Lib.hid (bl_trans HP.out.below hb)
        clear hb hF1 HP hfr
        go_wp2_with fail
        refine bodyPost_ret (by simp [results, Try.results43, go_sem, *]; try rfl) rfl ?_
        exact ⟨rfl, Below.setCell (Below.setCell (Below.setCell (Below.setCell HB.out (by simp) _) (by simp) _) (by simp) _) (by simp) _⟩)
    · have hk4 : k < 4 := by omega
      have hq4 : q < 4 := by omega
      have h256 := HQ.out hq4
      obtain ⟨m, rfl⟩ : ∃ m, gk = m + 1 := ⟨gk - 1, by omega⟩
      have kk : (k : Int) < 4 := by omega
      have co := P.o k hk4
      have fo : ∀ j, wr.frozen? ⟨O, j, none⟩ = false := P.zo
      have zO := P.size
      clear hend HQ HQ2
      rw [upto_at] at co
      rcases (show 4 ≤ k + q ∨ k + q = 3 ∨ k + q < 3 by omega) with hlt | heq | hgt
      · have hd : ¬ (k : Int) + q < 4 := by omega
        have hd1 : ¬ (k : Int) + q < 3 := by omega
        have hw : IntKind.i64.wrap ((k : Int) + q) = (k : Int) + q := IntWalk.i64_in _ (by omega)
        have hm := Lib.hid (HM1.out k hlt hk4)
        clear P HM1 HM2 HM3 HM4 HX
        go_wp2_with fail
        go_roundg m
        case measure => omega
        case rel => exact ⟨k + 1, by omega, by simp, HP.out.kept hm.out⟩
      · have hd : (k : Int) + q = 3 := by omega
        have cw := P.a.2 3 _ (HX.out 3 (by decide))
        have hm := HM2.out k heq
        clear P HM1 HM2 HM3 HM4 HX heq
        go_wp2_with fail
        go_roundg m
        case measure => omega
        case rel => exact ⟨k + 1, by omega, by simp, HP.out.wrote (Wrote.setCell (Wrote.refl _ _ _ _) (Nat.le_refl _) (Nat.lt_succ_self _) _) nr nw nl (by simp [go_sem, *])⟩
      · obtain ⟨j, hj⟩ : ∃ j, j = k + q := ⟨_, rfl⟩
        obtain ⟨jj, hjj⟩ : ∃ jj, jj = j + 1 := ⟨_, rfl⟩
        have hd : (k : Int) + q = (j : Int) := by omega
        have hd1 : (j : Int) < 3 := by omega
        have hd2 : (j : Int) + 1 = (jj : Int) := by omega
        have hd3 : (jj : Int) < 4 := by omega
        have hd4 : (j : Int) < 4 := by omega
        have hw1 : IntKind.i64.wrap (jj : Int) = jj := IntWalk.i64_in _ (by omega)
        have hw2 : IntKind.i64.wrap (j : Int) = j := IntWalk.i64_in _ (by omega)
        have cw := P.a.2 jj _ (HX.out jj (by omega))
        have cv := P.a.2 j _ (HX.out j (by omega))
        have zW := P.a.1
        rcases Nat.eq_zero_or_pos r with hr0 | hr0
        · have hm := HM3.out k (by omega) hr0
          rw [← hj] at hm
          have hr1 : ¬ (0 : Int) < (r : Int) := by omega
          clear P HM1 HM2 HM3 HM4 HX hj hjj hgt hr0
          go_wp2_with fail
          go_roundg m
          case measure => omega
          case rel => exact ⟨k + 1, by omega, by simp, HP.out.wrote (Wrote.setCell (Wrote.refl _ _ _ _) (Nat.le_refl _) (Nat.lt_succ_self _) _) nr nw nl (by simp [go_sem, *])⟩
        · have hm := HM4.out k (by omega) hr0
          rw [← hj, ← hjj] at hm
          have hr1 : (0 : Int) < (r : Int) := by omega
          clear P HM1 HM2 HM3 HM4 HX hj hjj hgt hr0
          go_wp2_with fail
          go_region_with (fail)
          all_goals (
            go_wp2_with fail
            go_roundg m
            case measure => omega
            case rel => exact ⟨k + 1, by omega, by simp, HP.out.wrote ((Wrote.setCell (Wrote.setCell (Wrote.refl _ _ _ _) (Nat.le_refl _) (Nat.lt_succ_self _) _) (Nat.le_refl _) (Nat.lt_succ_self _) _).drew) nr nw nl (by simp [go_sem, *])⟩)
theorem rshr_any (a3 a2 a1 a0 n : Int) (h3 : Wd a3) (h2 : Wd a2) (h1 : Wd a1) (h0 : Wd a0) (hn : n < 9223372036854775808) (w : World) :
    Calls Try.prog 43 #[.agg #[.int .u64 a3, .int .u64 a2, .int .u64 a1, .int .u64 a0], .int .i64 n] w fun e w' => e = .returned (.agg #[.int .u64 (wd (v4 a3 a2 a1 a0 / 2 ^ n.toNat) 3), .int .u64 (wd (v4 a3 a2 a1 a0 / 2 ^ n.toNat) 2), .int .u64 (wd (v4 a3 a2 a1 a0 / 2 ^ n.toNat) 1), .int .u64 (wd (v4 a3 a2 a1 a0 / 2 ^ n.toNat) 0)]) ∧ Below w.heap.size w w' := by
  by_cases c : n < 0
  · rw [show n.toNat = 0 by omega, Nat.pow_zero, Nat.div_one, wd_v4_3 h3 h2 h1 h0, wd_v4_2 h3 h2 h1 h0, wd_v4_1 h3 h2 h1 h0, wd_v4_0 h3 h2 h1 h0]
    exact rshr_neg a3 a2 a1 a0 n c w
  have hV := v4_lt h3 h2 h1 h0
  obtain ⟨N, rfl⟩ := Int.eq_ofNat_of_zero_le (show 0 ≤ n by omega)
  rw [Int.toNat_natCast]
  have e : 64 * (N / 64) + N % 64 = N := by omega
  have F : ∀ j, j < 4 → ([.int .u64 a0, .int .u64 a1, .int .u64 a2, .int .u64 a3] : List Value)[j]? = some (.int .u64 (wd (v4 a3 a2 a1 a0) j)) := fun j hj => four_at h3 h2 h1 h0 hj
  refine rshr_core a3 a2 a1 a0 (N / 64) (N % 64) _ N (by omega) (by omega) (by omega) (by omega) (by omega) (by rw [Int.tdiv_eq_ediv_of_nonneg (by omega)]; omega) (by rw [Int.tmod_eq_emod_of_nonneg (by omega)]; omega) (fun j => wd (v4 a3 a2 a1 a0) j) F ?_ ?_ ?_ ?_ w
  · intro k hk _
    have := shr_w (v4 a3 a2 a1 a0) (N / 64) (N % 64) k (by omega)
    rw [e, wd_high hV (by omega), wd_high hV (by omega), ← shr_zero] at this
    exact this
  · intro k hk
    have := shr_w (v4 a3 a2 a1 a0) (N / 64) (N % 64) k (by omega)
    rw [e, wd_high (k := k + N / 64 + 1) hV (by omega), hk, Int.zero_mul, show IntKind.u64.wrap 0 = 0 from rfl, or_zero2 _ (wd_div (wd_wd _ _) _)] at this
    exact this.symm
  · intro k _ hr
    have := shr_w (v4 a3 a2 a1 a0) (N / 64) (N % 64) k (by omega)
    rw [e, hr, show (64 : Nat) - 0 = 64 from rfl] at this
    have z : IntKind.u64.wrap (wd (v4 a3 a2 a1 a0) (k + N / 64 + 1) * 2 ^ 64) = 0 := by rw [wrap_u64, show ((2 : Int) ^ 64) = 18446744073709551616 by decide]; exact Int.mul_emod_left _ _
    rw [z, or_zero2 _ (wd_div (wd_wd _ _) _)] at this
    rw [hr]; exact this.symm
  · intro k _ _
    have := shr_w (v4 a3 a2 a1 a0) (N / 64) (N % 64) k (by omega)
    rw [e] at this; exact this.symm
end Go.Proofs.Ytmelipbanbihdaa
