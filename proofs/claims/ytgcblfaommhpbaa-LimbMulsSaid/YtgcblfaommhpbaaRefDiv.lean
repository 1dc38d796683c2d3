/- The document's division: the walk. -/
import Derived.Test.YtgcblfaommhpbaaRefDivRel
namespace Go.Proofs.Ytgcblfaommhpbaa
open Go.RowKit

theorem field_rsum (x0 x1 x2 : Value) (w : World) : (Instr.field 65 (.agg #[x0, x1, x2]) 0).run Try.prog w = .ok (.agg #[x0, x1]) w := by kernel_rfl
theorem rdiv_none (a3 a2 a1 a0 : Int) (w : World) :
    Calls Try.prog 15 #[.agg #[.int .u64 a3, .int .u64 a2, .int .u64 a1, .int .u64 a0], .agg #[.int .u64 0, .int .u64 0]] w fun e w' => e = .returned (.agg #[.int .u64 0, .int .u64 0, .int .u64 0, .int .u64 0, .int .u64 0, .int .u64 0, .bool false]) ∧ Below w.heap.size w w' := by
  have q := eq_two_true 0 0
  go_enter Try.func15, Try.ntmps15
  go_wp2_with fail
  refine bodyPost_ret (by simp [results, Try.results15, go_sem, *]; try rfl) rfl ?_
  exact ⟨rfl, by repeat (first | with_reducible exact Below.refl _ _ | with_reducible exact Hid.out (by assumption) | with_reducible refine Below.setCell ?_ (by first | (simp; done) | omega | (simp <;> omega)) _ | with_reducible refine bl_al ?_ _ | with_reducible apply Below.drew)⟩
set_option maxRecDepth 20000 in
set_option maxHeartbeats 16000000 in
theorem rdiv_core (a3 a2 a1 a0 b1 b0 : Int) (N d : Nat) (hq0 : ∀ W, (Go.binOp .eql 24 (.agg #[.int .u64 b1, .int .u64 b0]) (.agg #[.int .u64 0, .int .u64 0])).run Try.prog W = .ok (.bool false) W) (hd : d ≠ 0) (hd2 : d < 340282366920938463463374607431768211456) (hN : N < 2 ^ 256)
    (hbit : ∀ i : Nat, i < 256 → ∀ W, Calls Try.prog 70 #[.agg #[.int .u64 a3, .int .u64 a2, .int .u64 a1, .int .u64 a0], .int .i64 (i : Int)] W fun e w' => e = .returned (.int .u64 ((bt N i : Nat) : Int)) ∧ Below W.heap.size W w')
    (hless : ∀ n : Nat, ∀ W, Calls Try.prog 71 #[.agg #[.int .u64 ((wd n 1)), .int .u64 ((wd n 0))], .agg #[.int .u64 b1, .int .u64 b0]] W fun e w' => e = .returned (.bool (decide (n % 340282366920938463463374607431768211456 < d))) ∧ Below W.heap.size W w')
    (hsub : ∀ n : Nat, ∀ W, Calls Try.prog 72 #[.agg #[.int .u64 ((wd n 1)), .int .u64 ((wd n 0))], .agg #[.int .u64 b1, .int .u64 b0]] W fun e w' => e = .returned (.agg #[.int .u64 (wd (n % 340282366920938463463374607431768211456 + (340282366920938463463374607431768211456 - d)) 1), .int .u64 (wd (n % 340282366920938463463374607431768211456 + (340282366920938463463374607431768211456 - d)) 0), .bool (decide (n % 340282366920938463463374607431768211456 < d))]) ∧ Below W.heap.size W w') (w : World) :
    Calls Try.prog 15 #[.agg #[.int .u64 a3, .int .u64 a2, .int .u64 a1, .int .u64 a0], .agg #[.int .u64 b1, .int .u64 b0]] w fun e w' => e = .returned (.agg #[.int .u64 (wd (N / d) 3), .int .u64 (wd (N / d) 2), .int .u64 (wd (N / d) 1), .int .u64 (wd (N / d) 0), .int .u64 (wd (N % d) 1), .int .u64 (wd (N % d) 0), .bool true]) ∧ Below w.heap.size w w' := by
  have HBits := Lib.hid hbit; have HLesss := Lib.hid hless; have HSubs := Lib.hid hsub; have HN := Lib.hid hN; have HD := Lib.hid hd; have HD2 := Lib.hid hd2
  clear hbit hless hsub hN hd hd2
  have fld := field_rsum
  have hmk : ∀ w, (Instr.makeSlice 89 (.int .i64 4) (.int .i64 4)).run Try.prog w = .ok (.slice (some ⟨w.heap.size, 0, none⟩) 4 4) (w.alloc (.cells #[.int .u64 0, .int .u64 0, .int .u64 0, .int .u64 0] 22)) := fun _ => by kernel_rfl
  go_enter Try.func15, Try.ntmps15
  go_wp2_with fail
  refine name_world (P := fun W => Code.wp _ _ _ _ W) _ (fun R hR => ?_)
  have g0 : Dv w a3 a2 a1 a0 b1 b0 0 0 0 R := by
    rw [hR]
    refine ⟨Has.mk4 (by simp <;> omega) (by simp [go_sem]) (by simp [go_sem]) (by simp [go_sem]) (by simp [go_sem]), Has.mk2 (by simp <;> omega) (by simp [go_sem]) (by simp [go_sem]), Has.mk7 (by simp <;> omega) (by simp [go_sem]) (by simp [go_sem]) (by simp [go_sem]) (by simp [go_sem]) (by simp [go_sem]) (by simp [go_sem]) (by simp [go_sem]), Has.mk7 (by simp <;> omega) (by simp [go_sem]) (by simp [go_sem]) (by simp [go_sem]) (by simp [go_sem]) (by simp [go_sem]) (by simp [go_sem]) (by simp [go_sem]), by simp, fun j hj => ?_, fun j => ?_, fun j => ?_, fun j => ?_, (by repeat (first | with_reducible exact Below.refl _ _ | with_reducible exact Hid.out (by assumption) | with_reducible refine Below.setCell ?_ (by first | (simp; done) | omega | (simp <;> omega)) _ | with_reducible refine bl_al ?_ _ | with_reducible apply Below.drew))⟩
    · rcases (show j = 0 ∨ j = 1 ∨ j = 2 ∨ j = 3 by omega) with rfl | rfl | rfl | rfl <;> simp [go_sem] <;> rfl
    · simp only [frozen?_alloc_cells]; exact frozen_late (by omega)
    · simp only [frozen?_alloc_cells]; exact frozen_late (by omega)
    · simp only [frozen?_alloc_cells]; exact frozen_late (by omega)
  have G0 := Lib.hid g0
  clear g0 hR hmk
  go_loopg [7] 256 (fun k iv wr => k ≤ 256 ∧ iv = .int .i64 ((k : Int) - 1) ∧ Dv w a3 a2 a1 a0 b1 b0 (wd (rq N d k) 1) (wd (rq N d k) 0) (qq N d k) wr)
  case atStart =>
    refine ⟨Nat.le_refl _, rfl, ?_⟩
    rw [rq_top HN.out, qq_top HN.out]; exact G0.out
  case round =>
    obtain ⟨hk, rfl, P⟩ := hrel
    clear G0
    rcases gk with _ | k
    · rw [rq_end, qq_end] at P
      have HP := Lib.hid P
      have hF : Has (w.heap.size + 1 + 1 + 1 + 1) [.int .u64 (wd (N / d) 0), .int .u64 (wd (N / d) 1), .int .u64 (wd (N / d) 2), .int .u64 (wd (N / d) 3)] wr := Has.mk4 P.size (P.q 0 (by decide)) (P.q 1 (by decide)) (P.q 2 (by decide)) (P.q 3 (by decide))
      have HF := Lib.hid hF
      clear P hF HBits HLesss HSubs
      go_wp2_with fail
      refine (rfour_any _ _ _ _ _ _ HF.out).mono ?_
      rintro e w1 ⟨rfl, hb⟩
      have HP1 := Lib.hid (HP.out.step hb)
      clear hb HP HF
      have P := HP1.out
      have c0 := P.out.2 0 _ rfl; have c1 := P.out.2 1 _ rfl; have c2 := P.out.2 2 _ rfl; have c3 := P.out.2 3 _ rfl; have c4 := P.out.2 4 _ rfl; have c5 := P.out.2 5 _ rfl; have c6 := P.out.2 6 _ rfl
      have s0 := P.res.2 0 _ rfl; have s1 := P.res.2 1 _ rfl; have s2 := P.res.2 2 _ rfl; have s3 := P.res.2 3 _ rfl; have s4 := P.res.2 4 _ rfl; have s5 := P.res.2 5 _ rfl; have s6 := P.res.2 6 _ rfl
      have fo : ∀ j, w1.frozen? ⟨w.heap.size + 1 + 1 + 1, j, none⟩ = false := P.zo
      have fr : ∀ j, w1.frozen? ⟨w.heap.size + 1 + 1, j, none⟩ = false := P.zr
      have zO := P.out.1; have zR := P.res.1
      clear P
      go_wp2_with fail
      refine bodyPost_ret (by simp [results, Try.results15, go_sem, *]; try rfl) rfl ?_
      refine ⟨rfl, ?_⟩
      have hB := HP1.out.below
      repeat (first | with_reducible exact hB | with_reducible refine Below.setCell ?_ (by simp; omega) _)
    · have HP := Lib.hid P
      have k1 : ((k + 1 : Nat) : Int) - 1 = (k : Int) := by omega
      have k4 : (k : Int) < 256 := by omega
      have wk : IntKind.i64.wrap ((k : Int) - 1) = (k : Int) - 1 := IntWalk.i64_in _ (by omega)
      rw [k1]
      obtain ⟨q, hq⟩ : ∃ q, q = k / 64 := ⟨_, rfl⟩
      obtain ⟨r, hr⟩ : ∃ r, r = k % 64 := ⟨_, rfl⟩
      have hkq : k = 64 * q + r := by omega
      have hq4 : q < 4 := by omega
      have hq5 : (q : Int) < 4 := by omega
      have hr6 : (r : Int) < 64 := by omega
      have hrn : r < 64 := by omega
      have t1 : (k : Int).tdiv 64 = (q : Int) := by rw [Int.tdiv_eq_ediv_of_nonneg (by omega)]; omega
      have t2 : (k : Int).tmod 64 = (r : Int) := by rw [Int.tmod_eq_emod_of_nonneg (by omega)]; omega
      have t3 : IntKind.i64.wrap (q : Int) = q := IntWalk.i64_in _ (by omega)
      have t4 : IntKind.u64.wrap ((2 : Int) ^ r) = 2 ^ r := by
        have := pow_word r hrn
        have e : ((2 : Int) ^ r) = ((2 ^ r : Nat) : Int) := by simp
        rw [e]; clear e; generalize (2 : Nat) ^ r = Z at *; exact IntWalk.u64_in _ (by omega)
      have hlt := rq_lt (N := N) (m := k + 1) HD.out
      have hbl := bt_le N k
      have hw := two_words (R := rq N d (k + 1)) (b := bt N k) (by have := HD2.out; omega) hbl
      have hst := div_step (N := N) (i := k) HD.out
      have HBit := Lib.hid (HBits.out k (by omega))
      have HLess := Lib.hid (HLesss.out (2 * rq N d (k + 1) + bt N k))
      have HSub := Lib.hid (HSubs.out (2 * rq N d (k + 1) + bt N k))
      have hmore := word_more (Q := qq N d (k + 1)) (m := k) (q := q) (r := r) hrn hkq (qq_dvd N d (k + 1))
      rw [show ((2 ^ r : Nat) : Int) = (2 : Int) ^ r by simp] at hmore
      have hd2 := HD2.out
      obtain ⟨w1', w0', wh⟩ := hw
      have HS : Hid ((2 * rq N d (k + 1) + bt N k < d ∧ wd (rq N d (k + 1)) 1 / 9223372036854775808 = 0 ∧ decide ((2 * rq N d (k + 1) + bt N k) % 340282366920938463463374607431768211456 < d) = true ∧
          (wd (rq N d k) 1 = wd (2 * rq N d (k + 1) + bt N k) 1 ∧ wd (rq N d k) 0 = wd (2 * rq N d (k + 1) + bt N k) 0 ∧ qq N d k = qq N d (k + 1))) ∨
        ((wd (rq N d (k + 1)) 1 / 9223372036854775808 = 1 ∨ (wd (rq N d (k + 1)) 1 / 9223372036854775808 = 0 ∧ decide ((2 * rq N d (k + 1) + bt N k) % 340282366920938463463374607431768211456 < d) = false)) ∧
          (wd (rq N d k) 1 = wd ((2 * rq N d (k + 1) + bt N k) % 340282366920938463463374607431768211456 + (340282366920938463463374607431768211456 - d)) 1 ∧ wd (rq N d k) 0 = wd ((2 * rq N d (k + 1) + bt N k) % 340282366920938463463374607431768211456 + (340282366920938463463374607431768211456 - d)) 0 ∧
            bits .or .u64 (wd (qq N d (k + 1)) q) (2 ^ r) = wd (qq N d k) q ∧ ∀ j, j ≠ q → wd (qq N d k) j = wd (qq N d (k + 1)) j))) := by
        rcases hst with ⟨g, e1, e2⟩ | ⟨g, e1, e2⟩
        · left
          refine ⟨g, by rw [wh, if_neg (by omega)]; rfl, decide_eq_true ?_, by rw [e1], by rw [e1], e2⟩
          rw [Nat.mod_eq_of_lt (by omega)]; exact g
        · right
          have s1 := sub_words (R := 2 * rq N d (k + 1) + bt N k) (d := d) hd2 g (by omega) (by omega) 1 (by decide)
          have s0 := sub_words (R := 2 * rq N d (k + 1) + bt N k) (d := d) hd2 g (by omega) (by omega) 0 (by decide)
          refine ⟨?_, by rw [e1, s1], by rw [e1, s0], by rw [e2]; exact hmore.1, fun j hj => by rw [e2]; exact hmore.2 j hj⟩
          rcases Nat.lt_or_ge (2 * rq N d (k + 1) + bt N k) 340282366920938463463374607431768211456 with c | c
          · right
            refine ⟨by rw [wh, if_neg (by omega)]; rfl, decide_eq_false ?_⟩
            rw [Nat.mod_eq_of_lt c]; omega
          · left; rw [wh, if_pos c]; rfl
      clear hst hmore wh hlt hd2 HBits HLesss HSubs hq hr hkq hrn hbl k1 HN HD HD2
      have P := HP.out
      clear P
      generalize hr1 : wd (rq N d (k + 1)) 1 = r1 at *
      generalize hr0 : wd (rq N d (k + 1)) 0 = r0 at *
      generalize hn1 : wd (2 * rq N d (k + 1) + bt N k) 1 = n1 at *
      generalize hn0 : wd (2 * rq N d (k + 1) + bt N k) 0 = n0 at *
      generalize wd ((2 * rq N d (k + 1) + bt N k) % 340282366920938463463374607431768211456 + (340282366920938463463374607431768211456 - d)) 1 = m1 at *
      generalize wd ((2 * rq N d (k + 1) + bt N k) % 340282366920938463463374607431768211456 + (340282366920938463463374607431768211456 - d)) 0 = m0 at *
      generalize qq N d (k + 1) = QQ at *
      generalize (bt N k) = bb at *
      clear hr1 hr0 hn1 hn0
      have P := HP.out
      have c4 := P.out.2 4 _ rfl; have c5 := P.out.2 5 _ rfl
      have ca3 := P.a.2 0 _ rfl; have ca2 := P.a.2 1 _ rfl; have ca1 := P.a.2 2 _ rfl; have ca0 := P.a.2 3 _ rfl
      have cb1 := P.b.2 0 _ rfl; have cb0 := P.b.2 1 _ rfl
      have zA := P.a.1; have zB := P.b.1; have zO := P.out.1; have zQ := P.size
      have fo : ∀ j, wr.frozen? ⟨w.heap.size + 1 + 1 + 1, j, none⟩ = false := P.zo
      have fq : ∀ j, wr.frozen? ⟨w.heap.size + 1 + 1 + 1 + 1, j, none⟩ = false := P.zq
      clear P
      rcases HS.out with ⟨_, h0, hl, he⟩ | ⟨h0 | ⟨h0, hl⟩, he⟩
      · have HE := Lib.hid he
        clear HS he
        rw [hl] at HLess HSub
        go_wp2_with fail
        refine wp_region_late_drew (fun w' => w'.cell? ⟨w.heap.size + 1 + 1 + 1, 4, none⟩ = some (.int .u64 r1) ∧ w'.cell? ⟨w.heap.size + 1 + 1 + 1, 5, none⟩ = some (.int .u64 r0) ∧ w'.cell? ⟨w.heap.size, 0, none⟩ = some (.int .u64 a3) ∧ w'.cell? ⟨w.heap.size, 1, none⟩ = some (.int .u64 a2) ∧ w'.cell? ⟨w.heap.size, 2, none⟩ = some (.int .u64 a1) ∧ w'.cell? ⟨w.heap.size, 3, none⟩ = some (.int .u64 a0)) 19 (by kernel_rfl) ?_ (fun hHeld => ?_)
        · (try dsimp only); (first | (simp [*, go_sem]; done) | (simp [*, go_sem, World.cell?_alloc_past]; done))
        refine wpAnyK_take (i := 0) (oi := _) (v := ?_) (by simp only [List.getElem?_toArray, List.getElem?_cons_zero]; rfl) (by kernel_rfl) (by kernel_rfl) (by kernel_rfl) (by kernel_rfl) (by kernel_rfl) (by exact fun _ _ _ h => h) (Or.inl ⟨by rfl, ?_⟩) hHeld ?_
        rotate_left 1
        · (intro w hSw; (try dsimp only at hSw); go_simp; try with_reducible rfl)
        try simp only [Act.put, List.setIfInBounds_toArray, List.set_cons_zero, List.set_cons_succ]
        refine wpAnyK_take (i := 1) (oi := _) (v := ?_) (by simp only [List.getElem?_toArray, List.getElem?_cons_succ, List.getElem?_cons_zero]; rfl) (by kernel_rfl) (by kernel_rfl) (by kernel_rfl) (by kernel_rfl) (by kernel_rfl) (by exact fun _ _ _ h => h) (Or.inl ⟨by rfl, ?_⟩) hHeld ?_
        rotate_left 1
        · (intro w hSw; (try dsimp only at hSw); go_simp; try with_reducible rfl)
        try simp only [Act.put, List.setIfInBounds_toArray, List.set_cons_zero, List.set_cons_succ]
        refine wpAnyK_take (i := 2) (oi := _) (v := ?_) (by simp only [List.getElem?_toArray, List.getElem?_cons_succ, List.getElem?_cons_zero]; rfl) (by kernel_rfl) (by kernel_rfl) (by kernel_rfl) (by kernel_rfl) (by kernel_rfl) (by exact fun _ _ _ h => h) (Or.inl ⟨by rfl, ?_⟩) hHeld ?_
        rotate_left 1
        · (intro w hSw; (try dsimp only at hSw); go_simp; try with_reducible rfl)
        try simp only [Act.put, List.setIfInBounds_toArray, List.set_cons_zero, List.set_cons_succ]
        refine wpAnyK_take (i := 3) (oi := _) (v := ?_) (by simp only [List.getElem?_toArray, List.getElem?_cons_succ, List.getElem?_cons_zero]; rfl) (by kernel_rfl) (by kernel_rfl) (by kernel_rfl) (by kernel_rfl) (by kernel_rfl) (by exact fun _ _ _ h => h) (Or.inl ⟨by rfl, ?_⟩) hHeld ?_
        rotate_left 1
        · (intro w hSw; (try dsimp only at hSw); go_simp; try with_reducible rfl)
        try simp only [Act.put, List.setIfInBounds_toArray, List.set_cons_zero, List.set_cons_succ]
        refine wpAnyK_take (i := 4) (oi := _) (v := ?_) (by simp only [List.getElem?_toArray, List.getElem?_cons_succ, List.getElem?_cons_zero]; rfl) (by kernel_rfl) (by kernel_rfl) (by kernel_rfl) (by kernel_rfl) (by kernel_rfl) (by exact fun _ _ _ h => h) (Or.inl ⟨by rfl, ?_⟩) hHeld ?_
        rotate_left 1
        · (intro w hSw; (try dsimp only at hSw); go_simp; try with_reducible rfl)
        try simp only [Act.put, List.setIfInBounds_toArray, List.set_cons_zero, List.set_cons_succ]
        refine wpAnyK_take (i := 5) (oi := _) (v := ?_) (by simp only [List.getElem?_toArray, List.getElem?_cons_succ, List.getElem?_cons_zero]; rfl) (by kernel_rfl) (by kernel_rfl) (by kernel_rfl) (by kernel_rfl) (by kernel_rfl) (by exact fun _ _ _ h => h) (Or.inl ⟨by rfl, ?_⟩) hHeld ?_
        rotate_left 1
        · (intro w hSw; (try dsimp only at hSw); go_simp; try with_reducible rfl)
        try simp only [Act.put, List.setIfInBounds_toArray, List.set_cons_zero, List.set_cons_succ]
        refine wpAnyK_take (i := 6) (oi := _) (v := ?_) (by simp only [List.getElem?_toArray, List.getElem?_cons_succ, List.getElem?_cons_zero]; rfl) (by kernel_rfl) (by kernel_rfl) (by kernel_rfl) (by kernel_rfl) (by kernel_rfl) (by exact fun _ _ _ h => h) (Or.inl ⟨by rfl, ?_⟩) hHeld ?_
        rotate_left 1
        · (intro w hSw; (try dsimp only at hSw); go_simp; try with_reducible rfl)
        try simp only [Act.put, List.setIfInBounds_toArray, List.set_cons_zero, List.set_cons_succ]
        refine wpAnyK_take (i := 7) (oi := _) (v := ?_) (by simp only [List.getElem?_toArray, List.getElem?_cons_succ, List.getElem?_cons_zero]; rfl) (by kernel_rfl) (by kernel_rfl) (by kernel_rfl) (by kernel_rfl) (by kernel_rfl) (by exact fun _ _ _ h => h) (Or.inl ⟨by rfl, ?_⟩) hHeld ?_
        rotate_left 1
        · (intro w hSw; (try dsimp only at hSw); go_simp; try with_reducible rfl)
        try simp only [Act.put, List.setIfInBounds_toArray, List.set_cons_zero, List.set_cons_succ]
        refine wpAnyK_take (i := 8) (oi := _) (v := ?_) (by simp only [List.getElem?_toArray, List.getElem?_cons_succ, List.getElem?_cons_zero]; rfl) (by kernel_rfl) (by kernel_rfl) (by kernel_rfl) (by kernel_rfl) (by kernel_rfl) (by exact fun _ _ _ h => h) (Or.inl ⟨by rfl, ?_⟩) hHeld ?_
        rotate_left 1
        · (intro w hSw; (try dsimp only at hSw); go_simp; try with_reducible rfl)
        try simp only [Act.put, List.setIfInBounds_toArray, List.set_cons_zero, List.set_cons_succ]
        refine wpAnyK_take (i := 9) (oi := _) (v := ?_) (by simp only [List.getElem?_toArray, List.getElem?_cons_succ, List.getElem?_cons_zero]; rfl) (by kernel_rfl) (by kernel_rfl) (by kernel_rfl) (by kernel_rfl) (by kernel_rfl) (by exact fun _ _ _ h => h) (Or.inl ⟨by rfl, ?_⟩) hHeld ?_
        rotate_left 1
        · (intro w hSw; (try dsimp only at hSw); go_simp; try with_reducible rfl)
        try simp only [Act.put, List.setIfInBounds_toArray, List.set_cons_zero, List.set_cons_succ]
        refine wpAnyK_take (i := 10) (oi := _) (v := ?_) (by simp only [List.getElem?_toArray, List.getElem?_cons_succ, List.getElem?_cons_zero]; rfl) (by kernel_rfl) (by kernel_rfl) (by kernel_rfl) (by kernel_rfl) (by kernel_rfl) (by exact fun _ _ _ h => h) (Or.inl ⟨by rfl, ?_⟩) hHeld ?_
        rotate_left 1
        · (intro w hSw; (try dsimp only at hSw); go_simp; try with_reducible rfl)
        try simp only [Act.put, List.setIfInBounds_toArray, List.set_cons_zero, List.set_cons_succ]
        refine wpAnyK_take (i := 11) (oi := _) (v := ?_) (by simp only [List.getElem?_toArray, List.getElem?_cons_succ, List.getElem?_cons_zero]; rfl) (by kernel_rfl) (by kernel_rfl) (by kernel_rfl) (by kernel_rfl) (by kernel_rfl) (by exact fun _ _ _ h => h) (Or.inl ⟨by rfl, ?_⟩) hHeld ?_
        rotate_left 1
        · (intro w hSw; (try dsimp only at hSw); go_simp; try with_reducible rfl)
        try simp only [Act.put, List.setIfInBounds_toArray, List.set_cons_zero, List.set_cons_succ]
        refine wpAnyK_take (i := 12) (oi := _) (v := ?_) (by simp only [List.getElem?_toArray, List.getElem?_cons_succ, List.getElem?_cons_zero]; rfl) (by kernel_rfl) (by kernel_rfl) (by kernel_rfl) (by kernel_rfl) (by kernel_rfl) (by exact fun _ _ _ h => h) (Or.inl ⟨by rfl, ?_⟩) hHeld ?_
        rotate_left 1
        · (intro w hSw; (try dsimp only at hSw); go_simp; try with_reducible rfl)
        try simp only [Act.put, List.setIfInBounds_toArray, List.set_cons_zero, List.set_cons_succ]
        refine wpAnyK_take (i := 13) (oi := _) (v := ?_) (by simp only [List.getElem?_toArray, List.getElem?_cons_succ, List.getElem?_cons_zero]; rfl) (by kernel_rfl) (by kernel_rfl) (by kernel_rfl) (by kernel_rfl) (by kernel_rfl) (by exact fun _ _ _ h => h) (Or.inl ⟨by rfl, ?_⟩) hHeld ?_
        rotate_left 1
        · (intro w hSw; (try dsimp only at hSw); go_simp; try with_reducible rfl)
        try simp only [Act.put, List.setIfInBounds_toArray, List.set_cons_zero, List.set_cons_succ]
        refine wpAnyK_take (i := 14) (oi := _) (v := ?_) (by simp only [List.getElem?_toArray, List.getElem?_cons_succ, List.getElem?_cons_zero]; rfl) (by kernel_rfl) (by kernel_rfl) (by kernel_rfl) (by kernel_rfl) (by kernel_rfl) (by exact fun _ _ _ h => h) (Or.inl ⟨by rfl, ?_⟩) hHeld ?_
        rotate_left 1
        · (intro w hSw; (try dsimp only at hSw); go_simp; try with_reducible rfl)
        try simp only [Act.put, List.setIfInBounds_toArray, List.set_cons_zero, List.set_cons_succ]
        refine wpAnyK_one (i := 15) (o := _) (by kernel_rfl) (by simp only [List.getElem?_toArray, List.getElem?_cons_succ, List.getElem?_cons_zero]; rfl) (fun K hK => ?_)
        go_simp
        (with_reducible refine (HBit.out _).mono ?_); rintro e w1 ⟨rfl, hb⟩; obtain ⟨hcl, hfr⟩ := bcell_drew hb; have HB1 : Hid (Below wr.heap.size wr w1) := bl_trans (Below.refl _ _).drew hb; have y0 : w.heap.size < w1.heap.size := (by have hz := hb.size; simp at hz; omega); have y3 : w.heap.size + 1 + 1 + 1 < w1.heap.size := (by have hz := hb.size; simp at hz; omega); clear hb
        try go_wp2_with fail
        refine hK.out _ _ (fun _ => ?_) (fun hHeldN => ?_)
        · (try dsimp only); (first | (simp [*, go_sem]; done) | (simp [*, go_sem, World.cell?_alloc_past]; done))
        replace hHeld := hHeldN (by kernel_rfl)
        clear hK K hHeldN
        try simp only [Act.put, List.setIfInBounds_toArray, List.set_cons_zero, List.set_cons_succ]
        refine wpAnyK_take (i := 16) (oi := _) (v := ?_) (by simp only [List.getElem?_toArray, List.getElem?_cons_succ, List.getElem?_cons_zero]; rfl) (by kernel_rfl) (by kernel_rfl) (by kernel_rfl) (by kernel_rfl) (by kernel_rfl) (by exact fun _ _ _ h => h) (Or.inl ⟨by rfl, ?_⟩) hHeld ?_
        rotate_left 1
        · (intro w hSw; (try dsimp only at hSw); go_simp; try with_reducible rfl)
        try simp only [Act.put, List.setIfInBounds_toArray, List.set_cons_zero, List.set_cons_succ]
        refine wpAnyK_take (i := 17) (oi := _) (v := ?_) (by simp only [List.getElem?_toArray, List.getElem?_cons_succ, List.getElem?_cons_zero]; rfl) (by kernel_rfl) (by kernel_rfl) (by kernel_rfl) (by kernel_rfl) (by kernel_rfl) (by exact fun _ _ _ h => h) (Or.inl ⟨by rfl, ?_⟩) hHeld ?_
        rotate_left 1
        · (intro w hSw; (try dsimp only at hSw); go_simp; try with_reducible rfl)
        try simp only [Act.put, List.setIfInBounds_toArray, List.set_cons_zero, List.set_cons_succ]
        refine wpAnyK_take (i := 18) (oi := _) (v := ?_) (by simp only [List.getElem?_toArray, List.getElem?_cons_succ, List.getElem?_cons_zero]; rfl) (by kernel_rfl) (by kernel_rfl) (by kernel_rfl) (by kernel_rfl) (by kernel_rfl) (by exact fun _ _ _ h => h) (Or.inl ⟨by rfl, ?_⟩) hHeld ?_
        rotate_left 1
        · (intro w hSw; (try dsimp only at hSw); go_simp; try with_reducible rfl)
        try simp only [Act.put, List.setIfInBounds_toArray, List.set_cons_zero, List.set_cons_succ]
        refine wpAnyK_one (i := 19) (o := _) (by kernel_rfl) (by simp only [List.getElem?_toArray, List.getElem?_cons_succ, List.getElem?_cons_zero]; rfl) (fun K hK => ?_)
        go_simp
        refine hK.out _ _ (fun h => absurd (Eq.trans (Eq.symm h) (by kernel_rfl)) Bool.false_ne_true) (fun _ => ?_)
        clear hK K
        try simp only [Act.put, List.setIfInBounds_toArray, List.set_cons_zero, List.set_cons_succ]
        refine wpAnyK_done (by kernel_rfl) ?_ _
        clear hHeld
        clear hcl hfr y0 y3 c4 c5 ca3 ca2 ca1 ca0 cb1 cb0 zA zB zO zQ fo fq
        have HP1 := Lib.hid ((HP.out.step HB1.out).rest n1 n0)
        clear HP HB1
        go_upto_region 10 with fail
        refine name_world (P := fun W => Code.wp _ _ _ _ W) _ (fun R hR => ?_)
        rw [← hR] at HP1
        clear hR
        have P := HP1.out
        have c4 := P.out.2 4 _ rfl; have c5 := P.out.2 5 _ rfl
        have ca3 := P.a.2 0 _ rfl; have ca2 := P.a.2 1 _ rfl; have ca1 := P.a.2 2 _ rfl; have ca0 := P.a.2 3 _ rfl
        have cb1 := P.b.2 0 _ rfl; have cb0 := P.b.2 1 _ rfl
        have zA := P.a.1; have zB := P.b.1; have zO := P.out.1; have zQ := P.size
        have fo : ∀ j, R.frozen? ⟨w.heap.size + 1 + 1 + 1, j, none⟩ = false := P.zo
        have fq : ∀ j, R.frozen? ⟨w.heap.size + 1 + 1 + 1 + 1, j, none⟩ = false := P.zq
        clear P
        go_wp2_with fail
        (with_reducible refine (HLess.out _).mono ?_); rintro e w2 ⟨rfl, hb⟩
        have HP2 := Lib.hid (HP1.out.step hb)
        clear hb HP1 c4 c5 ca3 ca2 ca1 ca0 cb1 cb0 zA zB zO zQ fo fq
        have P := HP2.out
        have c4 := P.out.2 4 _ rfl; have c5 := P.out.2 5 _ rfl
        have ca3 := P.a.2 0 _ rfl; have ca2 := P.a.2 1 _ rfl; have ca1 := P.a.2 2 _ rfl; have ca0 := P.a.2 3 _ rfl
        have cb1 := P.b.2 0 _ rfl; have cb0 := P.b.2 1 _ rfl
        have zA := P.a.1; have zB := P.b.1; have zO := P.out.1; have zQ := P.size
        have fo : ∀ j, w2.frozen? ⟨w.heap.size + 1 + 1 + 1, j, none⟩ = false := P.zo
        have fq : ∀ j, w2.frozen? ⟨w.heap.size + 1 + 1 + 1 + 1, j, none⟩ = false := P.zq
        clear P
        go_wp2_with fail
        go_roundg k
        case measure => omega
        case rel => exact ⟨by omega, rfl, by rw [HE.out.1, HE.out.2.1, HE.out.2.2]; exact HP2.out⟩
      · have HE := Lib.hid he
        clear HS he
        go_wp2_with fail
        refine wp_region_late_drew (fun w' => w'.cell? ⟨w.heap.size + 1 + 1 + 1, 4, none⟩ = some (.int .u64 r1) ∧ w'.cell? ⟨w.heap.size + 1 + 1 + 1, 5, none⟩ = some (.int .u64 r0) ∧ w'.cell? ⟨w.heap.size, 0, none⟩ = some (.int .u64 a3) ∧ w'.cell? ⟨w.heap.size, 1, none⟩ = some (.int .u64 a2) ∧ w'.cell? ⟨w.heap.size, 2, none⟩ = some (.int .u64 a1) ∧ w'.cell? ⟨w.heap.size, 3, none⟩ = some (.int .u64 a0)) 19 (by kernel_rfl) ?_ (fun hHeld => ?_)
        · (try dsimp only); (first | (simp [*, go_sem]; done) | (simp [*, go_sem, World.cell?_alloc_past]; done))
        refine wpAnyK_take (i := 0) (oi := _) (v := ?_) (by simp only [List.getElem?_toArray, List.getElem?_cons_zero]; rfl) (by kernel_rfl) (by kernel_rfl) (by kernel_rfl) (by kernel_rfl) (by kernel_rfl) (by exact fun _ _ _ h => h) (Or.inl ⟨by rfl, ?_⟩) hHeld ?_
        rotate_left 1
        · (intro w hSw; (try dsimp only at hSw); go_simp; try with_reducible rfl)
        try simp only [Act.put, List.setIfInBounds_toArray, List.set_cons_zero, List.set_cons_succ]
        refine wpAnyK_take (i := 1) (oi := _) (v := ?_) (by simp only [List.getElem?_toArray, List.getElem?_cons_succ, List.getElem?_cons_zero]; rfl) (by kernel_rfl) (by kernel_rfl) (by kernel_rfl) (by kernel_rfl) (by kernel_rfl) (by exact fun _ _ _ h => h) (Or.inl ⟨by rfl, ?_⟩) hHeld ?_
        rotate_left 1
        · (intro w hSw; (try dsimp only at hSw); go_simp; try with_reducible rfl)
        try simp only [Act.put, List.setIfInBounds_toArray, List.set_cons_zero, List.set_cons_succ]
        refine wpAnyK_take (i := 2) (oi := _) (v := ?_) (by simp only [List.getElem?_toArray, List.getElem?_cons_succ, List.getElem?_cons_zero]; rfl) (by kernel_rfl) (by kernel_rfl) (by kernel_rfl) (by kernel_rfl) (by kernel_rfl) (by exact fun _ _ _ h => h) (Or.inl ⟨by rfl, ?_⟩) hHeld ?_
        rotate_left 1
        · (intro w hSw; (try dsimp only at hSw); go_simp; try with_reducible rfl)
        try simp only [Act.put, List.setIfInBounds_toArray, List.set_cons_zero, List.set_cons_succ]
        refine wpAnyK_take (i := 3) (oi := _) (v := ?_) (by simp only [List.getElem?_toArray, List.getElem?_cons_succ, List.getElem?_cons_zero]; rfl) (by kernel_rfl) (by kernel_rfl) (by kernel_rfl) (by kernel_rfl) (by kernel_rfl) (by exact fun _ _ _ h => h) (Or.inl ⟨by rfl, ?_⟩) hHeld ?_
        rotate_left 1
        · (intro w hSw; (try dsimp only at hSw); go_simp; try with_reducible rfl)
        try simp only [Act.put, List.setIfInBounds_toArray, List.set_cons_zero, List.set_cons_succ]
        refine wpAnyK_take (i := 4) (oi := _) (v := ?_) (by simp only [List.getElem?_toArray, List.getElem?_cons_succ, List.getElem?_cons_zero]; rfl) (by kernel_rfl) (by kernel_rfl) (by kernel_rfl) (by kernel_rfl) (by kernel_rfl) (by exact fun _ _ _ h => h) (Or.inl ⟨by rfl, ?_⟩) hHeld ?_
        rotate_left 1
        · (intro w hSw; (try dsimp only at hSw); go_simp; try with_reducible rfl)
        try simp only [Act.put, List.setIfInBounds_toArray, List.set_cons_zero, List.set_cons_succ]
        refine wpAnyK_take (i := 5) (oi := _) (v := ?_) (by simp only [List.getElem?_toArray, List.getElem?_cons_succ, List.getElem?_cons_zero]; rfl) (by kernel_rfl) (by kernel_rfl) (by kernel_rfl) (by kernel_rfl) (by kernel_rfl) (by exact fun _ _ _ h => h) (Or.inl ⟨by rfl, ?_⟩) hHeld ?_
        rotate_left 1
        · (intro w hSw; (try dsimp only at hSw); go_simp; try with_reducible rfl)
        try simp only [Act.put, List.setIfInBounds_toArray, List.set_cons_zero, List.set_cons_succ]
        refine wpAnyK_take (i := 6) (oi := _) (v := ?_) (by simp only [List.getElem?_toArray, List.getElem?_cons_succ, List.getElem?_cons_zero]; rfl) (by kernel_rfl) (by kernel_rfl) (by kernel_rfl) (by kernel_rfl) (by kernel_rfl) (by exact fun _ _ _ h => h) (Or.inl ⟨by rfl, ?_⟩) hHeld ?_
        rotate_left 1
        · (intro w hSw; (try dsimp only at hSw); go_simp; try with_reducible rfl)
        try simp only [Act.put, List.setIfInBounds_toArray, List.set_cons_zero, List.set_cons_succ]
        refine wpAnyK_take (i := 7) (oi := _) (v := ?_) (by simp only [List.getElem?_toArray, List.getElem?_cons_succ, List.getElem?_cons_zero]; rfl) (by kernel_rfl) (by kernel_rfl) (by kernel_rfl) (by kernel_rfl) (by kernel_rfl) (by exact fun _ _ _ h => h) (Or.inl ⟨by rfl, ?_⟩) hHeld ?_
        rotate_left 1
        · (intro w hSw; (try dsimp only at hSw); go_simp; try with_reducible rfl)
        try simp only [Act.put, List.setIfInBounds_toArray, List.set_cons_zero, List.set_cons_succ]
        refine wpAnyK_take (i := 8) (oi := _) (v := ?_) (by simp only [List.getElem?_toArray, List.getElem?_cons_succ, List.getElem?_cons_zero]; rfl) (by kernel_rfl) (by kernel_rfl) (by kernel_rfl) (by kernel_rfl) (by kernel_rfl) (by exact fun _ _ _ h => h) (Or.inl ⟨by rfl, ?_⟩) hHeld ?_
        rotate_left 1
        · (intro w hSw; (try dsimp only at hSw); go_simp; try with_reducible rfl)
        try simp only [Act.put, List.setIfInBounds_toArray, List.set_cons_zero, List.set_cons_succ]
        refine wpAnyK_take (i := 9) (oi := _) (v := ?_) (by simp only [List.getElem?_toArray, List.getElem?_cons_succ, List.getElem?_cons_zero]; rfl) (by kernel_rfl) (by kernel_rfl) (by kernel_rfl) (by kernel_rfl) (by kernel_rfl) (by exact fun _ _ _ h => h) (Or.inl ⟨by rfl, ?_⟩) hHeld ?_
        rotate_left 1
        · (intro w hSw; (try dsimp only at hSw); go_simp; try with_reducible rfl)
        try simp only [Act.put, List.setIfInBounds_toArray, List.set_cons_zero, List.set_cons_succ]
        refine wpAnyK_take (i := 10) (oi := _) (v := ?_) (by simp only [List.getElem?_toArray, List.getElem?_cons_succ, List.getElem?_cons_zero]; rfl) (by kernel_rfl) (by kernel_rfl) (by kernel_rfl) (by kernel_rfl) (by kernel_rfl) (by exact fun _ _ _ h => h) (Or.inl ⟨by rfl, ?_⟩) hHeld ?_
        rotate_left 1
        · (intro w hSw; (try dsimp only at hSw); go_simp; try with_reducible rfl)
        try simp only [Act.put, List.setIfInBounds_toArray, List.set_cons_zero, List.set_cons_succ]
        refine wpAnyK_take (i := 11) (oi := _) (v := ?_) (by simp only [List.getElem?_toArray, List.getElem?_cons_succ, List.getElem?_cons_zero]; rfl) (by kernel_rfl) (by kernel_rfl) (by kernel_rfl) (by kernel_rfl) (by kernel_rfl) (by exact fun _ _ _ h => h) (Or.inl ⟨by rfl, ?_⟩) hHeld ?_
        rotate_left 1
        · (intro w hSw; (try dsimp only at hSw); go_simp; try with_reducible rfl)
        try simp only [Act.put, List.setIfInBounds_toArray, List.set_cons_zero, List.set_cons_succ]
        refine wpAnyK_take (i := 12) (oi := _) (v := ?_) (by simp only [List.getElem?_toArray, List.getElem?_cons_succ, List.getElem?_cons_zero]; rfl) (by kernel_rfl) (by kernel_rfl) (by kernel_rfl) (by kernel_rfl) (by kernel_rfl) (by exact fun _ _ _ h => h) (Or.inl ⟨by rfl, ?_⟩) hHeld ?_
        rotate_left 1
        · (intro w hSw; (try dsimp only at hSw); go_simp; try with_reducible rfl)
        try simp only [Act.put, List.setIfInBounds_toArray, List.set_cons_zero, List.set_cons_succ]
        refine wpAnyK_take (i := 13) (oi := _) (v := ?_) (by simp only [List.getElem?_toArray, List.getElem?_cons_succ, List.getElem?_cons_zero]; rfl) (by kernel_rfl) (by kernel_rfl) (by kernel_rfl) (by kernel_rfl) (by kernel_rfl) (by exact fun _ _ _ h => h) (Or.inl ⟨by rfl, ?_⟩) hHeld ?_
        rotate_left 1
        · (intro w hSw; (try dsimp only at hSw); go_simp; try with_reducible rfl)
        try simp only [Act.put, List.setIfInBounds_toArray, List.set_cons_zero, List.set_cons_succ]
        refine wpAnyK_take (i := 14) (oi := _) (v := ?_) (by simp only [List.getElem?_toArray, List.getElem?_cons_succ, List.getElem?_cons_zero]; rfl) (by kernel_rfl) (by kernel_rfl) (by kernel_rfl) (by kernel_rfl) (by kernel_rfl) (by exact fun _ _ _ h => h) (Or.inl ⟨by rfl, ?_⟩) hHeld ?_
        rotate_left 1
        · (intro w hSw; (try dsimp only at hSw); go_simp; try with_reducible rfl)
        try simp only [Act.put, List.setIfInBounds_toArray, List.set_cons_zero, List.set_cons_succ]
        refine wpAnyK_one (i := 15) (o := _) (by kernel_rfl) (by simp only [List.getElem?_toArray, List.getElem?_cons_succ, List.getElem?_cons_zero]; rfl) (fun K hK => ?_)
        go_simp
        (with_reducible refine (HBit.out _).mono ?_); rintro e w1 ⟨rfl, hb⟩; obtain ⟨hcl, hfr⟩ := bcell_drew hb; have HB1 : Hid (Below wr.heap.size wr w1) := bl_trans (Below.refl _ _).drew hb; have y0 : w.heap.size < w1.heap.size := (by have hz := hb.size; simp at hz; omega); have y3 : w.heap.size + 1 + 1 + 1 < w1.heap.size := (by have hz := hb.size; simp at hz; omega); clear hb
        try go_wp2_with fail
        refine hK.out _ _ (fun _ => ?_) (fun hHeldN => ?_)
        · (try dsimp only); (first | (simp [*, go_sem]; done) | (simp [*, go_sem, World.cell?_alloc_past]; done))
        replace hHeld := hHeldN (by kernel_rfl)
        clear hK K hHeldN
        try simp only [Act.put, List.setIfInBounds_toArray, List.set_cons_zero, List.set_cons_succ]
        refine wpAnyK_take (i := 16) (oi := _) (v := ?_) (by simp only [List.getElem?_toArray, List.getElem?_cons_succ, List.getElem?_cons_zero]; rfl) (by kernel_rfl) (by kernel_rfl) (by kernel_rfl) (by kernel_rfl) (by kernel_rfl) (by exact fun _ _ _ h => h) (Or.inl ⟨by rfl, ?_⟩) hHeld ?_
        rotate_left 1
        · (intro w hSw; (try dsimp only at hSw); go_simp; try with_reducible rfl)
        try simp only [Act.put, List.setIfInBounds_toArray, List.set_cons_zero, List.set_cons_succ]
        refine wpAnyK_take (i := 17) (oi := _) (v := ?_) (by simp only [List.getElem?_toArray, List.getElem?_cons_succ, List.getElem?_cons_zero]; rfl) (by kernel_rfl) (by kernel_rfl) (by kernel_rfl) (by kernel_rfl) (by kernel_rfl) (by exact fun _ _ _ h => h) (Or.inl ⟨by rfl, ?_⟩) hHeld ?_
        rotate_left 1
        · (intro w hSw; (try dsimp only at hSw); go_simp; try with_reducible rfl)
        try simp only [Act.put, List.setIfInBounds_toArray, List.set_cons_zero, List.set_cons_succ]
        refine wpAnyK_take (i := 18) (oi := _) (v := ?_) (by simp only [List.getElem?_toArray, List.getElem?_cons_succ, List.getElem?_cons_zero]; rfl) (by kernel_rfl) (by kernel_rfl) (by kernel_rfl) (by kernel_rfl) (by kernel_rfl) (by exact fun _ _ _ h => h) (Or.inl ⟨by rfl, ?_⟩) hHeld ?_
        rotate_left 1
        · (intro w hSw; (try dsimp only at hSw); go_simp; try with_reducible rfl)
        try simp only [Act.put, List.setIfInBounds_toArray, List.set_cons_zero, List.set_cons_succ]
        refine wpAnyK_one (i := 19) (o := _) (by kernel_rfl) (by simp only [List.getElem?_toArray, List.getElem?_cons_succ, List.getElem?_cons_zero]; rfl) (fun K hK => ?_)
        go_simp
        refine hK.out _ _ (fun h => absurd (Eq.trans (Eq.symm h) (by kernel_rfl)) Bool.false_ne_true) (fun _ => ?_)
        clear hK K
        try simp only [Act.put, List.setIfInBounds_toArray, List.set_cons_zero, List.set_cons_succ]
        refine wpAnyK_done (by kernel_rfl) ?_ _
        clear hHeld
        clear hcl hfr y0 y3 c4 c5 ca3 ca2 ca1 ca0 cb1 cb0 zA zB zO zQ fo fq
        have HP1 := Lib.hid ((HP.out.step HB1.out).rest n1 n0)
        clear HP HB1
        go_upto_region 10 with fail
        refine name_world (P := fun W => Code.wp _ _ _ _ W) _ (fun R hR => ?_)
        rw [← hR] at HP1
        clear hR
        have P := HP1.out
        have c4 := P.out.2 4 _ rfl; have c5 := P.out.2 5 _ rfl
        have ca3 := P.a.2 0 _ rfl; have ca2 := P.a.2 1 _ rfl; have ca1 := P.a.2 2 _ rfl; have ca0 := P.a.2 3 _ rfl
        have cb1 := P.b.2 0 _ rfl; have cb0 := P.b.2 1 _ rfl
        have zA := P.a.1; have zB := P.b.1; have zO := P.out.1; have zQ := P.size
        have fo : ∀ j, R.frozen? ⟨w.heap.size + 1 + 1 + 1, j, none⟩ = false := P.zo
        have fq : ∀ j, R.frozen? ⟨w.heap.size + 1 + 1 + 1 + 1, j, none⟩ = false := P.zq
        clear P
        have HP2 := HP1
        clear HP1
        go_wp2_with fail
        (with_reducible refine (HSub.out _).mono ?_); rintro e w3 ⟨rfl, hb⟩
        have HP3 := Lib.hid (HP2.out.step hb)
        clear hb HP2 c4 c5 ca3 ca2 ca1 ca0 cb1 cb0 zA zB zO zQ fo fq
        have P := HP3.out
        have c4 := P.out.2 4 _ rfl; have c5 := P.out.2 5 _ rfl
        have ca3 := P.a.2 0 _ rfl; have ca2 := P.a.2 1 _ rfl; have ca1 := P.a.2 2 _ rfl; have ca0 := P.a.2 3 _ rfl
        have cb1 := P.b.2 0 _ rfl; have cb0 := P.b.2 1 _ rfl
        have zA := P.a.1; have zB := P.b.1; have zO := P.out.1; have zQ := P.size
        have fo : ∀ j, w3.frozen? ⟨w.heap.size + 1 + 1 + 1, j, none⟩ = false := P.zo
        have fq : ∀ j, w3.frozen? ⟨w.heap.size + 1 + 1 + 1 + 1, j, none⟩ = false := P.zq
        clear P
        go_upto_region 12 with fail
        refine name_world (P := fun W => Code.wp _ _ _ _ W) _ (fun R2 hR2 => ?_)
        have HP4 : Hid (Dv w a3 a2 a1 a0 b1 b0 m1 m0 QQ R2) := by rw [hR2]; exact HP3.out.rest m1 m0
        clear hR2 HP3 c4 c5 ca3 ca2 ca1 ca0 cb1 cb0 zA zB zO zQ fo fq
        have P := HP4.out
        have c4 := P.out.2 4 _ rfl; have c5 := P.out.2 5 _ rfl
        have ca3 := P.a.2 0 _ rfl; have ca2 := P.a.2 1 _ rfl; have ca1 := P.a.2 2 _ rfl; have ca0 := P.a.2 3 _ rfl
        have cb1 := P.b.2 0 _ rfl; have cb0 := P.b.2 1 _ rfl
        have zA := P.a.1; have zB := P.b.1; have zO := P.out.1; have zQ := P.size
        have fo : ∀ j, R2.frozen? ⟨w.heap.size + 1 + 1 + 1, j, none⟩ = false := P.zo
        have fq : ∀ j, R2.frozen? ⟨w.heap.size + 1 + 1 + 1 + 1, j, none⟩ = false := P.zq
        have cq := P.q q hq4
        clear P
        go_region_with (fail)
        go_wp2_with fail
        go_roundg k
        case measure => omega
        case rel => exact ⟨by omega, rfl, by rw [HE.out.1, HE.out.2.1]; exact (HP4.out.quot HE.out.2.2.1 HE.out.2.2.2 hq4).step (Below.refl _ _).drew⟩
      · have HE := Lib.hid he
        clear HS he
        rw [hl] at HLess HSub
        go_wp2_with fail
        refine wp_region_late_drew (fun w' => w'.cell? ⟨w.heap.size + 1 + 1 + 1, 4, none⟩ = some (.int .u64 r1) ∧ w'.cell? ⟨w.heap.size + 1 + 1 + 1, 5, none⟩ = some (.int .u64 r0) ∧ w'.cell? ⟨w.heap.size, 0, none⟩ = some (.int .u64 a3) ∧ w'.cell? ⟨w.heap.size, 1, none⟩ = some (.int .u64 a2) ∧ w'.cell? ⟨w.heap.size, 2, none⟩ = some (.int .u64 a1) ∧ w'.cell? ⟨w.heap.size, 3, none⟩ = some (.int .u64 a0)) 19 (by kernel_rfl) ?_ (fun hHeld => ?_)
        · (try dsimp only); (first | (simp [*, go_sem]; done) | (simp [*, go_sem, World.cell?_alloc_past]; done))
        refine wpAnyK_take (i := 0) (oi := _) (v := ?_) (by simp only [List.getElem?_toArray, List.getElem?_cons_zero]; rfl) (by kernel_rfl) (by kernel_rfl) (by kernel_rfl) (by kernel_rfl) (by kernel_rfl) (by exact fun _ _ _ h => h) (Or.inl ⟨by rfl, ?_⟩) hHeld ?_
        rotate_left 1
        · (intro w hSw; (try dsimp only at hSw); go_simp; try with_reducible rfl)
        try simp only [Act.put, List.setIfInBounds_toArray, List.set_cons_zero, List.set_cons_succ]
        refine wpAnyK_take (i := 1) (oi := _) (v := ?_) (by simp only [List.getElem?_toArray, List.getElem?_cons_succ, List.getElem?_cons_zero]; rfl) (by kernel_rfl) (by kernel_rfl) (by kernel_rfl) (by kernel_rfl) (by kernel_rfl) (by exact fun _ _ _ h => h) (Or.inl ⟨by rfl, ?_⟩) hHeld ?_
        rotate_left 1
        · (intro w hSw; (try dsimp only at hSw); go_simp; try with_reducible rfl)
        try simp only [Act.put, List.setIfInBounds_toArray, List.set_cons_zero, List.set_cons_succ]
        refine wpAnyK_take (i := 2) (oi := _) (v := ?_) (by simp only [List.getElem?_toArray, List.getElem?_cons_succ, List.getElem?_cons_zero]; rfl) (by kernel_rfl) (by kernel_rfl) (by kernel_rfl) (by kernel_rfl) (by kernel_rfl) (by exact fun _ _ _ h => h) (Or.inl ⟨by rfl, ?_⟩) hHeld ?_
        rotate_left 1
        · (intro w hSw; (try dsimp only at hSw); go_simp; try with_reducible rfl)
        try simp only [Act.put, List.setIfInBounds_toArray, List.set_cons_zero, List.set_cons_succ]
        refine wpAnyK_take (i := 3) (oi := _) (v := ?_) (by simp only [List.getElem?_toArray, List.getElem?_cons_succ, List.getElem?_cons_zero]; rfl) (by kernel_rfl) (by kernel_rfl) (by kernel_rfl) (by kernel_rfl) (by kernel_rfl) (by exact fun _ _ _ h => h) (Or.inl ⟨by rfl, ?_⟩) hHeld ?_
        rotate_left 1
        · (intro w hSw; (try dsimp only at hSw); go_simp; try with_reducible rfl)
        try simp only [Act.put, List.setIfInBounds_toArray, List.set_cons_zero, List.set_cons_succ]
        refine wpAnyK_take (i := 4) (oi := _) (v := ?_) (by simp only [List.getElem?_toArray, List.getElem?_cons_succ, List.getElem?_cons_zero]; rfl) (by kernel_rfl) (by kernel_rfl) (by kernel_rfl) (by kernel_rfl) (by kernel_rfl) (by exact fun _ _ _ h => h) (Or.inl ⟨by rfl, ?_⟩) hHeld ?_
        rotate_left 1
        · (intro w hSw; (try dsimp only at hSw); go_simp; try with_reducible rfl)
        try simp only [Act.put, List.setIfInBounds_toArray, List.set_cons_zero, List.set_cons_succ]
        refine wpAnyK_take (i := 5) (oi := _) (v := ?_) (by simp only [List.getElem?_toArray, List.getElem?_cons_succ, List.getElem?_cons_zero]; rfl) (by kernel_rfl) (by kernel_rfl) (by kernel_rfl) (by kernel_rfl) (by kernel_rfl) (by exact fun _ _ _ h => h) (Or.inl ⟨by rfl, ?_⟩) hHeld ?_
        rotate_left 1
        · (intro w hSw; (try dsimp only at hSw); go_simp; try with_reducible rfl)
        try simp only [Act.put, List.setIfInBounds_toArray, List.set_cons_zero, List.set_cons_succ]
        refine wpAnyK_take (i := 6) (oi := _) (v := ?_) (by simp only [List.getElem?_toArray, List.getElem?_cons_succ, List.getElem?_cons_zero]; rfl) (by kernel_rfl) (by kernel_rfl) (by kernel_rfl) (by kernel_rfl) (by kernel_rfl) (by exact fun _ _ _ h => h) (Or.inl ⟨by rfl, ?_⟩) hHeld ?_
        rotate_left 1
        · (intro w hSw; (try dsimp only at hSw); go_simp; try with_reducible rfl)
        try simp only [Act.put, List.setIfInBounds_toArray, List.set_cons_zero, List.set_cons_succ]
        refine wpAnyK_take (i := 7) (oi := _) (v := ?_) (by simp only [List.getElem?_toArray, List.getElem?_cons_succ, List.getElem?_cons_zero]; rfl) (by kernel_rfl) (by kernel_rfl) (by kernel_rfl) (by kernel_rfl) (by kernel_rfl) (by exact fun _ _ _ h => h) (Or.inl ⟨by rfl, ?_⟩) hHeld ?_
        rotate_left 1
        · (intro w hSw; (try dsimp only at hSw); go_simp; try with_reducible rfl)
        try simp only [Act.put, List.setIfInBounds_toArray, List.set_cons_zero, List.set_cons_succ]
        refine wpAnyK_take (i := 8) (oi := _) (v := ?_) (by simp only [List.getElem?_toArray, List.getElem?_cons_succ, List.getElem?_cons_zero]; rfl) (by kernel_rfl) (by kernel_rfl) (by kernel_rfl) (by kernel_rfl) (by kernel_rfl) (by exact fun _ _ _ h => h) (Or.inl ⟨by rfl, ?_⟩) hHeld ?_
        rotate_left 1
        · (intro w hSw; (try dsimp only at hSw); go_simp; try with_reducible rfl)
        try simp only [Act.put, List.setIfInBounds_toArray, List.set_cons_zero, List.set_cons_succ]
        refine wpAnyK_take (i := 9) (oi := _) (v := ?_) (by simp only [List.getElem?_toArray, List.getElem?_cons_succ, List.getElem?_cons_zero]; rfl) (by kernel_rfl) (by kernel_rfl) (by kernel_rfl) (by kernel_rfl) (by kernel_rfl) (by exact fun _ _ _ h => h) (Or.inl ⟨by rfl, ?_⟩) hHeld ?_
        rotate_left 1
        · (intro w hSw; (try dsimp only at hSw); go_simp; try with_reducible rfl)
        try simp only [Act.put, List.setIfInBounds_toArray, List.set_cons_zero, List.set_cons_succ]
        refine wpAnyK_take (i := 10) (oi := _) (v := ?_) (by simp only [List.getElem?_toArray, List.getElem?_cons_succ, List.getElem?_cons_zero]; rfl) (by kernel_rfl) (by kernel_rfl) (by kernel_rfl) (by kernel_rfl) (by kernel_rfl) (by exact fun _ _ _ h => h) (Or.inl ⟨by rfl, ?_⟩) hHeld ?_
        rotate_left 1
        · (intro w hSw; (try dsimp only at hSw); go_simp; try with_reducible rfl)
        try simp only [Act.put, List.setIfInBounds_toArray, List.set_cons_zero, List.set_cons_succ]
        refine wpAnyK_take (i := 11) (oi := _) (v := ?_) (by simp only [List.getElem?_toArray, List.getElem?_cons_succ, List.getElem?_cons_zero]; rfl) (by kernel_rfl) (by kernel_rfl) (by kernel_rfl) (by kernel_rfl) (by kernel_rfl) (by exact fun _ _ _ h => h) (Or.inl ⟨by rfl, ?_⟩) hHeld ?_
        rotate_left 1
        · (intro w hSw; (try dsimp only at hSw); go_simp; try with_reducible rfl)
        try simp only [Act.put, List.setIfInBounds_toArray, List.set_cons_zero, List.set_cons_succ]
        refine wpAnyK_take (i := 12) (oi := _) (v := ?_) (by simp only [List.getElem?_toArray, List.getElem?_cons_succ, List.getElem?_cons_zero]; rfl) (by kernel_rfl) (by kernel_rfl) (by kernel_rfl) (by kernel_rfl) (by kernel_rfl) (by exact fun _ _ _ h => h) (Or.inl ⟨by rfl, ?_⟩) hHeld ?_
        rotate_left 1
        · (intro w hSw; (try dsimp only at hSw); go_simp; try with_reducible rfl)
        try simp only [Act.put, List.setIfInBounds_toArray, List.set_cons_zero, List.set_cons_succ]
        refine wpAnyK_take (i := 13) (oi := _) (v := ?_) (by simp only [List.getElem?_toArray, List.getElem?_cons_succ, List.getElem?_cons_zero]; rfl) (by kernel_rfl) (by kernel_rfl) (by kernel_rfl) (by kernel_rfl) (by kernel_rfl) (by exact fun _ _ _ h => h) (Or.inl ⟨by rfl, ?_⟩) hHeld ?_
        rotate_left 1
        · (intro w hSw; (try dsimp only at hSw); go_simp; try with_reducible rfl)
        try simp only [Act.put, List.setIfInBounds_toArray, List.set_cons_zero, List.set_cons_succ]
        refine wpAnyK_take (i := 14) (oi := _) (v := ?_) (by simp only [List.getElem?_toArray, List.getElem?_cons_succ, List.getElem?_cons_zero]; rfl) (by kernel_rfl) (by kernel_rfl) (by kernel_rfl) (by kernel_rfl) (by kernel_rfl) (by exact fun _ _ _ h => h) (Or.inl ⟨by rfl, ?_⟩) hHeld ?_
        rotate_left 1
        · (intro w hSw; (try dsimp only at hSw); go_simp; try with_reducible rfl)
        try simp only [Act.put, List.setIfInBounds_toArray, List.set_cons_zero, List.set_cons_succ]
        refine wpAnyK_one (i := 15) (o := _) (by kernel_rfl) (by simp only [List.getElem?_toArray, List.getElem?_cons_succ, List.getElem?_cons_zero]; rfl) (fun K hK => ?_)
        go_simp
        (with_reducible refine (HBit.out _).mono ?_); rintro e w1 ⟨rfl, hb⟩; obtain ⟨hcl, hfr⟩ := bcell_drew hb; have HB1 : Hid (Below wr.heap.size wr w1) := bl_trans (Below.refl _ _).drew hb; have y0 : w.heap.size < w1.heap.size := (by have hz := hb.size; simp at hz; omega); have y3 : w.heap.size + 1 + 1 + 1 < w1.heap.size := (by have hz := hb.size; simp at hz; omega); clear hb
        try go_wp2_with fail
        refine hK.out _ _ (fun _ => ?_) (fun hHeldN => ?_)
        · (try dsimp only); (first | (simp [*, go_sem]; done) | (simp [*, go_sem, World.cell?_alloc_past]; done))
        replace hHeld := hHeldN (by kernel_rfl)
        clear hK K hHeldN
        try simp only [Act.put, List.setIfInBounds_toArray, List.set_cons_zero, List.set_cons_succ]
        refine wpAnyK_take (i := 16) (oi := _) (v := ?_) (by simp only [List.getElem?_toArray, List.getElem?_cons_succ, List.getElem?_cons_zero]; rfl) (by kernel_rfl) (by kernel_rfl) (by kernel_rfl) (by kernel_rfl) (by kernel_rfl) (by exact fun _ _ _ h => h) (Or.inl ⟨by rfl, ?_⟩) hHeld ?_
        rotate_left 1
        · (intro w hSw; (try dsimp only at hSw); go_simp; try with_reducible rfl)
        try simp only [Act.put, List.setIfInBounds_toArray, List.set_cons_zero, List.set_cons_succ]
        refine wpAnyK_take (i := 17) (oi := _) (v := ?_) (by simp only [List.getElem?_toArray, List.getElem?_cons_succ, List.getElem?_cons_zero]; rfl) (by kernel_rfl) (by kernel_rfl) (by kernel_rfl) (by kernel_rfl) (by kernel_rfl) (by exact fun _ _ _ h => h) (Or.inl ⟨by rfl, ?_⟩) hHeld ?_
        rotate_left 1
        · (intro w hSw; (try dsimp only at hSw); go_simp; try with_reducible rfl)
        try simp only [Act.put, List.setIfInBounds_toArray, List.set_cons_zero, List.set_cons_succ]
        refine wpAnyK_take (i := 18) (oi := _) (v := ?_) (by simp only [List.getElem?_toArray, List.getElem?_cons_succ, List.getElem?_cons_zero]; rfl) (by kernel_rfl) (by kernel_rfl) (by kernel_rfl) (by kernel_rfl) (by kernel_rfl) (by exact fun _ _ _ h => h) (Or.inl ⟨by rfl, ?_⟩) hHeld ?_
        rotate_left 1
        · (intro w hSw; (try dsimp only at hSw); go_simp; try with_reducible rfl)
        try simp only [Act.put, List.setIfInBounds_toArray, List.set_cons_zero, List.set_cons_succ]
        refine wpAnyK_one (i := 19) (o := _) (by kernel_rfl) (by simp only [List.getElem?_toArray, List.getElem?_cons_succ, List.getElem?_cons_zero]; rfl) (fun K hK => ?_)
        go_simp
        refine hK.out _ _ (fun h => absurd (Eq.trans (Eq.symm h) (by kernel_rfl)) Bool.false_ne_true) (fun _ => ?_)
        clear hK K
        try simp only [Act.put, List.setIfInBounds_toArray, List.set_cons_zero, List.set_cons_succ]
        refine wpAnyK_done (by kernel_rfl) ?_ _
        clear hHeld
        clear hcl hfr y0 y3 c4 c5 ca3 ca2 ca1 ca0 cb1 cb0 zA zB zO zQ fo fq
        have HP1 := Lib.hid ((HP.out.step HB1.out).rest n1 n0)
        clear HP HB1
        go_upto_region 10 with fail
        refine name_world (P := fun W => Code.wp _ _ _ _ W) _ (fun R hR => ?_)
        rw [← hR] at HP1
        clear hR
        have P := HP1.out
        have c4 := P.out.2 4 _ rfl; have c5 := P.out.2 5 _ rfl
        have ca3 := P.a.2 0 _ rfl; have ca2 := P.a.2 1 _ rfl; have ca1 := P.a.2 2 _ rfl; have ca0 := P.a.2 3 _ rfl
        have cb1 := P.b.2 0 _ rfl; have cb0 := P.b.2 1 _ rfl
        have zA := P.a.1; have zB := P.b.1; have zO := P.out.1; have zQ := P.size
        have fo : ∀ j, R.frozen? ⟨w.heap.size + 1 + 1 + 1, j, none⟩ = false := P.zo
        have fq : ∀ j, R.frozen? ⟨w.heap.size + 1 + 1 + 1 + 1, j, none⟩ = false := P.zq
        clear P
        go_wp2_with fail
        (with_reducible refine (HLess.out _).mono ?_); rintro e w2 ⟨rfl, hb⟩
        have HP2 := Lib.hid (HP1.out.step hb)
        clear hb HP1 c4 c5 ca3 ca2 ca1 ca0 cb1 cb0 zA zB zO zQ fo fq
        have P := HP2.out
        have c4 := P.out.2 4 _ rfl; have c5 := P.out.2 5 _ rfl
        have ca3 := P.a.2 0 _ rfl; have ca2 := P.a.2 1 _ rfl; have ca1 := P.a.2 2 _ rfl; have ca0 := P.a.2 3 _ rfl
        have cb1 := P.b.2 0 _ rfl; have cb0 := P.b.2 1 _ rfl
        have zA := P.a.1; have zB := P.b.1; have zO := P.out.1; have zQ := P.size
        have fo : ∀ j, w2.frozen? ⟨w.heap.size + 1 + 1 + 1, j, none⟩ = false := P.zo
        have fq : ∀ j, w2.frozen? ⟨w.heap.size + 1 + 1 + 1 + 1, j, none⟩ = false := P.zq
        clear P
        go_wp2_with fail
        (with_reducible refine (HSub.out _).mono ?_); rintro e w3 ⟨rfl, hb⟩
        have HP3 := Lib.hid (HP2.out.step hb)
        clear hb HP2 c4 c5 ca3 ca2 ca1 ca0 cb1 cb0 zA zB zO zQ fo fq
        have P := HP3.out
        have c4 := P.out.2 4 _ rfl; have c5 := P.out.2 5 _ rfl
        have ca3 := P.a.2 0 _ rfl; have ca2 := P.a.2 1 _ rfl; have ca1 := P.a.2 2 _ rfl; have ca0 := P.a.2 3 _ rfl
        have cb1 := P.b.2 0 _ rfl; have cb0 := P.b.2 1 _ rfl
        have zA := P.a.1; have zB := P.b.1; have zO := P.out.1; have zQ := P.size
        have fo : ∀ j, w3.frozen? ⟨w.heap.size + 1 + 1 + 1, j, none⟩ = false := P.zo
        have fq : ∀ j, w3.frozen? ⟨w.heap.size + 1 + 1 + 1 + 1, j, none⟩ = false := P.zq
        clear P
        go_upto_region 12 with fail
        refine name_world (P := fun W => Code.wp _ _ _ _ W) _ (fun R2 hR2 => ?_)
        have HP4 : Hid (Dv w a3 a2 a1 a0 b1 b0 m1 m0 QQ R2) := by rw [hR2]; exact HP3.out.rest m1 m0
        clear hR2 HP3 c4 c5 ca3 ca2 ca1 ca0 cb1 cb0 zA zB zO zQ fo fq
        have P := HP4.out
        have c4 := P.out.2 4 _ rfl; have c5 := P.out.2 5 _ rfl
        have ca3 := P.a.2 0 _ rfl; have ca2 := P.a.2 1 _ rfl; have ca1 := P.a.2 2 _ rfl; have ca0 := P.a.2 3 _ rfl
        have cb1 := P.b.2 0 _ rfl; have cb0 := P.b.2 1 _ rfl
        have zA := P.a.1; have zB := P.b.1; have zO := P.out.1; have zQ := P.size
        have fo : ∀ j, R2.frozen? ⟨w.heap.size + 1 + 1 + 1, j, none⟩ = false := P.zo
        have fq : ∀ j, R2.frozen? ⟨w.heap.size + 1 + 1 + 1 + 1, j, none⟩ = false := P.zq
        have cq := P.q q hq4
        clear P
        go_region_with (fail)
        go_wp2_with fail
        go_roundg k
        case measure => omega
        case rel => exact ⟨by omega, rfl, by rw [HE.out.1, HE.out.2.1]; exact (HP4.out.quot HE.out.2.2.1 HE.out.2.2.2 hq4).step (Below.refl _ _).drew⟩
theorem rdiv_any (a3 a2 a1 a0 b1 b0 : Int) (h3 : Wd a3) (h2 : Wd a2) (h1 : Wd a1) (h0 : Wd a0) (k1 : Wd b1) (k0 : Wd b0) (hb : v2 b1 b0 ≠ 0) (w : World) :
    Calls Try.prog 15 #[.agg #[.int .u64 a3, .int .u64 a2, .int .u64 a1, .int .u64 a0], .agg #[.int .u64 b1, .int .u64 b0]] w fun e w' =>
      e = .returned (.agg #[.int .u64 (wd (v4 a3 a2 a1 a0 / v2 b1 b0) 3), .int .u64 (wd (v4 a3 a2 a1 a0 / v2 b1 b0) 2), .int .u64 (wd (v4 a3 a2 a1 a0 / v2 b1 b0) 1), .int .u64 (wd (v4 a3 a2 a1 a0 / v2 b1 b0) 0), .int .u64 (wd (v4 a3 a2 a1 a0 % v2 b1 b0) 1), .int .u64 (wd (v4 a3 a2 a1 a0 % v2 b1 b0) 0), .bool true]) ∧ Below w.heap.size w w' := by
  have hA := v4_lt h3 h2 h1 h0
  rw [show (115792089237316195423570985008687907853269984665640564039457584007913129639936 : Nat) = 2 ^ 256 by decide] at hA
  refine rdiv_core a3 a2 a1 a0 b1 b0 (v4 a3 a2 a1 a0) (v2 b1 b0) (fun W => ?_) hb (v2_lt k1 k0) hA (fun i hi W => rbit_any a3 a2 a1 a0 h3 h2 h1 h0 i hi W) (fun n W => ?_) (fun n W => ?_) w
  · rw [eq_two, decide_eq_false]
    rintro ⟨rfl, rfl⟩
    exact hb rfl
  · have := less_any _ _ b1 b0 (wd_wd n 1) (wd_wd n 0) k1 k0 W
    rw [v2_wd] at this
    exact this
  · have := subTwo_any _ _ b1 b0 (wd_wd n 1) (wd_wd n 0) k1 k0 W
    rw [v2_wd] at this
    exact this
end Go.Proofs.Ytgcblfaommhpbaa
