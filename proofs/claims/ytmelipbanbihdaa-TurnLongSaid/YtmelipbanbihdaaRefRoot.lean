/- The document's root. -/
import Derived.Test.YtmelipbanbihdaaRefMulTwo
import Derived.Test.YtmelipbanbihdaaRefWords
namespace Go.Proofs.Ytmelipbanbihdaa
open Go.RowKit

theorem rt_room {N k : Nat} (h : isq N < 340282366920938463463374607431768211456) (hk : k < 128) : rt N (k + 1) + 2 ^ k < 340282366920938463463374607431768211456 := by
  unfold rt
  have e : (340282366920938463463374607431768211456 : Nat) = 2 ^ (127 - k) * 2 ^ (k + 1) := by
    rw [← Nat.pow_add, show 127 - k + (k + 1) = 128 by omega]
  have hp := Nat.two_pow_pos k
  have h1 : isq N / 2 ^ (k + 1) < 2 ^ (127 - k) := by rw [Nat.div_lt_iff_lt_mul (Nat.two_pow_pos _), ← e]; exact h
  have h2 := Nat.mul_le_mul_right (2 ^ (k + 1)) (show isq N / 2 ^ (k + 1) + 1 ≤ 2 ^ (127 - k) from h1)
  rw [← e, Nat.add_mul, Nat.one_mul] at h2
  have h3 : (2 : Nat) ^ (k + 1) = 2 ^ k * 2 := Nat.pow_succ 2 k
  omega
/-- What stands at a round's head: the number, room for the answer, the root's bits that have come. -/
structure Rh (w : World) (a3 a2 a1 a0 s1 s0 : Int) (X : World) : Prop where
  a : Has w.heap.size [.int .u64 a3, .int .u64 a2, .int .u64 a1, .int .u64 a0] X
  r : Has (w.heap.size + 1) [.int .u64 0, .int .u64 0] X
  s : Has (w.heap.size + 1 + 1) [.int .u64 s1, .int .u64 s0] X
  zr : Clear (w.heap.size + 1) X
  zs : Clear (w.heap.size + 1 + 1) X
  below : Below w.heap.size w X
theorem Rh.step {w : World} {a3 a2 a1 a0 s1 s0 : Int} {X Y : World} (h : Rh w a3 a2 a1 a0 s1 s0 X) (g : Below X.heap.size X Y) : Rh w a3 a2 a1 a0 s1 s0 Y :=
  ⟨h.a.step g, h.r.step g, h.s.step g, fun j => by rw [(bcell g).2 _ _ h.r.1]; exact h.zr j, fun j => by rw [(bcell g).2 _ _ h.s.1]; exact h.zs j, bl_trans h.below g⟩
theorem Rh.stored {w : World} {a3 a2 a1 a0 s1 s0 : Int} {X : World} (h : Rh w a3 a2 a1 a0 s1 s0 X) (t1 t0 : Int) :
    Rh w a3 a2 a1 a0 t1 t0 ((X.setCell ⟨w.heap.size + 1 + 1, 0, none⟩ (.int .u64 t1)).setCell ⟨w.heap.size + 1 + 1, 1, none⟩ (.int .u64 t0)) := by
  have hW : Wrote (w.heap.size + 1 + 1) 0 2 X ((X.setCell ⟨w.heap.size + 1 + 1, 0, none⟩ (.int .u64 t1)).setCell ⟨w.heap.size + 1 + 1, 1, none⟩ (.int .u64 t0)) :=
    Wrote.setCell (Wrote.setCell (Wrote.refl _ _ _ _) (by decide) (by decide) _) (by decide) (by decide) _
  have hs := h.s
  have cs0 := hs.2 0 _ rfl; have cs1 := hs.2 1 _ rfl
  refine ⟨⟨Nat.lt_of_lt_of_le h.a.1 hW.size, fun j x e => ?_⟩, ⟨Nat.lt_of_lt_of_le h.r.1 hW.size, fun j x e => ?_⟩, Has.mk2 (Nat.lt_of_lt_of_le hs.1 hW.size) (by simp [go_sem, *]) (by simp [go_sem, *]), fun j => ?_, fun j => ?_, ?_⟩
  · rw [hW.other h.a.1 (by omega)]; exact h.a.2 j x e
  · rw [hW.other h.r.1 (by omega)]; exact h.r.2 j x e
  · rw [World.frozen?_of_block (a := ⟨w.heap.size + 1, j, none⟩) (hW.block (w.heap.size + 1) h.r.1 (by omega))]; exact h.zr j
  · rw [hW.frozen]; exact h.zs j
  · exact h.below.trans (hW.below (B0 := w.heap.size) (by omega) (by have := h.a.1; omega))
set_option maxRecDepth 20000 in
set_option maxHeartbeats 8000000 in
theorem rroot_any (a3 a2 a1 a0 : Int) (h3 : Wd a3) (h2 : Wd a2) (h1 : Wd a1) (h0 : Wd a0) (w : World) :
    Calls Try.prog 54 #[.agg #[.int .u64 a3, .int .u64 a2, .int .u64 a1, .int .u64 a0]] w fun e w' => e = .returned (.agg #[.int .u64 (wd (isq (v4 a3 a2 a1 a0)) 1), .int .u64 (wd (isq (v4 a3 a2 a1 a0)) 0)]) ∧ Below w.heap.size w w' := by
  have HA := Lib.hid (isq_128 (v4_lt h3 h2 h1 h0))
  have HM : Hid (∀ q : Nat, q < 340282366920938463463374607431768211456 → ∀ W, Calls Try.prog 40 #[.agg #[.int .u64 (wd q 1), .int .u64 (wd q 0)], .agg #[.int .u64 (wd q 1), .int .u64 (wd q 0)]] W fun e w' =>
      e = .returned (.agg #[.int .u64 (wd (q * q) 3), .int .u64 (wd (q * q) 2), .int .u64 (wd (q * q) 1), .int .u64 (wd (q * q) 0)]) ∧ Below W.heap.size W w') := fun q hq W => by
    have := mulTwo_any _ _ _ _ (wd_wd q 1) (wd_wd q 0) (wd_wd q 1) (wd_wd q 0) W
    rw [v2_wd, Nat.mod_eq_of_lt hq] at this
    exact this
  have HC : Hid (∀ q : Nat, q < 340282366920938463463374607431768211456 → ∀ W, Calls Try.prog 71 #[.agg #[.int .u64 (wd (q * q) 3), .int .u64 (wd (q * q) 2), .int .u64 (wd (q * q) 1), .int .u64 (wd (q * q) 0)], .agg #[.int .u64 a3, .int .u64 a2, .int .u64 a1, .int .u64 a0]] W fun e w' =>
      e = .returned (.int .i64 (icmp ((q * q : Nat) : Int) ((v4 a3 a2 a1 a0 : Nat) : Int))) ∧ Below W.heap.size W w') := fun q hq W => by
    have := rcmp_any _ _ _ _ a3 a2 a1 a0 (wd_wd (q * q) 3) (wd_wd (q * q) 2) (wd_wd (q * q) 1) (wd_wd (q * q) 0) h3 h2 h1 h0 W
    rw [v4_small (Nat.mul_lt_mul'' (c := 340282366920938463463374607431768211456) (d := 340282366920938463463374607431768211456) hq hq)] at this
    exact this
  clear h3 h2 h1 h0
  generalize v4 a3 a2 a1 a0 = N at *
  go_enter Try.func54, Try.ntmps54
  go_wp2_with fail
  refine name_world (P := fun W => Code.wp _ _ _ _ W) _ (fun R hR => ?_)
  have g0 : Rh w a3 a2 a1 a0 0 0 R := by
    rw [hR]
    refine ⟨Has.mk4 (by first | (simp; done) | (simp; omega)) (by simp [go_sem]) (by simp [go_sem]) (by simp [go_sem]) (by simp [go_sem]), Has.mk2 (by first | (simp; done) | (simp; omega)) (by simp [go_sem]) (by simp [go_sem]), Has.mk2 (by first | (simp; done) | (simp; omega)) (by simp [go_sem]) (by simp [go_sem]), fun j => ?_, fun j => ?_, (by repeat (first | with_reducible exact Below.refl _ _ | with_reducible exact Hid.out (by assumption) | with_reducible refine Below.setCell ?_ (by first | (simp; done) | omega | (simp <;> omega)) _ | with_reducible refine bl_al ?_ _ | with_reducible apply Below.drew))⟩
    · simp only [frozen?_alloc_cells]; exact frozen_past (by omega)
    · simp only [frozen?_alloc_cells]; exact frozen_past (by omega)
  have G0 := Lib.hid g0
  clear g0 hR
  go_loopg [4] 128 (fun k iv wr => k ≤ 128 ∧ iv = .int .i64 ((k : Int) - 1) ∧ Rh w a3 a2 a1 a0 (wd (rt N k) 1) (wd (rt N k) 0) wr)
  case atStart =>
    refine ⟨Nat.le_refl _, rfl, ?_⟩
    have e : rt N 128 = 0 := rt_top HA.out
    rw [e]; exact G0.out
  case round =>
    obtain ⟨hk, rfl, P⟩ := hrel
    clear G0
    rcases gk with _ | k
    · rw [rt_end] at P
      have HP := Lib.hid P
      have cs1 := P.s.2 0 _ rfl; have cs0 := P.s.2 1 _ rfl
      have cr1 := P.r.2 0 _ rfl; have cr0 := P.r.2 1 _ rfl
      have zr : ∀ j, wr.frozen? ⟨w.heap.size + 1, j, none⟩ = false := P.zr
      clear P HA HM HC
      go_wp2_with fail
      refine bodyPost_ret (by simp [results, Try.results54, go_sem, *]; try rfl) rfl ?_
      exact ⟨rfl, Below.setCell (Below.setCell HP.out.below (by simp) _) (by simp) _⟩
    · have HP := Lib.hid P
      have k1 : ((k + 1 : Nat) : Int) - 1 = (k : Int) := by omega
      have k4 : (k : Int) < 128 := by omega
      have wk : IntKind.i64.wrap ((k : Int) - 1) = (k : Int) - 1 := IntWalk.i64_in _ (by omega)
      rw [k1]
      have hroom := rt_room HA.out (show k < 128 by omega)
      have HM1 := Lib.hid (HM.out _ hroom)
      have HC1 := Lib.hid (HC.out _ hroom)
      have hst := rt_step N k
      have HNX : Hid ((icmp (((rt N (k + 1) + 2 ^ k) * (rt N (k + 1) + 2 ^ k) : Nat) : Int) ((N : Nat) : Int) ≤ 0 ∧ rt N k = rt N (k + 1) + 2 ^ k) ∨ (¬ icmp (((rt N (k + 1) + 2 ^ k) * (rt N (k + 1) + 2 ^ k) : Nat) : Int) ((N : Nat) : Int) ≤ 0 ∧ rt N k = rt N (k + 1))) := by
        rcases hst with ⟨g, e⟩ | ⟨g, e⟩
        · left; refine ⟨?_, e⟩; generalize (rt N (k + 1) + 2 ^ k) * (rt N (k + 1) + 2 ^ k) = T at *; unfold icmp; split <;> (try split) <;> omega
        · right; refine ⟨?_, e⟩; generalize (rt N (k + 1) + 2 ^ k) * (rt N (k + 1) + 2 ^ k) = T at *; unfold icmp; rw [if_neg (by omega), if_pos (by omega)]; decide
      have cs1 := P.s.2 0 _ rfl; have cs0 := P.s.2 1 _ rfl
      have ca3 := P.a.2 0 _ rfl; have ca2 := P.a.2 1 _ rfl; have ca1 := P.a.2 2 _ rfl; have ca0 := P.a.2 3 _ rfl
      have zA := P.a.1; have zS := P.s.1
      have zs : ∀ j, wr.frozen? ⟨w.heap.size + 1 + 1, j, none⟩ = false := P.zs
      have hQ := rt_dvd N (k + 1)
      clear P HA HM HC hst k1 hroom
      generalize (rt N (k + 1) + 2 ^ k) * (rt N (k + 1) + 2 ^ k) = TT at *
      rcases Nat.lt_or_ge k 64 with hlt | hge
      · obtain ⟨w1, w2⟩ := word_more (Q := rt N (k + 1)) (m := k) (q := 0) (r := k) hlt (by omega) hQ
        have hw := w2 1 (by decide)
        have hor : bits .or .u64 (wd (rt N (k + 1)) 0) (2 ^ k) = wd (rt N (k + 1) + 2 ^ k) 0 := by rw [← w1]; congr 1
        have hsh : IntKind.u64.wrap ((2 : Int) ^ k) = 2 ^ k := by
          have := pow_word k hlt
          have e : ((2 : Int) ^ k) = ((2 ^ k : Nat) : Int) := by simp
          rw [e]; clear e; generalize (2 : Nat) ^ k = Z at *; exact IntWalk.u64_in _ (by omega)
        have kk : ¬ (64 : Int) ≤ k := by omega
        clear w1 w2 hQ
        have HNY : Hid ((icmp (TT : Int) (N : Int) ≤ 0 ∧ (wd (rt N k) 1 = wd (rt N (k + 1) + 2 ^ k) 1 ∧ wd (rt N k) 0 = wd (rt N (k + 1) + 2 ^ k) 0)) ∨ (¬ icmp (TT : Int) (N : Int) ≤ 0 ∧ (wd (rt N k) 1 = wd (rt N (k + 1)) 1 ∧ wd (rt N k) 0 = wd (rt N (k + 1)) 0))) := by
          rcases HNX.out with ⟨g, e⟩ | ⟨g, e⟩
          · exact Or.inl ⟨g, by rw [e], by rw [e]⟩
          · exact Or.inr ⟨g, by rw [e], by rw [e]⟩
        clear HNX
        rw [hw] at HM1 HNY
        generalize ht0 : wd (rt N (k + 1) + 2 ^ k) 0 = t0 at *
        generalize hs1 : wd (rt N (k + 1)) 1 = s1 at *
        generalize hs0 : wd (rt N (k + 1)) 0 = s0 at *
        generalize hr1 : wd (rt N k) 1 = r1 at *
        generalize hr0 : wd (rt N k) 0 = r0 at *
        generalize wd TT 3 = q3 at *
        generalize wd TT 2 = q2 at *
        generalize wd TT 1 = q1 at *
        generalize wd TT 0 = q0 at *
        generalize icmp (TT : Int) (N : Int) = c at *
        clear hw ht0 hs1 hs0
        go_wp2_with fail
        go_region_with (fail)
        go_wp2_with fail
        refine name_world (P := fun W => Code.wp _ _ _ _ W) _ (fun R hR => ?_)
        have hB : Below wr.heap.size wr R := by rw [hR]; exact (by repeat (first | with_reducible exact Below.refl _ _ | with_reducible exact Hid.out (by assumption) | with_reducible refine Below.setCell ?_ (by first | (simp; done) | omega | (simp <;> omega)) _ | with_reducible refine bl_al ?_ _ | with_reducible apply Below.drew))
        have ct1 : R.cell? ⟨wr.heap.size, 0, none⟩ = some (.int .u64 s1) := by rw [hR]; simp [go_sem, *]
        have ct0 : R.cell? ⟨wr.heap.size, 1, none⟩ = some (.int .u64 t0) := by rw [hR]; simp [go_sem, *]
        have zT : wr.heap.size < R.heap.size := by rw [hR]; simp
        have HPR := Lib.hid (HP.out.step hB)
        have PR := HPR.out
        have da3 := PR.a.2 0 _ rfl; have da2 := PR.a.2 1 _ rfl; have da1 := PR.a.2 2 _ rfl; have da0 := PR.a.2 3 _ rfl
        have yA := PR.a.1; have yS := PR.s.1
        have ys : ∀ j, R.frozen? ⟨w.heap.size + 1 + 1, j, none⟩ = false := PR.zs
        have nT : ¬ wr.heap.size = w.heap.size + 1 + 1 := by omega
        have nT2 : ¬ w.heap.size + 1 + 1 = wr.heap.size := by omega
        clear hR hB PR ca3 ca2 ca1 ca0 cs1 cs0 zA zS zs HP
        generalize wr.heap.size = T at *
        go_region_held3 (fun w' => w'.cell? ⟨T, 0, none⟩ = some (.int .u64 s1) ∧ w'.cell? ⟨T, 1, none⟩ = some (.int .u64 t0) ∧ w'.cell? ⟨w.heap.size, 0, none⟩ = some (.int .u64 a3) ∧ w'.cell? ⟨w.heap.size, 1, none⟩ = some (.int .u64 a2) ∧ w'.cell? ⟨w.heap.size, 2, none⟩ = some (.int .u64 a1) ∧ w'.cell? ⟨w.heap.size, 3, none⟩ = some (.int .u64 a0)) (first | (simp [*, go_sem]; done))
          (first
            | (go_at_call 40; (with_reducible refine (HM1.out _).mono ?_); rintro e x1 ⟨rfl, hb⟩; obtain ⟨hcl1, hfr1⟩ := bcell_drew hb; have z1A : w.heap.size < x1.heap.size := (by have hz := hb.size; simp at hz; omega); have z1S : w.heap.size + 1 + 1 < x1.heap.size := (by have hz := hb.size; simp at hz; omega); have z1T : T < x1.heap.size := (by have hz := hb.size; simp at hz; omega); have HB1 : Hid (Below R.heap.size R x1) := (bl_trans (Below.refl _ _).drew hb); clear hb)
            | (go_at_call 71; (with_reducible refine (HC1.out _).mono ?_); rintro e x2 ⟨rfl, hb⟩; obtain ⟨hcl2, hfr2⟩ := bcell hb; have z2A : w.heap.size < x2.heap.size := (by have hz := hb.size; omega); have z2S : w.heap.size + 1 + 1 < x2.heap.size := (by have hz := hb.size; omega); have z2T : T < x2.heap.size := (by have hz := hb.size; omega); have HB2 : Hid (Below R.heap.size R x2) := (bl_trans HB1.out hb); clear hb))
        rename_i hHeld
        clear hHeld
        have HP2 := Lib.hid (HPR.out.step HB2.out)
        have ds1 := HP2.out.s.2 0 _ rfl; have ds0 := HP2.out.s.2 1 _ rfl
        have xs : ∀ j, x2.frozen? ⟨w.heap.size + 1 + 1, j, none⟩ = false := HP2.out.zs
        have dt1 : x2.cell? ⟨T, 0, none⟩ = some (.int .u64 s1) := by rw [hcl2 _ _ z1T, hcl1 _ _ zT]; exact ct1
        have dt0 : x2.cell? ⟨T, 1, none⟩ = some (.int .u64 t0) := by rw [hcl2 _ _ z1T, hcl1 _ _ zT]; exact ct0
        clear hcl2 hfr2 hcl1 hfr1 ct1 ct0 da3 da2 da1 da0 HM1 HC1 HB1 HB2 HPR ys
        rcases HNY.out with ⟨hc, e1, e0⟩ | ⟨hc, e1, e0⟩
        · clear HNY
          subst e1; subst e0
          go_wp2_with fail
          go_roundg k
          case measure => omega
          case rel => exact ⟨by omega, rfl, by rw [hr1, hr0]; exact HP2.out.stored _ _⟩
        · clear HNY
          subst e1; subst e0
          go_wp2_with fail
          go_roundg k
          case measure => omega
          case rel => exact ⟨by omega, rfl, by rw [hr1, hr0]; exact HP2.out⟩
      · obtain ⟨r, rfl⟩ : ∃ r, k = 64 + r := ⟨k - 64, by omega⟩
        obtain ⟨w1, w2⟩ := word_more (Q := rt N (64 + r + 1)) (m := 64 + r) (q := 1) (r := r) (by omega) (by omega) hQ
        have hw := w2 0 (by decide)
        have hor : bits .or .u64 (wd (rt N (64 + r + 1)) 1) (2 ^ r) = wd (rt N (64 + r + 1) + 2 ^ (64 + r)) 1 := by rw [← w1]; congr 1
        have hsh : IntKind.u64.wrap ((2 : Int) ^ r) = 2 ^ r := by
          have := pow_word r (by omega)
          have e : ((2 : Int) ^ r) = ((2 ^ r : Nat) : Int) := by simp
          rw [e]; clear e; generalize (2 : Nat) ^ r = Z at *; exact IntWalk.u64_in _ (by omega)
        have kk : (64 : Int) ≤ ((64 + r : Nat) : Int) := by omega
        have kr : IntKind.i64.wrap (((64 + r : Nat) : Int) - 64) = (r : Int) := by rw [show ((64 + r : Nat) : Int) - 64 = (r : Int) by omega]; exact IntWalk.i64_in _ (by omega)
        have r6 : (r : Int) < 64 := by omega
        generalize hkk : ((64 + r : Nat) : Int) = K at *
        have HKK := Lib.hid hkk
        clear hkk
        clear w1 w2 hQ
        have HNY : Hid ((icmp (TT : Int) (N : Int) ≤ 0 ∧ (wd (rt N (64 + r)) 1 = wd (rt N ((64 + r) + 1) + 2 ^ (64 + r)) 1 ∧ wd (rt N (64 + r)) 0 = wd (rt N ((64 + r) + 1) + 2 ^ (64 + r)) 0)) ∨ (¬ icmp (TT : Int) (N : Int) ≤ 0 ∧ (wd (rt N (64 + r)) 1 = wd (rt N ((64 + r) + 1)) 1 ∧ wd (rt N (64 + r)) 0 = wd (rt N ((64 + r) + 1)) 0))) := by
          rcases HNX.out with ⟨g, e⟩ | ⟨g, e⟩
          · exact Or.inl ⟨g, by rw [e], by rw [e]⟩
          · exact Or.inr ⟨g, by rw [e], by rw [e]⟩
        clear HNX
        rw [hw] at HM1 HNY
        generalize ht1 : wd (rt N ((64 + r) + 1) + 2 ^ (64 + r)) 1 = t1 at *
        generalize hs1 : wd (rt N ((64 + r) + 1)) 1 = s1 at *
        generalize hs0 : wd (rt N ((64 + r) + 1)) 0 = s0 at *
        generalize hr1 : wd (rt N (64 + r)) 1 = r1 at *
        generalize hr0 : wd (rt N (64 + r)) 0 = r0 at *
        generalize wd TT 3 = q3 at *
        generalize wd TT 2 = q2 at *
        generalize wd TT 1 = q1 at *
        generalize wd TT 0 = q0 at *
        generalize icmp (TT : Int) (N : Int) = c at *
        clear hw ht1 hs1 hs0
        go_wp2_with fail
        go_region_with (fail)
        go_wp2_with fail
        refine name_world (P := fun W => Code.wp _ _ _ _ W) _ (fun R hR => ?_)
        have hB : Below wr.heap.size wr R := by rw [hR]; exact (by repeat (first | with_reducible exact Below.refl _ _ | with_reducible exact Hid.out (by assumption) | with_reducible refine Below.setCell ?_ (by first | (simp; done) | omega | (simp <;> omega)) _ | with_reducible refine bl_al ?_ _ | with_reducible apply Below.drew))
        have ct1 : R.cell? ⟨wr.heap.size, 0, none⟩ = some (.int .u64 t1) := by rw [hR]; simp [go_sem, *]
        have ct0 : R.cell? ⟨wr.heap.size, 1, none⟩ = some (.int .u64 s0) := by rw [hR]; simp [go_sem, *]
        have zT : wr.heap.size < R.heap.size := by rw [hR]; simp
        have HPR := Lib.hid (HP.out.step hB)
        have PR := HPR.out
        have da3 := PR.a.2 0 _ rfl; have da2 := PR.a.2 1 _ rfl; have da1 := PR.a.2 2 _ rfl; have da0 := PR.a.2 3 _ rfl
        have yA := PR.a.1; have yS := PR.s.1
        have ys : ∀ j, R.frozen? ⟨w.heap.size + 1 + 1, j, none⟩ = false := PR.zs
        have nT : ¬ wr.heap.size = w.heap.size + 1 + 1 := by omega
        have nT2 : ¬ w.heap.size + 1 + 1 = wr.heap.size := by omega
        clear hR hB PR ca3 ca2 ca1 ca0 cs1 cs0 zA zS zs HP
        generalize wr.heap.size = T at *
        go_region_held3 (fun w' => w'.cell? ⟨T, 0, none⟩ = some (.int .u64 t1) ∧ w'.cell? ⟨T, 1, none⟩ = some (.int .u64 s0) ∧ w'.cell? ⟨w.heap.size, 0, none⟩ = some (.int .u64 a3) ∧ w'.cell? ⟨w.heap.size, 1, none⟩ = some (.int .u64 a2) ∧ w'.cell? ⟨w.heap.size, 2, none⟩ = some (.int .u64 a1) ∧ w'.cell? ⟨w.heap.size, 3, none⟩ = some (.int .u64 a0)) (first | (simp [*, go_sem]; done))
          (first
            | (go_at_call 40; (with_reducible refine (HM1.out _).mono ?_); rintro e x1 ⟨rfl, hb⟩; obtain ⟨hcl1, hfr1⟩ := bcell_drew hb; have z1A : w.heap.size < x1.heap.size := (by have hz := hb.size; simp at hz; omega); have z1S : w.heap.size + 1 + 1 < x1.heap.size := (by have hz := hb.size; simp at hz; omega); have z1T : T < x1.heap.size := (by have hz := hb.size; simp at hz; omega); have HB1 : Hid (Below R.heap.size R x1) := (bl_trans (Below.refl _ _).drew hb); clear hb)
            | (go_at_call 71; (with_reducible refine (HC1.out _).mono ?_); rintro e x2 ⟨rfl, hb⟩; obtain ⟨hcl2, hfr2⟩ := bcell hb; have z2A : w.heap.size < x2.heap.size := (by have hz := hb.size; omega); have z2S : w.heap.size + 1 + 1 < x2.heap.size := (by have hz := hb.size; omega); have z2T : T < x2.heap.size := (by have hz := hb.size; omega); have HB2 : Hid (Below R.heap.size R x2) := (bl_trans HB1.out hb); clear hb))
        rename_i hHeld
        clear hHeld
        have HP2 := Lib.hid (HPR.out.step HB2.out)
        have ds1 := HP2.out.s.2 0 _ rfl; have ds0 := HP2.out.s.2 1 _ rfl
        have xs : ∀ j, x2.frozen? ⟨w.heap.size + 1 + 1, j, none⟩ = false := HP2.out.zs
        have dt1 : x2.cell? ⟨T, 0, none⟩ = some (.int .u64 t1) := by rw [hcl2 _ _ z1T, hcl1 _ _ zT]; exact ct1
        have dt0 : x2.cell? ⟨T, 1, none⟩ = some (.int .u64 s0) := by rw [hcl2 _ _ z1T, hcl1 _ _ zT]; exact ct0
        clear hcl2 hfr2 hcl1 hfr1 ct1 ct0 da3 da2 da1 da0 HM1 HC1 HB1 HB2 HPR ys
        rcases HNY.out with ⟨hc, e1, e0⟩ | ⟨hc, e1, e0⟩
        · clear HNY
          subst e1; subst e0
          go_wp2_with fail
          go_roundg (64 + r)
          case measure => omega
          case rel => exact ⟨by omega, by rw [HKK.out], by rw [hr1, hr0]; exact HP2.out.stored _ _⟩
        · clear HNY
          subst e1; subst e0
          go_wp2_with fail
          go_roundg (64 + r)
          case measure => omega
          case rel => exact ⟨by omega, by rw [HKK.out], by rw [hr1, hr0]; exact HP2.out⟩
end Go.Proofs.Ytmelipbanbihdaa
