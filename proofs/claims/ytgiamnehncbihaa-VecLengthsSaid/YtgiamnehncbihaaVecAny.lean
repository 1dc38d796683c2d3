/- Ways: each function of the package at every way that may be. -/
import Derived.Test.YtgiamnehncbihaaVecOps
import Derived.Test.YtgiamnehncbihaaVecDot
namespace Go.Proofs.Ytgiamnehncbihaa
open Go.RowKit
open Go.ChangeMaps (setBlock)
/-- The error of two steps, X ahead of Y; what they tell together. -/
def ve (p q : Int) : Int := if oe p = 0 then oe q else oe p
def vx (p q : Int) : Int := if ve p q = 0 then p else 0
def vy (p q : Int) : Int := if ve p q = 0 then q else 0
theorem oe_my {p : Int} (h : oe p = 0) : My p := by
  by_cases m : My p
  · exact m
  · rw [oe_out m] at h; omega
theorem oe_zero_iff (p : Int) : oe p = 0 ↔ My p := ⟨oe_my, oe_in⟩
theorem ve_out {p q : Int} (h : ¬ oe p = 0) : ve p q = oe p ∧ vx p q = 0 ∧ vy p q = 0 := by
  have e : ve p q = oe p := if_neg h
  exact ⟨e, if_neg (by rw [e]; exact h), if_neg (by rw [e]; exact h)⟩
theorem ve_mid {p q : Int} (h : oe p = 0) (g : ¬ oe q = 0) : ve p q = oe q ∧ vx p q = 0 ∧ vy p q = 0 := by
  have e : ve p q = oe q := if_pos h
  exact ⟨e, if_neg (by rw [e]; exact g), if_neg (by rw [e]; exact g)⟩
theorem ve_in {p q : Int} (h : oe p = 0) (g : oe q = 0) : ve p q = 0 ∧ vx p q = p ∧ vy p q = q := by
  have e : ve p q = 0 := (if_pos h).trans g
  exact ⟨e, if_pos e, if_pos e⟩
theorem zero_words : fh 0 = 0 ∧ fl 0 = 0 := by decide
theorem vec_zero : vec 0 0 = .agg #[.int .i64 0, .int .u64 0, .int .i64 0, .int .u64 0] := by unfold vec; rw [zero_words.1, zero_words.2]
theorem eachAdd_any (ax ay bx by_ : Int) (hax : My ax) (hay : My ay) (hbx : My bx) (hby : My by_) (w : World) :
    Calls Try.prog 55 #[.func (.func 56) #[] #[], vec ax ay, vec bx by_] w fun e w' => e = .returned (.tuple #[vec (vx (ax + bx) (ay + by_)) (vy (ax + bx) (ay + by_)), .int .i64 (ve (ax + bx) (ay + by_))]) ∧ Below w.heap.size w w' := by
  have CX := fadd_any ax bx hax hbx
  have CY := fadd_any ay by_ hay hby
  obtain ⟨p, hp⟩ : ∃ p, p = ax + bx := ⟨_, rfl⟩
  obtain ⟨q, hq⟩ : ∃ q, q = ay + by_ := ⟨_, rfl⟩
  rw [← hp] at CX ⊢
  rw [← hq] at CY ⊢
  by_cases c1 : oe p = 0
  · by_cases c2 : oe q = 0
    · obtain ⟨e1, e2, e3⟩ := ve_in c1 c2
      rw [e1, e2, e3]
      rw [ov_in (oe_my c1)] at CX
      rw [ov_in (oe_my c2)] at CY
      exact eachAdd_ok _ _ _ _ _ _ _ _ _ _ _ _ _ _ c1 c2 w CX CY
    · obtain ⟨e1, e2, e3⟩ := ve_mid c1 c2
      rw [e1, e2, e3, vec_zero]
      exact eachAdd_y _ _ _ _ _ _ _ _ _ _ _ _ _ _ c1 c2 w CX CY
  · obtain ⟨e1, e2, e3⟩ := ve_out (q := q) c1
    rw [e1, e2, e3, vec_zero]
    exact eachAdd_x _ _ _ _ _ _ _ _ _ _ 0 0 _ 0 c1 w CX
theorem eachSub_any (ax ay bx by_ : Int) (hax : My ax) (hay : My ay) (hbx : My bx) (hby : My by_) (w : World) :
    Calls Try.prog 55 #[.func (.func 57) #[] #[], vec ax ay, vec bx by_] w fun e w' => e = .returned (.tuple #[vec (vx (ax - bx) (ay - by_)) (vy (ax - bx) (ay - by_)), .int .i64 (ve (ax - bx) (ay - by_))]) ∧ Below w.heap.size w w' := by
  have CX := fsub_any ax bx hax hbx
  have CY := fsub_any ay by_ hay hby
  obtain ⟨p, hp⟩ : ∃ p, p = ax - bx := ⟨_, rfl⟩
  obtain ⟨q, hq⟩ : ∃ q, q = ay - by_ := ⟨_, rfl⟩
  rw [← hp] at CX ⊢
  rw [← hq] at CY ⊢
  by_cases c1 : oe p = 0
  · by_cases c2 : oe q = 0
    · obtain ⟨e1, e2, e3⟩ := ve_in c1 c2
      rw [e1, e2, e3]
      rw [ov_in (oe_my c1)] at CX
      rw [ov_in (oe_my c2)] at CY
      exact eachSub_ok _ _ _ _ _ _ _ _ _ _ _ _ _ _ c1 c2 w CX CY
    · obtain ⟨e1, e2, e3⟩ := ve_mid c1 c2
      rw [e1, e2, e3, vec_zero]
      exact eachSub_y _ _ _ _ _ _ _ _ _ _ _ _ _ _ c1 c2 w CX CY
  · obtain ⟨e1, e2, e3⟩ := ve_out (q := q) c1
    rw [e1, e2, e3, vec_zero]
    exact eachSub_x _ _ _ _ _ _ _ _ _ _ 0 0 _ 0 c1 w CX
theorem eachMul_any (ax ay bx by_ : Int) (hax : My ax) (hay : My ay) (hbx : My bx) (hby : My by_) (w : World) :
    Calls Try.prog 55 #[.func (.func 58) #[] #[], vec ax ay, vec bx by_] w fun e w' => e = .returned (.tuple #[vec (vx (mulr ax bx) (mulr ay by_)) (vy (mulr ax bx) (mulr ay by_)), .int .i64 (ve (mulr ax bx) (mulr ay by_))]) ∧ Below w.heap.size w w' := by
  have CX := fmul_any ax bx hax hbx
  have CY := fmul_any ay by_ hay hby
  obtain ⟨p, hp⟩ : ∃ p, p = mulr ax bx := ⟨_, rfl⟩
  obtain ⟨q, hq⟩ : ∃ q, q = mulr ay by_ := ⟨_, rfl⟩
  rw [← hp] at CX ⊢
  rw [← hq] at CY ⊢
  by_cases c1 : oe p = 0
  · by_cases c2 : oe q = 0
    · obtain ⟨e1, e2, e3⟩ := ve_in c1 c2
      rw [e1, e2, e3]
      rw [ov_in (oe_my c1)] at CX
      rw [ov_in (oe_my c2)] at CY
      exact eachMul_ok _ _ _ _ _ _ _ _ _ _ _ _ _ _ c1 c2 w CX CY
    · obtain ⟨e1, e2, e3⟩ := ve_mid c1 c2
      rw [e1, e2, e3, vec_zero]
      exact eachMul_y _ _ _ _ _ _ _ _ _ _ _ _ _ _ c1 c2 w CX CY
  · obtain ⟨e1, e2, e3⟩ := ve_out (q := q) c1
    rw [e1, e2, e3, vec_zero]
    exact eachMul_x _ _ _ _ _ _ _ _ _ _ 0 0 _ 0 c1 w CX
theorem vadd_any (ax ay bx by_ : Int) (hax : My ax) (hay : My ay) (hbx : My bx) (hby : My by_) (w : World) :
    Calls Try.prog 22 #[vec ax ay, vec bx by_] w fun e w' => e = .returned (.tuple #[vec (vx (ax + bx) (ay + by_)) (vy (ax + bx) (ay + by_)), .int .i64 (ve (ax + bx) (ay + by_))]) ∧ Below w.heap.size w w' :=
  vadd_core _ _ _ _ _ _ _ _ _ _ _ _ _ w (eachAdd_any ax ay bx by_ hax hay hbx hby)
theorem vsub_any (ax ay bx by_ : Int) (hax : My ax) (hay : My ay) (hbx : My bx) (hby : My by_) (w : World) :
    Calls Try.prog 23 #[vec ax ay, vec bx by_] w fun e w' => e = .returned (.tuple #[vec (vx (ax - bx) (ay - by_)) (vy (ax - bx) (ay - by_)), .int .i64 (ve (ax - bx) (ay - by_))]) ∧ Below w.heap.size w w' :=
  vsub_core _ _ _ _ _ _ _ _ _ _ _ _ _ w (eachSub_any ax ay bx by_ hax hay hbx hby)
theorem vscale_any (ax ay k : Int) (hax : My ax) (hay : My ay) (hk : My k) (w : World) :
    Calls Try.prog 24 #[vec ax ay, .agg #[.int .i64 (fh k), .int .u64 (fl k)]] w fun e w' => e = .returned (.tuple #[vec (vx (mulr ax k) (mulr ay k)) (vy (mulr ax k) (mulr ay k)), .int .i64 (ve (mulr ax k) (mulr ay k))]) ∧ Below w.heap.size w w' :=
  vscale_core _ _ _ _ _ _ _ _ _ _ _ w (eachMul_any ax ay k k hax hay hk hk)
theorem vneg_any (x y : Int) (hx : My x) (hy : My y) (w : World) :
    Calls Try.prog 28 #[vec x y] w fun e w' => e = .returned (vec (-x) (-y)) ∧ Below w.heap.size w w' :=
  vneg_core _ _ _ _ _ _ _ _ w (neg_any x hx) (neg_any y hy)
theorem vmay_any (x y : Int) (w : World) :
    Calls Try.prog 19 #[vec x y] w fun e w' => e = .returned (.bool (decide (x ≠ -170141183460469231731687303715884105728) && decide (y ≠ -170141183460469231731687303715884105728))) ∧ Below w.heap.size w w' :=
  vmay_core _ _ _ _ _ _ w (may_any x) (may_any y)
theorem rmayvec_any (x y : Int) (w : World) :
    Calls Try.prog 20 #[vec x y] w fun e w' => e = .returned (.bool (decide (x ≠ -170141183460469231731687303715884105728) && decide (y ≠ -170141183460469231731687303715884105728))) ∧ Below w.heap.size w w' :=
  rmayvec_core _ _ _ _ _ _ w (rmay_any x) (rmay_any y)
theorem span_first (x y : Int) (hx : My x) (hy : My y) (W : World) (B : Nat) (hb : W.heap[B]? = some (.map #[] 0)) :
    Calls Try.prog 59 #[.map (some B), vec x y] W fun e' w' => e' = .returned (.tuple #[.agg #[.int .i64 (fh (ov (mulr x y))), .int .u64 (fl (ov (mulr x y)))], .int .i64 (oe (mulr x y))]) ∧ W.grownBy w' (some B) ∧ (oe (mulr x y) = 0 → w'.heap[B]? = some (.map #[⟨vec x y, .agg #[.int .i64 (fh (ov (mulr x y))), .int .u64 (fl (ov (mulr x y)))], 0⟩] 1)) := by
  have CM := fmul_any x y hx hy
  by_cases c : oe (mulr x y) = 0
  · have h := span_miss (fh x) (fl x) (fh y) (fl y) _ _ _ #[] #[⟨vec x y, .agg #[.int .i64 (fh (ov (mulr x y))), .int .u64 (fl (ov (mulr x y)))], 0⟩] B 0 1 W hb c (fun W' h => look_empty h hx.fx hy.fx) (fun W' h => put_empty h hx.fx hy.fx) CM
    refine h.mono fun e' w' ⟨h1, h2, h3⟩ => ⟨by rw [h1, c], h2, fun _ => h3⟩
  · have hm : ¬ My (mulr x y) := fun m => c (oe_in m)
    have h := span_err (fh x) (fl x) (fh y) (fl y) _ _ _ #[] #[] B 0 1 W hb c (fun W' h => look_empty h hx.fx hy.fx) CM
    refine h.mono fun e' w' ⟨h1, h2⟩ => ⟨by rw [h1, ov_out hm, zero_words.1, zero_words.2], h2, fun g => absurd g c⟩
theorem span_second (x1 y1 x y : Int) (hx1 : My x1) (hy1 : My y1) (hx : My x) (hy : My y) (h0 : oe (mulr x1 y1) = 0) (W : World) (B : Nat) (hb : W.heap[B]? = some (.map #[⟨vec x1 y1, .agg #[.int .i64 (fh (ov (mulr x1 y1))), .int .u64 (fl (ov (mulr x1 y1)))], 0⟩] 1)) :
    Calls Try.prog 59 #[.map (some B), vec x y] W fun e' w' => e' = .returned (.tuple #[.agg #[.int .i64 (fh (ov (mulr x y))), .int .u64 (fl (ov (mulr x y)))], .int .i64 (oe (mulr x y))]) ∧ W.grownBy w' (some B) := by
  have CM := fmul_any x y hx hy
  by_cases k : vec x1 y1 = vec x y
  · obtain ⟨rfl, rfl⟩ := vec_inj k
    have h := span_hit (fh x1) (fl x1) (fh y1) (fl y1) _ _ 0 #[⟨vec x1 y1, .agg #[.int .i64 (fh (ov (mulr x1 y1))), .int .u64 (fl (ov (mulr x1 y1)))], 0⟩] #[] B 1 1 W hb (fun W' h => look_same h hx.fx hy.fx)
    exact h.mono fun e' w' ⟨h1, h2⟩ => ⟨by rw [h1, h0], h2⟩
  · by_cases c : oe (mulr x y) = 0
    · have h := span_miss (fh x) (fl x) (fh y) (fl y) _ _ _ #[⟨vec x1 y1, .agg #[.int .i64 (fh (ov (mulr x1 y1))), .int .u64 (fl (ov (mulr x1 y1)))], 0⟩] #[⟨vec x1 y1, .agg #[.int .i64 (fh (ov (mulr x1 y1))), .int .u64 (fl (ov (mulr x1 y1)))], 0⟩, ⟨vec x y, .agg #[.int .i64 (fh (ov (mulr x y))), .int .u64 (fl (ov (mulr x y)))], 1⟩] B 1 2 W hb c (fun W' h => look_other h hx.fx hy.fx hx1.fx hy1.fx k) (fun W' h => put_other h hx.fx hy.fx hx1.fx hy1.fx k) CM
      exact h.mono fun e' w' ⟨h1, h2, _⟩ => ⟨by rw [h1, c], h2⟩
    · have hm : ¬ My (mulr x y) := fun m => c (oe_in m)
      have h := span_err (fh x) (fl x) (fh y) (fl y) _ _ _ #[⟨vec x1 y1, .agg #[.int .i64 (fh (ov (mulr x1 y1))), .int .u64 (fl (ov (mulr x1 y1)))], 0⟩] #[] B 1 1 W hb c (fun W' h => look_other h hx.fx hy.fx hx1.fx hy1.fx k) CM
      exact h.mono fun e' w' ⟨h1, h2⟩ => ⟨by rw [h1, ov_out hm, zero_words.1, zero_words.2], h2⟩
/-- What Dot comes to: its error, its number. -/
def de (p q : Int) : Int := if oe p = 0 then (if oe q = 0 then oe (p + q) else oe q) else oe p
def dv (p q : Int) : Int := if de p q = 0 then p + q else 0
theorem de_3 (p q : Int) : de p q = 0 ∨ de p q = 3 := by
  have h : ∀ x, oe x = 0 ∨ oe x = 3 := fun x => by unfold oe; split; exact Or.inl rfl; exact Or.inr rfl
  unfold de
  split
  · split
    · exact h _
    · exact h _
  · exact h _
theorem de_zero {p q : Int} (h : de p q = 0) : My p ∧ My q ∧ My (p + q) ∧ dv p q = p + q := by
  have h0 := h
  unfold de at h
  split at h
  · rename_i a
    split at h
    · rename_i b
      exact ⟨oe_my a, oe_my b, oe_my h, if_pos h0⟩
    · rename_i b
      exact absurd h b
  · rename_i a
    exact absurd h a
theorem dv_My (p q : Int) : My (dv p q) := by
  by_cases h : de p q = 0
  · obtain ⟨_, _, a, b⟩ := de_zero h; rw [b]; exact a
  · rw [show dv p q = 0 from if_neg h]; exact ⟨by decide, by decide⟩
theorem vdot_any (ax ay bx by_ : Int) (hax : My ax) (hay : My ay) (hbx : My bx) (hby : My by_) (w : World) :
    Calls Try.prog 25 #[vec ax ay, vec bx by_] w fun e w' => e = .returned (.tuple #[.agg #[.int .i64 (fh (dv (mulr ax bx) (mulr ay by_))), .int .u64 (fl (dv (mulr ax bx) (mulr ay by_)))], .int .i64 (de (mulr ax bx) (mulr ay by_))]) ∧ Below w.heap.size w w' := by
  obtain ⟨p, hp⟩ : ∃ p, p = mulr ax bx := ⟨_, rfl⟩
  obtain ⟨q, hq⟩ : ∃ q, q = mulr ay by_ := ⟨_, rfl⟩
  have S1 := span_first ax bx hax hbx
  have S2 := span_second ax bx ay by_ hax hbx hay hby
  rw [← hp] at S1 S2 ⊢
  rw [← hq] at S2 ⊢
  by_cases c1 : oe p = 0
  · by_cases c2 : oe q = 0
    · have e : de p q = oe (p + q) := by unfold de; rw [if_pos c1, if_pos c2]
      have d : dv p q = ov (p + q) := by
        unfold dv; rw [e]
        by_cases c3 : oe (p + q) = 0
        · rw [if_pos c3, ov_in (oe_my c3)]
        · rw [if_neg c3, ov_out (fun m => c3 (oe_in m))]
      rw [e, d]
      have CA := fadd_any p q (oe_my c1) (oe_my c2)
      rw [ov_in (oe_my c1)] at S1 S2
      rw [ov_in (oe_my c2)] at S2
      exact dot_ok _ _ _ _ _ _ _ _ _ _ _ _ _ _ _ _ _ c1 c2 w S1 (S2 c1) CA
    · have e : de p q = oe q := by unfold de; rw [if_pos c1, if_neg c2]
      have d : dv p q = 0 := by unfold dv; rw [e, if_neg c2]
      rw [e, d, zero_words.1, zero_words.2]
      exact dot_y _ _ _ _ _ _ _ _ _ _ _ _ 0 0 _ _ 0 c1 c2 w S1 (S2 c1)
  · have e : de p q = oe p := by unfold de; rw [if_neg c1]
    have d : dv p q = 0 := by unfold dv; rw [e, if_neg c1]
    rw [e, d, zero_words.1, zero_words.2]
    exact dot_x _ _ _ _ _ _ _ _ _ _ 0 0 0 0 _ 0 0 c1 w S1
theorem vlen2_any (ax ay : Int) (hax : My ax) (hay : My ay) (w : World) :
    Calls Try.prog 26 #[vec ax ay] w fun e w' => e = .returned (.tuple #[.agg #[.int .i64 (fh (dv (mulr ax ax) (mulr ay ay))), .int .u64 (fl (dv (mulr ax ax) (mulr ay ay)))], .int .i64 (de (mulr ax ax) (mulr ay ay))]) ∧ Below w.heap.size w w' :=
  len2_core _ _ _ _ _ _ _ w (vdot_any ax ay ax ay hax hay hax hay)
theorem mulr_self (x : Int) : 0 ≤ mulr x x := by
  unfold mulr sg
  have : (decide (x < 0) != decide (x < 0)) = false := by cases decide (x < 0) <;> rfl
  rw [this]
  exact Int.natCast_nonneg _
theorem dv_self (ax ay : Int) : 0 ≤ dv (mulr ax ax) (mulr ay ay) := by
  have := mulr_self ax; have := mulr_self ay
  unfold dv; split <;> omega
/-- What Len comes to. -/
def lv (ax ay : Int) : Int := if de (mulr ax ax) (mulr ay ay) = 0 then sqr (dv (mulr ax ax) (mulr ay ay)) else 0
theorem vlen_any (ax ay : Int) (hax : My ax) (hay : My ay) (w : World) :
    Calls Try.prog 27 #[vec ax ay] w fun e w' => e = .returned (.tuple #[.agg #[.int .i64 (fh (lv ax ay)), .int .u64 (fl (lv ax ay))], .int .i64 (de (mulr ax ax) (mulr ay ay))]) ∧ Below w.heap.size w w' := by
  have L := vlen2_any ax ay hax hay
  by_cases c : de (mulr ax ax) (mulr ay ay) = 0
  · rw [show lv ax ay = sqr (dv (mulr ax ax) (mulr ay ay)) from if_pos c]
    have S := fsqrt_any (dv (mulr ax ax) (mulr ay ay)) (dv_My _ _) (dv_self ax ay)
    have h := len_core _ _ _ _ _ _ _ _ _ _ c w L S
    rw [c]; exact h
  · rw [show lv ax ay = 0 from if_neg c, zero_words.1, zero_words.2]
    exact len_err _ _ _ _ _ _ _ c w L
end Go.Proofs.Ytgiamnehncbihaa
