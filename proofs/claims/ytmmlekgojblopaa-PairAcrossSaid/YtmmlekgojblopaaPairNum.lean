/- How two bodies pull, as numbers: no program here. -/
import Derived.Test.YtmmlekgojblopaaZzVecA
namespace Go.Proofs.Ytmmlekgojblopaa
/-- One step behind another: an error ends all. -/
def st (p : Int × Int) (k : Int → Int × Int × Int) : Int × Int × Int := if p.2 = 0 then k p.1 else (0, 0, p.2)
def mu (x y : Int) : Int × Int := (ov (mulr x y), oe (mulr x y))
def di (x y : Int) : Int × Int := if y = 0 then (0, 2) else (ov (divr x y), oe (divr x y))
def ad (x y : Int) : Int × Int := (ov (x + y), oe (x + y))
def sq (x : Int) : Int × Int := if x < 0 then (0, 1) else (sqr x, 0)
/-- What is behind r2 and r: the masses, the time, the way. -/
def pulk (m dx dy r2 r : Int) : Int × Int × Int :=
  st (di m r2) fun k => st (di k r) fun k => (vx (mulr dx k) (mulr dy k), vy (mulr dx k) (mulr dy k), ve (mulr dx k) (mulr dy k))
def pulm (g a b dx dy h r2 r : Int) : Int × Int × Int := st (mu a b) fun m => st (mu g m) fun m => st (mu m h) fun m => pulk m dx dy r2 r
/-- What a body gets of another one, and the error. -/
def pul (g a b dx dy ep h : Int) : Int × Int × Int :=
  st (dv (mulr dx dx) (mulr dy dy), de (mulr dx dx) (mulr dy dy)) fun l => st (mu ep ep) fun e => st (ad l e) fun r2 => st (sq r2) fun r => pulm g a b dx dy h r2 r
/-- Turned about. -/
def ngv (p : Int × Int × Int) : Int × Int × Int := (-p.1, -p.2.1, p.2.2)
theorem st_same {p : Int × Int} {k k' : Int → Int × Int × Int} (h : ∀ v, k' v = ngv (k v)) : st p k' = ngv (st p k) := by
  unfold st; split
  · exact h _
  · rfl
theorem st_neg {p p' : Int × Int} {k k' : Int → Int × Int × Int} (h1 : p'.1 = -p.1) (h2 : p'.2 = p.2) (h : ∀ v, k' (-v) = ngv (k v)) : st p' k' = ngv (st p k) := by
  unfold st
  rw [h2]; split
  · rw [h1]; exact h _
  · rfl
theorem ov_ng (x : Int) : ov (-x) = -ov x := by unfold ov; split <;> split <;> omega
theorem divr_ng (x y : Int) : divr (-x) y = -divr x y := by
  unfold divr
  rw [Int.natAbs_neg]
  rcases Int.lt_trichotomy x 0 with h | h | h
  · rw [decide_eq_false (show ¬ -x < 0 by omega), decide_eq_true h]
    cases decide (y < 0) <;> simp [sg]
  · subst h
    have e : ((Int.natAbs 0 * 36893488147419103232 + y.natAbs) / (2 * y.natAbs) : Nat) = 0 := by
      rw [Int.natAbs_zero, Nat.zero_mul, Nat.zero_add]
      rcases Nat.eq_zero_or_pos y.natAbs with z | z
      · rw [z]
      · exact Nat.div_eq_of_lt (by omega)
    rw [e]; cases decide (y < 0) <;> simp [sg]
  · rw [decide_eq_true (show -x < 0 by omega), decide_eq_false (show ¬ x < 0 by omega)]
    cases decide (y < 0) <;> simp [sg]
theorem mu_ng2 (x y : Int) : (mu x (-y)).1 = -(mu x y).1 ∧ (mu x (-y)).2 = (mu x y).2 := by
  unfold mu
  rw [(mulr_turn x y).2]
  exact ⟨ov_ng _, oe_neg _⟩
theorem di_ng (x y : Int) : (di (-x) y).1 = -(di x y).1 ∧ (di (-x) y).2 = (di x y).2 := by
  unfold di
  rw [divr_ng]
  split
  · exact ⟨rfl, rfl⟩
  · exact ⟨ov_ng _, oe_neg _⟩
theorem way_ng {p q p' q' : Int} (hp : p' = -p) (hq : q' = -q) : (vx p' q', vy p' q', ve p' q') = ngv (vx p q, vy p q, ve p q) := by
  subst hp hq
  obtain ⟨h1, h2, h3⟩ := ve_neg p q
  unfold ngv; rw [h1, h2, h3]
/-- The other one gets the same, turned about. -/
theorem pul_d (g a b dx dy ep h : Int) : pul g a b (-dx) (-dy) ep h = ngv (pul g a b dx dy ep h) := by
  unfold pul
  rw [mulr_nn, mulr_nn]
  exact st_same fun l => st_same fun e => st_same fun r2 => st_same fun r => st_same fun m => st_same fun m => st_same fun m => st_same fun k => st_same fun k => way_ng (mulr_turn dx k).1 (mulr_turn dy k).1
/-- So it is for a time turned about. -/
theorem pul_h (g a b dx dy ep h : Int) : pul g a b dx dy ep (-h) = ngv (pul g a b dx dy ep h) := by
  unfold pul
  exact st_same fun l => st_same fun e => st_same fun r2 => st_same fun r => st_same fun m => st_same fun m => st_neg (mu_ng2 m h).1 (mu_ng2 m h).2 fun m => st_neg (di_ng m r2).1 (di_ng m r2).2 fun k => st_neg (di_ng k r).1 (di_ng k r).2 fun k => way_ng (mulr_turn dx k).2 (mulr_turn dy k).2
/-- Both masses may change places. -/
theorem pul_ab (g a b dx dy ep h : Int) : pul g b a dx dy ep h = pul g a b dx dy ep h := by
  unfold pul pulm mu
  rw [mulr_comm b a]
theorem de_sw (p q : Int) : de q p = de p q ∧ dv q p = dv p q := by
  have e : de q p = de p q := by
    unfold de
    rw [Int.add_comm q p]
    by_cases h1 : My p <;> by_cases h2 : My q <;> simp [oe_in, oe_out, h1, h2]
  refine ⟨e, ?_⟩
  unfold dv
  rw [e, Int.add_comm q p]
theorem ve_sw (p q : Int) : ve q p = ve p q ∧ vx q p = vy p q ∧ vy q p = vx p q := by
  have e : ve q p = ve p q := by
    unfold ve
    by_cases h1 : My p <;> by_cases h2 : My q <;> simp [oe_in, oe_out, h1, h2]
  refine ⟨e, ?_, ?_⟩
  · unfold vx vy; rw [e]
  · unfold vx vy; rw [e]
/-- Both ways changed for one another. -/
def swp (p : Int × Int × Int) : Int × Int × Int := (p.2.1, p.1, p.2.2)
theorem st_sw {p : Int × Int} {k k' : Int → Int × Int × Int} (h : ∀ v, k' v = swp (k v)) : st p k' = swp (st p k) := by
  unfold st; split
  · exact h _
  · rfl
theorem pul_xy (g a b dx dy ep h : Int) : pul g a b dy dx ep h = swp (pul g a b dx dy ep h) := by
  unfold pul
  rw [(de_sw (mulr dx dx) (mulr dy dy)).1, (de_sw (mulr dx dx) (mulr dy dy)).2]
  exact st_sw fun l => st_sw fun e => st_sw fun r2 => st_sw fun r => st_sw fun m => st_sw fun m => st_sw fun m => st_sw fun k => st_sw fun k => by
    obtain ⟨h1, h2, h3⟩ := ve_sw (mulr dx k) (mulr dy k)
    unfold swp; rw [h1, h2, h3]
end Go.Proofs.Ytmmlekgojblopaa
