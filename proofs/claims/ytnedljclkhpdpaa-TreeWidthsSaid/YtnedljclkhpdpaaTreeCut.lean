/- Trees by counts: of a list that rises the bodies of each quarter lie side by side, so many as there are; a kid's key from its node's. -/
import Derived.Test.YtnedljclkhpdpaaTreeOk
import Derived.Laws.Bits64
namespace Go.Proofs.Ytnedljclkhpdpaa
/-- How many of so many behind a place are of a quarter. -/
def cp (K : Nat → Nat) (lev q f : Nat) : Nat → Nat
  | 0 => 0
  | i + 1 => cp K lev q f i + if qt4 (K (f + i)) lev = q then 1 else 0
theorem cp_le (K : Nat → Nat) (lev q f : Nat) : ∀ i, cp K lev q f i ≤ i := by
  intro i
  induction i with
  | zero => exact Nat.le_refl _
  | succ i ih => unfold cp; split <;> omega
theorem cp_yes {K : Nat → Nat} {lev q f i : Nat} (h : qt4 (K (f + i)) lev = q) : cp K lev q f (i + 1) = cp K lev q f i + 1 := by
  show cp K lev q f i + (if _ then 1 else 0) = _
  rw [if_pos h]
theorem cp_no {K : Nat → Nat} {lev q f i : Nat} (h : ¬ qt4 (K (f + i)) lev = q) : cp K lev q f (i + 1) = cp K lev q f i := by
  show cp K lev q f i + (if _ then 1 else 0) = _
  rw [if_neg h]; rfl
theorem cp_shift (K : Nat → Nat) (lev q f : Nat) : ∀ i, cp (fun j => K (f + j)) lev q 0 i = cp K lev q f i := by
  intro i
  induction i with
  | zero => rfl
  | succ i ih => unfold cp; rw [ih]; simp only [Nat.zero_add]
theorem cp_between {K : Nat → Nat} {lev q f a b : Nat} (ha : f ≤ a) (hab : a ≤ b) : ∀ n, (∀ k, f ≤ k → k < f + n → (qt4 (K k) lev = q ↔ a ≤ k ∧ k < b)) → cp K lev q f n + min (f + n) a = min (f + n) b := by
  intro n
  induction n with
  | zero => intro _; show 0 + _ = _; omega
  | succ n ih =>
    intro h
    have k := ih (fun k h1 h2 => h k h1 (by omega))
    have g := h (f + n) (by omega) (by omega)
    by_cases c : qt4 (K (f + n)) lev = q
    · rw [cp_yes c]; have := g.1 c; omega
    · rw [cp_no c]; have : ¬ (a ≤ f + n ∧ f + n < b) := fun e => c (g.2 e); omega
theorem ku_cut {rec_ : Nat → Nat → Nat → Nat → List Nd} {K : Nat → Nat} {lev at_ to fr : Nat} (h : fr ≤ to) (hm : ∀ a b, fr ≤ a → a ≤ b → b < to → qt4 (K a) lev ≤ qt4 (K b) lev) :
    ∀ q, ∀ o f k, ku rec_ K lev at_ to fr q = (o, f, k) → (fr ≤ f ∧ f ≤ to) ∧ (∀ j, fr ≤ j → j < f → qt4 (K j) lev < q) ∧ ∀ j, f ≤ j → j < to → q ≤ qt4 (K j) lev := by
  intro q
  induction q with
  | zero =>
    intro o f k e
    have e2 : f = fr := (congrArg (fun r => r.2.1) e).symm
    subst e2
    exact ⟨⟨Nat.le_refl _, h⟩, fun j h1 h2 => by omega, fun _ _ _ => Nat.zero_le _⟩
  | succ q ih =>
    intro o f k e
    rcases e0 : ku rec_ K lev at_ to fr q with ⟨o', f', k'⟩
    obtain ⟨⟨hf1, hf2⟩, hlo, hhi⟩ := ih o' f' k' e0
    have hge := adv_ge K lev q (to - f') f'
    have hsm := adv_same K lev q (to - f') f'
    have hnx := adv_next K lev q (to - f') f'
    have ef : f = adv K lev q (to - f') f' := by
      by_cases c : f' < adv K lev q (to - f') f'
      · have := ku_yes e0 rfl c; rw [e] at this; exact congrArg (fun r => r.2.1) this
      · have := ku_no e0 rfl c; rw [e] at this; exact congrArg (fun r => r.2.1) this
    rw [← ef] at hge hsm hnx
    refine ⟨⟨by omega, by omega⟩, fun j h1 h2 => ?_, fun j h1 h2 => ?_⟩
    · rcases Nat.lt_or_ge j f' with c | c
      · have := hlo j h1 c; omega
      · have := hsm j c h2; omega
    · have c1 := hnx (by omega)
      have c2 := hhi f hge.1 (by omega)
      have c3 := hm f j (by omega) h1 h2
      omega
/-- Where the next quarter begins: so many further on. -/
theorem adv_cp {rec_ : Nat → Nat → Nat → Nat → List Nd} {K : Nat → Nat} {lev at_ to fr : Nat} (h : fr ≤ to) (hm : ∀ a b, fr ≤ a → a ≤ b → b < to → qt4 (K a) lev ≤ qt4 (K b) lev)
    {q : Nat} {o : List Nd} {f : Nat} {k : Nat → Int} (e : ku rec_ K lev at_ to fr q = (o, f, k)) : adv K lev q (to - f) f = f + cp K lev q fr (to - fr) := by
  obtain ⟨⟨hf1, hf2⟩, hlo, hhi⟩ := ku_cut h hm q o f k e
  have hge := adv_ge K lev q (to - f) f
  have hsm := adv_same K lev q (to - f) f
  have hnx := adv_next K lev q (to - f) f
  have g := cp_between (K := K) (lev := lev) (q := q) (f := fr) (a := f) (b := adv K lev q (to - f) f) hf1 hge.1 (to - fr) (fun j h1 h2 => by
    constructor
    · intro hj
      refine ⟨?_, ?_⟩
      · rcases Nat.lt_or_ge j f with c | c
        · have := hlo j h1 c; omega
        · exact c
      · rcases Nat.lt_or_ge j (adv K lev q (to - f) f) with c | c
        · exact c
        · exfalso
          have c1 := hnx (by omega)
          have c2 := hhi (adv K lev q (to - f) f) hge.1 (by omega)
          have c3 := hm (adv K lev q (to - f) f) j (by omega) c (by omega)
          omega
    · rintro ⟨h3, h4⟩; exact hsm j h3 h4)
  omega
/-- A kid's key. -/
theorem cutk_kid {K lev p q : Nat} (hl : lev ≤ 31) (hp : K / 2 ^ (64 - 2 * lev) = p) (hq : qt4 K lev = q) : cutk K lev = p * 2 ^ (64 - 2 * lev) + q * 2 ^ (62 - 2 * lev) := by
  have h := qt_split K hl
  rw [hp, hq] at h
  unfold cutk
  rw [h]
  have e : 64 - 2 * lev = (62 - 2 * lev) + 2 := by omega
  rw [e, Nat.pow_add]
  generalize 2 ^ (62 - 2 * lev) = t
  grind
theorem or_kid {lev p q : Nat} (hl : lev ≤ 31) (hq : q < 4) (h : p * 2 ^ (64 - 2 * lev) + q * 2 ^ (62 - 2 * lev) < 18446744073709551616) :
    bits .or .u64 ((p * 2 ^ (64 - 2 * lev) : Nat) : Int) ((q * 2 ^ (62 - 2 * lev) : Nat) : Int) = ((p * 2 ^ (64 - 2 * lev) + q * 2 ^ (62 - 2 * lev) : Nat) : Int) := by
  have hlt : q * 2 ^ (62 - 2 * lev) < 2 ^ (64 - 2 * lev) := by
    have e : 64 - 2 * lev = (62 - 2 * lev) + 2 := by omega
    rw [e, Nat.pow_add]
    have h0 : 0 < 2 ^ (62 - 2 * lev) := Nat.two_pow_pos _
    generalize 2 ^ (62 - 2 * lev) = t at *
    have : q * t ≤ 3 * t := Nat.mul_le_mul_right _ (by omega)
    omega
  rw [bits_or_u64_nat _ _ (by omega) (by omega)]
  congr 1
  have k := Nat.two_pow_add_eq_or_of_lt hlt p
  rw [Nat.mul_comm p, k]
theorem div_kid {K lev p q : Nat} (hl : lev ≤ 31) (hp : K / 2 ^ (64 - 2 * lev) = p) (hq : qt4 K lev = q) : K / 2 ^ (64 - 2 * (lev + 1)) = 4 * p + q := by
  rw [show 64 - 2 * (lev + 1) = 62 - 2 * lev by omega, qt_split K hl, hp, hq]
theorem key_kid {lev p q : Nat} (hl : lev ≤ 31) : p * 2 ^ (64 - 2 * lev) + q * 2 ^ (62 - 2 * lev) = (4 * p + q) * 2 ^ (64 - 2 * (lev + 1)) := by
  rw [show 64 - 2 * (lev + 1) = 62 - 2 * lev by omega]
  have e : 64 - 2 * lev = (62 - 2 * lev) + 2 := by omega
  rw [e, Nat.pow_add]
  generalize 2 ^ (62 - 2 * lev) = t
  grind
/-- What a quarter's kid is. -/
theorem kid_ok {rec_ : Nat → Nat → Nat → Nat → List Nd} {K : Nat → Nat} {lev at_ fa ta n p : Nat} (hl : lev ≤ 31) (hft : fa ≤ ta) (htn : ta ≤ n) (hmo : ∀ a b, a ≤ b → b < n → K a ≤ K b) (hpk : ∀ k, fa ≤ k → k < ta → K k / 2 ^ (64 - 2 * lev) = p)
    {q : Nat} {o : List Nd} {f : Nat} {k : Nat → Int} (e : ku rec_ K lev at_ ta fa q = (o, f, k)) :
    adv K lev q (ta - f) f = f + cp K lev q fa (ta - fa) ∧ (fa ≤ f ∧ f + cp K lev q fa (ta - fa) ≤ ta) ∧ (0 < cp K lev q fa (ta - fa) → cutk (K f) lev = p * 2 ^ (64 - 2 * lev) + q * 2 ^ (62 - 2 * lev) ∧
      ∀ k, f ≤ k → k < f + cp K lev q fa (ta - fa) → K k / 2 ^ (64 - 2 * (lev + 1)) = 4 * p + q) := by
  have hm : ∀ a b, fa ≤ a → a ≤ b → b < ta → qt4 (K a) lev ≤ qt4 (K b) lev := fun a b h1 h2 h3 => qt_mono hl (hmo a b h2 (by omega)) (hpk a h1 (by omega)) (hpk b (by omega) h3)
  have ha := adv_cp hft hm e
  have hf := (ku_cut hft hm q o f k e).1
  have hge := adv_ge K lev q (ta - f) f
  have hsm := adv_same K lev q (ta - f) f
  rw [ha] at hge hsm
  refine ⟨ha, ⟨hf.1, by omega⟩, fun h => ⟨cutk_kid hl (hpk f hf.1 (by omega)) (hsm f (Nat.le_refl _) (by omega)), fun k h1 h2 => div_kid hl (hpk k (by omega) (by omega)) (hsm k h1 h2)⟩⟩
end Go.Proofs.Ytnedljclkhpdpaa
