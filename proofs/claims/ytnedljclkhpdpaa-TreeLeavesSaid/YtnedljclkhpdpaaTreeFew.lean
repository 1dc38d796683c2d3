/- Trees of bodies in one place: no program here. -/
import Derived.Test.YtnedljclkhpdpaaTreeOk
namespace Go.Proofs.Ytnedljclkhpdpaa
theorem adv_all (K : Nat → Nat) (lev q : Nat) : ∀ f a, (∀ k, a ≤ k → k < a + f → qt4 (K k) lev = q) → adv K lev q f a = a + f := by
  intro f
  induction f with
  | zero => intro a _; rfl
  | succ f ih =>
    intro a h
    rw [adv_go (h a (Nat.le_refl _) (by omega)), ih (a + 1) (fun k h1 h2 => h k (by omega) (by omega))]; omega
theorem adv_none (K : Nat → Nat) (lev q a : Nat) : adv K lev q 0 a = a := rfl
theorem adv_off {K : Nat → Nat} {lev q : Nat} (f : Nat) {a : Nat} (h : qt4 (K a) lev ≠ q) : adv K lev q f a = a := by
  cases f with
  | zero => rfl
  | succ f => exact adv_stop h
theorem ku_one (rec : Nat → Nat → Nat → Nat → List Nd) {K : Nat → Nat} (lev at_ : Nat) {f t v : Nat} (hft : f < t) (hK : ∀ k, f ≤ k → k < t → K k = v) : ∀ q,
    (q ≤ qt4 v lev → (ku rec K lev at_ t f q).1 = [] ∧ (ku rec K lev at_ t f q).2.1 = f) ∧ (qt4 v lev < q → (ku rec K lev at_ t f q).1 = rec (at_ + 1) (cutk v lev) f t ∧ (ku rec K lev at_ t f q).2.1 = t) := by
  intro q
  induction q with
  | zero => exact ⟨fun _ => ⟨rfl, rfl⟩, fun h => absurd h (by omega)⟩
  | succ q ih =>
    rcases e : ku rec K lev at_ t f q with ⟨o, g, kid⟩
    rw [e] at ih
    simp only at ih
    have hf : qt4 (K f) lev = qt4 v lev := by rw [hK f (Nat.le_refl _) hft]
    rcases Nat.lt_trichotomy q (qt4 v lev) with h | h | h
    · obtain ⟨rfl, rfl⟩ := ih.1 (by omega)
      have a : adv K lev q (t - g) g = g := adv_off _ (by omega)
      rw [ku_no e a (by omega)]
      exact ⟨fun _ => ⟨rfl, rfl⟩, fun k => absurd k (by omega)⟩
    · obtain ⟨rfl, rfl⟩ := ih.1 (by omega)
      have a : adv K lev q (t - g) g = t := by
        rw [adv_all _ _ _ _ _ (fun k h1 h2 => by rw [hK k h1 (by omega), h])]; omega
      rw [ku_yes e a hft]
      refine ⟨fun k => absurd k (by omega), fun _ => ⟨?_, rfl⟩⟩
      rw [hK g (Nat.le_refl _) hft]; rfl
    · obtain ⟨rfl, rfl⟩ := ih.2 h
      have a : adv K lev q (g - g) g = g := by rw [Nat.sub_self]; rfl
      rw [ku_no e a (by omega)]
      exact ⟨fun k => absurd k (by omega), fun _ => ⟨rfl, rfl⟩⟩
/-- All in one place: down to the last level. -/
theorem gr_few {K : Nat → Nat} {f t v : Nat} (h4 : 4 < t - f) (hK : ∀ k, f ≤ k → k < t → K k = v) : ∀ d lev, lev + d = 32 → ∀ at_ key,
    (gr d K at_ lev key f t).length = d + 1 ∧ (gr d K at_ lev key f t)[d]? = some ⟨32, if d = 0 then key else v, f, t, fun _ => -1⟩ := by
  intro d
  induction d with
  | zero =>
    intro lev hd at_ key
    obtain rfl : lev = 32 := by omega
    exact ⟨rfl, rfl⟩
  | succ d ih =>
    intro lev hd at_ key
    have k := (ku_one (fun a k f t => gr d K a (lev + 1) k f t) lev at_ (by omega : f < t) hK 4).2 (qt4_lt v lev)
    unfold gr
    rw [if_neg (by omega)]
    simp only
    rw [k.1]
    obtain ⟨h1, h2⟩ := ih (lev + 1) (by omega) (at_ + 1) (cutk v lev)
    refine ⟨by rw [List.length_cons, h1], ?_⟩
    rw [List.getElem?_cons_succ, h2]
    by_cases c : d = 0
    · subst c
      obtain rfl : lev = 31 := by omega
      rw [if_pos rfl, if_neg (by decide)]
      have e : cutk v 31 = v := by unfold cutk; show v / 2 ^ 0 * 2 ^ 0 = v; rw [Nat.pow_zero, Nat.div_one, Nat.mul_one]
      rw [e]
    · rw [if_neg c, if_neg (by omega)]
end Go.Proofs.Ytnedljclkhpdpaa
