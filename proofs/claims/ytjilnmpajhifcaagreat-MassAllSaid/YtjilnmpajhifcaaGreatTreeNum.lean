/- Trees by quarters as lists: no program here. -/
import Derived.Test.YtjilnmpajhifcaaGreatZzLimA
namespace Go.Proofs.YtjilnmpajhifcaaGreat
structure Nd where
  lev : Nat
  key : Nat
  fr : Nat
  to : Nat
  kid : Nat → Int
/-- A key's quarter at a level. -/
def qt4 (key lev : Nat) : Nat := key / 2 ^ (62 - 2 * lev) % 4
theorem qt4_lt (key lev : Nat) : qt4 key lev < 4 := Nat.mod_lt _ (by decide)
/-- Where those of one quarter end: so many may come. -/
def adv (K : Nat → Nat) (lev q : Nat) : Nat → Nat → Nat
  | 0, a => a
  | f + 1, a => if qt4 (K a) lev = q then adv K lev q f (a + 1) else a
theorem adv_ge (K : Nat → Nat) (lev q : Nat) : ∀ f a, a ≤ adv K lev q f a ∧ adv K lev q f a ≤ a + f := by
  intro f
  induction f with
  | zero => intro a; exact ⟨Nat.le_refl _, Nat.le_refl _⟩
  | succ f ih =>
    intro a
    have h := ih (a + 1)
    by_cases c : qt4 (K a) lev = q
    · have e : adv K lev q (f + 1) a = adv K lev q f (a + 1) := by show (if qt4 (K a) lev = q then _ else _) = _; rw [if_pos c]
      rw [e]; omega
    · have e : adv K lev q (f + 1) a = a := by show (if qt4 (K a) lev = q then _ else _) = _; rw [if_neg c]
      rw [e]; omega
theorem adv_go {K : Nat → Nat} {lev q f a : Nat} (h : qt4 (K a) lev = q) : adv K lev q (f + 1) a = adv K lev q f (a + 1) := by
  show (if qt4 (K a) lev = q then adv K lev q f (a + 1) else a) = _
  rw [if_pos h]
theorem adv_stop {K : Nat → Nat} {lev q f a : Nat} (h : ¬ qt4 (K a) lev = q) : adv K lev q (f + 1) a = a := by
  show (if qt4 (K a) lev = q then adv K lev q f (a + 1) else a) = _
  rw [if_neg h]
/-- A key without its lower places. -/
def cutk (key lev : Nat) : Nat := key / 2 ^ (62 - 2 * lev) * 2 ^ (62 - 2 * lev)
/-- The kids by the first quarters: what they are and all below, where the next one begins, their numbers. -/
def ku (rec : Nat → Nat → Nat → Nat → List Nd) (K : Nat → Nat) (lev at_ to fr : Nat) : Nat → List Nd × Nat × (Nat → Int)
  | 0 => ([], fr, fun _ => -1)
  | q + 1 =>
    let r := ku rec K lev at_ to fr q
    let t := adv K lev q (to - r.2.1) r.2.1
    if r.2.1 < t then (r.1 ++ rec (at_ + 1 + r.1.length) (cutk (K r.2.1) lev) r.2.1 t, t, fun i => if i = q then ((at_ + 1 + r.1.length : Nat) : Int) else r.2.2 i) else (r.1, t, r.2.2)
/-- A node, and all below it; so many levels are left. -/
def gr : Nat → (Nat → Nat) → Nat → Nat → Nat → Nat → Nat → List Nd
  | 0, _, _, lev, key, fr, to => [⟨lev, key, fr, to, fun _ => -1⟩]
  | d + 1, K, at_, lev, key, fr, to =>
    if to - fr ≤ 4 then [⟨lev, key, fr, to, fun _ => -1⟩]
    else
      let r := ku (fun a k f t => gr d K a (lev + 1) k f t) K lev at_ to fr 4
      ⟨lev, key, fr, to, r.2.2⟩ :: r.1
theorem ku_yes {rec : Nat → Nat → Nat → Nat → List Nd} {K : Nat → Nat} {lev at_ to fr q t : Nat} {o : List Nd} {f : Nat} {k : Nat → Int} (h : ku rec K lev at_ to fr q = (o, f, k)) (ht : adv K lev q (to - f) f = t) (hf : f < t) :
    ku rec K lev at_ to fr (q + 1) = (o ++ rec (at_ + 1 + o.length) (cutk (K f) lev) f t, t, fun i => if i = q then ((at_ + 1 + o.length : Nat) : Int) else k i) := by
  unfold ku; simp only [h, ht]; rw [if_pos hf]
theorem ku_no {rec : Nat → Nat → Nat → Nat → List Nd} {K : Nat → Nat} {lev at_ to fr q t : Nat} {o : List Nd} {f : Nat} {k : Nat → Int} (h : ku rec K lev at_ to fr q = (o, f, k)) (ht : adv K lev q (to - f) f = t) (hf : ¬ f < t) :
    ku rec K lev at_ to fr (q + 1) = (o, t, k) := by
  unfold ku; simp only [h, ht]; rw [if_neg hf]
theorem ku_fr (rec : Nat → Nat → Nat → Nat → List Nd) (K : Nat → Nat) (lev at_ to fr : Nat) (h : fr ≤ to) : ∀ q, fr ≤ (ku rec K lev at_ to fr q).2.1 ∧ (ku rec K lev at_ to fr q).2.1 ≤ to := by
  intro q
  induction q with
  | zero => exact ⟨Nat.le_refl _, h⟩
  | succ q ih =>
    rcases e : ku rec K lev at_ to fr q with ⟨o, f, k⟩
    rw [e] at ih
    have g := adv_ge K lev q (to - f) f
    by_cases c : f < adv K lev q (to - f) f
    · rw [ku_yes e rfl c]; simp only at ih ⊢; omega
    · rw [ku_no e rfl c]; simp only at ih ⊢; omega
theorem ku_len {rec : Nat → Nat → Nat → Nat → List Nd} {d : Nat} (hr : ∀ a k f t, f < t → (rec a k f t).length ≤ d * (t - f)) (K : Nat → Nat) (lev at_ to fr : Nat) (h : fr ≤ to) : ∀ q, (ku rec K lev at_ to fr q).1.length ≤ d * ((ku rec K lev at_ to fr q).2.1 - fr) := by
  intro q
  induction q with
  | zero => exact Nat.zero_le _
  | succ q ih =>
    have hf := ku_fr rec K lev at_ to fr h q
    rcases e : ku rec K lev at_ to fr q with ⟨o, f, k⟩
    rw [e] at ih hf
    have g := adv_ge K lev q (to - f) f
    simp only at ih hf
    by_cases c : f < adv K lev q (to - f) f
    · rw [ku_yes e rfl c]
      simp only [List.length_append]
      have r := hr (at_ + 1 + o.length) (cutk (K f) lev) f _ c
      have s : d * (f - fr) + d * (adv K lev q (to - f) f - f) = d * (adv K lev q (to - f) f - fr) := by
        rw [← Nat.mul_add]; congr 1; omega
      omega
    · rw [ku_no e rfl c]
      simp only
      rw [show adv K lev q (to - f) f = f by omega]; exact ih
theorem gr_len : ∀ (d : Nat) (K : Nat → Nat) (at_ lev key fr to : Nat), fr < to → (gr d K at_ lev key fr to).length ≤ (d + 1) * (to - fr) := by
  intro d
  induction d with
  | zero => intro K at_ lev key fr to h; show 1 ≤ _; omega
  | succ d ih =>
    intro K at_ lev key fr to h
    unfold gr
    by_cases c : to - fr ≤ 4
    · rw [if_pos c]; show 1 ≤ _
      have : 1 * 1 ≤ (d + 1 + 1) * (to - fr) := Nat.mul_le_mul (by omega) (by omega)
      omega
    · rw [if_neg c]
      simp only [List.length_cons]
      have k := ku_len (d := d + 1) (fun a k f t hft => ih K a (lev + 1) k f t hft) K lev at_ to fr (by omega) 4
      have hf := ku_fr (fun a k f t => gr d K a (lev + 1) k f t) K lev at_ to fr (by omega) 4
      have m : (d + 1) * ((ku (fun a k f t => gr d K a (lev + 1) k f t) K lev at_ to fr 4).2.1 - fr) ≤ (d + 1) * (to - fr) := Nat.mul_le_mul_left _ (by omega)
      have s : (d + 1 + 1) * (to - fr) = (d + 1) * (to - fr) + (to - fr) := by rw [Nat.add_mul (d + 1) 1]; omega
      omega
theorem gr_pos (d : Nat) (K : Nat → Nat) (at_ lev key fr to : Nat) : 1 ≤ (gr d K at_ lev key fr to).length := by
  cases d with
  | zero => exact Nat.le_refl _
  | succ d => unfold gr; split <;> simp
end Go.Proofs.YtjilnmpajhifcaaGreat
