/- What a tree by quarters keeps: no program here. -/
import Derived.Test.YtnedljclkhpdpaaTreeNum
namespace Go.Proofs.Ytnedljclkhpdpaa
/-- The kids of a node by the first quarters: where they end, how many. -/
def kf (G : Nat → Option Nd) (i lev fr : Nat) (kid : Nat → Int) : Nat → Option (Nat × Nat)
  | 0 => some (fr, 0)
  | q + 1 => match kf G i lev fr kid q with
    | none => none
    | some (a, c) => if kid q < 0 then some (a, c) else match G (kid q).toNat with
      | none => none
      | some y => if (i : Int) < kid q ∧ y.fr = a ∧ y.lev = lev + 1 then some (y.to, c + 1) else none
theorem kf_no {G : Nat → Option Nd} {i lev fr q a c : Nat} {kid : Nat → Int} (h : kf G i lev fr kid q = some (a, c)) (hk : kid q < 0) : kf G i lev fr kid (q + 1) = some (a, c) := by
  unfold kf; rw [h]; simp only; rw [if_pos hk]
theorem kf_yes {G : Nat → Option Nd} {i lev fr q a c : Nat} {kid : Nat → Int} {y : Nd} (h : kf G i lev fr kid q = some (a, c)) (hk : ¬ kid q < 0) (hG : G (kid q).toNat = some y) (hi : (i : Int) < kid q) (hf : y.fr = a) (hl : y.lev = lev + 1) :
    kf G i lev fr kid (q + 1) = some (y.to, c + 1) := by
  unfold kf; rw [h]; simp only; rw [if_neg hk, hG]; simp only; rw [if_pos ⟨hi, hf, hl⟩]
theorem kf_congr (G : Nat → Option Nd) (i lev fr : Nat) (kid kid' : Nat → Int) : ∀ q, (∀ j, j < q → kid j = kid' j) → kf G i lev fr kid q = kf G i lev fr kid' q := by
  intro q
  induction q with
  | zero => intro _; rfl
  | succ q ih => intro h; unfold kf; rw [ih (fun j hj => h j (by omega)), h q (by omega)]
/-- What each node keeps. -/
structure Okn (K : Nat → Nat) (G : Nat → Option Nd) (n i : Nat) (x : Nd) : Prop where
  lt : x.fr < x.to
  le : x.to ≤ n
  lev : x.lev ≤ 32
  keys : ∀ k, x.fr ≤ k → k < x.to → K k / 2 ^ (64 - 2 * x.lev) * 2 ^ (64 - 2 * x.lev) = x.key
  kids : ∃ a c, kf G i x.lev x.fr x.kid 4 = some (a, c) ∧ (c = 0 → x.to - x.fr ≤ 4 ∨ x.lev = 32) ∧ (c ≠ 0 → a = x.to ∧ 4 < x.to - x.fr)
/-- No kids. -/
def lf (x : Nd) : Bool := decide (x.kid 0 < 0) && decide (x.kid 1 < 0) && decide (x.kid 2 < 0) && decide (x.kid 3 < 0)
/-- Of how many leaves a body is. -/
def cnt : List Nd → Nat → Nat
  | [], _ => 0
  | x :: T, k => (if lf x = true ∧ x.fr ≤ k ∧ k < x.to then 1 else 0) + cnt T k
theorem cnt_app (S T : List Nd) (k : Nat) : cnt (S ++ T) k = cnt S k + cnt T k := by
  induction S with
  | nil => show cnt T k = 0 + cnt T k; omega
  | cons x S ih => show _ + cnt (S ++ T) k = _ + cnt S k + cnt T k; rw [ih]; omega
theorem adv_same (K : Nat → Nat) (lev q : Nat) : ∀ f a k, a ≤ k → k < adv K lev q f a → qt4 (K k) lev = q := by
  intro f
  induction f with
  | zero => intro a k h1 h2; have e : adv K lev q 0 a = a := rfl; omega
  | succ f ih =>
    intro a k h1 h2
    by_cases c : qt4 (K a) lev = q
    · rw [adv_go c] at h2
      rcases Nat.eq_or_lt_of_le h1 with e | e
      · rw [← e]; exact c
      · exact ih (a + 1) k e h2
    · rw [adv_stop c] at h2; omega
theorem adv_next (K : Nat → Nat) (lev q : Nat) : ∀ f a, adv K lev q f a < a + f → qt4 (K (adv K lev q f a)) lev ≠ q := by
  intro f
  induction f with
  | zero => intro a h; have e : adv K lev q 0 a = a := rfl; omega
  | succ f ih =>
    intro a h
    by_cases c : qt4 (K a) lev = q
    · rw [adv_go c] at h ⊢; exact ih (a + 1) (by omega)
    · rw [adv_stop c]; exact c
theorem qt_split (K : Nat) {lev : Nat} (hl : lev ≤ 31) : K / 2 ^ (62 - 2 * lev) = 4 * (K / 2 ^ (64 - 2 * lev)) + qt4 K lev := by
  unfold qt4
  have e : 64 - 2 * lev = (62 - 2 * lev) + 2 := by omega
  rw [e, Nat.pow_add, ← Nat.div_div_eq_div_mul]
  generalize K / 2 ^ (62 - 2 * lev) = z
  omega
theorem qt_mono {A B lev p : Nat} (hl : lev ≤ 31) (h : A ≤ B) (ha : A / 2 ^ (64 - 2 * lev) = p) (hb : B / 2 ^ (64 - 2 * lev) = p) : qt4 A lev ≤ qt4 B lev := by
  have h1 := qt_split A hl
  have h2 := qt_split B hl
  have h3 : A / 2 ^ (62 - 2 * lev) ≤ B / 2 ^ (62 - 2 * lev) := Nat.div_le_div_right h
  rw [ha] at h1; rw [hb] at h2
  omega
theorem gr_head (d : Nat) (K : Nat → Nat) (at_ lev key f t : Nat) : ∃ kid, (gr d K at_ lev key f t)[0]? = some ⟨lev, key, f, t, kid⟩ := by
  cases d with
  | zero => exact ⟨_, rfl⟩
  | succ d =>
    unfold gr
    by_cases h : t - f ≤ 4
    · rw [if_pos h]; exact ⟨_, rfl⟩
    · rw [if_neg h]; exact ⟨_, rfl⟩
/-- What the tree of a range keeps. -/
structure Okt (K : Nat → Nat) (T : List Nd) (at_ n f t : Nat) : Prop where
  all : ∀ G : Nat → Option Nd, (∀ j x, T[j]? = some x → G (at_ + j) = some x) → ∀ j x, T[j]? = some x → Okn K G n (at_ + j) x
  cnt : ∀ k, cnt T k = if f ≤ k ∧ k < t then 1 else 0
theorem leaf_ok {K : Nat → Nat} {at_ n lev key f t p : Nat} (hft : f < t) (htn : t ≤ n) (hl : lev ≤ 32) (hp : ∀ k, f ≤ k → k < t → K k / 2 ^ (64 - 2 * lev) = p) (hkey : key = p * 2 ^ (64 - 2 * lev)) (h4 : t - f ≤ 4 ∨ lev = 32) :
    Okt K [⟨lev, key, f, t, fun _ => -1⟩] at_ n f t := by
  constructor
  · intro G hG j x hx
    obtain rfl : j = 0 := by rcases j with _ | j <;> simp at hx ⊢
    obtain rfl : (⟨lev, key, f, t, fun _ => -1⟩ : Nd) = x := by simpa using hx
    exact ⟨hft, htn, hl, fun k h1 h2 => by show K k / 2 ^ (64 - 2 * lev) * 2 ^ (64 - 2 * lev) = key; rw [hp k h1 h2, hkey], ⟨f, 0, rfl, fun _ => h4, fun h => absurd rfl h⟩⟩
  · intro k
    show (if lf ⟨lev, key, f, t, fun _ => -1⟩ = true ∧ f ≤ k ∧ k < t then 1 else 0) + 0 = _
    have e : lf ⟨lev, key, f, t, fun _ => -1⟩ = true := rfl
    simp [e]
theorem kf_lf {G : Nat → Option Nd} {i lev fr a c : Nat} {x : Nd} (h : kf G i lev fr x.kid 4 = some (a, c)) : lf x = true ↔ c = 0 := by
  have step : ∀ q a c, kf G i lev fr x.kid (q + 1) = some (a, c) → (c = 0 ↔ x.kid q < 0 ∧ ∃ b, kf G i lev fr x.kid q = some (b, 0)) := by
    intro q a c h
    unfold kf at h
    rcases e : kf G i lev fr x.kid q with _ | ⟨a', c'⟩
    · rw [e] at h; cases h
    · rw [e] at h; simp only at h
      by_cases k : x.kid q < 0
      · rw [if_pos k] at h
        have h := Option.some.inj h
        obtain ⟨rfl, rfl⟩ := Prod.mk.inj h
        constructor
        · intro hc; subst hc; exact ⟨k, _, rfl⟩
        · rintro ⟨_, b, hb⟩; exact (Prod.mk.inj (Option.some.inj hb)).2
      · rw [if_neg k] at h
        rcases hg : G (x.kid q).toNat with _ | y
        · rw [hg] at h; cases h
        · rw [hg] at h; simp only at h
          by_cases k2 : (i : Int) < x.kid q ∧ y.fr = a' ∧ y.lev = lev + 1
          · rw [if_pos k2] at h
            have h := (Prod.mk.inj (Option.some.inj h)).2
            constructor
            · intro hc; omega
            · intro g; exact absurd g.1 k
          · rw [if_neg k2] at h; cases h
  have e : lf x = true ↔ x.kid 0 < 0 ∧ x.kid 1 < 0 ∧ x.kid 2 < 0 ∧ x.kid 3 < 0 := by
    unfold lf; simp [and_assoc]
  rw [e, step 3 a c h]
  constructor
  · rintro ⟨k0, k1, k2, k3⟩
    exact ⟨k3, fr, kf_no (kf_no (kf_no rfl k0) k1) k2⟩
  · rintro ⟨k3, b, h3⟩
    obtain ⟨k2, b2, h2⟩ := (step 2 b 0 h3).1 rfl
    obtain ⟨k1, b1, h1⟩ := (step 1 b2 0 h2).1 rfl
    obtain ⟨k0, _⟩ := (step 0 b1 0 h1).1 rfl
    exact ⟨k0, k1, k2, k3⟩
theorem kf_inv {G : Nat → Option Nd} {i lev fr q a c a' c' : Nat} {kid : Nat → Int} (h : kf G i lev fr kid q = some (a, c)) (h' : kf G i lev fr kid (q + 1) = some (a', c')) :
    (kid q < 0 ∧ a' = a ∧ c' = c) ∨ (¬ kid q < 0 ∧ ∃ y, G (kid q).toNat = some y ∧ (i : Int) < kid q ∧ y.fr = a ∧ y.lev = lev + 1 ∧ a' = y.to ∧ c' = c + 1) := by
  unfold kf at h'
  rw [h] at h'; simp only at h'
  by_cases k : kid q < 0
  · rw [if_pos k] at h'
    have e := Prod.mk.inj (Option.some.inj h')
    exact Or.inl ⟨k, e.1.symm, e.2.symm⟩
  · rw [if_neg k] at h'
    rcases hg : G (kid q).toNat with _ | y
    · rw [hg] at h'; cases h'
    · rw [hg] at h'; simp only at h'
      by_cases k2 : (i : Int) < kid q ∧ y.fr = a ∧ y.lev = lev + 1
      · rw [if_pos k2] at h'
        have e := Prod.mk.inj (Option.some.inj h')
        exact Or.inr ⟨k, y, rfl, k2.1, k2.2.1, k2.2.2, e.1.symm, e.2.symm⟩
      · rw [if_neg k2] at h'; cases h'
theorem kf_pre {G : Nat → Option Nd} {i lev fr : Nat} {kid : Nat → Int} : ∀ {d q : Nat} {r : Nat × Nat}, kf G i lev fr kid (q + d) = some r → ∃ a c, kf G i lev fr kid q = some (a, c) := by
  intro d
  induction d with
  | zero => intro q r h; exact ⟨r.1, r.2, h⟩
  | succ d ih =>
    intro q r h
    rcases e : kf G i lev fr kid (q + d) with _ | r'
    · exfalso
      have : kf G i lev fr kid (q + d + 1) = some r := h
      unfold kf at this; rw [e] at this; cases this
    · exact ih e
/-- Behind so many quarters. -/
structure Oku (K : Nat → Nat) (at_ lev n f t q : Nat) (o : List Nd) (g : Nat) (kid : Nat → Int) : Prop where
  hi : ∀ k, g ≤ k → k < t → q ≤ qt4 (K k) lev
  cn : ∀ k, cnt o k = if f ≤ k ∧ k < g then 1 else 0
  al : ∀ G : Nat → Option Nd, (∀ j x, o[j]? = some x → G (at_ + 1 + j) = some x) → (∀ j x, o[j]? = some x → Okn K G n (at_ + 1 + j) x) ∧ ∃ c, kf G at_ lev f kid q = some (g, c) ∧ (c = 0 ↔ g = f)
  no : ∀ j, q ≤ j → kid j = -1
theorem ku_ok {K : Nat → Nat} {n : Nat} (hm : ∀ a b, a ≤ b → b < n → K a ≤ K b) {d lev at_ p f t : Nat} (hl : lev ≤ 31) (hft : f < t) (htn : t ≤ n) (hp : ∀ k, f ≤ k → k < t → K k / 2 ^ (64 - 2 * lev) = p)
    (ih : ∀ a r g s, g < s → s ≤ n → (∀ k, g ≤ k → k < s → K k / 2 ^ (64 - 2 * (lev + 1)) = r) → Okt K (gr d K a (lev + 1) (r * 2 ^ (64 - 2 * (lev + 1))) g s) a n g s) :
    ∀ q, q ≤ 4 → Oku K at_ lev n f t q (ku (fun a k f t => gr d K a (lev + 1) k f t) K lev at_ t f q).1 (ku (fun a k f t => gr d K a (lev + 1) k f t) K lev at_ t f q).2.1 (ku (fun a k f t => gr d K a (lev + 1) k f t) K lev at_ t f q).2.2 := by
  intro q
  induction q with
  | zero =>
    intro _
    exact ⟨fun _ _ _ => Nat.zero_le _, fun k => by show 0 = _; rw [if_neg]; rintro ⟨a, b⟩; exact absurd b (Nat.not_lt.2 a), fun G _ => ⟨fun j x hx => (by cases hx), 0, rfl, by show (0 = 0) ↔ (f = f); simp⟩, fun _ _ => rfl⟩
  | succ q ihq =>
    intro hq
    have hk := ihq (by omega)
    have hfr := ku_fr (fun a k f t => gr d K a (lev + 1) k f t) K lev at_ t f (by omega) q
    rcases e : ku (fun a k f t => gr d K a (lev + 1) k f t) K lev at_ t f q with ⟨o, g, kid⟩
    rw [e] at hk hfr
    simp only at hk hfr
    obtain ⟨hhi, hcn, hal, hno⟩ := hk
    have hge := adv_ge K lev q (t - g) g
    have hsm := adv_same K lev q (t - g) g
    have hnx := adv_next K lev q (t - g) g
    have hB : ∀ k, adv K lev q (t - g) g ≤ k → k < t → q + 1 ≤ qt4 (K k) lev := by
      intro k h1 h2
      have c1 := hnx (by omega)
      have c2 := hhi (adv K lev q (t - g) g) hge.1 (by omega)
      have c3 := qt_mono (p := p) hl (hm _ k h1 (by omega)) (hp _ (by omega) (by omega)) (hp k (by omega) h2)
      omega
    by_cases c : g < adv K lev q (t - g) g
    · rw [ku_yes e rfl c]
      generalize adv K lev q (t - g) g = s at *
      have e62 : 64 - 2 * (lev + 1) = 62 - 2 * lev := by omega
      have hr : ∀ k, g ≤ k → k < s → K k / 2 ^ (64 - 2 * (lev + 1)) = 4 * p + q := by
        intro k h1 h2
        rw [e62, qt_split _ hl, hp k (by omega) (by omega), hsm k h1 h2]
      have hkey : cutk (K g) lev = (4 * p + q) * 2 ^ (64 - 2 * (lev + 1)) := by
        unfold cutk; rw [← hr g (Nat.le_refl _) c, e62]
      have hT := ih (at_ + 1 + o.length) (4 * p + q) g s c (by omega) hr
      have hH := gr_head d K (at_ + 1 + o.length) (lev + 1) (cutk (K g) lev) g s
      rw [← hkey] at hT
      simp only
      generalize gr d K (at_ + 1 + o.length) (lev + 1) (cutk (K g) lev) g s = T at *
      refine ⟨hB, fun k => ?_, fun G hG => ?_, fun j hj => ?_⟩
      · rw [cnt_app, hcn k, hT.cnt k]
        by_cases k1 : f ≤ k ∧ k < g
        · rw [if_pos k1, if_neg (by omega), if_pos (by omega)]
        · rw [if_neg k1]
          by_cases k2 : g ≤ k ∧ k < s
          · rw [if_pos k2, if_pos (by omega)]
          · rw [if_neg k2, if_neg (by omega)]
      · have hGo : ∀ j x, o[j]? = some x → G (at_ + 1 + j) = some x := fun j x hx => hG j x (by
          have hl := (List.getElem?_eq_some_iff.1 hx).1
          rw [List.getElem?_append_left hl]; exact hx)
        have hGT : ∀ j x, T[j]? = some x → G (at_ + 1 + o.length + j) = some x := fun j x hx => by
          have := hG (o.length + j) x (by rw [List.getElem?_append_right (by omega)]; rw [show o.length + j - o.length = j by omega]; exact hx)
          rw [Nat.add_assoc (at_ + 1)]; exact this
        obtain ⟨hA, cc, hkf, hc0⟩ := hal G hGo
        refine ⟨fun j x hx => ?_, cc + 1, ?_, by constructor <;> intro h <;> omega⟩
        · rcases Nat.lt_or_ge j o.length with hlt | hge2
          · rw [List.getElem?_append_left hlt] at hx; exact hA j x hx
          · rw [List.getElem?_append_right hge2] at hx
            have := hT.all G hGT (j - o.length) x hx
            rw [show at_ + 1 + j = at_ + 1 + o.length + (j - o.length) by omega]; exact this
        · obtain ⟨kd, hd⟩ := hH
          have hg0 := hGT 0 _ hd
          have key : ∀ kid' : Nat → Int, kid' q = ((at_ + 1 + o.length : Nat) : Int) → (∀ j, j < q → kid' j = kid j) → kf G at_ lev f kid' (q + 1) = some (s, cc + 1) := fun kid' hq' hj' => by
            refine kf_yes (y := ⟨lev + 1, cutk (K g) lev, g, s, kd⟩) ((kf_congr G at_ lev f kid' kid q hj').trans hkf) ?_ ?_ ?_ rfl rfl
            · rw [hq']; omega
            · rw [hq', Int.toNat_natCast]; exact hg0
            · rw [hq']; omega
          exact key _ (if_pos rfl) (fun j hj => if_neg (by omega))
      · show (if j = q then _ else kid j) = -1
        rw [if_neg (by omega)]; exact hno j (by omega)
    · have ce : adv K lev q (t - g) g = g := by omega
      rw [ku_no e rfl c]
      rw [ce] at hB ⊢
      exact ⟨hB, hcn, fun G hG => by
        obtain ⟨hA, cc, hkf, hc0⟩ := hal G hG
        exact ⟨hA, cc, kf_no hkf (by show kid q < 0; rw [hno q (Nat.le_refl _)]; decide), hc0⟩, fun j hj => hno j (by omega)⟩
theorem gr_ok {K : Nat → Nat} {n : Nat} (hm : ∀ a b, a ≤ b → b < n → K a ≤ K b) : ∀ d lev, lev + d = 32 → ∀ at_ p f t, f < t → t ≤ n → (∀ k, f ≤ k → k < t → K k / 2 ^ (64 - 2 * lev) = p) →
    Okt K (gr d K at_ lev (p * 2 ^ (64 - 2 * lev)) f t) at_ n f t := by
  intro d
  induction d with
  | zero =>
    intro lev hd at_ p f t hft htn hp
    exact leaf_ok hft htn (by omega) hp rfl (Or.inr (by omega))
  | succ d ih =>
    intro lev hd at_ p f t hft htn hp
    unfold gr
    by_cases h4 : t - f ≤ 4
    · rw [if_pos h4]; exact leaf_ok hft htn (by omega) hp rfl (Or.inl h4)
    · rw [if_neg h4]
      have hkey : ∀ k, f ≤ k → k < t → K k / 2 ^ (64 - 2 * lev) * 2 ^ (64 - 2 * lev) = p * 2 ^ (64 - 2 * lev) := fun k h1 h2 => by rw [hp k h1 h2]
      have hk := ku_ok hm (d := d) (at_ := at_) (p := p) (by omega : lev ≤ 31) hft htn hp (fun a r g s h1 h2 h3 => ih (lev + 1) (by omega) a r g s h1 h2 h3) 4 (Nat.le_refl _)
      have hfr := ku_fr (fun a k f t => gr d K a (lev + 1) k f t) K lev at_ t f (by omega) 4
      simp only
      generalize ku (fun a k f t => gr d K a (lev + 1) k f t) K lev at_ t f 4 = r at hk hfr ⊢
      obtain ⟨o, g, kid⟩ := r
      simp only at hk hfr ⊢
      clear hp ih hm
      generalize p * 2 ^ (64 - 2 * lev) = key at *
      obtain ⟨hhi, hcn, hal, hno⟩ := hk
      have hg : g = t := by
        rcases Nat.lt_or_ge g t with h | h
        · have := hhi g (Nat.le_refl _) h
          have := qt4_lt (K g) lev
          omega
        · omega
      subst hg
      refine ⟨fun G hG => ?_, fun k => ?_⟩
      · have hGo : ∀ j x, o[j]? = some x → G (at_ + 1 + j) = some x := fun j x hx => by
          have := hG (j + 1) x (by rw [List.getElem?_cons_succ]; exact hx)
          rw [show at_ + 1 + j = at_ + (j + 1) by omega]; exact this
        obtain ⟨hA, c, hkf, hc0⟩ := hal G hGo
        intro j x hx
        rcases j with _ | j
        · obtain rfl : (⟨lev, key, f, g, kid⟩ : Nd) = x := by simpa using hx
          exact ⟨hft, htn, by show lev ≤ 32; omega, hkey, ⟨g, c, hkf, fun h => by have := hc0.1 h; omega, fun _ => ⟨rfl, by show 4 < g - f; omega⟩⟩⟩
        · rw [List.getElem?_cons_succ] at hx
          rw [show at_ + (j + 1) = at_ + 1 + j by omega]; exact hA j x hx
      · show (if lf ⟨lev, key, f, g, kid⟩ = true ∧ f ≤ k ∧ k < g then 1 else 0) + cnt o k = _
        obtain ⟨_, c, hkf, hc0⟩ := hal (fun i => o[i - (at_ + 1)]?) (fun j x hx => by simpa using hx)
        have hn : ¬ lf ⟨lev, key, f, g, kid⟩ = true := fun h => by
          have := (kf_lf (x := ⟨lev, key, f, g, kid⟩) hkf).1 h
          have := hc0.1 this; omega
        rw [if_neg (fun h => hn h.1), hcn k, Nat.zero_add]
end Go.Proofs.Ytnedljclkhpdpaa
