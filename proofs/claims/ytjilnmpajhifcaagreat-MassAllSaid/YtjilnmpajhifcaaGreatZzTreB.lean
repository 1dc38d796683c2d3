/- What the tree of sorted bodies keeps. -/
import Derived.Test.YtjilnmpajhifcaaGreatTreeNum
import Derived.Laws.Bits64
import Derived.Test.YtjilnmpajhifcaaGreatZzRow
import Derived.Test.YtjilnmpajhifcaaGreatZzSrtA
import Derived.Test.YtjilnmpajhifcaaGreatZzTreA
namespace Go.Proofs.YtjilnmpajhifcaaGreat
/-- The kids of a node by the first quarters: where they end, how many. -/
def kf (G : Nat → Option Nd) (i lev fr : Nat) (kid : Nat → Int) : Nat → Option (Nat × Nat)
  | 0 => some (fr, 0)
  | q + 1 => match kf G i lev fr kid q with
    | none => none
    | some (a, c) => if kid q < 0 then some (a, c) else match G (kid q).toNat with
      | none => none
      | some y => if (i : Int) < kid q ∧ y.fr = a ∧ y.lev = lev + 1 then some (y.to, c + 1) else none
theorem kf_no {G : Nat → Option Nd} {i lev fr q a c : Nat} {kid : Nat → Int} (h : kf G i lev fr kid q = some (a, c)) (hk : kid q < 0) : kf G i lev fr kid (q + 1) = some (a, c) := by
  unfold kf; rw [h]; simp only; rw [if_pos hk]
theorem kf_yes {G : Nat → Option Nd} {i lev fr q a c : Nat} {kid : Nat → Int} {y : Nd} (h : kf G i lev fr kid q = some (a, c)) (hk : ¬ kid q < 0) (hG : G (kid q).toNat = some y) (hi : (i : Int) < kid q) (hf : y.fr = a) (hl : y.lev = lev + 1) :
    kf G i lev fr kid (q + 1) = some (y.to, c + 1) := by
  unfold kf; rw [h]; simp only; rw [if_neg hk, hG]; simp only; rw [if_pos ⟨hi, hf, hl⟩]
theorem kf_congr (G : Nat → Option Nd) (i lev fr : Nat) (kid kid' : Nat → Int) : ∀ q, (∀ j, j < q → kid j = kid' j) → kf G i lev fr kid q = kf G i lev fr kid' q := by
  intro q
  induction q with
  | zero => intro _; rfl
  | succ q ih => intro h; unfold kf; rw [ih (fun j hj => h j (by omega)), h q (by omega)]
/-- What each node keeps. -/
structure Okn (K : Nat → Nat) (G : Nat → Option Nd) (n i : Nat) (x : Nd) : Prop where
  lt : x.fr < x.to
  le : x.to ≤ n
  lev : x.lev ≤ 32
  keys : ∀ k, x.fr ≤ k → k < x.to → K k / 2 ^ (64 - 2 * x.lev) * 2 ^ (64 - 2 * x.lev) = x.key
  kids : ∃ a c, kf G i x.lev x.fr x.kid 4 = some (a, c) ∧ (c = 0 → x.to - x.fr ≤ 4 ∨ x.lev = 32) ∧ (c ≠ 0 → a = x.to ∧ 4 < x.to - x.fr)
/-- No kids. -/
def lf (x : Nd) : Bool := decide (x.kid 0 < 0) && decide (x.kid 1 < 0) && decide (x.kid 2 < 0) && decide (x.kid 3 < 0)
/-- Of how many leaves a body is. -/
def cnt : List Nd → Nat → Nat
  | [], _ => 0
  | x :: T, k => (if lf x = true ∧ x.fr ≤ k ∧ k < x.to then 1 else 0) + cnt T k
theorem cnt_app (S T : List Nd) (k : Nat) : cnt (S ++ T) k = cnt S k + cnt T k := by
  induction S with
  | nil => show cnt T k = 0 + cnt T k; omega
  | cons x S ih => show _ + cnt (S ++ T) k = _ + cnt S k + cnt T k; rw [ih]; omega
theorem adv_same (K : Nat → Nat) (lev q : Nat) : ∀ f a k, a ≤ k → k < adv K lev q f a → qt4 (K k) lev = q := by
  intro f
  induction f with
  | zero => intro a k h1 h2; have e : adv K lev q 0 a = a := rfl; omega
  | succ f ih =>
    intro a k h1 h2
    by_cases c : qt4 (K a) lev = q
    · rw [adv_go c] at h2
      rcases Nat.eq_or_lt_of_le h1 with e | e
      · rw [← e]; exact c
      · exact ih (a + 1) k e h2
    · rw [adv_stop c] at h2; omega
theorem adv_next (K : Nat → Nat) (lev q : Nat) : ∀ f a, adv K lev q f a < a + f → qt4 (K (adv K lev q f a)) lev ≠ q := by
  intro f
  induction f with
  | zero => intro a h; have e : adv K lev q 0 a = a := rfl; omega
  | succ f ih =>
    intro a h
    by_cases c : qt4 (K a) lev = q
    · rw [adv_go c] at h ⊢; exact ih (a + 1) (by omega)
    · rw [adv_stop c]; exact c
theorem qt_split (K : Nat) {lev : Nat} (hl : lev ≤ 31) : K / 2 ^ (62 - 2 * lev) = 4 * (K / 2 ^ (64 - 2 * lev)) + qt4 K lev := by
  unfold qt4
  have e : 64 - 2 * lev = (62 - 2 * lev) + 2 := by omega
  rw [e, Nat.pow_add, ← Nat.div_div_eq_div_mul]
  generalize K / 2 ^ (62 - 2 * lev) = z
  omega
theorem qt_mono {A B lev p : Nat} (hl : lev ≤ 31) (h : A ≤ B) (ha : A / 2 ^ (64 - 2 * lev) = p) (hb : B / 2 ^ (64 - 2 * lev) = p) : qt4 A lev ≤ qt4 B lev := by
  have h1 := qt_split A hl
  have h2 := qt_split B hl
  have h3 : A / 2 ^ (62 - 2 * lev) ≤ B / 2 ^ (62 - 2 * lev) := Nat.div_le_div_right h
  rw [ha] at h1; rw [hb] at h2
  omega
theorem gr_head (d : Nat) (K : Nat → Nat) (at_ lev key f t : Nat) : ∃ kid, (gr d K at_ lev key f t)[0]? = some ⟨lev, key, f, t, kid⟩ := by
  cases d with
  | zero => exact ⟨_, rfl⟩
  | succ d =>
    unfold gr
    by_cases h : t - f ≤ 4
    · rw [if_pos h]; exact ⟨_, rfl⟩
    · rw [if_neg h]; exact ⟨_, rfl⟩
/-- What the tree of a range keeps. -/
structure Okt (K : Nat → Nat) (T : List Nd) (at_ n f t : Nat) : Prop where
  all : ∀ G : Nat → Option Nd, (∀ j x, T[j]? = some x → G (at_ + j) = some x) → ∀ j x, T[j]? = some x → Okn K G n (at_ + j) x
  cnt : ∀ k, cnt T k = if f ≤ k ∧ k < t then 1 else 0
theorem leaf_ok {K : Nat → Nat} {at_ n lev key f t p : Nat} (hft : f < t) (htn : t ≤ n) (hl : lev ≤ 32) (hp : ∀ k, f ≤ k → k < t → K k / 2 ^ (64 - 2 * lev) = p) (hkey : key = p * 2 ^ (64 - 2 * lev)) (h4 : t - f ≤ 4 ∨ lev = 32) :
    Okt K [⟨lev, key, f, t, fun _ => -1⟩] at_ n f t := by
  constructor
  · intro G hG j x hx
    obtain rfl : j = 0 := by rcases j with _ | j <;> simp at hx ⊢
    obtain rfl : (⟨lev, key, f, t, fun _ => -1⟩ : Nd) = x := by simpa using hx
    exact ⟨hft, htn, hl, fun k h1 h2 => by show K k / 2 ^ (64 - 2 * lev) * 2 ^ (64 - 2 * lev) = key; rw [hp k h1 h2, hkey], ⟨f, 0, rfl, fun _ => h4, fun h => absurd rfl h⟩⟩
  · intro k
    show (if lf ⟨lev, key, f, t, fun _ => -1⟩ = true ∧ f ≤ k ∧ k < t then 1 else 0) + 0 = _
    have e : lf ⟨lev, key, f, t, fun _ => -1⟩ = true := rfl
    simp [e]
theorem kf_lf {G : Nat → Option Nd} {i lev fr a c : Nat} {x : Nd} (h : kf G i lev fr x.kid 4 = some (a, c)) : lf x = true ↔ c = 0 := by
  have step : ∀ q a c, kf G i lev fr x.kid (q + 1) = some (a, c) → (c = 0 ↔ x.kid q < 0 ∧ ∃ b, kf G i lev fr x.kid q = some (b, 0)) := by
    intro q a c h
    unfold kf at h
    rcases e : kf G i lev fr x.kid q with _ | ⟨a', c'⟩
    · rw [e] at h; cases h
    · rw [e] at h; simp only at h
      by_cases k : x.kid q < 0
      · rw [if_pos k] at h
        have h := Option.some.inj h
        obtain ⟨rfl, rfl⟩ := Prod.mk.inj h
        constructor
        · intro hc; subst hc; exact ⟨k, _, rfl⟩
        · rintro ⟨_, b, hb⟩; exact (Prod.mk.inj (Option.some.inj hb)).2
      · rw [if_neg k] at h
        rcases hg : G (x.kid q).toNat with _ | y
        · rw [hg] at h; cases h
        · rw [hg] at h; simp only at h
          by_cases k2 : (i : Int) < x.kid q ∧ y.fr = a' ∧ y.lev = lev + 1
          · rw [if_pos k2] at h
            have h := (Prod.mk.inj (Option.some.inj h)).2
            constructor
            · intro hc; omega
            · intro g; exact absurd g.1 k
          · rw [if_neg k2] at h; cases h
  have e : lf x = true ↔ x.kid 0 < 0 ∧ x.kid 1 < 0 ∧ x.kid 2 < 0 ∧ x.kid 3 < 0 := by
    unfold lf; simp [and_assoc]
  rw [e, step 3 a c h]
  constructor
  · rintro ⟨k0, k1, k2, k3⟩
    exact ⟨k3, fr, kf_no (kf_no (kf_no rfl k0) k1) k2⟩
  · rintro ⟨k3, b, h3⟩
    obtain ⟨k2, b2, h2⟩ := (step 2 b 0 h3).1 rfl
    obtain ⟨k1, b1, h1⟩ := (step 1 b2 0 h2).1 rfl
    obtain ⟨k0, _⟩ := (step 0 b1 0 h1).1 rfl
    exact ⟨k0, k1, k2, k3⟩
theorem kf_inv {G : Nat → Option Nd} {i lev fr q a c a' c' : Nat} {kid : Nat → Int} (h : kf G i lev fr kid q = some (a, c)) (h' : kf G i lev fr kid (q + 1) = some (a', c')) :
    (kid q < 0 ∧ a' = a ∧ c' = c) ∨ (¬ kid q < 0 ∧ ∃ y, G (kid q).toNat = some y ∧ (i : Int) < kid q ∧ y.fr = a ∧ y.lev = lev + 1 ∧ a' = y.to ∧ c' = c + 1) := by
  unfold kf at h'
  rw [h] at h'; simp only at h'
  by_cases k : kid q < 0
  · rw [if_pos k] at h'
    have e := Prod.mk.inj (Option.some.inj h')
    exact Or.inl ⟨k, e.1.symm, e.2.symm⟩
  · rw [if_neg k] at h'
    rcases hg : G (kid q).toNat with _ | y
    · rw [hg] at h'; cases h'
    · rw [hg] at h'; simp only at h'
      by_cases k2 : (i : Int) < kid q ∧ y.fr = a ∧ y.lev = lev + 1
      · rw [if_pos k2] at h'
        have e := Prod.mk.inj (Option.some.inj h')
        exact Or.inr ⟨k, y, rfl, k2.1, k2.2.1, k2.2.2, e.1.symm, e.2.symm⟩
      · rw [if_neg k2] at h'; cases h'
theorem kf_pre {G : Nat → Option Nd} {i lev fr : Nat} {kid : Nat → Int} : ∀ {d q : Nat} {r : Nat × Nat}, kf G i lev fr kid (q + d) = some r → ∃ a c, kf G i lev fr kid q = some (a, c) := by
  intro d
  induction d with
  | zero => intro q r h; exact ⟨r.1, r.2, h⟩
  | succ d ih =>
    intro q r h
    rcases e : kf G i lev fr kid (q + d) with _ | r'
    · exfalso
      have : kf G i lev fr kid (q + d + 1) = some r := h
      unfold kf at this; rw [e] at this; cases this
    · exact ih e
/-- Behind so many quarters. -/
structure Oku (K : Nat → Nat) (at_ lev n f t q : Nat) (o : List Nd) (g : Nat) (kid : Nat → Int) : Prop where
  hi : ∀ k, g ≤ k → k < t → q ≤ qt4 (K k) lev
  cn : ∀ k, cnt o k = if f ≤ k ∧ k < g then 1 else 0
  al : ∀ G : Nat → Option Nd, (∀ j x, o[j]? = some x → G (at_ + 1 + j) = some x) → (∀ j x, o[j]? = some x → Okn K G n (at_ + 1 + j) x) ∧ ∃ c, kf G at_ lev f kid q = some (g, c) ∧ (c = 0 ↔ g = f)
  no : ∀ j, q ≤ j → kid j = -1
theorem ku_ok {K : Nat → Nat} {n : Nat} (hm : ∀ a b, a ≤ b → b < n → K a ≤ K b) {d lev at_ p f t : Nat} (hl : lev ≤ 31) (hft : f < t) (htn : t ≤ n) (hp : ∀ k, f ≤ k → k < t → K k / 2 ^ (64 - 2 * lev) = p)
    (ih : ∀ a r g s, g < s → s ≤ n → (∀ k, g ≤ k → k < s → K k / 2 ^ (64 - 2 * (lev + 1)) = r) → Okt K (gr d K a (lev + 1) (r * 2 ^ (64 - 2 * (lev + 1))) g s) a n g s) :
    ∀ q, q ≤ 4 → Oku K at_ lev n f t q (ku (fun a k f t => gr d K a (lev + 1) k f t) K lev at_ t f q).1 (ku (fun a k f t => gr d K a (lev + 1) k f t) K lev at_ t f q).2.1 (ku (fun a k f t => gr d K a (lev + 1) k f t) K lev at_ t f q).2.2 := by
  intro q
  induction q with
  | zero =>
    intro _
    exact ⟨fun _ _ _ => Nat.zero_le _, fun k => by show 0 = _; rw [if_neg]; rintro ⟨a, b⟩; exact absurd b (Nat.not_lt.2 a), fun G _ => ⟨fun j x hx => (by cases hx), 0, rfl, by show (0 = 0) ↔ (f = f); simp⟩, fun _ _ => rfl⟩
  | succ q ihq =>
    intro hq
    have hk := ihq (by omega)
    have hfr := ku_fr (fun a k f t => gr d K a (lev + 1) k f t) K lev at_ t f (by omega) q
    rcases e : ku (fun a k f t => gr d K a (lev + 1) k f t) K lev at_ t f q with ⟨o, g, kid⟩
    rw [e] at hk hfr
    simp only at hk hfr
    obtain ⟨hhi, hcn, hal, hno⟩ := hk
    have hge := adv_ge K lev q (t - g) g
    have hsm := adv_same K lev q (t - g) g
    have hnx := adv_next K lev q (t - g) g
    have hB : ∀ k, adv K lev q (t - g) g ≤ k → k < t → q + 1 ≤ qt4 (K k) lev := by
      intro k h1 h2
      have c1 := hnx (by omega)
      have c2 := hhi (adv K lev q (t - g) g) hge.1 (by omega)
      have c3 := qt_mono (p := p) hl (hm _ k h1 (by omega)) (hp _ (by omega) (by omega)) (hp k (by omega) h2)
      omega
    by_cases c : g < adv K lev q (t - g) g
    · rw [ku_yes e rfl c]
      generalize adv K lev q (t - g) g = s at *
      have e62 : 64 - 2 * (lev + 1) = 62 - 2 * lev := by omega
      have hr : ∀ k, g ≤ k → k < s → K k / 2 ^ (64 - 2 * (lev + 1)) = 4 * p + q := by
        intro k h1 h2
        rw [e62, qt_split _ hl, hp k (by omega) (by omega), hsm k h1 h2]
      have hkey : cutk (K g) lev = (4 * p + q) * 2 ^ (64 - 2 * (lev + 1)) := by
        unfold cutk; rw [← hr g (Nat.le_refl _) c, e62]
      have hT := ih (at_ + 1 + o.length) (4 * p + q) g s c (by omega) hr
      have hH := gr_head d K (at_ + 1 + o.length) (lev + 1) (cutk (K g) lev) g s
      rw [← hkey] at hT
      simp only
      generalize gr d K (at_ + 1 + o.length) (lev + 1) (cutk (K g) lev) g s = T at *
      refine ⟨hB, fun k => ?_, fun G hG => ?_, fun j hj => ?_⟩
      · rw [cnt_app, hcn k, hT.cnt k]
        by_cases k1 : f ≤ k ∧ k < g
        · rw [if_pos k1, if_neg (by omega), if_pos (by omega)]
        · rw [if_neg k1]
          by_cases k2 : g ≤ k ∧ k < s
          · rw [if_pos k2, if_pos (by omega)]
          · rw [if_neg k2, if_neg (by omega)]
      · have hGo : ∀ j x, o[j]? = some x → G (at_ + 1 + j) = some x := fun j x hx => hG j x (by
          have hl := (List.getElem?_eq_some_iff.1 hx).1
          rw [List.getElem?_append_left hl]; exact hx)
        have hGT : ∀ j x, T[j]? = some x → G (at_ + 1 + o.length + j) = some x := fun j x hx => by
          have := hG (o.length + j) x (by rw [List.getElem?_append_right (by omega)]; rw [show o.length + j - o.length = j by omega]; exact hx)
          rw [Nat.add_assoc (at_ + 1)]; exact this
        obtain ⟨hA, cc, hkf, hc0⟩ := hal G hGo
        refine ⟨fun j x hx => ?_, cc + 1, ?_, by constructor <;> intro h <;> omega⟩
        · rcases Nat.lt_or_ge j o.length with hlt | hge2
          · rw [List.getElem?_append_left hlt] at hx; exact hA j x hx
          · rw [List.getElem?_append_right hge2] at hx
            have := hT.all G hGT (j - o.length) x hx
            rw [show at_ + 1 + j = at_ + 1 + o.length + (j - o.length) by omega]; exact this
        · obtain ⟨kd, hd⟩ := hH
          have hg0 := hGT 0 _ hd
          have key : ∀ kid' : Nat → Int, kid' q = ((at_ + 1 + o.length : Nat) : Int) → (∀ j, j < q → kid' j = kid j) → kf G at_ lev f kid' (q + 1) = some (s, cc + 1) := fun kid' hq' hj' => by
            refine kf_yes (y := ⟨lev + 1, cutk (K g) lev, g, s, kd⟩) ((kf_congr G at_ lev f kid' kid q hj').trans hkf) ?_ ?_ ?_ rfl rfl
            · rw [hq']; omega
            · rw [hq', Int.toNat_natCast]; exact hg0
            · rw [hq']; omega
          exact key _ (if_pos rfl) (fun j hj => if_neg (by omega))
      · show (if j = q then _ else kid j) = -1
        rw [if_neg (by omega)]; exact hno j (by omega)
    · have ce : adv K lev q (t - g) g = g := by omega
      rw [ku_no e rfl c]
      rw [ce] at hB ⊢
      exact ⟨hB, hcn, fun G hG => by
        obtain ⟨hA, cc, hkf, hc0⟩ := hal G hG
        exact ⟨hA, cc, kf_no hkf (by show kid q < 0; rw [hno q (Nat.le_refl _)]; decide), hc0⟩, fun j hj => hno j (by omega)⟩
theorem gr_ok {K : Nat → Nat} {n : Nat} (hm : ∀ a b, a ≤ b → b < n → K a ≤ K b) : ∀ d lev, lev + d = 32 → ∀ at_ p f t, f < t → t ≤ n → (∀ k, f ≤ k → k < t → K k / 2 ^ (64 - 2 * lev) = p) →
    Okt K (gr d K at_ lev (p * 2 ^ (64 - 2 * lev)) f t) at_ n f t := by
  intro d
  induction d with
  | zero =>
    intro lev hd at_ p f t hft htn hp
    exact leaf_ok hft htn (by omega) hp rfl (Or.inr (by omega))
  | succ d ih =>
    intro lev hd at_ p f t hft htn hp
    unfold gr
    by_cases h4 : t - f ≤ 4
    · rw [if_pos h4]; exact leaf_ok hft htn (by omega) hp rfl (Or.inl h4)
    · rw [if_neg h4]
      have hkey : ∀ k, f ≤ k → k < t → K k / 2 ^ (64 - 2 * lev) * 2 ^ (64 - 2 * lev) = p * 2 ^ (64 - 2 * lev) := fun k h1 h2 => by rw [hp k h1 h2]
      have hk := ku_ok hm (d := d) (at_ := at_) (p := p) (by omega : lev ≤ 31) hft htn hp (fun a r g s h1 h2 h3 => ih (lev + 1) (by omega) a r g s h1 h2 h3) 4 (Nat.le_refl _)
      have hfr := ku_fr (fun a k f t => gr d K a (lev + 1) k f t) K lev at_ t f (by omega) 4
      simp only
      generalize ku (fun a k f t => gr d K a (lev + 1) k f t) K lev at_ t f 4 = r at hk hfr ⊢
      obtain ⟨o, g, kid⟩ := r
      simp only at hk hfr ⊢
      clear hp ih hm
      generalize p * 2 ^ (64 - 2 * lev) = key at *
      obtain ⟨hhi, hcn, hal, hno⟩ := hk
      have hg : g = t := by
        rcases Nat.lt_or_ge g t with h | h
        · have := hhi g (Nat.le_refl _) h
          have := qt4_lt (K g) lev
          omega
        · omega
      subst hg
      refine ⟨fun G hG => ?_, fun k => ?_⟩
      · have hGo : ∀ j x, o[j]? = some x → G (at_ + 1 + j) = some x := fun j x hx => by
          have := hG (j + 1) x (by rw [List.getElem?_cons_succ]; exact hx)
          rw [show at_ + 1 + j = at_ + (j + 1) by omega]; exact this
        obtain ⟨hA, c, hkf, hc0⟩ := hal G hGo
        intro j x hx
        rcases j with _ | j
        · obtain rfl : (⟨lev, key, f, g, kid⟩ : Nd) = x := by simpa using hx
          exact ⟨hft, htn, by show lev ≤ 32; omega, hkey, ⟨g, c, hkf, fun h => by have := hc0.1 h; omega, fun _ => ⟨rfl, by show 4 < g - f; omega⟩⟩⟩
        · rw [List.getElem?_cons_succ] at hx
          rw [show at_ + (j + 1) = at_ + 1 + j by omega]; exact hA j x hx
      · show (if lf ⟨lev, key, f, g, kid⟩ = true ∧ f ≤ k ∧ k < g then 1 else 0) + cnt o k = _
        obtain ⟨_, c, hkf, hc0⟩ := hal (fun i => o[i - (at_ + 1)]?) (fun j x hx => by simpa using hx)
        have hn : ¬ lf ⟨lev, key, f, g, kid⟩ = true := fun h => by
          have := (kf_lf (x := ⟨lev, key, f, g, kid⟩) hkf).1 h
          have := hc0.1 this; omega
        rw [if_neg (fun h => hn h.1), hcn k, Nat.zero_add]
end Go.Proofs.YtjilnmpajhifcaaGreat
namespace Go.Proofs.YtjilnmpajhifcaaGreat
/-- How many of so many behind a place are of a quarter. -/
def cp (K : Nat → Nat) (lev q f : Nat) : Nat → Nat
  | 0 => 0
  | i + 1 => cp K lev q f i + if qt4 (K (f + i)) lev = q then 1 else 0
theorem cp_le (K : Nat → Nat) (lev q f : Nat) : ∀ i, cp K lev q f i ≤ i := by
  intro i
  induction i with
  | zero => exact Nat.le_refl _
  | succ i ih => unfold cp; split <;> omega
theorem cp_yes {K : Nat → Nat} {lev q f i : Nat} (h : qt4 (K (f + i)) lev = q) : cp K lev q f (i + 1) = cp K lev q f i + 1 := by
  show cp K lev q f i + (if _ then 1 else 0) = _
  rw [if_pos h]
theorem cp_no {K : Nat → Nat} {lev q f i : Nat} (h : ¬ qt4 (K (f + i)) lev = q) : cp K lev q f (i + 1) = cp K lev q f i := by
  show cp K lev q f i + (if _ then 1 else 0) = _
  rw [if_neg h]; rfl
theorem cp_shift (K : Nat → Nat) (lev q f : Nat) : ∀ i, cp (fun j => K (f + j)) lev q 0 i = cp K lev q f i := by
  intro i
  induction i with
  | zero => rfl
  | succ i ih => unfold cp; rw [ih]; simp only [Nat.zero_add]
theorem cp_between {K : Nat → Nat} {lev q f a b : Nat} (ha : f ≤ a) (hab : a ≤ b) : ∀ n, (∀ k, f ≤ k → k < f + n → (qt4 (K k) lev = q ↔ a ≤ k ∧ k < b)) → cp K lev q f n + min (f + n) a = min (f + n) b := by
  intro n
  induction n with
  | zero => intro _; show 0 + _ = _; omega
  | succ n ih =>
    intro h
    have k := ih (fun k h1 h2 => h k h1 (by omega))
    have g := h (f + n) (by omega) (by omega)
    by_cases c : qt4 (K (f + n)) lev = q
    · rw [cp_yes c]; have := g.1 c; omega
    · rw [cp_no c]; have : ¬ (a ≤ f + n ∧ f + n < b) := fun e => c (g.2 e); omega
theorem ku_cut {rec_ : Nat → Nat → Nat → Nat → List Nd} {K : Nat → Nat} {lev at_ tt fr : Nat} (h : fr ≤ tt) (hm : ∀ a b, fr ≤ a → a ≤ b → b < tt → qt4 (K a) lev ≤ qt4 (K b) lev) :
    ∀ q, ∀ o f k, ku rec_ K lev at_ tt fr q = (o, f, k) → (fr ≤ f ∧ f ≤ tt) ∧ (∀ j, fr ≤ j → j < f → qt4 (K j) lev < q) ∧ ∀ j, f ≤ j → j < tt → q ≤ qt4 (K j) lev := by
  intro q
  induction q with
  | zero =>
    intro o f k e
    have e2 : f = fr := (congrArg (fun r => r.2.1) e).symm
    subst e2
    exact ⟨⟨Nat.le_refl _, h⟩, fun j h1 h2 => by omega, fun _ _ _ => Nat.zero_le _⟩
  | succ q ih =>
    intro o f k e
    rcases e0 : ku rec_ K lev at_ tt fr q with ⟨o', f', k'⟩
    obtain ⟨⟨hf1, hf2⟩, hlo, hhi⟩ := ih o' f' k' e0
    have hge := adv_ge K lev q (tt - f') f'
    have hsm := adv_same K lev q (tt - f') f'
    have hnx := adv_next K lev q (tt - f') f'
    have ef : f = adv K lev q (tt - f') f' := by
      by_cases c : f' < adv K lev q (tt - f') f'
      · have := ku_yes e0 rfl c; rw [e] at this; exact congrArg (fun r => r.2.1) this
      · have := ku_no e0 rfl c; rw [e] at this; exact congrArg (fun r => r.2.1) this
    rw [← ef] at hge hsm hnx
    refine ⟨⟨by omega, by omega⟩, fun j h1 h2 => ?_, fun j h1 h2 => ?_⟩
    · rcases Nat.lt_or_ge j f' with c | c
      · have := hlo j h1 c; omega
      · have := hsm j c h2; omega
    · have c1 := hnx (by omega)
      have c2 := hhi f hge.1 (by omega)
      have c3 := hm f j (by omega) h1 h2
      omega
/-- Where the next quarter begins: so many further on. -/
theorem adv_cp {rec_ : Nat → Nat → Nat → Nat → List Nd} {K : Nat → Nat} {lev at_ tt fr : Nat} (h : fr ≤ tt) (hm : ∀ a b, fr ≤ a → a ≤ b → b < tt → qt4 (K a) lev ≤ qt4 (K b) lev)
    {q : Nat} {o : List Nd} {f : Nat} {k : Nat → Int} (e : ku rec_ K lev at_ tt fr q = (o, f, k)) : adv K lev q (tt - f) f = f + cp K lev q fr (tt - fr) := by
  obtain ⟨⟨hf1, hf2⟩, hlo, hhi⟩ := ku_cut h hm q o f k e
  have hge := adv_ge K lev q (tt - f) f
  have hsm := adv_same K lev q (tt - f) f
  have hnx := adv_next K lev q (tt - f) f
  have g := cp_between (K := K) (lev := lev) (q := q) (f := fr) (a := f) (b := adv K lev q (tt - f) f) hf1 hge.1 (tt - fr) (fun j h1 h2 => by
    constructor
    · intro hj
      refine ⟨?_, ?_⟩
      · rcases Nat.lt_or_ge j f with c | c
        · have := hlo j h1 c; omega
        · exact c
      · rcases Nat.lt_or_ge j (adv K lev q (tt - f) f) with c | c
        · exact c
        · exfalso
          have c1 := hnx (by omega)
          have c2 := hhi (adv K lev q (tt - f) f) hge.1 (by omega)
          have c3 := hm (adv K lev q (tt - f) f) j (by omega) c (by omega)
          omega
    · rintro ⟨h3, h4⟩; exact hsm j h3 h4)
  omega
/-- A kid's key. -/
theorem cutk_kid {K lev p q : Nat} (hl : lev ≤ 31) (hp : K / 2 ^ (64 - 2 * lev) = p) (hq : qt4 K lev = q) : cutk K lev = p * 2 ^ (64 - 2 * lev) + q * 2 ^ (62 - 2 * lev) := by
  have h := qt_split K hl
  rw [hp, hq] at h
  unfold cutk
  rw [h]
  have e : 64 - 2 * lev = (62 - 2 * lev) + 2 := by omega
  rw [e, Nat.pow_add]
  generalize 2 ^ (62 - 2 * lev) = t
  grind
theorem or_kid {lev p q : Nat} (hl : lev ≤ 31) (hq : q < 4) (h : p * 2 ^ (64 - 2 * lev) + q * 2 ^ (62 - 2 * lev) < 18446744073709551616) :
    bits .or .u64 ((p * 2 ^ (64 - 2 * lev) : Nat) : Int) ((q * 2 ^ (62 - 2 * lev) : Nat) : Int) = ((p * 2 ^ (64 - 2 * lev) + q * 2 ^ (62 - 2 * lev) : Nat) : Int) := by
  have hlt : q * 2 ^ (62 - 2 * lev) < 2 ^ (64 - 2 * lev) := by
    have e : 64 - 2 * lev = (62 - 2 * lev) + 2 := by omega
    rw [e, Nat.pow_add]
    have h0 : 0 < 2 ^ (62 - 2 * lev) := Nat.two_pow_pos _
    generalize 2 ^ (62 - 2 * lev) = t at *
    have : q * t ≤ 3 * t := Nat.mul_le_mul_right _ (by omega)
    omega
  rw [bits_or_u64_nat _ _ (by omega) (by omega)]
  congr 1
  have k := Nat.two_pow_add_eq_or_of_lt hlt p
  rw [Nat.mul_comm p, k]
theorem div_kid {K lev p q : Nat} (hl : lev ≤ 31) (hp : K / 2 ^ (64 - 2 * lev) = p) (hq : qt4 K lev = q) : K / 2 ^ (64 - 2 * (lev + 1)) = 4 * p + q := by
  rw [show 64 - 2 * (lev + 1) = 62 - 2 * lev by omega, qt_split K hl, hp, hq]
theorem key_kid {lev p q : Nat} (hl : lev ≤ 31) : p * 2 ^ (64 - 2 * lev) + q * 2 ^ (62 - 2 * lev) = (4 * p + q) * 2 ^ (64 - 2 * (lev + 1)) := by
  rw [show 64 - 2 * (lev + 1) = 62 - 2 * lev by omega]
  have e : 64 - 2 * lev = (62 - 2 * lev) + 2 := by omega
  rw [e, Nat.pow_add]
  generalize 2 ^ (62 - 2 * lev) = t
  grind
/-- What a quarter's kid is. -/
theorem kid_ok {rec_ : Nat → Nat → Nat → Nat → List Nd} {K : Nat → Nat} {lev at_ fa ta n p : Nat} (hl : lev ≤ 31) (hft : fa ≤ ta) (htn : ta ≤ n) (hmo : ∀ a b, a ≤ b → b < n → K a ≤ K b) (hpk : ∀ k, fa ≤ k → k < ta → K k / 2 ^ (64 - 2 * lev) = p)
    {q : Nat} {o : List Nd} {f : Nat} {k : Nat → Int} (e : ku rec_ K lev at_ ta fa q = (o, f, k)) :
    adv K lev q (ta - f) f = f + cp K lev q fa (ta - fa) ∧ (fa ≤ f ∧ f + cp K lev q fa (ta - fa) ≤ ta) ∧ (0 < cp K lev q fa (ta - fa) → cutk (K f) lev = p * 2 ^ (64 - 2 * lev) + q * 2 ^ (62 - 2 * lev) ∧
      ∀ k, f ≤ k → k < f + cp K lev q fa (ta - fa) → K k / 2 ^ (64 - 2 * (lev + 1)) = 4 * p + q) := by
  have hm : ∀ a b, fa ≤ a → a ≤ b → b < ta → qt4 (K a) lev ≤ qt4 (K b) lev := fun a b h1 h2 h3 => qt_mono hl (hmo a b h2 (by omega)) (hpk a h1 (by omega)) (hpk b (by omega) h3)
  have ha := adv_cp hft hm e
  have hf := (ku_cut hft hm q o f k e).1
  have hge := adv_ge K lev q (ta - f) f
  have hsm := adv_same K lev q (ta - f) f
  rw [ha] at hge hsm
  refine ⟨ha, ⟨hf.1, by omega⟩, fun h => ⟨cutk_kid hl (hpk f hf.1 (by omega)) (hsm f (Nat.le_refl _) (by omega)), fun k h1 h2 => div_kid hl (hpk k (by omega) (by omega)) (hsm k h1 h2)⟩⟩
end Go.Proofs.YtjilnmpajhifcaaGreat
namespace Go.Proofs.YtjilnmpajhifcaaGreat
open Go.RowKit
/-- What is counted of so many, as cells. -/
def cl (K : Nat → Nat) (lev i : Nat) : List Value := [.int .i64 (cp K lev 0 0 i : Int), .int .i64 (cp K lev 1 0 i : Int), .int .i64 (cp K lev 2 0 i : Int), .int .i64 (cp K lev 3 0 i : Int)]
theorem cl_get (K : Nat → Nat) (lev i : Nat) {q : Nat} (hq : q < 4) : (cl K lev i)[q]? = some (.int .i64 (cp K lev q 0 i : Int)) := by
  rcases (show q = 0 ∨ q = 1 ∨ q = 2 ∨ q = 3 by omega) with rfl | rfl | rfl | rfl <;> rfl
theorem cl_put (K : Nat → Nat) (lev i : Nat) {q : Nat} (h : qt4 (K i) lev = q) : (cl K lev i).set q (.int .i64 ((cp K lev q 0 i : Int) + 1)) = cl K lev (i + 1) := by
  have hq : q < 4 := by rw [← h]; exact qt4_lt _ _
  have h0 : qt4 (K (0 + i)) lev = q := by rw [Nat.zero_add]; exact h
  have y : ∀ p, qt4 (K (0 + i)) lev = p → ((cp K lev p 0 (i + 1) : Nat) : Int) = (cp K lev p 0 i : Int) + 1 := fun p hp => by rw [cp_yes hp]; omega
  have n : ∀ p, p ≠ q → cp K lev p 0 (i + 1) = cp K lev p 0 i := fun p hp => cp_no (by rw [h0]; exact fun e => hp e.symm)
  unfold cl
  rcases (show q = 0 ∨ q = 1 ∨ q = 2 ∨ q = 3 by omega) with rfl | rfl | rfl | rfl
  · rw [y 0 h0, n 1 (by decide), n 2 (by decide), n 3 (by decide)]; rfl
  · rw [y 1 h0, n 0 (by decide), n 2 (by decide), n 3 (by decide)]; rfl
  · rw [y 2 h0, n 0 (by decide), n 1 (by decide), n 3 (by decide)]; rfl
  · rw [y 3 h0, n 0 (by decide), n 1 (by decide), n 2 (by decide)]; rfl
/-- One of four, by its number. -/
theorem idx4 (K : Nat → Nat) (lev n : Nat) {q : Nat} (hq : q < 4) (W : World) : (Instr.index 72 (.agg (cl K lev n).toArray) (.int .i64 (q : Int))).run Tryz.prog W = .ok (.int .i64 (cp K lev q 0 n : Int)) W := by
  have e : ∀ v0 v1 v2 v3 : Int, (cl K lev n) = [.int .i64 v0, .int .i64 v1, .int .i64 v2, .int .i64 v3] → ∀ u, (cl K lev n)[q]? = some (.int .i64 u) → (Instr.index 72 (.agg (cl K lev n).toArray) (.int .i64 (q : Int))).run Tryz.prog W = .ok (.int .i64 u) W := by
    intro v0 v1 v2 v3 h u hu
    rw [h] at hu ⊢
    rcases (show q = 0 ∨ q = 1 ∨ q = 2 ∨ q = 3 by omega) with rfl | rfl | rfl | rfl
    · simp at hu; subst hu; simp [Instr.index, asIntOf, go_sem]
    · simp at hu; subst hu; simp [Instr.index, asIntOf, go_sem]
    · simp at hu; subst hu; simp [Instr.index, asIntOf, go_sem]
    · simp at hu; subst hu; simp [Instr.index, asIntOf, go_sem]
  exact e _ _ _ _ rfl _ (cl_get K lev n hq)
end Go.Proofs.YtjilnmpajhifcaaGreat
namespace Go.Proofs.YtjilnmpajhifcaaGreat
open Go.RowKit
/-- The cells of a node whose kids are none. -/
def nd1 (lev key fa ta : Nat) : Array Value := #[.int .i64 (lev : Int), .int .u64 (key : Int), .int .i64 (fa : Int), .int .i64 (ta : Int), .int .i64 (-1), .int .i64 (-1), .int .i64 (-1), .int .i64 (-1)]
theorem Gs.box8 {b0 lev key fa ta : Nat} {w : World} {vb : Option Nat} {g cap : Nat} {C : List Nd} {W : World} (h : Gs b0 w vb (nd1 lev key fa ta) g cap C W) :
    W.cell? ⟨w.heap.size, 0, none⟩ = some (.int .i64 (lev : Int)) ∧ W.cell? ⟨w.heap.size, 1, none⟩ = some (.int .u64 (key : Int)) ∧ W.cell? ⟨w.heap.size, 2, none⟩ = some (.int .i64 (fa : Int)) ∧ W.cell? ⟨w.heap.size, 3, none⟩ = some (.int .i64 (ta : Int)) ∧
    W.cell? ⟨w.heap.size, 4, none⟩ = some (.int .i64 (-1)) ∧ W.cell? ⟨w.heap.size, 5, none⟩ = some (.int .i64 (-1)) ∧ W.cell? ⟨w.heap.size, 6, none⟩ = some (.int .i64 (-1)) ∧ W.cell? ⟨w.heap.size, 7, none⟩ = some (.int .i64 (-1)) :=
  ⟨h.boxc 0, h.boxc 1, h.boxc 2, h.boxc 3, h.boxc 4, h.boxc 5, h.boxc 6, h.boxc 7⟩
theorem rs_mono {L : List (Nat × Int)} {n : Nat} (hl : L.length = n) (h : rs L = true) : ∀ a b, a ≤ b → b < n → keyAt L a ≤ keyAt L b := by
  intro a b hab hb
  rcases Nat.eq_or_lt_of_le hab with e | e
  · rw [e]; exact Nat.le_refl _
  · have k := List.pairwise_iff_getElem.1 ((rs_pair L).1 h) a b (by omega) (by omega) e
    unfold keyAt
    rw [List.getElem?_eq_getElem (by omega : a < L.length), List.getElem?_eq_getElem (by omega : b < L.length)]
    exact k
set_option maxRecDepth 20000 in
set_option maxHeartbeats 8000000 in
theorem width_1 (z n : Int) (j : Nat) (c : z = (j : Int)) (d : j ≤ 32) (e : (4294967296 : Int) / 2 ^ j = n) (w : World) :
    Calls Tryz.prog 31 #[.int .i64 z] w fun e w' => e = .returned (.agg #[.int .i64 n, .int .u64 0]) ∧ Below w.heap.size w w' := by
  subst c
  have c1 : ¬ (j : Int) < 0 := by omega
  have c2 : (j : Int) ≤ 32 := by omega
  have c3 : (0 : Int) ≤ (j : Int) := by omega
  have c4 : ¬ (32 : Int) < (j : Int) := by omega
  have c5 : (j : Int) < 64 := by omega
  go_enter Tryz.func31, Tryz.ntmps31
  go_wp2_with fail
  refine bodyPost_ret (by simp [results, Tryz.results31, go_sem, *]; try rfl) rfl ?_
  exact ⟨rfl, bb⟩
theorem width_0 (z : Int) (c : z < 0) (w : World) :
    Calls Tryz.prog 31 #[.int .i64 z] w fun e w' => e = .returned (.agg #[.int .i64 4294967296, .int .u64 0]) ∧ Below w.heap.size w w' := by
  have c2 : ¬ (0 : Int) ≤ z := by omega
  go_enter Tryz.func31, Tryz.ntmps31
  go_wp2_with fail
  refine bodyPost_ret (by simp [results, Tryz.results31, go_sem, *]; try rfl) rfl ?_
  exact ⟨rfl, bb⟩
theorem width_2 (z : Int) (c : 32 < z) (w : World) :
    Calls Tryz.prog 31 #[.int .i64 z] w fun e w' => e = .returned (.agg #[.int .i64 1, .int .u64 0]) ∧ Below w.heap.size w w' := by
  have c2 : ¬ z ≤ 32 := by omega
  have c3 : ¬ z < 0 := by omega
  have c4 : 0 ≤ z := by omega
  go_enter Tryz.func31, Tryz.ntmps31
  go_wp2_with fail
  refine bodyPost_ret (by simp [results, Tryz.results31, go_sem, *]; try rfl) rfl ?_
  exact ⟨rfl, bb⟩
theorem wid_prog : WidT := by
  intro z W
  rcases (show z < 0 ∨ 32 < z ∨ (0 ≤ z ∧ z ≤ 32) by omega) with c | c | c
  · have e : wid z = .agg #[.int .i64 4294967296, .int .u64 0] := by
      have : wlev z = 0 := by unfold wlev; rw [if_pos c]
      unfold wid; rw [this]; rfl
    rw [e]; exact width_0 z c W
  · have e : wid z = .agg #[.int .i64 1, .int .u64 0] := by
      have : wlev z = 32 := by unfold wlev; rw [if_neg (by omega), if_pos c]
      unfold wid; rw [this]; rfl
    rw [e]; exact width_2 z c W
  · obtain ⟨j, rfl⟩ := Int.eq_ofNat_of_zero_le c.1
    have hl : wlev (j : Int) = j := by unfold wlev; rw [if_neg (by omega), if_neg (by omega)]; omega
    unfold wid
    rw [hl]
    refine width_1 (j : Int) _ j rfl (by omega) ?_ W
    have hj : j ≤ 32 := by omega
    have k : ∀ j : Nat, j < 33 → (4294967296 : Int) / 2 ^ j = ((2 ^ (32 - j) : Nat) : Int) := by decide
    exact k j (by omega)
end Go.Proofs.YtjilnmpajhifcaaGreat
namespace Go.Proofs.YtjilnmpajhifcaaGreat
theorem adv_all (K : Nat → Nat) (lev q : Nat) : ∀ f a, (∀ k, a ≤ k → k < a + f → qt4 (K k) lev = q) → adv K lev q f a = a + f := by
  intro f
  induction f with
  | zero => intro a _; rfl
  | succ f ih =>
    intro a h
    rw [adv_go (h a (Nat.le_refl _) (by omega)), ih (a + 1) (fun k h1 h2 => h k (by omega) (by omega))]; omega
theorem adv_none (K : Nat → Nat) (lev q a : Nat) : adv K lev q 0 a = a := rfl
theorem adv_off {K : Nat → Nat} {lev q : Nat} (f : Nat) {a : Nat} (h : qt4 (K a) lev ≠ q) : adv K lev q f a = a := by
  cases f with
  | zero => rfl
  | succ f => exact adv_stop h
theorem ku_one (rec : Nat → Nat → Nat → Nat → List Nd) {K : Nat → Nat} (lev at_ : Nat) {f t v : Nat} (hft : f < t) (hK : ∀ k, f ≤ k → k < t → K k = v) : ∀ q,
    (q ≤ qt4 v lev → (ku rec K lev at_ t f q).1 = [] ∧ (ku rec K lev at_ t f q).2.1 = f) ∧ (qt4 v lev < q → (ku rec K lev at_ t f q).1 = rec (at_ + 1) (cutk v lev) f t ∧ (ku rec K lev at_ t f q).2.1 = t) := by
  intro q
  induction q with
  | zero => exact ⟨fun _ => ⟨rfl, rfl⟩, fun h => absurd h (by omega)⟩
  | succ q ih =>
    rcases e : ku rec K lev at_ t f q with ⟨o, g, kid⟩
    rw [e] at ih
    simp only at ih
    have hf : qt4 (K f) lev = qt4 v lev := by rw [hK f (Nat.le_refl _) hft]
    rcases Nat.lt_trichotomy q (qt4 v lev) with h | h | h
    · obtain ⟨rfl, rfl⟩ := ih.1 (by omega)
      have a : adv K lev q (t - g) g = g := adv_off _ (by omega)
      rw [ku_no e a (by omega)]
      exact ⟨fun _ => ⟨rfl, rfl⟩, fun k => absurd k (by omega)⟩
    · obtain ⟨rfl, rfl⟩ := ih.1 (by omega)
      have a : adv K lev q (t - g) g = t := by
        rw [adv_all _ _ _ _ _ (fun k h1 h2 => by rw [hK k h1 (by omega), h])]; omega
      rw [ku_yes e a hft]
      refine ⟨fun k => absurd k (by omega), fun _ => ⟨?_, rfl⟩⟩
      rw [hK g (Nat.le_refl _) hft]; rfl
    · obtain ⟨rfl, rfl⟩ := ih.2 h
      have a : adv K lev q (g - g) g = g := by rw [Nat.sub_self]; rfl
      rw [ku_no e a (by omega)]
      exact ⟨fun k => absurd k (by omega), fun _ => ⟨rfl, rfl⟩⟩
/-- All in one place: down to the last level. -/
theorem gr_few {K : Nat → Nat} {f t v : Nat} (h4 : 4 < t - f) (hK : ∀ k, f ≤ k → k < t → K k = v) : ∀ d lev, lev + d = 32 → ∀ at_ key,
    (gr d K at_ lev key f t).length = d + 1 ∧ (gr d K at_ lev key f t)[d]? = some ⟨32, if d = 0 then key else v, f, t, fun _ => -1⟩ := by
  intro d
  induction d with
  | zero =>
    intro lev hd at_ key
    obtain rfl : lev = 32 := by omega
    exact ⟨rfl, rfl⟩
  | succ d ih =>
    intro lev hd at_ key
    have k := (ku_one (fun a k f t => gr d K a (lev + 1) k f t) lev at_ (by omega : f < t) hK 4).2 (qt4_lt v lev)
    unfold gr
    rw [if_neg (by omega)]
    simp only
    rw [k.1]
    obtain ⟨h1, h2⟩ := ih (lev + 1) (by omega) (at_ + 1) (cutk v lev)
    refine ⟨by rw [List.length_cons, h1], ?_⟩
    rw [List.getElem?_cons_succ, h2]
    by_cases c : d = 0
    · subst c
      obtain rfl : lev = 31 := by omega
      rw [if_pos rfl, if_neg (by decide)]
      have e : cutk v 31 = v := by unfold cutk; show v / 2 ^ 0 * 2 ^ 0 = v; rw [Nat.pow_zero, Nat.div_one, Nat.mul_one]
      rw [e]
    · rw [if_neg c, if_neg (by omega)]
end Go.Proofs.YtjilnmpajhifcaaGreat
namespace Go.Proofs.YtjilnmpajhifcaaGreat
theorem rs_std {M L : List (Nat × Int)} (h : Std Prod.fst M L) : rs M = true := (rs_pair M).2 h.1
theorem keyAt_at {M : List (Nat × Int)} {k : Nat} {x : Nat × Int} (h : M[k]? = some x) : keyAt M k = x.1 := by unfold keyAt; rw [h]; rfl
theorem keyAt_mono {M : List (Nat × Int)} (h : rs M = true) : ∀ a b, a ≤ b → b < M.length → keyAt M a ≤ keyAt M b := by
  intro a b hab hb
  rw [keyAt_at (List.getElem?_eq_getElem (show a < M.length by omega)), keyAt_at (List.getElem?_eq_getElem hb)]
  rcases Nat.eq_or_lt_of_le hab with e | e
  · subst e; exact Nat.le_refl _
  · exact List.pairwise_iff_getElem.1 ((rs_pair M).1 h) a b (by omega) hb e
theorem keyAt_64 {M : List (Nat × Int)} (h : Ok64 M) (k : Nat) : keyAt M k < 18446744073709551616 := by
  unfold keyAt
  cases e : M[k]? with
  | none => decide
  | some x => exact h x (List.mem_of_getElem? e)
theorem bld_ok {n : Nat} {M : List (Nat × Int)} (hl : M.length = n) (h0 : n ≠ 0) (hr : rs M = true) (ho : Ok64 M) : Okt (keyAt M) (bld n M) 0 n 0 n := by
  unfold bld
  rw [if_neg (by rw [hr]; simp [h0])]
  have k := gr_ok (n := n) (fun a b h1 h2 => keyAt_mono hr a b h1 (by omega)) 32 0 rfl 0 0 0 n (by omega) (Nat.le_refl _) (fun k _ _ => Nat.div_eq_of_lt (keyAt_64 ho k))
  rw [Nat.zero_mul] at k; exact k
theorem bld_nil {n : Nat} {M : List (Nat × Int)} (hr : rs M = true) : (bld n M).length = 0 ↔ n = 0 := by
  unfold bld
  by_cases h : n = 0
  · rw [if_pos (Or.inl h)]; simp [h]
  · rw [if_neg (by rw [hr]; simp [h])]
    have := gr_pos 32 (keyAt M) 0 0 0 0 n
    constructor <;> intro <;> omega
theorem bld_head {n : Nat} {M : List (Nat × Int)} (h0 : n ≠ 0) (hr : rs M = true) : ∃ kid, (bld n M)[0]? = some ⟨0, 0, 0, n, kid⟩ := by
  unfold bld
  rw [if_neg (by rw [hr]; simp [h0])]
  exact gr_head 32 _ 0 0 0 0 n
theorem take_snoc_nd {T : List Nd} {j : Nat} {x : Nd} (h : T[j]? = some x) (k : Nat) : cnt (T.take (j + 1)) k = cnt (T.take j) k + if lf x = true ∧ x.fr ≤ k ∧ k < x.to then 1 else 0 := by
  have hl := List.getElem?_eq_some_iff.1 h
  rw [List.take_succ_eq_append_getElem hl.1, hl.2, cnt_app]; rfl
end Go.Proofs.YtjilnmpajhifcaaGreat
