/- Bodies in memory. -/
import Derived.Test.YtjilnmpajhifcaaGreatZzLimA
import Derived.Test.YtjilnmpajhifcaaGreatZzRow
namespace Go.Proofs.YtjilnmpajhifcaaGreat
theorem sg_false (n : Int) : sg false n = n := rfl
/-- A whole mass times a place: no rounding. -/
theorem mulr_whole {k : Int} (hk : 0 < k) (x : Int) : mulr (k * 18446744073709551616) x = k * x := by
  unfold mulr
  have e1 : decide (k * 18446744073709551616 < 0) = false := decide_eq_false (by omega)
  have e2 : (k * 18446744073709551616).natAbs * x.natAbs = (k * x).natAbs * 18446744073709551616 := by
    rw [Int.natAbs_mul, Int.natAbs_mul]; show k.natAbs * 18446744073709551616 * x.natAbs = _
    rw [Nat.mul_right_comm]
  rw [e1, e2]
  have e3 : ((k * x).natAbs * 18446744073709551616 + 9223372036854775808) / 18446744073709551616 = (k * x).natAbs := by omega
  rw [e3]
  by_cases h : x < 0
  · rw [decide_eq_true h]
    have : k * x < 0 := Int.mul_neg_of_pos_of_neg hk h
    show -(((k * x).natAbs : Nat) : Int) = k * x
    omega
  · rw [decide_eq_false h]
    have : 0 ≤ k * x := Int.mul_nonneg (by omega) (by omega)
    show (((k * x).natAbs : Nat) : Int) = k * x
    omega
/-- By a whole mass. -/
theorem divr_whole {K : Nat} (hK : 0 < K) (s : Int) : divr s ((K : Int) * 18446744073709551616) = sg (decide (s < 0)) (((2 * s.natAbs + K) / (2 * K) : Nat) : Int) := by
  unfold divr
  have e1 : decide ((K : Int) * 18446744073709551616 < 0) = false := decide_eq_false (by omega)
  have e2 : ((K : Int) * 18446744073709551616).natAbs = K * 18446744073709551616 := by omega
  rw [e1, e2, Bool.bne_false]
  congr 2
  rw [show s.natAbs * 36893488147419103232 + K * 18446744073709551616 = (2 * s.natAbs + K) * 18446744073709551616 by omega, show 2 * (K * 18446744073709551616) = (2 * K) * 18446744073709551616 by omega]
  exact Nat.mul_div_mul_right _ _ (by decide)
/-- What is between two places is so when rounded. -/
theorem divr_between {K : Nat} (hK : 0 < K) {s lo hi : Int} (h1 : lo * (K : Int) ≤ s) (h2 : s ≤ hi * (K : Int)) : lo ≤ divr s ((K : Int) * 18446744073709551616) ∧ divr s ((K : Int) * 18446744073709551616) ≤ hi := by
  rw [divr_whole hK]
  have up : ∀ (a : Nat) (h : Int), (a : Int) ≤ h * (K : Int) → (((2 * a + K) / (2 * K) : Nat) : Int) ≤ h := by
    intro a h ha
    have h0 : 0 ≤ h := by
      rcases Int.lt_or_le h 0 with n | n
      · have := Int.mul_neg_of_neg_of_pos n (show (0 : Int) < (K : Int) by omega); omega
      · exact n
    obtain ⟨n, rfl⟩ := Int.eq_ofNat_of_zero_le h0
    have ha' : a ≤ n * K := by exact_mod_cast ha
    have : (2 * a + K) / (2 * K) < n + 1 := by
      rw [Nat.div_lt_iff_lt_mul (by omega)]
      have : (n + 1) * (2 * K) = 2 * (n * K) + 2 * K := by rw [Nat.add_mul, Nat.mul_left_comm, Nat.one_mul]
      omega
    show (((2 * a + K) / (2 * K) : Nat) : Int) ≤ (n : Int)
    omega
  have dn : ∀ (a : Nat) (h : Int), h * (K : Int) ≤ (a : Int) → h ≤ (((2 * a + K) / (2 * K) : Nat) : Int) := by
    intro a h ha
    rcases Int.lt_or_le h 0 with nn | nn
    · exact Int.le_trans (Int.le_of_lt nn) (Int.natCast_nonneg _)
    · obtain ⟨n, rfl⟩ := Int.eq_ofNat_of_zero_le nn
      have ha' : n * K ≤ a := by exact_mod_cast ha
      have : n ≤ (2 * a + K) / (2 * K) := by
        rw [Nat.le_div_iff_mul_le (by omega)]
        have : n * (2 * K) = 2 * (n * K) := by rw [Nat.mul_left_comm]
        omega
      show (n : Int) ≤ (((2 * a + K) / (2 * K) : Nat) : Int)
      omega
  by_cases h : s < 0
  · rw [decide_eq_true h]
    show lo ≤ -(((2 * s.natAbs + K) / (2 * K) : Nat) : Int) ∧ -(((2 * s.natAbs + K) / (2 * K) : Nat) : Int) ≤ hi
    have a1 := up s.natAbs (-lo) (by rw [Int.neg_mul]; omega)
    have a2 := dn s.natAbs (-hi) (by rw [Int.neg_mul]; omega)
    omega
  · rw [decide_eq_false h]
    exact ⟨dn s.natAbs lo (by omega), up s.natAbs hi (by omega)⟩
/-- One body: where it is. -/
theorem divr_one {K : Nat} (hK : 0 < K) (x : Int) : divr ((K : Int) * x) ((K : Int) * 18446744073709551616) = x := by
  have h := divr_between hK (s := (K : Int) * x) (lo := x) (hi := x) (by rw [Int.mul_comm]; exact Int.le_refl _) (by rw [Int.mul_comm]; exact Int.le_refl _)
  omega
/-- Two of one mass: half the way. -/
theorem divr_two {K : Nat} (hK : 0 < K) (a : Int) : divr ((K : Int) * a) (((2 * K : Nat) : Int) * 18446744073709551616) = halfr a := by
  rw [divr_whole (by omega)]
  unfold halfr
  have e : decide ((K : Int) * a < 0) = decide (a < 0) := by
    by_cases h : a < 0
    · rw [decide_eq_true h, decide_eq_true (Int.mul_neg_of_pos_of_neg (by omega) h)]
    · rw [decide_eq_false h, decide_eq_false (Int.not_lt.2 (Int.mul_nonneg (by omega) (by omega)))]
  rw [e]
  congr 2
  rw [Int.natAbs_mul, Int.natAbs_natCast, show 2 * (K * a.natAbs) + 2 * K = (2 * K) * (a.natAbs + 1) by rw [Nat.mul_add, Nat.mul_one, Nat.mul_assoc], show 2 * (2 * K) = (2 * K) * 2 by omega]
  exact Nat.mul_div_mul_left _ _ (by omega)
/-- All masses, and all masses by their places. -/
def sK (l : List (Int × Int)) : Int := (l.map Prod.fst).sum
def sX (l : List (Int × Int)) : Int := (l.map fun p => p.1 * p.2).sum
theorem sK_app (l m : List (Int × Int)) : sK (l ++ m) = sK l + sK m := by unfold sK; rw [List.map_append, List.sum_append]
theorem sX_app (l m : List (Int × Int)) : sX (l ++ m) = sX l + sX m := by unfold sX; rw [List.map_append, List.sum_append]
theorem sK_back (l : List (Int × Int)) : sK l.reverse = sK l := by
  induction l with
  | nil => rfl
  | cons x l ih => rw [List.reverse_cons, sK_app, ih]; show sK l + (x.1 + 0) = x.1 + sK l; omega
theorem sX_back (l : List (Int × Int)) : sX l.reverse = sX l := by
  induction l with
  | nil => rfl
  | cons x l ih => rw [List.reverse_cons, sX_app, ih]; show sX l + (x.1 * x.2 + 0) = x.1 * x.2 + sX l; omega
theorem sX_between {lo hi : Int} : ∀ {l : List (Int × Int)}, (∀ p ∈ l, 0 < p.1 ∧ lo ≤ p.2 ∧ p.2 ≤ hi) → lo * sK l ≤ sX l ∧ sX l ≤ hi * sK l := by
  intro l
  induction l with
  | nil => intro _; exact ⟨by show lo * 0 ≤ 0; omega, by show 0 ≤ hi * 0; omega⟩
  | cons x l ih =>
    intro h
    obtain ⟨h1, h2, h3⟩ := h x (List.mem_cons_self)
    have k := ih fun p hp => h p (List.mem_cons_of_mem _ hp)
    have a := Int.mul_le_mul_of_nonneg_left h2 (Int.le_of_lt h1)
    have b := Int.mul_le_mul_of_nonneg_left h3 (Int.le_of_lt h1)
    show lo * (x.1 + sK l) ≤ x.1 * x.2 + sX l ∧ x.1 * x.2 + sX l ≤ hi * (x.1 + sK l)
    rw [Int.mul_add, Int.mul_add, Int.mul_comm lo x.1, Int.mul_comm hi x.1]
    omega
theorem sK_bounds {n : Nat} {top : Int} : ∀ {l : List (Int × Int)}, l.length ≤ n → (∀ p ∈ l, 0 < p.1 ∧ p.1 ≤ top) → 0 ≤ sK l ∧ sK l ≤ (l.length : Int) * top := by
  intro l
  induction l with
  | nil => intro _ _; exact ⟨Int.le_refl _, by show (0 : Int) ≤ 0 * top; omega⟩
  | cons x l ih =>
    intro hl h
    have k := ih (by simp at hl; omega) fun p hp => h p (List.mem_cons_of_mem _ hp)
    obtain ⟨h1, h2⟩ := h x (List.mem_cons_self)
    show 0 ≤ x.1 + sK l ∧ x.1 + sK l ≤ ((l.length + 1 : Nat) : Int) * top
    rw [show ((l.length + 1 : Nat) : Int) = (l.length : Int) + 1 by omega, Int.add_mul, Int.one_mul]
    omega
end Go.Proofs.YtjilnmpajhifcaaGreat
namespace Go.Proofs.YtjilnmpajhifcaaGreat
/-- A body. -/
structure Bod where
  m : Int
  r : Int
  x : Int
  y : Int
  px : Int
  py : Int
  fu : Int
  ra : Int
  ex : Int
  th : Int
  he : Int
/-- Its mass and its place are as they may be. -/
def Mb (b : Bod) : Prop := 0 < b.m ∧ b.m ≤ 19342813113834066795298816 ∧ -19807040628566084398385987584 ≤ b.x ∧ b.x ≤ 19807040628566084398385987584 ∧ -19807040628566084398385987584 ≤ b.y ∧ b.y ≤ 19807040628566084398385987584
/-- All mass; all masses by places. -/
def sM (L : List Bod) : Int := (L.map Bod.m).sum
def sD (f : Bod → Int) (L : List Bod) : Int := (L.map fun b => mulr b.m (f b)).sum
theorem sM_app (L M : List Bod) : sM (L ++ M) = sM L + sM M := by unfold sM; rw [List.map_append, List.sum_append]
theorem sD_app (f : Bod → Int) (L M : List Bod) : sD f (L ++ M) = sD f L + sD f M := by unfold sD; rw [List.map_append, List.sum_append]
theorem take_snoc' {α : Type} {L : List α} {i : Nat} {x : α} (h : L[i]? = some x) : L.take (i + 1) = L.take i ++ [x] := by
  have hl := List.getElem?_eq_some_iff.1 h
  rw [List.take_succ_eq_append_getElem hl.1, hl.2]
theorem sM_next {L : List Bod} {i : Nat} {b : Bod} (h : L[i]? = some b) : sM (L.take (i + 1)) = sM (L.take i) + b.m := by
  rw [take_snoc' h, sM_app]; show _ + (b.m + 0) = _; omega
theorem sD_next {f : Bod → Int} {L : List Bod} {i : Nat} {b : Bod} (h : L[i]? = some b) : sD f (L.take (i + 1)) = sD f (L.take i) + mulr b.m (f b) := by
  rw [take_snoc' h, sD_app]; show _ + (mulr b.m (f b) + 0) = _; omega
theorem mulr_near {m x : Int} (hm : 0 < m) (h1 : -19807040628566084398385987584 ≤ x) (h2 : x ≤ 19807040628566084398385987584) : -(m * 1073741824) ≤ mulr m x ∧ mulr m x ≤ m * 1073741824 := by
  unfold mulr
  obtain ⟨k, hk⟩ : ∃ k : Nat, k = (m.natAbs * x.natAbs + 9223372036854775808) / 18446744073709551616 := ⟨_, rfl⟩
  have hx : x.natAbs ≤ 19807040628566084398385987584 := by omega
  have hp := Nat.mul_le_mul_left m.natAbs hx
  have h : k ≤ m.natAbs * 1073741824 := by
    rw [hk]
    have : m.natAbs * 19807040628566084398385987584 = m.natAbs * 1073741824 * 18446744073709551616 := by rw [Nat.mul_assoc]
    omega
  rw [← hk]
  have hz : (k : Int) ≤ m * 1073741824 := by omega
  unfold sg
  split <;> omega
theorem divr_near {s M : Int} (hM : 0 < M) (h1 : -(M * 1073741824) ≤ s) (h2 : s ≤ M * 1073741824) : -19807040628566084398385987584 ≤ divr s M ∧ divr s M ≤ 19807040628566084398385987584 := by
  unfold divr
  obtain ⟨k, hk⟩ : ∃ k : Nat, k = (s.natAbs * 36893488147419103232 + M.natAbs) / (2 * M.natAbs) := ⟨_, rfl⟩
  have h : k < 19807040628566084398385987584 + 1 := by
    rw [hk, Nat.div_lt_iff_lt_mul (by omega)]
    have hs : s.natAbs ≤ M.natAbs * 1073741824 := by omega
    have := Nat.mul_le_mul_right 36893488147419103232 hs
    rw [Nat.mul_assoc] at this
    have e : (19807040628566084398385987584 + 1) * (2 * M.natAbs) = M.natAbs * (1073741824 * 36893488147419103232) + 2 * M.natAbs := by omega
    omega
  rw [← hk]
  unfold sg
  split <;> omega
theorem sM_near : ∀ {L : List Bod}, (∀ b ∈ L, Mb b) → 0 ≤ sM L ∧ sM L ≤ (L.length : Int) * 19342813113834066795298816 ∧ (L ≠ [] → 0 < sM L) := by
  intro L
  induction L with
  | nil => intro _; exact ⟨Int.le_refl _, by show (0 : Int) ≤ 0 * _; omega, fun h => absurd rfl h⟩
  | cons b t ih =>
    intro h
    obtain ⟨k1, k2, _⟩ := ih fun c hc => h c (List.mem_cons_of_mem _ hc)
    obtain ⟨h1, h2, _⟩ := h b List.mem_cons_self
    have e : sM (b :: t) = b.m + sM t := rfl
    rw [e, List.length_cons]
    refine ⟨by omega, by omega, fun _ => by omega⟩
theorem sD_near {f : Bod → Int} : ∀ {L : List Bod}, (∀ b ∈ L, Mb b ∧ -19807040628566084398385987584 ≤ f b ∧ f b ≤ 19807040628566084398385987584) → -(sM L * 1073741824) ≤ sD f L ∧ sD f L ≤ sM L * 1073741824 := by
  intro L
  induction L with
  | nil => intro _; exact ⟨by show -((0 : Int) * _) ≤ 0; omega, by show (0 : Int) ≤ 0 * _; omega⟩
  | cons b t ih =>
    intro h
    have k := ih fun c hc => h c (List.mem_cons_of_mem _ hc)
    obtain ⟨h1, h2, h3⟩ := h b List.mem_cons_self
    have q := mulr_near h1.1 h2 h3
    have e : sM (b :: t) = b.m + sM t := rfl
    have e' : sD f (b :: t) = mulr b.m (f b) + sD f t := rfl
    rw [e, e']; omega
/-- Few bodies: each sum may be. -/
theorem few_M {L : List Bod} (h : ∀ b ∈ L, Mb b) (hl : L.length ≤ 64) (i : Nat) : My (sM (L.take i)) := by
  obtain ⟨a, b, _⟩ := sM_near (L := L.take i) fun c hc => h c (List.mem_of_mem_take hc)
  have hl' : (L.take i).length ≤ 64 := by rw [List.length_take]; omega
  have : ((L.take i).length : Int) * 19342813113834066795298816 ≤ 64 * 19342813113834066795298816 := Int.mul_le_mul_of_nonneg_right (by omega) (by omega)
  unfold My; omega
theorem few_D {f : Bod → Int} {L : List Bod} (h : ∀ b ∈ L, Mb b ∧ -19807040628566084398385987584 ≤ f b ∧ f b ≤ 19807040628566084398385987584) (hl : L.length ≤ 64) (i : Nat) : My (sD f (L.take i)) := by
  have q := sD_near (f := f) (L := L.take i) fun c hc => h c (List.mem_of_mem_take hc)
  obtain ⟨a, b, _⟩ := sM_near (L := L.take i) fun c hc => (h c (List.mem_of_mem_take hc)).1
  have hl' : (L.take i).length ≤ 64 := by rw [List.length_take]; omega
  have : ((L.take i).length : Int) * 19342813113834066795298816 ≤ 64 * 19342813113834066795298816 := Int.mul_le_mul_of_nonneg_right (by omega) (by omega)
  unfold My; omega
/-- Where the middle is, on one axis. -/
def mid (f : Bod → Int) (L : List Bod) : Int := divr (sD f L) (sM L)
theorem mid_near {f : Bod → Int} {L : List Bod} (h : ∀ b ∈ L, Mb b ∧ -19807040628566084398385987584 ≤ f b ∧ f b ≤ 19807040628566084398385987584) (hn : L ≠ []) : -19807040628566084398385987584 ≤ mid f L ∧ mid f L ≤ 19807040628566084398385987584 := by
  obtain ⟨a, b⟩ := sD_near h
  exact divr_near ((sM_near fun c hc => (h c hc).1).2.2 hn) a b
theorem Mb.x_ {L : List Bod} (h : ∀ b ∈ L, Mb b) : ∀ b ∈ L, Mb b ∧ -19807040628566084398385987584 ≤ Bod.x b ∧ Bod.x b ≤ 19807040628566084398385987584 := fun b hb => by
  have q := h b hb
  exact ⟨q, q.2.2.1, q.2.2.2.1⟩
theorem Mb.y_ {L : List Bod} (h : ∀ b ∈ L, Mb b) : ∀ b ∈ L, Mb b ∧ -19807040628566084398385987584 ≤ Bod.y b ∧ Bod.y b ≤ 19807040628566084398385987584 := fun b hb => by
  have q := h b hb
  exact ⟨q, q.2.2.2.2.1, q.2.2.2.2.2⟩
end Go.Proofs.YtjilnmpajhifcaaGreat
namespace Go.Proofs.YtjilnmpajhifcaaGreat
open Go.RowKit
/-- A body's cells. -/
def bdc (b : Bod) : List Value := [.int .i64 (fh b.m), .int .u64 (fl b.m), .int .i64 (fh b.r), .int .u64 (fl b.r), .int .i64 (fh b.x), .int .u64 (fl b.x), .int .i64 (fh b.y), .int .u64 (fl b.y), .int .i64 (fh b.px), .int .u64 (fl b.px), .int .i64 (fh b.py), .int .u64 (fl b.py), .int .i64 (fh b.fu), .int .u64 (fl b.fu), .int .i64 (fh b.ra), .int .u64 (fl b.ra), .int .i64 (fh b.ex), .int .u64 (fl b.ex), .int .i64 b.th, .int .i64 b.he]
theorem bdc_len (b : Bod) : (bdc b).length = 20 := rfl
/-- A slice of bodies. -/
def Bds (w : World) (A : Option Addr) (n : Nat) (L : List Bod) : Prop := S0 20 w A n (L.map bdc)
theorem Bds.below {w w' : World} {A : Option Addr} {n : Nat} {L : List Bod} (h : Bds w A n L) (g : Below w.heap.size w w') : Bds w' A n L := S0.below h g
theorem Bds.len {w : World} {A : Option Addr} {n : Nat} {L : List Bod} (h : Bds w A n L) : L.length = n := by have := h.1; simpa using this
theorem Bds.at_ {w : World} {A : Option Addr} {n : Nat} {L : List Bod} (h : Bds w A n L) {i : Nat} (hi : i < n) :
    ∃ (B o : Nat) (b : Bod), A = some ⟨B, o, none⟩ ∧ B < w.heap.size ∧ L[i]? = some b ∧ ∀ (k : Nat) (u : Value), (bdc b)[k]? = some u → w.cell? ⟨B, o + i * 20 + k, none⟩ = some u := by
  have hl := h.len
  have hb := List.getElem?_eq_getElem (l := L) (i := i) (by omega)
  obtain ⟨B, o, e, hB, hc⟩ := S0.at_ h (j := i) (c := bdc L[i]) (by rw [List.getElem?_map, hb]; rfl)
  exact ⟨B, o, _, e, hB, hb, hc⟩
/-- Its mass and its place. -/
theorem Bds.mx {w : World} {A : Option Addr} {n : Nat} {L : List Bod} (h : Bds w A n L) {i : Nat} (hi : i < n) :
    ∃ (B o : Nat) (b : Bod), A = some ⟨B, o, none⟩ ∧ B < w.heap.size ∧ L[i]? = some b ∧ w.cell? ⟨B, o + i * 20, none⟩ = some (.int .i64 (fh b.m)) ∧ w.cell? ⟨B, o + i * 20 + 1, none⟩ = some (.int .u64 (fl b.m)) ∧ w.cell? ⟨B, o + i * 20 + 4, none⟩ = some (.int .i64 (fh b.x)) ∧ w.cell? ⟨B, o + i * 20 + 5, none⟩ = some (.int .u64 (fl b.x)) ∧ w.cell? ⟨B, o + i * 20 + 6, none⟩ = some (.int .i64 (fh b.y)) ∧ w.cell? ⟨B, o + i * 20 + 7, none⟩ = some (.int .u64 (fl b.y)) := by
  obtain ⟨B, o, b, e, hB, hb, hc⟩ := h.at_ hi
  exact ⟨B, o, b, e, hB, hb, hc 0 _ rfl, hc 1 _ rfl, hc 4 _ rfl, hc 5 _ rfl, hc 6 _ rfl, hc 7 _ rfl⟩
/-- What the document's Add, Mul, Div come to where the answer may be. -/
def RAddT : Prop := ∀ x y : Int, My x → My y → My (x + y) → ∀ W : World, Calls Tryz.prog 21 #[fxv x, fxv y] W fun e w' => e = .returned (.agg #[.int .i64 (fh (x + y)), .int .u64 (fl (x + y)), .int .i64 0]) ∧ Below W.heap.size W w'
def RMulT : Prop := ∀ x y : Int, My x → My y → My (mulr x y) → ∀ W : World, Calls Tryz.prog 22 #[fxv x, fxv y] W fun e w' => e = .returned (.agg #[.int .i64 (fh (mulr x y)), .int .u64 (fl (mulr x y)), .int .i64 0]) ∧ Below W.heap.size W w'
def RDivT : Prop := ∀ x y : Int, My x → My y → y ≠ 0 → My (divr x y) → ∀ W : World, Calls Tryz.prog 23 #[fxv x, fxv y] W fun e w' => e = .returned (.agg #[.int .i64 (fh (divr x y)), .int .u64 (fl (divr x y)), .int .i64 0]) ∧ Below W.heap.size W w'
end Go.Proofs.YtjilnmpajhifcaaGreat
