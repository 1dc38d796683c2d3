/- Lists of bodies by their keys in memory. -/
import Derived.Test.YtnedljclkhpdpaaZzLimA
import Derived.Test.YtnedljclkhpdpaaSortNum
import Derived.Deep.LoopGhost
import Derived.Deep.DeepCutAuto
import Derived.Deep.AppendLies
import Derived.Laws.OwnMore
import Derived.Maps.AppendAt
namespace Go.Proofs.Ytnedljclkhpdpaa
open Go.RowKit
theorem block_of_add (a : Addr) (n : Nat) : (a.add n).block = a.block := by unfold Addr.add; split <;> rfl
theorem add_of_add (a : Addr) (i j : Nat) : (a.add i).add j = a.add (i + j) := by
  unfold Addr.add
  by_cases hi : i = 0 <;> by_cases hj : j = 0 <;> simp [hi, hj, Nat.add_assoc]
/-- A slice that holds these bodies, nil let in. -/
def Ks (w : World) (A : Option Addr) (n : Nat) (L : List (Nat × Int)) : Prop :=
  L.length = n ∧ (0 < n → ∃ B o : Nat, A = some ⟨B, o, none⟩ ∧ B < w.heap.size ∧ ∀ (j : Nat) (x : Nat × Int), L[j]? = some x → w.cell? ⟨B, o + j * 2, none⟩ = some (.int .u64 (x.1 : Int)) ∧ w.cell? ⟨B, o + j * 2 + 1, none⟩ = some (.int .i64 x.2))
theorem Ks.below {w w' : World} {A : Option Addr} {n : Nat} {L : List (Nat × Int)} (h : Ks w A n L) (g : Below w.heap.size w w') : Ks w' A n L :=
  ⟨h.1, fun hn => by
    obtain ⟨B, o, e, hb, hc⟩ := h.2 hn
    refine ⟨B, o, e, Nat.lt_of_lt_of_le hb g.size, fun j x hx => ?_⟩
    rw [g.cell (p := ⟨B, o + j * 2, none⟩) hb, g.cell (p := ⟨B, o + j * 2 + 1, none⟩) hb]
    exact hc j x hx⟩
theorem Ks.at_ {w : World} {A : Option Addr} {n : Nat} {L : List (Nat × Int)} (h : Ks w A n L) {k : Nat} (hk : k < n) :
    ∃ (B o : Nat) (x : Nat × Int), A = some ⟨B, o, none⟩ ∧ B < w.heap.size ∧ L[k]? = some x ∧ w.cell? ⟨B, o + k * 2, none⟩ = some (.int .u64 (x.1 : Int)) ∧ w.cell? ⟨B, o + k * 2 + 1, none⟩ = some (.int .i64 x.2) := by
  obtain ⟨B, o, e, hb, hc⟩ := h.2 (by omega)
  have hl : k < L.length := by have := h.1; omega
  have hx := List.getElem?_eq_getElem hl
  exact ⟨B, o, L[k], e, hb, hx, hc k _ hx⟩
/-- Does none have a lesser key than the one ahead? -/
def rs : List (Nat × Int) → Bool
  | [] => true
  | [_] => true
  | a :: b :: t => decide (a.1 ≤ b.1) && rs (b :: t)
theorem rs_take : ∀ (L : List (Nat × Int)) (j : Nat) (x y : Nat × Int), L[j]? = some x → L[j + 1]? = some y → rs (L.take (j + 2)) = (rs (L.take (j + 1)) && decide (x.1 ≤ y.1)) := by
  intro L
  induction L with
  | nil => intro j x y hx; simp at hx
  | cons a t ih =>
    intro j x y hx hy
    cases j with
    | zero =>
      cases t with
      | nil => simp at hy
      | cons b t => simp at hx hy; subst hx; subst hy; simp [rs]
    | succ j =>
      rw [List.getElem?_cons_succ] at hx hy
      have h := ih j x y hx hy
      cases t with
      | nil => simp at hx
      | cons b t =>
        show (decide (a.1 ≤ b.1) && rs ((b :: t).take (j + 2))) = ((decide (a.1 ≤ b.1) && rs ((b :: t).take (j + 1))) && _)
        rw [h, Bool.and_assoc]
theorem rs_false {L : List (Nat × Int)} {j : Nat} {x y : Nat × Int} (hx : L[j]? = some x) (hy : L[j + 1]? = some y) (h : ¬ x.1 ≤ y.1) : rs L = false := by
  induction L generalizing j with
  | nil => simp at hx
  | cons a t ih =>
    cases t with
    | nil => simp at hy
    | cons b t =>
      cases j with
      | zero => simp at hx hy; subst hx; subst hy; simp [rs, h]
      | succ j =>
        show (decide (a.1 ≤ b.1) && rs (b :: t)) = false
        rw [ih (j := j) (by simpa using hx) (by simpa using hy), Bool.and_false]
theorem rs_pair (L : List (Nat × Int)) : rs L = true ↔ L.Pairwise fun a b => a.1 ≤ b.1 := by
  induction L with
  | nil => simp [rs]
  | cons a t ih =>
    cases t with
    | nil => simp [rs]
    | cons b t =>
      show (decide (a.1 ≤ b.1) && rs (b :: t)) = true ↔ _
      rw [Bool.and_eq_true, ih, decide_eq_true_eq, List.pairwise_cons (a := a)]
      refine ⟨fun ⟨h1, h2⟩ => ⟨fun c hc => ?_, h2⟩, fun ⟨h1, h2⟩ => ⟨h1 b (by simp), h2⟩⟩
      rcases List.mem_cons.1 hc with rfl | hc
      · exact h1
      · have := (List.pairwise_cons.1 h2).1 c hc; omega
/-- A block of the call's own, of room for so many, that holds these bodies. -/
def Kr (w : World) (g cap : Nat) (L : List (Nat × Int)) : Prop :=
  ∃ cur : Array Value, w.heap[g]? = some (.cells cur 36 (0, 0)) ∧ cur.size = cap * 2 ∧ L.length ≤ cap ∧ ∀ (j : Nat) (x : Nat × Int), L[j]? = some x → cur[j * 2]? = some (.int .u64 (x.1 : Int)) ∧ cur[j * 2 + 1]? = some (.int .i64 x.2)
section
variable {w w' : World} {g cap : Nat} {L : List (Nat × Int)}
theorem Kr.lt (h : Kr w g cap L) : g < w.heap.size := by
  obtain ⟨cur, hh, _⟩ := h
  rcases Nat.lt_or_ge g w.heap.size with hlt | hge
  · exact hlt
  · rw [Array.getElem?_eq_none hge] at hh; cases hh
theorem Kr.frz (h : Kr w g cap L) (j : Nat) : w.frozen? ⟨g, j, none⟩ = false := by
  obtain ⟨cur, hh, _⟩ := h
  simp [World.frozen?, hh]
theorem Kr.cells (h : Kr w g cap L) (j : Nat) (x : Nat × Int) (hx : L[j]? = some x) : w.cell? ⟨g, j * 2, none⟩ = some (.int .u64 (x.1 : Int)) ∧ w.cell? ⟨g, j * 2 + 1, none⟩ = some (.int .i64 x.2) := by
  obtain ⟨cur, hh, _, _, hc⟩ := h
  rw [cell_of_row w g _ cur _ (0, 0) hh, cell_of_row w g _ cur _ (0, 0) hh]
  exact hc j x hx
theorem Kr.room (h : Kr w g cap L) : L.length ≤ cap := by obtain ⟨_, _, _, h, _⟩ := h; exact h
theorem Kr.block (h : Kr w g cap L) (e : w'.heap[g]? = w.heap[g]?) : Kr w' g cap L := by
  obtain ⟨cur, hh, r⟩ := h; exact ⟨cur, e.trans hh, r⟩
theorem Kr.below (h : Kr w g cap L) (k : Below w.heap.size w w') : Kr w' g cap L := h.block (k.block g h.lt)
theorem Kr.drew (h : Kr w g cap L) : Kr w.drew g cap L := h
theorem Kr.alloc (h : Kr w g cap L) (o : Obj) : Kr (w.alloc o) g cap L := h.block (Below.heap_alloc w o g h.lt)
theorem Kr.far (h : Kr w g cap L) {p : Addr} (hp : g ≠ p.block) (v : Value) : Kr (w.setCell p v) g cap L := h.block (Below.heap_setCell w p v g hp)
theorem Kr.put {j : Nat} (h : Kr w g cap L) (hj : j < L.length) (x : Nat × Int) :
    Kr ((w.setCell ⟨g, j * 2, none⟩ (.int .u64 (x.1 : Int))).setCell ⟨g, j * 2 + 1, none⟩ (.int .i64 x.2)) g cap (L.set j x) := by
  obtain ⟨cur, hh, hs, hl, hc⟩ := h
  refine ⟨(cur.setIfInBounds (j * 2) (.int .u64 (x.1 : Int))).setIfInBounds (j * 2 + 1) (.int .i64 x.2), ?_, by simpa using hs, by simpa using hl, fun i y hy => ?_⟩
  · simp [World.setCell, Array.getElem?_modify, hh]
  rw [List.getElem?_set] at hy
  by_cases c : j = i
  · subst c
    rw [if_pos rfl, if_pos hj] at hy
    obtain rfl : x = y := by simpa using hy
    constructor
    · rw [Array.getElem?_setIfInBounds_ne (by omega), Array.getElem?_setIfInBounds_self_of_lt (by omega)]
    · rw [Array.getElem?_setIfInBounds_self_of_lt (by simp; omega)]
  · rw [if_neg c] at hy
    obtain ⟨a', b'⟩ := hc i y hy
    constructor
    · rw [Array.getElem?_setIfInBounds_ne (by omega), Array.getElem?_setIfInBounds_ne (by omega)]; exact a'
    · rw [Array.getElem?_setIfInBounds_ne (by omega), Array.getElem?_setIfInBounds_ne (by omega)]; exact b'
theorem Kr.putI {j : Nat} {x : Nat × Int} (h : Kr w g cap L) (hx : L[j]? = some x) (i : Int) :
    Kr (w.setCell ⟨g, j * 2 + 1, none⟩ (.int .i64 i)) g cap (L.set j (x.1, i)) := by
  obtain ⟨cur, hh, hs, hl, hc⟩ := h
  have hj := (List.getElem?_eq_some_iff.1 hx).1
  refine ⟨cur.setIfInBounds (j * 2 + 1) (.int .i64 i), ?_, by simpa using hs, by simpa using hl, fun u y hy => ?_⟩
  · simp [World.setCell, Array.getElem?_modify, hh]
  rw [List.getElem?_set] at hy
  by_cases c : j = u
  · subst c
    rw [if_pos rfl, if_pos hj] at hy
    obtain rfl : (x.1, i) = y := by simpa using hy
    exact ⟨by rw [Array.getElem?_setIfInBounds_ne (by omega)]; exact (hc j x hx).1, by rw [Array.getElem?_setIfInBounds_self_of_lt (by omega)]⟩
  · rw [if_neg c] at hy
    obtain ⟨a', b'⟩ := hc u y hy
    exact ⟨by rw [Array.getElem?_setIfInBounds_ne (by omega)]; exact a', by rw [Array.getElem?_setIfInBounds_ne (by omega)]; exact b'⟩
theorem Kr.putK {j : Nat} {x : Nat × Int} (h : Kr w g cap L) (hx : L[j]? = some x) (k : Nat) :
    Kr (w.setCell ⟨g, j * 2, none⟩ (.int .u64 (k : Int))) g cap (L.set j (k, x.2)) := by
  obtain ⟨cur, hh, hs, hl, hc⟩ := h
  have hj := (List.getElem?_eq_some_iff.1 hx).1
  refine ⟨cur.setIfInBounds (j * 2) (.int .u64 (k : Int)), ?_, by simpa using hs, by simpa using hl, fun u y hy => ?_⟩
  · simp [World.setCell, Array.getElem?_modify, hh]
  rw [List.getElem?_set] at hy
  by_cases c : j = u
  · subst c
    rw [if_pos rfl, if_pos hj] at hy
    obtain rfl : (k, x.2) = y := by simpa using hy
    exact ⟨by rw [Array.getElem?_setIfInBounds_self_of_lt (by omega)], by rw [Array.getElem?_setIfInBounds_ne (by omega)]; exact (hc j x hx).2⟩
  · rw [if_neg c] at hy
    obtain ⟨a', b'⟩ := hc u y hy
    exact ⟨by rw [Array.getElem?_setIfInBounds_ne (by omega)]; exact a', by rw [Array.getElem?_setIfInBounds_ne (by omega)]; exact b'⟩
end
theorem Kr.slice {w : World} {g cap : Nat} {L : List (Nat × Int)} (h : Kr w g cap L) : Ks w (some ⟨g, 0, none⟩) L.length L :=
  ⟨rfl, fun _ => ⟨g, 0, rfl, h.lt, fun j x hx => by rw [Nat.zero_add]; exact h.cells j x hx⟩⟩
/-- Bodies as cells. -/
def flat (L : List (Nat × Int)) : List Value := L.flatMap fun x => [.int .u64 (x.1 : Int), .int .i64 x.2]
theorem flat_len (L : List (Nat × Int)) : (flat L).length = L.length * 2 := by
  induction L with
  | nil => rfl
  | cons a t ih => show ([_, _] ++ flat t).length = _; rw [List.length_append, ih]; simp; omega
theorem flat_at : ∀ (L : List (Nat × Int)) (j : Nat) (x : Nat × Int), L[j]? = some x → (flat L)[j * 2]? = some (.int .u64 (x.1 : Int)) ∧ (flat L)[j * 2 + 1]? = some (.int .i64 x.2) := by
  intro L
  induction L with
  | nil => intro j x h; simp at h
  | cons a t ih =>
    intro j x h
    show ((Value.int .u64 (a.1 : Int)) :: (Value.int .i64 a.2) :: flat t)[j * 2]? = _ ∧ ((Value.int .u64 (a.1 : Int)) :: (Value.int .i64 a.2) :: flat t)[j * 2 + 1]? = _
    cases j with
    | zero => simp at h; subst h; simp
    | succ j =>
      rw [show (j + 1) * 2 = j * 2 + 1 + 1 by omega]
      simpa using ih j x (by simpa using h)
theorem flat_of {L : List (Nat × Int)} {i : Nat} {u : Value} (h : (flat L)[i]? = some u) : ∃ x, L[i / 2]? = some x ∧ ((i % 2 = 0 ∧ u = .int .u64 (x.1 : Int)) ∨ (i % 2 = 1 ∧ u = .int .i64 x.2)) := by
  have hi : i < L.length * 2 := by
    rw [← flat_len]; exact (List.getElem?_eq_some_iff.1 h).1
  have hx := List.getElem?_eq_getElem (l := L) (i := i / 2) (by omega)
  refine ⟨_, hx, ?_⟩
  obtain ⟨a, b⟩ := flat_at L _ _ hx
  rcases (show i % 2 = 0 ∨ i % 2 = 1 by omega) with c | c
  · rw [show i / 2 * 2 = i by omega, h] at a; exact Or.inl ⟨c, by injection a⟩
  · rw [show i / 2 * 2 + 1 = i by omega, h] at b; exact Or.inr ⟨c, by injection b⟩
theorem flat_one (L : List (Nat × Int)) : ∀ u ∈ flat L, u.oneCell' = true := by
  intro u hu
  obtain ⟨i, hi⟩ := List.mem_iff_getElem?.1 hu
  obtain ⟨x, _, h | h⟩ := flat_of hi
  · rw [h.2]; rfl
  · rw [h.2]; rfl
theorem Kr.new (w : World) (L : List (Nat × Int)) {cs : Array Value} (h : cs.toList = flat L) : Kr (w.alloc (.cells cs 36)) w.heap.size L.length L := by
  have hs : cs.size = L.length * 2 := by rw [← flat_len, ← h, Array.length_toList]
  refine ⟨cs, heap_alloc_new w _, hs, Nat.le_refl _, fun j x hx => ?_⟩
  have e : ∀ i, cs[i]? = (flat L)[i]? := fun i => by rw [← h, Array.getElem?_toList]
  rw [e, e]
  exact flat_at L j x hx
/-- What append has made. -/
theorem Kr.of_own {w : World} {base : Nat} {v : Value} {n : Nat} {L : List (Nat × Int)} (h : w.ownsRow base 36 2 v n (flat L)) (hv : v ≠ .slice none 0 0) :
    ∃ g cap, v = .slice (some ⟨g, 0, none⟩) n cap ∧ base ≤ g ∧ L.length = n ∧ cap ≤ maxLen ∧ Kr w g cap L := by
  obtain ⟨hlen, h⟩ := h
  rcases h with ⟨h, _⟩ | ⟨g, cap, cur, rfl, hb, hh, hn, hm, hs, ht⟩
  · exact absurd h hv
  · have hL : L.length = n := by rw [flat_len] at hlen; omega
    have cell : ∀ i u, (flat L)[i]? = some u → cur[i]? = some u := fun i u hu => by
      rw [← ht, List.getElem?_take] at hu
      split at hu
      · simpa using hu
      · cases hu
    refine ⟨g, cap, rfl, hb, hL, hm, cur, hh, hs, by omega, fun j x hx => ?_⟩
    obtain ⟨a, b⟩ := flat_at L j x hx
    exact ⟨cell _ _ a, cell _ _ b⟩
/-- And what a block holds may be appended to. -/
theorem Kr.own {w : World} {g cap base : Nat} {L : List (Nat × Int)} (h : Kr w g cap L) (hb : base ≤ g) (hm : cap ≤ maxLen) :
    w.ownsRow base 36 2 (.slice (some ⟨g, 0, none⟩) L.length cap) L.length (flat L) := by
  obtain ⟨cur, hh, hs, hl, hc⟩ := h
  refine ⟨flat_len L, .inr ⟨g, cap, cur, rfl, hb, hh, hl, hm, hs, ?_⟩⟩
  apply List.ext_getElem?
  intro i
  rw [List.getElem?_take]
  by_cases c : i < L.length * 2
  · rw [if_pos c]
    have hx := List.getElem?_eq_getElem (l := L) (i := i / 2) (by omega)
    obtain ⟨a, b⟩ := flat_at L _ _ hx
    obtain ⟨a', b'⟩ := hc _ _ hx
    rcases (show i % 2 = 0 ∨ i % 2 = 1 by omega) with d | d
    · rw [show i / 2 * 2 = i by omega] at a a'; rw [a]; simpa using a'
    · rw [show i / 2 * 2 + 1 = i by omega] at b b'; rw [b]; simpa using b'
  · rw [if_neg c, List.getElem?_eq_none (by rw [flat_len]; omega)]
end Go.Proofs.Ytnedljclkhpdpaa
