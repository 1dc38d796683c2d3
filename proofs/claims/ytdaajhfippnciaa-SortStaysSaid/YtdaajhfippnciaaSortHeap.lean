/- Bodies laid into heaps, one by one: where the next one comes, and what stands when all have come. No program here. -/
import Derived.Test.YtdaajhfippnciaaSortNum
namespace Go.Proofs.Ytdaajhfippnciaa
section
variable {α : Type}
theorem hold_le {d : α → Nat} {L : List α} {i : Nat} (c : Nat) : hold d (L.take i) c ≤ hold d L c := by
  have h := hold_app d (L.take i) (L.drop i) c
  rw [List.take_append_drop] at h; omega
theorem hold_next {d : α → Nat} {L : List α} {i : Nat} {x : α} (h : L[i]? = some x) (c : Nat) : hold d (L.take (i + 1)) c = hold d (L.take i) c + if d x = c then 1 else 0 := by
  have hl := List.getElem?_eq_some_iff.1 h
  rw [List.take_succ_eq_append_getElem hl.1, hl.2, hold_snoc]
/-- Where the next body of a heap comes. -/
def pos (d : α → Nat) (L : List α) (i : Nat) (c : Nat) : Nat := lie d L c + hold d (L.take i) c
theorem pos_zero (d : α → Nat) (L : List α) (c : Nat) : pos d L 0 c = lie d L c := by unfold pos hold; simp
theorem pos_next {d : α → Nat} {L : List α} {i : Nat} {x : α} (h : L[i]? = some x) (c : Nat) : pos d L (i + 1) c = pos d L i c + if d x = c then 1 else 0 := by
  unfold pos; rw [hold_next h]; omega
theorem pos_room {d : α → Nat} {L : List α} {i : Nat} {x : α} (h : L[i]? = some x) : pos d L i (d x) < lie d L (d x + 1) := by
  have h1 := hold_next (d := d) h (d x)
  rw [if_pos rfl] at h1
  have h2 := hold_le (d := d) (L := L) (i := i + 1) (d x)
  unfold pos; rw [lie_succ]; omega
theorem pos_lt {d : α → Nat} {N : Nat} {L : List α} (hN : ∀ x, d x < N) {i : Nat} {x : α} (h : L[i]? = some x) : pos d L i (d x) < L.length := by
  have h1 := pos_room (d := d) h
  have h2 := lie_mono d L (show d x + 1 ≤ N from hN x)
  rw [lie_all L hN] at h2; omega
/-- The first i bodies lie where their heaps begin, one behind the other. -/
def Placed (d : α → Nat) (L : List α) (i : Nat) (T : List α) : Prop :=
  T.length = L.length ∧ ∀ (c k : Nat) (x : α), ((L.take i).filter fun y => d y == c)[k]? = some x → T[lie d L c + k]? = some x
theorem Placed.zero (d : α → Nat) {L T : List α} (h : T.length = L.length) : Placed d L 0 T := ⟨h, fun c k x hx => by simp at hx⟩
theorem Placed.step {d : α → Nat} {L T : List α} {i : Nat} {x : α} (h : Placed d L i T) (hx : L[i]? = some x) : Placed d L (i + 1) (T.set (pos d L i (d x)) x) := by
  obtain ⟨hl, hp⟩ := h
  have hxl := List.getElem?_eq_some_iff.1 hx
  have room := pos_room (d := d) hx
  refine ⟨by simpa using hl, fun c k y hy => ?_⟩
  rw [List.take_succ_eq_append_getElem hxl.1, hxl.2, List.filter_append] at hy
  have flen : ((L.take i).filter fun y => d y == c).length = hold d (L.take i) c := hold_filter _ _ _
  have far : k < hold d (L.take i) c → T[lie d L c + k]? = some y → (T.set (pos d L i (d x)) x)[lie d L c + k]? = some y := fun hk ht => by
    rw [List.getElem?_set_ne]
    · exact ht
    · have hle := hold_le (d := d) (L := L) (i := i) c
      have hs := lie_succ d L c
      rcases Nat.lt_trichotomy c (d x) with q | q | q
      · have := lie_mono d L (show c + 1 ≤ d x from q)
        unfold pos; omega
      · subst q; unfold pos; omega
      · have := lie_mono d L (show d x + 1 ≤ c from q)
        omega
  by_cases hc : d x = c
  · rw [List.getElem?_append] at hy
    split at hy
    · rename_i hk
      rw [flen] at hk
      exact far hk (hp c k y hy)
    · rename_i hk
      rw [flen] at hk hy
      have e : [x].filter (fun y => d y == c) = [x] := by simp [hc]
      rw [e] at hy
      have hk0 : k = hold d (L.take i) c := by
        have := (List.getElem?_eq_some_iff.1 hy).1
        simp at this; omega
      subst hk0
      rw [Nat.sub_self] at hy
      obtain rfl : x = y := by simpa using hy
      rw [← hc]
      have hT : pos d L i (d x) < T.length := by
        have h2 := lie_mono d L (show d x + 1 ≤ (d x + 1) from Nat.le_refl _)
        have h3 : lie d L (d x + 1) ≤ L.length := by unfold lie; exact List.countP_le_length
        omega
      show (T.set (pos d L i (d x)) x)[pos d L i (d x)]? = _
      rw [List.getElem?_set_self hT]
  · have e : [x].filter (fun y => d y == c) = [] := by simp [hc]
    rw [e, List.append_nil] at hy
    have hk := (List.getElem?_eq_some_iff.1 hy).1
    rw [flen] at hk
    exact far hk (hp c k y hy)
theorem Placed.done {d : α → Nat} {N : Nat} {L T : List α} (hN : ∀ x, d x < N) (h : Placed d L L.length T) : Std d T L := by
  have e := heaps_of (d := d) (N := N) (l := L) (m := T) hN h.1 fun c k x _ hx => h.2 c k x (by rw [List.take_of_length_le (Nat.le_refl _)]; exact hx)
  rw [e]; exact heaps_std L hN
end
/-- A key's digit at a place. -/
def dig (p : Nat) (x : Nat × Int) : Nat := x.1 / 256 ^ p % 256
theorem dig_lt (p : Nat) (x : Nat × Int) : dig p x < 256 := Nat.mod_lt _ (by decide)
/-- Sorted by the digits below place p. -/
def Low (p : Nat) (M L : List (Nat × Int)) : Prop := Std (fun x => x.1 % 256 ^ p) M L
theorem Low.zero (L : List (Nat × Int)) : Low 0 L L := by
  refine Std.refl ?_
  rw [List.pairwise_iff_getElem]
  intro i j hi hj _
  simp [Nat.mod_one]
theorem Low.next {p : Nat} {L M N : List (Nat × Int)} (h : Low p M L) (g : Std (dig p) N M) : Low (p + 1) N L := by
  refine Std.both (B := 256 ^ p) (fun x => Nat.mod_lt _ (Nat.pow_pos (by decide))) (fun x => ?_) h g
  show x.1 % 256 ^ (p + 1) = dig p x * 256 ^ p + x.1 % 256 ^ p
  unfold dig
  rw [Nat.pow_succ, Nat.mod_mul, Nat.mul_comm (256 ^ p) (x.1 / 256 ^ p % 256), Nat.add_comm]
theorem Low.all {L M : List (Nat × Int)} (h : Low 8 M L) (ho : ∀ x ∈ L, x.1 < 18446744073709551616) : Std Prod.fst M L := by
  have hp := h.perm
  have e : ∀ x : Nat × Int, x ∈ L → x.1 % 256 ^ 8 = x.1 := fun x hx => Nat.mod_eq_of_lt (ho x hx)
  have eM : ∀ x : Nat × Int, x ∈ M → x.1 % 256 ^ 8 = x.1 := fun x hx => e x (hp.mem_iff.1 hx)
  refine ⟨?_, fun c => ?_⟩
  · refine List.Pairwise.imp_of_mem (fun {a b} ha hb hab => ?_) h.1
    have hab : a.1 % 256 ^ 8 ≤ b.1 % 256 ^ 8 := hab
    rw [eM a ha, eM b hb] at hab; exact hab
  · have q := h.2 c
    have q1 : M.filter (fun x => (fun x : Nat × Int => x.1 % 256 ^ 8) x == c) = M.filter (fun x => x.1 == c) := List.filter_congr fun x hx => by show (x.1 % 256 ^ 8 == c) = _; rw [eM x hx]
    have q2 : L.filter (fun x => (fun x : Nat × Int => x.1 % 256 ^ 8) x == c) = L.filter (fun x => x.1 == c) := List.filter_congr fun x hx => by show (x.1 % 256 ^ 8 == c) = _; rw [e x hx]
    rw [← q1, ← q2]; exact q
end Go.Proofs.Ytdaajhfippnciaa
