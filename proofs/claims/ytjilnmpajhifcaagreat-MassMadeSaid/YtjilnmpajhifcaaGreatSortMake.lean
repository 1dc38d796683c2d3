/- The law's Make: lists by numbers. -/
import Derived.Test.YtjilnmpajhifcaaGreatSortOpen
import Derived.Deep.AppendLies
namespace Go.Proofs.YtjilnmpajhifcaaGreat
open Go.RowKit
/-- A slice of bytes, nil let in. -/
def Bs (w : World) (A : Option Addr) (n : Nat) (l : List Nat) : Prop :=
  l.length = n ∧ (∀ b ∈ l, b < 256) ∧ (0 < n → ∃ B o : Nat, A = some ⟨B, o, none⟩ ∧ B < w.heap.size ∧ ∀ (j b : Nat), l[j]? = some b → w.cell? ⟨B, o + j, none⟩ = some (.int .u8 (b : Int)))
theorem Bs.below {w w' : World} {A : Option Addr} {n : Nat} {l : List Nat} (h : Bs w A n l) (g : Below w.heap.size w w') : Bs w' A n l :=
  ⟨h.1, h.2.1, fun hn => by
    obtain ⟨B, o, e, hb, hc⟩ := h.2.2 hn
    refine ⟨B, o, e, Nat.lt_of_lt_of_le hb g.size, fun j x hx => ?_⟩
    rw [g.cell (p := ⟨B, o + j, none⟩) hb]
    exact hc j x hx⟩
theorem Bs.at_ {w : World} {A : Option Addr} {n : Nat} {l : List Nat} (h : Bs w A n l) {k : Nat} (hk : k < n) :
    ∃ (B o b : Nat), A = some ⟨B, o, none⟩ ∧ B < w.heap.size ∧ l[k]? = some b ∧ b < 256 ∧ w.cell? ⟨B, o + k, none⟩ = some (.int .u8 (b : Int)) := by
  obtain ⟨B, o, e, hb, hc⟩ := h.2.2 (by omega)
  have hl : k < l.length := by have := h.1; omega
  have hx := List.getElem?_eq_getElem hl
  exact ⟨B, o, l[k], e, hb, hx, h.2.1 _ (List.getElem_mem hl), hc k _ hx⟩
section
open Go.ChangeShapes Go.WideShapes Go.ChangeAt Go.RowKit Go.Joins
variable {H : Type} {enc : TypeId × Value → H} {w : World} {base : Nat} {spare : Nat → Bool} {held : Bool}
set_option maxRecDepth 20000 in
theorem open_bytes {r : Reach} {b0 : Nat} {v : Value} {d : DataW H} {p : List MemPlace} (hv : Value.okWide Tryz.prog w r b0 49 v) (h : DataW.Trod enc Tryz.prog w base spare held 49 v d p) :
    ∃ (A : Option Addr) (n c : Nat) (l : List Nat), v = .slice A n c ∧ (A = none → n = 0 ∧ c = 0) ∧ Bs w A n l ∧ n ≤ maxLen := by
  obtain ⟨A, n, c, rfl⟩ := okWide_slice Tryz.underlying49 hv
  obtain ⟨fuel, hf⟩ := h
  have hf : DataW.trod enc Tryz.prog w base spare held fuel 49 [.slice A n c] = some (d, p) := by simpa [Value.cells] using hf
  rcases Go.Deep.open_slice1 Tryz.underlying49 (by kernel_rfl) hf with ⟨e, _⟩ | ⟨a, len, cap, m, k, V, D, P, e, hb, hl, hm, hmm, _, hx⟩
  · simp only [List.cons.injEq, Value.slice.injEq, and_true] at e
    obtain ⟨rfl, rfl, rfl⟩ := e
    exact ⟨none, 0, 0, [], rfl, fun _ => ⟨rfl, rfl⟩, ⟨rfl, by simp, fun h => by omega⟩, Nat.zero_le _⟩
  · simp only [List.cons.injEq, Value.slice.injEq, and_true] at e
    obtain ⟨rfl, rfl, rfl⟩ := e
    have hlm : n ≤ m := by rw [hmm]; split <;> omega
    have val : ∀ j, j < n → ∃ z : Int, V j = .int .u8 z ∧ 0 ≤ z ∧ z < 256 := fun j hj => by
      obtain ⟨_, t0⟩ := hx j (by omega)
      obtain ⟨z, e0, _, w0⟩ := DataW.trod_int Tryz.underlying5 t0
      simp only [List.cons.injEq, and_true] at e0
      refine ⟨z, e0, ?_⟩
      simp [Lit.wf, IntKind.min, IntKind.max, IntKind.bits, IntKind.signed] at w0; omega
    refine ⟨some a, n, c, (List.range n).map fun i => (intOf (V i)).toNat, rfl, by simp, ⟨by simp, fun b hb => ?_, fun hn => ?_⟩, by omega⟩
    · obtain ⟨j, hj, rfl⟩ := List.mem_map.1 hb
      obtain ⟨z, e, z0, z1⟩ := val j (List.mem_range.1 hj)
      rw [e]; show z.toNat < 256; omega
    · obtain ⟨h0, _⟩ := hx 0 (by omega)
      have hs : a.spot = none := by simpa [Addr.add] using World.cell?_spot h0
      have hlt := World.block_lt_of_cell? _ _ h0
      obtain ⟨B, o, s⟩ := a
      obtain rfl : s = none := hs
      refine ⟨B, o, rfl, by rw [block_of_add] at hlt; exact hlt, fun j b hxj => ?_⟩
      have hj : j < n := by have := (List.getElem?_eq_some_iff.1 hxj).1; simpa using this
      rw [List.getElem?_map, List.getElem?_range hj] at hxj
      obtain rfl : (intOf (V j)).toNat = b := by simpa using hxj
      obtain ⟨g0, _⟩ := hx j (by omega)
      obtain ⟨z, e, z0, z1⟩ := val j hj
      rw [add_plain] at g0
      rw [g0, e]
      show some (Value.int .u8 z) = some (.int .u8 ((z.toNat : Nat) : Int))
      rw [Int.toNat_of_nonneg z0]
end
/-- A byte's key. -/
def bkey (b : Nat) : Nat := b % 8 * 2 ^ (8 * (b / 8 % 8))
theorem bkey_lt (b : Nat) : bkey b < 18446744073709551616 := by
  unfold bkey
  have h : 2 ^ (8 * (b / 8 % 8)) ≤ 2 ^ 56 := Nat.pow_le_pow_right (by decide) (by omega)
  have h2 : b % 8 * 2 ^ (8 * (b / 8 % 8)) ≤ 7 * 2 ^ 56 := Nat.mul_le_mul (by omega) h
  simp only [Nat.reducePow] at h2
  omega
/-- The list that Make makes. -/
def mk_ (l : List Nat) : List (Nat × Int) := (l.take 100).zipIdx.map fun p => (bkey p.1, (p.2 : Int))
theorem mk_len (l : List Nat) : (mk_ l).length = min 100 l.length := by unfold mk_; simp
theorem mk_at {l : List Nat} {i b : Nat} (h : l[i]? = some b) (hi : i < 100) : (mk_ l)[i]? = some (bkey b, (i : Int)) := by
  unfold mk_
  rw [List.getElem?_map, List.getElem?_zipIdx, List.getElem?_take, if_pos hi, h]
  simp
theorem flat_snoc (L : List (Nat × Int)) (x : Nat × Int) : flat (L ++ [x]) = flat L ++ [.int .u64 (x.1 : Int), .int .i64 x.2] := by
  unfold flat; rw [List.flatMap_append]; rfl
theorem take_snoc_at {α : Type} {L : List α} {i : Nat} {x : α} (h : L[i]? = some x) : L.take (i + 1) = L.take i ++ [x] := by
  have hl := List.getElem?_eq_some_iff.1 h
  rw [List.take_succ_eq_append_getElem hl.1, hl.2]
/-- A list by numbers, in new memory. -/
def Made (w : World) (L : List (Nat × Int)) (e : Ending) (w' : World) : Prop :=
  (∃ v, e = .returned v ∧ w'.ownsRow w.heap.size 68 2 v L.length (flat L)) ∧ Below w.heap.size w w'
end Go.Proofs.YtjilnmpajhifcaaGreat
