/- Bodies in memory. -/
import Derived.Test.YtjilnmpajhifcaaBox
import Derived.Test.YtjilnmpajhifcaaMassBd
namespace Go.Proofs.Ytjilnmpajhifcaa
open Go.RowKit
/-- A body's cells. -/
def bdc (b : Bod) : List Value := [.int .i64 (fh b.m), .int .u64 (fl b.m), .int .i64 (fh b.r), .int .u64 (fl b.r), .int .i64 (fh b.x), .int .u64 (fl b.x), .int .i64 (fh b.y), .int .u64 (fl b.y), .int .i64 (fh b.px), .int .u64 (fl b.px), .int .i64 (fh b.py), .int .u64 (fl b.py), .int .i64 (fh b.fu), .int .u64 (fl b.fu), .int .i64 (fh b.ra), .int .u64 (fl b.ra), .int .i64 (fh b.ex), .int .u64 (fl b.ex), .int .i64 b.th, .int .i64 b.he]
theorem bdc_len (b : Bod) : (bdc b).length = 20 := rfl
/-- A slice of bodies. -/
def Bds (w : World) (A : Option Addr) (n : Nat) (L : List Bod) : Prop := S0 20 w A n (L.map bdc)
theorem Bds.below {w w' : World} {A : Option Addr} {n : Nat} {L : List Bod} (h : Bds w A n L) (g : Below w.heap.size w w') : Bds w' A n L := S0.below h g
theorem Bds.len {w : World} {A : Option Addr} {n : Nat} {L : List Bod} (h : Bds w A n L) : L.length = n := by have := h.1; simpa using this
theorem Bds.at_ {w : World} {A : Option Addr} {n : Nat} {L : List Bod} (h : Bds w A n L) {i : Nat} (hi : i < n) :
    ∃ (B o : Nat) (b : Bod), A = some ⟨B, o, none⟩ ∧ B < w.heap.size ∧ L[i]? = some b ∧ ∀ (k : Nat) (u : Value), (bdc b)[k]? = some u → w.cell? ⟨B, o + i * 20 + k, none⟩ = some u := by
  have hl := h.len
  have hb := List.getElem?_eq_getElem (l := L) (i := i) (by omega)
  obtain ⟨B, o, e, hB, hc⟩ := S0.at_ h (j := i) (c := bdc L[i]) (by rw [List.getElem?_map, hb]; rfl)
  exact ⟨B, o, _, e, hB, hb, hc⟩
/-- Its mass and its place. -/
theorem Bds.mx {w : World} {A : Option Addr} {n : Nat} {L : List Bod} (h : Bds w A n L) {i : Nat} (hi : i < n) :
    ∃ (B o : Nat) (b : Bod), A = some ⟨B, o, none⟩ ∧ B < w.heap.size ∧ L[i]? = some b ∧ w.cell? ⟨B, o + i * 20, none⟩ = some (.int .i64 (fh b.m)) ∧ w.cell? ⟨B, o + i * 20 + 1, none⟩ = some (.int .u64 (fl b.m)) ∧ w.cell? ⟨B, o + i * 20 + 4, none⟩ = some (.int .i64 (fh b.x)) ∧ w.cell? ⟨B, o + i * 20 + 5, none⟩ = some (.int .u64 (fl b.x)) ∧ w.cell? ⟨B, o + i * 20 + 6, none⟩ = some (.int .i64 (fh b.y)) ∧ w.cell? ⟨B, o + i * 20 + 7, none⟩ = some (.int .u64 (fl b.y)) := by
  obtain ⟨B, o, b, e, hB, hb, hc⟩ := h.at_ hi
  exact ⟨B, o, b, e, hB, hb, hc 0 _ rfl, hc 1 _ rfl, hc 4 _ rfl, hc 5 _ rfl, hc 6 _ rfl, hc 7 _ rfl⟩
/-- What the document's Add, Mul, Div come to where the answer may be. -/
def RAddT : Prop := ∀ x y : Int, My x → My y → My (x + y) → ∀ W : World, Calls Try.prog 10 #[fxv x, fxv y] W fun e w' => e = .returned (.agg #[.int .i64 (fh (x + y)), .int .u64 (fl (x + y)), .int .i64 0]) ∧ Below W.heap.size W w'
end Go.Proofs.Ytjilnmpajhifcaa
