/- The document's tree. -/
import Derived.Test.YtjilnmpajhifcaaSpan
import Derived.Test.YtjilnmpajhifcaaSortDoc2
import Derived.Test.YtjilnmpajhifcaaTreeNum
import Derived.Test.YtjilnmpajhifcaaZzLimA
import Derived.Test.YtjilnmpajhifcaaZzLimC
namespace Go.Proofs.Ytjilnmpajhifcaa
open Go.RowKit
/-- A node as cells. -/
def ndc (x : Nd) : List Value := [.int .i64 (x.lev : Int), .int .u64 (x.key : Int), .int .i64 (x.fr : Int), .int .i64 (x.to : Int), .int .i64 (x.kid 0), .int .i64 (x.kid 1), .int .i64 (x.kid 2), .int .i64 (x.kid 3)]
theorem ndc_len (x : Nd) : (ndc x).length = 8 := rfl
theorem ndc_one (L : List Nd) : One (L.map ndc) := fun c hc u hu => by
  obtain ⟨x, _, rfl⟩ := List.mem_map.1 hc
  simp [ndc] at hu
  rcases hu with rfl | rfl | rfl | rfl | rfl | rfl | rfl | rfl <;> rfl
theorem two_pow_lt (k : Nat) (h : k ≤ 62) : 2 ^ k ≤ 4611686018427387904 := by
  have := Nat.pow_le_pow_right (n := 2) (by decide) h; simpa using this
/-- A kid's number written into a node. -/
theorem kid_set (x : Nd) (q : Nat) (hq : q < 4) (v : Int) : (ndc x).set (4 + q) (.int .i64 v) = ndc { x with kid := fun i => if i = q then v else x.kid i } := by
  rcases (show q = 0 ∨ q = 1 ∨ q = 2 ∨ q = 3 by omega) with rfl | rfl | rfl | rfl <;> rfl
theorem ndc_mid (O T : List Nd) (x y : Nd) : ((O ++ x :: T).map ndc).set O.length (ndc y) = (O ++ y :: T).map ndc := by
  rw [← List.map_set]; congr 1
  rw [List.set_append_right _ _ (Nat.le_refl _), Nat.sub_self]; rfl
theorem ndc_get (O T : List Nd) (x : Nd) : ((O ++ x :: T).map ndc)[O.length]? = some (ndc x) := by
  rw [List.getElem?_map, List.getElem?_append_right (Nat.le_refl _), Nat.sub_self]; rfl
section
variable {b0 : Nat} {w : World} {vb : Option Nat} {box : Array Value} {g cap : Nat} {C : List Nd} {W W' : World}
end
def keyAt (L : List (Nat × Int)) (i : Nat) : Nat := (L[i]?.getD (0, 0)).1
/-- The cells of a node as grow is given it. -/
def nd0 (lev key fa ta : Nat) : Array Value := #[.int .i64 (lev : Int), .int .u64 (key : Int), .int .i64 (fa : Int), .int .i64 (ta : Int), .int .i64 0, .int .i64 0, .int .i64 0, .int .i64 0]
theorem own_lt {w : World} {base : Nat} {e : TypeId} {s n : Nat} {v : Value} {xs : List Value} (h : w.ownsRow base e s v n xs) : ∀ q, v.ownBlock = some q → q < w.heap.size := by
  intro q hq
  rcases h.2 with ⟨rfl, _⟩ | ⟨g, _, cur, rfl, _, hh, _⟩
  · simp [Value.ownBlock] at hq
  · simp [Value.ownBlock] at hq
    subst hq
    rcases Nat.lt_or_ge g w.heap.size with hlt | hge
    · exact hlt
    · rw [Array.getElem?_eq_none hge] at hh; cases hh
end Go.Proofs.Ytjilnmpajhifcaa
