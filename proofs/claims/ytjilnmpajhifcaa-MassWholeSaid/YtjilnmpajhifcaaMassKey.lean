/- The document's Keyed: bodies by their keys. -/
import Derived.Test.YtjilnmpajhifcaaMassBod
import Derived.Test.YtjilnmpajhifcaaZzMortA
import Derived.Test.YtjilnmpajhifcaaSortDoc2
import Derived.Test.YtjilnmpajhifcaaSortApp
namespace Go.Proofs.Ytjilnmpajhifcaa
open Go.RowKit
/-- A body's key. -/
def kof (b : Bod) : Nat := (key (cl1 (fh b.x)) (cl1 (fh b.y))).toNat
theorem kof_int (b : Bod) : ((kof b : Nat) : Int) = key (cl1 (fh b.x)) (cl1 (fh b.y)) := by
  have h := (key_wd (cl1 (fh b.x)) (cl1 (fh b.y))).1
  unfold kof; omega
theorem kof_lt (b : Bod) : kof b < 18446744073709551616 := by
  have h := (key_wd (cl1 (fh b.x)) (cl1 (fh b.y))).2
  have := kof_int b; omega
/-- Bodies' keys, and their places. -/
def kys (L : List Bod) : List (Nat × Int) := L.zipIdx.map fun p => (kof p.1, (p.2 : Int))
theorem kys_len (L : List Bod) : (kys L).length = L.length := by unfold kys; simp
theorem kys_at {L : List Bod} {i : Nat} {b : Bod} (h : L[i]? = some b) : (kys L)[i]? = some (kof b, (i : Int)) := by
  unfold kys
  rw [List.getElem?_map, List.getElem?_zipIdx, h]
  simp
theorem kys_64 (L : List Bod) : ∀ x ∈ kys L, x.1 < 18446744073709551616 := by
  intro x hx
  unfold kys at hx
  obtain ⟨p, _, rfl⟩ := List.mem_map.1 hx
  exact kof_lt _
theorem flat_snoc' (L : List (Nat × Int)) (x : Nat × Int) : flat (L ++ [x]) = flat L ++ [.int .u64 (x.1 : Int), .int .i64 x.2] := by
  unfold flat; rw [List.flatMap_append]; rfl
end Go.Proofs.Ytjilnmpajhifcaa
