/- The document's Cells. -/
import Derived.Test.YtjilnmpajhifcaaMassCen
import Derived.Test.YtjilnmpajhifcaaTreeWid
import Derived.Test.YtjilnmpajhifcaaTreeDoc
import Derived.Test.YtjilnmpajhifcaaSortMem
namespace Go.Proofs.Ytjilnmpajhifcaa
open Go.RowKit
/-- The bodies of a node. -/
def memb (by_ : List (Nat × Int)) (L : List Bod) (f t : Nat) : List Bod := ((by_.drop f).take (t - f)).filterMap fun k => L[k.2.toNat]?
theorem memb_zero (by_ : List (Nat × Int)) (L : List Bod) (f : Nat) : memb by_ L f f = [] := by unfold memb; simp
theorem memb_next {by_ : List (Nat × Int)} {L : List Bod} {f k : Nat} {x : Nat × Int} {b : Bod} (h : f ≤ k) (hx : by_[k]? = some x) (hb : L[x.2.toNat]? = some b) : memb by_ L f (k + 1) = memb by_ L f k ++ [b] := by
  unfold memb
  have e : (by_.drop f)[k - f]? = some x := by rw [List.getElem?_drop, show f + (k - f) = k by omega]; exact hx
  rw [show k + 1 - f = k - f + 1 by omega, take_snoc' e, List.filterMap_append]
  simp [hb]
theorem memb_mem {by_ : List (Nat × Int)} {L : List Bod} {f t : Nat} {b : Bod} (h : b ∈ memb by_ L f t) : b ∈ L := by
  unfold memb at h
  obtain ⟨k, _, hk⟩ := List.mem_filterMap.1 h
  exact List.mem_of_getElem? hk
/-- How wide a level is. -/
def wd8 (z : Int) : Int := ((2 ^ (32 - wlev z) : Nat) : Int)
/-- A cell: all mass, the middle, how wide. -/
def celc (C : List Bod) (z : Int) : List Value := [.int .i64 (fh (sM C)), .int .u64 (fl (sM C)), .int .i64 (fh (mid Bod.x C)), .int .u64 (fl (mid Bod.x C)), .int .i64 (fh (mid Bod.y C)), .int .u64 (fl (mid Bod.y C)), .int .i64 (wd8 z), .int .u64 0]
theorem celc_len (C : List Bod) (z : Int) : (celc C z).length = 8 := rfl
theorem celc_one (C : List Bod) (z : Int) : One [celc C z] := fun c hc u hu => by
  simp at hc; subst hc
  simp [celc] at hu
  rcases hu with rfl | rfl | rfl | rfl | rfl | rfl | rfl | rfl <;> rfl
theorem bdc_one (b : Bod) : One [bdc b] := fun c hc u hu => by
  simp at hc; subst hc
  simp [bdc] at hu
  rcases hu with rfl | rfl | rfl | rfl | rfl | rfl | rfl | rfl | rfl | rfl | rfl | rfl | rfl | rfl | rfl | rfl | rfl | rfl | rfl | rfl <;> rfl
/-- Cells laid one by one over as many. -/
theorem fold_set : ∀ (l : List Value) (k : Nat) (z : Array Value), k + l.length = z.size → (l.zipIdx k).foldl (fun (cs : Array Value) (x : Value × Nat) => cs.setIfInBounds x.snd x.fst) z = (z.toList.take k ++ l).toArray := by
  intro l
  induction l with
  | nil => intro k z h; simp at h; rw [List.take_of_length_le (by simp; omega)]; simp
  | cons a t ih =>
    intro k z h
    rw [List.length_cons] at h
    rw [List.zipIdx_cons, List.foldl_cons, ih (k + 1) (z.setIfInBounds k a) (by simp; omega)]
    congr 1
    have hk : k < z.toList.length := by simp; omega
    rw [Array.toList_setIfInBounds, List.take_succ_eq_append_getElem (by simp; omega), List.take_set_of_le (Nat.le_refl _), List.getElem_set_self]
    simp
theorem bdc_fold (b : Bod) : List.foldl (fun (cs : Array Value) (x : Value × Nat) => cs.setIfInBounds x.snd x.fst) #[.int .i64 0, .int .u64 0, .int .i64 0, .int .u64 0, .int .i64 0, .int .u64 0, .int .i64 0, .int .u64 0, .int .i64 0, .int .u64 0, .int .i64 0, .int .u64 0, .int .i64 0, .int .u64 0, .int .i64 0, .int .u64 0, .int .i64 0, .int .u64 0, .int .i64 0, .int .i64 0] (bdc b).zipIdx = (bdc b).toArray := by
  rw [fold_set (bdc b) 0 _ rfl]; simp
/-- All cells of some nodes. -/
def cels (by_ : List (Nat × Int)) (L : List Bod) (T : List Nd) : List (List Value) := T.map fun x => celc (memb by_ L x.fr x.to) (x.lev : Int)
theorem cels_len (by_ : List (Nat × Int)) (L : List Bod) (T : List Nd) : Ln 8 (cels by_ L T) := by
  unfold cels
  exact Ln.map (s := 8) (fun _ => celc_len _ _) T
theorem bd_row : RowT 23 32 20 160 := RowT.mk' Try.underlying23 (z := .agg #[.int .i64 0, .int .u64 0, .int .i64 0, .int .u64 0, .int .i64 0, .int .u64 0, .int .i64 0, .int .u64 0, .int .i64 0, .int .u64 0, .int .i64 0, .int .u64 0, .int .i64 0, .int .u64 0, .int .i64 0, .int .u64 0, .int .i64 0, .int .u64 0, .int .i64 0, .int .i64 0]) (by kernel_rfl) rfl (by decide)
theorem node_at {w : World} {A : Option Addr} {n : Nat} {T : List Nd} (h : S0 8 w A n (T.map ndc)) {j : Nat} (hj : j < n) :
    ∃ (B o : Nat) (x : Nd), A = some ⟨B, o, none⟩ ∧ B < w.heap.size ∧ T[j]? = some x ∧ w.cell? ⟨B, o + j * 8, none⟩ = some (.int .i64 (x.lev : Int)) ∧ w.cell? ⟨B, o + j * 8 + 2, none⟩ = some (.int .i64 (x.fr : Int)) ∧ w.cell? ⟨B, o + j * 8 + 3, none⟩ = some (.int .i64 (x.to : Int)) := by
  have hl : T.length = n := by have := h.1; simpa using this
  have hx := List.getElem?_eq_getElem (l := T) (i := j) (by omega)
  obtain ⟨B, o, e, hB, hc⟩ := h.at_ (j := j) (c := ndc T[j]) (by rw [List.getElem?_map, hx]; rfl)
  exact ⟨B, o, _, e, hB, hx, hc 0 _ rfl, hc 2 _ rfl, hc 3 _ rfl⟩
end Go.Proofs.Ytjilnmpajhifcaa
