/- The program's digit, and rows of 256 numbers by value. -/
import Derived.Test.YtdaajhfippnciaaSortLaw
import Derived.Test.YtdaajhfippnciaaSortInt
import Derived.Test.YtdaajhfippnciaaSortHeap
import Derived.Deep.WholeRow
import Derived.Laws.CopyOwn
import Derived.Laws.ResultCell
namespace Go.Proofs.Ytdaajhfippnciaa
open Go.RowKit
set_option maxRecDepth 20000 in
set_option maxHeartbeats 2000000 in
theorem digit_core (x s q r : Nat) (e1 : (x : Int) / 2 ^ min s 64 = (q : Int)) (e2 : (q : Int).tmod 256 = (r : Int)) (w : World) :
    Calls Try.prog 15 #[.int .u64 (x : Int), .int .i64 (s : Int)] w fun e w' => e = .returned (.int .u64 (r : Int)) ∧ Below w.heap.size w w' := by
  go_enter Try.func15, Try.ntmps15
  go_wp2_with fail
  go_returns
  exact ⟨rfl, bb⟩
theorem digit_any (x : Nat × Int) (p : Nat) (hp : p < 8) (w : World) :
    Calls Try.prog 15 #[.int .u64 (x.1 : Int), .int .i64 (8 * (p : Int))] w fun e w' => e = .returned (.int .u64 (dig p x : Int)) ∧ Below w.heap.size w w' := by
  rw [show 8 * (p : Int) = ((8 * p : Nat) : Int) by omega]
  refine digit_core x.1 (8 * p) (x.1 / 256 ^ p) (dig p x) ?_ ?_ w
  · have h : ((2 : Int) ^ (8 * p)) = ((256 ^ p : Nat) : Int) := by rw [Int.pow_mul]; simp
    rw [show min (8 * p) 64 = 8 * p by omega, h]; rfl
  · unfold dig
    rw [Int.tmod_eq_emod_of_nonneg (Int.natCast_nonneg _)]; rfl
/-- Rows of 256. -/
theorem row_info : ∃ z : Array Value, z.size = 256 ∧ (∀ j, j < 256 → z[j]? = some (.int .i64 0)) ∧ (∀ w, (zeroValue 36).run Try.prog w = .ok (.agg z) w) := by
  have h : (Try.prog.info? 36).map (fun i => (i.zero, i.size)) = some (some (.agg (Array.replicate 256 (.int .i64 0))), 256) := by kernel_rfl
  refine ⟨_, ?_, ?_, (zero_of_info h).1⟩
  · simp
  · intro j hj; simp [hj]
theorem row_size : (Try.prog.info? 36).map (·.size) = some 256 := by kernel_rfl
/-- So many numbers. -/
def Nums (cs : Array Value) (F : Nat → Int) : Prop := cs.size = 256 ∧ ∀ j, j < 256 → cs[j]? = some (.int .i64 (F j))
theorem Nums.one {cs : Array Value} {F : Nat → Int} (h : Nums cs F) : cs.all (·.oneCell') = true := by
  rw [Array.all_eq_true_iff_forall_mem]
  intro v hv
  obtain ⟨i, hi, rfl⟩ := Array.mem_iff_getElem.1 hv
  have e := h.2 i (by rw [← h.1]; exact hi)
  rw [Array.getElem?_eq_getElem hi] at e
  injection e with e
  rw [e]; rfl
theorem Ir.nums {t : TypeId} {w : World} {g : Nat} {F : Nat → Int} (h : Ir t w g 256 F) : ∃ cs, Nums cs F ∧ w.heap[g]? = some (.cells cs t (0, 0)) := by
  obtain ⟨cs, hh, hs, hc⟩ := h
  exact ⟨cs, ⟨hs, hc⟩, hh⟩
theorem Ir.loads {w : World} {g : Nat} {F : Nat → Int} (h : Ir 36 w g 256 F) : ∃ cs, Nums cs F ∧ (Instr.loadAt 36 (.pointer (some ⟨g, 0, none⟩))).run Try.prog w = .ok (.agg cs) w ∧ (loadVar 36 ⟨g, 0, none⟩).run Try.prog w = .ok (.agg cs) w ∧ (loadCellsFrom ⟨g, 0, none⟩ 0 256 #[]).run Try.prog w = .ok cs w := by
  obtain ⟨cs, hn, hh⟩ := h.nums
  have hl := run_loadVar_row (P := Try.prog) w g 36 36 cs (0, 0) _ hh Try.underlying36 rfl (by rw [hn.1]; exact row_size)
  refine ⟨cs, hn, ?_, hl, ?_⟩
  · simp only [Instr.loadAt, Instr.sureAddr, Sem.run_bind, Sem.run_pure, Result.andThen]; exact hl
  · have := run_loadCells_list (P := Try.prog) w ⟨g, 0, none⟩ cs.toList (fun j v hv => by
      have hadd : (⟨g, 0, none⟩ : Addr).add j = ⟨g, j, none⟩ := by unfold Addr.add; split <;> simp_all
      rw [hadd, cell_of_row _ _ j cs 36 (0, 0) hh]
      simpa using hv)
    simpa [loadCells, hn.1] using this
theorem Ir.stores {w : World} {g : Nat} {F G : Nat → Int} (h : Ir 36 w g 256 F) {cs : Array Value} (hc : Nums cs G) : (Instr.storeAt 36 (.pointer (some ⟨g, 0, none⟩)) (.agg cs)).run Try.prog w = .ok () (w.setRow g cs) ∧ (storeVar 36 ⟨g, 0, none⟩ (.agg cs)).run Try.prog w = .ok () (w.setRow g cs) ∧ (storeCells ⟨g, 0, none⟩ cs.toList 0).run Try.prog w = .ok () (w.setRow g cs) ∧ Ir 36 (w.setRow g cs) g 256 G ∧ (loadVar 36 ⟨g, 0, none⟩).run Try.prog (w.setRow g cs) = .ok (.agg cs) (w.setRow g cs) := by
  obtain ⟨old, hn, hh⟩ := h.nums
  have hs := run_storeVar_row (P := Try.prog) w g 36 36 old cs hh (by rw [hc.1]; exact row_size) (by rw [hc.1, hn.1]) hc.one
  refine ⟨?_, hs, ?_, ⟨cs, setRow_heap w g _ _ _ _ hh, hc.1, hc.2⟩, run_loadVar_row _ g 36 36 cs (0, 0) _ (setRow_heap w g _ _ _ _ hh) Try.underlying36 rfl (by rw [hc.1]; exact row_size)⟩
  · simp only [Instr.storeAt, Instr.sureAddr, Sem.run_bind, Sem.run_pure, Result.andThen]; exact hs
  · have hz := run_storeCells_from (P := Try.prog) g 36 cs.toList 0 old w hh (by simp [hc.1, hn.1]) (fun v hv => (Array.all_eq_true_iff_forall_mem.1 hc.one) v (by simpa using hv))
    rw [hz]
    simp
/-- What a walk does to a world leaves a row that it does not touch. -/
theorem irb {w w' : World} (g : Nat) (F : Nat → Int) (k : Below w.heap.size w w') (h : Ir 36 w g 256 F := by repeat (first | with_reducible exact Hid.out (by assumption) | with_reducible refine Ir.far ?_ (by first | (simp; done) | omega | (simp <;> omega)) _ | with_reducible refine Ir.alloc ?_ _ | with_reducible apply Ir.drew)) : Hid (Ir 36 w' g 256 F) := h.below k
theorem krb {w w' : World} (n : Nat) (L : List (Nat × Int)) (g : Nat) (k : Below w.heap.size w w') (h : Kr w g n L := by repeat (first | with_reducible exact Hid.out (by assumption) | with_reducible refine Kr.far ?_ (by first | (simp; done) | omega | (simp <;> omega)) _ | with_reducible refine Kr.alloc ?_ _ | with_reducible apply Kr.drew)) : Hid (Kr w' g n L) := h.below k
theorem irk {t : TypeId} {w : World} {n : Nat} {F : Nat → Int} {g : Nat} (h : Ir t w g n F := by repeat (first | with_reducible exact Hid.out (by assumption) | with_reducible refine Ir.far ?_ (by first | (simp; done) | omega | (simp <;> omega)) _ | with_reducible refine Ir.alloc ?_ _ | with_reducible apply Ir.drew)) : Ir t w g n F := h
theorem krk {w : World} {n : Nat} {L : List (Nat × Int)} {g : Nat} (h : Kr w g n L := by repeat (first | with_reducible exact Hid.out (by assumption) | with_reducible refine Kr.far ?_ (by first | (simp; done) | omega | (simp <;> omega)) _ | with_reducible refine Kr.alloc ?_ _ | with_reducible apply Kr.drew)) : Kr w g n L := h
end Go.Proofs.Ytdaajhfippnciaa
