/- New lists, and what is copied to one's own. -/
import Derived.Test.YtdaajhfippnciaaSortApp
import Derived.Laws.CopyOwn
import Derived.Laws.MakeOwn
namespace Go.Proofs.Ytdaajhfippnciaa
open Go.RowKit
theorem flat_two (m : Nat) : flat (List.replicate m ((0 : Nat), (0 : Int))) = (List.range (m * 2)).map fun j => if j % 2 = 0 then Value.int .u64 0 else .int .i64 0 := by
  apply List.ext_getElem?
  intro j
  rw [List.getElem?_map]
  by_cases h : j < m * 2
  · rw [List.getElem?_range h]
    have e : (List.replicate m ((0 : Nat), (0 : Int)))[j / 2]? = some (0, 0) := by rw [List.getElem?_replicate, if_pos (by omega)]
    obtain ⟨a, b⟩ := flat_at _ _ _ e
    rcases (show j % 2 = 0 ∨ j % 2 = 1 by omega) with d | d
    · rw [show j / 2 * 2 = j by omega] at a; rw [a]; simp [d]
    · rw [show j / 2 * 2 + 1 = j by omega] at b; rw [b]; simp [d]
  · rw [List.getElem?_eq_none (by rw [flat_len, List.length_replicate]; omega), List.getElem?_eq_none (by simp; omega)]; rfl
theorem kd_makes (m : Nat) (hm : m ≤ 8796093022208) : ∃ cs : Array Value, cs.toList = flat (List.replicate m (0, 0)) ∧
    ∀ W : World, (Instr.makeSlice 22 (.int .i64 (m : Int)) (.int .i64 (m : Int))).run Try.prog W = .ok (.slice (some ⟨W.heap.size, 0, none⟩) m m) (W.alloc (.cells cs 32)) := by
  obtain ⟨i0, hi, hz0, hz1, hz2⟩ := info_parts kd_info
  refine ⟨madeCells #[.int .u64 0, .int .i64 0] (m * 2), ?_, fun W => ?_⟩
  · rw [flat_two]
    unfold madeCells
    rw [Array.toList_map, Array.toList_range]
    apply List.map_congr_left
    intro j _
    rcases (show j % 2 = 0 ∨ j % 2 = 1 by omega) with d | d <;> simp [d]
  · have h := run_make (P := Try.prog) W 22 32 i0 (.agg #[.int .u64 0, .int .i64 0]) Try.underlying22 hi hz0 .i64 .i64 (m : Int) (m : Int) (by omega) (Int.le_refl _) (by rw [hz2]; omega) (by omega)
    simp only [Int.toNat_natCast, hz1] at h
    exact h
theorem run_copy_kd {w : World} {g n cap c : Nat} {A : Option Addr} {L T : List (Nat × Int)} (ty : TypeId) (hT : Kr w g n T) (hL : Ks w A n L) :
    ∃ w', (Builtin.copy_ #[22, 22] ty #[.slice (some ⟨g, 0, none⟩) n cap, .slice A n c]).run Try.prog w = .ok (goInt n) w' ∧ Kr w' g n L ∧ ∀ (B : Nat) (w0 : World), Below B w0 w → B ≤ g → Below B w0 w' ∧ ∀ k, k ≠ g → w'.heap[k]? = w.heap[k]? := by
  obtain ⟨i0, hi, hz0, hz1, hz2⟩ := info_parts kd_info
  obtain ⟨cur, hh, hs, ht, hc⟩ := hT
  have hlL := hL.1
  rcases A with _ | a
  · have hn : n = 0 := by
      rcases Nat.eq_zero_or_pos n with h | h
      · exact h
      · obtain ⟨_, _, e, _⟩ := hL.2 h; cases e
    subst hn
    obtain rfl : L = [] := List.length_eq_zero_iff.1 hlL
    refine ⟨w, ?_, ⟨cur, hh, hs, by simp, fun j x hx => by simp at hx⟩, fun B w0 hb _ => ⟨hb, fun _ _ => rfl⟩⟩
    simp [Builtin.copy_, run_underlying (P := Try.prog) (t := 22) Try.underlying22, Builtin.lenOf, Builtin.firstCells, sizeOf, typeInfo, hi, storeCells]
  · have hl := run_loadCells_list (P := Try.prog) w a (flat L) (fun j u hu => (hL.asFlat j u hu).2)
    have hst := run_storeCells_at Try.prog g 0 32 (flat L) 0 cur w hh (by rw [flat_len, hlL]; omega) (flat_one L)
    have e : (cur.toList.take (0 + 0) ++ flat L ++ cur.toList.drop (0 + 0 + (flat L).length)).toArray = (flat L).toArray := by
      rw [List.drop_eq_nil_of_le (by rw [flat_len, hlL, Array.length_toList]; omega)]; simp
    rw [e] at hst
    rw [flat_len, hlL] at hl
    refine ⟨w.setRow g (flat L).toArray, ?_, ⟨(flat L).toArray, setRow_heap w g _ _ _ _ hh, by simp [flat_len, hlL], by omega, fun j x hx => ?_⟩, fun B w0 hb hB => ⟨below_setRow hb hB _, fun k hk => setRow_other w g k _ hk⟩⟩
    · simp [Builtin.copy_, run_underlying (P := Try.prog) (t := 22) Try.underlying22, Builtin.lenOf, Builtin.firstCells, sizeOf, typeInfo, hi, hz1, hl, hst]
    · obtain ⟨u, v⟩ := flat_at L j x hx
      exact ⟨by simpa using u, by simpa using v⟩
theorem wpList_copy_kd {w : World} {ops : Array Oper} {rest : List Oper} {o : Oper} {a : Act} {Q : Exit → Act → World → Prop} (hgd : o.guard = none) (d s : Operand)
    (ho : o.op = .call { callee := .builtin .copy, args := #[d, s], argTypes := #[22, 22] })
    (g n cap c : Nat) (A : Option Addr) (L T : List (Nat × Int)) (hd : a.eval d = .slice (some ⟨g, 0, none⟩) n cap) (hs : a.eval s = .slice A n c) (hT : Kr w g n T) (hL : Ks w A n L)
    (h : ∀ w', Kr w' g n L → (∀ (B : Nat) (w0 : World), Below B w0 w → B ≤ g → Below B w0 w' ∧ ∀ k, k ≠ g → w'.heap[k]? = w.heap[k]?) → wpList Try.prog ops Q rest (a.put o.dst (goInt n)) w') :
    wpList Try.prog ops Q (o :: rest) a w := by
  refine wpList_plain hgd fun K hK => ?_
  obtain ⟨w', hr, h2, h3⟩ := run_copy_kd (cap := cap) (c := c) o.type hT hL
  unfold Oper.wp execOp
  simp only [ho, resolve, invoke, builtin, Sem.run_bind, Sem.run_pure, Result.andThen_ok, List.map_toArray, List.map_cons, List.map_nil, hd, hs, hr]
  exact hK _ _ (h w' h2 h3)
end Go.Proofs.Ytdaajhfippnciaa
