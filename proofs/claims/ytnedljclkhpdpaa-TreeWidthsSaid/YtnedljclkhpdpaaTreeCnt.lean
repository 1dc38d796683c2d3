/- How many bodies are in each quarter: the program's counts; whether a node is a leaf. -/
import Derived.Test.YtnedljclkhpdpaaTreeCut
import Derived.Test.YtnedljclkhpdpaaBox
import Derived.Test.YtnedljclkhpdpaaSortMem
namespace Go.Proofs.Ytnedljclkhpdpaa
open Go.RowKit
/-- What is counted of so many, as cells. -/
def cl (K : Nat → Nat) (lev i : Nat) : List Value := [.int .i64 (cp K lev 0 0 i : Int), .int .i64 (cp K lev 1 0 i : Int), .int .i64 (cp K lev 2 0 i : Int), .int .i64 (cp K lev 3 0 i : Int)]
theorem cl_get (K : Nat → Nat) (lev i : Nat) {q : Nat} (hq : q < 4) : (cl K lev i)[q]? = some (.int .i64 (cp K lev q 0 i : Int)) := by
  rcases (show q = 0 ∨ q = 1 ∨ q = 2 ∨ q = 3 by omega) with rfl | rfl | rfl | rfl <;> rfl
theorem cl_put (K : Nat → Nat) (lev i : Nat) {q : Nat} (h : qt4 (K i) lev = q) : (cl K lev i).set q (.int .i64 ((cp K lev q 0 i : Int) + 1)) = cl K lev (i + 1) := by
  have hq : q < 4 := by rw [← h]; exact qt4_lt _ _
  have h0 : qt4 (K (0 + i)) lev = q := by rw [Nat.zero_add]; exact h
  have y : ∀ p, qt4 (K (0 + i)) lev = p → ((cp K lev p 0 (i + 1) : Nat) : Int) = (cp K lev p 0 i : Int) + 1 := fun p hp => by rw [cp_yes hp]; omega
  have n : ∀ p, p ≠ q → cp K lev p 0 (i + 1) = cp K lev p 0 i := fun p hp => cp_no (by rw [h0]; exact fun e => hp e.symm)
  unfold cl
  rcases (show q = 0 ∨ q = 1 ∨ q = 2 ∨ q = 3 by omega) with rfl | rfl | rfl | rfl
  · rw [y 0 h0, n 1 (by decide), n 2 (by decide), n 3 (by decide)]; rfl
  · rw [y 1 h0, n 0 (by decide), n 2 (by decide), n 3 (by decide)]; rfl
  · rw [y 2 h0, n 0 (by decide), n 1 (by decide), n 3 (by decide)]; rfl
  · rw [y 3 h0, n 0 (by decide), n 1 (by decide), n 2 (by decide)]; rfl
set_option maxRecDepth 20000 in
set_option maxHeartbeats 8000000 in
theorem counts_any (K : Nat → Nat) (lev : Nat) (hl : lev < 32) (B o n c : Nat) (hn : n ≤ 68719476736) (h64 : ∀ j, j < n → K j < 18446744073709551616) (w : World) (hB : B < w.heap.size)
    (hS : ∀ j, j < n → w.cell? ⟨B, o + j * 2, none⟩ = some (.int .u64 (K j : Int)) ∧ ∃ i : Int, w.cell? ⟨B, o + j * 2 + 1, none⟩ = some (.int .i64 i)) :
    Calls Try.prog 30 #[.slice (some ⟨B, o, none⟩) n c, .int .i64 ((62 - 2 * lev : Nat) : Int)] w fun e w' => e = .returned (.agg (cl K lev n).toArray) ∧ Below w.heap.size w w' := by
  have HN := Lib.hid hn; have H64 := Lib.hid h64; have HBw := Lib.hid hB; have HS := Lib.hid hS
  obtain ⟨j1, hj⟩ : ∃ j1, j1 = 62 - 2 * lev := ⟨_, rfl⟩
  have r1 : (j1 : Int) < 64 := by omega
  have r2 : ¬ (j1 : Int) < 0 := by omega
  have HJ := Lib.hid hj
  rw [← hj]
  have HC0 : Hid (cl K lev 0 = [.int .i64 0, .int .i64 0, .int .i64 0, .int .i64 0]) := rfl
  clear hn h64 hB hS hl hj
  go_enter Try.func30, Try.ntmps30
  go_wp2_with fail
  go_loopg [10] n (fun k iv wr => ∃ i : Nat, i + k = n ∧ iv = .int .i64 (i : Int) ∧ Bx 38 wr w.heap.size [.int .i64 0, .int .i64 0, .int .i64 0, .int .i64 0] ∧ Bx 38 wr (w.heap.size + 1) (cl K lev i) ∧ Below w.heap.size w wr)
  case atStart =>
    refine ⟨0, by omega, rfl, ?_, ?_, bb⟩
    · exact (Bx.new w 38 #[.int .i64 0, .int .i64 0, .int .i64 0, .int .i64 0]).alloc _
    · rw [HC0.out]
      have k := Bx.new (w.alloc (.cells #[.int .i64 0, .int .i64 0, .int .i64 0, .int .i64 0] 38)) 38 #[.int .i64 0, .int .i64 0, .int .i64 0, .int .i64 0]
      simp only [World.size_alloc] at k
      exact k
  case round =>
    obtain ⟨i, hk, rfl, q0, q1, hbl⟩ := hrel
    have Q0 := Lib.hid q0; have Q1 := Lib.hid q1; have HB := Lib.hid hbl
    have z0 := q0.lt; have z1 := q1.lt
    clear q0 q1 hbl
    by_cases hlt : i < n
    · obtain ⟨c0, iv, c1⟩ := HS.out i hlt
      have d0 := (HB.out.cell (p := ⟨B, o + i * 2, none⟩) HBw.out).trans c0
      have d1 := (HB.out.cell (p := ⟨B, o + i * 2 + 1, none⟩) HBw.out).trans c1
      have hx := H64.out i hlt
      have hb : B < wr.heap.size := Nat.lt_of_lt_of_le HBw.out HB.out.size
      have hi : (i : Int) < (n : Int) := by omega
      have h0 : (0 : Int) ≤ (i : Int) := by omega
      have wi : IntKind.i64.wrap ((i : Int) + 1) = (i : Int) + 1 := by rw [IntWalk.i64_in _ (by have := HN.out; omega)]
      obtain ⟨q, hq⟩ : ∃ q, q = qt4 (K i) lev := ⟨_, rfl⟩
      have q4 : q < 4 := by rw [hq]; exact qt4_lt _ _
      have e1 : ((K i : Int) / 2 ^ j1) % 4 = (q : Int) := by
        rw [hq]; unfold qt4
        have e : (K i : Int) / 2 ^ j1 = ((K i / 2 ^ j1 : Nat) : Int) := by simp
        rw [e, HJ.out]; omega
      have e0 : ((K i : Int) / 2 ^ j1).tmod 4 = (q : Int) := by
        have e : (K i : Int) / 2 ^ j1 = ((K i / 2 ^ j1 : Nat) : Int) := by simp
        rw [Int.tmod_eq_emod_of_nonneg (by rw [e]; exact Int.natCast_nonneg _)]
        exact e1
      have g0 : (0 : Int) ≤ (q : Int) := by omega
      have g1 : (q : Int) < 4 := by omega
      have hc := Q1.out.cell (cl_get K lev i q4)
      have hf := Q1.out.frz
      have hcp := cp_le K lev q 0 i
      have wc : IntKind.i64.wrap ((cp K lev q 0 i : Int) + 1) = (cp K lev q 0 i : Int) + 1 := by rw [IntWalk.i64_in _ (by have := HN.out; omega)]
      have HQ := Lib.hid hq
      have HK : Hid (i + gk = n) := hk
      clear hk c0 c1 hx hq hcp
      generalize hcv : (cp K lev q 0 i : Int) = cv at *
      have HCV := Lib.hid hcv
      clear hcv
      go_wp2_with fail
      obtain ⟨g, rfl⟩ : ∃ g, gk = g + 1 := ⟨gk - 1, by have := HK.out; omega⟩
      go_roundg g
      case measure => omega
      case rel =>
        refine ⟨i + 1, by have := HK.out; omega, by simp, (Q0.out.far (by simp) _).alloc _, ?_, bb⟩
        have k := (Q1.out.put q (.int .i64 (cv + 1))).alloc (.cells #[.int .u64 (K i : Int), .int .i64 iv] 36)
        rw [← HCV.out, cl_put K lev i HQ.out.symm] at k
        rw [← HCV.out]; exact k
    · have hi : ¬ (i : Int) < (n : Int) := by omega
      obtain rfl : i = n := by omega
      have c0 := Q1.out.cell (cl_get K lev i (show 0 < 4 by decide)); have c1 := Q1.out.cell (cl_get K lev i (show 1 < 4 by decide))
      have c2 := Q1.out.cell (cl_get K lev i (show 2 < 4 by decide)); have c3 := Q1.out.cell (cl_get K lev i (show 3 < 4 by decide))
      have d0 := Q0.out.cell (j := 0) rfl; have d1 := Q0.out.cell (j := 1) rfl; have d2 := Q0.out.cell (j := 2) rfl; have d3 := Q0.out.cell (j := 3) rfl
      have f0 := Q0.out.frz
      have HR : Hid ((cl K lev i).toArray = #[.int .i64 (cp K lev 0 0 i : Int), .int .i64 (cp K lev 1 0 i : Int), .int .i64 (cp K lev 2 0 i : Int), .int .i64 (cp K lev 3 0 i : Int)]) := rfl
      generalize (cp K lev 0 0 i : Int) = v0 at *
      generalize (cp K lev 1 0 i : Int) = v1 at *
      generalize (cp K lev 2 0 i : Int) = v2 at *
      generalize (cp K lev 3 0 i : Int) = v3 at *
      clear hk hlt
      go_wp2_with fail
      rw [HR.out]
      refine bodyPost_ret (by simp [results, Try.results30, go_sem, *]; try rfl) rfl ?_
      exact ⟨rfl, bb⟩
/-- One of four, by its number. -/
theorem idx4 (K : Nat → Nat) (lev n : Nat) {q : Nat} (hq : q < 4) (W : World) : (Instr.index 38 (.agg (cl K lev n).toArray) (.int .i64 (q : Int))).run Try.prog W = .ok (.int .i64 (cp K lev q 0 n : Int)) W := by
  have e : ∀ v0 v1 v2 v3 : Int, (cl K lev n) = [.int .i64 v0, .int .i64 v1, .int .i64 v2, .int .i64 v3] → ∀ u, (cl K lev n)[q]? = some (.int .i64 u) → (Instr.index 38 (.agg (cl K lev n).toArray) (.int .i64 (q : Int))).run Try.prog W = .ok (.int .i64 u) W := by
    intro v0 v1 v2 v3 h u hu
    rw [h] at hu ⊢
    rcases (show q = 0 ∨ q = 1 ∨ q = 2 ∨ q = 3 by omega) with rfl | rfl | rfl | rfl
    · simp at hu; subst hu; simp [Instr.index, asIntOf, go_sem]
    · simp at hu; subst hu; simp [Instr.index, asIntOf, go_sem]
    · simp at hu; subst hu; simp [Instr.index, asIntOf, go_sem]
    · simp at hu; subst hu; simp [Instr.index, asIntOf, go_sem]
  exact e _ _ _ _ rfl _ (cl_get K lev n hq)
end Go.Proofs.Ytnedljclkhpdpaa
