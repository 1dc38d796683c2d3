/- The document's Rising. -/
import Derived.Test.YtnedljclkhpdpaaSortMem
namespace Go.Proofs.Ytnedljclkhpdpaa
open Go.RowKit
set_option maxRecDepth 20000 in
set_option maxHeartbeats 8000000 in
theorem rrising_any (A : Option Addr) (n c : Nat) (L : List (Nat × Int)) (hn : n < 9223372036854775807) (w : World) (hL : Ks w A n L) :
    Calls Try.prog 22 #[.slice A n c] w fun e w' => e = .returned (.bool (rs L)) ∧ Below w.heap.size w w' := by
  have HL := Lib.hid hL; clear hL
  have HN := Lib.hid hn; clear hn
  go_enter Try.func22, Try.ntmps22
  go_wp2_with fail
  go_loopg [3] n (fun k iv wr => ∃ i : Nat, 1 ≤ i ∧ n ≤ i + k ∧ i + k ≤ n + 1 ∧ iv = .int .i64 (i : Int) ∧ rs (L.take i) = true ∧ Below w.heap.size w wr)
  case atStart => exact ⟨1, by omega, by omega, by omega, rfl, by cases L <;> rfl, Below.refl _ _⟩
  case round =>
    obtain ⟨i, hi1, hk, hk2, rfl, hr, hbl⟩ := hrel
    obtain ⟨j, hj⟩ : ∃ j, i = j + 1 := ⟨i - 1, by omega⟩
    have HJ := Lib.hid hj
    have HB := Lib.hid hbl
    have HR := Lib.hid hr
    have h9 := HN.out
    clear hbl hr
    by_cases hlt : i < n
    · obtain ⟨G, o, x, rfl, hb, hx, c0, _⟩ := (HL.out.below HB.out).at_ (k := j) (by omega)
      obtain ⟨G', o', y, e, _, hy, d0, _⟩ := (HL.out.below HB.out).at_ (k := i) hlt
      obtain ⟨rfl, rfl⟩ : G = G' ∧ o = o' := by simpa using e
      have hi : (i : Int) < (n : Int) := by omega
      have h0 : (0 : Int) ≤ (i : Int) := by omega
      have h1 : (0 : Int) ≤ (j : Int) := by omega
      have h2 : (j : Int) < (n : Int) := by omega
      have wi : IntKind.i64.wrap ((i : Int) + 1) = (i : Int) + 1 := by rw [IntWalk.i64_in _ (by omega)]
      have wj : IntKind.i64.wrap ((i : Int) - 1) = (j : Int) := by rw [IntWalk.i64_in _ (by omega)]; omega
      have HK : Hid (n ≤ i + gk ∧ i + gk ≤ n + 1) := ⟨hk, hk2⟩
      have HY : Hid (L[j + 1]? = some y) := by show _ = _; rw [← hj]; exact hy
      have HX := Lib.hid hx
      clear e hx hy hk hk2 h9 hj
      go_upto_region 4 with fail
      go_region_held3 (fun w' => w'.cell? ⟨G, o + j * 2, none⟩ = some (.int .u64 (x.1 : Int)) ∧ w'.cell? ⟨G, o + i * 2, none⟩ = some (.int .u64 (y.1 : Int))) (first | (simp [*, go_sem]; done)) (fail)
      rename_i hHeld
      clear hHeld
      by_cases hc : y.1 < x.1
      · have E : Hid (false = rs L) := by show _ = _; rw [rs_false HX.out HY.out (by omega)]
        go_wp2_with fail
        go_returns
        exact ⟨ret_bool E.out, bb⟩
      · go_wp2_with fail
        obtain ⟨g, rfl⟩ : ∃ g, gk = g + 1 := ⟨gk - 1, by have := HK.out; omega⟩
        go_roundg g
        case measure => omega
        case rel =>
          refine ⟨i + 1, by omega, by have := HK.out; omega, by have := HK.out; omega, by simp, ?_, bb⟩
          have q := rs_take L j x y HX.out HY.out
          have r := HR.out
          rw [HJ.out] at r ⊢
          rw [q, r, Bool.true_and, decide_eq_true_eq]; omega
    · have E : Hid (true = rs L) := by
        show _ = _
        have r := HR.out
        rw [List.take_of_length_le (by have := HL.out.1; omega)] at r
        rw [r]
      have hi : ¬ (i : Int) < (n : Int) := by omega
      go_wp2_with fail
      go_returns
      exact ⟨ret_bool E.out, bb⟩
theorem kd_cells : Try.prog.cellsOf 36 = 2 := by kernel_rfl
theorem ne_kd_false (a b : Int) (W : World) : (Go.binOp .neq 36 (.agg #[.int .u64 a, .int .i64 b]) (.agg #[.int .u64 a, .int .i64 b])).run Try.prog W = .ok (.bool false) W := by
  simp [go_sem]
end Go.Proofs.Ytnedljclkhpdpaa
