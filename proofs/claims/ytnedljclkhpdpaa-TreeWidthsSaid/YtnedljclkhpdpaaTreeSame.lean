/- The document's SameNodes. -/
import Derived.Test.YtnedljclkhpdpaaTreeBld
import Derived.ChangeKeysEq
namespace Go.Proofs.Ytnedljclkhpdpaa
open Go.RowKit
theorem nd_cells : Try.prog.cellsOf 40 = 8 := by kernel_rfl
def agn (x : Nd) : Value := .agg #[.int .i64 (x.lev : Int), .int .u64 (x.key : Int), .int .i64 (x.fr : Int), .int .i64 (x.to : Int), .int .i64 (x.kid 0), .int .i64 (x.kid 1), .int .i64 (x.kid 2), .int .i64 (x.kid 3)]
theorem eq4 (d : Nat) (a b c e : Int) (W : World) : (Op.equalIn (d + 1 + 1) 38 (.agg #[.int .i64 a, .int .i64 b, .int .i64 c, .int .i64 e]) (.agg #[.int .i64 a, .int .i64 b, .int .i64 c, .int .i64 e])).run Try.prog W = .ok true W := by
  obtain ⟨i, hi⟩ := Option.isSome_iff_exists.1 (show (Try.prog.info? 3).isSome = true by kernel_rfl)
  have hc : Try.prog.cellsOf 3 = 1 := by kernel_rfl
  rw [run_equalIn_array W (d + 1) _ _ (show Try.prog.underlying 38 = some (.array 4 3) by kernel_rfl) hi, hc]
  simp [Op.eqItems, List.range, List.range.loop, go_sem]
theorem ne_nd_false (a b c d e f g h : Int) (W : World) : (Go.binOp .neq 40 (.agg #[.int .i64 a, .int .u64 b, .int .i64 c, .int .i64 d, .int .i64 e, .int .i64 f, .int .i64 g, .int .i64 h]) (.agg #[.int .i64 a, .int .u64 b, .int .i64 c, .int .i64 d, .int .i64 e, .int .i64 f, .int .i64 g, .int .i64 h])).run Try.prog W = .ok (.bool false) W := by
  have h := eq4 9997 e f g h W
  simp only [Nat.reduceAdd] at h
  simp [go_sem, h]
/-- A node's eight cells in a slice. -/
def Cs (w : World) (G o : Nat) (x : Nd) : Prop :=
  w.cell? ⟨G, o, none⟩ = some (.int .i64 (x.lev : Int)) ∧ w.cell? ⟨G, o + 1, none⟩ = some (.int .u64 (x.key : Int)) ∧ w.cell? ⟨G, o + 2, none⟩ = some (.int .i64 (x.fr : Int)) ∧ w.cell? ⟨G, o + 3, none⟩ = some (.int .i64 (x.to : Int)) ∧
  w.cell? ⟨G, o + 4, none⟩ = some (.int .i64 (x.kid 0)) ∧ w.cell? ⟨G, o + 5, none⟩ = some (.int .i64 (x.kid 1)) ∧ w.cell? ⟨G, o + 6, none⟩ = some (.int .i64 (x.kid 2)) ∧ w.cell? ⟨G, o + 7, none⟩ = some (.int .i64 (x.kid 3))
theorem nodes_at {w : World} {A : Option Addr} {n : Nat} {L : List Nd} (h : S0 8 w A n (L.map ndc)) {j : Nat} (hj : j < n) :
    ∃ G o x, A = some ⟨G, o, none⟩ ∧ G < w.heap.size ∧ L[j]? = some x ∧ Cs w G (o + j * 8) x := by
  obtain ⟨x, hx⟩ : ∃ x, L[j]? = some x := by
    have hl : L.length = n := by have := h.1; rwa [List.length_map] at this
    exact ⟨_, List.getElem?_eq_getElem (by omega)⟩
  have hm : (L.map ndc)[j]? = some (ndc x) := by rw [List.getElem?_map, hx]; rfl
  obtain ⟨B, o, e, hb, hc⟩ := h.at_ hm
  exact ⟨B, o, x, e, hb, hx, hc 0 _ rfl, hc 1 _ rfl, hc 2 _ rfl, hc 3 _ rfl, hc 4 _ rfl, hc 5 _ rfl, hc 6 _ rfl, hc 7 _ rfl⟩
set_option maxRecDepth 20000 in
set_option maxHeartbeats 8000000 in
theorem samenodes_any (A B : Option Addr) (n c d : Nat) (L : List Nd) (hn : n < 9223372036854775807) (w : World) (hL : S0 8 w A n (L.map ndc)) (hM : S0 8 w B n (L.map ndc)) :
    Calls Try.prog 11 #[.slice A n c, .slice B n d] w fun e w' => e = .returned (.bool true) ∧ Below w.heap.size w w' := by
  have HL := Lib.hid hL; clear hL
  have HM := Lib.hid hM; clear hM
  have HN := Lib.hid hn; clear hn
  have hne := ne_nd_false
  have cv := nd_cells
  go_enter Try.func11, Try.ntmps11
  go_wp2_with fail
  go_loopg [5] n (fun k iv wr => ∃ i : Nat, i + k = n ∧ iv = .int .i64 (i : Int) ∧ Below w.heap.size w wr)
  case atStart => exact ⟨0, by omega, rfl, Below.refl _ _⟩
  case round =>
    obtain ⟨i, hk, rfl, hbl⟩ := hrel
    have HB := Lib.hid hbl
    have h9 := HN.out
    clear hbl
    by_cases hlt : i < n
    · obtain ⟨G, o, x, rfl, hb, hx, a0, a1, a2, a3, a4, a5, a6, a7⟩ := nodes_at (HL.out.below HB.out) (j := i) hlt
      obtain ⟨E, q, y, rfl, hb', hy, d0, d1, d2, d3, d4, d5, d6, d7⟩ := nodes_at (HM.out.below HB.out) (j := i) hlt
      obtain rfl : x = y := by rw [hx] at hy; injection hy
      have hi : (i : Int) < (n : Int) := by omega
      have h0 : (0 : Int) ≤ (i : Int) := by omega
      have wi : IntKind.i64.wrap ((i : Int) + 1) = (i : Int) + 1 := by rw [IntWalk.i64_in _ (by omega)]
      have HK : Hid (i + gk = n) := hk
      clear hx hy hk h9
      obtain ⟨xl, xk, xf, xt, kid⟩ := x
      dsimp only at *
      generalize (xl : Int) = z0 at *
      generalize (xk : Int) = z1 at *
      generalize (xf : Int) = z2 at *
      generalize (xt : Int) = z3 at *
      generalize kid 0 = z4 at *
      generalize kid 1 = z5 at *
      generalize kid 2 = z6 at *
      generalize kid 3 = z7 at *
      go_upto_region 6 with fail
      go_region_held3 (fun w' => (w'.cell? ⟨G, o + i * 8, none⟩ = some (.int .i64 z0) ∧ w'.cell? ⟨G, o + i * 8 + 1, none⟩ = some (.int .u64 z1) ∧ w'.cell? ⟨G, o + i * 8 + 2, none⟩ = some (.int .i64 z2) ∧ w'.cell? ⟨G, o + i * 8 + 3, none⟩ = some (.int .i64 z3) ∧ w'.cell? ⟨G, o + i * 8 + 4, none⟩ = some (.int .i64 z4) ∧ w'.cell? ⟨G, o + i * 8 + 5, none⟩ = some (.int .i64 z5) ∧ w'.cell? ⟨G, o + i * 8 + 6, none⟩ = some (.int .i64 z6) ∧ w'.cell? ⟨G, o + i * 8 + 7, none⟩ = some (.int .i64 z7)) ∧ (w'.cell? ⟨E, q + i * 8, none⟩ = some (.int .i64 z0) ∧ w'.cell? ⟨E, q + i * 8 + 1, none⟩ = some (.int .u64 z1) ∧ w'.cell? ⟨E, q + i * 8 + 2, none⟩ = some (.int .i64 z2) ∧ w'.cell? ⟨E, q + i * 8 + 3, none⟩ = some (.int .i64 z3) ∧ w'.cell? ⟨E, q + i * 8 + 4, none⟩ = some (.int .i64 z4) ∧ w'.cell? ⟨E, q + i * 8 + 5, none⟩ = some (.int .i64 z5) ∧ w'.cell? ⟨E, q + i * 8 + 6, none⟩ = some (.int .i64 z6) ∧ w'.cell? ⟨E, q + i * 8 + 7, none⟩ = some (.int .i64 z7))) (first | (simp [*, go_sem]; done)) (fail)
      rename_i hHeld
      clear hHeld
      go_wp2_with fail
      obtain ⟨g, rfl⟩ : ∃ g, gk = g + 1 := ⟨gk - 1, by have := HK.out; omega⟩
      go_roundg g
      case measure => omega
      case rel => exact ⟨i + 1, by have := HK.out; omega, by simp, bb⟩
    · have hi : ¬ (i : Int) < (n : Int) := by omega
      go_wp2_with fail
      go_returns
      exact ⟨rfl, bb⟩
end Go.Proofs.Ytnedljclkhpdpaa
