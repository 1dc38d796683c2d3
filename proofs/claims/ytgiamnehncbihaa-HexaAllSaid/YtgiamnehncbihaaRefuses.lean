/- What is written in another way is no number: the walk. -/
import Derived.Test.YtgiamnehncbihaaHexBad
import Derived.Test.YtgiamnehncbihaaHexLaw
import Derived.Test.YtgiamnehncbihaaLate
import Derived.Handy
import Derived.Deep.DeepCutAuto
import Derived.Laws.Concat
import Derived.Laws.DeepStrings4
namespace Go.Proofs.Ytgiamnehncbihaa
open Go.RowKit
/-- The strings, by their number. -/
def badAt (A1 A2 A3 A4 A5 A8 A9 : ByteArray) : Nat → ByteArray
  | 0 => A1 | 1 => A2 | 2 => A3 | 3 => A4 | 4 => ⟨#[45, 48, 46, 48, 48, 48, 48, 48, 48, 48, 48, 48, 48, 48, 48, 48, 48, 48, 48]⟩ | 5 => A5 | 6 => A8 | 7 => ⟨#[]⟩ | 8 => ⟨#[45]⟩ | 9 => ⟨#[46]⟩ | 10 => A9
  | 11 => ⟨#[56, 48, 48, 48, 48, 48, 48, 48, 48, 48, 48, 48, 48, 48, 48, 48, 46, 48, 48, 48, 48, 48, 48, 48, 48, 48, 48, 48, 48, 48, 48, 48, 48]⟩ | _ => ⟨#[65, 46, 48, 48, 48, 48, 48, 48, 48, 48, 48, 48, 48, 48, 48, 48, 48, 48]⟩
theorem bad_cell (A1 A2 A3 A4 A5 A8 A9 : ByteArray) (j : Nat) (h : j < 13) : (#[Value.string A1, .string A2, .string A3, .string A4, .string ⟨#[45, 48, 46, 48, 48, 48, 48, 48, 48, 48, 48, 48, 48, 48, 48, 48, 48, 48, 48]⟩, .string A5, .string A8, .string ⟨#[]⟩, .string ⟨#[45]⟩, .string ⟨#[46]⟩, .string A9, .string ⟨#[56, 48, 48, 48, 48, 48, 48, 48, 48, 48, 48, 48, 48, 48, 48, 48, 46, 48, 48, 48, 48, 48, 48, 48, 48, 48, 48, 48, 48, 48, 48, 48, 48]⟩, .string ⟨#[65, 46, 48, 48, 48, 48, 48, 48, 48, 48, 48, 48, 48, 48, 48, 48, 48, 48]⟩] : Array Value)[j]? = some (.string (badAt A1 A2 A3 A4 A5 A8 A9 j)) := by
  rcases (show j = 0 ∨ j = 1 ∨ j = 2 ∨ j = 3 ∨ j = 4 ∨ j = 5 ∨ j = 6 ∨ j = 7 ∨ j = 8 ∨ j = 9 ∨ j = 10 ∨ j = 11 ∨ j = 12 by omega) with rfl | rfl | rfl | rfl | rfl | rfl | rfl | rfl | rfl | rfl | rfl | rfl | rfl <;> rfl
theorem bad_cell_at (A1 A2 A3 A4 A5 A8 A9 : ByteArray) (j : Nat) (h : j < 13) (W : World) (t : TypeId) : (W.alloc (.cells (#[Value.string A1, .string A2, .string A3, .string A4, .string ⟨#[45, 48, 46, 48, 48, 48, 48, 48, 48, 48, 48, 48, 48, 48, 48, 48, 48, 48, 48]⟩, .string A5, .string A8, .string ⟨#[]⟩, .string ⟨#[45]⟩, .string ⟨#[46]⟩, .string A9, .string ⟨#[56, 48, 48, 48, 48, 48, 48, 48, 48, 48, 48, 48, 48, 48, 48, 48, 46, 48, 48, 48, 48, 48, 48, 48, 48, 48, 48, 48, 48, 48, 48, 48, 48]⟩, .string ⟨#[65, 46, 48, 48, 48, 48, 48, 48, 48, 48, 48, 48, 48, 48, 48, 48, 48, 48]⟩] : Array Value) t)).drew.cell? ⟨W.heap.size, j, none⟩ = some (.string (badAt A1 A2 A3 A4 A5 A8 A9 j)) := by
  rw [← bad_cell A1 A2 A3 A4 A5 A8 A9 j h]
  exact World.cell?_alloc_mark W _ t _ j
set_option maxRecDepth 20000 in
set_option maxHeartbeats 8000000 in
theorem refuses_core (h l k : Int) (n j : Nat) (S A1 A2 A3 A4 A5 A6 A7 A8 A9 X : ByteArray) (M : Value) (hn : S.size = n) (n0 : 18 ≤ n) (n1 : n ≤ 100) (k0 : 0 ≤ k) (k1 : k < 256) (hj : k.tmod 13 = (j : Int)) (j1 : j < 13) (hX : X = badAt A1 A2 A3 A4 A5 A8 A9 j) (w : World) (hm : w.cell? ⟨0, 0, none⟩ = some M)
    (H1 : ∀ W : World, (Instr.slice 9 (.string S) none (some (.int .i64 ((n : Int) - 1))) none).run Try.prog W = .ok (.string A1) W)
    (H2 : ∀ W : World, (Op.stringOp .add ⟨#[43]⟩ S).run Try.prog W = .ok (.string A2) W) (H3 : ∀ W : World, (Op.stringOp .add ⟨#[32]⟩ S).run Try.prog W = .ok (.string A3) W) (H4 : ∀ W : World, (Op.stringOp .add S ⟨#[32]⟩).run Try.prog W = .ok (.string A4) W) (H5 : ∀ W : World, (Op.stringOp .add ⟨#[48, 120]⟩ S).run Try.prog W = .ok (.string A5) W)
    (H6 : ∀ W : World, (Instr.slice 9 (.string S) none (some (.int .i64 ((n : Int) - 17))) none).run Try.prog W = .ok (.string A6) W)
    (H7 : ∀ W : World, (Instr.slice 9 (.string S) (some (.int .i64 ((n : Int) - 16))) none none).run Try.prog W = .ok (.string A7) W)
    (H8 : ∀ W : World, (Op.stringOp .add A6 A7).run Try.prog W = .ok (.string A8) W) (H9 : ∀ W : World, (Op.stringOp .add A6 ⟨#[44, 48, 48, 48, 48, 48, 48, 48, 48, 48, 48, 48, 48, 48, 48, 48, 48]⟩).run Try.prog W = .ok (.string A9) W)
    (C1 : ∀ W, Calls Try.prog 17 #[.agg #[.int .i64 h, .int .u64 l]] W fun e w' => e = .returned (.bool true) ∧ Below W.heap.size W w')
    (C2 : ∀ W, Calls Try.prog 15 #[.agg #[.int .i64 h, .int .u64 l]] W fun e w' => e = .returned (.string S) ∧ Below W.heap.size W w')
    (C3 : ∀ W : World, W.cell? ⟨0, 0, none⟩ = some M → Calls Try.prog 13 #[.string X] W fun e w' => e = .returned (.tuple #[.agg #[.int .i64 0, .int .u64 0], .bool false]) ∧ Below W.heap.size W w')
    (C4 : ∀ W : World, W.cell? ⟨0, 0, none⟩ = some M → Calls Try.prog 12 #[] W fun e w' => e = .returned (.bool true) ∧ Below W.heap.size W w') :
    Calls Try.prog 6 #[.agg #[.int .i64 h, .int .u64 l], .int .u8 k] w fun e w' => e = .returned (.bool true) ∧ Below w.heap.size w w' := by
  have K1 := Lib.hid C1; have K2 := Lib.hid C2; have K3 := Lib.hid C3; have K4 := Lib.hid C4
  have HX := Lib.hid hX; have HM := Lib.hid hm
  clear C1 C2 C3 C4 hX
  have zm : 0 < w.heap.size := World.block_lt_of_cell? _ _ hm
  clear hm
  have s1 : (S.size : Int) = (n : Int) := by omega
  have s2 : ¬ (n : Int) < 18 := by omega
  have w1 : IntKind.i64.wrap ((n : Int) - 1) = (n : Int) - 1 := IntWalk.i64_in _ (by omega)
  have w16 : IntKind.i64.wrap ((n : Int) - 16) = (n : Int) - 16 := IntWalk.i64_in _ (by omega)
  have w17 : IntKind.i64.wrap ((n : Int) - 17) = (n : Int) - 17 := IntWalk.i64_in _ (by omega)
  clear hn
  go_enter Try.func6, Try.ntmps6
  go_wp2_with fail
  (with_reducible refine (K1.out _).mono ?_); rintro e w1 ⟨rfl, hb⟩
  obtain ⟨hcl1, hfr1⟩ := bcell hb
  have a1 : w1.cell? ⟨w.heap.size, 0, none⟩ = some (.int .i64 h) := by rw [hcl1 _ _ (by simp)]; simp [go_sem]
  have b1 : w1.cell? ⟨w.heap.size, 1, none⟩ = some (.int .u64 l) := by rw [hcl1 _ _ (by simp)]; simp [go_sem]
  have HB1 := Lib.hid (bl_trans (bl_al (Below.refl _ _) _) hb)
  clear hb hcl1 hfr1
  go_wp2_with fail
  (with_reducible refine (K2.out _).mono ?_); rintro e w2 ⟨rfl, hb⟩
  have HB2 := Lib.hid (bl_trans HB1.out hb)
  clear hb a1 b1 HB1
  go_upto_region 6 with fail
  refine wp_region_late_drew (fun _ => True) 31 (by kernel_rfl) ?_ (fun hHeld => ?_)
  · exact True.intro
  refine wpAnyK_take (i := 0) (oi := _) (v := ?_) (by simp only [List.getElem?_toArray, List.getElem?_cons_zero]; rfl) (by kernel_rfl) (by kernel_rfl) (by kernel_rfl) (by kernel_rfl) (by kernel_rfl) (by exact fun _ _ _ h => h) (Or.inl ⟨by rfl, ?_⟩) hHeld ?_
  rotate_left 1
  · (intro w hSw; clear hSw; go_simp; try with_reducible rfl)
  try simp only [Act.put, List.setIfInBounds_toArray, List.set_cons_zero, List.set_cons_succ]
  refine wpAnyK_take (i := 1) (oi := _) (v := ?_) (by simp only [List.getElem?_toArray, List.getElem?_cons_succ, List.getElem?_cons_zero]; rfl) (by kernel_rfl) (by kernel_rfl) (by kernel_rfl) (by kernel_rfl) (by kernel_rfl) (by exact fun _ _ _ h => h) (Or.inl ⟨by rfl, ?_⟩) hHeld ?_
  rotate_left 1
  · (intro w hSw; clear hSw; go_simp; try with_reducible rfl)
  try simp only [Act.put, List.setIfInBounds_toArray, List.set_cons_zero, List.set_cons_succ]
  refine wpAnyK_take (i := 2) (oi := _) (v := ?_) (by simp only [List.getElem?_toArray, List.getElem?_cons_succ, List.getElem?_cons_zero]; rfl) (by kernel_rfl) (by kernel_rfl) (by kernel_rfl) (by kernel_rfl) (by kernel_rfl) (by exact fun _ _ _ h => h) (Or.inl ⟨by rfl, ?_⟩) hHeld ?_
  rotate_left 1
  · (intro w hSw; clear hSw; go_simp; try with_reducible rfl)
  try simp only [Act.put, List.setIfInBounds_toArray, List.set_cons_zero, List.set_cons_succ]
  refine wpAnyK_take (i := 3) (oi := _) (v := ?_) (by simp only [List.getElem?_toArray, List.getElem?_cons_succ, List.getElem?_cons_zero]; rfl) (by kernel_rfl) (by kernel_rfl) (by kernel_rfl) (by kernel_rfl) (by kernel_rfl) (by exact fun _ _ _ h => h) (Or.inl ⟨by rfl, ?_⟩) hHeld ?_
  rotate_left 1
  · (intro w hSw; clear hSw; go_simp; try with_reducible rfl)
  try simp only [Act.put, List.setIfInBounds_toArray, List.set_cons_zero, List.set_cons_succ]
  refine wpAnyK_take (i := 4) (oi := _) (v := ?_) (by simp only [List.getElem?_toArray, List.getElem?_cons_succ, List.getElem?_cons_zero]; rfl) (by kernel_rfl) (by kernel_rfl) (by kernel_rfl) (by kernel_rfl) (by kernel_rfl) (by exact fun _ _ _ h => h) (Or.inl ⟨by rfl, ?_⟩) hHeld ?_
  rotate_left 1
  · (intro w hSw; clear hSw; go_simp; try with_reducible rfl)
  try simp only [Act.put, List.setIfInBounds_toArray, List.set_cons_zero, List.set_cons_succ]
  refine wpAnyK_take (i := 5) (oi := _) (v := ?_) (by simp only [List.getElem?_toArray, List.getElem?_cons_succ, List.getElem?_cons_zero]; rfl) (by kernel_rfl) (by kernel_rfl) (by kernel_rfl) (by kernel_rfl) (by kernel_rfl) (by exact fun _ _ _ h => h) (Or.inl ⟨by rfl, ?_⟩) hHeld ?_
  rotate_left 1
  · (intro w hSw; clear hSw; go_simp; try with_reducible rfl)
  try simp only [Act.put, List.setIfInBounds_toArray, List.set_cons_zero, List.set_cons_succ]
  refine wpAnyK_take (i := 6) (oi := _) (v := ?_) (by simp only [List.getElem?_toArray, List.getElem?_cons_succ, List.getElem?_cons_zero]; rfl) (by kernel_rfl) (by kernel_rfl) (by kernel_rfl) (by kernel_rfl) (by kernel_rfl) (by exact fun _ _ _ h => h) (Or.inl ⟨by rfl, ?_⟩) hHeld ?_
  rotate_left 1
  · (intro w hSw; clear hSw; go_simp; try with_reducible rfl)
  try simp only [Act.put, List.setIfInBounds_toArray, List.set_cons_zero, List.set_cons_succ]
  refine wpAnyK_take (i := 7) (oi := _) (v := ?_) (by simp only [List.getElem?_toArray, List.getElem?_cons_succ, List.getElem?_cons_zero]; rfl) (by kernel_rfl) (by kernel_rfl) (by kernel_rfl) (by kernel_rfl) (by kernel_rfl) (by exact fun _ _ _ h => h) (Or.inl ⟨by rfl, ?_⟩) hHeld ?_
  rotate_left 1
  · (intro w hSw; clear hSw; go_simp; try with_reducible rfl)
  try simp only [Act.put, List.setIfInBounds_toArray, List.set_cons_zero, List.set_cons_succ]
  refine wpAnyK_take (i := 8) (oi := _) (v := ?_) (by simp only [List.getElem?_toArray, List.getElem?_cons_succ, List.getElem?_cons_zero]; rfl) (by kernel_rfl) (by kernel_rfl) (by kernel_rfl) (by kernel_rfl) (by kernel_rfl) (by exact fun _ _ _ h => h) (Or.inl ⟨by rfl, ?_⟩) hHeld ?_
  rotate_left 1
  · (intro w hSw; clear hSw; go_simp; try with_reducible rfl)
  try simp only [Act.put, List.setIfInBounds_toArray, List.set_cons_zero, List.set_cons_succ]
  refine wpAnyK_take (i := 9) (oi := _) (v := ?_) (by simp only [List.getElem?_toArray, List.getElem?_cons_succ, List.getElem?_cons_zero]; rfl) (by kernel_rfl) (by kernel_rfl) (by kernel_rfl) (by kernel_rfl) (by kernel_rfl) (by exact fun _ _ _ h => h) (Or.inl ⟨by rfl, ?_⟩) hHeld ?_
  rotate_left 1
  · (intro w hSw; clear hSw; go_simp; try with_reducible rfl)
  try simp only [Act.put, List.setIfInBounds_toArray, List.set_cons_zero, List.set_cons_succ]
  refine wpAnyK_take (i := 10) (oi := _) (v := ?_) (by simp only [List.getElem?_toArray, List.getElem?_cons_succ, List.getElem?_cons_zero]; rfl) (by kernel_rfl) (by kernel_rfl) (by kernel_rfl) (by kernel_rfl) (by kernel_rfl) (by exact fun _ _ _ h => h) (Or.inl ⟨by rfl, ?_⟩) hHeld ?_
  rotate_left 1
  · (intro w hSw; clear hSw; go_simp; try with_reducible rfl)
  try simp only [Act.put, List.setIfInBounds_toArray, List.set_cons_zero, List.set_cons_succ]
  refine wpAnyK_take (i := 11) (oi := _) (v := ?_) (by simp only [List.getElem?_toArray, List.getElem?_cons_succ, List.getElem?_cons_zero]; rfl) (by kernel_rfl) (by kernel_rfl) (by kernel_rfl) (by kernel_rfl) (by kernel_rfl) (by exact fun _ _ _ h => h) (Or.inl ⟨by rfl, ?_⟩) hHeld ?_
  rotate_left 1
  · (intro w hSw; clear hSw; go_simp; try with_reducible rfl)
  try simp only [Act.put, List.setIfInBounds_toArray, List.set_cons_zero, List.set_cons_succ]
  refine wpAnyK_take (i := 12) (oi := _) (v := ?_) (by simp only [List.getElem?_toArray, List.getElem?_cons_succ, List.getElem?_cons_zero]; rfl) (by kernel_rfl) (by kernel_rfl) (by kernel_rfl) (by kernel_rfl) (by kernel_rfl) (by exact fun _ _ _ h => h) (Or.inl ⟨by rfl, ?_⟩) hHeld ?_
  rotate_left 1
  · (intro w hSw; clear hSw; go_simp; try with_reducible rfl)
  try simp only [Act.put, List.setIfInBounds_toArray, List.set_cons_zero, List.set_cons_succ]
  refine wpAnyK_take (i := 13) (oi := _) (v := ?_) (by simp only [List.getElem?_toArray, List.getElem?_cons_succ, List.getElem?_cons_zero]; rfl) (by kernel_rfl) (by kernel_rfl) (by kernel_rfl) (by kernel_rfl) (by kernel_rfl) (by exact fun _ _ _ h => h) (Or.inl ⟨by rfl, ?_⟩) hHeld ?_
  rotate_left 1
  · (intro w hSw; clear hSw; go_simp; try with_reducible rfl)
  try simp only [Act.put, List.setIfInBounds_toArray, List.set_cons_zero, List.set_cons_succ]
  refine wpAnyK_take (i := 14) (oi := _) (v := ?_) (by simp only [List.getElem?_toArray, List.getElem?_cons_succ, List.getElem?_cons_zero]; rfl) (by kernel_rfl) (by kernel_rfl) (by kernel_rfl) (by kernel_rfl) (by kernel_rfl) (by exact fun _ _ _ h => h) (Or.inl ⟨by rfl, ?_⟩) hHeld ?_
  rotate_left 1
  · (intro w hSw; clear hSw; go_simp; try with_reducible rfl)
  try simp only [Act.put, List.setIfInBounds_toArray, List.set_cons_zero, List.set_cons_succ]
  refine wpAnyK_take (i := 15) (oi := _) (v := ?_) (by simp only [List.getElem?_toArray, List.getElem?_cons_succ, List.getElem?_cons_zero]; rfl) (by kernel_rfl) (by kernel_rfl) (by kernel_rfl) (by kernel_rfl) (by kernel_rfl) (by exact fun _ _ _ h => h) (Or.inl ⟨by rfl, ?_⟩) hHeld ?_
  rotate_left 1
  · (intro w hSw; clear hSw; go_simp; try with_reducible rfl)
  try simp only [Act.put, List.setIfInBounds_toArray, List.set_cons_zero, List.set_cons_succ]
  refine wpAnyK_take (i := 16) (oi := _) (v := ?_) (by simp only [List.getElem?_toArray, List.getElem?_cons_succ, List.getElem?_cons_zero]; rfl) (by kernel_rfl) (by kernel_rfl) (by kernel_rfl) (by kernel_rfl) (by kernel_rfl) (by exact fun _ _ _ h => h) (Or.inl ⟨by rfl, ?_⟩) hHeld ?_
  rotate_left 1
  · (intro w hSw; clear hSw; go_simp; try with_reducible rfl)
  try simp only [Act.put, List.setIfInBounds_toArray, List.set_cons_zero, List.set_cons_succ]
  refine wpAnyK_take (i := 17) (oi := _) (v := ?_) (by simp only [List.getElem?_toArray, List.getElem?_cons_succ, List.getElem?_cons_zero]; rfl) (by kernel_rfl) (by kernel_rfl) (by kernel_rfl) (by kernel_rfl) (by kernel_rfl) (by exact fun _ _ _ h => h) (Or.inl ⟨by rfl, ?_⟩) hHeld ?_
  rotate_left 1
  · (intro w hSw; clear hSw; go_simp; try with_reducible rfl)
  try simp only [Act.put, List.setIfInBounds_toArray, List.set_cons_zero, List.set_cons_succ]
  refine wpAnyK_take (i := 18) (oi := _) (v := ?_) (by simp only [List.getElem?_toArray, List.getElem?_cons_succ, List.getElem?_cons_zero]; rfl) (by kernel_rfl) (by kernel_rfl) (by kernel_rfl) (by kernel_rfl) (by kernel_rfl) (by exact fun _ _ _ h => h) (Or.inl ⟨by rfl, ?_⟩) hHeld ?_
  rotate_left 1
  · (intro w hSw; clear hSw; go_simp; try with_reducible rfl)
  try simp only [Act.put, List.setIfInBounds_toArray, List.set_cons_zero, List.set_cons_succ]
  refine wpAnyK_take (i := 19) (oi := _) (v := ?_) (by simp only [List.getElem?_toArray, List.getElem?_cons_succ, List.getElem?_cons_zero]; rfl) (by kernel_rfl) (by kernel_rfl) (by kernel_rfl) (by kernel_rfl) (by kernel_rfl) (by exact fun _ _ _ h => h) (Or.inl ⟨by rfl, ?_⟩) hHeld ?_
  rotate_left 1
  · (intro w hSw; clear hSw; go_simp; try with_reducible rfl)
  try simp only [Act.put, List.setIfInBounds_toArray, List.set_cons_zero, List.set_cons_succ]
  refine wpAnyK_take (i := 20) (oi := _) (v := ?_) (by simp only [List.getElem?_toArray, List.getElem?_cons_succ, List.getElem?_cons_zero]; rfl) (by kernel_rfl) (by kernel_rfl) (by kernel_rfl) (by kernel_rfl) (by kernel_rfl) (by exact fun _ _ _ h => h) (Or.inl ⟨by rfl, ?_⟩) hHeld ?_
  rotate_left 1
  · (intro w hSw; clear hSw; go_simp; try with_reducible rfl)
  try simp only [Act.put, List.setIfInBounds_toArray, List.set_cons_zero, List.set_cons_succ]
  refine wpAnyK_take (i := 21) (oi := _) (v := ?_) (by simp only [List.getElem?_toArray, List.getElem?_cons_succ, List.getElem?_cons_zero]; rfl) (by kernel_rfl) (by kernel_rfl) (by kernel_rfl) (by kernel_rfl) (by kernel_rfl) (by exact fun _ _ _ h => h) (Or.inl ⟨by rfl, ?_⟩) hHeld ?_
  rotate_left 1
  · (intro w hSw; clear hSw; go_simp; try with_reducible rfl)
  try simp only [Act.put, List.setIfInBounds_toArray, List.set_cons_zero, List.set_cons_succ]
  refine wpAnyK_take (i := 22) (oi := _) (v := ?_) (by simp only [List.getElem?_toArray, List.getElem?_cons_succ, List.getElem?_cons_zero]; rfl) (by kernel_rfl) (by kernel_rfl) (by kernel_rfl) (by kernel_rfl) (by kernel_rfl) (by exact fun _ _ _ h => h) (Or.inl ⟨by rfl, ?_⟩) hHeld ?_
  rotate_left 1
  · (intro w hSw; clear hSw; go_simp; try with_reducible rfl)
  try simp only [Act.put, List.setIfInBounds_toArray, List.set_cons_zero, List.set_cons_succ]
  refine wpAnyK_take (i := 23) (oi := _) (v := ?_) (by simp only [List.getElem?_toArray, List.getElem?_cons_succ, List.getElem?_cons_zero]; rfl) (by kernel_rfl) (by kernel_rfl) (by kernel_rfl) (by kernel_rfl) (by kernel_rfl) (by exact fun _ _ _ h => h) (Or.inl ⟨by rfl, ?_⟩) hHeld ?_
  rotate_left 1
  · (intro w hSw; clear hSw; go_simp; try with_reducible rfl)
  try simp only [Act.put, List.setIfInBounds_toArray, List.set_cons_zero, List.set_cons_succ]
  refine wpAnyK_take (i := 24) (oi := _) (v := ?_) (by simp only [List.getElem?_toArray, List.getElem?_cons_succ, List.getElem?_cons_zero]; rfl) (by kernel_rfl) (by kernel_rfl) (by kernel_rfl) (by kernel_rfl) (by kernel_rfl) (by exact fun _ _ _ h => h) (Or.inl ⟨by rfl, ?_⟩) hHeld ?_
  rotate_left 1
  · (intro w hSw; clear hSw; go_simp; try with_reducible rfl)
  try simp only [Act.put, List.setIfInBounds_toArray, List.set_cons_zero, List.set_cons_succ]
  refine wpAnyK_take (i := 25) (oi := _) (v := ?_) (by simp only [List.getElem?_toArray, List.getElem?_cons_succ, List.getElem?_cons_zero]; rfl) (by kernel_rfl) (by kernel_rfl) (by kernel_rfl) (by kernel_rfl) (by kernel_rfl) (by exact fun _ _ _ h => h) (Or.inl ⟨by rfl, ?_⟩) hHeld ?_
  rotate_left 1
  · (intro w hSw; clear hSw; go_simp; try with_reducible rfl)
  try simp only [Act.put, List.setIfInBounds_toArray, List.set_cons_zero, List.set_cons_succ]
  refine wpAnyK_take (i := 26) (oi := _) (v := ?_) (by simp only [List.getElem?_toArray, List.getElem?_cons_succ, List.getElem?_cons_zero]; rfl) (by kernel_rfl) (by kernel_rfl) (by kernel_rfl) (by kernel_rfl) (by kernel_rfl) (by exact fun _ _ _ h => h) (Or.inl ⟨by rfl, ?_⟩) hHeld ?_
  rotate_left 1
  · (intro w hSw; clear hSw; go_simp; try with_reducible rfl)
  try simp only [Act.put, List.setIfInBounds_toArray, List.set_cons_zero, List.set_cons_succ]
  refine wpAnyK_take (i := 27) (oi := _) (v := ?_) (by simp only [List.getElem?_toArray, List.getElem?_cons_succ, List.getElem?_cons_zero]; rfl) (by kernel_rfl) (by kernel_rfl) (by kernel_rfl) (by kernel_rfl) (by kernel_rfl) (by exact fun _ _ _ h => h) (Or.inl ⟨by rfl, ?_⟩) hHeld ?_
  rotate_left 1
  · (intro w hSw; clear hSw; go_simp; try with_reducible rfl)
  try simp only [Act.put, List.setIfInBounds_toArray, List.set_cons_zero, List.set_cons_succ]
  refine wpAnyK_take (i := 28) (oi := _) (v := ?_) (by simp only [List.getElem?_toArray, List.getElem?_cons_succ, List.getElem?_cons_zero]; rfl) (by kernel_rfl) (by kernel_rfl) (by kernel_rfl) (by kernel_rfl) (by kernel_rfl) (by exact fun _ _ _ h => h) (Or.inl ⟨by rfl, ?_⟩) hHeld ?_
  rotate_left 1
  · (intro w hSw; clear hSw; go_simp; try with_reducible rfl)
  try simp only [Act.put, List.setIfInBounds_toArray, List.set_cons_zero, List.set_cons_succ]
  refine wpAnyK_take (i := 29) (oi := _) (v := ?_) (by simp only [List.getElem?_toArray, List.getElem?_cons_succ, List.getElem?_cons_zero]; rfl) (by kernel_rfl) (by kernel_rfl) (by kernel_rfl) (by kernel_rfl) (by kernel_rfl) (by exact fun _ _ _ h => h) (Or.inl ⟨by rfl, ?_⟩) hHeld ?_
  rotate_left 1
  · (intro w hSw; clear hSw; go_simp; try with_reducible rfl)
  try simp only [Act.put, List.setIfInBounds_toArray, List.set_cons_zero, List.set_cons_succ]
  refine wpAnyK_one (i := 30) (o := _) (by kernel_rfl) (by simp only [List.getElem?_toArray, List.getElem?_cons_succ, List.getElem?_cons_zero]; rfl) (fun K hK => ?_)
  go_simp
  refine hK.out _ _ (fun _ => True.intro) (fun hHeldN => ?_)
  replace hHeld := hHeldN (by kernel_rfl)
  clear hK K hHeldN
  try simp only [Act.put, List.setIfInBounds_toArray, List.set_cons_zero, List.set_cons_succ]
  refine wpAnyK_one (i := 31) (o := _) (by kernel_rfl) (by simp only [List.getElem?_toArray, List.getElem?_cons_succ, List.getElem?_cons_zero]; rfl) (fun K hK => ?_)
  go_simp
  refine hK.out _ _ (fun h => absurd (Eq.trans (Eq.symm h) (by kernel_rfl)) Bool.false_ne_true) (fun _ => ?_)
  clear hK K
  try simp only [Act.put, List.setIfInBounds_toArray, List.set_cons_zero, List.set_cons_succ]
  refine wpAnyK_done (by kernel_rfl) ?_ _
  clear hHeld
  go_upto_region 7 with fail
  refine name_world (P := fun W => Code.wp _ _ _ _ W) _ (fun R hR => ?_)
  have zB : w2.heap.size < R.heap.size := by rw [hR]; simp
  have cX : R.cell? ⟨w2.heap.size, j, none⟩ = some (.string X) := by rw [hR, HX.out]; exact bad_cell_at _ _ _ _ _ _ _ _ j1 _ _
  have HB3 : Hid (Below w.heap.size w R) := by rw [hR]; exact (bl_al HB2.out _).drew
  clear hR HB2 HX
  have mR : R.cell? ⟨0, 0, none⟩ = some M := by rw [(bcell HB3.out).1 _ _ zm]; exact HM.out
  have zR : 0 < R.heap.size := Nat.lt_of_lt_of_le zm HB3.out.size
  have wk : IntKind.i64.wrap k = k := IntWalk.i64_in _ (by omega)
  have j0 : (j : Int) < 13 := by omega
  go_wp2_with fail
  (with_reducible refine (K3.out _ mR).mono ?_); rintro e w4 ⟨rfl, hb⟩
  have m4 : w4.cell? ⟨0, 0, none⟩ = some M := by rw [(bcell hb).1 _ _ zR]; exact mR
  have z4 : 0 < w4.heap.size := Nat.lt_of_lt_of_le zR hb.size
  have HB4 := Lib.hid (bl_trans HB3.out hb)
  clear hb cX mR zR HB3 zB HM zm
  go_wp2_with fail
  (with_reducible refine (K4.out _ (by simp [go_sem, *])).mono ?_); rintro e w5 ⟨rfl, hb⟩
  have HB5 := Lib.hid (bl_trans (bl_al HB4.out _) hb)
  clear hb
  go_wp2_with fail
  go_returns
  exact ⟨rfl, HB5.out⟩
set_option maxRecDepth 20000 in
theorem refuses_none (h l k : Int) (M : Value) (w : World) (hm : w.cell? ⟨0, 0, none⟩ = some M)
    (C1 : ∀ W, Calls Try.prog 17 #[.agg #[.int .i64 h, .int .u64 l]] W fun e w' => e = .returned (.bool false) ∧ Below W.heap.size W w')
    (C4 : ∀ W : World, W.cell? ⟨0, 0, none⟩ = some M → Calls Try.prog 12 #[] W fun e w' => e = .returned (.bool true) ∧ Below W.heap.size W w') :
    Calls Try.prog 6 #[.agg #[.int .i64 h, .int .u64 l], .int .u8 k] w fun e w' => e = .returned (.bool true) ∧ Below w.heap.size w w' := by
  have K1 := Lib.hid C1; have K4 := Lib.hid C4
  clear C1 C4
  have zm : 0 < w.heap.size := World.block_lt_of_cell? _ _ hm
  go_enter Try.func6, Try.ntmps6
  go_wp2_with fail
  (with_reducible refine (K1.out _).mono ?_); rintro e w1 ⟨rfl, hb⟩
  have HB1 := Lib.hid (bl_trans (bl_al (Below.refl _ _) _) hb)
  clear hb
  have m1 : w1.cell? ⟨0, 0, none⟩ = some M := by rw [(bcell HB1.out).1 _ _ zm]; exact hm
  go_wp2_with fail
  (with_reducible refine (K4.out _ m1).mono ?_); rintro e w5 ⟨rfl, hb⟩
  have HB5 := Lib.hid (bl_trans HB1.out hb)
  clear hb
  go_wp2_with fail
  go_returns
  exact ⟨rfl, HB5.out⟩
theorem txt_len (x : Int) (hx : My x) : (txt x).length ≤ 34 := by
  obtain ⟨h0, h1⟩ := hx
  have ha : x.natAbs / 18446744073709551616 < 18446744073709551616 := by omega
  have hb := hexc_word ha
  by_cases c : x < 0
  · rw [txt_neg x _ _ rfl rfl c, List.length_cons, List.length_append, List.length_cons, hexB_length, hexB_length]; omega
  · rw [txt_pos x _ _ rfl rfl c, List.length_append, List.length_cons, hexB_length, hexB_length]; omega
theorem list_to (T : List UInt8) (k : Nat) : (⟨T.toArray⟩ : ByteArray).extract 0 k = ⟨(T.take k).toArray⟩ := by
  rw [Lib.extract_eq]
  simp
theorem list_from (T : List UInt8) (k : Nat) : (⟨T.toArray⟩ : ByteArray).extract k T.length = ⟨(T.drop k).toArray⟩ := by
  rw [Lib.extract_eq, List.take_of_length_le (by simp)]
theorem slice_to (T : List UInt8) (i : Int) (k : Nat) (e : i = (k : Int)) (h : k ≤ T.length) (W : World) : (Instr.slice 9 (.string ⟨T.toArray⟩) none (some (.int .i64 i)) none).run Try.prog W = .ok (.string ⟨(T.take k).toArray⟩) W := by
  subst e
  rw [run_slice_string_to_if W 9 _ _ _ Try.underlying9, if_pos ⟨by omega, by rw [mk_size]; omega⟩, Int.toNat_natCast, list_to]
theorem slice_from (T : List UInt8) (i : Int) (k : Nat) (e : i = (k : Int)) (h : k ≤ T.length) (W : World) : (Instr.slice 9 (.string ⟨T.toArray⟩) (some (.int .i64 i)) none none).run Try.prog W = .ok (.string ⟨(T.drop k).toArray⟩) W := by
  subst e
  rw [run_slice_string_from_if W 9 _ _ _ Try.underlying9, if_pos ⟨by omega, by rw [mk_size]; omega⟩, Int.toNat_natCast, mk_size, list_from]
theorem cat_lists (x y z : List UInt8) (h : x ++ y = z) (hx : x.length ≤ 100) (hy : y.length ≤ 100) (W : World) :
    (Op.stringOp .add ⟨x.toArray⟩ ⟨y.toArray⟩).run Try.prog W = .ok (.string ⟨z.toArray⟩) W := by
  subst h
  exact run_string_add_lists W x y (by omega) (by omega)
/-- The strings as lists. -/
def badL (T : List UInt8) : Nat → List UInt8
  | 0 => T.take (T.length - 1) | 1 => 43 :: T | 2 => 32 :: T | 3 => T ++ [32] | 4 => [45, 48, 46, 48, 48, 48, 48, 48, 48, 48, 48, 48, 48, 48, 48, 48, 48, 48, 48] | 5 => 48 :: 120 :: T | 6 => T.take (T.length - 17) ++ T.drop (T.length - 16) | 7 => [] | 8 => [45] | 9 => [46]
  | 10 => T.take (T.length - 17) ++ [44, 48, 48, 48, 48, 48, 48, 48, 48, 48, 48, 48, 48, 48, 48, 48, 48] | 11 => [56, 48, 48, 48, 48, 48, 48, 48, 48, 48, 48, 48, 48, 48, 48, 48, 46, 48, 48, 48, 48, 48, 48, 48, 48, 48, 48, 48, 48, 48, 48, 48, 48] | _ => [65, 46, 48, 48, 48, 48, 48, 48, 48, 48, 48, 48, 48, 48, 48, 48, 48, 48]
theorem badAt_list (T : List UInt8) (j : Nat) : badAt ⟨(T.take (T.length - 1)).toArray⟩ ⟨(43 :: T).toArray⟩ ⟨(32 :: T).toArray⟩ ⟨(T ++ [32]).toArray⟩ ⟨(48 :: 120 :: T).toArray⟩ ⟨(T.take (T.length - 17) ++ T.drop (T.length - 16)).toArray⟩ ⟨(T.take (T.length - 17) ++ [44, 48, 48, 48, 48, 48, 48, 48, 48, 48, 48, 48, 48, 48, 48, 48, 48]).toArray⟩ j = ⟨(badL T j).toArray⟩ := by
  unfold badAt badL
  split <;> rfl
theorem badL_len (T : List UInt8) (h : T.length ≤ 34) (j : Nat) : (badL T j).length ≤ 100 := by
  unfold badL
  split <;> simp <;> omega
theorem badL_no (y : Int) (hy : My y) (j : Nat) : ∀ x, My x → badL (txt y) j ≠ txt x := by
  unfold badL
  split
  · exact no_last y hy
  · exact no_byte _ 43 (by simp) (by simp)
  · exact no_byte _ 32 (by simp) (by simp)
  · exact no_byte _ 32 (by simp) (by simp)
  · exact no_minus
  · exact no_byte _ 120 (by simp) (by simp)
  · exact no_point y hy
  · exact no_nil
  · exact no_sign
  · exact no_dot
  · exact no_byte _ 44 (by simp) (by simp)
  · exact no_top
  · exact no_upper
theorem refuses_walk (x k m : Int) (w : World) (hx : Fx x) (k0 : 0 ≤ k) (k1 : k < 256) (hm : w.cell? ⟨0, 0, none⟩ = some (.int .i64 m)) :
    Calls Try.prog 6 #[.agg #[.int .i64 (fh x), .int .u64 (fl x)], .int .u8 k] w fun e w' => e = .returned (.bool true) ∧ Below w.heap.size w w' := by
  by_cases c : My x
  · obtain ⟨j, hj⟩ := Int.eq_ofNat_of_zero_le (Int.tmod_nonneg 13 k0)
    have j1 : j < 13 := by have := Int.tmod_lt_of_pos k (show (0 : Int) < 13 by decide); omega
    have hl := txt_len x c
    have hs := txt_size x c
    have hno := badL_no x c j
    have hln := badL_len (txt x) hl j
    have CT := text_any x c
    generalize txt x = T at *
    have l1 : (T.take (T.length - 17)).length ≤ 34 := by simp; omega
    have l2 : (T.drop (T.length - 16)).length ≤ 34 := by simp; omega
    exact refuses_core (fh x) (fl x) k T.length j ⟨T.toArray⟩ ⟨(T.take (T.length - 1)).toArray⟩ ⟨(43 :: T).toArray⟩ ⟨(32 :: T).toArray⟩ ⟨(T ++ [32]).toArray⟩ ⟨(48 :: 120 :: T).toArray⟩ ⟨(T.take (T.length - 17)).toArray⟩ ⟨(T.drop (T.length - 16)).toArray⟩ ⟨(T.take (T.length - 17) ++ T.drop (T.length - 16)).toArray⟩ ⟨(T.take (T.length - 17) ++ [44, 48, 48, 48, 48, 48, 48, 48, 48, 48, 48, 48, 48, 48, 48, 48, 48]).toArray⟩ ⟨(badL T j).toArray⟩ (.int .i64 m)
      (mk_size T) hs (by omega) k0 k1 hj j1 (badAt_list T j).symm w hm
      (slice_to T _ (T.length - 1) (by omega) (by omega)) (cat_lists [43] T _ rfl (by decide) (by omega)) (cat_lists [32] T _ rfl (by decide) (by omega)) (cat_lists T [32] _ rfl (by omega) (by decide)) (cat_lists [48, 120] T _ rfl (by decide) (by omega))
      (slice_to T _ (T.length - 17) (by omega) (by omega)) (slice_from T _ (T.length - 16) (by omega) (by omega)) (cat_lists _ _ _ rfl (by omega) (by omega)) (cat_lists _ _ _ rfl (by omega) (by decide))
      (rmay_true c) CT (fun W hW => parse_no _ hno (by rw [mk_size]; omega) m W hW) (fun W hW => hawake_any m W hW)
  · exact refuses_none _ _ _ _ w hm (rmay_false hx c) (fun W hW => hawake_any m W hW)
theorem hexaRefuses_holds : Rows.HexaRefusesSaid :=
  OpenClaim.holds_of_wide 6 Try.f6 rfl rfl rfl rfl rfl rfl rfl ⟨rfl, rfl, rfl, rfl, rfl⟩ rfl rfl rfl rfl rfl (by kernel_rfl) Try.func6 (by kernel_rfl)
    (of_decide_eq_true (by kernel_rfl)) (by unfold Func.isWrapper; first | (rw [if_pos (by decide +kernel)]; kernel_rfl) | (rw [if_neg (by decide +kernel)]; exact ⟨rfl, rfl⟩))
    (fun os started H enc _ => hexaRefuses_lifted refuses_walk os started H enc)
end Go.Proofs.Ytgiamnehncbihaa
