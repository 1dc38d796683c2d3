/- The document's hex: a word's digits, as many as it has and no fewer than asked. -/
import Derived.Test.YtgiamnehncbihaaHexNum
import Derived.Laws.Concat
import Derived.Laws.DeepStrings4
namespace Go.Proofs.Ytgiamnehncbihaa
open Go.RowKit

theorem hex_slice (x : Nat) (h : x < 16) : ∀ W : World, (Instr.slice 9 (.string ⟨#[48, 49, 50, 51, 52, 53, 54, 55, 56, 57, 97, 98, 99, 100, 101, 102]⟩) (some (.int .u64 (x : Int))) (some (.int .u64 ((x : Int) + 1))) none).run Try.prog W = .ok (.string ⟨#[hexb x]⟩) W := by
  intro W
  rcases (show x = 0 ∨ x = 1 ∨ x = 2 ∨ x = 3 ∨ x = 4 ∨ x = 5 ∨ x = 6 ∨ x = 7 ∨ x = 8 ∨ x = 9 ∨ x = 10 ∨ x = 11 ∨ x = 12 ∨ x = 13 ∨ x = 14 ∨ x = 15 by omega) with rfl | rfl | rfl | rfl | rfl | rfl | rfl | rfl | rfl | rfl | rfl | rfl | rfl | rfl | rfl | rfl
  all_goals (kernel_rfl)
theorem mk_size2 (l : List UInt8) : (⟨l.toArray⟩ : ByteArray).size = l.length := rfl
theorem hex_cat (A j x : Nat) (hx : A / 16 ^ j % 16 = x) : (⟨#[hexb x]⟩ ++ ⟨(hexB A j).toArray⟩ : ByteArray) = ⟨(hexB A (j + 1)).toArray⟩ := by
  subst hx
  rw [ByteArray.ext_iff, ByteArray.data_append]
  show [hexb (A / 16 ^ j % 16)].toArray ++ (hexB A j).toArray = (hexb (A / 16 ^ j % 16) :: hexB A j).toArray
  simp
theorem hex_first : (⟨#[48, 49, 50, 51, 52, 53, 54, 55, 56, 57, 97, 98, 99, 100, 101, 102]⟩ : ByteArray).extract (bits BinOp.and IntKind.u64 0 15).toNat (bits BinOp.and IntKind.u64 0 15 + 1).toNat = ⟨#[hexb 0]⟩ := by decide
theorem hex_add (A j : Nat) (hj : j ≤ 16) (x : Nat) (hx : A / 16 ^ j % 16 = x) : ∀ W : World, (Op.stringOp .add ⟨#[hexb x]⟩ ⟨(hexB A j).toArray⟩).run Try.prog W = .ok (.string ⟨(hexB A (j + 1)).toArray⟩) W := by
  intro W
  subst hx
  have e : (⟨(hexB A (j + 1)).toArray⟩ : ByteArray) = ⟨#[hexb (A / 16 ^ j % 16)]⟩ ++ ⟨(hexB A j).toArray⟩ := by
    rw [ByteArray.ext_iff, ByteArray.data_append]
    show (hexb (A / 16 ^ j % 16) :: hexB A j).toArray = [hexb (A / 16 ^ j % 16)].toArray ++ (hexB A j).toArray
    simp
  rw [e]
  refine run_string_add _ _ _ ?_ ?_
  · show ((1 : Nat) : Int) ≤ _; decide
  · rw [show (⟨(hexB A j).toArray⟩ : ByteArray).size = (hexB A j).length from rfl, hexB_length]; omega
set_option maxRecDepth 20000 in
set_option maxHeartbeats 4000000 in
theorem hex_any (A d e : Nat) (hA : A < 18446744073709551616) (hd : d ≤ e) (he : e ≤ 16) (h0 : A / 16 ^ e = 0) (hmin : ∀ j, j < e → A / 16 ^ j ≠ 0 ∨ j < d) (w : World) :
    Calls Try.prog 53 #[.int .u64 (A : Int), .int .i64 (d : Int)] w fun x w' => x = .returned (.string ⟨(hexB A e).toArray⟩) ∧ Below w.heap.size w w' := by
  have H0 := Lib.hid h0; have HM := Lib.hid hmin
  clear h0 hmin
  go_enter Try.func53, Try.ntmps53
  go_wp2_with fail
  go_loopg [0, 5] e (fun k nv sv wr => ∃ (j V : Nat) (S : ByteArray), j + k = e ∧ V = A / 16 ^ j ∧ S = ⟨(hexB A j).toArray⟩ ∧ nv = .int .u64 (V : Int) ∧ sv = .string S ∧ Below w.heap.size w wr)
  case atStart => exact ⟨0, A, ⟨#[]⟩, by omega, by simp, rfl, rfl, rfl, Below.refl _ _⟩
  case round =>
    obtain ⟨j, V, S, hj, hV, hS, rfl, rfl, hbl⟩ := hrel
    have HB := Lib.hid hbl
    clear hbl
    have HV := Lib.hid hV
    clear hV
    have hsz : (S.size : Int) = (j : Int) := by rw [hS, mk_size2, hexB_length]
    have HS := Lib.hid hS
    clear hS
    rcases gk with _ | i
    · have hz : V = 0 := by rw [HV.out, show j = e by omega]; exact H0.out
      subst hz
      have e1 : j = e := by omega
      subst e1
      have n1 : ¬ (j : Int) < (d : Int) := by omega
      clear HV
      go_wp2_with fail
      go_returns
      exact ⟨by rw [HS.out]; rfl, HB.out⟩
    · obtain ⟨x, hx⟩ : ∃ x, A / 16 ^ j % 16 = x := ⟨_, rfl⟩
      have hx16 : x < 16 := by omega
      have hV2 : V < 18446744073709551616 := by rw [HV.out]; exact Nat.lt_of_le_of_lt (Nat.div_le_self _ _) hA
      have eand : bits .and .u64 (V : Int) 15 = (x : Int) := by
        rw [word_15 _ ⟨by omega, by omega⟩, ← hx, ← HV.out]; omega
      have hix := hex_slice x hx16
      have had : ∀ W : World, (Op.stringOp .add ⟨#[hexb x]⟩ S).run Try.prog W = .ok (.string ⟨(hexB A (j + 1)).toArray⟩) W := by rw [HS.out]; exact hex_add A j (by omega) x hx
      have w1 : IntKind.u64.wrap ((x : Int) + 1) = (x : Int) + 1 := IntWalk.u64_in _ (by omega)
      obtain ⟨U, hU⟩ : ∃ U, U = V / 16 := ⟨_, rfl⟩
      have e16 : (V : Int) / 16 = (U : Int) := by omega
      have HU : Hid (U = A / 16 ^ (j + 1)) := by
        show _ = _
        rw [hU, HV.out, Nat.div_div_eq_div_mul, Nat.pow_succ]
      have hc := HM.out j (by omega)
      rw [← HV.out] at hc
      have HF : Hid (V = 0 → (⟨#[48, 49, 50, 51, 52, 53, 54, 55, 56, 57, 97, 98, 99, 100, 101, 102]⟩ : ByteArray).extract (bits BinOp.and IntKind.u64 0 15).toNat (bits BinOp.and IntKind.u64 0 15 + 1).toNat ++ S = ⟨(hexB A (j + 1)).toArray⟩) := by
        show _ → _
        intro hz
        rw [hex_first, HS.out]
        exact hex_cat A j 0 (by rw [← HV.out, hz])
      have HZ0 : Hid (V = 0 → U = 0) := by show _ → _; intro h; omega
      clear HM H0 HV HS hx hU
      generalize hexb x = y at *
      by_cases hv : V = 0
      · have hc2 : (j : Int) < (d : Int) := by rcases hc with h | h <;> omega
        have HG := Lib.hid (HF.out hv)
        have HZ := Lib.hid (HZ0.out hv)
        have hv1 : ¬ (0 : Int) < (V : Int) := by omega
        clear hc hv
        go_wp2_with fail
        go_roundg i
        case measure => omega
        case rel => exact ⟨j + 1, U, _, by omega, HU.out, HG.out, by rw [HZ.out]; rfl, rfl, HB.out⟩
      · have hv1 : (0 : Int) < (V : Int) := by omega
        clear hc hv
        go_wp2_with fail
        go_roundg i
        case measure => omega
        case rel => exact ⟨j + 1, U, _, by omega, HU.out, rfl, rfl, rfl, HB.out⟩
theorem hexc_least (A : Nat) : ∀ j, 0 < j → j < hexc A → 16 ^ j ≤ A := by
  induction A using Nat.strongRecOn with
  | ind A ih =>
    intro j h0 h
    rcases Nat.lt_or_ge A 16 with c | c
    · rw [hexc_1 A c] at h; omega
    · rw [hexc_16 A c] at h
      obtain ⟨i, rfl⟩ : ∃ i, j = i + 1 := ⟨j - 1, by omega⟩
      rw [Nat.pow_succ]
      rcases Nat.eq_zero_or_pos i with e | e
      · subst e; simpa using c
      · have := ih (A / 16) (by omega) i e (by omega)
        omega
theorem hex_one (A : Nat) (hA : A < 18446744073709551616) (w : World) :
    Calls Try.prog 53 #[.int .u64 (A : Int), .int .i64 1] w fun x w' => x = .returned (.string ⟨(hexB A (hexc A)).toArray⟩) ∧ Below w.heap.size w w' := by
  refine hex_any A 1 (hexc A) hA (hexc_pos A) (hexc_word hA) (Nat.div_eq_of_lt (hexc_room A)) (fun j hj => ?_) w
  rcases Nat.eq_zero_or_pos j with e | e
  · exact Or.inr (by omega)
  · refine Or.inl ?_
    have h := hexc_least A j e hj
    have hp : 0 < 16 ^ j := Nat.pow_pos (by decide)
    have := Nat.div_pos h hp
    omega
theorem hex_16 (A : Nat) (hA : A < 18446744073709551616) (w : World) :
    Calls Try.prog 53 #[.int .u64 (A : Int), .int .i64 16] w fun x w' => x = .returned (.string ⟨(hexB A 16).toArray⟩) ∧ Below w.heap.size w w' :=
  hex_any A 16 16 hA (Nat.le_refl _) (Nat.le_refl _) (Nat.div_eq_of_lt (word_16 hA)) (fun _ hj => Or.inr hj) w
end Go.Proofs.Ytgiamnehncbihaa
