/- A digit's value; the word that a text of digits reads as. -/
import Derived.Test.YtgiamnehncbihaaHexLeaf
import Derived.Laws.IdiomStrings
namespace Go.Proofs.Ytgiamnehncbihaa
open Go.RowKit

/-- What digit tells of a byte. -/
def digv (c : Nat) : Nat := if c ≤ 57 then (c + 18446744073709551616 - 48) % 18446744073709551616 else (c + 18446744073709551616 - 87) % 18446744073709551616
theorem digv_lt (c : Nat) : digv c < 18446744073709551616 := by unfold digv; split <;> omega


set_option maxRecDepth 20000 in
theorem digit_any (c : Nat) (hc : c < 256) (w : World) :
    Calls Try.prog 68 #[.int .u8 (c : Int)] w fun e w' => e = .returned (.int .u64 ((digv c : Nat) : Int)) ∧ Below w.heap.size w w' := by
  go_enter Try.func68, Try.ntmps68
  by_cases h : c ≤ 57
  · have h1 : (c : Int) ≤ 57 := by omega
    have e1 : IntKind.u64.wrap (c : Int) = (c : Int) := IntWalk.u64_in _ (by omega)
    have e2 : IntKind.u64.wrap ((c : Int) - 48) = ((digv c : Nat) : Int) := by
      rw [wrap_u64]; unfold digv; rw [if_pos h]; omega
    go_wp2_with fail
    go_returns
    exact ⟨rfl, Below.refl _ _⟩
  · have h1 : ¬ (c : Int) ≤ 57 := by omega
    have e1 : IntKind.u64.wrap (c : Int) = (c : Int) := IntWalk.u64_in _ (by omega)
    have e2 : IntKind.u64.wrap (IntKind.u64.wrap ((c : Int) - 97) + 10) = ((digv c : Nat) : Int) := by
      rw [wrap_u64, wrap_u64]; unfold digv; rw [if_neg h]; omega
    go_wp2_with fail
    go_returns
    exact ⟨rfl, Below.refl _ _⟩
/-- What read tells of bytes, behind a word. -/
def readw (V : Nat) : List UInt8 → Nat
  | [] => V
  | b :: bs => readw (bits .or .u64 (((V * 16 % 18446744073709551616 : Nat)) : Int) ((digv b.toNat : Nat) : Int)).toNat bs
theorem word_or (x y : Int) : Wd (bits .or .u64 x y) := by
  have h : bits .or .u64 x y = IntKind.u64.wrap (bits .or .u64 x y) := by
    simp [bits, IntKind.wrap, IntKind.bits, IntKind.signed]
  rw [h, wrap_u64]; unfold Wd; omega
set_option maxRecDepth 20000 in
set_option maxHeartbeats 1000000 in
theorem read_any (s : ByteArray) (hs : s.size ≤ maxLen) (w : World) :
    Calls Try.prog 45 #[.string s] w fun e w' => e = .returned (.int .u64 ((readw 0 s.data.toList : Nat) : Int)) ∧ Below w.heap.size w w' := by
  unfold maxLen at hs
  have KD := Lib.hid digit_any
  go_enter Try.func45, Try.ntmps45
  go_wp2_with fail
  go_loopg [3, 7] s.size (fun k vv iv wr => ∃ V i : Nat, vv = .int .u64 (V : Int) ∧ iv = .int .i64 (i : Int) ∧ i + k = s.size ∧ V < 18446744073709551616 ∧ readw 0 s.data.toList = readw V (s.data.toList.drop i) ∧ Below w.heap.size w wr)
  case atStart => exact ⟨0, 0, rfl, rfl, by omega, by decide, rfl, Below.refl _ _⟩
  case round =>
    obtain ⟨V, i, rfl, rfl, hik, hV, hr, hbl⟩ := hrel
    have HR := Lib.hid hr
    have HB := Lib.hid hbl
    clear hr hbl
    rcases gk with _ | j
    · have HE : Hid (readw 0 s.data.toList = V) := by
        show _ = _
        rw [HR.out, List.drop_of_length_le (by show s.size ≤ i; omega)]; rfl
      have h1 : ¬ (i : Int) < (s.size : Int) := by omega
      clear HR
      go_wp2_with fail
      go_returns
      exact ⟨ret_int (by rw [HE.out]), HB.out⟩
    · have hi : i < s.data.toList.length := by show i < s.size; omega
      obtain ⟨c, hc⟩ : ∃ c : UInt8, c = s.data.toList[i] := ⟨_, rfl⟩
      have hc2 : c.toNat < 256 := c.toNat_lt
      have hix : ∀ W : World, (Instr.index 9 (.string s) (.int .i64 (i : Int))).run Try.prog W = .ok (.int .u8 ((c.toNat : Nat) : Int)) W := by
        intro W
        rw [run_index_string W 9 s .i64 i (by kernel_rfl), dif_pos ⟨by omega, by omega⟩, hc]
        rfl
      have HN : Hid (readw 0 s.data.toList = readw (bits .or .u64 (((V * 16 % 18446744073709551616 : Nat)) : Int) ((digv c.toNat : Nat) : Int)).toNat (s.data.toList.drop (i + 1))) := by
        show _ = _
        rw [HR.out, List.drop_eq_getElem_cons hi, ← hc]; rfl
      have hw := word_or (((V * 16 % 18446744073709551616 : Nat)) : Int) ((digv c.toNat : Nat) : Int)
      clear HR hc hi
      obtain ⟨d, hd⟩ : ∃ d : Nat, d = digv c.toNat := ⟨_, rfl⟩
      have KC := Lib.hid (KD.out c.toNat hc2)
      rw [← hd] at HN hw KC
      generalize c.toNat = x at *
      have w16 : IntKind.u64.wrap ((V : Int) * 16) = ((V * 16 % 18446744073709551616 : Nat) : Int) := by rw [wrap_u64]; omega
      generalize V * 16 % 18446744073709551616 = U at *
      obtain ⟨T, hT⟩ := Int.eq_ofNat_of_zero_le hw.1
      have hT2 := hw.2
      rw [hT] at hT2
      have e1 : bits .or .u64 (U : Int) (d : Int) = (T : Int) := hT
      rw [hT, Int.toNat_natCast] at HN
      have w1 : IntKind.i64.wrap ((i : Int) + 1) = (i : Int) + 1 := IntWalk.i64_in _ (by omega)
      have h1 : (i : Int) < (s.size : Int) := by omega
      clear hw hT hd KD
      go_wp2_with (first
        | (go_at_call 68; (with_reducible refine (KC.out _).mono ?_); rintro e w2 ⟨rfl, hb⟩)
        | fail)
      have HB2 := Lib.hid (bl_trans HB.out hb)
      clear hb HB
      go_wp2_with fail
      go_roundg j
      case measure => omega
      case rel => exact ⟨T, i + 1, rfl, by simp, by omega, by omega, HN.out, HB2.out⟩
end Go.Proofs.Ytgiamnehncbihaa
