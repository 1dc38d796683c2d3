/- awake of the law's package 3. -/
import Derived.Test.YtgiamnehncbihaaHexNum
namespace Go.Proofs.Ytgiamnehncbihaa
open Go.RowKit

/-- The text of one below nought. -/
def oneT : ByteArray := ⟨#[45, 49, 46, 48, 48, 48, 48, 48, 48, 48, 48, 48, 48, 48, 48, 48, 48, 48, 48]⟩
theorem txt_one : (⟨(txt (-18446744073709551616)).toArray⟩ : ByteArray) = oneT := by
  rw [txt_neg (-18446744073709551616) 1 0 (by decide) (by decide) (by decide)]
  rw [hexc_1 1 (by decide)]
  decide
set_option maxRecDepth 20000 in
set_option maxHeartbeats 4000000 in
theorem hawake_core (s : ByteArray) (M : Value) (w : World) (hm : w.cell? ⟨0, 0, none⟩ = some M) (hs : s = oneT)
    (C1 : ∀ W : World, W.cell? ⟨0, 0, none⟩ = some M → Calls Try.prog 13 #[.string ⟨#[45, 49, 46, 48, 48, 48, 48, 48, 48, 48, 48, 48, 48, 48, 48, 48, 48, 48, 48]⟩] W fun e w' => e = .returned (.tuple #[.agg #[.int .i64 (-1), .int .u64 0], .bool true]) ∧ Below W.heap.size W w')
    (C2 : ∀ W, Calls Try.prog 15 #[.agg #[.int .i64 (-1), .int .u64 0]] W fun e w' => e = .returned (.string s) ∧ Below W.heap.size W w') :
    Calls Try.prog 12 #[] w fun e w' => e = .returned (.bool true) ∧ Below w.heap.size w w' := by
  have es : s.toList = [45, 49, 46, 48, 48, 48, 48, 48, 48, 48, 48, 48, 48, 48, 48, 48, 48, 48, 48] := by rw [hs, Lib.toList_data]; rfl
  have K1 := Lib.hid C1; have K2 := Lib.hid C2
  clear C1 C2 hs
  have CC := K1.out w hm
  go_enter Try.func12, Try.ntmps12
  go_wp2_with fail
  (with_reducible refine CC.mono ?_); rintro e w1 ⟨rfl, hb⟩
  have HB1 := Lib.hid hb
  clear hb CC
  go_wp2_with fail
  (with_reducible refine (K2.out _).mono ?_); rintro e w2 ⟨rfl, hb⟩
  obtain ⟨hcl2, hfr2⟩ := bcell hb
  have a2 : w2.cell? ⟨w1.heap.size, 0, none⟩ = some (.int .i64 (-1)) := by rw [hcl2 _ _ (by simp)]; simp [go_sem]
  have b2 : w2.cell? ⟨w1.heap.size, 1, none⟩ = some (.int .u64 0) := by rw [hcl2 _ _ (by simp)]; simp [go_sem]
  have HB2 := Lib.hid (bl_trans (bl_al HB1.out _) hb)
  clear hb hcl2 hfr2
  go_wp2_with fail
  go_returns
  exact ⟨rfl, HB2.out⟩
theorem fx_one : fh (-18446744073709551616) = -1 ∧ fl (-18446744073709551616) = 0 := by decide
theorem my_one : My (-18446744073709551616) := by unfold My; omega
/-- Parse at a number's text. -/
theorem parse_txt (x : Int) (hx : My x) (s : ByteArray) (hs : s.data.toList = txt x) (hn : s.size < 4294967281) (m : Int) (w : World) (hm : w.cell? ⟨0, 0, none⟩ = some (.int .i64 m)) :
    Calls Try.prog 13 #[.string s] w fun e w' => e = .returned (.tuple #[.agg #[.int .i64 (fh x), .int .u64 (fl x)], .bool true]) ∧ Below w.heap.size w w' := by
  have C := parse_gen s hn m w hm
  have e := (parse_is s.data.toList).2 ⟨x, hx, hs⟩
  rw [e, if_pos rfl, if_pos rfl, hs, pnum_txt x hx] at C
  exact C
/-- Parse at what is no number's text. -/
theorem parse_no (s : ByteArray) (hs : ∀ x, My x → s.data.toList ≠ txt x) (hn : s.size < 4294967281) (m : Int) (w : World) (hm : w.cell? ⟨0, 0, none⟩ = some (.int .i64 m)) :
    Calls Try.prog 13 #[.string s] w fun e w' => e = .returned (.tuple #[.agg #[.int .i64 0, .int .u64 0], .bool false]) ∧ Below w.heap.size w w' := by
  have C := parse_gen s hn m w hm
  have e : (txtF (pnum s.data.toList) == s.data.toList) = false := by
    cases h : (txtF (pnum s.data.toList) == s.data.toList)
    · rfl
    · obtain ⟨x, hx, g⟩ := (parse_is s.data.toList).1 h
      exact absurd g (hs x hx)
  rw [e, if_neg Bool.false_ne_true, if_neg Bool.false_ne_true] at C
  exact C
theorem one_list : oneT.data.toList = txt (-18446744073709551616) := by rw [← txt_one]
theorem hawake_any (m : Int) (w : World) (hm : w.cell? ⟨0, 0, none⟩ = some (.int .i64 m)) :
    Calls Try.prog 12 #[] w fun e w' => e = .returned (.bool true) ∧ Below w.heap.size w w' := by
  have C1 : ∀ W : World, W.cell? ⟨0, 0, none⟩ = some (.int .i64 m) → Calls Try.prog 13 #[.string oneT] W fun e w' => e = .returned (.tuple #[.agg #[.int .i64 (-1), .int .u64 0], .bool true]) ∧ Below W.heap.size W w' := by
    intro W h
    have := parse_txt _ my_one oneT one_list (by decide) m W h
    rw [fx_one.1, fx_one.2] at this; exact this
  have C2 := text_any _ my_one
  rw [fx_one.1, fx_one.2] at C2
  exact hawake_core _ _ w hm txt_one C1 C2
end Go.Proofs.Ytgiamnehncbihaa
