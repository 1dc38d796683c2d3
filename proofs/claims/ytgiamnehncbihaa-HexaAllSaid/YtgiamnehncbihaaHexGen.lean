/- Neg and Text at every number, the least too; Parse at every string. -/
import Derived.Test.YtgiamnehncbihaaHexParse
namespace Go.Proofs.Ytgiamnehncbihaa
open Go.RowKit

/-- Turned in sign; the least of all stays. -/
def ng (x : Int) : Int := if x = -170141183460469231731687303715884105728 then x else -x
theorem ng_my {x : Int} (h : My x) : ng x = -x := by unfold ng; rw [if_neg (by unfold My at h; omega)]
theorem ng_fx {x : Int} (h : Fx x) : Fx (ng x) := by unfold ng; unfold Fx at *; split <;> omega
theorem neg_all (x : Int) (hx : Fx x) (w : World) :
    Calls Try.prog 46 #[.agg #[.int .i64 (fh x), .int .u64 (fl x)]] w fun e w' => e = .returned (.agg #[.int .i64 (fh (ng x)), .int .u64 (fl (ng x))]) ∧ Below w.heap.size w w' := by
  by_cases c : My x
  · rw [ng_my c]; exact neg_any x c w
  · have e : x = -170141183460469231731687303715884105728 := by unfold My at c; unfold Fx at hx; omega
    have e2 : ng x = x := by unfold ng; rw [if_pos e]
    rw [e2]
    have C2 := turn_any _ _ true (wd_wd (ub x) 1) (wd_wd (ub x) 0)
    rw [ub_v2, tn_true, sw_true] at C2
    have C3 := ofBits_any x (340282366920938463463374607431768211456 - ub x) hx (by unfold ub; omega)
    exact neg_core _ _ _ _ _ _ _ _ w (bits_any x) C2 C3
def txtF (x : Int) : List UInt8 := if x = -170141183460469231731687303715884105728 then [] else txt x
theorem text_all (x : Int) (hx : Fx x) (w : World) :
    Calls Try.prog 15 #[.agg #[.int .i64 (fh x), .int .u64 (fl x)]] w fun e w' => e = .returned (.string ⟨(txtF x).toArray⟩) ∧ Below w.heap.size w w' := by
  unfold txtF
  by_cases c : My x
  · rw [if_neg (by unfold My at c; omega)]; exact text_any x c w
  · rw [if_pos (by unfold My at c; unfold Fx at hx; omega)]; exact text_least x hx c w
/-- What Parse makes of bytes, ahead of its look back. -/
def pnum0 (c : List UInt8 × List UInt8 × Bool) : Int := IntKind.i64.wrap ((readw 0 c.1 : Nat) : Int) * 18446744073709551616 + ((readw 0 c.2.1 : Nat) : Int)
def pnum (s : List UInt8) : Int := if Lib.hasPrefix s [45] then ng (pnum0 (Lib.cut (Lib.trimPrefix s [45]) [46])) else pnum0 (Lib.cut (Lib.trimPrefix s [45]) [46])
theorem readw_lt (bs : List UInt8) : ∀ V, V < 18446744073709551616 → readw V bs < 18446744073709551616 := by
  induction bs with
  | nil => intro V h; exact h
  | cons b bs ih =>
    intro V h
    refine ih _ ?_
    have hw := word_or (((V * 16 % 18446744073709551616 : Nat)) : Int) ((digv b.toNat : Nat) : Int)
    unfold Wd at hw; omega
theorem i64_range (x : Int) : -9223372036854775808 ≤ IntKind.i64.wrap x ∧ IntKind.i64.wrap x < 9223372036854775808 := by
  simp [IntKind.wrap, IntKind.bits, IntKind.signed]; split <;> omega
theorem pnum0_fx (c : List UInt8 × List UInt8 × Bool) : Fx (pnum0 c) := by
  have h1 := i64_range ((readw 0 c.1 : Nat) : Int)
  have h2 := readw_lt c.2.1 0 (by decide)
  unfold pnum0 Fx; omega
theorem pnum0_h (c : List UInt8 × List UInt8 × Bool) : fh (pnum0 c) = IntKind.i64.wrap ((readw 0 c.1 : Nat) : Int) := by
  have h2 := readw_lt c.2.1 0 (by decide)
  unfold pnum0 fh; omega
theorem pnum0_l (c : List UInt8 × List UInt8 × Bool) : fl (pnum0 c) = ((readw 0 c.2.1 : Nat) : Int) := by
  have h2 := readw_lt c.2.1 0 (by decide)
  unfold pnum0 fl; omega
theorem trim_len (s p : List UInt8) : (Lib.trimPrefix s p).length ≤ s.length := by
  unfold Lib.trimPrefix; split
  · simp
  · exact Nat.le_refl _
theorem cut_len1 (s p : List UInt8) : (Lib.cut s p).1.length ≤ s.length := by
  unfold Lib.cut; split
  · simp; omega
  · exact Nat.le_refl _
theorem cut_len2 (s p : List UInt8) : (Lib.cut s p).2.1.length ≤ s.length := by
  unfold Lib.cut; split
  · simp
  · simp
theorem mk_size (l : List UInt8) : (⟨l.toArray⟩ : ByteArray).size = l.length := by
  rw [Lib.size_eq]
theorem ret_parse {a b a' b' : Int} {c c' : Bool} (h : a = a') (g : b = b') (k : c = c') : Ending.returned (.tuple #[.agg #[.int .i64 a, .int .u64 b], .bool c]) = .returned (.tuple #[.agg #[.int .i64 a', .int .u64 b'], .bool c']) := by rw [h, g, k]
/-- Parse at every string. -/
theorem parse_gen (s : ByteArray) (hs : s.size < 4294967281) (m : Int) (w : World) (hm : w.cell? ⟨0, 0, none⟩ = some (.int .i64 m)) :
    Calls Try.prog 13 #[.string s] w fun e w' => e = .returned (.tuple #[.agg #[.int .i64 (if (txtF (pnum s.data.toList) == s.data.toList) then fh (pnum s.data.toList) else 0), .int .u64 (if (txtF (pnum s.data.toList) == s.data.toList) then fl (pnum s.data.toList) else 0)], .bool (txtF (pnum s.data.toList) == s.data.toList)]) ∧ Below w.heap.size w w' := by
  obtain ⟨r, hr⟩ : ∃ r, r = Lib.trimPrefix s.data.toList [45] := ⟨_, rfl⟩
  obtain ⟨c, hc⟩ : ∃ c, c = Lib.cut r [46] := ⟨_, rfl⟩
  have lr : r.length ≤ s.size := by rw [hr, Lib.size_eq]; exact trim_len _ _
  have l1 : c.1.length ≤ r.length := by rw [hc]; exact cut_len1 _ _
  have l2 : c.2.1.length ≤ r.length := by rw [hc]; exact cut_len2 _ _
  have C1 := cutPrefix_any s ⟨#[45]⟩
  have C2 := cut_any ⟨r.toArray⟩ ⟨#[46]⟩ m (by rw [mk_size]; omega)
  have C3 := read_any ⟨c.1.toArray⟩ (by rw [mk_size]; unfold maxLen; omega)
  have C4 := read_any ⟨c.2.1.toArray⟩ (by rw [mk_size]; unfold maxLen; omega)
  rw [show (⟨#[45]⟩ : ByteArray).data.toList = [45] from rfl, ← hr] at C1
  rw [show (⟨#[46]⟩ : ByteArray).data.toList = [46] from rfl, show (⟨r.toArray⟩ : ByteArray).data.toList = r from rfl, ← hc] at C2
  rw [show (⟨c.1.toArray⟩ : ByteArray).data.toList = c.1 from rfl] at C3
  rw [show (⟨c.2.1.toArray⟩ : ByteArray).data.toList = c.2.1 from rfl] at C4
  have F := pnum0_fx c
  have fh0 := pnum0_h c
  have fl0 := pnum0_l c
  have N := neg_all _ F
  have e2 : ∀ l : List UInt8, ((⟨l.toArray⟩ : ByteArray).toList == s.toList) = (l == s.data.toList) := fun l => by rw [Lib.toList_data, Lib.toList_data]
  cases hp : Lib.hasPrefix s.data.toList [45]
  · rw [hp] at C1
    have E : pnum s.data.toList = pnum0 c := by unfold pnum; rw [hp, ← hr, ← hc]; rfl
    rw [E]
    have T := text_all _ F
    rw [fh0, fl0] at T ⊢
    exact parse_pos_core s _ _ _ _ _ _ _ _ _ _ rfl (e2 _) w hm C1 C2 C3 C4 T
  · rw [hp] at C1
    have E : pnum s.data.toList = ng (pnum0 c) := by unfold pnum; rw [hp, ← hr, ← hc]; rfl
    rw [E]
    have T := text_all _ (ng_fx F)
    rw [fh0, fl0] at N
    exact parse_neg_core s _ _ _ _ _ _ _ _ _ _ _ _ rfl (e2 _) w hm C1 C2 C3 C4 N T
end Go.Proofs.Ytgiamnehncbihaa
