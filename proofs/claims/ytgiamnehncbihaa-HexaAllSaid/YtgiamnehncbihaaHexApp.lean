/- The digits of a word behind what stands already: what appendDigits leaves. -/
import Derived.Test.YtgiamnehncbihaaHexLeaf
namespace Go.Proofs.Ytgiamnehncbihaa
open Go.RowKit

set_option maxRecDepth 20000 in
set_option maxHeartbeats 4000000 in
theorem appendDigits_any (base m n A : Nat) (xs : List Int) (v : Value) (hA : A < 18446744073709551616) (hn : n ≤ 16) (hm : m ≤ 100) (hxs : xs.length = m) (w : World)
    (hown0 : w.ownsRow base 5 1 v m (xs.map (Value.int .u8))) (hb0 : base ≤ w.heap.size) :
    Calls Try.prog 51 #[v, .int .u64 (A : Int), .int .i64 (n : Int)] w fun e w' =>
      ∃ v', e = .returned v' ∧ w'.ownsRow base 5 1 v' (m + n) ((xs ++ hexs A n).map (Value.int .u8)) ∧ Below base w w' ∧ base ≤ w'.heap.size := by
  obtain ⟨i0, hi, hz0, hz1, hz2⟩ := info_parts Try.info_u8
  have HO := Lib.hid hown0
  have wn : IntKind.i64.wrap ((n : Int) - 1) = (n : Int) - 1 := IntWalk.i64_in _ (by omega)
  clear hown0
  go_enter Try.func51, Try.ntmps51
  go_wp2_with fail
  go_loopg [0, 7] n (fun k vr iv wr => k ≤ n ∧ iv = .int .i64 ((k : Int) - 1) ∧ ∃ ds : List Int, xs ++ hexs A n = ds ++ hexs A k ∧ ds.length + k = m + n ∧ wr.ownsRow base 5 1 vr ds.length (ds.map (Value.int .u8)) ∧ Below base w wr ∧ base ≤ wr.heap.size)
  case atStart => exact ⟨Nat.le_refl _, rfl, xs, rfl, by omega, by rw [hxs]; exact HO.out, Below.refl _ _, hb0⟩
  case round =>
    obtain ⟨hk, rfl, ds, hd, hl, hown, hbl, hbs⟩ := hrel
    clear HO wn
    have HD := Lib.hid hd
    have HBL := Lib.hid hbl
    clear hd hbl
    rcases gk with _ | j
    · have HW : Hid (wr.ownsRow base 5 1 u0 (m + n) ((xs ++ hexs A n).map (Value.int .u8))) := by
        have e := HD.out
        rw [show hexs A 0 = [] from rfl, List.append_nil] at e
        show World.ownsRow _ _ _ _ _ _ _
        rw [e, ← hl, Nat.add_zero]; exact hown
      clear hown HD
      go_wp2_with fail
      go_returns
      exact ⟨_, rfl, HW.out, HBL.out, hbs⟩
    · have k1 : ((j + 1 : Nat) : Int) - 1 = (j : Int) := by omega
      rw [k1]
      have j16 : (j : Int) < 16 := by omega
      have w1 : IntKind.i64.wrap ((j : Int) - 1) = (j : Int) - 1 := IntWalk.i64_in _ (by omega)
      obtain ⟨s, hs⟩ : ∃ s : Nat, s = 4 * j := ⟨_, rfl⟩
      have e4 : (4 : Int) * (j : Int) = (s : Int) := by omega
      have w2 : IntKind.i64.wrap (s : Int) = s := IntWalk.i64_in _ (by omega)
      have s64 : (s : Int) < 64 := by omega
      obtain ⟨x, hx⟩ : ∃ x : Nat, x = A / 16 ^ j % 16 := ⟨_, rfl⟩
      have hx16 : x < 16 := by omega
      have eand : bits .and .u64 ((A : Int) / 2 ^ s) 15 = (x : Int) := by
        rw [word_15 _ (wd_div ⟨by omega, by omega⟩ s), cast_div, hx, hs, Nat.pow_mul]
        rw [show (2 : Nat) ^ 4 = 16 by decide]
        omega
      have hix := hex_index x hx16
      have hby := hexd_byte x hx16
      have HR : Hid (xs ++ hexs A n = (ds ++ [hexd x]) ++ hexs A j) := by
        show _ = _
        rw [HD.out, List.append_assoc]
        show _ = ds ++ (hexd x :: hexs A j)
        rw [hx]; rfl
      clear HD hx hs k1
      generalize hexd x = y at *
      have y0 : 0 ≤ y := hby.1
      have y1 : y < 256 := hby.2
      clear hby
      go_wp2_with (first
        | (at_builtin; refine wpList_append_own _ rfl _ _ 34 rfl base 5 i0 (.int .u8 0) 1 1 Try.underlying34 hi hz0 hz1 hz2 rfl (by decide) _ _ _ rfl (hown.alloc _) ⟨wr.heap.size, 0, none⟩ 1 1 [.int .u8 y] rfl rfl ?c1 ?c2 ?c3 ?c4 ?c5 ?_)
        | fail)
      case c1 =>
        intro q u hq
        match q, hq with
        | 0, hq => simp at hq; subst hq; simp [Addr.add, go_sem]
      case c2 => intro u hu; simp at hu; subst hu; rfl
      case c3 => unfold maxLen; omega
      case c4 => omega
      case c5 => simp; omega
      intro v2 wz hown2 hgrow _
      have HO2 : Hid (wz.ownsRow base 5 1 v2 (ds ++ [y]).length ((ds ++ [y]).map (Value.int .u8))) := by
        show World.ownsRow _ _ _ _ _ _ _
        simpa using hown2
      have hlt := hown.lt
      have HB2 : Hid (Below base w wz) := (HBL.out.alloc hbs _).grown hgrow (by simp; omega) (fun q hq => (hlt q hq).1)
      have hs2 : base ≤ wz.heap.size := Nat.le_trans (by simp; omega) hgrow.size
      clear hown hown2 hgrow hlt hix eand
      go_wp2_with fail
      go_roundg j
      case measure => omega
      case rel => exact ⟨by omega, rfl, ds ++ [y], HR.out, by simp; omega, HO2.out, HB2.out, hs2⟩
end Go.Proofs.Ytgiamnehncbihaa
