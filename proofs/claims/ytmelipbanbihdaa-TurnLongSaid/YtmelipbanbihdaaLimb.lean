/- Sums, shifts, lengths, order of wide numbers: what each function of the package comes to. -/
import Derived.Test.YtmelipbanbihdaaLeaf
import Derived.Test.YtmelipbanbihdaaShift
import Derived.Handy
namespace Go.Proofs.Ytmelipbanbihdaa
open Go.RowKit

theorem ret_twob {a b a' b' : Int} {c c' : Bool} (h : a = a') (g : b = b') (k : c = c') : Ending.returned (.tuple #[.agg #[.int .u64 a, .int .u64 b], .bool c]) = .returned (.tuple #[.agg #[.int .u64 a', .int .u64 b'], .bool c']) := by rw [h, g, k]
theorem ret_agg2 {a b a' b' : Int} (h : a = a') (g : b = b') : Ending.returned (.agg #[.int .u64 a, .int .u64 b]) = .returned (.agg #[.int .u64 a', .int .u64 b']) := by rw [h, g]
theorem ret_agg4 {a b c d a' b' c' d' : Int} (h : a = a') (g : b = b') (h2 : c = c') (g2 : d = d') : Ending.returned (.agg #[.int .u64 a, .int .u64 b, .int .u64 c, .int .u64 d]) = .returned (.agg #[.int .u64 a', .int .u64 b', .int .u64 c', .int .u64 d']) := by rw [h, g, h2, g2]

theorem add_any (a1 a0 b1 b0 : Int) (ha1 : Wd a1) (ha0 : Wd a0) (hb1 : Wd b1) (hb0 : Wd b0) (w : World) :
    Calls Try.prog 61 #[.agg #[.int .u64 a1, .int .u64 a0], .agg #[.int .u64 b1, .int .u64 b0]] w fun e w' =>
      e = .returned (.tuple #[.agg #[.int .u64 (wd (v2 a1 a0 + v2 b1 b0) 1), .int .u64 (wd (v2 a1 a0 + v2 b1 b0) 0)], .bool (decide (340282366920938463463374607431768211456 ≤ v2 a1 a0 + v2 b1 b0))]) ∧ Below w.heap.size w w' := by
  have k1 := ha1.1; have k2 := ha1.2; have k3 := ha0.1; have k4 := ha0.2; have k5 := hb1.1; have k6 := hb1.2; have k7 := hb0.1; have k8 := hb0.2
  go_enter Try.func61, Try.ntmps61
  go_wp2_with (go_at_call 72; refine (addWord_any _ _ _ (by assumption) (by assumption) (by omega) (by omega) _).mono ?_; rintro e w' ⟨rfl, rfl⟩)
  go_returns
  exact ⟨ret_twob (add_hi ha1 ha0 hb1 hb0) (add_lo ha0 hb0) (add_over ha1 ha0 hb1 hb0), by go_grown⟩
theorem sub_any (a1 a0 b1 b0 : Int) (ha1 : Wd a1) (ha0 : Wd a0) (hb1 : Wd b1) (hb0 : Wd b0) (w : World) :
    Calls Try.prog 64 #[.agg #[.int .u64 a1, .int .u64 a0], .agg #[.int .u64 b1, .int .u64 b0]] w fun e w' =>
      e = .returned (.tuple #[.agg #[.int .u64 (wd (v2 a1 a0 + (340282366920938463463374607431768211456 - v2 b1 b0)) 1), .int .u64 (wd (v2 a1 a0 + (340282366920938463463374607431768211456 - v2 b1 b0)) 0)], .bool (decide (v2 a1 a0 < v2 b1 b0))]) ∧ Below w.heap.size w w' := by
  have k1 := ha1.1; have k2 := ha1.2; have k3 := ha0.1; have k4 := ha0.2; have k5 := hb1.1; have k6 := hb1.2; have k7 := hb0.1; have k8 := hb0.2
  go_enter Try.func64, Try.ntmps64
  go_wp2_with (go_at_call 73; refine (subWord_any _ _ _ (by assumption) (by assumption) (by omega) (by omega) _).mono ?_; rintro e w' ⟨rfl, rfl⟩)
  go_returns
  exact ⟨ret_twob (sub_hi ha1 ha0 hb1 hb0) (sub_lo ha0 hb1 hb0) (sub_over ha1 ha0 hb1 hb0), by go_grown⟩
theorem len_any (a3 a2 a1 a0 : Int) (h3 : Wd a3) (h2 : Wd a2) (h1 : Wd a1) (h0 : Wd a0) (w : World) :
    Calls Try.prog 74 #[.agg #[.int .u64 a3, .int .u64 a2, .int .u64 a1, .int .u64 a0]] w fun e w' =>
      e = .returned (.int .i64 ((blen (v4 a3 a2 a1 a0) : Nat) : Int)) ∧ Below w.heap.size w w' := by
  have b3 := blen_word h3; have b2 := blen_word h2; have b1 := blen_word h1
  by_cases c3 : a3 = 0
  · by_cases c2 : a2 = 0
    · by_cases c1 : a1 = 0
      · subst c3; subst c2; subst c1
        go_enter Try.func74, Try.ntmps74
        go_wp2_with (go_at_call 85; refine (lenWord_any _ (by assumption) _).mono ?_; rintro e w' ⟨rfl, rfl⟩)
        go_returns
        exact ⟨ret_int len0, by go_grown⟩
      · subst c3; subst c2
        have E := Lib.hid (len1 h1 h0 c1)
        have t1 : (a1 != 0) = true := by simpa using c1
        go_enter Try.func74, Try.ntmps74
        go_wp2_with (go_at_call 85; refine (lenWord_any _ (by assumption) _).mono ?_; rintro e w' ⟨rfl, rfl⟩)
        go_returns
        exact ⟨ret_int E.out, by go_grown⟩
    · subst c3
      have E := Lib.hid (len2 h2 h1 h0 c2)
      have t1 : (a2 != 0) = true := by simpa using c2
      go_enter Try.func74, Try.ntmps74
      go_wp2_with (go_at_call 85; refine (lenWord_any _ (by assumption) _).mono ?_; rintro e w' ⟨rfl, rfl⟩)
      go_returns
      exact ⟨ret_int E.out, by go_grown⟩
  · have E := Lib.hid (len3 h3 h2 h1 h0 c3)
    have t1 : (a3 != 0) = true := by simpa using c3
    go_enter Try.func74, Try.ntmps74
    go_wp2_with (go_at_call 85; refine (lenWord_any _ (by assumption) _).mono ?_; rintro e w' ⟨rfl, rfl⟩)
    go_returns
    exact ⟨ret_int E.out, by go_grown⟩
theorem compare_any (a b : Int) (w : World) :
    Calls Try.prog 95 #[.int .u64 a, .int .u64 b] w fun e w' => e = .returned (.int .i64 (icmp a b)) ∧ w = w' := by
  rcases (show a < b ∨ a = b ∨ b < a by omega) with h | rfl | h
  · have E : Hid (-1 = icmp a b) := by show _ = _; unfold icmp; rw [if_pos h]
    go_enter Try.func95, Try.ntmps95
    go_wp2
    go_returns
    exact ⟨ret_int E.out, rfl⟩
  · have E : Hid (0 = icmp a a) := by show _ = _; unfold icmp; simp
    go_enter Try.func95, Try.ntmps95
    go_wp2
    go_returns
    exact ⟨ret_int E.out, rfl⟩
  · have E : Hid (1 = icmp a b) := by show _ = _; unfold icmp; rw [if_neg (by omega), if_pos h]
    have hn : ¬ a < b := by omega
    go_enter Try.func95, Try.ntmps95
    go_wp2
    go_returns
    exact ⟨ret_int E.out, rfl⟩
theorem or_any (x y : Int) (B : Nat) (w : World) (hx : w.cell? ⟨B, 0, none⟩ = some (.int .i64 x)) (hy : w.cell? ⟨B, 1, none⟩ = some (.int .i64 y)) :
    Calls Try.prog 89 #[.slice (some ⟨B, 0, none⟩) 2 2] w fun e w' => e = .returned (.int .i64 (orI x y)) ∧ w = w' := by
  by_cases c : x = 0
  · by_cases d : y = 0
    · subst c; subst d
      have E : Hid (0 = orI 0 0) := by show _ = _; unfold orI; simp
      go_enter Try.func89, Try.ntmps89
      go_wp2
      go_rounds 3
      go_returns
      exact ⟨ret_int E.out, rfl⟩
    · subst c
      have E : Hid (y = orI 0 y) := by show _ = _; unfold orI; simp
      have t1 : (y != 0) = true := by simpa using d
      go_enter Try.func89, Try.ntmps89
      go_wp2
      go_rounds 3
      go_returns
      exact ⟨ret_int E.out, rfl⟩
  · have E : Hid (x = orI x y) := by show _ = _; unfold orI; simp [c]
    have t1 : (x != 0) = true := by simpa using c
    go_enter Try.func89, Try.ntmps89
    go_wp2
    go_rounds 3
    go_returns
    exact ⟨ret_int E.out, rfl⟩
theorem cmpTwo_any (a1 a0 b1 b0 : Int) (ha1 : Wd a1) (ha0 : Wd a0) (hb1 : Wd b1) (hb0 : Wd b0) (w : World) :
    Calls Try.prog 90 #[.agg #[.int .u64 a1, .int .u64 a0], .agg #[.int .u64 b1, .int .u64 b0]] w fun e w' =>
      e = .returned (.int .i64 (icmp ((v2 a1 a0 : Nat) : Int) ((v2 b1 b0 : Nat) : Int))) ∧ Below w.heap.size w w' := by
  have E := Lib.hid (icmp_two ha1 ha0 hb1 hb0)
  go_enter Try.func90, Try.ntmps90
  go_wp2
  go_region_held3 (fun w' => w'.cell? ⟨w.heap.size, 0, none⟩ = some (.int .u64 a1) ∧ w'.cell? ⟨w.heap.size, 1, none⟩ = some (.int .u64 a0) ∧ w'.cell? ⟨w.heap.size + 1, 0, none⟩ = some (.int .u64 b1) ∧ w'.cell? ⟨w.heap.size + 1, 1, none⟩ = some (.int .u64 b0)) (simp [go_sem, World.cell?_alloc_past])
    (first
      | (go_at_call 95; refine (compare_any _ _ _).mono ?_; rintro e w' ⟨rfl, rfl⟩)
      | (go_at_call 89; refine (or_any (icmp a1 b1) (icmp a0 b0) _ _ (by simp [go_sem]) (by simp [go_sem])).mono ?_; rintro e w' ⟨rfl, rfl⟩))
  rename_i hHeld
  clear hHeld
  go_wp2
  go_returns
  exact ⟨ret_int E.out, by go_grown⟩
end Go.Proofs.Ytmelipbanbihdaa
