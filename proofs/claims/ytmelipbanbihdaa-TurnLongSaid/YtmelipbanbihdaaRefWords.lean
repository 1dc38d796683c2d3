/- The document's words, four, bit, CmpFour. -/
import Derived.Test.YtmelipbanbihdaaRefSum
import Derived.Test.YtmelipbanbihdaaRefNum
import Derived.Deep.LoopGhost
namespace Go.Proofs.Ytmelipbanbihdaa
open Go.RowKit

theorem ret_four {a b c d a' b' c' d' : Int} (h1 : a = a') (h2 : b = b') (h3 : c = c') (h4 : d = d') :
    Ending.returned (.agg #[.int .u64 a, .int .u64 b, .int .u64 c, .int .u64 d]) = .returned (.agg #[.int .u64 a', .int .u64 b', .int .u64 c', .int .u64 d']) := by rw [h1, h2, h3, h4]
/-- What the document's words leave: a slice of four new cells. -/
def Worded (a3 a2 a1 a0 : Int) (w : World) (e : Ending) (w' : World) : Prop :=
  e = .returned (.slice (some ⟨w.heap.size + 1, 0, none⟩) 4 4) ∧ Has (w.heap.size + 1) [.int .u64 a0, .int .u64 a1, .int .u64 a2, .int .u64 a3] w' ∧ Below w.heap.size w w'
theorem rwords_any (a3 a2 a1 a0 : Int) (w : World) :
    Calls Try.prog 59 #[.agg #[.int .u64 a3, .int .u64 a2, .int .u64 a1, .int .u64 a0]] w (Worded a3 a2 a1 a0 w) := by
  go_enter Try.func59, Try.ntmps59
  go_wp2_with fail
  go_returns
  exact ⟨rfl, Has.mk4 (by simp) (by simp [go_sem]) (by simp [go_sem]) (by simp [go_sem]) (by simp [go_sem]), bl_al (bl_al (Below.refl _ _) _) _⟩
theorem rfour_any (B : Nat) (a3 a2 a1 a0 : Int) (w : World) (h : Has B [.int .u64 a0, .int .u64 a1, .int .u64 a2, .int .u64 a3] w) :
    Calls Try.prog 60 #[.slice (some ⟨B, 0, none⟩) 4 4] w fun e w' => e = .returned (.agg #[.int .u64 a3, .int .u64 a2, .int .u64 a1, .int .u64 a0]) ∧ Below w.heap.size w w' := by
  have hz := h.1
  have hz1 : B < w.heap.size + 1 := by omega
  have c0 := h.2 0 _ rfl; have c1 := h.2 1 _ rfl; have c2 := h.2 2 _ rfl; have c3 := h.2 3 _ rfl
  clear h
  go_enter Try.func60, Try.ntmps60
  go_wp2_with fail
  go_region_held3 (fun w' => w'.cell? ⟨B, 0, none⟩ = some (.int .u64 a0) ∧ w'.cell? ⟨B, 1, none⟩ = some (.int .u64 a1) ∧ w'.cell? ⟨B, 2, none⟩ = some (.int .u64 a2) ∧ w'.cell? ⟨B, 3, none⟩ = some (.int .u64 a3)) (first | (simp [*, go_sem]; done) | (simp [*, go_sem, World.cell?_alloc_past]; done)) (fail)
  rename_i hHeld
  clear hHeld
  go_wp2_with fail
  refine bodyPost_ret (by simp [results, Try.results60, go_sem, *]; try rfl) rfl ?_
  exact ⟨rfl, (bl_al (Below.refl _ _) _).drew⟩
theorem four_at {a3 a2 a1 a0 : Int} (h3 : Wd a3) (h2 : Wd a2) (h1 : Wd a1) (h0 : Wd a0) {q : Nat} (hq : q < 4) :
    ([.int .u64 a0, .int .u64 a1, .int .u64 a2, .int .u64 a3] : List Value)[q]? = some (.int .u64 (wd (v4 a3 a2 a1 a0) q)) := by
  rcases (show q = 0 ∨ q = 1 ∨ q = 2 ∨ q = 3 by omega) with rfl | rfl | rfl | rfl
  · rw [wd_v4_0 h3 h2 h1 h0]; rfl
  · rw [wd_v4_1 h3 h2 h1 h0]; rfl
  · rw [wd_v4_2 h3 h2 h1 h0]; rfl
  · rw [wd_v4_3 h3 h2 h1 h0]; rfl
theorem cmp_less {A B k : Nat} (hA : A < 115792089237316195423570985008687907853269984665640564039457584007913129639936) (hB : B < 115792089237316195423570985008687907853269984665640564039457584007913129639936) (hk : k < 4) (h : ∀ j, k < j → j < 4 → wd A j = wd B j) (g : wd A k < wd B k) : A < B := by
  rcases (show k = 0 ∨ k = 1 ∨ k = 2 ∨ k = 3 by omega) with rfl | rfl | rfl | rfl
  · have h1 := h 1 (by decide) (by decide); have h2 := h 2 (by decide) (by decide); have h3 := h 3 (by decide) (by decide)
    rw [wd1, wd1] at h1; rw [wd2, wd2] at h2; rw [wd3, wd3] at h3; rw [wd0, wd0] at g; omega
  · have h2 := h 2 (by decide) (by decide); have h3 := h 3 (by decide) (by decide)
    rw [wd2, wd2] at h2; rw [wd3, wd3] at h3; rw [wd1, wd1] at g; omega
  · have h3 := h 3 (by decide) (by decide)
    rw [wd3, wd3] at h3; rw [wd2, wd2] at g; omega
  · rw [wd3, wd3] at g; omega
theorem cmp_same {A B : Nat} (hA : A < 115792089237316195423570985008687907853269984665640564039457584007913129639936) (hB : B < 115792089237316195423570985008687907853269984665640564039457584007913129639936) (h : ∀ j, 0 ≤ j → j < 4 → wd A j = wd B j) : A = B := by
  have h0 := h 0 (by decide) (by decide); have h1 := h 1 (by decide) (by decide); have h2 := h 2 (by decide) (by decide); have h3 := h 3 (by decide) (by decide)
  rw [wd0, wd0] at h0; rw [wd1, wd1] at h1; rw [wd2, wd2] at h2; rw [wd3, wd3] at h3; omega
set_option maxHeartbeats 4000000 in
theorem rcmp_any (a3 a2 a1 a0 b3 b2 b1 b0 : Int) (h3 : Wd a3) (h2 : Wd a2) (h1 : Wd a1) (h0 : Wd a0) (k3 : Wd b3) (k2 : Wd b2) (k1 : Wd b1) (k0 : Wd b0) (w : World) :
    Calls Try.prog 71 #[.agg #[.int .u64 a3, .int .u64 a2, .int .u64 a1, .int .u64 a0], .agg #[.int .u64 b3, .int .u64 b2, .int .u64 b1, .int .u64 b0]] w fun e w' =>
      e = .returned (.int .i64 (icmp ((v4 a3 a2 a1 a0 : Nat) : Int) ((v4 b3 b2 b1 b0 : Nat) : Int))) ∧ Below w.heap.size w w' := by
  have HA := Lib.hid (v4_lt h3 h2 h1 h0)
  have HB := Lib.hid (v4_lt k3 k2 k1 k0)
  have FA : Hid (∀ q, q < 4 → ([.int .u64 a0, .int .u64 a1, .int .u64 a2, .int .u64 a3] : List Value)[q]? = some (.int .u64 (wd (v4 a3 a2 a1 a0) q))) := fun q hq => four_at h3 h2 h1 h0 hq
  have FB : Hid (∀ q, q < 4 → ([.int .u64 b0, .int .u64 b1, .int .u64 b2, .int .u64 b3] : List Value)[q]? = some (.int .u64 (wd (v4 b3 b2 b1 b0) q))) := fun q hq => four_at k3 k2 k1 k0 hq
  clear h3 h2 h1 h0 k3 k2 k1 k0
  generalize v4 a3 a2 a1 a0 = A at *
  generalize v4 b3 b2 b1 b0 = B at *
  go_enter Try.func71, Try.ntmps71
  go_wp2_with fail
  go_region_held3 (fun w' => w'.cell? ⟨w.heap.size, 0, none⟩ = some (.int .u64 a3) ∧ w'.cell? ⟨w.heap.size, 1, none⟩ = some (.int .u64 a2) ∧ w'.cell? ⟨w.heap.size, 2, none⟩ = some (.int .u64 a1) ∧ w'.cell? ⟨w.heap.size, 3, none⟩ = some (.int .u64 a0) ∧ w'.cell? ⟨w.heap.size + 1, 0, none⟩ = some (.int .u64 b3) ∧ w'.cell? ⟨w.heap.size + 1, 1, none⟩ = some (.int .u64 b2) ∧ w'.cell? ⟨w.heap.size + 1, 2, none⟩ = some (.int .u64 b1) ∧ w'.cell? ⟨w.heap.size + 1, 3, none⟩ = some (.int .u64 b0)) (first | (simp [*, go_sem]; done) | (simp [*, go_sem, World.cell?_alloc_past]; done))
    (first
      | (go_at_call 59; (with_reducible refine (rwords_any a3 a2 a1 a0 _).mono ?_); rintro e w1 ⟨rfl, hH, hb⟩; obtain ⟨hcl1, hfr1⟩ := bcell hb; have z1 : w.heap.size < w1.heap.size := (by have hz := hb.size; simp at hz; omega); have y1 : w.heap.size + 1 < w1.heap.size := (by have hz := hb.size; simp at hz; omega); have HX := Lib.hid hH; have HB1 : Hid (Below w.heap.size w w1) := (bl_trans (by repeat (first | with_reducible exact Below.refl _ _ | with_reducible exact Hid.out (by assumption) | with_reducible refine bl_al ?_ _ | with_reducible apply Below.drew)) hb); clear hb hH)
      | (go_at_call 59; (with_reducible refine (rwords_any b3 b2 b1 b0 _).mono ?_); rintro e w2 ⟨rfl, hH, hb⟩; obtain ⟨hcl2, hfr2⟩ := bcell hb; have z2 : w.heap.size < w2.heap.size := (by have hz := hb.size; omega); have y2 : w.heap.size + 1 < w2.heap.size := (by have hz := hb.size; omega); have HX2 := Lib.hid (HX.out.step hb); have HY := Lib.hid hH; have HB2 : Hid (Below w.heap.size w w2) := (bl_trans HB1.out hb); clear hb hH))
  rename_i hHeld
  clear hHeld
  go_wp2_with fail
  have gx : Has (w.heap.size + 1 + 1 + 1) [.int .u64 a0, .int .u64 a1, .int .u64 a2, .int .u64 a3] w2 := by have := HX2.out; simpa using this
  have GX := Lib.hid gx
  clear hcl1 hfr1 z1 y1 HX HB1 hcl2 hfr2 z2 y2 HX2 gx
  generalize w.heap.size + 1 + 1 + 1 = X at *
  generalize w1.heap.size + 1 = Y at *
  have g0 : Has X [.int .u64 a0, .int .u64 a1, .int .u64 a2, .int .u64 a3] w2 ∧ Has Y [.int .u64 b0, .int .u64 b1, .int .u64 b2, .int .u64 b3] w2 ∧ Below w.heap.size w w2 := ⟨GX.out, HY.out, HB2.out⟩
  have G0 := Lib.hid g0
  clear g0 GX HY HB2
  go_loopg [7] 4 (fun k iv wr => k ≤ 4 ∧ iv = .int .i64 ((k : Int) - 1) ∧ (∀ j, k ≤ j → j < 4 → wd A j = wd B j) ∧ Has X [.int .u64 a0, .int .u64 a1, .int .u64 a2, .int .u64 a3] wr ∧ Has Y [.int .u64 b0, .int .u64 b1, .int .u64 b2, .int .u64 b3] wr ∧ Below w.heap.size w wr)
  case atStart => exact ⟨Nat.le_refl _, rfl, fun j h1 h2 => absurd h2 (by omega), G0.out⟩
  case round =>
    obtain ⟨hk, rfl, he, hX, hY, hbl⟩ := hrel
    clear G0
    have HE := Lib.hid he
    have HBL := Lib.hid hbl
    clear he hbl
    rcases gk with _ | k
    · have hs := cmp_same HA.out HB.out HE.out
      have E : Hid (icmp (A : Int) (B : Int) = 0) := by show _ = _; rw [hs]; unfold icmp; simp
      clear HE hX hY HA HB FA FB hs
      go_wp2_with fail
      go_returns
      exact ⟨ret_int E.out.symm, HBL.out⟩
    · have cx := hX.2 k _ (FA.out k (by omega))
      have cy := hY.2 k _ (FB.out k (by omega))
      have HX := Lib.hid hX; have HY := Lib.hid hY
      have k1 : ((k + 1 : Nat) : Int) - 1 = (k : Int) := by omega
      have k4 : (k : Int) < 4 := by omega
      have wk : IntKind.i64.wrap ((k : Int) - 1) = (k : Int) - 1 := IntWalk.i64_in _ (by omega)
      rw [k1]
      have Hlt : Hid (wd A k < wd B k → icmp (A : Int) (B : Int) = -1) := fun g => by
        have := cmp_less HA.out HB.out (by omega) (fun j h1 h2 => HE.out j (by omega) h2) g
        unfold icmp; rw [if_pos (by omega)]
      have Hgt : Hid (wd B k < wd A k → icmp (A : Int) (B : Int) = 1) := fun g => by
        have := cmp_less HB.out HA.out (by omega) (fun j h1 h2 => (HE.out j (by omega) h2).symm) g
        unfold icmp; rw [if_neg (by omega), if_pos (by omega)]
      have Heq : Hid (wd A k = wd B k → ∀ j, k ≤ j → j < 4 → wd A j = wd B j) := fun g j h1 h2 => by
        rcases Nat.lt_or_ge k j with h | h
        · exact HE.out j (by omega) h2
        · rw [show j = k by omega]; exact g
      clear HA HB FA FB hX hY HE k1
      generalize hxx : wd A k = x at *
      generalize hyy : wd B k = y at *
      clear hxx hyy
      rcases Int.lt_trichotomy x y with h | h | h
      · have E := Lib.hid (Hlt.out h)
        clear Hlt Hgt Heq
        go_wp2_with fail
        go_region_held3 (fun w' => w'.cell? ⟨X, k, none⟩ = some (.int .u64 x) ∧ w'.cell? ⟨Y, k, none⟩ = some (.int .u64 y)) (first | (simp [*, go_sem]; done)) (fail)
        rename_i hHeld
        clear hHeld
        go_wp2_with fail
        go_returns
        exact ⟨ret_int E.out.symm, HBL.out.drew⟩
      · have HE := Lib.hid (Heq.out h)
        clear Hlt Hgt Heq
        subst h
        go_wp2_with fail
        go_region_held3 (fun w' => w'.cell? ⟨X, k, none⟩ = some (.int .u64 x) ∧ w'.cell? ⟨Y, k, none⟩ = some (.int .u64 x)) (first | (simp [*, go_sem]; done)) (fail)
        rename_i hHeld
        clear hHeld
        go_wp2_with fail
        go_region_held3 (fun w' => w'.cell? ⟨X, k, none⟩ = some (.int .u64 x) ∧ w'.cell? ⟨Y, k, none⟩ = some (.int .u64 x)) (first | (simp [*, go_sem]; done)) (fail)
        rename_i hHeld
        clear hHeld
        go_wp2_with fail
        go_roundg k
        case measure => omega
        case rel => exact ⟨by omega, rfl, HE.out, HX.out.step (Below.refl _ _).drew.drew, HY.out.step (Below.refl _ _).drew.drew, HBL.out.drew.drew⟩
      · have E := Lib.hid (Hgt.out h)
        have h2 : ¬ x < y := by omega
        clear Hlt Hgt Heq
        go_wp2_with fail
        go_region_held3 (fun w' => w'.cell? ⟨X, k, none⟩ = some (.int .u64 x) ∧ w'.cell? ⟨Y, k, none⟩ = some (.int .u64 y)) (first | (simp [*, go_sem]; done)) (fail)
        rename_i hHeld
        clear hHeld
        go_wp2_with fail
        go_region_held3 (fun w' => w'.cell? ⟨X, k, none⟩ = some (.int .u64 x) ∧ w'.cell? ⟨Y, k, none⟩ = some (.int .u64 y)) (first | (simp [*, go_sem]; done)) (fail)
        rename_i hHeld
        clear hHeld
        go_wp2_with fail
        go_returns
        exact ⟨ret_int E.out.symm, HBL.out.drew.drew⟩
end Go.Proofs.Ytmelipbanbihdaa
