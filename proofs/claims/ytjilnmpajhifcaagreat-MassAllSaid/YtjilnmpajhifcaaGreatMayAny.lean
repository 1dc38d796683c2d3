/- What the document's MayBody comes to, of any body of words. -/
import Derived.Test.YtjilnmpajhifcaaGreatMayBody
import Derived.Test.YtjilnmpajhifcaaGreatMayPass
import Derived.Test.YtjilnmpajhifcaaGreatZzVecA
import Derived.Test.YtjilnmpajhifcaaGreatMassOpen
namespace Go.Proofs.YtjilnmpajhifcaaGreat
open Go.RowKit
/-- What the document's Div comes to. -/
def RDivG : Prop := ∀ x y : Int, My x → My y → y ≠ 0 → ∀ W : World, Calls Tryz.prog 23 #[fxv x, fxv y] W fun e w' => e = .returned (.agg #[.int .i64 (fh (ov (divr x y))), .int .u64 (fl (ov (divr x y))), .int .i64 (oe (divr x y))]) ∧ Below W.heap.size W w'
/-- Is it slow? -/
def slo (b : Bod) : Bool := decide (oe (divr b.px b.m) = 0) && decide (oe (divr b.py b.m) = 0) && !bey (ov (divr b.px b.m)) 65536 && !bey (ov (divr b.py b.m)) 65536
theorem slow_any (CM : RCmpT) (DV : RDivG) (b : Bod) (hp : My b.px) (hq : My b.py) (hm : My b.m) (h0 : b.m ≠ 0) : ∃ z : Int, Ct 39 #[.agg (bdc b).toArray] (.agg #[.bool (slo b), .int .i64 z]) := by
  have D1 := DV b.px b.m hp hm h0
  have D2 := DV b.py b.m hq hm h0
  have P1 := bey_any CM (ov (divr b.px b.m)) 65536 (by omega)
  have P2 := bey_any CM (ov (divr b.py b.m)) 65536 (by omega)
  simp only [fxv] at D1 D2
  unfold slo
  generalize bey (ov (divr b.px b.m)) 65536 = p at *
  generalize bey (ov (divr b.py b.m)) 65536 = q at *
  by_cases e1 : oe (divr b.px b.m) = 0
  · by_cases e2 : oe (divr b.py b.m) = 0
    · rw [e1] at D1; rw [e2] at D2
      have S := speed_ok b _ _ _ _ D1 D2
      rw [e1, e2]
      cases p
      · cases q
        · exact ⟨0, fun W => slow_ok b _ _ _ _ S P1 P2 W⟩
        · exact ⟨0, fun W => slow_y b _ _ _ _ S P1 P2 W⟩
      · exact ⟨0, fun W => by simpa using slow_x b _ _ _ _ S P1 W⟩
    · rw [e1] at D1
      refine ⟨oe (divr b.py b.m), fun W => ?_⟩
      have n2 : (oe (divr b.py b.m) == 0) = false := by rw [beq_eq_false_iff_ne]; exact e2
      rw [decide_eq_false e2, Bool.and_false, Bool.false_and, Bool.false_and]
      exact slow_e b _ n2 (speed_y b _ _ _ _ _ n2 D1 D2) W
  · refine ⟨oe (divr b.px b.m), fun W => ?_⟩
    have n2 : (oe (divr b.px b.m) == 0) = false := by rw [beq_eq_false_iff_ne]; exact e1
    rw [decide_eq_false e1, Bool.false_and, Bool.false_and, Bool.false_and]
    exact slow_e b _ n2 (speed_x b _ _ _ n2 D1) W
/-- May both be? -/
def vmy (x y : Int) : Bool := decide (x ≠ -170141183460469231731687303715884105728) && decide (y ≠ -170141183460469231731687303715884105728)
/-- May it be, but for how fast it is, and its other parts? -/
def mayh (b : Bod) : Bool := decide (281474976710656 ≤ b.m ∧ b.m ≤ intr 1048576) && decide (0 ≤ b.r ∧ b.r ≤ intr 65536) && decide (0 ≤ b.fu ∧ b.fu ≤ b.m) && decide (0 ≤ b.ra ∧ b.ra ≤ intr 65536) && decide (0 ≤ b.ex ∧ b.ex ≤ intr 65536) && vmy b.x b.y && vmy b.px b.py
def mayt (b : Bod) : Bool := decide (281474976710656 ≤ b.m - b.fu) && (!bey b.x 1073741824 && !bey b.y 1073741824) && slo b && decide (0 ≤ b.th ∧ b.th ≤ 100) && decide (0 ≤ b.he ∧ b.he ≤ 65535)
/-- May a body be? -/
def mayb (b : Bod) : Bool := mayh b && mayt b
theorem fx_My {x : Int} (h : Fx x) (n : x ≠ -170141183460469231731687303715884105728) : My x := ⟨by have := h.1; omega, h.2⟩
theorem intr_m : intr 1048576 = 19342813113834066795298816 := by decide
theorem maybody_any (CM : RCmpT) (SU : RSubT) (DV : RDivG) (b : Bod) (hb : Fb b) (w : World) :
    Calls Tryz.prog 18 #[.agg (bdc b).toArray] w fun e w' => e = .returned (.bool (mayb b)) ∧ Below w.heap.size w w' := by
  have z0 : fh 281474976710656 = 0 := by decide
  have z1 : fl 281474976710656 = 281474976710656 := by decide
  have z2 : fh 0 = 0 := by decide
  have z3 : fl 0 = 0 := by decide
  have DI := rint_any 1048576
  have D1 := from_any CM b.m 281474976710656 (intr 1048576) (by decide)
  have D2 := to_any CM b.r 65536
  have D3 := from_any CM b.fu 0 b.m (by decide)
  have D4 := to_any CM b.ra 65536
  have D5 := to_any CM b.ex 65536
  have D6 := rmayvec_any b.x b.y
  have D7 := rmayvec_any b.px b.py
  rw [z0, z1] at D1
  rw [z2, z3] at D3
  unfold mayb mayh
  have q1 : ∀ p : Bool, (p = true) = (p = true) := fun _ => rfl
  by_cases h1 : (281474976710656 ≤ b.m ∧ b.m ≤ intr 1048576)
  · rw [decide_eq_true h1] at D1 ⊢
    by_cases h2 : (0 ≤ b.r ∧ b.r ≤ intr 65536)
    · rw [decide_eq_true h2] at D2 ⊢
      by_cases h3 : (0 ≤ b.fu ∧ b.fu ≤ b.m)
      · rw [decide_eq_true h3] at D3 ⊢
        by_cases h4 : (0 ≤ b.ra ∧ b.ra ≤ intr 65536)
        · rw [decide_eq_true h4] at D4 ⊢
          by_cases h5 : (0 ≤ b.ex ∧ b.ex ≤ intr 65536)
          · rw [decide_eq_true h5] at D5 ⊢
            have D6 : ∀ W, Calls Tryz.prog 38 #[.agg #[.int .i64 (fh b.x), .int .u64 (fl b.x), .int .i64 (fh b.y), .int .u64 (fl b.y)]] W fun e w' => e = .returned (.bool (vmy b.x b.y)) ∧ Below W.heap.size W w' := D6
            have D7 : ∀ W, Calls Tryz.prog 38 #[.agg #[.int .i64 (fh b.px), .int .u64 (fl b.px), .int .i64 (fh b.py), .int .u64 (fl b.py)]] W fun e w' => e = .returned (.bool (vmy b.px b.py)) ∧ Below W.heap.size W w' := D7
            by_cases h6 : vmy b.x b.y = true
            · rw [h6] at D6 ⊢
              by_cases h7 : vmy b.px b.py = true
              · rw [h7] at D7 ⊢
                have hv : b.px ≠ -170141183460469231731687303715884105728 ∧ b.py ≠ -170141183460469231731687303715884105728 := by
                  unfold vmy at h7
                  rw [Bool.and_eq_true, decide_eq_true_eq, decide_eq_true_eq] at h7; exact h7
                have hi := intr_m
                have hm : My b.m := ⟨by omega, by omega⟩
                have hf : My b.fu := ⟨by omega, by omega⟩
                obtain ⟨z, DS⟩ := slow_any CM DV b (fx_My hb.1.2.2.2.2.1 hv.1) (fx_My hb.1.2.2.2.2.2.1 hv.2) hm (by omega)
                have DB := SU b.m b.fu hm hf ⟨by omega, by omega⟩
                have DC := CM (b.m - b.fu) 281474976710656
                simp only [fxv, z0, z1] at DB DC
                refine maybody_pass b _ _ DI D1 D2 D3 D4 D5 D6 D7 (slo b) z DS _ _ _ DB DC (!bey b.x 1073741824 && !bey b.y 1073741824) (decide (0 ≤ b.th ∧ b.th ≤ 100)) (decide (0 ≤ b.he ∧ b.he ≤ 65535)) (inside_any CM b.x b.y) (within_any _ _ _) (within_any _ _ _) _ ?_ w
                unfold mayt
                have e : decide (281474976710656 ≤ b.m - b.fu) = decide (0 ≤ icmp (b.m - b.fu) 281474976710656) := by
                  by_cases c : b.m - b.fu < 281474976710656
                  · rw [ic_lt c, decide_eq_false (by omega)]; rfl
                  · rw [decide_eq_true (by omega), decide_eq_true (ic_ge c)]
                rw [e]; simp
              · rw [show vmy b.px b.py = false by simpa using h7] at D7 ⊢
                simpa using maybody_7 b _ _ DI D1 D2 D3 D4 D5 D6 D7 w
            · rw [show vmy b.x b.y = false by simpa using h6] at D6 ⊢
              simpa using maybody_6 b _ _ DI D1 D2 D3 D4 D5 D6 w
          · rw [decide_eq_false h5] at D5 ⊢
            simpa using maybody_5 b _ _ DI D1 D2 D3 D4 D5 w
        · rw [decide_eq_false h4] at D4 ⊢
          simpa using maybody_4 b _ _ DI D1 D2 D3 D4 w
      · rw [decide_eq_false h3] at D3 ⊢
        simpa using maybody_3 b _ _ DI D1 D2 D3 w
    · rw [decide_eq_false h2] at D2 ⊢
      simpa using maybody_2 b _ _ DI D1 D2 w
  · rw [decide_eq_false h1] at D1 ⊢
    simpa using maybody_1 b _ _ DI D1 w
/-- Who may be has a mass and a place as they may be. -/
theorem mayb_Mb {b : Bod} (h : mayb b = true) : Mb b := by
  unfold mayb mayh mayt bey at h
  simp only [Bool.and_eq_true, decide_eq_true_eq, Bool.not_eq_true', decide_eq_false_iff_not] at h
  have hi := intr_m
  have h1 : intr 1073741824 = 19807040628566084398385987584 := by decide
  have h2 : intr (-1073741824) = -19807040628566084398385987584 := by decide
  rw [h1, h2] at h
  unfold Mb
  omega
end Go.Proofs.YtjilnmpajhifcaaGreat
