/- The nearest; sums. -/
import Derived.Test.YtmmlekgojblopaaZzLimA
import Derived.Test.YtmmlekgojblopaaZzLimC
import Derived.Deep.RegionHeld3
import Derived.Deep.DeepCutAuto
namespace Go.Proofs.Ytmmlekgojblopaa
open Go.RowKit

theorem tn_abs {x : Int} (h : Fx x) : tn (decide (x < 0)) (ub x) = x.natAbs := by
  obtain ⟨_, _⟩ := h
  by_cases c : x < 0
  · rw [decide_eq_true c, tn_true]; unfold ub; omega
  · rw [decide_eq_false c, tn_false]; unfold ub; omega
theorem size_core (h l b1 b0 s r1 r0 : Int)  (w : World)
    (C1 : Ct 61 #[.agg #[.int .i64 h, .int .u64 l]] (.agg #[.int .u64 b1, .int .u64 b0]))
    (C2 : Ct 46 #[.agg #[.int .i64 h, .int .u64 l]] (.int .u64 s))
    (C3 : Ct 65 #[.agg #[.int .u64 b1, .int .u64 b0], .int .u64 s] (.agg #[.int .u64 r1, .int .u64 r0])) :
    Calls Try.prog 41 #[.agg #[.int .i64 h, .int .u64 l]] w fun e w' => e = .returned (.agg #[.int .u64 r1, .int .u64 r0]) ∧ Below w.heap.size w w' := by
  have K1 := Lib.hid C1; have K2 := Lib.hid C2; have K3 := Lib.hid C3
  clear C1 C2 C3
  go_enter Try.func41, Try.ntmps41
  go_upto_region 1 with fail
  go_region_held3 (fun w' => w'.cell? ⟨w.heap.size, 0, none⟩ = some (.int .i64 h) ∧ w'.cell? ⟨w.heap.size, 1, none⟩ = some (.int .u64 l)) (simp [*, go_sem, World.cell?_alloc_past])
    (first
      | (go_at_call 61; refine (K1.out _).mono ?_; rintro e w' ⟨rfl, hb⟩; obtain ⟨hcl, hfr⟩ := bcell hb; have hz2 : w.heap.size + 1 < w'.heap.size := (by have hz := hb.size; first | (simp at hz; omega) | omega); have hz1 : w.heap.size < w'.heap.size := (by omega); have HB : Hid (Below w.heap.size w w') := (bl_trans (by repeat (first | exact Below.refl _ _ | exact Hid.out (by assumption) | with_reducible refine Below.setCell ?_ (by first | (simp; done) | omega | (simp <;> omega)) _ | with_reducible refine bl_al ?_ _ | with_reducible apply Below.drew)) hb); clear hb)
      | (go_at_call 46; refine (K2.out _).mono ?_; rintro e w' ⟨rfl, hb⟩; obtain ⟨hcl, hfr⟩ := bcell hb; have hz2 : w.heap.size + 1 < w'.heap.size := (by have hz := hb.size; first | (simp at hz; omega) | omega); have hz1 : w.heap.size < w'.heap.size := (by omega); have HB : Hid (Below w.heap.size w w') := (bl_trans (by repeat (first | exact Below.refl _ _ | exact Hid.out (by assumption) | with_reducible refine Below.setCell ?_ (by first | (simp; done) | omega | (simp <;> omega)) _ | with_reducible refine bl_al ?_ _ | with_reducible apply Below.drew)) hb); clear hb)
      | (go_at_call 65; refine (K3.out _).mono ?_; rintro e w' ⟨rfl, hb⟩; obtain ⟨hcl, hfr⟩ := bcell hb; have hz2 : w.heap.size + 1 < w'.heap.size := (by have hz := hb.size; first | (simp at hz; omega) | omega); have hz1 : w.heap.size < w'.heap.size := (by omega); have HB : Hid (Below w.heap.size w w') := (bl_trans (by repeat (first | exact Below.refl _ _ | exact Hid.out (by assumption) | with_reducible refine Below.setCell ?_ (by first | (simp; done) | omega | (simp <;> omega)) _ | with_reducible refine bl_al ?_ _ | with_reducible apply Below.drew)) hb); clear hb))
  rename_i hHeld
  clear hHeld
  go_wp2_with fail
  refine bodyPost_ret (by simp [results, Try.results41, go_sem, *]; try rfl) rfl ?_
  exact ⟨rfl, by repeat (first | exact Below.refl _ _ | exact Hid.out (by assumption) | with_reducible refine Below.setCell ?_ (by first | (simp; done) | omega | (simp <;> omega)) _ | with_reducible refine bl_al ?_ _ | with_reducible apply Below.drew)⟩
theorem size_any (x : Int) (hx : Fx x) (w : World) :
    Calls Try.prog 41 #[.agg #[.int .i64 (fh x), .int .u64 (fl x)]] w fun e w' => e = .returned (.agg #[.int .u64 (wd x.natAbs 1), .int .u64 (wd x.natAbs 0)]) ∧ Below w.heap.size w w' := by
  have C3 := turn_any _ _ (decide (x < 0)) (wd_wd (ub x) 1) (wd_wd (ub x) 0)
  rw [ub_v2, tn_abs hx] at C3
  exact size_core _ _ _ _ _ _ _ w (bits_any x) (sign_any x hx) C3
theorem may_core (h l : Int) (w : World) :
    Calls Try.prog 63 #[.agg #[.int .i64 h, .int .u64 l]] w fun e w' => e = .returned (.bool (!decide (h = -9223372036854775808 ∧ l = 0))) ∧ Below w.heap.size w w' := by
  by_cases c : h = -9223372036854775808
  · by_cases d : l = 0
    · have E : Hid (false = !decide (h = -9223372036854775808 ∧ l = 0)) := by show _ = _; simp [c, d]
      subst d
      go_enter Try.func63, Try.ntmps63
      go_wp2_with fail
      go_returns
      exact ⟨ret_bool (by first | rfl | exact E.out), by repeat (first | exact Below.refl _ _ | exact Hid.out (by assumption) | with_reducible refine bl_al ?_ _ | with_reducible apply Below.drew)⟩
    · have E : Hid (true = !decide (h = -9223372036854775808 ∧ l = 0)) := by show _ = _; simp [d]
      go_enter Try.func63, Try.ntmps63
      go_wp2_with fail
      go_returns
      exact ⟨ret_bool (by first | rfl | exact E.out), by repeat (first | exact Below.refl _ _ | exact Hid.out (by assumption) | with_reducible refine bl_al ?_ _ | with_reducible apply Below.drew)⟩
  · have E : Hid (true = !decide (h = -9223372036854775808 ∧ l = 0)) := by show _ = _; simp [c]
    go_enter Try.func63, Try.ntmps63
    go_wp2_with fail
    go_returns
    exact ⟨ret_bool (by first | rfl | exact E.out), by repeat (first | exact Below.refl _ _ | exact Hid.out (by assumption) | with_reducible refine bl_al ?_ _ | with_reducible apply Below.drew)⟩
theorem may_word (x : Int) : (!decide (fh x = -9223372036854775808 ∧ fl x = 0)) = decide (x ≠ -170141183460469231731687303715884105728) := by
  rw [Bool.eq_iff_iff]; simp only [Bool.not_eq_true', decide_eq_false_iff_not, decide_eq_true_eq]; unfold fh fl; omega
theorem may_any (x : Int) (w : World) :
    Calls Try.prog 63 #[.agg #[.int .i64 (fh x), .int .u64 (fl x)]] w fun e w' => e = .returned (.bool (decide (x ≠ -170141183460469231731687303715884105728))) ∧ Below w.heap.size w w' := by
  rw [← may_word]; exact may_core _ _ w
theorem int_word (n : Int) : fh (intr n) = (if n < -9223372036854775807 then -9223372036854775807 else n) ∧ fl (intr n) = 0 := by
  unfold fh fl intr; split <;> constructor <;> omega
end Go.Proofs.Ytmmlekgojblopaa
namespace Go.Proofs.Ytmmlekgojblopaa
open Go.ChangeShapes Go.WideShapes Go.ChangeAt Go.RowKit Go.Joins

theorem cells_i64 : Try.prog.cellsOf 2 = 1 := by kernel_rfl
theorem cells_fix : Try.prog.cellsOf 24 = 2 := by kernel_rfl
theorem hd_of_wf {x : Int} (h : (Lit.int .i64 x).wf = true) : Hd x := by
  simp [Lit.wf, IntKind.min, IntKind.max, IntKind.signed, IntKind.bits] at h
  exact ⟨by omega, by omega⟩
theorem wf_of_hd {x : Int} (h : Hd x) : (Lit.int .i64 x).wf = true := by
  obtain ⟨h0, h1⟩ := h
  simp [Lit.wf, IntKind.min, IntKind.max, IntKind.signed, IntKind.bits]
  exact ⟨by omega, by omega⟩
section
variable {H : Type} {enc : TypeId × Value → H} {w : World} {base : Nat} {spare : Nat → Bool} {held : Bool}
set_option maxRecDepth 20000 in
theorem trod_fix {n : Nat} {c0 c1 : Value} {y : DataW H × List MemPlace} (h : DataW.trod enc Try.prog w base spare held n 24 [c0, c1] = some y) :
    ∃ a1 a0 : Int, c0 = .int .i64 a1 ∧ c1 = .int .u64 a0 ∧ y = (.agg [.lit (.int .i64 a1), .lit (.int .u64 a0)], []) ∧ Hd a1 ∧ Wd a0 := by
  obtain ⟨y0, y1, m, rfl, _, h0, h1⟩ := trod_struct2 Try.underlying24 h
  obtain ⟨a, e0, rfl, wa⟩ := DataW.trod_int Try.underlying2 h0
  obtain ⟨b, e1, rfl, wb⟩ := DataW.trod_int Try.underlying22 h1
  simp [cells_i64, cells22] at e0 e1
  subst e0 e1
  exact ⟨a, b, rfl, rfl, rfl, hd_of_wf wa, wd_of_wf wb⟩
set_option maxRecDepth 20000 in
theorem trod_fix_mk (n : Nat) {a1 a0 : Int} (h1 : Hd a1) (h0 : Wd a0) : DataW.trod enc Try.prog w base spare held (n + 2) 24 [.int .i64 a1, .int .u64 a0] = some (.agg [.lit (.int .i64 a1), .lit (.int .u64 a0)], []) := by
  have := trod_struct2_mk (enc := enc) (w := w) (base := base) (spare := spare) (held := held) (n := n + 1) (cs := [.int .i64 a1, .int .u64 a0]) (y0 := (.lit (.int .i64 a1), [])) (y1 := (.lit (.int .u64 a0), [])) Try.underlying24 (by simp [cells_fix])
    (by simpa [cells_i64] using trod_int_mk n Try.underlying2 (wf_of_hd h1)) (by simpa [cells22] using trod_int_mk n Try.underlying22 (wf_of_wd h0))
  simpa using this
set_option maxRecDepth 20000 in
theorem open_fix {r : Reach} {b0 : Nat} {v : Value} {d : DataW H} {p : List MemPlace} (hv : Value.okWide Try.prog w r b0 24 v) (h : DataW.Trod enc Try.prog w base spare held 24 v d p) :
    ∃ x : Int, v = .agg #[.int .i64 (fh x), .int .u64 (fl x)] ∧ d = .agg [.lit (.int .i64 (fh x)), .lit (.int .u64 (fl x))] ∧ p = [] ∧ Fx x := by
  obtain ⟨cs, rfl, hsz⟩ := okWide_struct Try.underlying24 hv
  obtain ⟨c0, c1, rfl⟩ := array2 (hsz.trans cells_fix)
  obtain ⟨fuel, hf⟩ := h
  obtain ⟨a1, a0, rfl, rfl, e, k1, k0⟩ := trod_fix (by simpa [Value.cells] using hf)
  simp only [Prod.mk.injEq] at e
  refine ⟨fx a1 a0, ?_, ?_, e.2, fx_Fx k1 k0⟩
  · rw [fh_fx k0, fl_fx k0]
  · rw [fh_fx k0, fl_fx k0]; exact e.1
set_option maxRecDepth 20000 in
theorem shut_fix {x : Int} (h : Fx x) : DataW.Trod enc Try.prog w base spare held 24 (.agg #[.int .i64 (fh x), .int .u64 (fl x)]) (.agg [.lit (.int .i64 (fh x)), .lit (.int .u64 (fl x))]) [] :=
  ⟨2, by simpa [Value.cells] using trod_fix_mk 0 (fh_hd h) (fl_wd x)⟩
end
theorem eq_fix (a1 a0 b1 b0 : Int) (W : World) : (Go.binOp .eql 24 (.agg #[.int .i64 a1, .int .u64 a0]) (.agg #[.int .i64 b1, .int .u64 b0])).run Try.prog W = .ok (.bool (decide (a1 = b1 ∧ a0 = b0))) W := by
  by_cases c : a1 = b1 <;> by_cases d : a0 = b0 <;> simp [go_sem, *]
theorem eq_fix_true (a1 a0 : Int) : ∀ W, (Go.binOp .eql 24 (.agg #[.int .i64 a1, .int .u64 a0]) (.agg #[.int .i64 a1, .int .u64 a0])).run Try.prog W = .ok (.bool true) W := fun W => by
  rw [eq_fix]; simp
theorem ne_fix (a1 a0 b1 b0 : Int) (W : World) : (Go.binOp .neq 24 (.agg #[.int .i64 a1, .int .u64 a0]) (.agg #[.int .i64 b1, .int .u64 b0])).run Try.prog W = .ok (.bool (!decide (a1 = b1 ∧ a0 = b0))) W := by
  by_cases c : a1 = b1 <;> by_cases d : a0 = b0 <;> simp [go_sem, *]
theorem ne_fix_false (a1 a0 : Int) : ∀ W, (Go.binOp .neq 24 (.agg #[.int .i64 a1, .int .u64 a0]) (.agg #[.int .i64 a1, .int .u64 a0])).run Try.prog W = .ok (.bool false) W := fun W => by
  rw [ne_fix]; simp
theorem rmay_core (h l : Int) (b : Bool) (hb : b = !decide (h = -9223372036854775808 ∧ l = 0)) (w : World) :
    Calls Try.prog 19 #[.agg #[.int .i64 h, .int .u64 l]] w fun e w' => e = .returned (.bool b) ∧ Below w.heap.size w w' := by
  have E := Lib.hid hb
  clear hb
  by_cases c : h = -9223372036854775808
  · by_cases d : l = 0
    · have E2 : Hid (false = b) := by show _ = _; rw [E.out]; simp [c, d]
      subst d
      go_enter Try.func19, Try.ntmps19
      go_wp2_with fail
      go_returns
      exact ⟨ret_bool E2.out, by go_grown⟩
    · have E2 : Hid (true = b) := by show _ = _; rw [E.out]; simp [d]
      have t1 : (l != 0) = true := by rw [bne_iff_ne]; exact d
      go_enter Try.func19, Try.ntmps19
      go_wp2_with fail
      go_returns
      exact ⟨ret_bool E2.out, by go_grown⟩
  · have E2 : Hid (true = b) := by show _ = _; rw [E.out]; simp [c]
    have t1 : (h != -9223372036854775808) = true := by rw [bne_iff_ne]; exact c
    go_enter Try.func19, Try.ntmps19
    go_wp2_with fail
    go_returns
    exact ⟨ret_bool E2.out, by go_grown⟩
theorem rmay_any (x : Int) (w : World) :
    Calls Try.prog 19 #[.agg #[.int .i64 (fh x), .int .u64 (fl x)]] w fun e w' => e = .returned (.bool (decide (x ≠ -170141183460469231731687303715884105728))) ∧ Below w.heap.size w w' :=
  rmay_core _ _ _ (may_word x).symm w
theorem rmay_true {x : Int} (h : My x) (w : World) :
    Calls Try.prog 19 #[.agg #[.int .i64 (fh x), .int .u64 (fl x)]] w fun e w' => e = .returned (.bool true) ∧ Below w.heap.size w w' := by
  have := rmay_any x w
  rwa [decide_eq_true (by obtain ⟨_, _⟩ := h; omega)] at this
theorem rmay_false {x : Int} (h : Fx x) (n : ¬ My x) (w : World) :
    Calls Try.prog 19 #[.agg #[.int .i64 (fh x), .int .u64 (fl x)]] w fun e w' => e = .returned (.bool false) ∧ Below w.heap.size w w' := by
  have := rmay_any x w
  rwa [decide_eq_false (by obtain ⟨_, _⟩ := h; unfold My at n; omega)] at this
theorem num_any (n : Int) (w : World) :
    Calls Try.prog 13 #[.int .i64 n] w fun e w' => e = .returned (.int .i64 n) ∧ Below w.heap.size w w' := by
  go_enter Try.func13, Try.ntmps13
  go_wp2_with fail
  go_returns
  exact ⟨rfl, by go_grown⟩
end Go.Proofs.Ytmmlekgojblopaa
namespace Go.Proofs.Ytmmlekgojblopaa
open Go.RowKit

theorem ne_two (a1 a0 b1 b0 : Int) (W : World) : (Go.binOp .neq 62 (.agg #[.int .u64 a1, .int .u64 a0]) (.agg #[.int .u64 b1, .int .u64 b0])).run Try.prog W = .ok (.bool (!decide (a1 = b1 ∧ a0 = b0))) W := by
  by_cases c : a1 = b1 <;> by_cases d : a0 = b0 <;> simp [go_sem, *]
theorem near_lost (a3 a2 a1 a0 u s n1 n0 : Int)  (w : World)
    (C1 : Ct 60 #[.agg #[.int .u64 a1, .int .u64 a0], .agg #[.int .u64 0, .int .u64 u]] (.tuple #[.agg #[.int .u64 n1, .int .u64 n0], .bool true])) :
    Calls Try.prog 45 #[.agg #[.int .u64 a3, .int .u64 a2, .int .u64 a1, .int .u64 a0], .int .u64 u, .int .u64 s] w fun e w' => e = .returned (.tuple #[.agg #[.int .i64 0, .int .u64 0], .int .i64 3]) ∧ Below w.heap.size w w' := by
  have K1 := Lib.hid C1
  clear C1
  go_enter Try.func45, Try.ntmps45
  go_wp2_with fail
  refine (K1.out _).mono ?_; rintro e w' ⟨rfl, hb⟩; obtain ⟨hcl, hfr⟩ := bcell hb; have hz2 : w.heap.size + 1 < w'.heap.size := (by have hz := hb.size; first | (simp at hz; omega) | omega); have hz1 : w.heap.size < w'.heap.size := (by omega); have HB : Hid (Below w.heap.size w w') := (bl_trans (by repeat (first | exact Below.refl _ _ | exact Hid.out (by assumption) | with_reducible refine Below.setCell ?_ (by first | (simp; done) | omega | (simp <;> omega)) _ | with_reducible refine bl_al ?_ _ | with_reducible apply Below.drew)) hb); clear hb
  go_wp2_with fail
  refine bodyPost_ret (by simp [results, Try.results45, go_sem, *]; try rfl) rfl ?_
  exact ⟨rfl, by repeat (first | exact Below.refl _ _ | exact Hid.out (by assumption) | with_reducible refine Below.setCell ?_ (by first | (simp; done) | omega | (simp <;> omega)) _ | with_reducible refine bl_al ?_ _ | with_reducible apply Below.drew)⟩
theorem near_high (a3 a2 a1 a0 u s n1 n0 : Int) (c : ¬ (a3 = 0 ∧ a2 = 0)) (w : World)
    (C1 : Ct 60 #[.agg #[.int .u64 a1, .int .u64 a0], .agg #[.int .u64 0, .int .u64 u]] (.tuple #[.agg #[.int .u64 n1, .int .u64 n0], .bool false])) :
    Calls Try.prog 45 #[.agg #[.int .u64 a3, .int .u64 a2, .int .u64 a1, .int .u64 a0], .int .u64 u, .int .u64 s] w fun e w' => e = .returned (.tuple #[.agg #[.int .i64 0, .int .u64 0], .int .i64 3]) ∧ Below w.heap.size w w' := by
  have K1 := Lib.hid C1
  clear C1
  have q : ∀ W, (Go.binOp .neq 62 (.agg #[.int .u64 a3, .int .u64 a2]) (.agg #[.int .u64 0, .int .u64 0])).run Try.prog W = .ok (.bool true) W := fun W => by rw [ne_two, decide_eq_false c]; rfl
  clear c
  go_enter Try.func45, Try.ntmps45
  go_wp2_with fail
  refine (K1.out _).mono ?_; rintro e w' ⟨rfl, hb⟩; obtain ⟨hcl, hfr⟩ := bcell hb; have hz2 : w.heap.size + 1 < w'.heap.size := (by have hz := hb.size; first | (simp at hz; omega) | omega); have hz1 : w.heap.size < w'.heap.size := (by omega); have HB : Hid (Below w.heap.size w w') := (bl_trans (by repeat (first | exact Below.refl _ _ | exact Hid.out (by assumption) | with_reducible refine Below.setCell ?_ (by first | (simp; done) | omega | (simp <;> omega)) _ | with_reducible refine bl_al ?_ _ | with_reducible apply Below.drew)) hb); clear hb
  go_wp2_with fail
  refine bodyPost_ret (by simp [results, Try.results45, go_sem, *]; try rfl) rfl ?_
  exact ⟨rfl, by repeat (first | exact Below.refl _ _ | exact Hid.out (by assumption) | with_reducible refine Below.setCell ?_ (by first | (simp; done) | omega | (simp <;> omega)) _ | with_reducible refine bl_al ?_ _ | with_reducible apply Below.drew)⟩
theorem near_top (a1 a0 u s n1 n0 x : Int) (hx : n1 / 9223372036854775808 = x) (hn : x ≠ 0) (w : World)
    (C1 : Ct 60 #[.agg #[.int .u64 a1, .int .u64 a0], .agg #[.int .u64 0, .int .u64 u]] (.tuple #[.agg #[.int .u64 n1, .int .u64 n0], .bool false])) :
    Calls Try.prog 45 #[.agg #[.int .u64 0, .int .u64 0, .int .u64 a1, .int .u64 a0], .int .u64 u, .int .u64 s] w fun e w' => e = .returned (.tuple #[.agg #[.int .i64 0, .int .u64 0], .int .i64 3]) ∧ Below w.heap.size w w' := by
  have K1 := Lib.hid C1
  clear C1
  have q : ∀ W, (Go.binOp .neq 62 (.agg #[.int .u64 0, .int .u64 0]) (.agg #[.int .u64 0, .int .u64 0])).run Try.prog W = .ok (.bool false) W := fun W => by rw [ne_two]; rfl
  have t1 : (x != 0) = true := by rw [bne_iff_ne]; exact hn
  go_enter Try.func45, Try.ntmps45
  go_wp2_with fail
  refine (K1.out _).mono ?_; rintro e w' ⟨rfl, hb⟩; obtain ⟨hcl, hfr⟩ := bcell hb; have hz2 : w.heap.size + 1 < w'.heap.size := (by have hz := hb.size; first | (simp at hz; omega) | omega); have hz1 : w.heap.size < w'.heap.size := (by omega); have HB : Hid (Below w.heap.size w w') := (bl_trans (by repeat (first | exact Below.refl _ _ | exact Hid.out (by assumption) | with_reducible refine Below.setCell ?_ (by first | (simp; done) | omega | (simp <;> omega)) _ | with_reducible refine bl_al ?_ _ | with_reducible apply Below.drew)) hb); clear hb
  go_wp2_with fail
  refine bodyPost_ret (by simp [results, Try.results45, go_sem, *]; try rfl) rfl ?_
  exact ⟨rfl, by repeat (first | exact Below.refl _ _ | exact Hid.out (by assumption) | with_reducible refine Below.setCell ?_ (by first | (simp; done) | omega | (simp <;> omega)) _ | with_reducible refine bl_al ?_ _ | with_reducible apply Below.drew)⟩
theorem near_ok (a1 a0 u s n1 n0 t1 t0 f1 f0 : Int) (hx : n1 / 9223372036854775808 = 0) (w : World)
    (C1 : Ct 60 #[.agg #[.int .u64 a1, .int .u64 a0], .agg #[.int .u64 0, .int .u64 u]] (.tuple #[.agg #[.int .u64 n1, .int .u64 n0], .bool false]))
    (C2 : Ct 65 #[.agg #[.int .u64 n1, .int .u64 n0], .int .u64 s] (.agg #[.int .u64 t1, .int .u64 t0]))
    (C3 : Ct 62 #[.agg #[.int .u64 t1, .int .u64 t0]] (.agg #[.int .i64 f1, .int .u64 f0])) :
    Calls Try.prog 45 #[.agg #[.int .u64 0, .int .u64 0, .int .u64 a1, .int .u64 a0], .int .u64 u, .int .u64 s] w fun e w' => e = .returned (.tuple #[.agg #[.int .i64 f1, .int .u64 f0], .int .i64 0]) ∧ Below w.heap.size w w' := by
  have K1 := Lib.hid C1; have K2 := Lib.hid C2; have K3 := Lib.hid C3
  clear C1 C2 C3
  have q : ∀ W, (Go.binOp .neq 62 (.agg #[.int .u64 0, .int .u64 0]) (.agg #[.int .u64 0, .int .u64 0])).run Try.prog W = .ok (.bool false) W := fun W => by rw [ne_two]; rfl
  go_enter Try.func45, Try.ntmps45
  go_wp2_with fail
  refine (K1.out _).mono ?_; rintro e w' ⟨rfl, hb⟩; obtain ⟨hcl, hfr⟩ := bcell hb; have hz2 : w.heap.size + 1 < w'.heap.size := (by have hz := hb.size; first | (simp at hz; omega) | omega); have hz1 : w.heap.size < w'.heap.size := (by omega); have HB : Hid (Below w.heap.size w w') := (bl_trans (by repeat (first | exact Below.refl _ _ | exact Hid.out (by assumption) | with_reducible refine Below.setCell ?_ (by first | (simp; done) | omega | (simp <;> omega)) _ | with_reducible refine bl_al ?_ _ | with_reducible apply Below.drew)) hb); clear hb
  go_wp2_with fail
  refine (K2.out _).mono ?_; rintro e w' ⟨rfl, hb⟩; obtain ⟨hcl, hfr⟩ := bcell hb; have hz2 : w.heap.size + 1 < w'.heap.size := (by have hz := hb.size; first | (simp at hz; omega) | omega); have hz1 : w.heap.size < w'.heap.size := (by omega); have HB : Hid (Below w.heap.size w w') := (bl_trans (by repeat (first | exact Below.refl _ _ | exact Hid.out (by assumption) | with_reducible refine Below.setCell ?_ (by first | (simp; done) | omega | (simp <;> omega)) _ | with_reducible refine bl_al ?_ _ | with_reducible apply Below.drew)) hb); clear hb
  go_wp2_with fail
  refine (K3.out _).mono ?_; rintro e w' ⟨rfl, hb⟩; obtain ⟨hcl, hfr⟩ := bcell hb; have hz2 : w.heap.size + 1 < w'.heap.size := (by have hz := hb.size; first | (simp at hz; omega) | omega); have hz1 : w.heap.size < w'.heap.size := (by omega); have HB : Hid (Below w.heap.size w w') := (bl_trans (by repeat (first | exact Below.refl _ _ | exact Hid.out (by assumption) | with_reducible refine Below.setCell ?_ (by first | (simp; done) | omega | (simp <;> omega)) _ | with_reducible refine bl_al ?_ _ | with_reducible apply Below.drew)) hb); clear hb
  go_wp2_with fail
  refine bodyPost_ret (by simp [results, Try.results45, go_sem, *]; try rfl) rfl ?_
  exact ⟨rfl, by repeat (first | exact Below.refl _ _ | exact Hid.out (by assumption) | with_reducible refine Below.setCell ?_ (by first | (simp; done) | omega | (simp <;> omega)) _ | with_reducible refine bl_al ?_ _ | with_reducible apply Below.drew)⟩
theorem sg_small {s : Bool} {n : Nat} (h : n < 170141183460469231731687303715884105728) : My (sg s n) := by
  unfold sg My; cases s <;> simp <;> omega
theorem sg_big {s : Bool} {n : Nat} (h : 170141183460469231731687303715884105728 ≤ n) : ¬ My (sg s n) := by
  unfold sg My; cases s <;> simp <;> omega
theorem tn_sg {s : Bool} {n : Nat} (h : n < 170141183460469231731687303715884105728) : ((tn s n : Nat) : Int) % 340282366920938463463374607431768211456 = sg s n % 340282366920938463463374607431768211456 := by
  cases s
  · rw [tn_false]; rfl
  · rw [tn_true]; unfold sg; simp; omega
theorem fh_zero : fh 0 = 0 := rfl
theorem fl_zero : fl 0 = 0 := rfl
theorem nearest_any (a3 a2 a1 a0 : Int) (u : Nat) (s : Bool) (h3 : Wd a3) (h2 : Wd a2) (h1 : Wd a1) (h0 : Wd a0) (hu : u ≤ 1) (w : World) :
    Calls Try.prog 45 #[.agg #[.int .u64 a3, .int .u64 a2, .int .u64 a1, .int .u64 a0], .int .u64 (u : Int), .int .u64 (sw s)] w fun e w' => e = .returned (.tuple #[.agg #[.int .i64 (fh (ov (sg s ((v4 a3 a2 a1 a0 + u : Nat) : Int)))), .int .u64 (fl (ov (sg s ((v4 a3 a2 a1 a0 + u : Nat) : Int))))], .int .i64 (oe (sg s ((v4 a3 a2 a1 a0 + u : Nat) : Int)))]) ∧ Below w.heap.size w w' := by
  have C1 := add_any a1 a0 0 u h1 h0 ⟨by omega, by omega⟩ ⟨by omega, by omega⟩
  have hv := v2_lt h1 h0
  have hu2 : v2 0 (u : Int) = u := by unfold v2; omega
  rw [hu2] at C1
  have hx : v4 a3 a2 a1 a0 = v2 a3 a2 * 340282366920938463463374607431768211456 + v2 a1 a0 := rfl
  by_cases c1 : 340282366920938463463374607431768211456 ≤ v2 a1 a0 + u
  · have hb : ¬ My (sg s ((v4 a3 a2 a1 a0 + u : Nat) : Int)) := sg_big (by omega)
    rw [ov_out hb, oe_out hb, fh_zero, fl_zero]
    rw [decide_eq_true c1] at C1
    exact near_lost _ _ _ _ _ _ _ _ w C1
  rw [decide_eq_false c1] at C1
  by_cases c2 : a3 = 0 ∧ a2 = 0
  · obtain ⟨rfl, rfl⟩ := c2
    have hx0 : v4 0 0 a1 a0 = v2 a1 a0 := by rw [hx, v2_zero, Nat.zero_mul, Nat.zero_add]
    rw [hx0]
    by_cases c3 : 170141183460469231731687303715884105728 ≤ v2 a1 a0 + u
    · have hb : ¬ My (sg s ((v2 a1 a0 + u : Nat) : Int)) := sg_big c3
      rw [ov_out hb, oe_out hb, fh_zero, fl_zero]
      exact near_top _ _ _ _ _ _ _ rfl (by rw [wd1]; omega) w C1
    · have hm : My (sg s ((v2 a1 a0 + u : Nat) : Int)) := sg_small (by omega)
      rw [ov_in hm, oe_in hm]
      have C2 := turn_any _ _ s (wd_wd (v2 a1 a0 + u) 1) (wd_wd (v2 a1 a0 + u) 0)
      rw [v2_wd, Nat.mod_eq_of_lt (show v2 a1 a0 + u < 340282366920938463463374607431768211456 by omega)] at C2
      exact near_ok _ _ _ _ _ _ _ _ _ _ (by rw [wd1]; omega) w C1 C2 (ofBits_any _ _ hm.fx (tn_sg (by omega)))
  · have hv3 : 1 ≤ v2 a3 a2 := by
      obtain ⟨_, _⟩ := h3; obtain ⟨_, _⟩ := h2
      unfold v2
      omega
    have hb : ¬ My (sg s ((v4 a3 a2 a1 a0 + u : Nat) : Int)) := sg_big (by omega)
    rw [ov_out hb, oe_out hb, fh_zero, fl_zero]
    exact near_high _ _ _ _ _ _ _ _ c2 w C1
end Go.Proofs.Ytmmlekgojblopaa
