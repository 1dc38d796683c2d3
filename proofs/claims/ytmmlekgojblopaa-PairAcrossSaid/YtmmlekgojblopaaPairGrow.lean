/- One pull grown: it is told as it was made, or made. -/
import Derived.Test.YtmmlekgojblopaaPairMap
namespace Go.Proofs.Ytmmlekgojblopaa
open Go.RowKit
open Go.ChangeMaps (setBlock)
theorem bx_2nd (w : World) (o : Obj) (t : TypeId) (cs : Array Value) : Bx t ((w.alloc o).alloc (.cells cs t)) (w.heap.size + 1) cs.toList := by
  have k := Bx.new (w.alloc o) t cs
  rwa [World.size_alloc] at k
set_option maxRecDepth 20000 in
set_option maxHeartbeats 8000000 in
theorem grown_hit (B : Nat) (sh sl th tl vh vl : Int) (es : Array MapEntry) (cl : Nat) (w : World) (hb0 : w.heap[B]? = some (.map es cl))
    (look : ∀ W : World, W.heap[B]? = some (.map es cl) → (Instr.lookup 77 (.map (some B)) (.agg #[.int .i64 sh, .int .u64 sl, .int .i64 th, .int .u64 tl]) true).run Try.prog W = .ok (.tuple #[.agg #[.int .i64 vh, .int .u64 vl], .bool true]) W) :
    Calls Try.prog 40 #[.map (some B), .agg #[.int .i64 sh, .int .u64 sl, .int .i64 th, .int .u64 tl]] w fun e' w' => e' = .returned (.tuple #[.agg #[.int .i64 vh, .int .u64 vl], .int .i64 0]) ∧ Below w.heap.size w w' := by
  have hB : B < w.heap.size := (Array.getElem?_eq_some_iff.1 hb0).1
  go_enter Try.func40, Try.ntmps40
  go_upto_region 1 with fail
  refine nw _ fun R hR => ?_
  have x0 : Bx 81 R w.heap.size [.int .i64 sh, .int .u64 sl, .int .i64 th, .int .u64 tl] := by rw [hR]; exact (Bx.new _ _ _).alloc _
  have x1 : Bx 24 R (w.heap.size + 1) [.int .i64 0, .int .u64 0] := by rw [hR]; exact bx_2nd _ _ _ _
  have hb : Below w.heap.size w R := by rw [hR]; exact bl_al (bl_al (Below.refl _ _) _) _
  have hlk := look R ((hb.block B hB).trans hb0)
  have k0 := x0.cell (j := 0) rfl; have k1 := x0.cell (j := 1) rfl; have k2 := x0.cell (j := 2) rfl; have k3 := x0.cell (j := 3) rfl
  have X0 := Lib.hid x0; have X1 := Lib.hid x1; have HB := Lib.hid hb
  have zk := x0.lt
  clear look hR x0 x1 hb
  go_upto_region 3 with fail
  refine nw _ fun S hS => ?_
  have b0 : Bx 24 S R.heap.size [.int .i64 vh, .int .u64 vl] := by rw [hS]; exact Bx.new _ _ _
  have hb2 : Below R.heap.size R S := by rw [hS]; exact bl_al (Below.refl _ _) _
  have x2 := X1.out.below hb2
  have HB2 := Lib.hid (bl_trans HB.out hb2)
  obtain ⟨q0, q1⟩ := x2.c2; obtain ⟨r0, r1⟩ := b0.c2
  have qf := x2.frz; have zq := x2.lt
  clear hS b0 hb2 X0 X1 HB x2 hlk k0 k1 k2 k3 zk
  generalize R.heap.size = g at *
  go_wp2_with fail
  refine bodyPost_ret (by simp [results, Try.results40, go_sem, *]; try rfl) rfl ?_
  exact ⟨rfl, bb⟩
set_option maxRecDepth 20000 in
set_option maxHeartbeats 8000000 in
theorem grown_over (B : Nat) (sh sl th tl vh vl ee : Int) (hee : ee ≠ 0) (es : Array MapEntry) (cl : Nat) (w : World) (hb0 : w.heap[B]? = some (.map es cl))
    (look : ∀ W : World, W.heap[B]? = some (.map es cl) → (Instr.lookup 77 (.map (some B)) (.agg #[.int .i64 sh, .int .u64 sl, .int .i64 th, .int .u64 tl]) true).run Try.prog W = .ok (.tuple #[.agg #[.int .i64 0, .int .u64 0], .bool false]) W)
    (K1 : Ct 37 #[.agg #[.int .i64 sh, .int .u64 sl], .agg #[.int .i64 th, .int .u64 tl]] (.tuple #[.agg #[.int .i64 vh, .int .u64 vl], .int .i64 ee])) :
    Calls Try.prog 40 #[.map (some B), .agg #[.int .i64 sh, .int .u64 sl, .int .i64 th, .int .u64 tl]] w fun e' w' => e' = .returned (.tuple #[.agg #[.int .i64 0, .int .u64 0], .int .i64 ee]) ∧ Below w.heap.size w w' := by
  have C1 := Lib.hid K1
  clear K1
  have nz : (ee == 0) = false := by rw [beq_eq_false_iff_ne]; exact hee
  have hB : B < w.heap.size := (Array.getElem?_eq_some_iff.1 hb0).1
  go_enter Try.func40, Try.ntmps40
  go_upto_region 1 with fail
  refine nw _ fun R hR => ?_
  have x0 : Bx 81 R w.heap.size [.int .i64 sh, .int .u64 sl, .int .i64 th, .int .u64 tl] := by rw [hR]; exact (Bx.new _ _ _).alloc _
  have x1 : Bx 24 R (w.heap.size + 1) [.int .i64 0, .int .u64 0] := by rw [hR]; exact bx_2nd _ _ _ _
  have hb : Below w.heap.size w R := by rw [hR]; exact bl_al (bl_al (Below.refl _ _) _) _
  have hlk := look R ((hb.block B hB).trans hb0)
  have k0 := x0.cell (j := 0) rfl; have k1 := x0.cell (j := 1) rfl; have k2 := x0.cell (j := 2) rfl; have k3 := x0.cell (j := 3) rfl
  have X0 := Lib.hid x0; have X1 := Lib.hid x1; have HB := Lib.hid hb
  have zk := x0.lt
  clear look hR x0 x1 hb
  go_upto_region 4 with fail
  refine nw _ fun R2 hR2 => ?_
  have hb2 : Below R.heap.size R R2 := by rw [hR2]; exact bl_al (Below.refl _ _) _
  have Y0 := Lib.hid (X0.out.below hb2); have Y1 := Lib.hid (X1.out.below hb2); have HB2 := Lib.hid (bl_trans HB.out hb2)
  have l0 := Y0.out.cell (j := 0) rfl; have l1 := Y0.out.cell (j := 1) rfl; have l2 := Y0.out.cell (j := 2) rfl; have l3 := Y0.out.cell (j := 3) rfl
  have zl := Y0.out.lt
  clear hR2 hb2 X0 X1 HB k0 k1 k2 k3 zk hlk
  go_wp2_with fail
  refine (C1.out _).mono ?_
  rintro e w1 ⟨rfl, hb1⟩
  have Z0 := Lib.hid (Y0.out.below hb1); have Z1 := Lib.hid (Y1.out.below hb1); have HB3 := Lib.hid (bl_trans HB2.out hb1)
  clear hb1 Y0 Y1 HB2 l0 l1 l2 l3 zl
  have y1 := Z1.out
  obtain ⟨q0, q1⟩ := y1.c2
  have qf := y1.frz; have zq := y1.lt
  clear Z0 Z1 y1
  go_wp2_with fail
  refine bodyPost_ret (by simp [results, Try.results40, go_sem, *]; try rfl) rfl ?_
  exact ⟨rfl, bb⟩
set_option maxRecDepth 20000 in
set_option maxHeartbeats 8000000 in
theorem grown_made (B : Nat) (sh sl th tl vh vl : Int) (es es2 : Array MapEntry) (cl cl2 : Nat) (w : World) (hb0 : w.heap[B]? = some (.map es cl))
    (look : ∀ W : World, W.heap[B]? = some (.map es cl) → (Instr.lookup 77 (.map (some B)) (.agg #[.int .i64 sh, .int .u64 sl, .int .i64 th, .int .u64 tl]) true).run Try.prog W = .ok (.tuple #[.agg #[.int .i64 0, .int .u64 0], .bool false]) W)
    (put : ∀ W : World, W.heap[B]? = some (.map es cl) → (Instr.mapUpdate 77 (.map (some B)) (.agg #[.int .i64 sh, .int .u64 sl, .int .i64 th, .int .u64 tl]) (.agg #[.int .i64 vh, .int .u64 vl])).run Try.prog W = .ok () (setBlock W B (.map es2 cl2)))
    (K1 : Ct 37 #[.agg #[.int .i64 sh, .int .u64 sl], .agg #[.int .i64 th, .int .u64 tl]] (.tuple #[.agg #[.int .i64 vh, .int .u64 vl], .int .i64 0])) :
    Calls Try.prog 40 #[.map (some B), .agg #[.int .i64 sh, .int .u64 sl, .int .i64 th, .int .u64 tl]] w fun e' w' => e' = .returned (.tuple #[.agg #[.int .i64 vh, .int .u64 vl], .int .i64 0]) ∧ w.grownBy w' (some B) ∧ w'.heap[B]? = some (.map es2 cl2) := by
  have C1 := Lib.hid K1
  clear K1
  have hB : B < w.heap.size := (Array.getElem?_eq_some_iff.1 hb0).1
  go_enter Try.func40, Try.ntmps40
  go_upto_region 1 with fail
  refine nw _ fun R hR => ?_
  have x0 : Bx 81 R w.heap.size [.int .i64 sh, .int .u64 sl, .int .i64 th, .int .u64 tl] := by rw [hR]; exact (Bx.new _ _ _).alloc _
  have x1 : Bx 24 R (w.heap.size + 1) [.int .i64 0, .int .u64 0] := by rw [hR]; exact bx_2nd _ _ _ _
  have hb : Below w.heap.size w R := by rw [hR]; exact bl_al (bl_al (Below.refl _ _) _) _
  have hlk := look R ((hb.block B hB).trans hb0)
  have k0 := x0.cell (j := 0) rfl; have k1 := x0.cell (j := 1) rfl; have k2 := x0.cell (j := 2) rfl; have k3 := x0.cell (j := 3) rfl
  have X0 := Lib.hid x0; have X1 := Lib.hid x1; have HB := Lib.hid hb
  have zk := x0.lt
  clear look hR x0 x1 hb
  go_upto_region 4 with fail
  refine nw _ fun R2 hR2 => ?_
  have hb2 : Below R.heap.size R R2 := by rw [hR2]; exact bl_al (Below.refl _ _) _
  have Y0 := Lib.hid (X0.out.below hb2); have Y1 := Lib.hid (X1.out.below hb2); have HB2 := Lib.hid (bl_trans HB.out hb2)
  have l0 := Y0.out.cell (j := 0) rfl; have l1 := Y0.out.cell (j := 1) rfl; have l2 := Y0.out.cell (j := 2) rfl; have l3 := Y0.out.cell (j := 3) rfl
  have zl := Y0.out.lt
  clear hR2 hb2 X0 X1 HB k0 k1 k2 k3 zk hlk
  go_wp2_with fail
  refine (C1.out _).mono ?_
  rintro e w1 ⟨rfl, hb1⟩
  have Z0 := Lib.hid (Y0.out.below hb1); have Z1 := Lib.hid (Y1.out.below hb1); have HB3 := Lib.hid (bl_trans HB2.out hb1)
  clear hb1 Y0 Y1 HB2 l0 l1 l2 l3 zl
  go_upto_region 7 with fail
  refine nw _ fun S hS => ?_
  have v0 : Bx 24 S w1.heap.size [.int .i64 vh, .int .u64 vl] := by rw [hS]; exact Bx.new _ _ _
  have hb4 : Below w1.heap.size w1 S := by rw [hS]; exact bl_al (Below.refl _ _) _
  have y0 := Z0.out.below hb4
  have k0 := y0.cell (j := 0) rfl; have k1 := y0.cell (j := 1) rfl; have k2 := y0.cell (j := 2) rfl; have k3 := y0.cell (j := 3) rfl
  have U1 := Lib.hid (Z1.out.below hb4); have HB4 := Lib.hid (bl_trans HB3.out hb4)
  have zs : w.heap.size + 1 < w1.heap.size := Z1.out.lt
  obtain ⟨r0, r1⟩ := v0.c2
  have V0 := Lib.hid v0
  have hSb : S.heap[B]? = some (.map es cl) := (HB4.out.block B hB).trans hb0
  have hpt := put S hSb
  clear put hS v0 hb4 y0 Z0 Z1 HB3
  generalize w1.heap.size = g at *
  go_upto_region 8 with fail
  refine nw _ fun Y hY => ?_
  have zv : g ≠ B := by omega
  have zr : w.heap.size + 1 ≠ B := by omega
  have hYb : Y.heap[B]? = some (.map es2 cl2) := by rw [hY]; exact ChangeMaps.heap_setBlock_same hSb _
  have GY : Hid (w.grownBy Y (some B)) := by rw [hY]; exact grown_put (grown_below HB4.out) _
  have e1 : Y.heap[w.heap.size + 1]? = S.heap[w.heap.size + 1]? := by rw [hY]; show (S.heap.setIfInBounds B _)[_]? = _; rw [Array.getElem?_setIfInBounds_ne (fun e => zr e.symm)]
  have e0 : Y.heap[g]? = S.heap[g]? := by rw [hY]; show (S.heap.setIfInBounds B _)[_]? = _; rw [Array.getElem?_setIfInBounds_ne (fun e => zv e.symm)]
  have x2 := U1.out.block e1
  have b0 := V0.out.block e0
  obtain ⟨q0, q1⟩ := x2.c2; obtain ⟨p0, p1⟩ := b0.c2
  have qf := x2.frz
  have zq := x2.lt
  clear hY hpt hSb r0 r1 k0 k1 k2 k3 e0 e1 x2 b0 U1 V0 HB4
  go_wp2_with fail
  refine bodyPost_ret (by simp [results, Try.results40, go_sem, *]; try rfl) rfl ?_
  refine ⟨rfl, ?_, ?_⟩
  · refine grown_cell (grown_cell GY.out _ _ _ ?_) _ _ _ ?_ <;> omega
  · rw [set_heap _ _ _ zr, set_heap _ _ _ zr]; exact hYb
/-- How strong a pull becomes; the map stays as it should be. -/
theorem grown_any (B : Nat) (s u : Int) (hs : My s) (hu : My u) (w : World) (hp : Pls w B) :
    Calls Try.prog 40 #[.map (some B), vec s u] w fun e w' => e = .returned (.tuple #[fxv (ov (mulr s u)), .int .i64 (oe (mulr s u))]) ∧ w.grownBy w' (some B) ∧ Pls w' B := by
  obtain ⟨es, cl, hb, hes⟩ := hp
  have fs := hs.fx; have fu := hu.fx
  obtain ⟨l, hk⟩ := pull_key fs fu
  have hkeys : ∀ e ∈ es.toList, ∃ l, keyOf Try.prog 81 e.key = some l := fun e he => by
    obtain ⟨s', u', h1, h2, _, h3, _⟩ := hes e he
    rw [h3]; exact pull_key h1 h2
  have keep : ∀ w', Below w.heap.size w w' → w.grownBy w' (some B) ∧ Pls w' B := fun w' hbl => ⟨grown_below hbl, es, cl, (hbl.block B (Array.getElem?_eq_some_iff.1 hb).1).trans hb, hes⟩
  by_cases hin : ∃ e ∈ es.toList, e.key = vec s u
  · obtain ⟨e0, he0, hk0⟩ := hin
    obtain ⟨s', u', h1, h2, h4, h3, _⟩ := hes e0 he0
    rw [hk0] at h3
    obtain ⟨rfl, rfl⟩ := vec_inj h3
    rw [ov_in h4, oe_in h4]
    refine (grown_hit B _ _ _ _ (fh (mulr s u)) (fl (mulr s u)) es cl w hb fun W hW => ?_).mono fun e w' ⟨he, hbl⟩ => ⟨he, keep w' hbl⟩
    rcases pull_look hW hk hkeys with ⟨e, he, h1, h2⟩ | ⟨h1, _⟩
    · obtain ⟨s', u', _, _, _, h5, h6⟩ := hes e he
      rw [h1] at h5
      obtain ⟨rfl, rfl⟩ := vec_inj h5
      rw [h6] at h2
      exact h2
    · exact absurd hk0 (h1 e0 he0)
  · have hne : ∀ e ∈ es.toList, e.key ≠ vec s u := fun e he h => hin ⟨e, he, h⟩
    have K := fmul_any s u hs hu
    have L : ∀ W : World, W.heap[B]? = some (.map es cl) → (Instr.lookup 77 (.map (some B)) (vec s u) true).run Try.prog W = .ok (.tuple #[.agg #[.int .i64 0, .int .u64 0], .bool false]) W := fun W hW => by
      rcases pull_look hW hk hkeys with ⟨e, he, h1, _⟩ | ⟨_, h2⟩
      · exact absurd h1 (hne e he)
      · exact h2
    by_cases ho : My (mulr s u)
    · rw [ov_in ho, oe_in ho] at K ⊢
      refine (grown_made B _ _ _ _ (fh (mulr s u)) (fl (mulr s u)) es _ cl _ w hb L (fun W hW => pull_put hW hk hkeys hne) K).mono fun e w' ⟨he, hg, hh⟩ => ⟨he, hg, _, _, hh, fun x hx => ?_⟩
      rw [Array.toList_push] at hx
      rcases List.mem_append.1 hx with h | h
      · exact hes x h
      · simp at h; subst h
        exact ⟨s, u, fs, fu, ho, rfl, rfl⟩
    · have e1 : oe (mulr s u) = 3 := oe_out ho
      have e2 : ov (mulr s u) = 0 := if_neg ho
      rw [e1, e2] at K ⊢
      simp only [fxv, zero_words.1, zero_words.2] at K ⊢
      exact (grown_over B _ _ _ _ 0 0 3 (by decide) es cl w hb L K).mono fun e w' ⟨he, hbl⟩ => ⟨he, keep w' hbl⟩
end Go.Proofs.Ytmmlekgojblopaa
