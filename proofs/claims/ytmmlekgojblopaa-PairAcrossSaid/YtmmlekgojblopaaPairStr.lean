/- How strongly two bodies pull: the program's. -/
import Derived.Test.YtmmlekgojblopaaPairGrow
import Derived.Test.YtmmlekgojblopaaPairApart
import Derived.LoopN
namespace Go.Proofs.Ytmmlekgojblopaa
open Go.RowKit
section
variable {t : TypeId} {w w' : World} {g B : Nat} {cs : List Value}
theorem Bx.grown (h : Bx t w g cs) (k : w.grownBy w' (some B)) (hne : g ≠ B) : Bx t w' g cs := h.block (k.block g h.lt (fun e => hne (Option.some.inj e)))
theorem Pls.lt (h : Pls w B) : B < w.heap.size := by
  obtain ⟨es, cl, hb, _⟩ := h
  exact (Array.getElem?_eq_some_iff.1 hb).1
theorem Pls.keep (h : Pls w B) (e : w'.heap[B]? = w.heap[B]?) : Pls w' B := by
  obtain ⟨es, cl, hb, q⟩ := h
  exact ⟨es, cl, e.trans hb, q⟩
theorem Pls.new (u : World) : Pls (u.alloc (.map #[] 0)) u.heap.size := ⟨#[], 0, by rw [heap_alloc_new], fun e he => by simp at he⟩
theorem Pls.alloc (h : Pls w B) (o : Obj) : Pls (w.alloc o) B := h.keep (Below.heap_alloc w o B h.lt)
theorem bl_grown {u : World} (h : Below u.heap.size u w) (k : w.grownBy w' (some B)) (hB : u.heap.size ≤ B) : Below u.heap.size u w' :=
  h.trans (by
    refine ⟨k.os, k.tape, k.output, k.size, fun i hi => k.block i (Nat.lt_of_lt_of_le hi h.size) (fun e => ?_)⟩
    have := Option.some.inj e
    omega)
end
set_option maxRecDepth 20000 in
set_option maxHeartbeats 8000000 in
theorem strength_core (gh gl ah al bh bl th tl mh ml me nh nl ne oh ol oe : Int) (w : World)
    (C1 : ∀ (W : World) (B : Nat), Pls W B → Calls Try.prog 40 #[.map (some B), .agg #[.int .i64 ah, .int .u64 al, .int .i64 bh, .int .u64 bl]] W fun e w' => e = .returned (.tuple #[.agg #[.int .i64 mh, .int .u64 ml], .int .i64 me]) ∧ W.grownBy w' (some B) ∧ Pls w' B)
    (C2 : ∀ (W : World) (B : Nat), Pls W B → Calls Try.prog 40 #[.map (some B), .agg #[.int .i64 mh, .int .u64 ml, .int .i64 gh, .int .u64 gl]] W fun e w' => e = .returned (.tuple #[.agg #[.int .i64 nh, .int .u64 nl], .int .i64 ne]) ∧ W.grownBy w' (some B) ∧ Pls w' B)
    (C3 : ∀ (W : World) (B : Nat), Pls W B → Calls Try.prog 40 #[.map (some B), .agg #[.int .i64 nh, .int .u64 nl, .int .i64 th, .int .u64 tl]] W fun e w' => e = .returned (.tuple #[.agg #[.int .i64 oh, .int .u64 ol], .int .i64 oe]) ∧ W.grownBy w' (some B) ∧ Pls w' B) :
    Calls Try.prog 22 #[.agg #[.int .i64 gh, .int .u64 gl], .agg #[.int .i64 ah, .int .u64 al], .agg #[.int .i64 bh, .int .u64 bl], .agg #[.int .i64 th, .int .u64 tl]] w fun e w' => e = .returned (chz z1e [me, ne, oe] (.tuple #[.agg #[.int .i64 oh, .int .u64 ol], .int .i64 0])) ∧ Below w.heap.size w w' := by
  have K1 := Lib.hid C1; have K2 := Lib.hid C2; have K3 := Lib.hid C3
  clear C1 C2 C3
  have hmm := @run_makeMap Try.prog
  go_enter Try.func22, Try.ntmps22
  go_upto_region 1 with fail
  refine nw _ fun y0 hy => ?_
  have bG : Bx 24 y0 (w.heap.size) [.int .i64 gh, .int .u64 gl] := by
    have k := Bx.new w 24 #[.int .i64 gh, .int .u64 gl]
    rw [hy]; exact ((((k.alloc _).alloc _).alloc _).alloc _)
  have bA : Bx 24 y0 (w.heap.size + 1) [.int .i64 ah, .int .u64 al] := by
    have k := Bx.new (w.alloc (.cells #[.int .i64 gh, .int .u64 gl] 24)) 24 #[.int .i64 ah, .int .u64 al]
    simp only [World.size_alloc] at k
    rw [hy]; exact (((k.alloc _).alloc _).alloc _)
  have bB : Bx 24 y0 (w.heap.size + 1 + 1) [.int .i64 bh, .int .u64 bl] := by
    have k := Bx.new ((w.alloc (.cells #[.int .i64 gh, .int .u64 gl] 24)).alloc (.cells #[.int .i64 ah, .int .u64 al] 24)) 24 #[.int .i64 bh, .int .u64 bl]
    simp only [World.size_alloc] at k
    rw [hy]; exact ((k.alloc _).alloc _)
  have bH : Bx 24 y0 (w.heap.size + 1 + 1 + 1) [.int .i64 th, .int .u64 tl] := by
    have k := Bx.new (((w.alloc (.cells #[.int .i64 gh, .int .u64 gl] 24)).alloc (.cells #[.int .i64 ah, .int .u64 al] 24)).alloc (.cells #[.int .i64 bh, .int .u64 bl] 24)) 24 #[.int .i64 th, .int .u64 tl]
    simp only [World.size_alloc] at k
    rw [hy]; exact (k.alloc _)
  have bR : Bx 24 y0 (w.heap.size + 1 + 1 + 1 + 1) [.int .i64 0, .int .u64 0] := by
    have k := Bx.new ((((w.alloc (.cells #[.int .i64 gh, .int .u64 gl] 24)).alloc (.cells #[.int .i64 ah, .int .u64 al] 24)).alloc (.cells #[.int .i64 bh, .int .u64 bl] 24)).alloc (.cells #[.int .i64 th, .int .u64 tl] 24)) 24 #[.int .i64 0, .int .u64 0]
    simp only [World.size_alloc] at k
    rw [hy]; exact k
  have H0 : Hid (Below w.heap.size w y0) := by rw [hy]; exact bl_al (bl_al (bl_al (bl_al (bl_al (Below.refl _ _) _) _) _) _) _
  have BG := Lib.hid bG
  have BA := Lib.hid bA
  have BB := Lib.hid bB
  have BH := Lib.hid bH
  have BR := Lib.hid bR
  clear hy bG bA bB bH bR
  have a0 := BA.out.cell (j := 0) rfl; have a1 := BA.out.cell (j := 1) rfl
  have QA := stays a0 BA.out.lt; have QA1 := stays a1 BA.out.lt
  go_cut [10, 11] (fun s0 s1 wz => ∃ M g, s0 = .map (some M) ∧ s1 = .pointer (some ⟨g, 0, none⟩) ∧ g ≠ M ∧ y0.heap.size ≤ M ∧ y0.heap.size ≤ g ∧ Pls wz M ∧ Bx 24 wz g [.int .i64 ah, .int .u64 al] ∧ Below y0.heap.size y0 wz)
  case first =>
    go_region_held3 (fun w' => Below y0.heap.size y0 w') (exact bs) (fail)
    · rename_i hHeld; clear hHeld; go_wp2_with fail; go_meet
      exact ⟨_, _, rfl, rfl, by omega, by omega, by omega, ((Pls.new y0).alloc _), bx_2nd _ _ _ _, (bl_al (bl_al (Below.refl _ _) _) _).drew⟩
    · rename_i hHeld; clear hHeld; go_wp2_with fail; go_meet
      refine ⟨_, _, rfl, rfl, by omega, by omega, by omega, ?_, ((Bx.new _ _ _).alloc _), (bl_al (bl_al (Below.refl _ _) _) _).drew⟩
      have k := Pls.new (y0.alloc (.cells #[.int .i64 ah, .int .u64 al] 24))
      rw [World.size_alloc] at k; exact k
  case rest =>
  obtain ⟨M, S, rfl, rfl, hn, hM, hS, hp, hbx, hbl⟩ := hcut
  obtain ⟨y1, hy⟩ : ∃ x : World, x = wc := ⟨wc, rfl⟩
  rw [← hy] at hp hbx hbl ⊢
  have BS := Lib.hid hbx; have BP := Lib.hid hp
  have BR' : Hid (Bx 24 y1 (w.heap.size + 1 + 1 + 1 + 1) [.int .i64 0, .int .u64 0]) := BR.out.below hbl
  have QR : w.heap.size + 1 + 1 + 1 + 1 < y0.heap.size := BR.out.lt
  have g0 := (BG.out.below hbl).cell (j := 0) rfl; have g1 := (BG.out.below hbl).cell (j := 1) rfl; have b0 := (BB.out.below hbl).cell (j := 0) rfl; have b1 := (BB.out.below hbl).cell (j := 1) rfl; have h0 := (BH.out.below hbl).cell (j := 0) rfl; have h1 := (BH.out.below hbl).cell (j := 1) rfl
  have H1 := Lib.hid (bl_trans H0.out hbl)
  have hwM : w.heap.size ≤ M := Nat.le_trans H0.out.size hM
  have hwS : w.heap.size ≤ S := Nat.le_trans H0.out.size hS
  clear hy hp hbx hbl BG BA BB BH BR H0 QA QA1 a0 a1 hmm
  have BR := BR'; clear BR'
  have ix0 : ∀ W, (Instr.index 78 (.agg #[.int .i64 bh, .int .u64 bl, .int .i64 gh, .int .u64 gl, .int .i64 th, .int .u64 tl]) (.int .i64 0)).run Try.prog W = .ok (.agg #[.int .i64 bh, .int .u64 bl]) W := fun W => by simp [Instr.index, asIntOf, go_sem]
  have ix1 : ∀ W, (Instr.index 78 (.agg #[.int .i64 bh, .int .u64 bl, .int .i64 gh, .int .u64 gl, .int .i64 th, .int .u64 tl]) (.int .i64 1)).run Try.prog W = .ok (.agg #[.int .i64 gh, .int .u64 gl]) W := fun W => by simp [Instr.index, asIntOf, go_sem]
  have ix2 : ∀ W, (Instr.index 78 (.agg #[.int .i64 bh, .int .u64 bl, .int .i64 gh, .int .u64 gl, .int .i64 th, .int .u64 tl]) (.int .i64 2)).run Try.prog W = .ok (.agg #[.int .i64 th, .int .u64 tl]) W := fun W => by simp [Instr.index, asIntOf, go_sem]
  go_wp2_with fail
  clear g0 g1 b0 b1 h0 h1
  refine wp_loop_rounds 4 ?_
  rw [rounds_succ]
  go_upto_region 5 with fail
  refine nw _ fun y12 hy => ?_
  have HW : Below y1.heap.size y1 y12 := by rw [hy]; exact bl_al (Below.refl _ _) _
  have BT : Hid (Bx 24 y12 y1.heap.size [.int .i64 bh, .int .u64 bl]) := by rw [hy]; exact Bx.new _ _ _
  have BS' := Lib.hid (BS.out.below HW); have BR' := Lib.hid (BR.out.below HW); have BP' := Lib.hid (BP.out.keep (HW.block M BP.out.lt))
  have HH' := Lib.hid (bl_trans H1.out HW)
  clear hy HW BS BR BP H1
  have BS := BS'; have BR := BR'; have BP := BP'; have H1 := HH'; clear BS' BR' BP' HH'
  obtain ⟨t0, t1⟩ := BT.out.c2; obtain ⟨s0, s1⟩ := BS.out.c2
  go_wp2_with fail
  refine (K1.out _ _ BP.out).mono ?_
  rintro e w1 ⟨rfl, hg, hp⟩
  have BS' := Lib.hid (BS.out.grown hg hn); have BR' := Lib.hid (BR.out.grown hg (by omega)); have HH' := Lib.hid (bl_grown H1.out hg hwM)
  clear BT BS BR BP H1 t0 t1 s0 s1 hg K1
  have BS := BS'; have BR := BR'; have BP := Lib.hid hp; have H1 := HH'; clear BS' BR' HH' hp
  go_upto_region 6 with fail
  refine nw _ fun y13 hy => ?_
  have HW : Below w1.heap.size w1 y13 := by rw [hy]; exact bl_al (Below.refl _ _) _
  have BM : Hid (Bx 24 y13 w1.heap.size [.int .i64 mh, .int .u64 ml]) := by rw [hy]; exact Bx.new _ _ _
  have BS' := Lib.hid (BS.out.below HW); have BR' := Lib.hid (BR.out.below HW); have BP' := Lib.hid (BP.out.keep (HW.block M BP.out.lt))
  have HH' := Lib.hid (bl_trans H1.out HW)
  clear hy HW BS BR BP H1
  have BS := BS'; have BR := BR'; have BP := BP'; have H1 := HH'; clear BS' BR' BP' HH'
  rcases Decidable.em (me = 0) with h | h
  rotate_left
  · have nz : (me == 0) = false := by rw [beq_eq_false_iff_ne]; exact h
    have r0 := BR.out.cell (j := 0) rfl; have r1 := BR.out.cell (j := 1) rfl; have rf := BR.out.frz; have rz := BR.out.lt
    go_wp2_with fail
    refine bodyPost_ret (by simp [results, Try.results22, go_sem, *]; try rfl) rfl ?_
    exact ⟨by simp [chz, z1e, h], bb⟩
  subst h
  obtain ⟨m0, m1⟩ := BM.out.c2; have s0 := BS.out.cell (j := 0) rfl; have s1 := BS.out.cell (j := 1) rfl; have sf := BS.out.frz; have sz := BS.out.lt
  go_upto_region 9 with fail
  refine nw _ fun y14 hy => ?_
  have BS' : Hid (Bx 24 y14 S [.int .i64 mh, .int .u64 ml]) := by rw [hy]; exact (BS.out.putE 0 _ rfl).putE 1 _ rfl
  have BR' : Hid (Bx 24 y14 (w.heap.size + 1 + 1 + 1 + 1) [.int .i64 0, .int .u64 0]) := by rw [hy]; exact (BR.out.far (by simp; omega) _).far (by simp; omega) _
  have BP' : Hid (Pls y14 M) := by rw [hy]; exact BP.out.keep (by rw [Below.heap_setCell _ _ _ _ (fun e => hn e.symm), Below.heap_setCell _ _ _ _ (fun e => hn e.symm)])
  have HH' : Hid (Below w.heap.size w y14) := by rw [hy]; exact (H1.out.setCell hwS _).setCell hwS _
  clear hy BS BR BP H1 BM m0 m1 s0 s1 sf sz
  have BS := BS'; have BR := BR'; have BP := BP'; have H1 := HH'; clear BS' BR' BP' HH'
  go_wp2_with fail
  rw [rounds_succ]
  go_upto_region 5 with fail
  refine nw _ fun y22 hy => ?_
  have HW : Below y14.heap.size y14 y22 := by rw [hy]; exact bl_al (Below.refl _ _) _
  have BT : Hid (Bx 24 y22 y14.heap.size [.int .i64 gh, .int .u64 gl]) := by rw [hy]; exact Bx.new _ _ _
  have BS' := Lib.hid (BS.out.below HW); have BR' := Lib.hid (BR.out.below HW); have BP' := Lib.hid (BP.out.keep (HW.block M BP.out.lt))
  have HH' := Lib.hid (bl_trans H1.out HW)
  clear hy HW BS BR BP H1
  have BS := BS'; have BR := BR'; have BP := BP'; have H1 := HH'; clear BS' BR' BP' HH'
  obtain ⟨t0, t1⟩ := BT.out.c2; obtain ⟨s0, s1⟩ := BS.out.c2
  go_wp2_with fail
  refine (K2.out _ _ BP.out).mono ?_
  rintro e w1 ⟨rfl, hg, hp⟩
  have BS' := Lib.hid (BS.out.grown hg hn); have BR' := Lib.hid (BR.out.grown hg (by omega)); have HH' := Lib.hid (bl_grown H1.out hg hwM)
  clear BT BS BR BP H1 t0 t1 s0 s1 hg K2
  have BS := BS'; have BR := BR'; have BP := Lib.hid hp; have H1 := HH'; clear BS' BR' HH' hp
  go_upto_region 6 with fail
  refine nw _ fun y23 hy => ?_
  have HW : Below w1.heap.size w1 y23 := by rw [hy]; exact bl_al (Below.refl _ _) _
  have BM : Hid (Bx 24 y23 w1.heap.size [.int .i64 nh, .int .u64 nl]) := by rw [hy]; exact Bx.new _ _ _
  have BS' := Lib.hid (BS.out.below HW); have BR' := Lib.hid (BR.out.below HW); have BP' := Lib.hid (BP.out.keep (HW.block M BP.out.lt))
  have HH' := Lib.hid (bl_trans H1.out HW)
  clear hy HW BS BR BP H1
  have BS := BS'; have BR := BR'; have BP := BP'; have H1 := HH'; clear BS' BR' BP' HH'
  rcases Decidable.em (ne = 0) with h | h
  rotate_left
  · have nz : (ne == 0) = false := by rw [beq_eq_false_iff_ne]; exact h
    have r0 := BR.out.cell (j := 0) rfl; have r1 := BR.out.cell (j := 1) rfl; have rf := BR.out.frz; have rz := BR.out.lt
    go_wp2_with fail
    refine bodyPost_ret (by simp [results, Try.results22, go_sem, *]; try rfl) rfl ?_
    exact ⟨by simp [chz, z1e, h], bb⟩
  subst h
  obtain ⟨m0, m1⟩ := BM.out.c2; have s0 := BS.out.cell (j := 0) rfl; have s1 := BS.out.cell (j := 1) rfl; have sf := BS.out.frz; have sz := BS.out.lt
  go_upto_region 9 with fail
  refine nw _ fun y24 hy => ?_
  have BS' : Hid (Bx 24 y24 S [.int .i64 nh, .int .u64 nl]) := by rw [hy]; exact (BS.out.putE 0 _ rfl).putE 1 _ rfl
  have BR' : Hid (Bx 24 y24 (w.heap.size + 1 + 1 + 1 + 1) [.int .i64 0, .int .u64 0]) := by rw [hy]; exact (BR.out.far (by simp; omega) _).far (by simp; omega) _
  have BP' : Hid (Pls y24 M) := by rw [hy]; exact BP.out.keep (by rw [Below.heap_setCell _ _ _ _ (fun e => hn e.symm), Below.heap_setCell _ _ _ _ (fun e => hn e.symm)])
  have HH' : Hid (Below w.heap.size w y24) := by rw [hy]; exact (H1.out.setCell hwS _).setCell hwS _
  clear hy BS BR BP H1 BM m0 m1 s0 s1 sf sz
  have BS := BS'; have BR := BR'; have BP := BP'; have H1 := HH'; clear BS' BR' BP' HH'
  go_wp2_with fail
  rw [rounds_succ]
  go_upto_region 5 with fail
  refine nw _ fun y32 hy => ?_
  have HW : Below y24.heap.size y24 y32 := by rw [hy]; exact bl_al (Below.refl _ _) _
  have BT : Hid (Bx 24 y32 y24.heap.size [.int .i64 th, .int .u64 tl]) := by rw [hy]; exact Bx.new _ _ _
  have BS' := Lib.hid (BS.out.below HW); have BR' := Lib.hid (BR.out.below HW); have BP' := Lib.hid (BP.out.keep (HW.block M BP.out.lt))
  have HH' := Lib.hid (bl_trans H1.out HW)
  clear hy HW BS BR BP H1
  have BS := BS'; have BR := BR'; have BP := BP'; have H1 := HH'; clear BS' BR' BP' HH'
  obtain ⟨t0, t1⟩ := BT.out.c2; obtain ⟨s0, s1⟩ := BS.out.c2
  go_wp2_with fail
  refine (K3.out _ _ BP.out).mono ?_
  rintro e w1 ⟨rfl, hg, hp⟩
  have BS' := Lib.hid (BS.out.grown hg hn); have BR' := Lib.hid (BR.out.grown hg (by omega)); have HH' := Lib.hid (bl_grown H1.out hg hwM)
  clear BT BS BR BP H1 t0 t1 s0 s1 hg K3
  have BS := BS'; have BR := BR'; have BP := Lib.hid hp; have H1 := HH'; clear BS' BR' HH' hp
  go_upto_region 6 with fail
  refine nw _ fun y33 hy => ?_
  have HW : Below w1.heap.size w1 y33 := by rw [hy]; exact bl_al (Below.refl _ _) _
  have BM : Hid (Bx 24 y33 w1.heap.size [.int .i64 oh, .int .u64 ol]) := by rw [hy]; exact Bx.new _ _ _
  have BS' := Lib.hid (BS.out.below HW); have BR' := Lib.hid (BR.out.below HW); have BP' := Lib.hid (BP.out.keep (HW.block M BP.out.lt))
  have HH' := Lib.hid (bl_trans H1.out HW)
  clear hy HW BS BR BP H1
  have BS := BS'; have BR := BR'; have BP := BP'; have H1 := HH'; clear BS' BR' BP' HH'
  rcases Decidable.em (oe = 0) with h | h
  rotate_left
  · have nz : (oe == 0) = false := by rw [beq_eq_false_iff_ne]; exact h
    have r0 := BR.out.cell (j := 0) rfl; have r1 := BR.out.cell (j := 1) rfl; have rf := BR.out.frz; have rz := BR.out.lt
    go_wp2_with fail
    refine bodyPost_ret (by simp [results, Try.results22, go_sem, *]; try rfl) rfl ?_
    exact ⟨by simp [chz, z1e, h], bb⟩
  subst h
  obtain ⟨m0, m1⟩ := BM.out.c2; have s0 := BS.out.cell (j := 0) rfl; have s1 := BS.out.cell (j := 1) rfl; have sf := BS.out.frz; have sz := BS.out.lt
  go_upto_region 9 with fail
  refine nw _ fun y34 hy => ?_
  have BS' : Hid (Bx 24 y34 S [.int .i64 oh, .int .u64 ol]) := by rw [hy]; exact (BS.out.putE 0 _ rfl).putE 1 _ rfl
  have BR' : Hid (Bx 24 y34 (w.heap.size + 1 + 1 + 1 + 1) [.int .i64 0, .int .u64 0]) := by rw [hy]; exact (BR.out.far (by simp; omega) _).far (by simp; omega) _
  have BP' : Hid (Pls y34 M) := by rw [hy]; exact BP.out.keep (by rw [Below.heap_setCell _ _ _ _ (fun e => hn e.symm), Below.heap_setCell _ _ _ _ (fun e => hn e.symm)])
  have HH' : Hid (Below w.heap.size w y34) := by rw [hy]; exact (H1.out.setCell hwS _).setCell hwS _
  clear hy BS BR BP H1 BM m0 m1 s0 s1 sf sz
  have BS := BS'; have BR := BR'; have BP := BP'; have H1 := HH'; clear BS' BR' BP' HH'
  go_wp2_with fail
  rw [rounds_succ]
  have s0 := BS.out.cell (j := 0) rfl; have s1 := BS.out.cell (j := 1) rfl; have sf := BS.out.frz; have sz := BS.out.lt
  have r0 := BR.out.cell (j := 0) rfl; have r1 := BR.out.cell (j := 1) rfl; have rf := BR.out.frz; have rz := BR.out.lt
  go_wp2_with fail
  refine bodyPost_ret (by simp [results, Try.results22, go_sem, *]; try rfl) rfl ?_
  exact ⟨rfl, bb⟩
end Go.Proofs.Ytmmlekgojblopaa
