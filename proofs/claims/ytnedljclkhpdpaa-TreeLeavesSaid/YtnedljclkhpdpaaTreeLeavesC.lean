/- TreeLeaves, from what Build tells. -/
import Derived.Test.YtnedljclkhpdpaaTreeLaw
import Derived.Test.YtnedljclkhpdpaaTreeX
import Derived.Test.YtnedljclkhpdpaaTreeSnd
import Derived.Test.YtnedljclkhpdpaaSortInt
namespace Go.Proofs.Ytnedljclkhpdpaa
open Go.RowKit
theorem int_info : ∃ i, Try.prog.info? 3 = some i ∧ i.zero = some (.int .i64 0) ∧ i.size = 1 ∧ i.bytes = 8 := by
  have h : (Try.prog.info? 3).map (fun i => (i.zero, i.size, i.bytes)) = some (some (.int .i64 0), 1, 8) := by kernel_rfl
  cases hi : Try.prog.info? 3 with
  | none => rw [hi] at h; cases h
  | some i => rw [hi] at h; simp only [Option.map_some, Option.some.injEq, Prod.mk.injEq] at h; exact ⟨i, rfl, h.1, h.2.1, h.2.2⟩
theorem make_ints (m : Nat) (hm : m ≤ 8796093022208) : ∃ cs : Array Value, cs.size = m ∧ (∀ j, j < m → cs[j]? = some (.int .i64 0)) ∧
    ∀ W : World, (Instr.makeSlice 41 (.int .i64 (m : Int)) (.int .i64 (m : Int))).run Try.prog W = .ok (.slice (some ⟨W.heap.size, 0, none⟩) m m) (W.alloc (.cells cs 3)) := by
  obtain ⟨i0, hi, hz0, hz1, hz2⟩ := int_info
  refine ⟨madeCells #[.int .i64 0] m, size_madeCells _ _, fun j hj => ?_, fun W => ?_⟩
  · simp [madeCells, hj, Nat.mod_one]
  · have h := run_make (P := Try.prog) W 41 3 i0 (.int .i64 0) Try.underlying41 hi hz0 .i64 .i64 (m : Int) (m : Int) (by omega) (Int.le_refl _) (by rw [hz2]; omega) (by omega)
    simp only [Int.toNat_natCast, hz1, Nat.mul_one] at h
    exact h
set_option maxRecDepth 20000 in
set_option maxHeartbeats 16000000 in
theorem treeLeaves_walk (BL : BldT) (A : Option Addr) (n c : Nat) (l : List Nat) (hn : n ≤ maxLen) (H : Nat) (hH : H < 18446744073709551616) (w : World) (hl : Bs w A n l) :
    Calls Try.prog 5 #[.slice A n c, .int .u64 (H : Int)] w fun e w' => e = .returned (.bool true) ∧ Below w.heap.size w w' := by
  have K1 := Lib.hid BL; have K3 := Lib.hid (tawake_any BL)
  have KM := Lib.hid (make_any A n c l hn w hl)
  have HH := Lib.hid hH
  clear BL hl hn hH
  go_enter Try.func5, Try.ntmps5
  go_wp2_with fail
  refine KM.out.mono ?_
  rintro e w1 ⟨⟨v1, rfl, hown⟩, b1⟩
  obtain ⟨A1, c1, rfl, hA1, q1⟩ := Ks.of_own hown
  obtain ⟨b, hb⟩ : ∃ b, b = (mk_ l).length := ⟨_, rfl⟩
  have hb1 : b ≤ 100 := by rw [hb, mk_len]; omega
  rw [← hb]
  rw [← hb] at hown hA1
  have HA1 := Lib.hid hA1; have HB1 := Lib.hid b1; have Hb := Lib.hid hb; have Hb1 := Lib.hid hb1
  have HX : Hid (Xm w A1 b c1 0 H (mk_ l) w1) := Xm.start hown b1
  clear hown hA1 q1 b1 KM hb hb1
  go_wp2_with fail
  go_loopg [6] b (fun k iv wr => ∃ i : Nat, i + k = b ∧ iv = .int .i64 (i : Int) ∧ Xm w A1 b c1 i H (mk_ l) wr)
  case atStart => exact ⟨0, by omega, rfl, HX.out⟩
  case round =>
    obtain ⟨i, hk, rfl, hmd⟩ := hrel
    have HM := Lib.hid hmd
    clear hmd HX
    by_cases hlt : i < b
    · obtain ⟨k, rfl⟩ : ∃ k, gk = k + 1 := ⟨gk - 1, by omega⟩
      obtain ⟨h1, h2, h3⟩ := HM.out
      rcases h1 with ⟨_, h0⟩ | ⟨g, rfl, hg, hK⟩
      · omega
      have hx : (mk_ l)[i]? = some ((mk_ l)[i]'(by omega)) := List.getElem?_eq_getElem _
      generalize (mk_ l)[i]'(by omega) = x at hx
      have xk := mk_64 l x (List.mem_of_getElem? hx)
      obtain ⟨c0, d0⟩ := hK.cells i x (xk_at hx)
      have zg := hK.lt
      have fg := hK.frz
      have HX := Lib.hid hx
      have HK : Hid (i + (k + 1) = b) := hk
      have HLt := Lib.hid hlt
      have i1 : (i : Int) < (b : Int) := by omega
      have i0 : (0 : Int) ≤ (i : Int) := by omega
      have wi : IntKind.i64.wrap ((i : Int) + 1) = (i : Int) + 1 := by rw [IntWalk.i64_in _ (by have := Hb1.out; omega)]
      have eo : bits .xor .u64 (x.1 : Int) (H : Int) = ((x.1 ^^^ H : Nat) : Int) := bits_xor_u64_nat _ _ xk HH.out
      clear hx hg hK h2 h3 hk xk hlt d0
      go_wp2_with fail
      go_roundg k
      case measure => omega
      case rel => exact ⟨i + 1, by have := HK.out; omega, by simp, HM.out.step HX.out⟩
    · obtain rfl : i = b := by omega
      have i1 : ¬ (i : Int) < (i : Int) := by omega
      have HB2 := Lib.hid HM.out.2.2
      have HQ2 : Hid (Ks wr A1 i ((mk_ l).map (xk H))) := HM.out.done
      have O2 := Lib.hid (xk_64 HH.out (mk_64 l))
      generalize (mk_ l).map (xk H) = L at *
      clear hk hlt HM Hb
      go_wp2_with fail
      refine (rby_any A1 i c1 L (by have := Hb1.out; omega) HA1.out _ HQ2.out).mono ?_
      intro e w3 h3
      obtain ⟨A3, c3, M, rfl, hc3, q3, o3, s3, b3⟩ := h3.use
      have HO3 := Lib.hid (own_cap o3)
      clear o3
      have HQ3 := Lib.hid q3; have HC3 := Lib.hid hc3; have HRS := Lib.hid (rs_std s3)
      have HB3 := Lib.hid (bl_trans HB2.out b3)
      have OM := Lib.hid (O2.out.std s3)
      clear h3 hc3 q3 s3 b3 HB2 HQ2
      go_wp2_with fail
      refine (K1.out A3 i c3 M (by have := Hb1.out; omega) HC3.out OM.out HO3.out _ HQ3.out).mono ?_
      intro e w4 h4
      obtain ⟨A4, c4, rfl, s4, b4⟩ := h4.use
      have HS4 := Lib.hid s4; have HB4 := Lib.hid (bl_trans HB3.out b4)
      have HT := Lib.hid (bld_len i M (by have := Hb1.out; omega))
      have HOk : Hid (i ≠ 0 → Okt (keyAt M) (bld i M) 0 i 0 i) := fun h => bld_ok HQ3.out.1 h HRS.out OM.out
      have HHd : Hid (i ≠ 0 → ∃ kid, (bld i M)[0]? = some ⟨0, 0, 0, i, kid⟩) := fun h => bld_head h HRS.out
      have hz := bld_nil (n := i) (M := M) HRS.out
      clear h4 s4 b4 HB3 HQ3 HC3 HRS OM O2
      generalize bld i M = T at *
      obtain ⟨m, hm⟩ : ∃ m, m = T.length := ⟨_, rfl⟩
      have HMm := Lib.hid hm
      rw [← hm] at HS4 HT hz ⊢
      clear hm
      by_cases h0 : i = 0
      · subst h0
        obtain rfl := hz.2 rfl
        clear hz
        go_wp2_with fail
        refine (K3.out _).mono ?_
        rintro e w5 ⟨rfl, b5⟩
        have HB5 := Lib.hid (bl_trans HB4.out b5)
        clear b5 HB4
        go_wp2_with fail
        go_returns
        exact ⟨rfl, HB5.out⟩
      have hm0 : m ≠ 0 := fun h => h0 (hz.1 h)
      have HO := Lib.hid (HOk.out h0)
      obtain ⟨hkd, hhd⟩ := HHd.out h0
      obtain ⟨G, o, xh, rfl, zG, hxh, d0, _, d2, d3, _⟩ := nodes_at HS4.out (j := 0) (by omega)
      obtain rfl := Option.some.inj (hhd.symm.trans hxh)
      dsimp only at d0 d2 d3
      simp only [Nat.zero_mul, Nat.add_zero] at d0 d2 d3
      rw [show ((0 : Nat) : Int) = 0 from rfl] at d0 d2
      have mp : (0 : Int) < (m : Int) := by omega
      have mp' : 0 < m := by omega
      have n0 : ((i : Int) == 0) = false := by rw [beq_eq_false_iff_ne]; omega
      have n1 : (i == 0) = false := by rw [beq_eq_false_iff_ne]; omega
      have n2 : ¬ (i : Int) = 0 := by omega
      have m0 : ((m : Int) == 0) = false := by rw [beq_eq_false_iff_ne]; omega
      have m1 : (m == 0) = false := by rw [beq_eq_false_iff_ne]; omega
      have m2 : ¬ (m : Int) = 0 := by omega
      obtain ⟨cs, hcs, hz1, hmk⟩ := make_ints i (by have := Hb1.out; omega)
      have HI : Hid (Ir 41 (w4.alloc (.cells cs 3)) w4.heap.size i (fun _ => 0) ∨ Ir 3 (w4.alloc (.cells cs 3)) w4.heap.size i (fun _ => 0)) := Or.inr (Ir.of_cells w4 hcs hz1)
      have HII : Hid (Ir 3 (w4.alloc (.cells cs 3)) w4.heap.size i (fun _ => 0)) := Ir.of_cells w4 hcs hz1
      clear hz h0 hm0 HOk HHd hhd hxh hcs hz1 HI
      go_wp2_with fail
      go_loopg [10] m (fun k jv wr => ∃ j : Nat, j + k = m ∧ jv = .int .i64 (j : Int) ∧ Ir 3 wr w4.heap.size i (fun k => (cnt (T.take j) k : Int)) ∧ Below w4.heap.size w4 wr)
      case atStart => exact ⟨0, by omega, rfl, HII.out, bl_al (Below.refl _ _) _⟩
      case round =>
        obtain ⟨j, hk, rfl, hir, hbl⟩ := hrel
        have HBj := Lib.hid hbl; have HIj := Lib.hid hir
        clear hbl hir hmk HII d0 d2 d3 mp mp' n0 n1 n2 m0 m1 m2
        by_cases hlt : j < m
        · obtain ⟨k, rfl⟩ : ∃ k, gk = k + 1 := ⟨gk - 1, by omega⟩
          obtain ⟨G', o', x, e', zG', hx, a0, a1, a2, a3, a4, a5, a6, a7⟩ := nodes_at (HS4.out.below HBj.out) (j := j) hlt
          obtain ⟨rfl, rfl⟩ : G = G' ∧ o = o' := by simpa using e'
          have hok := HO.out.all (fun q => T[q]?) (fun q y h => by simpa using h) j x hx
          have HX := Lib.hid hok; have HXJ := Lib.hid hx
          have HK : Hid (j + (k + 1) = m) := hk
          have j1 : (j : Int) < (m : Int) := by omega
          have j0 : (0 : Int) ≤ (j : Int) := by omega
          have wj : IntKind.i64.wrap ((j : Int) + 1) = (j : Int) + 1 := by rw [IntWalk.i64_in _ (by have := HT.out; omega)]
          have y0 : ¬ (x.fr : Int) < 0 := by omega
          have y1 : ¬ (i : Int) < (x.to : Int) := by have := hok.le; omega
          have y2 : ¬ (x.lev : Int) < 0 := by omega
          have y3 : ¬ (32 : Int) < (x.lev : Int) := by have := hok.lev; omega
          have y4 : ¬ (x.to : Int) ≤ (x.fr : Int) := by have := hok.lt; omega
          clear hx hok hk hlt e' zG'
          go_upto_region 17 with fail
          refine nw _ fun R hR => ?_
          have z0 : R.cell? ⟨wr.heap.size, 0, none⟩ = some (.int .i64 (x.lev : Int)) := by rw [hR]; exact cell_of_row _ _ 0 _ _ (0, 0) (heap_alloc_new _ _)
          have z2 : R.cell? ⟨wr.heap.size, 2, none⟩ = some (.int .i64 (x.fr : Int)) := by rw [hR]; exact cell_of_row _ _ 2 _ _ (0, 0) (heap_alloc_new _ _)
          have z3 : R.cell? ⟨wr.heap.size, 3, none⟩ = some (.int .i64 (x.to : Int)) := by rw [hR]; exact cell_of_row _ _ 3 _ _ (0, 0) (heap_alloc_new _ _)
          have zk : Hid (∀ q, q < 4 → R.cell? ⟨wr.heap.size, 4 + q, none⟩ = some (.int .i64 (x.kid q))) := by
            intro q hq
            rw [hR]
            rcases (show q = 0 ∨ q = 1 ∨ q = 2 ∨ q = 3 by omega) with rfl | rfl | rfl | rfl
            · exact cell_of_row _ _ 4 _ _ (0, 0) (heap_alloc_new _ _)
            · exact cell_of_row _ _ 5 _ _ (0, 0) (heap_alloc_new _ _)
            · exact cell_of_row _ _ 6 _ _ (0, 0) (heap_alloc_new _ _)
            · exact cell_of_row _ _ 7 _ _ (0, 0) (heap_alloc_new _ _)
          have zp : wr.heap.size < R.heap.size := by rw [hR]; simp
          have zw : w4.heap.size < wr.heap.size := HIj.out.lt
          have HBR : Hid (Below w4.heap.size w4 R) := by rw [hR]; exact bl_al HBj.out _
          have HIR : Hid (Ir 3 R w4.heap.size i (fun k => (cnt (T.take j) k : Int))) := by rw [hR]; exact HIj.out.alloc _
          clear hR a0 a1 a2 a3 a4 a5 a6 a7 HBj HIj
          generalize wr.heap.size = p at *
          obtain ⟨lev, key, fr, to_, kid⟩ := x
          have HFT : Hid (fr < to_ ∧ to_ ≤ i ∧ lev ≤ 32) := ⟨HX.out.lt, HX.out.le, HX.out.lev⟩
          obtain ⟨ka, kc, hkf, hk0, hk1⟩ := HX.out.kids
          have HKF := Lib.hid hkf; have HK0 := Lib.hid hk0; have HK1 := Lib.hid hk1
          dsimp only at *
          clear HX hkf hk0 hk1
          go_wp2_with fail
          go_loopg [12, 13, 14] 4 (fun y av cv qv wz => ∃ q a c : Nat, q + y = 4 ∧ av = .int .i64 (a : Int) ∧ cv = .int .i64 (c : Int) ∧ qv = .int .i64 (q : Int) ∧ c ≤ q ∧ kf (fun q => T[q]?) (0 + j) lev fr kid q = some (a, c) ∧ Below R.heap.size R wz)
          case atStart => exact ⟨0, fr, 0, rfl, rfl, rfl, rfl, Nat.le_refl _, rfl, Below.refl _ _⟩
          case round =>
            obtain ⟨q, a, c, hq, rfl, rfl, rfl, hcq, hkq, hbz⟩ := hrel
            have HBz := Lib.hid hbz; have HKQ := Lib.hid hkq; have HCQ := Lib.hid hcq
            have x0 := (hbz.cell (p := ⟨p, 0, none⟩) zp).trans z0
            have x2 := (hbz.cell (p := ⟨p, 2, none⟩) zp).trans z2
            have x3 := (hbz.cell (p := ⟨p, 3, none⟩) zp).trans z3
            have xp := Nat.lt_of_lt_of_le zp hbz.size
            clear hkq hcq
            by_cases hlq : q < 4
            · obtain ⟨y, rfl⟩ : ∃ y, gk = y + 1 := ⟨gk - 1, by omega⟩
              have xq := (hbz.cell (p := ⟨p, 4 + q, none⟩) zp).trans (zk.out q hlq)
              have hpre := kf_pre (d := 3 - q) (q := q + 1) (by rw [show q + 1 + (3 - q) = 4 by omega]; exact HKF.out)
              obtain ⟨a', c', hkq'⟩ := hpre
              have hinv := kf_inv HKQ.out hkq'
              have HKQ' := Lib.hid hkq'
              have HQ : Hid (q < 4 ∧ q + (y + 1) = 4) := ⟨hlq, hq⟩
              have q1 : (q : Int) < 4 := by omega
              have q0 : (0 : Int) ≤ (q : Int) := by omega
              have wq : IntKind.i64.wrap ((q : Int) + 1) = (q : Int) + 1 := by rw [IntWalk.i64_in _ (by omega)]
              clear hbz hkq' hq hlq z0 z2 z3 zk
              generalize kid q = kv at *
              rcases hinv with ⟨kn, rfl, rfl⟩ | ⟨kn, yn, hy, hjk, rfl, hyl, rfl, rfl⟩
              · clear x0 x2 x3
                go_wp2_with fail
                go_roundg y
                case measure => omega
                case rel => exact ⟨q + 1, _, _, by have := HQ.out; omega, rfl, rfl, by simp, by have := HCQ.out; omega, HKQ'.out, HBz.out⟩
              · obtain ⟨kk, rfl⟩ : ∃ kk : Nat, kv = (kk : Int) := ⟨kv.toNat, by omega⟩
                rw [Int.toNat_natCast] at hy
                have hkm : kk < m := by rw [HMm.out]; exact (List.getElem?_eq_some_iff.1 hy).1
                obtain ⟨G', o', yn', e', zG', hy', b0, _, b2, b3, _⟩ := nodes_at (HS4.out.below (bl_trans HBR.out HBz.out)) (j := kk) hkm
                obtain ⟨rfl, rfl⟩ : G = G' ∧ o = o' := by simpa using e'
                obtain rfl := Option.some.inj (hy.symm.trans hy')
                have v1 : ¬ (kk : Int) ≤ (j : Int) := by omega
                have v2 : ¬ (m : Int) ≤ (kk : Int) := by omega
                have v3 : (kk : Int) < (m : Int) := by omega
                have v4 : (0 : Int) ≤ (kk : Int) := by omega
                have v5 : ¬ kk ≤ j := by omega
                have v6 : ¬ m ≤ kk := by omega
                have wl : IntKind.i64.wrap ((lev : Int) + 1) = (yn.lev : Int) := by rw [IntWalk.i64_in _ (by have := HFT.out; omega)]; omega
                have wc : IntKind.i64.wrap ((c : Int) + 1) = ((c + 1 : Nat) : Int) := by rw [IntWalk.i64_in _ (by have := HCQ.out; have := HQ.out; omega)]; omega
                clear hy hy' e' zG' hyl hkm x2 x3 hjk
                go_upto_region 25 with fail
                go_region_held3 (fun w' => w'.cell? ⟨p, 0, none⟩ = some (.int .i64 (lev : Int)) ∧ w'.cell? ⟨G, o + kk * 8 + 2, none⟩ = some (.int .i64 (yn.fr : Int)) ∧ w'.cell? ⟨G, o + kk * 8, none⟩ = some (.int .i64 (yn.lev : Int)) ∧ w'.cell? ⟨G, o + kk * 8 + 3, none⟩ = some (.int .i64 (yn.to : Int))) (first | (simp [*, go_sem]; done) | exact ⟨x0, b2, b0, b3⟩) (fail)
                rename_i hHeld
                clear hHeld
                go_wp2_with fail
                go_roundg y
                case measure => omega
                case rel => exact ⟨q + 1, _, c + 1, by have := HQ.out; omega, rfl, by simp, by simp, by have := HCQ.out; omega, HKQ'.out, HBz.out.drew⟩
            · obtain rfl : q = 4 := by omega
              clear hlq hq zk
              obtain ⟨rfl, rfl⟩ := Prod.mk.inj (Option.some.inj (HKQ.out.symm.trans HKF.out))
              have hlf := kf_lf (x := ⟨lev, key, fr, to_, kid⟩) HKQ.out
              have HBw := Lib.hid (bl_trans HBR.out hbz)
              have HIw : Hid (Ir 3 wr w4.heap.size i (fun k => (cnt (T.take j) k : Int))) := HIR.out.below hbz
              have wz : IntKind.i64.wrap ((to_ : Int) - (fr : Int)) = ((to_ - fr : Nat) : Int) := by rw [IntWalk.i64_in _ (by have := HFT.out; have := Hb1.out; omega)]; have := HFT.out; omega
              have h41 : ((4 : Nat) : Int) = 4 := rfl
              rw [h41]
              clear hbz h41 z0 z2 z3 zp
              by_cases hc : c = 0
              · have HLF := Lib.hid (hlf.2 hc)
                have hk := HK0.out hc
                subst hc
                rw [show ((0 : Nat) : Int) = 0 from rfl]
                obtain ⟨z, hzz⟩ : ∃ z, z = to_ - fr := ⟨_, rfl⟩
                rw [← hzz] at wz hk
                have HZ : Hid (fr + z = to_) := by show _ = _; have := HFT.out; omega
                clear hlf hzz
                by_cases h4 : z ≤ 4
                · have h5 : ¬ (4 : Int) < (z : Int) := by omega
                  have h6 : ¬ 4 < z := by omega
                  clear hk h4
                  go_wp2_with fail
                  go_loopg [16] z (fun y sv wz => ∃ s : Nat, fr ≤ s ∧ s + y = to_ ∧ sv = .int .i64 (s : Int) ∧ Ir 3 wz w4.heap.size i (fun k => ((cnt (T.take j) k + if fr ≤ k ∧ k < s then 1 else 0 : Nat) : Int)) ∧ Below w4.heap.size w4 wz ∧ wz.cell? ⟨p, 3, none⟩ = some (.int .i64 (to_ : Int)) ∧ p < wz.heap.size)
                  case atStart => exact ⟨fr, Nat.le_refl _, by have := HZ.out; omega, rfl, HIw.out.congr fun k _ => by rw [if_neg (by omega)]; rfl, HBw.out, x3, xp⟩
                  case round =>
                    obtain ⟨s, hs, hy, rfl, hir, hbl, x3, xp⟩ := hrel
                    have HIs := Lib.hid hir; have HBs := Lib.hid hbl
                    clear hir hbl HIw HBw
                    by_cases hls : s < to_
                    · obtain ⟨y, rfl⟩ : ∃ y, gk = y + 1 := ⟨gk - 1, by omega⟩
                      have hsi : s < i := by have := HFT.out; omega
                      have ci := HIs.out.cell hsi
                      have zi := HIs.out.lt
                      have fi := HIs.out.frz s
                      rw [if_neg (by omega), Nat.add_zero] at ci
                      have hle : cnt (T.take j) s ≤ 1 := by
                        have h1 := cnt_app (T.take j) (T.drop j) s
                        rw [List.take_append_drop, HO.out.cnt s, if_pos ⟨Nat.zero_le _, hsi⟩] at h1
                        omega
                      have HS : Hid (s < i ∧ fr ≤ s ∧ s + (y + 1) = to_) := ⟨hsi, hs, hy⟩
                      have s1 : (s : Int) < (to_ : Int) := by omega
                      have s0 : (0 : Int) ≤ (s : Int) := by omega
                      have s2 : (s : Int) < (i : Int) := by omega
                      have ws : IntKind.i64.wrap ((s : Int) + 1) = (s : Int) + 1 := by rw [IntWalk.i64_in _ (by have := HFT.out; have := Hb1.out; omega)]
                      have wc : IntKind.i64.wrap (((cnt (T.take j) s : Nat) : Int) + 1) = ((cnt (T.take j) s + 1 : Nat) : Int) := by rw [IntWalk.i64_in _ (by omega)]; omega
                      have HPW : Hid (p ≠ w4.heap.size) := by show _ ≠ _; omega
                      clear hls hsi hle hs hy
                      generalize hcn : cnt (T.take j) s = cn at *
                      have HCN := Lib.hid hcn
                      clear hcn
                      go_wp2_with fail
                      go_roundg y
                      case measure => omega
                      case rel =>
                        refine ⟨s + 1, by have := HS.out; omega, by have := HS.out; omega, by simp, ?_, Below.setCell HBs.out (Nat.le_refl _) _, ?_, by simpa using xp⟩
                        · have k := HIs.out.put HS.out.1 ((cn + 1 : Nat) : Int)
                          refine k.congr fun u _ => ?_
                          by_cases hu : u = s
                          · subst hu
                            rw [if_pos rfl, if_pos (by have := HS.out; omega), HCN.out]
                          · rw [if_neg hu]
                            by_cases hc : fr ≤ u ∧ u < s
                            · rw [if_pos hc, if_pos (by omega)]
                            · rw [if_neg hc, if_neg (by omega)]
                        · rw [World.cell?_setCell_far _ _ _ _ (show w4.heap.size ≠ p from fun e => HPW.out e.symm)]; exact x3
                    · obtain rfl : s = to_ := by omega
                      have s1 : ¬ (s : Int) < (s : Int) := by omega
                      clear hls hy
                      go_wp2_with fail
                      go_roundg k
                      case measure => omega
                      case rel =>
                        refine ⟨j + 1, by have := HK.out; omega, by simp, HIs.out.congr fun u _ => ?_, HBs.out⟩
                        rw [take_snoc_nd HXJ.out u]
                        show _ = ((cnt (T.take j) u + if lf (⟨lev, key, fr, s, kid⟩ : Nd) = true ∧ fr ≤ u ∧ u < s then 1 else 0 : Nat) : Int)
                        rw [HLF.out]
                        by_cases hc : fr ≤ u ∧ u < s
                        · rw [if_pos hc, if_pos ⟨rfl, hc⟩]
                        · rw [if_neg hc, if_neg (fun h => hc h.2)]
                · obtain rfl : lev = 32 := by omega
                  have h5 : (4 : Int) < (z : Int) := by omega
                  have h6 : 4 < z := by omega
                  rw [show ((32 : Nat) : Int) = 32 from rfl] at x0
                  clear hk h4
                  go_wp2_with fail
                  go_loopg [16] z (fun y sv wz => ∃ s : Nat, fr ≤ s ∧ s + y = to_ ∧ sv = .int .i64 (s : Int) ∧ Ir 3 wz w4.heap.size i (fun k => ((cnt (T.take j) k + if fr ≤ k ∧ k < s then 1 else 0 : Nat) : Int)) ∧ Below w4.heap.size w4 wz ∧ wz.cell? ⟨p, 3, none⟩ = some (.int .i64 (to_ : Int)) ∧ p < wz.heap.size)
                  case atStart => exact ⟨fr, Nat.le_refl _, by have := HZ.out; omega, rfl, HIw.out.congr fun k _ => by rw [if_neg (by omega)]; rfl, HBw.out, x3, xp⟩
                  case round =>
                    obtain ⟨s, hs, hy, rfl, hir, hbl, x3, xp⟩ := hrel
                    have HIs := Lib.hid hir; have HBs := Lib.hid hbl
                    clear hir hbl HIw HBw
                    by_cases hls : s < to_
                    · obtain ⟨y, rfl⟩ : ∃ y, gk = y + 1 := ⟨gk - 1, by omega⟩
                      have hsi : s < i := by have := HFT.out; omega
                      have ci := HIs.out.cell hsi
                      have zi := HIs.out.lt
                      have fi := HIs.out.frz s
                      rw [if_neg (by omega), Nat.add_zero] at ci
                      have hle : cnt (T.take j) s ≤ 1 := by
                        have h1 := cnt_app (T.take j) (T.drop j) s
                        rw [List.take_append_drop, HO.out.cnt s, if_pos ⟨Nat.zero_le _, hsi⟩] at h1
                        omega
                      have HS : Hid (s < i ∧ fr ≤ s ∧ s + (y + 1) = to_) := ⟨hsi, hs, hy⟩
                      have s1 : (s : Int) < (to_ : Int) := by omega
                      have s0 : (0 : Int) ≤ (s : Int) := by omega
                      have s2 : (s : Int) < (i : Int) := by omega
                      have ws : IntKind.i64.wrap ((s : Int) + 1) = (s : Int) + 1 := by rw [IntWalk.i64_in _ (by have := HFT.out; have := Hb1.out; omega)]
                      have wc : IntKind.i64.wrap (((cnt (T.take j) s : Nat) : Int) + 1) = ((cnt (T.take j) s + 1 : Nat) : Int) := by rw [IntWalk.i64_in _ (by omega)]; omega
                      have HPW : Hid (p ≠ w4.heap.size) := by show _ ≠ _; omega
                      clear hls hsi hle hs hy
                      generalize hcn : cnt (T.take j) s = cn at *
                      have HCN := Lib.hid hcn
                      clear hcn
                      go_wp2_with fail
                      go_roundg y
                      case measure => omega
                      case rel =>
                        refine ⟨s + 1, by have := HS.out; omega, by have := HS.out; omega, by simp, ?_, Below.setCell HBs.out (Nat.le_refl _) _, ?_, by simpa using xp⟩
                        · have k := HIs.out.put HS.out.1 ((cn + 1 : Nat) : Int)
                          refine k.congr fun u _ => ?_
                          by_cases hu : u = s
                          · subst hu
                            rw [if_pos rfl, if_pos (by have := HS.out; omega), HCN.out]
                          · rw [if_neg hu]
                            by_cases hc : fr ≤ u ∧ u < s
                            · rw [if_pos hc, if_pos (by omega)]
                            · rw [if_neg hc, if_neg (by omega)]
                        · rw [World.cell?_setCell_far _ _ _ _ (show w4.heap.size ≠ p from fun e => HPW.out e.symm)]; exact x3
                    · obtain rfl : s = to_ := by omega
                      have s1 : ¬ (s : Int) < (s : Int) := by omega
                      clear hls hy
                      go_wp2_with fail
                      go_roundg k
                      case measure => omega
                      case rel =>
                        refine ⟨j + 1, by have := HK.out; omega, by simp, HIs.out.congr fun u _ => ?_, HBs.out⟩
                        rw [take_snoc_nd HXJ.out u]
                        show _ = ((cnt (T.take j) u + if lf (⟨32, key, fr, s, kid⟩ : Nd) = true ∧ fr ≤ u ∧ u < s then 1 else 0 : Nat) : Int)
                        rw [HLF.out]
                        by_cases hc : fr ≤ u ∧ u < s
                        · rw [if_pos hc, if_pos ⟨rfl, hc⟩]
                        · rw [if_neg hc, if_neg (fun h => hc h.2)]
              · have HLF : Hid (lf (⟨lev, key, fr, to_, kid⟩ : Nd) = false) := Bool.eq_false_iff.2 fun h => hc (hlf.1 h)
                obtain ⟨hat, hgt⟩ := HK1.out hc
                subst hat
                have c0 : ((c : Int) == 0) = false := by rw [beq_eq_false_iff_ne]; omega
                have c1' : (c == 0) = false := by rw [beq_eq_false_iff_ne]; omega
                have c2 : ¬ (c : Int) = 0 := by omega
                have c3 : ¬ c = 0 := hc
                have h5 : ¬ ((a - fr : Nat) : Int) ≤ 4 := by omega
                have h6 : ¬ a - fr ≤ 4 := by omega
                clear hlf hgt hc
                generalize a - fr = z at *
                go_wp2_with fail
                go_roundg k
                case measure => omega
                case rel =>
                  refine ⟨j + 1, by have := HK.out; omega, by simp, HIw.out.congr fun u _ => ?_, HBw.out⟩
                  rw [take_snoc_nd HXJ.out u]
                  show _ = ((cnt (T.take j) u + if lf (⟨lev, key, fr, a, kid⟩ : Nd) = true ∧ fr ≤ u ∧ u < a then 1 else 0 : Nat) : Int)
                  rw [HLF.out, if_neg (fun h => absurd h.1 (by decide))]; rfl
        · obtain rfl : j = m := by omega
          have j1 : ¬ (j : Int) < (j : Int) := by omega
          clear hk hlt
          have HIe : Hid (Ir 3 wr w4.heap.size i (fun _ => 1)) := HIj.out.congr fun u hu => by
            rw [List.take_of_length_le (by have := HMm.out; omega), HO.out.cnt u, if_pos ⟨Nat.zero_le _, hu⟩]; rfl
          clear HIj
          go_wp2_with fail
          go_loopg [17] i (fun y sv wz => ∃ s : Nat, s + y = i ∧ sv = .int .i64 (s : Int) ∧ Ir 3 wz w4.heap.size i (fun _ => 1) ∧ Below w4.heap.size w4 wz)
          case atStart => exact ⟨0, by omega, rfl, HIe.out, HBj.out⟩
          case round =>
            obtain ⟨s, hy, rfl, hir, hbl⟩ := hrel
            have HIs := Lib.hid hir; have HBs := Lib.hid hbl
            clear hir hbl HIe HBj
            by_cases hls : s < i
            · obtain ⟨y, rfl⟩ : ∃ y, gk = y + 1 := ⟨gk - 1, by omega⟩
              have ci := HIs.out.cell hls
              have zi := HIs.out.lt
              have HS : Hid (s + (y + 1) = i) := hy
              have s0 : (0 : Int) ≤ (s : Int) := by omega
              have s2 : (s : Int) < (i : Int) := by omega
              have ws : IntKind.i64.wrap ((s : Int) + 1) = (s : Int) + 1 := by rw [IntWalk.i64_in _ (by have := Hb1.out; omega)]
              clear hls hy
              go_wp2_with fail
              go_roundg y
              case measure => omega
              case rel => exact ⟨s + 1, by have := HS.out; omega, by simp, HIs.out, HBs.out⟩
            · obtain rfl : s = i := by omega
              have s1 : ¬ (s : Int) < (s : Int) := by omega
              clear hls hy
              go_wp2_with fail
              refine (K3.out _).mono ?_
              rintro e w5 ⟨rfl, b5⟩
              have HB5 := Lib.hid (bl_trans (bl_trans HB4.out HBs.out) b5)
              clear b5 HB4 HBs
              go_wp2_with fail
              go_returns
              exact ⟨rfl, HB5.out⟩
end Go.Proofs.Ytnedljclkhpdpaa
