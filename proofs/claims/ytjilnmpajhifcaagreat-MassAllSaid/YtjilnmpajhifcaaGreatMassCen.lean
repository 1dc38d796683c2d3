/- The document's Centre, of some bodies. -/
import Derived.Test.YtjilnmpajhifcaaGreatZzBod
import Derived.Laws.ResultCell
namespace Go.Proofs.YtjilnmpajhifcaaGreat
open Go.RowKit
theorem fx_row : RowT 65 27 2 16 := RowT.mk' Tryz.underlying65 (z := .agg #[.int .i64 0, .int .u64 0]) (by kernel_rfl) rfl (by decide)
set_option maxRecDepth 20000 in
set_option maxHeartbeats 16000000 in
theorem rcentre_any (RA : RAddT) (RM : RMulT) (RD : RDivT) (A : Option Addr) (n c : Nat) (L : List Bod) (h0 : 0 < n) (hn : n ≤ 64) (hm : ∀ b ∈ L, Mb b) (w : World) (hL : Bds w A n L) :
    Calls Tryz.prog 8 #[.slice A n c] w fun e w' => e = .returned (.agg #[.int .i64 (fh (sM L)), .int .u64 (fl (sM L)), .int .i64 (fh (mid Bod.x L)), .int .u64 (fl (mid Bod.x L)), .int .i64 (fh (mid Bod.y L)), .int .u64 (fl (mid Bod.y L)), .int .i64 0]) ∧ Below w.heap.size w w' := by
  have hlen := hL.len
  have KA := Lib.hid RA; have KM := Lib.hid RM; have KD := Lib.hid RD; have HL := Lib.hid hL; have HN := Lib.hid hn; have HMB := Lib.hid hm; have HLN := Lib.hid hlen; have H0 := Lib.hid h0
  have HFM := Lib.hid (few_M hm (by omega))
  have HFX := Lib.hid (few_D (Mb.x_ hm) (by omega)); have HFY := Lib.hid (few_D (Mb.y_ hm) (by omega))
  have n0 : ¬ (n : Int) = 0 := by omega
  have n0' : ¬ n = 0 := by omega
  have nb : ((n : Int) == 0) = false := by simp [n0']
  clear RA RM RD hL hn hm hlen h0
  go_enter Tryz.func8, Tryz.ntmps8
  go_wp2_with fail
  have hr := (Bx.new w 34 #[.int .i64 0, .int .u64 0, .int .i64 0, .int .u64 0, .int .i64 0, .int .u64 0, .int .i64 0]).alloc (.cells #[.int .i64 0, .int .u64 0] 27)
  have hmb := Bx.new (w.alloc (.cells #[.int .i64 0, .int .u64 0, .int .i64 0, .int .u64 0, .int .i64 0, .int .u64 0, .int .i64 0] 34)) 27 #[.int .i64 0, .int .u64 0]
  simp only [World.size_alloc] at hmb
  have HR := Lib.hid hr; have HM := Lib.hid hmb
  clear hr hmb
  go_loopg [4] n (fun k iv wr => ∃ i : Nat, i + k = n ∧ iv = .int .i64 (i : Int) ∧ Bx 34 wr w.heap.size [.int .i64 0, .int .u64 0, .int .i64 0, .int .u64 0, .int .i64 0, .int .u64 0, .int .i64 0] ∧ Bx 27 wr (w.heap.size + 1) [.int .i64 (fh (sM (L.take i))), .int .u64 (fl (sM (L.take i)))] ∧ Below w.heap.size w wr)
  case atStart => exact ⟨0, by omega, rfl, HR.out, HM.out, bl_al (bl_al (Below.refl _ _) _) _⟩
  case round =>
    obtain ⟨i, hk, rfl, q0, q1, hbl⟩ := hrel
    have Q0 := Lib.hid q0; have Q1 := Lib.hid q1; have HB := Lib.hid hbl
    have z1 := q1.lt
    have hN := HN.out
    clear q0 q1 hbl HR HM
    by_cases hlt : i < n
    · obtain ⟨B, o, b, rfl, hB, hb, c0, c1, _⟩ := (HL.out.below HB.out).mx (i := i) hlt
      obtain ⟨m0, m1⟩ := Q1.out.c2
      have hi : (i : Int) < (n : Int) := by omega
      have i0 : (0 : Int) ≤ (i : Int) := by omega
      have wi : IntKind.i64.wrap ((i : Int) + 1) = (i : Int) + 1 := by rw [IntWalk.i64_in _ (by omega)]
      have HX := Lib.hid hb
      have HK : Hid (i + gk = n) := hk
      have HY1 : Hid (My (sM (L.take i))) := HFM.out i
      have HY2 : Hid (My (sM (L.take i) + b.m)) := by show My _; rw [← sM_next hb]; exact HFM.out (i + 1)
      have HYm : Hid (My b.m) := by
        have := HMB.out b (List.mem_of_getElem? hb)
        show My _
        unfold Mb at this; unfold My; omega
      have HE := Lib.hid (sM_next hb)
      clear hb hk hN
      generalize sM (L.take i) = s at *
      have d0 := stays c0 hB; have d1 := stays c1 hB
      have e0 := stays m0 (by omega); have e1 := stays m1 (by omega)
      clear c0 c1 m0 m1
      have C1 := Lib.hid (KA.out s b.m HY1.out HYm.out HY2.out)
      go_upto_region 7 with fail
      go_cut [5, 24, 25, 26, 27, 28, 29, 30] (fun u _ _ _ _ _ _ _ wz => (∃ q, u = .pointer (some ⟨q, 0, none⟩) ∧ Bx 63 wz q [.int .i64 (fh (s + b.m)), .int .u64 (fl (s + b.m)), .int .i64 0]) ∧ Below wr.heap.size wr wz)
      case first =>
        go_region_held3 (fun w' => Below wr.heap.size wr w') (exact bs) (first | (go_at_call 21; (with_reducible refine (C1.out _).mono ?_); rintro e w1 ⟨rfl, hb1⟩; obtain ⟨hcl, hfr⟩ := bcell hb1))
        · rename_i hHeld
          clear hHeld
          go_wp2_with fail
          go_meet
          exact ⟨⟨_, rfl, Bx.new _ _ _⟩, bs⟩
        · rename_i hHeld
          clear hHeld
          go_wp2_with fail
          go_meet
          exact ⟨⟨_, rfl, (((bx_putd hb1).put 0 _).put 1 _).put 2 _⟩, bs⟩
      case rest =>
      obtain ⟨⟨q, rfl, x0⟩, hb1⟩ := hcut
      have R0 := bxb w.heap.size [.int .i64 0, .int .u64 0, .int .i64 0, .int .u64 0, .int .i64 0, .int .u64 0, .int .i64 0] hb1
      have R1 := bxb (w.heap.size + 1) [.int .i64 (fh (s)), .int .u64 (fl (s))] hb1
      have HB1 : Hid (Below w.heap.size w wc) := hbw hb1
      have X0 := Lib.hid x0
      have z2 := R1.out.lt
      obtain ⟨m0, m1⟩ := R1.out.c2
      obtain ⟨y0, y1, y2⟩ := X0.out.c3
      have mf := R1.out.frz
      clear x0 hb1 d0 d1 e0 e1
      clear Q0 Q1 HB hB z1
      generalize s + b.m = s' at *
      go_wp2_with fail
      obtain ⟨g, rfl⟩ : ∃ g, gk = g + 1 := ⟨gk - 1, by have := HK.out; omega⟩
      go_roundg g
      case measure => omega
      case rel =>
        refine ⟨i + 1, by have := HK.out; omega, by simp, bxk, ?_, bb⟩
        rw [HE.out]
        exact (R1.out.put 0 _).put 1 _
    · have hi : ¬ (i : Int) < (n : Int) := by omega
      have hM : Hid (Bx 27 wr (w.heap.size + 1) [.int .i64 (fh (sM L)), .int .u64 (fl (sM L))]) := by
        have := Q1.out
        rw [List.take_of_length_le (by have := HLN.out; omega)] at this
        exact this
      obtain ⟨M, hMM⟩ : ∃ M, M = sM L := ⟨_, rfl⟩
      rw [← hMM] at hM
      have HMM := Lib.hid hMM
      clear hMM Q1
      go_wp2_with fail
      go_loopg [6, 7] 2 (fun k v iv wq => ∃ j : Nat, j + k = 2 ∧ iv = .int .i64 (j : Int) ∧ wq.ownsRow (w.heap.size + 2) 27 2 v j ((([Bod.x, Bod.y].take j).map fun f => fxc (mid f L)).flatten) ∧ Bx 34 wq w.heap.size [.int .i64 0, .int .u64 0, .int .i64 0, .int .u64 0, .int .i64 0, .int .u64 0, .int .i64 0] ∧ Bx 27 wq (w.heap.size + 1) [.int .i64 (fh (M)), .int .u64 (fl (M))] ∧ Below w.heap.size w wq)
      case atStart => exact ⟨0, by omega, rfl, World.ownsRow_nil _ _ _ _, Q0.out, hM.out, HB.out⟩
      case round =>
        obtain ⟨wq, rfl⟩ : ∃ x : World, x = wr := ⟨wr, rfl⟩
        obtain ⟨j, hjk, rfl, hown, q0, q1, hbl⟩ := hrel
        have O0 := Lib.hid hown; have G0 := Lib.hid q0; have G1 := Lib.hid q1; have SB := Lib.hid hbl
        have zS := q1.lt
        clear hown q0 q1 hbl Q0 HB hM
        by_cases hj : j < 2
        · obtain ⟨f, hf, hf0, hf1, hfn⟩ : ∃ f : Bod → Int, [Bod.x, Bod.y][j]? = some f ∧ (j = 0 → f = Bod.x) ∧ (j = 1 → f = Bod.y) ∧ (∀ b ∈ L, Mb b ∧ -19807040628566084398385987584 ≤ f b ∧ f b ≤ 19807040628566084398385987584) := by
            rcases (show j = 0 ∨ j = 1 by omega) with rfl | rfl
            · exact ⟨Bod.x, rfl, fun _ => rfl, fun h => by omega, Mb.x_ HMB.out⟩
            · exact ⟨Bod.y, rfl, fun h => by omega, fun _ => rfl, Mb.y_ HMB.out⟩
          have HF := Lib.hid hf; have HF0 := Lib.hid hf0; have HF1 := Lib.hid hf1; have HFN := Lib.hid hfn
          have HFD := Lib.hid (few_D hfn (by have := HLN.out; have := HN.out; omega))
          have hj2 : (j : Int) < 2 := by omega
          have wj : IntKind.i64.wrap ((j : Int) + 1) = (j : Int) + 1 := by rw [IntWalk.i64_in _ (by omega)]
          obtain ⟨gj, rfl⟩ : ∃ gj, gk = gj + 1 := ⟨gk - 1, by omega⟩
          have HJK : Hid (j + (gj + 1) = 2) := hjk
          clear hf hf0 hf1 hfn hjk
          go_wp2_with fail
          have hsum := Bx.new wq 27 #[.int .i64 0, .int .u64 0]
          have HS := Lib.hid hsum
          clear hsum
          go_loopg [9] n (fun k iv wi => ∃ i : Nat, i + k = n ∧ iv = .int .i64 (i : Int) ∧ Bx 27 wi wq.heap.size [.int .i64 (fh (sD f (L.take i))), .int .u64 (fl (sD f (L.take i)))] ∧ Below wq.heap.size wq wi)
          case atStart => exact ⟨0, by omega, rfl, HS.out, bl_al (Below.refl _ _) _⟩
          case round =>
            obtain ⟨i, hik, rfl, q3, hbi⟩ := hrel
            have I3 := Lib.hid q3; have IB := Lib.hid hbi
            have zi := q3.lt
            clear q3 hbi HS
            by_cases hlt : i < n
            · obtain ⟨B, o, b, rfl, hB, hb, c0, c1, c4, c5, c6, c7⟩ := ((HL.out.below SB.out).below IB.out).mx (i := i) hlt
              have hi : (i : Int) < (n : Int) := by omega
              have i0 : (0 : Int) ≤ (i : Int) := by omega
              have wi : IntKind.i64.wrap ((i : Int) + 1) = (i : Int) + 1 := by rw [IntWalk.i64_in _ (by have := HN.out; omega)]
              have HX := Lib.hid hb
              have HIK : Hid (i + gk = n) := hik
              have hbm := HFN.out b (List.mem_of_getElem? hb)
              have HYm : Hid (My b.m) := by
                show My _
                obtain ⟨h1, _⟩ := hbm
                unfold Mb at h1; unfold My; omega
              have HYf : Hid (My (f b)) := by
                show My _
                obtain ⟨_, h1⟩ := hbm
                unfold My; omega
              have HYp : Hid (My (mulr b.m (f b))) := by
                show My _
                obtain ⟨h0, h1, h2⟩ := hbm
                have := mulr_near h0.1 h1 h2
                unfold Mb at h0; unfold My; omega
              have HY1 : Hid (My (sD f (L.take i))) := HFD.out i
              have HY2 : Hid (My (sD f (L.take i) + mulr b.m (f b))) := by show My _; rw [← sD_next hb]; exact HFD.out (i + 1)
              have HE := Lib.hid (sD_next (f := f) hb)
              have C1 := Lib.hid (KM.out b.m (f b) HYm.out HYf.out HYp.out)
              have C2 := Lib.hid (KA.out _ _ HY1.out HYp.out HY2.out)
              clear hb hik hbm
              rcases (show j = 0 ∨ j = 1 by omega) with hjc | hjc
              · have hfe : f = Bod.x := HF0.out hjc
                have hfb : f b = b.x := by rw [hfe]
                have k1 : ¬ (j : Int) = 1 := by omega
                have kb : ((j : Int) == 1) = false := by simp; omega
                have kn : ¬ j = 1 := by omega
                have HJC := Lib.hid hjc
                have HFB := Lib.hid hfb
                rw [hfb] at C1
                clear hfe hjc hfb
                go_upto_region 22 with fail
                clear k1 kb kn
                obtain ⟨wx, ewx⟩ : ∃ x, x = wr.alloc (.cells #[.int .i64 (fh (b.x)), .int .u64 (fl (b.x))] 27) := ⟨_, rfl⟩
                rw [← ewx]
                have xb : Bx 27 wx wr.heap.size [.int .i64 (fh (b.x)), .int .u64 (fl (b.x))] := by rw [ewx]; exact Bx.new _ _ _
                have hxw : Below wr.heap.size wr wx := by rw [ewx]; exact bl_al (Below.refl _ _) _
                have J3 := bxb wq.heap.size [.int .i64 (fh (sD f (L.take i))), .int .u64 (fl (sD f (L.take i)))] hxw
                have JB : Hid (Below wq.heap.size wq wx) := bl_trans IB.out hxw
                have zx := hxw.size
                have zy := xb.lt
                have d0 := stays ((hxw.cell (p := ⟨B, o + i * 20, none⟩) hB).trans c0) (by omega)
                have d1 := stays ((hxw.cell (p := ⟨B, o + i * 20 + 1, none⟩) hB).trans c1) (by omega)
                obtain ⟨x0, x1⟩ := xb.c2
                have d2 := stays x0 zy; have d3 := stays x1 zy
                clear c0 c1 c4 c5 c6 c7 x0 x1 ewx hxw I3 IB
                go_upto_region 22 with fail
                go_cut [11, 63, 64, 65, 66, 67, 68, 69] (fun u _ _ _ _ _ _ _ wz => (∃ q, u = .pointer (some ⟨q, 0, none⟩) ∧ Bx 63 wz q [.int .i64 (fh (mulr b.m b.x)), .int .u64 (fl (mulr b.m b.x)), .int .i64 0]) ∧ Below wx.heap.size wx wz)
                case first =>
                  go_region_held3 (fun w' => Below wx.heap.size wx w') (exact bs) (first | (go_at_call 22; (with_reducible refine (C1.out _).mono ?_); rintro e w1 ⟨rfl, hb1⟩; obtain ⟨hcl, hfr⟩ := bcell hb1))
                  · rename_i hHeld
                    clear hHeld
                    go_wp2_with fail
                    go_meet
                    exact ⟨⟨_, rfl, Bx.new _ _ _⟩, bs⟩
                  · rename_i hHeld
                    clear hHeld
                    go_wp2_with fail
                    go_meet
                    exact ⟨⟨_, rfl, ((((bx_putd hb1).put 0 _).put 1 _).put 2 _)⟩, bs⟩
                case rest =>
                obtain ⟨⟨q, rfl, x0⟩, hb1⟩ := hcut
                have L3 := bxb wq.heap.size [.int .i64 (fh (sD f (L.take i))), .int .u64 (fl (sD f (L.take i)))] hb1
                have LB : Hid (Below wq.heap.size wq wc) := bl_trans JB.out hb1
                obtain ⟨y0, y1, y2⟩ := x0.c3
                obtain ⟨s0, s1⟩ := L3.out.c2
                have zq := x0.lt
                clear J3 JB d0 d1 d2 d3 hb1 x0 xb
                rw [HFB.out] at C2
                go_wp2_with fail
                refine (C2.out _).mono ?_
                rintro e w3 ⟨rfl, hb3⟩
                have M3 := bxb wq.heap.size [.int .i64 (fh (sD f (L.take i))), .int .u64 (fl (sD f (L.take i)))] hb3
                have MB : Hid (Below wq.heap.size wq w3) := bl_trans LB.out hb3
                obtain ⟨s0, s1⟩ := M3.out.c2
                have sf := M3.out.frz
                have zs := M3.out.lt
                clear L3 LB y0 y1 y2 hb3 zq
                rw [← HFB.out, ← HE.out]
                go_wp2_with fail
                obtain ⟨g, rfl⟩ : ∃ g, gk = g + 1 := ⟨gk - 1, by have := HIK.out; omega⟩
                go_roundg g
                case measure => omega
                case rel =>
                  refine ⟨i + 1, by have := HIK.out; omega, by simp, ?_, bb⟩
                  first | exact (M3.out.put 0 _).put 1 _ | exact ((M3.out.put 0 _).put 1 _).alloc _
              · have hfe : f = Bod.y := HF1.out hjc
                have hfb : f b = b.y := by rw [hfe]
                have k1 : (j : Int) = 1 := by omega
                have kb : ((j : Int) == 1) = true := by simp [k1]
                have kn : j = 1 := by omega
                have HJC := Lib.hid hjc
                have HFB := Lib.hid hfb
                rw [hfb] at C1
                clear hfe hjc hfb
                go_upto_region 22 with fail
                clear k1 kb kn
                obtain ⟨wx, ewx⟩ : ∃ x, x = wr.alloc (.cells #[.int .i64 (fh (b.y)), .int .u64 (fl (b.y))] 27) := ⟨_, rfl⟩
                rw [← ewx]
                have xb : Bx 27 wx wr.heap.size [.int .i64 (fh (b.y)), .int .u64 (fl (b.y))] := by rw [ewx]; exact Bx.new _ _ _
                have hxw : Below wr.heap.size wr wx := by rw [ewx]; exact bl_al (Below.refl _ _) _
                have J3 := bxb wq.heap.size [.int .i64 (fh (sD f (L.take i))), .int .u64 (fl (sD f (L.take i)))] hxw
                have JB : Hid (Below wq.heap.size wq wx) := bl_trans IB.out hxw
                have zx := hxw.size
                have zy := xb.lt
                have d0 := stays ((hxw.cell (p := ⟨B, o + i * 20, none⟩) hB).trans c0) (by omega)
                have d1 := stays ((hxw.cell (p := ⟨B, o + i * 20 + 1, none⟩) hB).trans c1) (by omega)
                obtain ⟨x0, x1⟩ := xb.c2
                have d2 := stays x0 zy; have d3 := stays x1 zy
                clear c0 c1 c4 c5 c6 c7 x0 x1 ewx hxw I3 IB
                go_upto_region 22 with fail
                go_cut [11, 63, 64, 65, 66, 67, 68, 69] (fun u _ _ _ _ _ _ _ wz => (∃ q, u = .pointer (some ⟨q, 0, none⟩) ∧ Bx 63 wz q [.int .i64 (fh (mulr b.m b.y)), .int .u64 (fl (mulr b.m b.y)), .int .i64 0]) ∧ Below wx.heap.size wx wz)
                case first =>
                  go_region_held3 (fun w' => Below wx.heap.size wx w') (exact bs) (first | (go_at_call 22; (with_reducible refine (C1.out _).mono ?_); rintro e w1 ⟨rfl, hb1⟩; obtain ⟨hcl, hfr⟩ := bcell hb1))
                  · rename_i hHeld
                    clear hHeld
                    go_wp2_with fail
                    go_meet
                    exact ⟨⟨_, rfl, Bx.new _ _ _⟩, bs⟩
                  · rename_i hHeld
                    clear hHeld
                    go_wp2_with fail
                    go_meet
                    exact ⟨⟨_, rfl, ((((bx_putd hb1).put 0 _).put 1 _).put 2 _)⟩, bs⟩
                case rest =>
                obtain ⟨⟨q, rfl, x0⟩, hb1⟩ := hcut
                have L3 := bxb wq.heap.size [.int .i64 (fh (sD f (L.take i))), .int .u64 (fl (sD f (L.take i)))] hb1
                have LB : Hid (Below wq.heap.size wq wc) := bl_trans JB.out hb1
                obtain ⟨y0, y1, y2⟩ := x0.c3
                obtain ⟨s0, s1⟩ := L3.out.c2
                have zq := x0.lt
                clear J3 JB d0 d1 d2 d3 hb1 x0 xb
                rw [HFB.out] at C2
                go_wp2_with fail
                refine (C2.out _).mono ?_
                rintro e w3 ⟨rfl, hb3⟩
                have M3 := bxb wq.heap.size [.int .i64 (fh (sD f (L.take i))), .int .u64 (fl (sD f (L.take i)))] hb3
                have MB : Hid (Below wq.heap.size wq w3) := bl_trans LB.out hb3
                obtain ⟨s0, s1⟩ := M3.out.c2
                have sf := M3.out.frz
                have zs := M3.out.lt
                clear L3 LB y0 y1 y2 hb3 zq
                rw [← HFB.out, ← HE.out]
                go_wp2_with fail
                obtain ⟨g, rfl⟩ : ∃ g, gk = g + 1 := ⟨gk - 1, by have := HIK.out; omega⟩
                go_roundg g
                case measure => omega
                case rel =>
                  refine ⟨i + 1, by have := HIK.out; omega, by simp, ?_, bb⟩
                  first | exact (M3.out.put 0 _).put 1 _ | exact ((M3.out.put 0 _).put 1 _).alloc _
            · have hi : ¬ (i : Int) < (n : Int) := by omega
              obtain ⟨D, hD⟩ : ∃ D, D = sD f L := ⟨_, rfl⟩
              have T3 : Hid (Bx 27 wr wq.heap.size [.int .i64 (fh (D)), .int .u64 (fl (D))]) := by
                have := I3.out
                rw [List.take_of_length_le (by have := HLN.out; omega), ← hD] at this
                exact this
              have hne : L ≠ [] := fun e => by have := HLN.out; have := H0.out; rw [e] at *; simp at *; omega
              have hm0 : 0 < M := by rw [HMM.out]; exact (sM_near HMB.out).2.2 hne
              have hYM : My M := by have := HFM.out n; rw [List.take_of_length_le (by have := HLN.out; omega), ← HMM.out] at this; exact this
              have hYD : My D := by have := HFD.out n; rw [List.take_of_length_le (by have := HLN.out; omega), ← hD] at this; exact this
              have hmid : mid f L = divr D M := by unfold mid; rw [hD, HMM.out]
              have hYQ : My (divr D M) := by
                rw [← hmid]
                obtain ⟨h1, h2⟩ := mid_near HFN.out hne
                unfold My; omega
              have C3 := Lib.hid (KD.out D M hYD hYM (by omega) hYQ)
              have HMID := Lib.hid hmid
              have T1 := bxb (w.heap.size + 1) [.int .i64 (fh (M)), .int .u64 (fl (M))] IB.out
              have T0 := bxb w.heap.size [.int .i64 0, .int .u64 0, .int .i64 0, .int .u64 0, .int .i64 0, .int .u64 0, .int .i64 0] IB.out
              have TO := Lib.hid (own_kept O0.out IB.out) 
              have TB : Hid (Below w.heap.size w wr) := bl_trans SB.out IB.out
              obtain ⟨s0, s1⟩ := T3.out.c2
              obtain ⟨m0, m1⟩ := T1.out.c2
              clear I3 IB hD hne hm0 hYM hYD hmid hYQ hik
              go_wp2_with fail
              refine (C3.out _).mono ?_
              rintro e w3 ⟨rfl, hb3⟩
              rw [← HMID.out]
              have U1 := bxb (w.heap.size + 1) [.int .i64 (fh (M)), .int .u64 (fl (M))] hb3
              have U0 := bxb w.heap.size [.int .i64 0, .int .u64 0, .int .i64 0, .int .u64 0, .int .i64 0, .int .u64 0, .int .i64 0] hb3
              have UO := Lib.hid (own_kept TO.out hb3)
              have UB : Hid (Below w.heap.size w w3) := bl_trans TB.out hb3
              have u0 := U1.out.lt
              clear T0 T1 T3 TO TB s0 s1 m0 m1 hb3
              go_wp2_with (first
                | (at_builtin; refine wpList_append_rows fx_row rfl _ _ rfl (w.heap.size + 2) _ j (([Bod.x, Bod.y].take j).map fun f => fxc (mid f L)) rfl (own_kept UO.out (bl_al (bl_al (Below.refl _ _) _) _)) _ 1 1 [fxc (mid f L)] rfl ?d1 ?d2 ?d3 ?d4 ?d5 ?d6 ?_)
                | fail)
              case d1 => simpa using (R0.new (s := 2) (w3.alloc (.cells #[.int .i64 (fh (mid f L)), .int .u64 (fl (mid f L)), .int .i64 0] 63)) 27 (C := [fxc (mid f L)]) (cs := #[.int .i64 (fh (mid f L)), .int .u64 (fl (mid f L))]) (by intro c hc; simp at hc; subst hc; rfl) rfl).slice
              case d2 => intro c hc u hu; simp at hc; subst hc; simp [fxc] at hu; rcases hu with rfl | rfl <;> rfl
              case d3 => simp
              case d4 => unfold maxLen; omega
              case d5 => omega
              case d6 => simp; omega
              intro v1 w4 hown1 hgrow _ _
              have hbw : ∀ k, k < w.heap.size + 2 → w4.heap[k]? = w3.heap[k]? := fun k hk => by
                have hne : some k ≠ u6.ownBlock := fun e => by have := own_block UO.out k e.symm; omega
                rw [hgrow.block k (by simp; omega) hne, Below.heap_alloc _ _ _ (by simp; omega), Below.heap_alloc _ _ _ (by omega)]
              have V1 : Hid (Bx 27 w4 (w.heap.size + 1) [.int .i64 (fh (M)), .int .u64 (fl (M))]) := U1.out.block (hbw _ (by omega))
              have V0 : Hid (Bx 34 w4 w.heap.size [.int .i64 0, .int .u64 0, .int .i64 0, .int .u64 0, .int .i64 0, .int .u64 0, .int .i64 0]) := U0.out.block (hbw _ (by omega))
              have VB : Hid (Below w.heap.size w w4) := (bl_al (bl_al UB.out _) _).grown hgrow (by simp; omega) (fun q hq => by have := own_block UO.out q hq; omega)
              have VO : Hid (w4.ownsRow (w.heap.size + 2) 27 2 v1 (j + 1) ((([Bod.x, Bod.y].take (j + 1)).map fun f => fxc (mid f L)).flatten)) := by
                have e : ∀ p : Prop, p → Hid p := fun _ h => h
                refine e _ ?_
                rw [take_snoc' HF.out]; simpa using hown1
              clear hown1 hgrow hbw UO U0 U1 UB
              go_wp2_with fail
              go_roundg gj
              case measure => omega
              case rel => exact ⟨j + 1, by have := HJK.out; omega, by simp, VO.out, V0.out, V1.out, VB.out⟩
        · have hj2 : ¬ (j : Int) < 2 := by omega
          obtain rfl : j = 2 := by omega
          obtain ⟨X, hX⟩ : ∃ X, X = mid Bod.x L := ⟨_, rfl⟩
          obtain ⟨Y, hY⟩ : ∃ Y, Y = mid Bod.y L := ⟨_, rfl⟩
          have hrow : wq.ownsRow (w.heap.size + 2) 27 2 u6 2 ([fxc X, fxc Y].flatten) := by rw [hX, hY]; exact O0.out
          obtain ⟨A2, c2, rfl, _, hS⟩ := S0.of_own (C := [fxc X, fxc Y]) (by intro c hc; simp at hc; rcases hc with rfl | rfl <;> rfl) (by decide) hrow
          obtain ⟨B, o, rfl, hB, hc⟩ := hS.2.2 (by decide)
          have a0 := hc 0 _ rfl 0 _ rfl; have a1 := hc 0 _ rfl 1 _ rfl; have a2 := hc 1 _ rfl 0 _ rfl; have a3 := hc 1 _ rfl 1 _ rfl
          have hBn : w.heap.size + 2 ≤ B := own_block hrow B rfl
          simp only [Nat.zero_mul, Nat.one_mul, Nat.add_zero] at a0 a1 a2 a3
          obtain ⟨m0, m1⟩ := G1.out.c2
          have rf := G0.out.frz
          have zr := G0.out.lt
          have r0 := G0.out.cell (j := 0) rfl; have r1 := G0.out.cell (j := 1) rfl; have r2 := G0.out.cell (j := 2) rfl; have r3 := G0.out.cell (j := 3) rfl; have r4 := G0.out.cell (j := 4) rfl; have r5 := G0.out.cell (j := 5) rfl; have r6 := G0.out.cell (j := 6) rfl
          obtain ⟨n1, n2⟩ := nn (show ¬ (B = w.heap.size) by omega)
          have HXE := Lib.hid hX; have HYE := Lib.hid hY
          have HR : Hid (Bx 34 wq w.heap.size [.int .i64 0, .int .u64 0, .int .i64 0, .int .u64 0, .int .i64 0, .int .u64 0, .int .i64 0]) := G0
          clear hrow hS hc O0 hX hY hjk
          go_upto_region 33 with fail
          go_region_held3 (fun w' => w'.cell? ⟨w.heap.size + 1, 0, none⟩ = some (.int .i64 (fh M)) ∧ w'.cell? ⟨w.heap.size + 1, 1, none⟩ = some (.int .u64 (fl M)) ∧ w'.cell? ⟨B, o, none⟩ = some (.int .i64 (fh X)) ∧ w'.cell? ⟨B, o + 1, none⟩ = some (.int .u64 (fl X)) ∧ w'.cell? ⟨B, o + 2, none⟩ = some (.int .i64 (fh Y)) ∧ w'.cell? ⟨B, o + 2 + 1, none⟩ = some (.int .u64 (fl Y))) (first | (simp [*, go_sem]; done)) (fail)
          rename_i hHeld
          clear hHeld
          obtain ⟨w5, E5⟩ : ∃ x, x = (((((((wq.setCell ⟨w.heap.size, 0, none⟩ (.int .i64 (fh M))).setCell ⟨w.heap.size, 1, none⟩ (.int .u64 (fl M))).setCell ⟨w.heap.size, 2, none⟩ (.int .i64 (fh X))).setCell ⟨w.heap.size, 3, none⟩ (.int .u64 (fl X))).setCell ⟨w.heap.size, 4, none⟩ (.int .i64 (fh Y))).setCell ⟨w.heap.size, 5, none⟩ (.int .u64 (fl Y))).setCell ⟨w.heap.size, 6, none⟩ (.int .i64 0)).drew := ⟨_, rfl⟩
          have P0 : Hid (Bx 34 w5 w.heap.size [.int .i64 (fh M), .int .u64 (fl M), .int .i64 (fh X), .int .u64 (fl X), .int .i64 (fh Y), .int .u64 (fl Y), .int .i64 0]) := by
            show Bx _ _ _ _
            rw [E5]
            exact ((((((((G0.out.put 0 _).put 1 _).put 2 _).put 3 _).put 4 _).put 5 _).put 6 _)).drew
          have PB : Hid (Below w.heap.size w w5) := by
            show Below _ _ _
            rw [E5]; exact bb
          rw [← E5]
          clear E5 r0 r1 r2 r3 r4 r5 r6 a0 a1 a2 a3 m0 m1 rf
          go_wp2_with fail
          (try simp only [Exit.inBlock, Exit.then])
          refine bodyPost_ret (v := .agg #[.int .i64 (fh M), .int .u64 (fl M), .int .i64 (fh X), .int .u64 (fl X), .int .i64 (fh Y), .int .u64 (fl Y), .int .i64 0]) ?_ rfl ⟨by rw [HXE.out, HYE.out, HMM.out], PB.out⟩
          have hlv := run_loadVar_row (P := Tryz.prog) w5 w.heap.size 34 34 _ (0, 0) _ P0.out Tryz.underlying34 rfl (by kernel_rfl)
          simp [results, asAddr, hlv]
end Go.Proofs.YtjilnmpajhifcaaGreat
