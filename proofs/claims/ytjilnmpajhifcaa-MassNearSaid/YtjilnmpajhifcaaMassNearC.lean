/- MassNear, of some bodies, from what Centre comes to. -/
import Derived.Test.YtjilnmpajhifcaaMassMid
import Derived.Test.YtjilnmpajhifcaaMassLaw
import Derived.Test.YtjilnmpajhifcaaRefT
namespace Go.Proofs.Ytjilnmpajhifcaa
open Go.RowKit
theorem Kb.set {P : Nat → Prop} {w u : World} (h : Kb P w u) {b : Nat} (hb : ¬ P b) (o : Nat) (v : Value) : Kb P w (u.setCell ⟨b, o, none⟩ v) :=
  ⟨by have := h.1; simpa using this, fun k hp hk => by rw [Below.heap_setCell _ _ _ _ (fun e => hb (by have e : k = b := e; rw [← e]; exact hp))]; exact h.2 k hp hk⟩
set_option maxRecDepth 20000 in
set_option maxHeartbeats 16000000 in
theorem massNear_some (C : CenT) (AD : RAddT) (SU : RSubT) (CM : RCmpT) (N0 : Ct 11 #[.int .i64 0] (.int .i64 0)) (A : Option Addr) (n c : Nat) (l : List Nat) (hn : n ≤ maxLen) (h4 : (bods l 12).length ≠ 0) (w : World) (hl : Bs w A n l) :
    Calls Try.prog 3 #[.slice A n c] w fun e w' => e = .returned (.bool true) ∧ Below w.heap.size w w' := by
  have K0 := Lib.hid N0; have KA := Lib.hid AD; have KS := Lib.hid SU; have KC := Lib.hid CM; have KW := Lib.hid (mawake_any C N0)
  have KB := Lib.hid (bodies_any A n c 12 l hn (by decide) w hl)
  obtain ⟨L, hL⟩ : ∃ L, L = bods l 12 := ⟨_, rfl⟩
  have hok : ∀ b ∈ L, Mb b := by rw [hL]; exact bods_ok hl.2.1 12
  have hwh : ∀ b ∈ L, Wh b := by rw [hL]; exact bods_wh 12
  have h20 : L.length ≤ 12 := by rw [hL, bods_len]; omega
  rw [← hL] at h4 KB
  obtain ⟨N, hN⟩ : ∃ N, N = L.length := ⟨_, rfl⟩
  rw [← hN] at h4 h20 KB
  have HOK := Lib.hid hok; have H20 := Lib.hid h20; have HN := Lib.hid hN; have H4 := Lib.hid h4
  have C1 : Hid (∀ (A : Option Addr) (c : Nat) (W : World), Bds W A N L → Calls Try.prog 7 #[.slice A N c] W fun e w' => e = .returned (.tuple #[.agg #[.int .i64 (fh (sM L)), .int .u64 (fl (sM L))], .agg #[.int .i64 (fh (mid Bod.x L)), .int .u64 (fl (mid Bod.x L)), .int .i64 (fh (mid Bod.y L)), .int .u64 (fl (mid Bod.y L))], .int .i64 0]) ∧ Below W.heap.size W w') := fun A c W h => C A N c L (by omega) (by omega) hok W h
  have C2 : Hid (∀ (A : Option Addr) (c : Nat) (W : World), Bds W A N L.reverse → Calls Try.prog 7 #[.slice A N c] W fun e w' => e = .returned (.tuple #[.agg #[.int .i64 (fh (sM L)), .int .u64 (fl (sM L))], .agg #[.int .i64 (fh (mid Bod.x L)), .int .u64 (fl (mid Bod.x L)), .int .i64 (fh (mid Bod.y L)), .int .u64 (fl (mid Bod.y L))], .int .i64 0]) ∧ Below W.heap.size W w') := fun A c W h => by
    have k := C A N c L.reverse (by omega) (by omega) (fun b hb => hok b (List.mem_reverse.1 hb)) W h
    rw [sM_back, mid_back, mid_back] at k
    exact k
  have HB : Hid (∀ lo hi : Int, (∀ b ∈ L, lo ≤ b.x ∧ b.x ≤ hi) → lo ≤ mid Bod.x L ∧ mid Bod.x L ≤ hi) := fun lo hi h => mid_between (fun b hb => ⟨hwh b hb, h b hb⟩) (fun e => h4 (by rw [hN, e]; rfl))
  have nz : ¬ N = 0 := h4
  have nz' : ¬ (N : Int) = 0 := by omega
  have nb : ((N : Int) == 0) = false := by simp [nz]
  have wn : IntKind.i64.wrap ((N : Int) - 1) = (N : Int) - 1 := by rw [IntWalk.i64_in _ (by omega)]
  clear C AD SU CM N0 hn hl hL hok h20 hN h4 hwh
  obtain ⟨m, hm⟩ : ∃ m, m = sM L := ⟨_, rfl⟩
  obtain ⟨x, hx⟩ : ∃ x, x = mid Bod.x L := ⟨_, rfl⟩
  obtain ⟨y, hy⟩ : ∃ y, y = mid Bod.y L := ⟨_, rfl⟩
  rw [← hm, ← hx, ← hy] at C1 C2
  rw [← hx] at HB
  clear hm hx hy
  go_enter Try.func3, Try.ntmps3
  go_wp2_with fail
  refine KB.out.mono ?_
  rintro e w1 ⟨⟨v1, rfl, hown⟩, hb1⟩
  obtain ⟨A1, c1, rfl, hA1, hS1⟩ := S0.of_own (Ln.map bdc_len L) (by decide) hown
  have HS1 : Hid (Bds w1 A1 N L) := hS1
  have B1 : Hid (Below w.heap.size w w1) := hb1
  clear hown hS1 hA1 hb1 KB
  go_wp2_with fail
  go_loopg [4, 5] N (fun k v iv wr => ∃ i : Nat, i = k ∧ i ≤ N ∧ iv = .int .i64 ((i : Int) - 1) ∧ wr.ownsRow w1.heap.size 32 20 v (N - i) (((L.drop i).reverse).map bdc).flatten ∧ Below w1.heap.size w1 wr)
  case atStart => exact ⟨N, rfl, Nat.le_refl _, rfl, by rw [Nat.sub_self, List.drop_eq_nil_of_le (by rw [HN.out]; exact Nat.le_refl _)]; exact World.ownsRow_nil _ _ _ _, Below.refl _ _⟩
  case round =>
    obtain ⟨i, hik, hiN, rfl, hown, hbl⟩ := hrel
    have IO := Lib.hid hown; have IB := Lib.hid hbl
    obtain ⟨A2, c2, rfl, hA2, hS2⟩ := S0.of_own (Ln.map bdc_len (L.drop i).reverse) (by decide) hown
    clear hown hbl hA2 hS2
    by_cases h0 : i = 0
    · subst h0
      have HS2 : Hid (Bds wr A2 N L.reverse) := by
        obtain ⟨A3, c3, e, _, hS3⟩ := S0.of_own (Ln.map bdc_len (L.drop 0).reverse) (by decide) IO.out
        simp only [Value.slice.injEq] at e
        obtain ⟨rfl, _, _⟩ := e
        rw [List.drop_zero, Nat.sub_zero] at hS3
        exact hS3
      have HS3 := Lib.hid (HS1.out.below IB.out)
      have B2 : Hid (Below w.heap.size w wr) := bl_trans B1.out IB.out
      have ng : ¬ (0 : Int) ≤ ((0 : Nat) : Int) - 1 := by omega
      clear hik hiN IO IB HS1 B1
      go_wp2_with fail
      refine (C1.out _ _ _ HS3.out).mono ?_
      rintro e w2 ⟨rfl, hb2⟩
      have HS4 := Lib.hid (HS3.out.below hb2); have HB4 := Lib.hid (HS2.out.below hb2)
      have B3 : Hid (Below w.heap.size w w2) := bl_trans B2.out hb2
      clear hb2 HS3 HS2 B2 C1
      go_wp2_with fail
      have q1 := (Bx.new w2 28 #[.int .i64 (fh m), .int .u64 (fl m)]).alloc (.cells #[.int .i64 (fh x), .int .u64 (fl x), .int .i64 (fh y), .int .u64 (fl y)] 30)
      have q2 := Bx.new (w2.alloc (.cells #[.int .i64 (fh m), .int .u64 (fl m)] 28)) 30 #[.int .i64 (fh x), .int .u64 (fl x), .int .i64 (fh y), .int .u64 (fl y)]
      simp only [World.size_alloc] at q2
      have hxx : Below w2.heap.size w2 ((w2.alloc (.cells #[.int .i64 (fh m), .int .u64 (fl m)] 28)).alloc (.cells #[.int .i64 (fh x), .int .u64 (fl x), .int .i64 (fh y), .int .u64 (fl y)] 30)) := bl_al (bl_al (Below.refl _ _) _) _
      have HS4' := Lib.hid (HS4.out.below hxx); have HB4' := Lib.hid (HB4.out.below hxx)
      refine (C2.out _ _ _ HB4'.out).mono ?_
      rintro e w3 ⟨rfl, hb3⟩
      have M3 := Lib.hid (q1.below hb3); have T3 := Lib.hid (q2.below hb3)
      have HS5 := Lib.hid (HS4'.out.below hb3)
      have B4 : Hid (Below w.heap.size w w3) := bl_trans (bl_trans B3.out hxx) hb3
      clear hb3 hxx q1 q2 HS4 HS4' HB4 HB4' B3 C2
      go_upto_region 11 with fail
      obtain ⟨wx, ewx⟩ : ∃ v : World, v = (w3.alloc (.cells #[.int .i64 (fh m), .int .u64 (fl m)] 28)).alloc (.cells #[.int .i64 (fh x), .int .u64 (fl x), .int .i64 (fh y), .int .u64 (fl y)] 30) := ⟨_, rfl⟩
      have hxx : Below w3.heap.size w3 wx := by rw [ewx]; exact bl_al (bl_al (Below.refl _ _) _) _
      have M5 := Lib.hid (M3.out.below hxx); have T5 := Lib.hid (T3.out.below hxx)
      have N5 : Hid (Bx 28 wx w3.heap.size [.int .i64 (fh m), .int .u64 (fl m)]) := by rw [ewx]; exact (Bx.new _ _ _).alloc _
      have R5 : Hid (Bx 30 wx (w3.heap.size + 1) [.int .i64 (fh x), .int .u64 (fl x), .int .i64 (fh y), .int .u64 (fl y)]) := by
        have q := Bx.new (w3.alloc (.cells #[.int .i64 (fh m), .int .u64 (fl m)] 28)) 30 #[.int .i64 (fh x), .int .u64 (fl x), .int .i64 (fh y), .int .u64 (fl y)]
        simp only [World.size_alloc] at q
        rw [ewx]; exact q
      have HSx := Lib.hid (HS5.out.below hxx)
      have BX : Hid (Below w.heap.size w wx) := bl_trans B4.out hxx
      rw [← ewx]
      clear hxx ewx M3 T3 HS5 B4
      generalize hk1 : w2.heap.size = k1 at *
      generalize hk2 : w3.heap.size = k2 at *
      clear hk1 hk2
      obtain ⟨DB, dof, rfl, zD, hcl⟩ := HSx.out.2.2 (by omega)
      have HLc : Hid (∀ (i : Nat) (b : Bod), L[i]? = some b → ∀ (k : Nat) (u : Value), (bdc b)[k]? = some u → wx.cell? ⟨DB, dof + i * 20 + k, none⟩ = some u) := fun i b hb k u hu => hcl i (bdc b) (by rw [List.getElem?_map, hb]; rfl) k u hu
      have HZD := Lib.hid zD
      obtain ⟨b0, hb0⟩ : ∃ b0, L[0]? = some b0 := ⟨_, List.getElem?_eq_getElem (by rw [← HN.out]; omega)⟩
      have f4 := stays (HLc.out 0 b0 hb0 4 _ rfl) zD; have f5 := stays (HLc.out 0 b0 hb0 5 _ rfl) zD
      have HB0 := Lib.hid hb0
      have i1 : (0 : Int) < (N : Int) := by omega
      have i2 : 0 < N := by omega
      rw [Nat.zero_mul, Nat.add_zero] at f4 f5
      clear hcl hb0 HSx
      go_cut [12, 13] (fun p q wz => ∃ g h, p = .pointer (some ⟨g, 0, none⟩) ∧ q = .pointer (some ⟨h, 0, none⟩) ∧ g ≠ h ∧ wx.heap.size ≤ g ∧ wx.heap.size ≤ h ∧ Bx 28 wz g [.int .i64 (fh b0.x), .int .u64 (fl b0.x)] ∧ Bx 28 wz h [.int .i64 (fh b0.x), .int .u64 (fl b0.x)] ∧ Below wx.heap.size wx wz)
      case first =>
        go_region_held3 (fun w' => Below wx.heap.size wx w') (exact bs) (fail)
        · rename_i hHeld
          have K0' := Lib.hid (((Bx.new wx 28 #[.int .i64 (fh b0.x), .int .u64 (fl b0.x)]).alloc (.cells #[.int .i64 (fh b0.x), .int .u64 (fl b0.x)] 28)).drew)
          have K1' := Bx.new (wx.alloc (.cells #[.int .i64 (fh b0.x), .int .u64 (fl b0.x)] 28)) 28 #[.int .i64 (fh b0.x), .int .u64 (fl b0.x)]
          simp only [World.size_alloc] at K1'
          have K1' := Lib.hid K1'.drew
          clear hHeld
          go_wp2_with fail
          go_meet
          exact ⟨_, _, rfl, rfl, by omega, by omega, by omega, K0'.out, K1'.out, bs⟩
        · rename_i hHeld
          have K0' := Lib.hid (((Bx.new wx 28 #[.int .i64 (fh b0.x), .int .u64 (fl b0.x)]).alloc (.cells #[.int .i64 (fh b0.x), .int .u64 (fl b0.x)] 28)).drew)
          have K1' := Bx.new (wx.alloc (.cells #[.int .i64 (fh b0.x), .int .u64 (fl b0.x)] 28)) 28 #[.int .i64 (fh b0.x), .int .u64 (fl b0.x)]
          simp only [World.size_alloc] at K1'
          have K1' := Lib.hid K1'.drew
          clear hHeld
          go_wp2_with fail
          go_meet
          exact ⟨_, _, rfl, rfl, by omega, by omega, by omega, K1'.out, K0'.out, bs⟩
      case rest =>
      obtain ⟨g, h, rfl, rfl, hgh, hg, hh, zg, zh, hbz⟩ := hcut
      have HGH := Lib.hid (And.intro hgh (And.intro hg hh))
      have ZG := Lib.hid zg; have ZH := Lib.hid zh
      have KZ := Lib.hid (Kb.call (Kb.refl (fun k => k ≠ g ∧ k ≠ h) wx) hbz)
      have BZ := Lib.hid (bl_trans BX.out hbz)
      have HXw : Hid (w.heap.size ≤ wx.heap.size) := BX.out.size
      have HR0 := Lib.hid (HOK.out b0 (List.mem_of_getElem? HB0.out))
      clear hgh hg hh zg zh hbz BX f4 f5
      go_wp2_with fail
      go_loopg [14] N (fun k iv wr => ∃ (i : Nat) (lo hi : Int), i + k = N ∧ iv = .int .i64 (i : Int) ∧ (∀ (j : Nat) (b : Bod), j < i → L[j]? = some b → lo ≤ b.x ∧ b.x ≤ hi) ∧ (∃ b ∈ L, lo = b.x) ∧ (∃ b ∈ L, hi = b.x) ∧ Bx 28 wr g [.int .i64 (fh lo), .int .u64 (fl lo)] ∧ Bx 28 wr h [.int .i64 (fh hi), .int .u64 (fl hi)] ∧ Kb (fun k => k ≠ g ∧ k ≠ h) wx wr ∧ Below w.heap.size w wr)
      case atStart => exact ⟨0, b0.x, b0.x, by omega, rfl, fun j b hj => by omega, ⟨b0, List.mem_of_getElem? HB0.out, rfl⟩, ⟨b0, List.mem_of_getElem? HB0.out, rfl⟩, ZG.out, ZH.out, KZ.out, BZ.out⟩
      case round =>
        obtain ⟨i, lo, hi, hk, rfl, hall, hlo, hhi, hG, hH, hK, hB⟩ := hrel
        obtain ⟨wv, rfl⟩ : ∃ v : World, v = wr := ⟨wr, rfl⟩
        have VG := Lib.hid hG; have VH := Lib.hid hH; have VK := Lib.hid hK; have VB := Lib.hid hB; have HAll := Lib.hid hall; have HLo := Lib.hid hlo; have HHi := Lib.hid hhi
        have HKk : Hid (i + gk = N) := hk
        clear hG hH hK hB hall hlo hhi ZG ZH KZ BZ
        by_cases hlt : i < N
        · obtain ⟨b, hb⟩ : ∃ b, L[i]? = some b := ⟨_, List.getElem?_eq_getElem (by rw [← HN.out]; omega)⟩
          have VL : Hid (wv.cell? ⟨DB, dof + i * 20 + 4, none⟩ = some (.int .i64 (fh b.x)) ∧ wv.cell? ⟨DB, dof + i * 20 + 5, none⟩ = some (.int .u64 (fl b.x)) ∧ DB < wv.heap.size) := by
            have hp : DB ≠ g ∧ DB ≠ h := ⟨by have := HGH.out; have := HZD.out; omega, by have := HGH.out; have := HZD.out; omega⟩
            exact ⟨staysK (P := fun k => k ≠ g ∧ k ≠ h) (HLc.out i b hb 4 _ rfl) HZD.out hp _ VK.out, staysK (P := fun k => k ≠ g ∧ k ≠ h) (HLc.out i b hb 5 _ rfl) HZD.out hp _ VK.out, by have := VK.out.1; have := HZD.out; omega⟩
          have j1 : (i : Int) < (N : Int) := by omega
          have j0 : (0 : Int) ≤ (i : Int) := by omega
          have wi : IntKind.i64.wrap ((i : Int) + 1) = (i : Int) + 1 := by rw [IntWalk.i64_in _ (by have := H20.out; omega)]
          have HBb := Lib.hid hb
          have y4 := stays (VL.out.1) VL.out.2.2; have y5 := stays (VL.out.2.1) VL.out.2.2
          have y6 := stays (VG.out.cell (j := 0) rfl) VG.out.lt; have y7 := stays (VG.out.cell (j := 1) rfl) VG.out.lt
          clear hb hk
          by_cases c1 : b.x < lo
          · have C3 := Lib.hid (KC.out b.x lo)
            rw [show icmp b.x lo = -1 by unfold icmp; rw [if_pos c1]] at C3
            go_upto_region 15 with fail
            go_region_held3 (fun w' => Below wv.heap.size wv w') (exact bs) (first | (go_at_call 8; (with_reducible refine (C3.out _).mono ?_); rintro e w6 ⟨rfl, hb6⟩))
            rename_i hHeld
            have WG := Lib.hid (VG.out.below hHeld); have WH := Lib.hid (VH.out.below hHeld); have WK := Lib.hid (VK.out.call hHeld); have WB := Lib.hid (bl_trans VB.out hHeld)
            have z4 := y4 _ hHeld; have z5 := y5 _ hHeld
            have zG := WG.out.lt; have zF := WG.out.frz
            have d0 := WG.out.cell (j := 0) rfl; have d1 := WG.out.cell (j := 1) rfl
            clear hHeld VG VH VK VB VL y4 y5 y6 y7 C3
            go_upto_region 17 with fail
            refine nw _ fun wq hwq => ?_
            have VG : Hid (Bx 28 wq g [.int .i64 (fh b.x), .int .u64 (fl b.x)]) := by rw [hwq]; exact (WG.out.put 0 _).put 1 _
            have VH : Hid (Bx 28 wq h [.int .i64 (fh hi), .int .u64 (fl hi)]) := by rw [hwq]; exact (WH.out.far (by show h ≠ g; have := HGH.out; omega) _).far (by show h ≠ g; have := HGH.out; omega) _
            have VK : Hid (Kb (fun k => k ≠ g ∧ k ≠ h) wx wq) := by rw [hwq]; exact (WK.out.set (by simp) _ _).set (by simp) _ _
            have VB : Hid (Below w.heap.size w wq) := by rw [hwq]; exact (WB.out.setCell (by have := HGH.out; have := HXw.out; simp; omega) _).setCell (by have := HGH.out; have := HXw.out; simp; omega) _
            clear WG WH WK WB
            have VL : Hid (wq.cell? ⟨DB, dof + i * 20 + 4, none⟩ = some (.int .i64 (fh b.x)) ∧ wq.cell? ⟨DB, dof + i * 20 + 5, none⟩ = some (.int .u64 (fl b.x)) ∧ DB < wq.heap.size) := by
              have hp : DB ≠ g ∧ DB ≠ h := ⟨by have := HGH.out; have := HZD.out; omega, by have := HGH.out; have := HZD.out; omega⟩
              exact ⟨staysK (P := fun k => k ≠ g ∧ k ≠ h) (HLc.out i b HBb.out 4 _ rfl) HZD.out hp _ VK.out, staysK (P := fun k => k ≠ g ∧ k ≠ h) (HLc.out i b HBb.out 5 _ rfl) HZD.out hp _ VK.out, by have := VK.out.1; have := HZD.out; omega⟩
            have y4 := stays (VL.out.1) VL.out.2.2; have y5 := stays (VL.out.2.1) VL.out.2.2
            have y6 := stays (VH.out.cell (j := 0) rfl) VH.out.lt; have y7 := stays (VH.out.cell (j := 1) rfl) VH.out.lt
            clear z4 z5 zG zF d0 d1 hwq
            by_cases c2 : hi < b.x
            · have C3 := Lib.hid (KC.out b.x hi)
              rw [show icmp b.x hi = 1 by unfold icmp; rw [if_neg (by omega), if_pos c2]] at C3
              go_region_held3 (fun w' => Below wq.heap.size wq w') (exact bs) (first | (go_at_call 8; (with_reducible refine (C3.out _).mono ?_); rintro e w6 ⟨rfl, hb6⟩))
              rename_i hHeld
              have WG := Lib.hid (VG.out.below hHeld); have WH := Lib.hid (VH.out.below hHeld); have WK := Lib.hid (VK.out.call hHeld); have WB := Lib.hid (bl_trans VB.out hHeld)
              have z4 := y4 _ hHeld; have z5 := y5 _ hHeld
              have zG := WH.out.lt; have zF := WH.out.frz
              have d0 := WH.out.cell (j := 0) rfl; have d1 := WH.out.cell (j := 1) rfl
              clear hHeld VG VH VK VB VL y4 y5 y6 y7 C3
              go_upto_region 14 with fail
              refine nw _ fun wq hwq => ?_
              have VH : Hid (Bx 28 wq h [.int .i64 (fh b.x), .int .u64 (fl b.x)]) := by rw [hwq]; exact (WH.out.put 0 _).put 1 _
              have VG : Hid (Bx 28 wq g [.int .i64 (fh b.x), .int .u64 (fl b.x)]) := by rw [hwq]; exact (WG.out.far (by show g ≠ h; have := HGH.out; omega) _).far (by show g ≠ h; have := HGH.out; omega) _
              have VK : Hid (Kb (fun k => k ≠ g ∧ k ≠ h) wx wq) := by rw [hwq]; exact (WK.out.set (by simp) _ _).set (by simp) _ _
              have VB : Hid (Below w.heap.size w wq) := by rw [hwq]; exact (WB.out.setCell (by have := HGH.out; have := HXw.out; simp; omega) _).setCell (by have := HGH.out; have := HXw.out; simp; omega) _
              clear hwq WG WH WK WB z4 z5 zG zF d0 d1
              go_wp2_with fail
              obtain ⟨z, rfl⟩ : ∃ z, gk = z + 1 := ⟨gk - 1, by have := HKk.out; omega⟩
              go_roundg z
              case measure => omega
              case rel =>
                refine ⟨i + 1, b.x, b.x, by have := HKk.out; omega, by simp, fun j b' hj hb' => ?_, ⟨b, List.mem_of_getElem? HBb.out, rfl⟩, ⟨b, List.mem_of_getElem? HBb.out, rfl⟩, VG.out, VH.out, VK.out, VB.out⟩
                rcases Nat.lt_or_ge j i with hji | hji
                · have := HAll.out j b' hji hb'; omega
                · obtain rfl : j = i := by omega
                  obtain rfl : b = b' := by have := HBb.out; rw [hb'] at this; injection this with this; exact this.symm
                  omega
            · have C3 := Lib.hid (KC.out b.x hi)
              obtain ⟨zi, hzi, hz0⟩ : ∃ zi, zi = icmp b.x hi ∧ ¬ 0 < zi := ⟨_, rfl, by unfold icmp; split <;> first | omega | (split <;> omega)⟩
              rw [← hzi] at C3
              clear hzi
              go_region_held3 (fun w' => Below wq.heap.size wq w') (exact bs) (first | (go_at_call 8; (with_reducible refine (C3.out _).mono ?_); rintro e w6 ⟨rfl, hb6⟩))
              rename_i hHeld
              have WG := Lib.hid (VG.out.below hHeld); have WH := Lib.hid (VH.out.below hHeld); have WK := Lib.hid (VK.out.call hHeld); have WB := Lib.hid (bl_trans VB.out hHeld)
              have z4 := y4 _ hHeld; have z5 := y5 _ hHeld
              have zG := WH.out.lt; have zF := WH.out.frz
              have d0 := WH.out.cell (j := 0) rfl; have d1 := WH.out.cell (j := 1) rfl
              clear hHeld VG VH VK VB VL y4 y5 y6 y7 C3
              go_upto_region 14 with fail
              refine nw _ fun wq hwq => ?_
              have VG : Hid (Bx 28 wq g [.int .i64 (fh b.x), .int .u64 (fl b.x)]) := by rw [hwq]; exact WG.out
              have VH : Hid (Bx 28 wq h [.int .i64 (fh hi), .int .u64 (fl hi)]) := by rw [hwq]; exact WH.out
              have VK : Hid (Kb (fun k => k ≠ g ∧ k ≠ h) wx wq) := by rw [hwq]; exact WK.out
              have VB : Hid (Below w.heap.size w wq) := by rw [hwq]; exact WB.out
              clear hwq WG WH WK WB z4 z5 zG zF d0 d1
              go_wp2_with fail
              obtain ⟨z, rfl⟩ : ∃ z, gk = z + 1 := ⟨gk - 1, by have := HKk.out; omega⟩
              go_roundg z
              case measure => omega
              case rel =>
                refine ⟨i + 1, b.x, hi, by have := HKk.out; omega, by simp, fun j b' hj hb' => ?_, ⟨b, List.mem_of_getElem? HBb.out, rfl⟩, HHi.out, VG.out, VH.out, VK.out, VB.out⟩
                rcases Nat.lt_or_ge j i with hji | hji
                · have := HAll.out j b' hji hb'; omega
                · obtain rfl : j = i := by omega
                  obtain rfl : b = b' := by have := HBb.out; rw [hb'] at this; injection this with this; exact this.symm
                  omega
          · have C3 := Lib.hid (KC.out b.x lo)
            obtain ⟨zl, hzl, hz1⟩ : ∃ zl, zl = icmp b.x lo ∧ ¬ zl < 0 := ⟨_, rfl, by unfold icmp; rw [if_neg c1]; split <;> omega⟩
            rw [← hzl] at C3
            clear hzl
            go_upto_region 15 with fail
            go_region_held3 (fun w' => Below wv.heap.size wv w') (exact bs) (first | (go_at_call 8; (with_reducible refine (C3.out _).mono ?_); rintro e w6 ⟨rfl, hb6⟩))
            rename_i hHeld
            have WG := Lib.hid (VG.out.below hHeld); have WH := Lib.hid (VH.out.below hHeld); have WK := Lib.hid (VK.out.call hHeld); have WB := Lib.hid (bl_trans VB.out hHeld)
            have z4 := y4 _ hHeld; have z5 := y5 _ hHeld
            have zG := WG.out.lt; have zF := WG.out.frz
            have d0 := WG.out.cell (j := 0) rfl; have d1 := WG.out.cell (j := 1) rfl
            clear hHeld VG VH VK VB VL y4 y5 y6 y7 C3
            go_upto_region 17 with fail
            refine nw _ fun wq hwq => ?_
            have VG : Hid (Bx 28 wq g [.int .i64 (fh lo), .int .u64 (fl lo)]) := by rw [hwq]; exact WG.out
            have VH : Hid (Bx 28 wq h [.int .i64 (fh hi), .int .u64 (fl hi)]) := by rw [hwq]; exact WH.out
            have VK : Hid (Kb (fun k => k ≠ g ∧ k ≠ h) wx wq) := by rw [hwq]; exact WK.out
            have VB : Hid (Below w.heap.size w wq) := by rw [hwq]; exact WB.out
            clear WG WH WK WB
            have VL : Hid (wq.cell? ⟨DB, dof + i * 20 + 4, none⟩ = some (.int .i64 (fh b.x)) ∧ wq.cell? ⟨DB, dof + i * 20 + 5, none⟩ = some (.int .u64 (fl b.x)) ∧ DB < wq.heap.size) := by
              have hp : DB ≠ g ∧ DB ≠ h := ⟨by have := HGH.out; have := HZD.out; omega, by have := HGH.out; have := HZD.out; omega⟩
              exact ⟨staysK (P := fun k => k ≠ g ∧ k ≠ h) (HLc.out i b HBb.out 4 _ rfl) HZD.out hp _ VK.out, staysK (P := fun k => k ≠ g ∧ k ≠ h) (HLc.out i b HBb.out 5 _ rfl) HZD.out hp _ VK.out, by have := VK.out.1; have := HZD.out; omega⟩
            have y4 := stays (VL.out.1) VL.out.2.2; have y5 := stays (VL.out.2.1) VL.out.2.2
            have y6 := stays (VH.out.cell (j := 0) rfl) VH.out.lt; have y7 := stays (VH.out.cell (j := 1) rfl) VH.out.lt
            clear z4 z5 zG zF d0 d1 hwq
            by_cases c2 : hi < b.x
            · have C3 := Lib.hid (KC.out b.x hi)
              rw [show icmp b.x hi = 1 by unfold icmp; rw [if_neg (by omega), if_pos c2]] at C3
              go_region_held3 (fun w' => Below wq.heap.size wq w') (exact bs) (first | (go_at_call 8; (with_reducible refine (C3.out _).mono ?_); rintro e w6 ⟨rfl, hb6⟩))
              rename_i hHeld
              have WG := Lib.hid (VG.out.below hHeld); have WH := Lib.hid (VH.out.below hHeld); have WK := Lib.hid (VK.out.call hHeld); have WB := Lib.hid (bl_trans VB.out hHeld)
              have z4 := y4 _ hHeld; have z5 := y5 _ hHeld
              have zG := WH.out.lt; have zF := WH.out.frz
              have d0 := WH.out.cell (j := 0) rfl; have d1 := WH.out.cell (j := 1) rfl
              clear hHeld VG VH VK VB VL y4 y5 y6 y7 C3
              go_upto_region 14 with fail
              refine nw _ fun wq hwq => ?_
              have VH : Hid (Bx 28 wq h [.int .i64 (fh b.x), .int .u64 (fl b.x)]) := by rw [hwq]; exact (WH.out.put 0 _).put 1 _
              have VG : Hid (Bx 28 wq g [.int .i64 (fh lo), .int .u64 (fl lo)]) := by rw [hwq]; exact (WG.out.far (by show g ≠ h; have := HGH.out; omega) _).far (by show g ≠ h; have := HGH.out; omega) _
              have VK : Hid (Kb (fun k => k ≠ g ∧ k ≠ h) wx wq) := by rw [hwq]; exact (WK.out.set (by simp) _ _).set (by simp) _ _
              have VB : Hid (Below w.heap.size w wq) := by rw [hwq]; exact (WB.out.setCell (by have := HGH.out; have := HXw.out; simp; omega) _).setCell (by have := HGH.out; have := HXw.out; simp; omega) _
              clear hwq WG WH WK WB z4 z5 zG zF d0 d1
              go_wp2_with fail
              obtain ⟨z, rfl⟩ : ∃ z, gk = z + 1 := ⟨gk - 1, by have := HKk.out; omega⟩
              go_roundg z
              case measure => omega
              case rel =>
                refine ⟨i + 1, lo, b.x, by have := HKk.out; omega, by simp, fun j b' hj hb' => ?_, HLo.out, ⟨b, List.mem_of_getElem? HBb.out, rfl⟩, VG.out, VH.out, VK.out, VB.out⟩
                rcases Nat.lt_or_ge j i with hji | hji
                · have := HAll.out j b' hji hb'; omega
                · obtain rfl : j = i := by omega
                  obtain rfl : b = b' := by have := HBb.out; rw [hb'] at this; injection this with this; exact this.symm
                  omega
            · have C3 := Lib.hid (KC.out b.x hi)
              obtain ⟨zi, hzi, hz0⟩ : ∃ zi, zi = icmp b.x hi ∧ ¬ 0 < zi := ⟨_, rfl, by unfold icmp; split <;> first | omega | (split <;> omega)⟩
              rw [← hzi] at C3
              clear hzi
              go_region_held3 (fun w' => Below wq.heap.size wq w') (exact bs) (first | (go_at_call 8; (with_reducible refine (C3.out _).mono ?_); rintro e w6 ⟨rfl, hb6⟩))
              rename_i hHeld
              have WG := Lib.hid (VG.out.below hHeld); have WH := Lib.hid (VH.out.below hHeld); have WK := Lib.hid (VK.out.call hHeld); have WB := Lib.hid (bl_trans VB.out hHeld)
              have z4 := y4 _ hHeld; have z5 := y5 _ hHeld
              have zG := WH.out.lt; have zF := WH.out.frz
              have d0 := WH.out.cell (j := 0) rfl; have d1 := WH.out.cell (j := 1) rfl
              clear hHeld VG VH VK VB VL y4 y5 y6 y7 C3
              go_upto_region 14 with fail
              refine nw _ fun wq hwq => ?_
              have VG : Hid (Bx 28 wq g [.int .i64 (fh lo), .int .u64 (fl lo)]) := by rw [hwq]; exact WG.out
              have VH : Hid (Bx 28 wq h [.int .i64 (fh hi), .int .u64 (fl hi)]) := by rw [hwq]; exact WH.out
              have VK : Hid (Kb (fun k => k ≠ g ∧ k ≠ h) wx wq) := by rw [hwq]; exact WK.out
              have VB : Hid (Below w.heap.size w wq) := by rw [hwq]; exact WB.out
              clear hwq WG WH WK WB z4 z5 zG zF d0 d1
              go_wp2_with fail
              obtain ⟨z, rfl⟩ : ∃ z, gk = z + 1 := ⟨gk - 1, by have := HKk.out; omega⟩
              go_roundg z
              case measure => omega
              case rel =>
                refine ⟨i + 1, lo, hi, by have := HKk.out; omega, by simp, fun j b' hj hb' => ?_, HLo.out, HHi.out, VG.out, VH.out, VK.out, VB.out⟩
                rcases Nat.lt_or_ge j i with hji | hji
                · have := HAll.out j b' hji hb'; omega
                · obtain rfl : j = i := by omega
                  obtain rfl : b = b' := by have := HBb.out; rw [hb'] at this; injection this with this; exact this.symm
                  omega
        · obtain rfl : i = N := by omega
          have j1 : ¬ (i : Int) < (i : Int) := by omega
          have kM : k1 ≠ g ∧ k1 ≠ h := ⟨by have := HGH.out; have := M5.out.lt; omega, by have := HGH.out; have := M5.out.lt; omega⟩
          have kT : k1 + 1 ≠ g ∧ k1 + 1 ≠ h := ⟨by have := HGH.out; have := T5.out.lt; omega, by have := HGH.out; have := T5.out.lt; omega⟩
          have kN : k2 ≠ g ∧ k2 ≠ h := ⟨by have := HGH.out; have := N5.out.lt; omega, by have := HGH.out; have := N5.out.lt; omega⟩
          have kR : k2 + 1 ≠ g ∧ k2 + 1 ≠ h := ⟨by have := HGH.out; have := R5.out.lt; omega, by have := HGH.out; have := R5.out.lt; omega⟩
          have VM := Lib.hid (M5.out.block (VK.out.2 k1 kM M5.out.lt)); have VT := Lib.hid (T5.out.block (VK.out.2 (k1 + 1) kT T5.out.lt)); have VN := Lib.hid (N5.out.block (VK.out.2 k2 kN N5.out.lt)); have VR := Lib.hid (R5.out.block (VK.out.2 (k2 + 1) kR R5.out.lt))
          have Hx : Hid (lo ≤ x ∧ x ≤ hi) := HB.out lo hi fun b hb => by
            obtain ⟨j, hj⟩ := List.mem_iff_getElem?.1 hb
            exact HAll.out j b (by rw [HN.out]; exact (List.getElem?_eq_some_iff.1 hj).1) hj
          have Hlo : Hid (-19807040628566084398385987584 ≤ lo ∧ lo ≤ 19807040628566084398385987584) := by
            obtain ⟨b, hb, e⟩ := HLo.out
            rw [e]; exact ⟨(HOK.out b hb).2.2.1, (HOK.out b hb).2.2.2.1⟩
          have Hhi : Hid (-19807040628566084398385987584 ≤ hi ∧ hi ≤ 19807040628566084398385987584) := by
            obtain ⟨b, hb, e⟩ := HHi.out
            rw [e]; exact ⟨(HOK.out b hb).2.2.1, (HOK.out b hb).2.2.2.1⟩
          have s0 : fh 1024 = 0 := by decide
          have s1 : fl 1024 = 1024 := by decide
          have C1 := KS.out lo 1024 (by have := Hlo.out; unfold My; omega) (by unfold My; omega) (by have := Hlo.out; unfold My; omega)
          have C2 := KA.out hi 1024 (by have := Hhi.out; unfold My; omega) (by unfold My; omega) (by have := Hhi.out; unfold My; omega)
          simp only [fxv, s0, s1] at C1 C2
          have C3 := KC.out x (lo - 1024)
          rw [show icmp x (lo - 1024) = 1 by unfold icmp; rw [if_neg (by have := Hx.out; omega), if_pos (by have := Hx.out; omega)]] at C3
          have C4 := KC.out x (hi + 1024)
          rw [show icmp x (hi + 1024) = -1 by unfold icmp; rw [if_pos (by have := Hx.out; omega)]] at C4
          have C1 := Lib.hid C1; have C2 := Lib.hid C2; have C3 := Lib.hid C3; have C4 := Lib.hid C4
          generalize lo - 1024 = lo2 at C1 C3
          generalize hi + 1024 = hi2 at C2 C4
          have hgk : Hid (k1 + 1 ≠ g ∧ k1 + 1 ≠ h ∧ k2 ≠ g ∧ k2 ≠ h ∧ k2 + 1 ≠ g ∧ k2 + 1 ≠ h ∧ k1 ≠ g ∧ k1 ≠ h) := ⟨kT.1, kT.2, kN.1, kN.2, kR.1, kR.2, kM.1, kM.2⟩
          have hfl := got_field
          clear s0 s1 kM kT kN kR hk hlt M5 T5 N5 R5 HB HAll HLo HHi Hlo Hhi Hx HLc VK
          go_upto_region 20 with fail
          refine nw _ fun wa hwa => ?_
          have AS : Hid (Bx 28 wa wv.heap.size [.int .i64 0, .int .u64 1024]) := by rw [hwa]; exact Bx.new wv _ _
          have AM : Hid (Bx 28 wa k1 [.int .i64 (fh m), .int .u64 (fl m)]) := by rw [hwa]; exact VM.out.alloc _
          have AT : Hid (Bx 30 wa (k1 + 1) [.int .i64 (fh x), .int .u64 (fl x), .int .i64 (fh y), .int .u64 (fl y)]) := by rw [hwa]; exact VT.out.alloc _
          have AN : Hid (Bx 28 wa k2 [.int .i64 (fh m), .int .u64 (fl m)]) := by rw [hwa]; exact VN.out.alloc _
          have AR : Hid (Bx 30 wa (k2 + 1) [.int .i64 (fh x), .int .u64 (fl x), .int .i64 (fh y), .int .u64 (fl y)]) := by rw [hwa]; exact VR.out.alloc _
          have AG : Hid (Bx 28 wa g [.int .i64 (fh lo), .int .u64 (fl lo)]) := by rw [hwa]; exact VG.out.alloc _
          have AH : Hid (Bx 28 wa h [.int .i64 (fh hi), .int .u64 (fl hi)]) := by rw [hwa]; exact VH.out.alloc _
          have AB : Hid (Below w.heap.size w wa) := by rw [hwa]; exact bl_al VB.out _
          have hsb : Hid (wv.heap.size ≠ g ∧ wv.heap.size ≠ h) := ⟨by have := VG.out.lt; omega, by have := VH.out.lt; omega⟩
          generalize wv.heap.size = sb at *
          clear hwa VM VT VN VR VG VH VB
          have d0 := AG.out.cell (j := 0) rfl; have d1 := AG.out.cell (j := 1) rfl; have t0 := AS.out.cell (j := 0) rfl; have t1 := AS.out.cell (j := 1) rfl
          go_upto_region 21 with (first
            | (go_at_call 9; (with_reducible refine (C1.out _).mono ?_); rintro e wb ⟨rfl, hb⟩; have BM := Lib.hid (AM.out.below hb); have BT := Lib.hid (AT.out.below hb); have BN := Lib.hid (AN.out.below hb); have BR := Lib.hid (AR.out.below hb); have BG := Lib.hid (AG.out.below hb); have BH := Lib.hid (AH.out.below hb); have BS := Lib.hid (AS.out.below hb); have BB := Lib.hid (bl_trans AB.out hb); clear hb AM AT AN AR AG AH AS AB d0 d1 t0 t1; have zG := BG.out.lt; have zF := BG.out.frz; have d0 := BG.out.cell (j := 0) rfl; have d1 := BG.out.cell (j := 1) rfl)
            | fail)
          refine nw _ fun wa hwa => ?_
          have AM : Hid (Bx 28 wa k1 [.int .i64 (fh m), .int .u64 (fl m)]) := by rw [hwa]; exact (BM.out.far (by show k1 ≠ g; have := hgk.out; omega) _).far (by show k1 ≠ g; have := hgk.out; omega) _
          have AT : Hid (Bx 30 wa (k1 + 1) [.int .i64 (fh x), .int .u64 (fl x), .int .i64 (fh y), .int .u64 (fl y)]) := by rw [hwa]; exact (BT.out.far (by show (k1 + 1) ≠ g; have := hgk.out; omega) _).far (by show (k1 + 1) ≠ g; have := hgk.out; omega) _
          have AN : Hid (Bx 28 wa k2 [.int .i64 (fh m), .int .u64 (fl m)]) := by rw [hwa]; exact (BN.out.far (by show k2 ≠ g; have := hgk.out; omega) _).far (by show k2 ≠ g; have := hgk.out; omega) _
          have AR : Hid (Bx 30 wa (k2 + 1) [.int .i64 (fh x), .int .u64 (fl x), .int .i64 (fh y), .int .u64 (fl y)]) := by rw [hwa]; exact (BR.out.far (by show (k2 + 1) ≠ g; have := hgk.out; omega) _).far (by show (k2 + 1) ≠ g; have := hgk.out; omega) _
          have AS : Hid (Bx 28 wa sb [.int .i64 0, .int .u64 1024]) := by rw [hwa]; exact (BS.out.far (by show sb ≠ g; have := hsb.out; omega) _).far (by show sb ≠ g; have := hsb.out; omega) _
          have AG : Hid (Bx 28 wa g [.int .i64 (fh lo2), .int .u64 (fl lo2)]) := by rw [hwa]; exact (BG.out.put 0 _).put 1 _
          have AH : Hid (Bx 28 wa h [.int .i64 (fh hi), .int .u64 (fl hi)]) := by rw [hwa]; exact (BH.out.far (by show h ≠ g; have := HGH.out; omega) _).far (by show h ≠ g; have := HGH.out; omega) _
          have AB : Hid (Below w.heap.size w wa) := by rw [hwa]; exact (BB.out.setCell (by have := HGH.out; have := HXw.out; simp; omega) _).setCell (by have := HGH.out; have := HXw.out; simp; omega) _
          clear hwa zG zF d0 d1 BM BT BN BR BG BH BS BB
          have d0 := AH.out.cell (j := 0) rfl; have d1 := AH.out.cell (j := 1) rfl; have t0 := AS.out.cell (j := 0) rfl; have t1 := AS.out.cell (j := 1) rfl
          go_upto_region 22 with (first
            | (go_at_call 10; (with_reducible refine (C2.out _).mono ?_); rintro e wb ⟨rfl, hb⟩; have BM := Lib.hid (AM.out.below hb); have BT := Lib.hid (AT.out.below hb); have BN := Lib.hid (AN.out.below hb); have BR := Lib.hid (AR.out.below hb); have BG := Lib.hid (AG.out.below hb); have BH := Lib.hid (AH.out.below hb); have BS := Lib.hid (AS.out.below hb); have BB := Lib.hid (bl_trans AB.out hb); clear hb AM AT AN AR AG AH AS AB d0 d1 t0 t1; have zG := BH.out.lt; have zF := BH.out.frz; have d0 := BH.out.cell (j := 0) rfl; have d1 := BH.out.cell (j := 1) rfl)
            | fail)
          refine nw _ fun wa hwa => ?_
          have AM : Hid (Bx 28 wa k1 [.int .i64 (fh m), .int .u64 (fl m)]) := by rw [hwa]; exact (BM.out.far (by show k1 ≠ h; have := hgk.out; omega) _).far (by show k1 ≠ h; have := hgk.out; omega) _
          have AT : Hid (Bx 30 wa (k1 + 1) [.int .i64 (fh x), .int .u64 (fl x), .int .i64 (fh y), .int .u64 (fl y)]) := by rw [hwa]; exact (BT.out.far (by show (k1 + 1) ≠ h; have := hgk.out; omega) _).far (by show (k1 + 1) ≠ h; have := hgk.out; omega) _
          have AN : Hid (Bx 28 wa k2 [.int .i64 (fh m), .int .u64 (fl m)]) := by rw [hwa]; exact (BN.out.far (by show k2 ≠ h; have := hgk.out; omega) _).far (by show k2 ≠ h; have := hgk.out; omega) _
          have AR : Hid (Bx 30 wa (k2 + 1) [.int .i64 (fh x), .int .u64 (fl x), .int .i64 (fh y), .int .u64 (fl y)]) := by rw [hwa]; exact (BR.out.far (by show (k2 + 1) ≠ h; have := hgk.out; omega) _).far (by show (k2 + 1) ≠ h; have := hgk.out; omega) _
          have AS : Hid (Bx 28 wa sb [.int .i64 0, .int .u64 1024]) := by rw [hwa]; exact (BS.out.far (by show sb ≠ h; have := hsb.out; omega) _).far (by show sb ≠ h; have := hsb.out; omega) _
          have AH : Hid (Bx 28 wa h [.int .i64 (fh hi2), .int .u64 (fl hi2)]) := by rw [hwa]; exact (BH.out.put 0 _).put 1 _
          have AG : Hid (Bx 28 wa g [.int .i64 (fh lo2), .int .u64 (fl lo2)]) := by rw [hwa]; exact (BG.out.far (by show g ≠ h; have := HGH.out; omega) _).far (by show g ≠ h; have := HGH.out; omega) _
          have AB : Hid (Below w.heap.size w wa) := by rw [hwa]; exact (BB.out.setCell (by have := HGH.out; have := HXw.out; simp; omega) _).setCell (by have := HGH.out; have := HXw.out; simp; omega) _
          clear hwa zG zF d0 d1 BM BT BN BR BG BH BS BB
          have d0 := stays (AG.out.cell (j := 0) rfl) AG.out.lt; have d1 := stays (AG.out.cell (j := 1) rfl) AG.out.lt
          have e0 := stays (AH.out.cell (j := 0) rfl) AH.out.lt; have e1 := stays (AH.out.cell (j := 1) rfl) AH.out.lt
          have m0 := stays (AM.out.cell (j := 0) rfl) AM.out.lt; have m1 := stays (AM.out.cell (j := 1) rfl) AM.out.lt
          have n0 := stays (AN.out.cell (j := 0) rfl) AN.out.lt; have n1 := stays (AN.out.cell (j := 1) rfl) AN.out.lt
          have t0 := stays (AT.out.cell (j := 0) rfl) AT.out.lt; have t1 := stays (AT.out.cell (j := 1) rfl) AT.out.lt; have t2 := stays (AT.out.cell (j := 2) rfl) AT.out.lt; have t3 := stays (AT.out.cell (j := 3) rfl) AT.out.lt
          have r0 := stays (AR.out.cell (j := 0) rfl) AR.out.lt; have r1 := stays (AR.out.cell (j := 1) rfl) AR.out.lt; have r2 := stays (AR.out.cell (j := 2) rfl) AR.out.lt; have r3 := stays (AR.out.cell (j := 3) rfl) AR.out.lt
          clear AG AH AM AN AT AR AS
          have W0 := Below.refl wa.heap.size wa
          go_wp2_with (first
            | (go_at_call 11; (with_reducible refine (K0.out _).mono ?_); rintro e wc ⟨rfl, hbc⟩; have W1 := bl_trans W0 hbc; clear W0 hbc; have W0 := W1; clear W1)
            | (go_at_call 8; (with_reducible refine (C3.out _).mono ?_); rintro e wc ⟨rfl, hbc⟩; have W1 := bl_trans W0 hbc; clear W0 hbc; have W0 := W1; clear W1)
            | (go_at_call 8; (with_reducible refine (C4.out _).mono ?_); rintro e wc ⟨rfl, hbc⟩; have W1 := bl_trans W0 hbc; clear W0 hbc; have W0 := W1; clear W1)
            | (go_at_call 6; (with_reducible refine (KW.out _).mono ?_); rintro e wc ⟨rfl, hbc⟩; have W1 := bl_trans W0 hbc; clear W0 hbc; have W0 := W1; clear W1)
            | fail)
          go_returns
          exact ⟨rfl, bl_trans AB.out W0⟩
    · obtain ⟨i, rfl⟩ : ∃ j, i = j + 1 := ⟨i - 1, by omega⟩
      have g0 : (0 : Int) ≤ ((i + 1 : Nat) : Int) - 1 := by omega
      have e1 : ((i + 1 : Nat) : Int) - 1 = (i : Int) := by omega
      have i1 : (i : Int) < (N : Int) := by omega
      have i0 : (0 : Int) ≤ (i : Int) := by omega
      have wi : IntKind.i64.wrap ((i : Int) - 1) = (i : Int) - 1 := by rw [IntWalk.i64_in _ (by have := H20.out; omega)]
      obtain ⟨DB, dof, b, rfl, zD, hb, hv⟩ := (HS1.out.below IB.out).at_ (i := i) (by omega)
      have HV : Hid (wr.rangeAt DB (dof + i * 20) (bdc b)) := hv
      have HBB := Lib.hid (bdc_one b)
      have hbl := bdc_len b
      have HSN := Lib.hid (back_snoc hb)
      have HK : Hid (i + 1 = gk ∧ i + 1 ≤ N) := ⟨hik, hiN⟩
      rw [e1]
      clear hv hb hik hiN h0 e1
      go_wp2_with (first
        | (refine wpList_load_mid rfl 32 _ rfl DB (dof + i * 20) rfl (bdc b) _ HV.out Try.underlying32 rfl (by kernel_rfl) ?_)
        | (at_builtin; refine wpList_append_rows bd_row rfl _ _ rfl w1.heap.size _ (N - (i + 1)) ((L.drop (i + 1)).reverse.map bdc) rfl (own_kept IO.out (bl_al (Below.refl _ _) _)) _ 1 1 [bdc b] rfl ?d1 ?d2 ?d3 ?d4 ?d5 ?d6 ?_)
        | fail)
      case d1 => exact (R0.new (s := 20) wr 32 (C := [bdc b]) (by intro c hc; simp at hc; subst hc; rfl) (by rw [bdc_fold]; simp)).slice
      case d2 => exact HBB.out
      try (case d3 => simp)
      case d4 => have := H20.out; unfold maxLen; omega
      case d5 => have := H20.out; omega
      case d6 => have := IB.out.size; simp; omega
      intro va w4 hown4 hgrow _ _
      have VO : Hid (w4.ownsRow w1.heap.size 32 20 va (N - i) (((L.drop i).reverse).map bdc).flatten) := by
        have e : ∀ p : Prop, p → Hid p := fun _ h => h
        refine e _ ?_
        rw [← HSN.out, List.map_append, show N - i = N - (i + 1) + 1 by have := HK.out; omega]; simpa using hown4
      have VB : Hid (Below w1.heap.size w1 w4) := (bl_al IB.out _).grown hgrow (by have := IB.out.size; simp; omega) (fun q hq => own_block IO.out q hq)
      clear hown4 hgrow IO IB hbl
      go_wp2_with fail
      obtain ⟨g, rfl⟩ : ∃ g, gk = g + 1 := ⟨gk - 1, by have := HK.out; omega⟩
      go_roundg g
      case measure => omega
      case rel => exact ⟨i, by have := HK.out; omega, by have := HK.out; omega, by simp, VO.out, VB.out⟩
end Go.Proofs.Ytjilnmpajhifcaa
