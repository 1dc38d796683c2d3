/- The program's By: eight deals, from the lowest digit up; and its Rising. -/
import Derived.Test.YtdaajhfippnciaaSortDeal
import Derived.Test.YtdaajhfippnciaaSortCopy
import Derived.Deep.RegionWith
namespace Go.Proofs.Ytdaajhfippnciaa
open Go.RowKit
set_option maxRecDepth 20000 in
set_option maxHeartbeats 8000000 in
theorem prising_any (A : Option Addr) (n c : Nat) (L : List (Nat × Int)) (hn : n < 9223372036854775807) (w : World) (hL : Ks w A n L) :
    Calls Try.prog 10 #[.slice A n c] w fun e w' => e = .returned (.bool (rs L)) ∧ Below w.heap.size w w' := by
  have HL := Lib.hid hL; clear hL
  have HN := Lib.hid hn; clear hn
  go_enter Try.func10, Try.ntmps10
  go_wp2_with fail
  go_loopg [3] n (fun k iv wr => ∃ i : Nat, 1 ≤ i ∧ n ≤ i + k ∧ i + k ≤ n + 1 ∧ iv = .int .i64 (i : Int) ∧ rs (L.take i) = true ∧ Below w.heap.size w wr)
  case atStart => exact ⟨1, by omega, by omega, by omega, rfl, by cases L <;> rfl, Below.refl _ _⟩
  case round =>
    obtain ⟨i, hi1, hk, hk2, rfl, hr, hbl⟩ := hrel
    obtain ⟨j, hj⟩ : ∃ j, i = j + 1 := ⟨i - 1, by omega⟩
    have HJ := Lib.hid hj
    have HB := Lib.hid hbl
    have HR := Lib.hid hr
    have h9 := HN.out
    clear hbl hr
    by_cases hlt : i < n
    · obtain ⟨G, o, x, rfl, hb, hx, c0, _⟩ := (HL.out.below HB.out).at_ (k := j) (by omega)
      obtain ⟨G', o', y, e, _, hy, d0, _⟩ := (HL.out.below HB.out).at_ (k := i) hlt
      obtain ⟨rfl, rfl⟩ : G = G' ∧ o = o' := by simpa using e
      have hi : (i : Int) < (n : Int) := by omega
      have h0 : (0 : Int) ≤ (i : Int) := by omega
      have h1 : (0 : Int) ≤ (j : Int) := by omega
      have h2 : (j : Int) < (n : Int) := by omega
      have wi : IntKind.i64.wrap ((i : Int) + 1) = (i : Int) + 1 := by rw [IntWalk.i64_in _ (by omega)]
      have wj : IntKind.i64.wrap ((i : Int) - 1) = (j : Int) := by rw [IntWalk.i64_in _ (by omega)]; omega
      have HK : Hid (n ≤ i + gk ∧ i + gk ≤ n + 1) := ⟨hk, hk2⟩
      have HY : Hid (L[j + 1]? = some y) := by show _ = _; rw [← hj]; exact hy
      have HX := Lib.hid hx
      clear e hx hy hk hk2 h9 hj
      go_upto_region 4 with fail
      go_region_held3 (fun w' => w'.cell? ⟨G, o + j * 2, none⟩ = some (.int .u64 (x.1 : Int)) ∧ w'.cell? ⟨G, o + i * 2, none⟩ = some (.int .u64 (y.1 : Int))) (first | (simp [*, go_sem]; done)) (fail)
      rename_i hHeld
      clear hHeld
      by_cases hc : y.1 < x.1
      · have E : Hid (false = rs L) := by show _ = _; rw [rs_false HX.out HY.out (by omega)]
        go_wp2_with fail
        go_returns
        exact ⟨ret_bool E.out, bb⟩
      · go_wp2_with fail
        obtain ⟨g, rfl⟩ : ∃ g, gk = g + 1 := ⟨gk - 1, by have := HK.out; omega⟩
        go_roundg g
        case measure => omega
        case rel =>
          refine ⟨i + 1, by omega, by have := HK.out; omega, by have := HK.out; omega, by simp, ?_, bb⟩
          have q := rs_take L j x y HX.out HY.out
          have r := HR.out
          rw [HJ.out] at r ⊢
          rw [q, r, Bool.true_and, decide_eq_true_eq]; omega
    · have E : Hid (true = rs L) := by
        show _ = _
        have r := HR.out
        rw [List.take_of_length_le (by have := HL.out.1; omega)] at r
        rw [r]
      have hi : ¬ (i : Int) < (n : Int) := by omega
      go_wp2_with fail
      go_returns
      exact ⟨ret_bool E.out, bb⟩
theorem ris_prog : RisT := fun A n c L hn W hL => prising_any A n c L hn W hL
set_option maxRecDepth 20000 in
set_option maxHeartbeats 8000000 in
theorem by_prog : ByT := by
  intro A n c L hn hA h64 w hL
  have HL := Lib.hid hL; have HN := Lib.hid hn; have HA := Lib.hid hA; have H64 := Lib.hid h64
  have hlen := hL.1
  have HLN := Lib.hid hlen
  obtain ⟨cs, hcs, hmk⟩ := kd_makes n hn
  have HCS := Lib.hid hcs
  clear hL hn hA h64 hlen hcs
  go_enter Try.func8, Try.ntmps8
  go_upto_region 1 with fail
  go_cut [3, 4] (fun s r wz => ∃ g h, s = .slice (some ⟨g, 0, none⟩) n n ∧ r = .slice (some ⟨h, 0, none⟩) n n ∧ g ≠ h ∧ w.heap.size ≤ g ∧ w.heap.size ≤ h ∧ Kr wz g n (List.replicate n (0, 0)) ∧ Kr wz h n (List.replicate n (0, 0)) ∧ Below w.heap.size w wz)
  case first =>
    have k0 := Kr.new w (List.replicate n ((0 : Nat), (0 : Int))) HCS.out
    have k1 := Kr.new (w.alloc (.cells cs 32)) (List.replicate n ((0 : Nat), (0 : Int))) HCS.out
    rw [List.length_replicate] at k0 k1
    simp only [World.size_alloc] at k1
    have K0 := Lib.hid (k0.alloc (.cells cs 32)); have K1 := Lib.hid k1
    clear k0 k1
    go_region_with (fail)
    · go_wp2_with fail
      go_meet
      exact ⟨_, _, rfl, rfl, by omega, by omega, by omega, K0.out.drew, K1.out.drew, bb⟩
    · go_wp2_with fail
      go_meet
      exact ⟨_, _, rfl, rfl, by omega, by omega, by omega, K1.out.drew, K0.out.drew, bb⟩
  case rest =>
  obtain ⟨g, h, rfl, rfl, hne, hg, hh, kg, kh, hb⟩ := hcut
  have HNE := Lib.hid hne; have HG := Lib.hid hg; have HH := Lib.hid hh; have KG := Lib.hid kg; have KH := Lib.hid kh; have HB := Lib.hid hb
  clear hne hg hh kg kh hb hmk HCS
  go_wp2_with fail
  obtain ⟨wa, hr, ka, hka⟩ := run_copy_kd (cap := n) (c := c) 3 KG.out (HL.out.below HB.out)
  rw [hr]
  simp only [Result.andThen]
  rw [Oper.upon_value]
  have KA := Lib.hid ka
  obtain ⟨hba, hbk⟩ := hka _ _ HB.out HG.out
  have BA := Lib.hid hba
  have KHA : Hid (Kr wa h n (List.replicate n (0, 0))) := KH.out.block (hbk h (fun e => HNE.out e.symm))
  clear hr ka hka hba hbk KG KH HB
  go_wp2_with fail
  go_loopg [3, 4, 5] 8 (fun k s r iv wr => ∃ (p gs gr : Nat) (M T : List (Nat × Int)), p + k = 8 ∧ iv = .int .i64 (8 * (p : Int)) ∧ s = .slice (some ⟨gs, 0, none⟩) n n ∧ r = .slice (some ⟨gr, 0, none⟩) n n ∧ gs ≠ gr ∧ w.heap.size ≤ gs ∧ w.heap.size ≤ gr ∧ Low p M L ∧ T.length = n ∧ Kr wr gs n M ∧ Kr wr gr n T ∧ Below w.heap.size w wr)
  case atStart => exact ⟨0, g, h, L, _, by omega, rfl, rfl, rfl, HNE.out, HG.out, HH.out, Low.zero L, List.length_replicate, KA.out, KHA.out, BA.out⟩
  case round =>
    obtain ⟨p, gs, gr, M, T, hk, rfl, rfl, rfl, hne, hgs, hgr, hM, hT, ks, kr, hb⟩ := hrel
    have RNE := Lib.hid hne; have RS := Lib.hid hgs; have RR := Lib.hid hgr; have RM := Lib.hid hM; have RT := Lib.hid hT; have KS := Lib.hid ks; have KR := Lib.hid kr; have RB := Lib.hid hb
    have RK : Hid (p + gk = 8) := hk
    clear hne hgs hgr hM hT ks kr hb KA KHA BA HNE HG HH
    by_cases hp : p < 8
    · have h1 : 8 * (p : Int) < 64 := by omega
      have wi : IntKind.i64.wrap (8 * (p : Int) + 8) = 8 * ((p + 1 : Nat) : Int) := by rw [IntWalk.i64_in _ (by omega)]; omega
      clear hk
      go_wp2_with fail
      refine (deal_any w.heap.size gr gs n n n M T HN.out ?_ RT.out (fun e => RNE.out e.symm) RR.out p hp _ KS.out KR.out).mono ?_
      · exact (RM.out.perm.length_eq).trans HLN.out
      rintro e w2 ⟨rfl, N, hS, k1, k2, hb2⟩
      have HS := Lib.hid hS; have K1 := Lib.hid k1; have K2 := Lib.hid k2
      have HB2 := Lib.hid (RB.out.trans hb2)
      clear hS k1 k2 hb2 KS KR RB
      go_wp2_with fail
      obtain ⟨q, rfl⟩ : ∃ q, gk = q + 1 := ⟨gk - 1, by have := RK.out; omega⟩
      go_roundg q
      case measure => omega
      case rel => exact ⟨p + 1, gr, gs, N, M, by have := RK.out; omega, rfl, rfl, rfl, fun e => RNE.out e.symm, RR.out, RS.out, RM.out.next HS.out, (RM.out.perm.length_eq).trans HLN.out, K2.out, K1.out, HB2.out⟩
    · have h1 : ¬ 8 * (p : Int) < 64 := by omega
      have HS : Hid (Std Prod.fst M L) := by
        have hM := RM.out
        obtain rfl : p = 8 := by omega
        exact hM.all H64.out
      go_wp2_with fail
      go_returns
      have hl : M.length = n := (RM.out.perm.length_eq).trans HLN.out
      have ho := KS.out.own RS.out (by have := HN.out; unfold maxLen; omega)
      rw [hl] at ho
      exact ⟨⟨_, M, rfl, ho, HS.out⟩, RB.out⟩
end Go.Proofs.Ytdaajhfippnciaa
