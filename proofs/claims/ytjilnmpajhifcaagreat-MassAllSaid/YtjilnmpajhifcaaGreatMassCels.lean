/- The document's Cells, of nodes as they should be. -/
import Derived.Test.YtjilnmpajhifcaaGreatZzMasA
import Derived.Laws.ResultCell
namespace Go.Proofs.YtjilnmpajhifcaaGreat
open Go.RowKit
set_option maxRecDepth 20000 in
set_option maxHeartbeats 16000000 in
theorem rcells_any (RC : RCenT) (A : Option Addr) (n c : Nat) (T : List Nd) (B : Option Addr) (m d : Nat) (by_ : List (Nat × Int)) (D : Option Addr) (l e0 : Nat) (L : List Bod) (hn : n ≤ 2147483648) (hm : m ≤ 64) (hl : l ≤ 64) (hmb : ∀ b ∈ L, Mb b) (hid : ∀ x ∈ by_, 0 ≤ x.2 ∧ x.2.toNat < l) (hT : ∀ x ∈ T, x.fr < x.to ∧ x.to ≤ m) (w : World) (hA : S0 8 w A n (T.map ndc)) (hB : Ks w B m by_) (hD : Bds w D l L) :
    Calls Tryz.prog 12 #[.slice A n c, .slice B m d, .slice D l e0] w fun e w' => (∃ v, e = .returned (.agg #[v, .int .i64 0]) ∧ w'.ownsRow w.heap.size 52 8 v n (cels by_ L T).flatten) ∧ Below w.heap.size w w' := by
  have KC := Lib.hid RC; have HN := Lib.hid hn; have HM := Lib.hid hm; have HL := Lib.hid hl; have HMB := Lib.hid hmb; have HID := Lib.hid hid; have HT := Lib.hid hT; have HA := Lib.hid hA; have HB := Lib.hid hB; have HD := Lib.hid hD
  have hTl : T.length = n := by have := hA.1; simpa using this
  have HTL := Lib.hid hTl; have HBL := Lib.hid hB.1; have HDL := Lib.hid hD.len
  clear RC hn hm hl hmb hid hT hA hB hD hTl
  go_enter Tryz.func12, Tryz.ntmps12
  go_wp2_with fail
  have hr := Bx.new w 44 #[.slice none 0 0, .int .i64 0]
  have HR := Lib.hid hr
  clear hr
  go_loopg [7, 8] n (fun k v iv wr => ∃ i : Nat, i + k = n ∧ iv = .int .i64 (i : Int) ∧ wr.ownsRow (w.heap.size + 1) 52 8 v i (cels by_ L (T.take i)).flatten ∧ Bx 44 wr w.heap.size [.slice none 0 0, .int .i64 0] ∧ Below w.heap.size w wr)
  case atStart => exact ⟨0, by omega, rfl, World.ownsRow_nil _ _ _ _, HR.out, bl_al (Below.refl _ _) _⟩
  case round =>
    obtain ⟨wq, rfl⟩ : ∃ x : World, x = wr := ⟨wr, rfl⟩
    obtain ⟨i, hk, rfl, hown, q0, hbl⟩ := hrel
    have O0 := Lib.hid hown; have G0 := Lib.hid q0; have GB := Lib.hid hbl
    have zq := q0.lt
    have h9 := HN.out
    clear hown q0 hbl HR
    by_cases hlt : i < n
    · obtain ⟨gi, rfl⟩ : ∃ gi, gk = gi + 1 := ⟨gk - 1, by omega⟩
      obtain ⟨NB, no, x, rfl, zN, hx, c0, c2, c3⟩ := node_at (HA.out.below GB.out) (j := i) hlt
      have hNBw : NB < w.heap.size := by
        obtain ⟨B', o', x', e, hB', _⟩ := node_at HA.out (j := i) hlt
        simp at e; omega
      obtain ⟨hft, htm⟩ := HT.out x (List.mem_of_getElem? hx)
      have hi : (i : Int) < (n : Int) := by omega
      have i0 : (0 : Int) ≤ (i : Int) := by omega
      have wi : IntKind.i64.wrap ((i : Int) + 1) = (i : Int) + 1 := by rw [IntWalk.i64_in _ (by omega)]
      have HX := Lib.hid hx
      have HK : Hid (i + (gi + 1) = n) := hk
      obtain ⟨f, hf⟩ : ∃ f, f = x.fr := ⟨_, rfl⟩
      obtain ⟨t, ht⟩ : ∃ t, t = x.to := ⟨_, rfl⟩
      obtain ⟨lv, hlv⟩ : ∃ lv, lv = x.lev := ⟨_, rfl⟩
      rw [← hf] at c2 hft; rw [← ht] at c3 hft htm; rw [← hlv] at c0
      have HF := Lib.hid hf; have HT2 := Lib.hid ht; have HLV := Lib.hid hlv; have HFT := Lib.hid hft; have HTM := Lib.hid htm
      clear hx hk h9 hf ht hlv
      go_wp2_with fail
      go_loopg [9, 10] (t - f) (fun g v kv wr => ∃ k : Nat, f ≤ k ∧ k + g = t ∧ kv = .int .i64 (k : Int) ∧ wr.ownsRow wq.heap.size 56 20 v (k - f) ((memb by_ L f k).map bdc).flatten ∧ Below wq.heap.size wq wr)
      case atStart => exact ⟨f, Nat.le_refl _, by omega, rfl, by rw [memb_zero, Nat.sub_self]; exact World.ownsRow_nil _ _ _ _, Below.refl _ _⟩
      case round =>
        obtain ⟨k, hfk, hkt, rfl, hin, hbi⟩ := hrel
        have IN := Lib.hid hin; have IB := Lib.hid hbi
        have e2 : wr.cell? ⟨NB, no + i * 8 + 3, none⟩ = some (.int .i64 (t : Int)) := (hbi.cell (p := ⟨NB, no + i * 8 + 3, none⟩) zN).trans c3
        have HFK := Lib.hid hfk; have HKT : Hid (k + gk = t) := hkt
        clear hin hbi hfk hkt
        by_cases hkl : k < t
        · have hkm : k < m := by have := HTM.out; omega
          obtain ⟨YB, yo, y, rfl, zY, hy, _, y1⟩ := ((HB.out.below GB.out).below IB.out).at_ (k := k) hkm
          obtain ⟨hy0, hyl⟩ := HID.out y (List.mem_of_getElem? hy)
          obtain ⟨p, hp⟩ : ∃ p : Nat, y.2 = (p : Int) := ⟨y.2.toNat, by omega⟩
          rw [hp] at y1
          have hpl : p < l := by omega
          obtain ⟨DB, dof, b, rfl, zD, hb, hv⟩ := ((HD.out.below GB.out).below IB.out).at_ (i := p) hpl
          have HV : Hid (wr.rangeAt DB (dof + p * 20) (bdc b)) := hv
          have hk1 : (k : Int) < (t : Int) := by omega
          have hk2 : (k : Int) < (m : Int) := by omega
          have k0 : (0 : Int) ≤ (k : Int) := by omega
          have wk : IntKind.i64.wrap ((k : Int) + 1) = (k : Int) + 1 := by rw [IntWalk.i64_in _ (by have := HM.out; omega)]
          have p1 : (p : Int) < (l : Int) := by omega
          have p0 : (0 : Int) ≤ (p : Int) := by omega
          have pn : ¬ (p : Int) < 0 := by omega
          have pm : ¬ (l : Int) ≤ (p : Int) := by omega
          have HN2 := Lib.hid (memb_next (L := L) HFK.out hy (by rw [show y.2.toNat = p by omega]; exact hb))
          have HBB := Lib.hid (bdc_one b)
          have hbl := bdc_len b
          clear hv hy hb hp hy0 hyl
          go_wp2_with (first
            | (refine wpList_load_mid rfl 56 _ rfl DB (dof + p * 20) rfl (bdc b) _ HV.out Tryz.underlying56 rfl (by kernel_rfl) ?_)
            | (at_builtin; refine wpList_append_rows bd_row rfl _ _ rfl wq.heap.size _ (k - f) ((memb by_ L f k).map bdc) rfl (own_kept IN.out (bl_al (Below.refl _ _) _)) _ 1 1 [bdc b] rfl ?d1 ?d2 ?d3 ?d4 ?d5 ?d6 ?_)
            | fail)
          case d1 => exact (R0.new (s := 20) wr 56 (C := [bdc b]) (by intro c hc; simp at hc; subst hc; rfl) (by rw [bdc_fold]; simp)).slice
          case d2 => exact HBB.out
          try (case d3 => simp)
          case d4 => have := HM.out; unfold maxLen; omega
          case d5 => have := HM.out; omega
          case d6 => have := IB.out.size; simp; omega
          intro va w4 hown4 hgrow _ _
          have VO : Hid (w4.ownsRow wq.heap.size 56 20 va (k + 1 - f) ((memb by_ L f (k + 1)).map bdc).flatten) := by
            have e : ∀ p : Prop, p → Hid p := fun _ h => h
            refine e _ ?_
            rw [HN2.out, show k + 1 - f = k - f + 1 by have := HFK.out; omega]; simpa using hown4
          have VB : Hid (Below wq.heap.size wq w4) := (bl_al IB.out _).grown hgrow (by have := IB.out.size; simp; omega) (fun q hq => own_block IN.out q hq)
          clear hown4 hgrow IN IB y1 e2 hbl
          go_wp2_with fail
          obtain ⟨g, rfl⟩ : ∃ g, gk = g + 1 := ⟨gk - 1, by have := HKT.out; omega⟩
          go_roundg g
          case measure => omega
          case rel => exact ⟨k + 1, by have := HFK.out; omega, by have := HKT.out; omega, by simp, VO.out, VB.out⟩
        · have hk1 : ¬ (k : Int) < (t : Int) := by omega
          obtain rfl : k = t := by have := HKT.out; omega
          obtain ⟨C, hC⟩ : ∃ C, C = memb by_ L f k := ⟨_, rfl⟩
          have hin := IN.out
          rw [← hC] at hin
          obtain ⟨A5, c5, rfl, _, hS5⟩ := S0.of_own (Ln.map bdc_len C) (by decide) hin
          have hCm : ∀ b ∈ C, Mb b := fun b hb => HMB.out b (memb_mem (by rw [hC] at hb; exact hb))
          have C1 := Lib.hid (KC.out A5 (k - f) c5 C (by have := HFT.out; omega) (by have := HTM.out; have := HM.out; omega) hCm)
          have HS5 := Lib.hid hS5; have HC := Lib.hid hC
          have e0 : wr.cell? ⟨NB, no + i * 8, none⟩ = some (.int .i64 (lv : Int)) := (IB.out.cell (p := ⟨NB, no + i * 8, none⟩) zN).trans c0
          have zNr : NB < wr.heap.size := Nat.lt_of_lt_of_le zN IB.out.size
          clear hin hS5 hCm hC IN
          go_wp2_with fail
          refine (C1.out _ HS5.out).mono ?_
          rintro e w3 ⟨rfl, hb3⟩
          have TB : Hid (Below wq.heap.size wq w3) := bl_trans IB.out hb3
          have e1 : w3.cell? ⟨NB, no + i * 8, none⟩ = some (.int .i64 (lv : Int)) := (hb3.cell (p := ⟨NB, no + i * 8, none⟩) zNr).trans e0
          have zN3 : NB < w3.heap.size := Nat.lt_of_lt_of_le zNr hb3.size
          clear IB e0 hb3 HS5 c0 c2 c3 e2
          go_upto_region 13 with fail
          have WT := Lib.hid (rwidth_wd (lv : Int))
          obtain ⟨wx, ewx⟩ : ∃ x, x = w3.alloc (.cells #[.int .i64 (fh (sM C)), .int .u64 (fl (sM C)), .int .i64 (fh (mid Bod.x C)), .int .u64 (fl (mid Bod.x C)), .int .i64 (fh (mid Bod.y C)), .int .u64 (fl (mid Bod.y C)), .int .i64 0] 34) := ⟨_, rfl⟩
          have xb : Bx 34 wx w3.heap.size [.int .i64 (fh (sM C)), .int .u64 (fl (sM C)), .int .i64 (fh (mid Bod.x C)), .int .u64 (fl (mid Bod.x C)), .int .i64 (fh (mid Bod.y C)), .int .u64 (fl (mid Bod.y C)), .int .i64 0] := by rw [ewx]; exact Bx.new _ _ _
          have hxw : Below w3.heap.size w3 wx := by rw [ewx]; exact bl_al (Below.refl _ _) _
          have JB : Hid (Below wq.heap.size wq wx) := bl_trans TB.out hxw
          have zy := xb.lt
          have pN : some NB ≠ u7.ownBlock := fun e => by have := own_block O0.out NB e.symm; omega
          have pX : some w3.heap.size ≠ u7.ownBlock := fun e => by have := own_lt O0.out _ e.symm; have := TB.out.size; omega
          have f0 := staysK (P := fun k => some k ≠ u7.ownBlock) ((hxw.cell (p := ⟨NB, no + i * 8, none⟩) zN3).trans e1) (by have := hxw.size; omega) pN
          have f1 := staysK (P := fun k => some k ≠ u7.ownBlock) (xb.cell (j := 0) rfl) zy pX; have f2 := staysK (P := fun k => some k ≠ u7.ownBlock) (xb.cell (j := 1) rfl) zy pX; have f3 := staysK (P := fun k => some k ≠ u7.ownBlock) (xb.cell (j := 2) rfl) zy pX; have f4 := staysK (P := fun k => some k ≠ u7.ownBlock) (xb.cell (j := 3) rfl) zy pX; have f5 := staysK (P := fun k => some k ≠ u7.ownBlock) (xb.cell (j := 4) rfl) zy pX; have f6 := staysK (P := fun k => some k ≠ u7.ownBlock) (xb.cell (j := 5) rfl) zy pX
          have XO := Lib.hid (own_kept O0.out JB.out)
          have XB : Hid (Below w.heap.size w wx) := bl_trans GB.out JB.out
          have XG := bxb w.heap.size [.slice none 0 0, .int .i64 0] JB.out
          have HCO := Lib.hid (celc_one C (lv : Int))
          have zqx := XB.out.size
          rw [← ewx]
          clear ewx hxw xb e1 TB pN pX JB
          go_region_held3 (fun w' => Kb (fun k => some k ≠ u7.ownBlock) wx w') (exact kbs) (first
            | (go_at_call 32; (with_reducible refine (WT.out _).mono ?_); rintro e w1 ⟨rfl, hb1⟩)
            | (refine step_append_rows cl_row rfl _ _ rfl (w.heap.size + 1) _ i (cels by_ L (T.take i)) rfl (own_kept XO.out (bl_al (bl_trans (Below.drew (Below.refl _ _)) hb1) _)) _ 1 1 [celc C (lv : Int)] rfl ((R0.new (s := 8) _ 52 (C := [celc C (lv : Int)]) (cs := (celc C (lv : Int)).toArray) (by intro c hc; simp at hc; subst hc; rfl) (by simp)).slice) HCO.out (by simp) (by have := HN.out; unfold maxLen; omega) (by have := HN.out; omega) (by have := hb1.size; simp at this; have := XG.out.lt; simp; omega) ?_; intro v5 w5 hown5 hgrow5 _; have hk5 := Kb.grow (P := fun k => some k ≠ u7.ownBlock) (w := wx) kbs hgrow5 (fun _ h => h)))
          rename_i hHeld
          clear hHeld
          have VB : Hid (Below w.heap.size w w5) := Below.grown (row := u7.ownBlock) (bl_al (bl_trans XB.out (bl_trans (Below.drew (Below.refl _ _)) hb1)) _) hgrow5 (by have := hb1.size; simp at this; have := XG.out.lt; simp; omega) (fun q hq => by have := own_block XO.out q hq; omega)
          have VG : Hid (Bx 44 w5 w.heap.size [.slice none 0 0, .int .i64 0]) := by
            have e : some w.heap.size ≠ u7.ownBlock := fun e => by have := own_block XO.out _ e.symm; omega
            exact XG.out.block (hk5.2 _ e XG.out.lt)
          have VO : Hid (w5.ownsRow (w.heap.size + 1) 52 8 v5 (i + 1) (cels by_ L (T.take (i + 1))).flatten) := by
            have e : ∀ p : Prop, p → Hid p := fun _ h => h
            refine e _ ?_
            have q : cels by_ L (T.take (i + 1)) = cels by_ L (T.take i) ++ [celc C (lv : Int)] := by
              unfold cels
              rw [take_snoc' HX.out, List.map_append, HC.out, HF.out, HLV.out, HT2.out]; rfl
            rw [q]; exact hown5
          clear hk5 hown5 hgrow5 hb1 XB XO XG f0 f1 f2 f3 f4 f5 f6
          go_wp2_with fail
          go_roundg gi
          case measure => omega
          case rel => exact ⟨i + 1, by have := HK.out; omega, by simp, VO.out, VG.out, VB.out⟩
    · have hi : ¬ (i : Int) < (n : Int) := by omega
      obtain rfl : i = n := by omega
      have hfull := O0.out
      rw [List.take_of_length_le (by have := HTL.out; omega)] at hfull
      obtain ⟨A6, c6, rfl, _, _⟩ := S0.of_own (cels_len by_ L T) (by decide) hfull
      have HO := Lib.hid hfull
      obtain ⟨r0, r1⟩ := G0.out.c2
      have rf := G0.out.frz
      clear hfull hk h9
      go_wp2_with fail
      (try simp only [Exit.inBlock, Exit.then])
      have P0 : Bx 44 ((wq.setCell ⟨w.heap.size, 0, none⟩ (.slice A6 i c6)).setCell ⟨w.heap.size, 1, none⟩ (.int .i64 0)) w.heap.size [.slice A6 i c6, .int .i64 0] := (G0.out.put 0 _).put 1 _
      have PB : Below w.heap.size w ((wq.setCell ⟨w.heap.size, 0, none⟩ (.slice A6 i c6)).setCell ⟨w.heap.size, 1, none⟩ (.int .i64 0)) := bb
      have hfar : ∀ q, (Value.slice A6 i c6).ownBlock = some q → q ≠ w.heap.size := fun q hq => by have := own_block HO.out q hq; omega
      have PO : ((wq.setCell ⟨w.heap.size, 0, none⟩ (.slice A6 i c6)).setCell ⟨w.heap.size, 1, none⟩ (.int .i64 0)).ownsRow w.heap.size 52 8 (.slice A6 i c6) i (cels by_ L T).flatten := by
        obtain ⟨h1, h2⟩ := HO.out
        refine ⟨h1, h2.imp id fun ⟨g, cap, cur, e, hg, hh, r⟩ => ⟨g, cap, cur, e, by omega, ?_, r⟩⟩
        have hne : g ≠ w.heap.size := by omega
        rw [Below.heap_setCell _ _ _ _ hne, Below.heap_setCell _ _ _ _ hne]; exact hh
      have hlv := run_loadVar_row (P := Tryz.prog) _ w.heap.size 44 44 _ (0, 0) _ P0 Tryz.underlying44 rfl (by kernel_rfl)
      refine bodyPost_ret (v := .agg #[.slice A6 i c6, .int .i64 0]) ?_ rfl ⟨⟨_, rfl, PO⟩, PB⟩
      simp [results, asAddr, hlv]
end Go.Proofs.YtjilnmpajhifcaaGreat
