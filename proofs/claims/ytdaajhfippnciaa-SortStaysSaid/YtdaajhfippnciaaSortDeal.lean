/- One deal: those of one list to the places of the other one, by one digit. -/
import Derived.Test.YtdaajhfippnciaaSortStart
namespace Go.Proofs.Ytdaajhfippnciaa
open Go.RowKit
set_option maxRecDepth 20000 in
set_option maxHeartbeats 8000000 in
theorem deal_any (B gT gF n cT cF : Nat) (L T : List (Nat × Int)) (hn : n ≤ 8796093022208) (hl : L.length = n) (ht : T.length = n) (hne : gT ≠ gF) (hT : B ≤ gT) (p : Nat) (hp : p < 8) (w : World) (hF : Kr w gF n L) (hR : Kr w gT n T) :
    Calls Try.prog 13 #[.slice (some ⟨gT, 0, none⟩) n cT, .slice (some ⟨gF, 0, none⟩) n cF, .int .i64 (8 * (p : Int))] w fun e w' => e = .returned (.tuple #[]) ∧ ∃ M, Std (dig p) M L ∧ Kr w' gF n L ∧ Kr w' gT n M ∧ Below B w w' := by
  have HF := Lib.hid hF; have HR := Lib.hid hR; have HN := Lib.hid hn; have HL := Lib.hid hl; have HTL := Lib.hid ht; have HT := Lib.hid hT
  have HNE := Lib.hid hne
  have hks := hF.slice
  rw [hl] at hks
  have HD := Lib.hid fun x => digit_any x p hp
  have HS := Lib.hid (starts_any (some ⟨gF, 0, none⟩) n cF L hn p hp w hks)
  obtain ⟨z, hv, hvz, hz⟩ := row_info
  have HV := Lib.hid hv
  clear hF hR hn hl ht hne hT hks hp hv hvz
  go_enter Try.func13, Try.ntmps13
  go_wp2_with fail
  refine HS.out.mono ?_
  rintro e w1 ⟨cs, hcs, rfl, hb1⟩
  have hsc := run_storeCells_new (P := Try.prog) w1 36 z cs (by rw [hcs.1]; exact row_size) (by rw [HV.out, hcs.1]) hcs.one
  have hi1 : Ir 36 (w1.alloc (.cells cs 36)) w1.heap.size 256 (fun d => (lie (dig p) L d : Int)) := ⟨cs, heap_alloc_new w1 _, hcs.1, hcs.2⟩
  have HI := Lib.hid hi1
  have HSC := Lib.hid hsc
  have HF1 := krb n L gF hb1
  have HR1 := krb n T gT hb1
  have hr1 := HR.out.lt; have hf1 := HF.out.lt
  have HB1 : Hid (Below w.heap.size w w1) := hbw hb1
  have hcz := hcs.1
  have HRW := Lib.hid hr1; have HNZ : Hid (gT < w1.heap.size) := Nat.lt_of_lt_of_le hr1 hb1.size; have HNF : Hid (gF < w1.heap.size) := Nat.lt_of_lt_of_le hf1 hb1.size
  clear hcs hsc hi1 hb1 HF HR HV
  go_wp2_with fail
  rw [HSC.out]
  simp only [Result.andThen]
  rw [Oper.upon_skip]
  go_wp2_with fail
  go_loopg [15] n (fun k iv wr => ∃ i : Nat, i + k = n ∧ iv = .int .i64 (i : Int) ∧ Ir 36 wr w1.heap.size 256 (fun d => (pos (dig p) L i d : Int)) ∧ Kr wr gF n L ∧ (∃ M, Placed (dig p) L i M ∧ Kr wr gT n M) ∧ Below B w wr)
  case atStart => exact ⟨0, by omega, rfl, HI.out.congr fun j _ => by rw [pos_zero], HF1.out.alloc _, ⟨T, Placed.zero _ (HTL.out.trans HL.out.symm), HR1.out.alloc _⟩, (HB1.out.mono (by have := HT.out; have := HRW.out; omega)).alloc (by have := HT.out; have := HNZ.out; omega) _⟩
  case round =>
    obtain ⟨i, hk, rfl, q0, q1, ⟨M, hM, q2⟩, hbl⟩ := hrel
    have Q0 := Lib.hid q0; have Q1 := Lib.hid q1; have Q2 := Lib.hid q2; have HB := Lib.hid hbl; have HM := Lib.hid hM
    have h9 := HN.out
    have z0 := q0.lt; have z1 := q1.lt; have z2 := q2.lt
    have zn := HNZ.out
    clear HI HF1 HR1 HB1 hbl
    by_cases hlt : i < n
    · have hl := HL.out; have htl := HTL.out
      have hx := List.getElem?_eq_getElem (l := L) (i := i) (by omega)
      obtain ⟨x, hx'⟩ : ∃ x, L[i]? = some x := ⟨_, hx⟩
      obtain ⟨c0, c1⟩ := q1.cells i x hx'
      have hd := dig_lt p x
      obtain ⟨j, hj⟩ : ∃ j, j = pos (dig p) L i (dig p x) := ⟨_, rfl⟩
      have hjn : j < L.length := by rw [hj]; exact pos_lt (dig_lt p) hx'
      have hML := hM.1
      have hy := List.getElem?_eq_getElem (l := M) (i := j) (by omega)
      have hi : (i : Int) < (n : Int) := by omega
      have h0 : (0 : Int) ≤ (i : Int) := by omega
      have wi : IntKind.i64.wrap ((i : Int) + 1) = (i : Int) + 1 := by rw [IntWalk.i64_in _ (by omega)]
      have e1 : (dig p x : Int) < 256 := by omega
      have e0 : (0 : Int) ≤ (dig p x : Int) := by omega
      have HX := Lib.hid hx'
      have HJ := Lib.hid hj; have HJN : Hid (j < n) := (by omega : j < n)
      have HK : Hid (i + gk = n) := hk
      have HMJ : Hid (j < M.length) := (by omega : j < M.length)
      clear hx hx' hk h9 q0 q1 q2 hM hML hl htl hjn hy hj
      go_wp2_with fail
      refine (HD.out x _).mono ?_
      rintro e w2 ⟨rfl, hb2⟩
      have R0 := irb w1.heap.size (fun d => (pos (dig p) L i d : Int)) hb2
      have R1 := krb n L gF hb2
      have R2 := krb n M gT hb2
      have HB2 : Hid (Below B w w2) := (HB.out.alloc (by have := HT.out; omega) _).trans (hb2.mono (by have := HT.out; simp; omega))
      have k0 : w2.cell? ⟨wr.heap.size, 0, none⟩ = some (.int .u64 (x.1 : Int)) := (hb2.cell (by simp)).trans (by simp [go_sem])
      have k1 : w2.cell? ⟨wr.heap.size, 1, none⟩ = some (.int .i64 x.2) := (hb2.cell (by simp)).trans (by simp [go_sem])
      have hs := hb2.size
      simp only [World.size_alloc] at hs
      have hc := R0.out.cell hd
      simp only [← HJ.out] at hc
      have hf := R0.out.frz
      obtain ⟨m0, m1⟩ := R2.out.cells j _ (List.getElem?_eq_getElem HMJ.out)
      have mf := R2.out.frz
      have j1 : (j : Int) < (n : Int) := by have := HJN.out; omega
      have j0 : (0 : Int) ≤ (j : Int) := by omega
      have jn : ¬ (j : Int) < 0 := by omega
      have jm : ¬ (n : Int) ≤ (j : Int) := by omega
      have r0 := R0.out.lt; have r1 := R1.out.lt; have r2 := R2.out.lt
      have wjj : IntKind.i64.wrap ((j : Int) + 1) = (j : Int) + 1 := by rw [IntWalk.i64_in _ (by have := HN.out; omega)]
      obtain ⟨n1, n2⟩ := nn (show ¬ (gT = w1.heap.size) by omega)
      obtain ⟨n3, n4⟩ := nn (show ¬ (gT = wr.heap.size) by omega)
      clear hb2 Q0 Q1 Q2 HB c0 c1
      go_upto_region 5 with fail
      go_region_held3 (fun w' => w'.cell? ⟨w1.heap.size, dig p x, none⟩ = some (.int .i64 (j : Int)) ∧ w'.cell? ⟨wr.heap.size, 0, none⟩ = some (.int .u64 (x.1 : Int)) ∧ w'.cell? ⟨wr.heap.size, 1, none⟩ = some (.int .i64 x.2)) (first | (simp [*, go_sem]; done)) (fail)
      rename_i hHeld
      clear hHeld
      have P0 : Hid (Ir 36 ((w2.setCell ⟨gT, j * 2, none⟩ (.int .u64 (x.1 : Int))).setCell ⟨gT, j * 2 + 1, none⟩ (.int .i64 x.2)).drew w1.heap.size 256 (fun d => (pos (dig p) L i d : Int))) := ((R0.out.far (by simp; omega) _).far (by simp; omega) _).drew
      have P1 : Hid (Kr ((w2.setCell ⟨gT, j * 2, none⟩ (.int .u64 (x.1 : Int))).setCell ⟨gT, j * 2 + 1, none⟩ (.int .i64 x.2)).drew gF n L) := ((R1.out.far (fun e => HNE.out e.symm) _).far (fun e => HNE.out e.symm) _).drew
      have P2 : Hid (Kr ((w2.setCell ⟨gT, j * 2, none⟩ (.int .u64 (x.1 : Int))).setCell ⟨gT, j * 2 + 1, none⟩ (.int .i64 x.2)).drew gT n (M.set j x)) := (R2.out.put HMJ.out x).drew
      have PB : Hid (Below B w ((w2.setCell ⟨gT, j * 2, none⟩ (.int .u64 (x.1 : Int))).setCell ⟨gT, j * 2 + 1, none⟩ (.int .i64 x.2)).drew) := ((HB2.out.setCell HT.out _).setCell HT.out _).drew
      obtain ⟨w3, E3⟩ : ∃ w3, w3 = ((w2.setCell ⟨gT, j * 2, none⟩ (.int .u64 (x.1 : Int))).setCell ⟨gT, j * 2 + 1, none⟩ (.int .i64 x.2)).drew := ⟨_, rfl⟩
      rw [← E3] at P0 P1 P2 PB ⊢
      have hc := P0.out.cell hd
      simp only [← HJ.out] at hc
      have hf := P0.out.frz
      have q0 := P0.out.lt
      clear E3 R0 R1 R2 HB2 k0 k1 m0 m1 mf hs
      go_wp2_with fail
      obtain ⟨g, rfl⟩ : ∃ g, gk = g + 1 := ⟨gk - 1, by have := HK.out; omega⟩
      go_roundg g
      case measure => omega
      case rel =>
        have q := P0.out.put hd ((j : Int) + 1)
        refine ⟨i + 1, by have := HK.out; omega, by simp, q.congr fun c _ => ?_, P1.out.far (by have := HNF.out; simp; omega) _, ⟨M.set j x, ?_, P2.out.far (by simp; omega) _⟩, PB.out.setCell (by have := HT.out; have := HNZ.out; simp; omega) _⟩
        · rw [pos_next HX.out]
          have e := HJ.out
          by_cases h : c = dig p x
          · subst h; simp [e]
          · have h' : ¬ dig p x = c := fun e => h e.symm
            simp [h, h']
        · rw [HJ.out]; exact HM.out.step HX.out
    · have hi : ¬ (i : Int) < (n : Int) := by omega
      have hl := HL.out
      have hS : Std (dig p) M L := by
        obtain rfl : i = L.length := by omega
        exact hM.done (dig_lt p)
      have HSM := Lib.hid hS
      clear hS hM q0 q1 q2 hk hl
      go_wp2_with fail
      go_returns
      exact ⟨rfl, M, HSM.out, Q1.out, Q2.out, HB.out⟩
end Go.Proofs.Ytdaajhfippnciaa
