/- Where the first body of each digit is to lie: the program's starts. -/
import Derived.Test.YtdaajhfippnciaaSortDig
namespace Go.Proofs.Ytdaajhfippnciaa
open Go.RowKit
set_option maxRecDepth 20000 in
set_option maxHeartbeats 8000000 in
theorem starts_any (A : Option Addr) (n c : Nat) (L : List (Nat × Int)) (hn : n ≤ 8796093022208) (p : Nat) (hp : p < 8) (w : World) (hL : Ks w A n L) :
    Calls Try.prog 14 #[.slice A n c, .int .i64 (8 * (p : Int))] w fun e w' => ∃ cs, Nums cs (fun d => (lie (dig p) L d : Int)) ∧ e = .returned (.agg cs) ∧ Below w.heap.size w w' := by
  have HL := Lib.hid hL; have HN := Lib.hid hn
  have HD := Lib.hid fun x => digit_any x p hp
  obtain ⟨z, hv, hvz, hz⟩ := row_info
  have h0 := Ir.of_cells (t := 36) w hv hvz
  have h1 := Ir.of_cells (t := 36) (w.alloc (.cells z 36)) hv hvz
  have h2 := Ir.of_cells (t := 36) ((w.alloc (.cells z 36)).alloc (.cells z 36)) hv hvz
  simp only [World.size_alloc] at h1 h2
  have H0 := Lib.hid ((h0.alloc (.cells z 36)).alloc (.cells z 36)); have H1 := Lib.hid (h1.alloc (.cells z 36)); have H2 := Lib.hid h2
  clear hL hn hp h0 h1 h2 hv hvz
  go_enter Try.func14, Try.ntmps14
  go_wp2_with fail
  go_loopg [12] n (fun k iv wr => ∃ i : Nat, i + k = n ∧ iv = .int .i64 (i : Int) ∧ Ir 36 wr w.heap.size 256 (fun _ => 0) ∧ Ir 36 wr (w.heap.size + 1) 256 (fun d => (hold (dig p) (L.take i) d : Int)) ∧ Ir 36 wr (w.heap.size + 1 + 1) 256 (fun _ => 0) ∧ Below w.heap.size w wr)
  case atStart => exact ⟨0, by omega, rfl, H0.out, H1.out.congr fun j _ => by simp [hold], H2.out, bl_al (bl_al (bl_al (Below.refl _ _) _) _) _⟩
  case round =>
    obtain ⟨i, hk, rfl, q0, q1, q2, hbl⟩ := hrel
    have Q0 := Lib.hid q0; have Q1 := Lib.hid q1; have Q2 := Lib.hid q2; have HB := Lib.hid hbl
    have h9 := HN.out
    have z0 := q2.lt
    clear q0 q1 q2 hbl H0 H1 H2
    by_cases hlt : i < n
    · obtain ⟨G, o, x, rfl, hb, hx, c0, c1⟩ := (HL.out.below HB.out).at_ (k := i) hlt
      have hi : (i : Int) < (n : Int) := by omega
      have h0 : (0 : Int) ≤ (i : Int) := by omega
      have wi : IntKind.i64.wrap ((i : Int) + 1) = (i : Int) + 1 := by rw [IntWalk.i64_in _ (by omega)]
      have hd := dig_lt p x
      have hc := Q1.out.cell hd
      have hf := Q1.out.frz
      have e1 : (dig p x : Int) < 256 := by omega
      have e0 : (0 : Int) ≤ (dig p x : Int) := by omega
      have HX := Lib.hid hx
      have HK : Hid (i + gk = n) := hk
      clear hx hk h9
      go_wp2_with fail
      refine (HD.out x _).mono ?_
      rintro e w1 ⟨rfl, hb1⟩
      have R0 := irb w.heap.size (fun _ => 0) hb1
      have R1 := irb (w.heap.size + 1) (fun d => (hold (dig p) (L.take i) d : Int)) hb1
      have R2 := irb (w.heap.size + 1 + 1) (fun _ => 0) hb1
      have HB1 : Hid (Below w.heap.size w w1) := hbw hb1
      have hc := R1.out.cell hd
      have hf := R1.out.frz
      have z1 := R1.out.lt
      have wh : IntKind.i64.wrap ((hold (dig p) (L.take i) (dig p x) : Int) + 1) = (hold (dig p) (L.take i) (dig p x) : Int) + 1 := by
        have := HN.out; have h := HL.out.1
        have hl := List.countP_le_length (p := fun y => dig p y == dig p x) (l := L.take i)
        rw [List.length_take] at hl
        have e : hold (dig p) (L.take i) (dig p x) ≤ i := by unfold hold; omega
        rw [IntWalk.i64_in _ (by omega)]
      clear hb1 c0 c1 hb Q0 Q1 Q2
      go_wp2_with fail
      obtain ⟨g, rfl⟩ : ∃ g, gk = g + 1 := ⟨gk - 1, by have := HK.out; omega⟩
      go_roundg g
      case measure => omega
      case rel =>
        have q := R1.out.put hd ((hold (dig p) (L.take i) (dig p x) : Int) + 1)
        refine ⟨i + 1, by have := HK.out; omega, by simp, R0.out.far (by simp) _, q.congr fun j _ => ?_, R2.out.far (by simp) _, bb⟩
        rw [hold_next HX.out]
        by_cases h : j = dig p x
        · subst h; simp
        · have h' : ¬ dig p x = j := fun e => h e.symm
          simp [h, h']
    · have hi : ¬ (i : Int) < (n : Int) := by omega
      have hL := HL.out.1
      have P1 : Hid (Ir 36 wr (w.heap.size + 1) 256 (fun d => (hold (dig p) L d : Int))) := Q1.out.congr fun j _ => by rw [List.take_of_length_le (by omega)]
      clear Q1 hL
      go_wp2_with fail
      have hst : Ir 36 wr (w.heap.size + 1 + 1) 256 (fun j => if j < 1 then (lie (dig p) L j : Int) else 0) := Q2.out.congr fun j _ => by
        by_cases h : j < 1
        · have h' : j = 0 := by omega
          subst h'; rw [lie_zero]; simp
        · simp [h]
      go_loopg [9] 255 (fun k iv wq => ∃ d : Nat, 1 ≤ d ∧ d + k = 256 ∧ iv = .int .i64 (d : Int) ∧ Ir 36 wq w.heap.size 256 (fun _ => 0) ∧ Ir 36 wq (w.heap.size + 1) 256 (fun d => (hold (dig p) L d : Int)) ∧ Ir 36 wq (w.heap.size + 1 + 1) 256 (fun j => if j < d then (lie (dig p) L j : Int) else 0) ∧ Below w.heap.size w wq)
      case atStart => exact ⟨1, by omega, by omega, rfl, Q0.out, P1.out, hst, HB.out⟩
      case round =>
        obtain ⟨d, hd1, hdk, rfl, q0, q1, q2, hbl⟩ := hrel
        have Y0 := Lib.hid q0; have Y1 := Lib.hid q1; have Y2 := Lib.hid q2; have YB := Lib.hid hbl
        have z0 := q2.lt
        clear q0 q1 q2 hbl P1 Q0 Q2 HB hst
        by_cases hlt : d < 256
        · obtain ⟨j, hj⟩ : ∃ j, d = j + 1 := ⟨d - 1, by omega⟩
          have h9 := HN.out; have h8 := HL.out.1
          have hd : (d : Int) < 256 := by omega
          have h0 : (0 : Int) ≤ (d : Int) := by omega
          have h1 : (0 : Int) ≤ (j : Int) := by omega
          have h2 : (j : Int) < 256 := by omega
          have wi : IntKind.i64.wrap ((d : Int) + 1) = (d : Int) + 1 := by rw [IntWalk.i64_in _ (by omega)]
          have wj : IntKind.i64.wrap ((d : Int) - 1) = (j : Int) := by rw [IntWalk.i64_in _ (by omega)]; omega
          have hl : lie (dig p) L d = lie (dig p) L j + hold (dig p) L j := by rw [hj]; exact lie_succ _ _ _
          have hb2 : lie (dig p) L d ≤ L.length := by unfold lie; exact List.countP_le_length
          have ws : IntKind.i64.wrap ((lie (dig p) L j : Int) + (hold (dig p) L j : Int)) = (lie (dig p) L d : Int) := by rw [IntWalk.i64_in _ (by omega)]; omega
          have c1 := Y1.out.cell (show j < 256 by omega)
          have c2 := Y2.out.cell (show j < 256 by omega)
          have c3 := Y2.out.cell hlt
          have f2 := Y2.out.frz
          simp only [show j < d by omega, if_true] at c2
          simp only [show ¬ d < d by omega, if_false] at c3
          have HK : Hid (d + gk = 256) := hdk
          have HJ := Lib.hid hj
          obtain ⟨n1, n2⟩ := nn (show ¬ (d = j) by omega)
          clear hdk h9 h8 hl hb2 hj
          go_upto_region 10 with fail
          go_region_held3 (fun w' => w'.cell? ⟨w.heap.size + 1, j, none⟩ = some (.int .i64 (hold (dig p) L j : Int)) ∧ w'.cell? ⟨w.heap.size + 1 + 1, j, none⟩ = some (.int .i64 (lie (dig p) L j : Int))) (first | (simp [*, go_sem]; done)) (fail)
          rename_i hHeld
          clear hHeld
          go_wp2_with fail
          obtain ⟨g, rfl⟩ : ∃ g, gk = g + 1 := ⟨gk - 1, by have := HK.out; omega⟩
          go_roundg g
          case measure => omega
          case rel =>
            have q := Y2.out.put hlt (lie (dig p) L d : Int)
            refine ⟨d + 1, by omega, by have := HK.out; omega, by simp, Y0.out.far (by simp; omega) _, Y1.out.far (by simp) _, q.congr fun i _ => ?_, bb⟩
            by_cases h : i = d
            · subst h; simp
            · by_cases h' : i < d
              · simp [h, h', show i < d + 1 by omega]
              · simp [h, h', show ¬ i < d + 1 by omega]
        · have hd : ¬ (d : Int) < 256 := by omega
          obtain ⟨cs, hcs, hh⟩ := Y2.out.nums
          have hcs2 : Nums cs (fun d => (lie (dig p) L d : Int)) := ⟨hcs.1, fun j hj => by rw [hcs.2 j hj]; simp only [show j < d by omega, if_true]⟩
          have HC := Lib.hid hcs2
          have HH := Lib.hid hh
          have hcz := hcs2.1
          obtain ⟨_, _, hs3, _, hs5⟩ := Y0.out.stores hcs2
          have YR := Lib.hid hs5
          have HS := Lib.hid hs3
          clear hcs hcs2 hh hs3 hs5
          go_wp2_with fail
          refine wp_load_row 36 (.tmp 6) rfl (w.heap.size + 1 + 1) rfl 36 cs (0, 0) _ HH.out Try.underlying36 rfl (by rw [HC.out.1]; exact row_size) ?_
          go_wp2_with fail
          rw [HS.out]
          simp only [Result.andThen]
          rw [Oper.upon_skip]
          go_wp2_with fail
          (try simp only [Exit.inBlock, Exit.then])
          refine bodyPost_ret (v := .agg cs) ?_ rfl ⟨cs, HC.out, rfl, below_setRow YB.out (Nat.le_refl _) cs⟩
          have hlv := YR.out
          simp [results, asAddr, hlv, Act.put]
end Go.Proofs.Ytdaajhfippnciaa
