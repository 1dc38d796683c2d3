/- Directions: Of, the document's Rotate and OfAngle, two rows held against each other, the law's own awake. -/
import Derived.Test.YtmelipbanbihdaaTurnDocM
import Derived.Test.YtmelipbanbihdaaTurnWayM
import Derived.Test.YtmelipbanbihdaaTurnBaseM
namespace Go.Proofs.Ytmelipbanbihdaa
open Go.RowKit
/-- The way, the answer's room. -/
structure Rb (w : World) (x y : Int) (X : World) : Prop where
  v : Has w.heap.size [.int .i64 (fh x), .int .u64 (fl x), .int .i64 (fh y), .int .u64 (fl y)] X
  r : Has (w.heap.size + 1) [.int .i64 0, .int .u64 0, .int .i64 0, .int .u64 0, .int .i64 0] X
  zv : Clear w.heap.size X
  zr : Clear (w.heap.size + 1) X
  below : Below w.heap.size w X
theorem Rb.step {w : World} {x y : Int} {X Y : World} (h : Rb w x y X) (g : Below X.heap.size X Y) : Rb w x y Y :=
  ⟨h.v.step g, h.r.step g, fun j => by rw [(bcell g).2 _ _ h.v.1]; exact h.zv j, fun j => by rw [(bcell g).2 _ _ h.r.1]; exact h.zr j, bl_trans h.below g⟩
theorem Rb.put_v {w : World} {x y : Int} {X : World} (h : Rb w x y X) (x2 y2 : Int) :
    Rb w x2 y2 ((((X.setCell ⟨w.heap.size, 0, none⟩ (.int .i64 (fh x2))).setCell ⟨w.heap.size, 1, none⟩ (.int .u64 (fl x2))).setCell ⟨w.heap.size, 2, none⟩ (.int .i64 (fh y2))).setCell ⟨w.heap.size, 3, none⟩ (.int .u64 (fl y2))) := by
  have hW := put4 (B := w.heap.size) (X := X) (.int .i64 (fh x2)) (.int .u64 (fl x2)) (.int .i64 (fh y2)) (.int .u64 (fl y2))
  exact ⟨has4 h.v.1 (h.v.2 0 _ rfl) (h.v.2 1 _ rfl) (h.v.2 2 _ rfl) (h.v.2 3 _ rfl) _ _ _ _, h.r.kept hW (by omega), h.zv.kept h.v.1 hW, h.zr.kept h.r.1 hW, h.below.trans (hW.below (B0 := w.heap.size) (by omega) (by have := h.v.1; omega))⟩
theorem rem_low (a : Int) : -65536 < Int.tmod a 65536 := by
  have h := Int.tmod_lt_of_pos (-a) (show (0 : Int) < 65536 by decide)
  rw [Int.neg_tmod] at h; omega
theorem rem_ang {a : Int} : Int.tmod (Int.tmod a 65536 + 65536) 65536 = ((ang a : Nat) : Int) := by
  have h1 := Int.tmod_lt_of_pos a (show (0 : Int) < 65536 by decide)
  have h2 := rem_low a
  have h3 : (Int.tmod a 65536) % 65536 = a % 65536 := by
    have e := Int.mul_tdiv_add_tmod a 65536
    omega
  rw [Int.tmod_eq_emod_of_nonneg (by omega)]
  unfold ang; omega
theorem rem_small (a : Int) : -65536 < Int.tmod a 65536 ∧ Int.tmod a 65536 < 65536 :=
  ⟨rem_low a, Int.tmod_lt_of_pos a (by decide)⟩
theorem bit_i64 (x : Int) (h0 : 0 ≤ x) (h1 : x < 9223372036854775808) : bits .and .i64 x 1 = x % 2 := bits_mask .i64 63 (by decide) (fun n h0 h1 => IntWalk.i64_in n (by omega)) 1 (by decide) x h0 h1
set_option maxRecDepth 20000 in
set_option maxHeartbeats 60000000 in
theorem rby_any (a x y : Int) (hx : My x) (hy : My y) (g cap : Nat) (w : World) (ht : Tab g w) : Calls Try.prog 35 #[.slice (some ⟨g, 0, none⟩) 14 cap, vec x y, .int .i64 a] w fun e w' => e = .returned (wayv (rx (ang a) x y) (ry (ang a) x y) (re (ang a) x y)) ∧ Below w.heap.size w w' := by
  have KT : Hid (∀ a b c d : Int, My a → My b → My c → My d → ∀ W, Calls Try.prog 53 #[.agg #[.int .i64 (fh a), .int .u64 (fl a), .int .i64 (fh b), .int .u64 (fl b)], .agg #[.int .i64 (fh c), .int .u64 (fl c), .int .i64 (fh d), .int .u64 (fl d)]] W fun e w' => e = .returned (.agg #[.int .i64 (fh (tx a b c d)), .int .u64 (fl (tx a b c d)), .int .i64 (fh (ty a b c d)), .int .u64 (fl (ty a b c d)), .int .i64 (te a b c d)]) ∧ Below W.heap.size W w') := rturned_any
  have HTab := Lib.hid ht
  have hA := ang_lt a
  obtain ⟨a1, a2⟩ := rem_small a
  have wA : Int.tmod (Int.tmod a 65536 + 65536) 65536 = ((ang a : Nat) : Int) := rem_ang
  have wr1 : IntKind.i64.wrap (Int.tmod a 65536) = Int.tmod a 65536 := IntWalk.i64_in _ (by omega)
  have wr2 : IntKind.i64.wrap (Int.tmod a 65536 + 65536) = Int.tmod a 65536 + 65536 := IntWalk.i64_in _ (by omega)
  have wr3 : IntKind.i64.wrap ((ang a : Nat) : Int) = ((ang a : Nat) : Int) := IntWalk.i64_in _ (by omega)
  have HE : Hid (rx (ang a) x y = (qt (ang a / 16384) (rot (ang a) 14 0 x y).1 (rot (ang a) 14 0 x y).2.1).1 ∧ ry (ang a) x y = (qt (ang a / 16384) (rot (ang a) 14 0 x y).1 (rot (ang a) 14 0 x y).2.1).2 ∧ re (ang a) x y = (rot (ang a) 14 0 x y).2.2) := ⟨rfl, rfl, rfl⟩
  have HX := Lib.hid hx; have HY := Lib.hid hy
  have hg := ht.1
  clear hx hy ht
  unfold vec wayv
  generalize rx (ang a) x y = rx0 at *
  generalize ry (ang a) x y = ry0 at *
  generalize re (ang a) x y = re0 at *
  generalize ang a = A at *
  go_enter Try.func35, Try.ntmps35
  go_upto_region 2 with fail
  refine name_world (P := fun W => Code.wp _ _ _ _ W) _ (fun R hR => ?_)
  have G0 : Hid (Rb w x y R) := by
    rw [hR]
    refine ⟨Has.mk4 (by simp; omega) (by simp [go_sem]) (by simp [go_sem]) (by simp [go_sem]) (by simp [go_sem]), Has.mk5 (by simp) (by simp [go_sem]) (by simp [go_sem]) (by simp [go_sem]) (by simp [go_sem]) (by simp [go_sem]), fun j => ?_, fun j => ?_, bl_al (bl_al (Below.refl _ _) _) _⟩
    · simp only [frozen?_alloc_cells]; exact frz_past (by omega)
    · simp only [frozen?_alloc_cells]; exact frz_past (by omega)
  clear hR wA wr1 wr2 wr3 a1 a2
  go_wp2_with fail
  go_loopg [7] 14 (fun k iv wr => ∃ (i : Nat) (x2 y2 : Int), i + k = 14 ∧ iv = .int .i64 (i : Int) ∧ rot A k (tcos i) x2 y2 = rot A 14 0 x y ∧ My x2 ∧ My y2 ∧ Rb w x2 y2 wr)
  case atStart => exact ⟨0, _, _, rfl, rfl, rfl, HX.out, HY.out, G0.out⟩
  case round =>
    obtain ⟨i, x2, y2, hk, rfl, hr, m1, m2, P⟩ := hrel
    clear G0 HX HY
    have HP := Lib.hid P
    have HRo := Lib.hid hr
    have M1 := Lib.hid m1; have M2 := Lib.hid m2
    clear P hr m1 m2
    rcases gk with _ | k
    · have HF : Hid (rx0 = (qt (A / 16384) x2 y2).1 ∧ ry0 = (qt (A / 16384) x2 y2).2 ∧ re0 = 0) := by
        have e := HRo.out
        obtain ⟨e1, e2, e3⟩ := HE.out
        rw [← e] at e1 e2 e3
        exact ⟨e1, e2, e3⟩
      obtain rfl : i = 14 := by omega
      clear HE HRo KT HTab
      have hq : (A : Int) / 16384 = ((A / 16384 : Nat) : Int) := by omega
      have hq4 : A / 16384 < 4 := by omega
      generalize A / 16384 = q at *
      go_wp2_with fail
      go_loopg [9] q (fun k iv wr => ∃ (x3 y3 : Int), k ≤ q ∧ iv = .int .i64 (k : Int) ∧ qt k x3 y3 = qt q x2 y2 ∧ My x3 ∧ My y3 ∧ Rb w x3 y3 wr)
      case atStart => exact ⟨_, _, Nat.le_refl _, rfl, rfl, M1.out, M2.out, HP.out⟩
      case round =>
        obtain ⟨x3, y3, hn, rfl, hqt, m3, m4, P⟩ := hrel
        clear HP M1 M2
        have HP := Lib.hid P
        have HQ := Lib.hid hqt
        have M3 := Lib.hid m3; have M4 := Lib.hid m4
        clear P hqt m3 m4
        rcases gk with _ | k
        · have HG : Hid (rx0 = x3 ∧ ry0 = y3 ∧ re0 = 0) := by
            have e := HQ.out
            obtain ⟨e1, e2, e3⟩ := HF.out
            rw [← e] at e1 e2
            exact ⟨e1, e2, e3⟩
          clear HQ HF M3 M4
          obtain ⟨rfl, rfl, rfl⟩ := HG.out
          clear HG
          have v0 := HP.out.v.2 0 _ rfl; have v1 := HP.out.v.2 1 _ rfl; have v2 := HP.out.v.2 2 _ rfl; have v3 := HP.out.v.2 3 _ rfl; have sv := HP.out.v.1
          have r0 := HP.out.r.2 0 _ rfl; have r1 := HP.out.r.2 1 _ rfl; have r2 := HP.out.r.2 2 _ rfl; have r3 := HP.out.r.2 3 _ rfl; have r4 := HP.out.r.2 4 _ rfl; have sr := HP.out.r.1
          have fr : ∀ j, wr.frozen? ⟨w.heap.size + 1, j, none⟩ = false := HP.out.zr
          go_wp2_with fail
          refine bodyPost_ret (by simp [results, Try.results35, go_sem, *]; try rfl) rfl ?_
          exact ⟨rfl, Below.setCell (Below.setCell (Below.setCell (Below.setCell (Below.setCell HP.out.below (by simp) _) (by simp) _) (by simp) _) (by simp) _) (by simp) _⟩
        · have hlt : (0 : Int) < ((k + 1 : Nat) : Int) := by omega
          have wn : IntKind.i64.wrap (((k + 1 : Nat) : Int) - 1) = (k : Int) := by rw [IntWalk.i64_in _ (by omega)]; omega
          have KN := Lib.hid (rneg_any y3 M4.out)
          generalize hkn : ((k + 1 : Nat) : Int) = kn at *
          clear hkn
          go_upto_region 13 with fail
          have v0 := HP.out.v.2 0 _ rfl; have v1 := HP.out.v.2 1 _ rfl; have v2 := HP.out.v.2 2 _ rfl; have v3 := HP.out.v.2 3 _ rfl; have sv := HP.out.v.1
          have fv : ∀ j, wr.frozen? ⟨w.heap.size, j, none⟩ = false := HP.out.zv
          go_region_with (first
            | (go_at_call 18; (with_reducible refine (KN.out _).mono ?_); rintro e w3 ⟨rfl, hb⟩; have hbd : Below wr.heap.size wr w3 := bl_trans (by repeat (first | with_reducible exact Below.refl _ _ | with_reducible apply Below.drew)) hb; have HP3 := Lib.hid (HP.out.step hbd); obtain ⟨hcl, hfr⟩ := bcell hbd; clear hb hbd; have fw : ∀ j, w3.frozen? ⟨w.heap.size, j, none⟩ = false := HP3.out.zv))
          all_goals (
            go_wp2_with fail
            go_roundg k
            case measure => omega
            case rel =>
              refine ⟨-y3, x3, by omega, by first | rfl | simp, HQ.out, my_neg2 M4.out, M3.out, ?_⟩
              exact HP3.out.put_v _ _)
    · have h13 : (13 : Int) - (i : Int) = (k : Int) := by omega
      have w13 : IntKind.i64.wrap (k : Int) = (k : Int) := IntWalk.i64_in _ (by omega)
      have k0 : (0 : Int) ≤ (k : Int) := by omega
      have k64 : ¬ (64 : Int) ≤ (k : Int) := by omega
      have hi14 : (i : Int) < 14 := by omega
      have hi0 : (0 : Int) ≤ (i : Int) := by omega
      have wi : IntKind.i64.wrap ((i : Int) + 1) = (i : Int) + 1 := IntWalk.i64_in _ (by omega)
      obtain ⟨B, hB⟩ : ∃ B : Nat, B = A / 2 ^ k := ⟨_, rfl⟩
      have hBA : B ≤ A := by rw [hB]; exact Nat.div_le_self _ _
      have hsh : (A : Int) / 2 ^ k = (B : Int) := by rw [hB]; simp
      have hand : bits .and .i64 (B : Int) 1 = ((B % 2 : Nat) : Int) := by rw [bit_i64 _ (by omega) (by omega)]; omega
      have hfield : Hid (i + 1 + k = 14) := by show _ = _; omega
      clear hk hBA
      by_cases hbit : B % 2 = 1
      · obtain ⟨c, he⟩ : ∃ c, c = tcos i := ⟨_, rfl⟩
        have HI : Hid (In1 c) := by rw [he]; exact tcos_in i
        have HTC : Hid (tcos (i + 1) = hc c) := by rw [he]; rfl
        have hbit2 : A / 2 ^ k % 2 = 1 := by rw [← hB]; exact hbit
        have hr2 := HRo.out
        rw [← he] at hr2
        have HRo2 := Lib.hid hr2
        have TT := HTab.out.2 i (by omega)
        rw [show tcos (i + 1) = hc c by rw [he]; rfl, show tsin i = hs c by rw [he]; rfl] at TT
        obtain ⟨T0, T1, T2, T3⟩ := TT
        have bl := HP.out.below
        have q0 : wr.cell? ⟨g, i * 4, none⟩ = some (.int .i64 (fh (hc c))) := by rw [(bcell bl).1 _ _ hg]; exact T0
        have q1 : wr.cell? ⟨g, i * 4 + 1, none⟩ = some (.int .u64 (fl (hc c))) := by rw [(bcell bl).1 _ _ hg]; exact T1
        have q2 : wr.cell? ⟨g, i * 4 + 2, none⟩ = some (.int .i64 (fh (hs c))) := by rw [(bcell bl).1 _ _ hg]; exact T2
        have q3 : wr.cell? ⟨g, i * 4 + 3, none⟩ = some (.int .u64 (fl (hs c))) := by rw [(bcell bl).1 _ _ hg]; exact T3
        have qg : g < wr.heap.size := Nat.lt_of_lt_of_le hg bl.size
        clear T0 T1 T2 T3 bl hr2 he HRo
        have KC := Lib.hid (KT.out x2 y2 (hc c) (hs c) M1.out M2.out (hc_in HI.out).my (hs_in HI.out).my)
        have hon := Lib.hid (@rot_on A k hbit2 c x2 y2)
        have her := Lib.hid (@rot_err A k hbit2 c x2 y2)
        have HT := Lib.hid (te_cases x2 y2 (hc c) (hs c))
        have HTM := Lib.hid (tx_my x2 y2 (hc c) (hs c))
        clear KT hbit2 hB M1 M2 HI
        generalize tx x2 y2 (hc c) (hs c) = x3 at *
        generalize ty x2 y2 (hc c) (hs c) = y3 at *
        generalize te x2 y2 (hc c) (hs c) = e3 at *
        have cv := cells_vec
        have v0 := HP.out.v.2 0 _ rfl; have v1 := HP.out.v.2 1 _ rfl; have v2 := HP.out.v.2 2 _ rfl; have v3 := HP.out.v.2 3 _ rfl; have sv := HP.out.v.1
        go_upto_region 6 with fail
        refine name_world (P := fun W => Code.wp _ _ _ _ W) _ (fun R1 hR1 => ?_)
        have zR1_v : w.heap.size < R1.heap.size := by rw [hR1]; first | omega | (simp <;> omega)
        have yR1_v : w.heap.size < R1.heap.size + 1 := by omega
        have yyR1_v : w.heap.size < R1.heap.size + 1 + 1 := by omega
        have cR1_v_0 : R1.cell? ⟨w.heap.size, 0, none⟩ = some (.int .i64 (fh x2)) := by rw [hR1]; first | assumption | (simp [go_sem, *]; done)
        have cR1_v_1 : R1.cell? ⟨w.heap.size, 1, none⟩ = some (.int .u64 (fl x2)) := by rw [hR1]; first | assumption | (simp [go_sem, *]; done)
        have cR1_v_2 : R1.cell? ⟨w.heap.size, 2, none⟩ = some (.int .i64 (fh y2)) := by rw [hR1]; first | assumption | (simp [go_sem, *]; done)
        have cR1_v_3 : R1.cell? ⟨w.heap.size, 3, none⟩ = some (.int .u64 (fl y2)) := by rw [hR1]; first | assumption | (simp [go_sem, *]; done)
        have zR1_t : g < R1.heap.size := by rw [hR1]; first | omega | (simp <;> omega)
        have yR1_t : g < R1.heap.size + 1 := by omega
        have yyR1_t : g < R1.heap.size + 1 + 1 := by omega
        have cR1_t_0 : R1.cell? ⟨g, i * 4, none⟩ = some (.int .i64 (fh (hc c))) := by rw [hR1]; first | assumption | (simp [go_sem, *]; done)
        have cR1_t_1 : R1.cell? ⟨g, i * 4 + 1, none⟩ = some (.int .u64 (fl (hc c))) := by rw [hR1]; first | assumption | (simp [go_sem, *]; done)
        have cR1_t_2 : R1.cell? ⟨g, i * 4 + 2, none⟩ = some (.int .i64 (fh (hs c))) := by rw [hR1]; first | assumption | (simp [go_sem, *]; done)
        have cR1_t_3 : R1.cell? ⟨g, i * 4 + 3, none⟩ = some (.int .u64 (fl (hs c))) := by rw [hR1]; first | assumption | (simp [go_sem, *]; done)
        have HBR1 : Hid (Below w.heap.size w R1) := by rw [hR1]; exact HP.out.below -- (by repeat (first | with_reducible exact Below.refl _ _ | with_reducible exact Hid.out (by assumption) | with_reducible refine Below.setCell ?_ (by first | (simp; done) | omega | (simp <;> omega)) _ | with_reducible refine bl_al ?_ _ | with_reducible apply Below.drew))
        have HPR : Hid (Rb w x2 y2 R1) := by rw [hR1]; exact HP.out
        clear hR1 HP
        go_cut [8] (fun slot0 X1 => ∃ bX1o : Nat, slot0 = .pointer (some ⟨bX1o, 0, none⟩) ∧ R1.heap.size ≤ bX1o ∧ Below R1.heap.size R1 X1 ∧ Has (bX1o) [.int .i64 (fh x3), .int .u64 (fl x3), .int .i64 (fh y3), .int .u64 (fl y3), .int .i64 e3] X1)
        case first =>
          clear HBR1
          have ltt : ∀ n : Nat, n < n + 1 + 1 := fun n => by omega
          have lttt : ∀ n : Nat, n + 1 < n + 1 + 1 := fun n => by omega
          go_region_held3 (fun w' => w'.cell? ⟨w.heap.size, 0, none⟩ = some (.int .i64 (fh x2)) ∧ w'.cell? ⟨w.heap.size, 1, none⟩ = some (.int .u64 (fl x2)) ∧ w'.cell? ⟨w.heap.size, 2, none⟩ = some (.int .i64 (fh y2)) ∧ w'.cell? ⟨w.heap.size, 3, none⟩ = some (.int .u64 (fl y2)) ∧ w'.cell? ⟨g, i * 4, none⟩ = some (.int .i64 (fh (hc c))) ∧ w'.cell? ⟨g, i * 4 + 1, none⟩ = some (.int .u64 (fl (hc c))) ∧ w'.cell? ⟨g, i * 4 + 2, none⟩ = some (.int .i64 (fh (hs c))) ∧ w'.cell? ⟨g, i * 4 + 3, none⟩ = some (.int .u64 (fl (hs c)))) (first | (simp [*, go_sem]; done) | (simp [*, go_sem, World.cell?_alloc_past]; done))
            (first
              | (go_at_call 53; (with_reducible refine (KC.out _).mono ?_); rintro e w1 ⟨rfl, hb⟩; (first | (with_reducible (obtain ⟨hclw1, hfrw1⟩ := bcell_drew hb)) | (obtain ⟨hclw1, hfrw1⟩ := bcell hb)); have zw1_v : w.heap.size < w1.heap.size := (by first | omega | (have hz := hb.size; (try simp at hz); omega)); have yw1_v : w.heap.size < w1.heap.size + 1 := (by omega); have yyw1_v : w.heap.size < w1.heap.size + 1 + 1 := (by omega); have zw1_t : g < w1.heap.size := (by first | omega | (have hz := hb.size; (try simp at hz); omega)); have yw1_t : g < w1.heap.size + 1 := (by omega); have yyw1_t : g < w1.heap.size + 1 + 1 := (by omega); (try have sw1_0 : R1.heap.size < w1.heap.size := (by first | omega | (have hz := hb.size; (try simp at hz); omega))); (try have syw1_0 : R1.heap.size < w1.heap.size + 1 := (by omega)); (try have stw1_0 : R1.heap.size + 1 < w1.heap.size := (by first | omega | (have hz := hb.size; (try simp at hz); omega))); have sxw1_0 : R1.heap.size ≤ w1.heap.size := (by first | omega | (have hz := hb.size; (try simp at hz); omega)); have HBw1 : Hid (Below R1.heap.size R1 w1) := (bl_trans (by repeat (first | with_reducible exact Below.refl _ _ | with_reducible exact Hid.out (by assumption) | with_reducible refine Below.setCell ?_ (by first | (simp; done) | omega | (simp <;> omega)) _ | with_reducible refine bl_al ?_ _ | with_reducible apply Below.drew)) hb); clear hb))
          all_goals (rename_i hHeld; clear hHeld; go_wp2_with fail; go_meet; exact ⟨_, rfl, (by first | omega | (simp <;> omega)), (by repeat (first | with_reducible exact Below.refl _ _ | with_reducible exact Hid.out (by assumption) | with_reducible refine Below.setCell ?_ (by first | (simp; done) | omega | (simp <;> omega)) _ | with_reducible refine bl_al ?_ _ | with_reducible apply Below.drew)), Has.mk5 (by first | (simp <;> omega) | omega) (by simp [go_sem, *]) (by simp [go_sem, *]) (by simp [go_sem, *]) (by simp [go_sem, *]) (by simp [go_sem, *])⟩)
        case rest =>
        obtain ⟨X1, hX1⟩ : ∃ X, X = wc := ⟨wc, rfl⟩
        subst hX1
        obtain ⟨bX1o, rfl, m_bX1o, hX, g_o⟩ := hcut
        have zX1_v : w.heap.size < X1.heap.size := Nat.lt_of_lt_of_le zR1_v hX.size
        have cX1_v_0 : X1.cell? ⟨w.heap.size, 0, none⟩ = some (.int .i64 (fh x2)) := by rw [(bcell hX).1 _ _ zR1_v]; exact cR1_v_0
        have cX1_v_1 : X1.cell? ⟨w.heap.size, 1, none⟩ = some (.int .u64 (fl x2)) := by rw [(bcell hX).1 _ _ zR1_v]; exact cR1_v_1
        have cX1_v_2 : X1.cell? ⟨w.heap.size, 2, none⟩ = some (.int .i64 (fh y2)) := by rw [(bcell hX).1 _ _ zR1_v]; exact cR1_v_2
        have cX1_v_3 : X1.cell? ⟨w.heap.size, 3, none⟩ = some (.int .u64 (fl y2)) := by rw [(bcell hX).1 _ _ zR1_v]; exact cR1_v_3
        have zX1_t : g < X1.heap.size := Nat.lt_of_lt_of_le zR1_t hX.size
        have cX1_t_0 : X1.cell? ⟨g, i * 4, none⟩ = some (.int .i64 (fh (hc c))) := by rw [(bcell hX).1 _ _ zR1_t]; exact cR1_t_0
        have cX1_t_1 : X1.cell? ⟨g, i * 4 + 1, none⟩ = some (.int .u64 (fl (hc c))) := by rw [(bcell hX).1 _ _ zR1_t]; exact cR1_t_1
        have cX1_t_2 : X1.cell? ⟨g, i * 4 + 2, none⟩ = some (.int .i64 (fh (hs c))) := by rw [(bcell hX).1 _ _ zR1_t]; exact cR1_t_2
        have cX1_t_3 : X1.cell? ⟨g, i * 4 + 3, none⟩ = some (.int .u64 (fl (hs c))) := by rw [(bcell hX).1 _ _ zR1_t]; exact cR1_t_3
        have zX1_o := g_o.1; have cX1_o_0 := g_o.2 0 _ rfl; have cX1_o_1 := g_o.2 1 _ rfl; have cX1_o_2 := g_o.2 2 _ rfl; have cX1_o_3 := g_o.2 3 _ rfl; have cX1_o_4 := g_o.2 4 _ rfl; clear g_o
        have HBX1 : Hid (Below w.heap.size w X1) := bl_trans HBR1.out hX
        have HPX := Lib.hid (HPR.out.step hX)
        clear hX HPR
        clear zR1_v yR1_v yyR1_v cR1_v_0 cR1_v_1 cR1_v_2 cR1_v_3 zR1_t yR1_t yyR1_t cR1_t_0 cR1_t_1 cR1_t_2 cR1_t_3 HBR1 m_bX1o
        rcases HT.out with ⟨e0, z3, z1, z2⟩ | ⟨e0, z3, z1, z2⟩
        · have HN := Lib.hid (hon.out e0)
          subst e0
          clear hon her HT z1 z2 z3
          clear v0 v1 v2 v3 sv
          have fv : ∀ j, X1.frozen? ⟨w.heap.size, j, none⟩ = false := HPX.out.zv
          go_wp2_with fail
          go_roundg k
          case measure => omega
          case rel =>
            refine ⟨i + 1, x3, y3, hfield.out, by first | rfl | simp, ?_, HTM.out.1, HTM.out.2, HPX.out.put_v _ _⟩
            rw [HTC.out]; exact HN.out.symm.trans HRo2.out
        · have HN : Hid (rx0 = 0 ∧ ry0 = 0 ∧ re0 = 3) := by
            have e := HRo2.out
            rw [her.out (by rw [e0]; decide)] at e
            obtain ⟨e1, e2, e3'⟩ := HE.out
            rw [← e] at e1 e2 e3'
            rw [qt_zero] at e1 e2
            exact ⟨e1, e2, e3'⟩
          obtain ⟨rfl, rfl, rfl⟩ := HN.out
          subst e0
          subst z1; subst z2
          clear hon her HT HN HE z3
          clear v0 v1 v2 v3 sv
          have r0 := HPX.out.r.2 0 _ rfl; have r1 := HPX.out.r.2 1 _ rfl; have r2 := HPX.out.r.2 2 _ rfl; have r3 := HPX.out.r.2 3 _ rfl; have r4 := HPX.out.r.2 4 _ rfl; have sr := HPX.out.r.1
          have fr : ∀ j, X1.frozen? ⟨w.heap.size + 1, j, none⟩ = false := HPX.out.zr
          go_wp2_with fail
          refine bodyPost_ret (by simp [results, Try.results35, go_sem, *]; try rfl) rfl ?_
          exact ⟨rfl, Below.setCell (Below.setCell (Below.setCell (Below.setCell (Below.setCell HPX.out.below (by simp) _) (by simp) _) (by simp) _) (by simp) _) (by simp) _⟩
      · have hbit2 : ¬ A / 2 ^ k % 2 = 1 := by rw [← hB]; exact hbit
        have hb0 : B % 2 = 0 := by omega
        have HN := Lib.hid (rot_off hbit2 (tcos i) x2 y2)
        rw [hb0] at hand
        clear KT hbit hbit2 hB
        go_wp2_with fail
        go_roundg k
        case measure => omega
        case rel =>
          exact ⟨i + 1, x2, y2, hfield.out, by first | rfl | simp, HN.out.symm.trans HRo.out, M1.out, M2.out, HP.out⟩
end Go.Proofs.Ytmelipbanbihdaa
namespace Go.Proofs.Ytmelipbanbihdaa
open Go.RowKit
/-- What stands at a round's head: the X of the direction ahead and the row so far. -/
structure Td (w : World) (i : Nat) (c : Int) (v : Value) (X : World) : Prop where
  c : Has w.heap.size [.int .i64 (fh c), .int .u64 (fl c)] X
  zc : Clear w.heap.size X
  own : X.ownsRow (w.heap.size + 1) 26 4 v i (dirs i)
  below : Below w.heap.size w X
set_option maxRecDepth 20000 in
set_option maxHeartbeats 60000000 in
theorem rtable_any (w : World) : Calls Try.prog 17 #[] w fun e w' => ∃ g cap, e = .returned (.slice (some ⟨g, 0, none⟩) 14 cap) ∧ Tab g w' ∧ w.heap.size ≤ g ∧ Below w.heap.size w w' := by
  obtain ⟨i0, hi, hz0, hz1, hz2⟩ := info_parts Try.info_vec
  go_enter Try.func17, Try.ntmps17
  go_upto_region 3 with fail
  refine name_world (P := fun W => Code.wp _ _ _ _ W) _ (fun R hR => ?_)
  have g0 : Td w 0 (tcos 0) (.slice none 0 0) R := by
    rw [hR]
    exact ⟨Has.mk2 (by simp) (by simp [go_sem]; rfl) (by simp [go_sem]; rfl), fun j => by rw [frozen?_alloc_cells]; simp [World.frozen?], World.ownsRow_nil _ _ _ _, bl_al (Below.refl _ _) _⟩
  have G0 := Lib.hid g0
  clear g0 hR
  go_wp2_with fail
  go_loopg [1, 3] 14 (fun k lv iv wr => ∃ i : Nat, i + k = 14 ∧ iv = .int .i64 (i : Int) ∧ Td w i (tcos i) lv wr)
  case atStart => exact ⟨0, rfl, rfl, G0.out⟩
  case round =>
    obtain ⟨i, hk, rfl, P⟩ := hrel
    clear G0
    rcases gk with _ | k
    · obtain rfl : i = 14 := by omega
      have HP := Lib.hid P
      clear P
      go_wp2_with fail
      go_returns
      obtain ⟨g', cap', e, ht, hlo⟩ := own_tab HP.out.own
      subst e
      exact ⟨_, ⟨_, rfl⟩, ht, by omega, HP.out.below⟩
    · have hlt : ((i : Nat) : Int) < 14 := by omega
      have wi : IntKind.i64.wrap ((i : Int) + 1) = (i : Int) + 1 := IntWalk.i64_in _ (by omega)
      have HC := Lib.hid P.c; have HZ := Lib.hid P.zc; have HO := Lib.hid P.own; have HBwr := Lib.hid P.below
      have HIn := Lib.hid (tcos_in i)
      clear P
      have P1 : My 18446744073709551616 := by unfold My; omega
      have i1 := rint_any 1
      rw [show intr 1 = 18446744073709551616 by decide] at i1
      have A2 := radd_any _ (tcos i) P1 HIn.out.my
      have A4 := rsub_any _ (tcos i) P1 HIn.out.my
      have m2 : My (18446744073709551616 + tcos i) := by have := HIn.out; unfold In1 at this; unfold My; omega
      have m4 : My (18446744073709551616 - tcos i) := by have := HIn.out; unfold In1 at this; unfold My; omega
      rw [ov_in m2, oe_in m2] at A2
      rw [ov_in m4, oe_in m4] at A4
      have A5 := rhalf_any _ m2
      have A7 := rhalf_any _ m4
      have A6 := rsqrt_any _ (more_in HIn.out).my (more_in HIn.out).1
      have A8 := rsqrt_any _ (less_in HIn.out).my (less_in HIn.out).1
      have K1 := Lib.hid i1; have K2 := Lib.hid A2; have K3 := Lib.hid A5; have K4 := Lib.hid A6; have K5 := Lib.hid i1; have K6 := Lib.hid A4; have K7 := Lib.hid A7; have K8 := Lib.hid A8
      have EX : Hid (hc (tcos i) = sqr (halfr (18446744073709551616 + tcos i)) ∧ hs (tcos i) = sqr (halfr (18446744073709551616 - tcos i))) := ⟨rfl, rfl⟩
      clear P1 i1 A2 A4 m2 m4 A5 A6 A7 A8 HIn
      have hfg := field_got
      have cc0 := HC.out.2 0 _ rfl; have cc1 := HC.out.2 1 _ rfl
      have zc := HC.out.1
      have zf : ∀ j, wr.frozen? ⟨w.heap.size, j, none⟩ = false := HZ.out
      clear HC HZ
      generalize sqr (halfr (18446744073709551616 + tcos i)) = x at *
      generalize sqr (halfr (18446744073709551616 - tcos i)) = y at *
      generalize halfr (18446744073709551616 + tcos i) = s at *
      generalize halfr (18446744073709551616 - tcos i) = u at *
      generalize 18446744073709551616 + tcos i = m at *
      generalize 18446744073709551616 - tcos i = n at *
      have EX2 : Hid (dirs (i + 1) = dirs i ++ [.int .i64 (fh x), .int .u64 (fl x), .int .i64 (fh y), .int .u64 (fl y)]) := by
        show dirs i ++ [.int .i64 (fh (hc (tcos i))), .int .u64 (fl (hc (tcos i))), .int .i64 (fh (hs (tcos i))), .int .u64 (fl (hs (tcos i)))] = _
        rw [EX.out.1, EX.out.2]
      have EX3 : Hid (tcos (i + 1) = x) := EX.out.1
      clear EX
      generalize tcos i = c at *
      go_upto_region 6 with fail
      refine name_world (P := fun W => Code.wp _ _ _ _ W) _ (fun R1 hR1 => ?_)
      have zR1_c : w.heap.size < R1.heap.size := by rw [hR1]; first | omega | (simp <;> omega)
      have yR1_c : w.heap.size < R1.heap.size + 1 := by omega
      have yyR1_c : w.heap.size < R1.heap.size + 1 + 1 := by omega
      have cR1_c_0 : R1.cell? ⟨w.heap.size, 0, none⟩ = some (.int .i64 (fh c)) := by rw [hR1]; first | assumption | (simp [go_sem, *]; done)
      have cR1_c_1 : R1.cell? ⟨w.heap.size, 1, none⟩ = some (.int .u64 (fl c)) := by rw [hR1]; first | assumption | (simp [go_sem, *]; done)
      have fR1_c : ∀ j, R1.frozen? ⟨w.heap.size, j, none⟩ = false := fun j => by rw [hR1]; first | (simp [go_sem, *]; done) | (simp only [frozen?_alloc_cells]; rw [hfrw0 _ _ (by first | omega | (simp <;> omega))]; simp [frozen?_alloc_cells, World.frozen?]; done) | (simp [frozen?_alloc_cells, World.frozen?, *]; done)
      have lo_c : w.heap.size ≤ w.heap.size := by omega
      have HBR1 : Hid (Below w.heap.size w R1) := by rw [hR1]; show Below _ _ _; exact (by repeat (first | with_reducible exact Below.refl _ _ | with_reducible exact Hid.out (by assumption) | with_reducible refine Below.setCell ?_ (by first | (simp; done) | omega | (simp <;> omega)) _ | with_reducible refine bl_al ?_ _ | with_reducible apply Below.drew))
      have HOR : Hid (R1.ownsRow (w.heap.size + 1) 26 4 u1 i (dirs i)) := by rw [hR1]; exact HO.out
      clear hR1 HO
      go_cut [4] (fun slot0 X1 => ∃ bX1v : Nat, slot0 = .pointer (some ⟨bX1v, 0, none⟩) ∧ R1.heap.size ≤ bX1v ∧ Below R1.heap.size R1 X1 ∧ Has (bX1v) [.int .i64 (fh x), .int .u64 (fl x), .int .i64 (fh y), .int .u64 (fl y)] X1)
      case first =>
        clear HBR1
        have ltt : ∀ n : Nat, n < n + 1 + 1 := fun n => by omega
        have lttt : ∀ n : Nat, n + 1 < n + 1 + 1 := fun n => by omega
        go_region_held3 (fun w' => w'.cell? ⟨w.heap.size, 0, none⟩ = some (.int .i64 (fh c)) ∧ w'.cell? ⟨w.heap.size, 1, none⟩ = some (.int .u64 (fl c))) (first | (simp [*, go_sem]; done) | (simp [*, go_sem, World.cell?_alloc_past]; done))
          (first
            | (go_at_call 22; (with_reducible refine (K1.out _).mono ?_); rintro e w1 ⟨rfl, hb⟩; (first | (with_reducible (obtain ⟨hclw1, hfrw1⟩ := bcell_drew hb)) | (obtain ⟨hclw1, hfrw1⟩ := bcell hb)); have zw1_c : w.heap.size < w1.heap.size := (by first | omega | (have hz := hb.size; (try simp at hz); omega)); have yw1_c : w.heap.size < w1.heap.size + 1 := (by omega); have yyw1_c : w.heap.size < w1.heap.size + 1 + 1 := (by omega); (try have sw1_0 : R1.heap.size < w1.heap.size := (by first | omega | (have hz := hb.size; (try simp at hz); omega))); (try have syw1_0 : R1.heap.size < w1.heap.size + 1 := (by omega)); (try have stw1_0 : R1.heap.size + 1 < w1.heap.size := (by first | omega | (have hz := hb.size; (try simp at hz); omega))); have sxw1_0 : R1.heap.size ≤ w1.heap.size := (by first | omega | (have hz := hb.size; (try simp at hz); omega)); have HBw1 : Hid (Below R1.heap.size R1 w1) := (bl_trans (by repeat (first | with_reducible exact Below.refl _ _ | with_reducible exact Hid.out (by assumption) | with_reducible refine Below.setCell ?_ (by first | (simp; done) | omega | (simp <;> omega)) _ | with_reducible refine bl_al ?_ _ | with_reducible apply Below.drew)) hb); clear hb; clear K1)
            | (go_at_call 26; (with_reducible refine (K2.out _).mono ?_); rintro e w2 ⟨rfl, hb⟩; obtain ⟨hclw2, hfrw2⟩ := bcell hb; have zw2_c : w.heap.size < w2.heap.size := (by first | omega | (have hz := hb.size; (try simp at hz); omega)); have yw2_c : w.heap.size < w2.heap.size + 1 := (by omega); have yyw2_c : w.heap.size < w2.heap.size + 1 + 1 := (by omega); (try have sw2_0 : R1.heap.size < w2.heap.size := (by first | omega | (have hz := hb.size; (try simp at hz); omega))); (try have syw2_0 : R1.heap.size < w2.heap.size + 1 := (by omega)); (try have stw2_0 : R1.heap.size + 1 < w2.heap.size := (by first | omega | (have hz := hb.size; (try simp at hz); omega))); have sxw2_0 : R1.heap.size ≤ w2.heap.size := (by first | omega | (have hz := hb.size; (try simp at hz); omega)); (try have sw2_w1 : w1.heap.size < w2.heap.size := (by first | omega | (have hz := hb.size; (try simp at hz); omega))); (try have syw2_w1 : w1.heap.size < w2.heap.size + 1 := (by omega)); (try have stw2_w1 : w1.heap.size + 1 < w2.heap.size := (by first | omega | (have hz := hb.size; (try simp at hz); omega))); have sxw2_w1 : w1.heap.size ≤ w2.heap.size := (by first | omega | (have hz := hb.size; (try simp at hz); omega)); have HBw2 : Hid (Below R1.heap.size R1 w2) := (bl_trans (by repeat (first | with_reducible exact Below.refl _ _ | with_reducible exact Hid.out (by assumption) | with_reducible refine Below.setCell ?_ (by first | (simp; done) | omega | (simp <;> omega)) _ | with_reducible refine bl_al ?_ _ | with_reducible apply Below.drew)) hb); clear hb; clear K2)
            | (go_at_call 37; (with_reducible refine (K3.out _).mono ?_); rintro e w3 ⟨rfl, hb⟩; obtain ⟨hclw3, hfrw3⟩ := bcell hb; have zw3_c : w.heap.size < w3.heap.size := (by first | omega | (have hz := hb.size; (try simp at hz); omega)); have yw3_c : w.heap.size < w3.heap.size + 1 := (by omega); have yyw3_c : w.heap.size < w3.heap.size + 1 + 1 := (by omega); (try have sw3_0 : R1.heap.size < w3.heap.size := (by first | omega | (have hz := hb.size; (try simp at hz); omega))); (try have syw3_0 : R1.heap.size < w3.heap.size + 1 := (by omega)); (try have stw3_0 : R1.heap.size + 1 < w3.heap.size := (by first | omega | (have hz := hb.size; (try simp at hz); omega))); have sxw3_0 : R1.heap.size ≤ w3.heap.size := (by first | omega | (have hz := hb.size; (try simp at hz); omega)); (try have sw3_w1 : w1.heap.size < w3.heap.size := (by first | omega | (have hz := hb.size; (try simp at hz); omega))); (try have syw3_w1 : w1.heap.size < w3.heap.size + 1 := (by omega)); (try have stw3_w1 : w1.heap.size + 1 < w3.heap.size := (by first | omega | (have hz := hb.size; (try simp at hz); omega))); have sxw3_w1 : w1.heap.size ≤ w3.heap.size := (by first | omega | (have hz := hb.size; (try simp at hz); omega)); (try have sw3_w2 : w2.heap.size < w3.heap.size := (by first | omega | (have hz := hb.size; (try simp at hz); omega))); (try have syw3_w2 : w2.heap.size < w3.heap.size + 1 := (by omega)); (try have stw3_w2 : w2.heap.size + 1 < w3.heap.size := (by first | omega | (have hz := hb.size; (try simp at hz); omega))); have sxw3_w2 : w2.heap.size ≤ w3.heap.size := (by first | omega | (have hz := hb.size; (try simp at hz); omega)); have HBw3 : Hid (Below R1.heap.size R1 w3) := (bl_trans (by repeat (first | with_reducible exact Below.refl _ _ | with_reducible exact Hid.out (by assumption) | with_reducible refine Below.setCell ?_ (by first | (simp; done) | omega | (simp <;> omega)) _ | with_reducible refine bl_al ?_ _ | with_reducible apply Below.drew)) hb); clear hb; clear K3)
            | (go_at_call 36; (with_reducible refine (K4.out _).mono ?_); rintro e w4 ⟨rfl, hb⟩; obtain ⟨hclw4, hfrw4⟩ := bcell hb; have zw4_c : w.heap.size < w4.heap.size := (by first | omega | (have hz := hb.size; (try simp at hz); omega)); have yw4_c : w.heap.size < w4.heap.size + 1 := (by omega); have yyw4_c : w.heap.size < w4.heap.size + 1 + 1 := (by omega); (try have sw4_0 : R1.heap.size < w4.heap.size := (by first | omega | (have hz := hb.size; (try simp at hz); omega))); (try have syw4_0 : R1.heap.size < w4.heap.size + 1 := (by omega)); (try have stw4_0 : R1.heap.size + 1 < w4.heap.size := (by first | omega | (have hz := hb.size; (try simp at hz); omega))); have sxw4_0 : R1.heap.size ≤ w4.heap.size := (by first | omega | (have hz := hb.size; (try simp at hz); omega)); (try have sw4_w1 : w1.heap.size < w4.heap.size := (by first | omega | (have hz := hb.size; (try simp at hz); omega))); (try have syw4_w1 : w1.heap.size < w4.heap.size + 1 := (by omega)); (try have stw4_w1 : w1.heap.size + 1 < w4.heap.size := (by first | omega | (have hz := hb.size; (try simp at hz); omega))); have sxw4_w1 : w1.heap.size ≤ w4.heap.size := (by first | omega | (have hz := hb.size; (try simp at hz); omega)); (try have sw4_w2 : w2.heap.size < w4.heap.size := (by first | omega | (have hz := hb.size; (try simp at hz); omega))); (try have syw4_w2 : w2.heap.size < w4.heap.size + 1 := (by omega)); (try have stw4_w2 : w2.heap.size + 1 < w4.heap.size := (by first | omega | (have hz := hb.size; (try simp at hz); omega))); have sxw4_w2 : w2.heap.size ≤ w4.heap.size := (by first | omega | (have hz := hb.size; (try simp at hz); omega)); (try have sw4_w3 : w3.heap.size < w4.heap.size := (by first | omega | (have hz := hb.size; (try simp at hz); omega))); (try have syw4_w3 : w3.heap.size < w4.heap.size + 1 := (by omega)); (try have stw4_w3 : w3.heap.size + 1 < w4.heap.size := (by first | omega | (have hz := hb.size; (try simp at hz); omega))); have sxw4_w3 : w3.heap.size ≤ w4.heap.size := (by first | omega | (have hz := hb.size; (try simp at hz); omega)); have HBw4 : Hid (Below R1.heap.size R1 w4) := (bl_trans (by repeat (first | with_reducible exact Below.refl _ _ | with_reducible exact Hid.out (by assumption) | with_reducible refine Below.setCell ?_ (by first | (simp; done) | omega | (simp <;> omega)) _ | with_reducible refine bl_al ?_ _ | with_reducible apply Below.drew)) hb); clear hb; clear K4)
            | (go_at_call 22; (with_reducible refine (K5.out _).mono ?_); rintro e w5 ⟨rfl, hb⟩; obtain ⟨hclw5, hfrw5⟩ := bcell hb; have zw5_c : w.heap.size < w5.heap.size := (by first | omega | (have hz := hb.size; (try simp at hz); omega)); have yw5_c : w.heap.size < w5.heap.size + 1 := (by omega); have yyw5_c : w.heap.size < w5.heap.size + 1 + 1 := (by omega); (try have sw5_0 : R1.heap.size < w5.heap.size := (by first | omega | (have hz := hb.size; (try simp at hz); omega))); (try have syw5_0 : R1.heap.size < w5.heap.size + 1 := (by omega)); (try have stw5_0 : R1.heap.size + 1 < w5.heap.size := (by first | omega | (have hz := hb.size; (try simp at hz); omega))); have sxw5_0 : R1.heap.size ≤ w5.heap.size := (by first | omega | (have hz := hb.size; (try simp at hz); omega)); (try have sw5_w1 : w1.heap.size < w5.heap.size := (by first | omega | (have hz := hb.size; (try simp at hz); omega))); (try have syw5_w1 : w1.heap.size < w5.heap.size + 1 := (by omega)); (try have stw5_w1 : w1.heap.size + 1 < w5.heap.size := (by first | omega | (have hz := hb.size; (try simp at hz); omega))); have sxw5_w1 : w1.heap.size ≤ w5.heap.size := (by first | omega | (have hz := hb.size; (try simp at hz); omega)); (try have sw5_w2 : w2.heap.size < w5.heap.size := (by first | omega | (have hz := hb.size; (try simp at hz); omega))); (try have syw5_w2 : w2.heap.size < w5.heap.size + 1 := (by omega)); (try have stw5_w2 : w2.heap.size + 1 < w5.heap.size := (by first | omega | (have hz := hb.size; (try simp at hz); omega))); have sxw5_w2 : w2.heap.size ≤ w5.heap.size := (by first | omega | (have hz := hb.size; (try simp at hz); omega)); (try have sw5_w3 : w3.heap.size < w5.heap.size := (by first | omega | (have hz := hb.size; (try simp at hz); omega))); (try have syw5_w3 : w3.heap.size < w5.heap.size + 1 := (by omega)); (try have stw5_w3 : w3.heap.size + 1 < w5.heap.size := (by first | omega | (have hz := hb.size; (try simp at hz); omega))); have sxw5_w3 : w3.heap.size ≤ w5.heap.size := (by first | omega | (have hz := hb.size; (try simp at hz); omega)); (try have sw5_w4 : w4.heap.size < w5.heap.size := (by first | omega | (have hz := hb.size; (try simp at hz); omega))); (try have syw5_w4 : w4.heap.size < w5.heap.size + 1 := (by omega)); (try have stw5_w4 : w4.heap.size + 1 < w5.heap.size := (by first | omega | (have hz := hb.size; (try simp at hz); omega))); have sxw5_w4 : w4.heap.size ≤ w5.heap.size := (by first | omega | (have hz := hb.size; (try simp at hz); omega)); have HBw5 : Hid (Below R1.heap.size R1 w5) := (bl_trans (by repeat (first | with_reducible exact Below.refl _ _ | with_reducible exact Hid.out (by assumption) | with_reducible refine Below.setCell ?_ (by first | (simp; done) | omega | (simp <;> omega)) _ | with_reducible refine bl_al ?_ _ | with_reducible apply Below.drew)) hb); clear hb; clear K5)
            | (go_at_call 21; (with_reducible refine (K6.out _).mono ?_); rintro e w6 ⟨rfl, hb⟩; obtain ⟨hclw6, hfrw6⟩ := bcell hb; have zw6_c : w.heap.size < w6.heap.size := (by first | omega | (have hz := hb.size; (try simp at hz); omega)); have yw6_c : w.heap.size < w6.heap.size + 1 := (by omega); have yyw6_c : w.heap.size < w6.heap.size + 1 + 1 := (by omega); (try have sw6_0 : R1.heap.size < w6.heap.size := (by first | omega | (have hz := hb.size; (try simp at hz); omega))); (try have syw6_0 : R1.heap.size < w6.heap.size + 1 := (by omega)); (try have stw6_0 : R1.heap.size + 1 < w6.heap.size := (by first | omega | (have hz := hb.size; (try simp at hz); omega))); have sxw6_0 : R1.heap.size ≤ w6.heap.size := (by first | omega | (have hz := hb.size; (try simp at hz); omega)); (try have sw6_w1 : w1.heap.size < w6.heap.size := (by first | omega | (have hz := hb.size; (try simp at hz); omega))); (try have syw6_w1 : w1.heap.size < w6.heap.size + 1 := (by omega)); (try have stw6_w1 : w1.heap.size + 1 < w6.heap.size := (by first | omega | (have hz := hb.size; (try simp at hz); omega))); have sxw6_w1 : w1.heap.size ≤ w6.heap.size := (by first | omega | (have hz := hb.size; (try simp at hz); omega)); (try have sw6_w2 : w2.heap.size < w6.heap.size := (by first | omega | (have hz := hb.size; (try simp at hz); omega))); (try have syw6_w2 : w2.heap.size < w6.heap.size + 1 := (by omega)); (try have stw6_w2 : w2.heap.size + 1 < w6.heap.size := (by first | omega | (have hz := hb.size; (try simp at hz); omega))); have sxw6_w2 : w2.heap.size ≤ w6.heap.size := (by first | omega | (have hz := hb.size; (try simp at hz); omega)); (try have sw6_w3 : w3.heap.size < w6.heap.size := (by first | omega | (have hz := hb.size; (try simp at hz); omega))); (try have syw6_w3 : w3.heap.size < w6.heap.size + 1 := (by omega)); (try have stw6_w3 : w3.heap.size + 1 < w6.heap.size := (by first | omega | (have hz := hb.size; (try simp at hz); omega))); have sxw6_w3 : w3.heap.size ≤ w6.heap.size := (by first | omega | (have hz := hb.size; (try simp at hz); omega)); (try have sw6_w4 : w4.heap.size < w6.heap.size := (by first | omega | (have hz := hb.size; (try simp at hz); omega))); (try have syw6_w4 : w4.heap.size < w6.heap.size + 1 := (by omega)); (try have stw6_w4 : w4.heap.size + 1 < w6.heap.size := (by first | omega | (have hz := hb.size; (try simp at hz); omega))); have sxw6_w4 : w4.heap.size ≤ w6.heap.size := (by first | omega | (have hz := hb.size; (try simp at hz); omega)); (try have sw6_w5 : w5.heap.size < w6.heap.size := (by first | omega | (have hz := hb.size; (try simp at hz); omega))); (try have syw6_w5 : w5.heap.size < w6.heap.size + 1 := (by omega)); (try have stw6_w5 : w5.heap.size + 1 < w6.heap.size := (by first | omega | (have hz := hb.size; (try simp at hz); omega))); have sxw6_w5 : w5.heap.size ≤ w6.heap.size := (by first | omega | (have hz := hb.size; (try simp at hz); omega)); have HBw6 : Hid (Below R1.heap.size R1 w6) := (bl_trans (by repeat (first | with_reducible exact Below.refl _ _ | with_reducible exact Hid.out (by assumption) | with_reducible refine Below.setCell ?_ (by first | (simp; done) | omega | (simp <;> omega)) _ | with_reducible refine bl_al ?_ _ | with_reducible apply Below.drew)) hb); clear hb; clear K6)
            | (go_at_call 37; (with_reducible refine (K7.out _).mono ?_); rintro e w7 ⟨rfl, hb⟩; obtain ⟨hclw7, hfrw7⟩ := bcell hb; have zw7_c : w.heap.size < w7.heap.size := (by first | omega | (have hz := hb.size; (try simp at hz); omega)); have yw7_c : w.heap.size < w7.heap.size + 1 := (by omega); have yyw7_c : w.heap.size < w7.heap.size + 1 + 1 := (by omega); (try have sw7_0 : R1.heap.size < w7.heap.size := (by first | omega | (have hz := hb.size; (try simp at hz); omega))); (try have syw7_0 : R1.heap.size < w7.heap.size + 1 := (by omega)); (try have stw7_0 : R1.heap.size + 1 < w7.heap.size := (by first | omega | (have hz := hb.size; (try simp at hz); omega))); have sxw7_0 : R1.heap.size ≤ w7.heap.size := (by first | omega | (have hz := hb.size; (try simp at hz); omega)); (try have sw7_w1 : w1.heap.size < w7.heap.size := (by first | omega | (have hz := hb.size; (try simp at hz); omega))); (try have syw7_w1 : w1.heap.size < w7.heap.size + 1 := (by omega)); (try have stw7_w1 : w1.heap.size + 1 < w7.heap.size := (by first | omega | (have hz := hb.size; (try simp at hz); omega))); have sxw7_w1 : w1.heap.size ≤ w7.heap.size := (by first | omega | (have hz := hb.size; (try simp at hz); omega)); (try have sw7_w2 : w2.heap.size < w7.heap.size := (by first | omega | (have hz := hb.size; (try simp at hz); omega))); (try have syw7_w2 : w2.heap.size < w7.heap.size + 1 := (by omega)); (try have stw7_w2 : w2.heap.size + 1 < w7.heap.size := (by first | omega | (have hz := hb.size; (try simp at hz); omega))); have sxw7_w2 : w2.heap.size ≤ w7.heap.size := (by first | omega | (have hz := hb.size; (try simp at hz); omega)); (try have sw7_w3 : w3.heap.size < w7.heap.size := (by first | omega | (have hz := hb.size; (try simp at hz); omega))); (try have syw7_w3 : w3.heap.size < w7.heap.size + 1 := (by omega)); (try have stw7_w3 : w3.heap.size + 1 < w7.heap.size := (by first | omega | (have hz := hb.size; (try simp at hz); omega))); have sxw7_w3 : w3.heap.size ≤ w7.heap.size := (by first | omega | (have hz := hb.size; (try simp at hz); omega)); (try have sw7_w4 : w4.heap.size < w7.heap.size := (by first | omega | (have hz := hb.size; (try simp at hz); omega))); (try have syw7_w4 : w4.heap.size < w7.heap.size + 1 := (by omega)); (try have stw7_w4 : w4.heap.size + 1 < w7.heap.size := (by first | omega | (have hz := hb.size; (try simp at hz); omega))); have sxw7_w4 : w4.heap.size ≤ w7.heap.size := (by first | omega | (have hz := hb.size; (try simp at hz); omega)); (try have sw7_w5 : w5.heap.size < w7.heap.size := (by first | omega | (have hz := hb.size; (try simp at hz); omega))); (try have syw7_w5 : w5.heap.size < w7.heap.size + 1 := (by omega)); (try have stw7_w5 : w5.heap.size + 1 < w7.heap.size := (by first | omega | (have hz := hb.size; (try simp at hz); omega))); have sxw7_w5 : w5.heap.size ≤ w7.heap.size := (by first | omega | (have hz := hb.size; (try simp at hz); omega)); (try have sw7_w6 : w6.heap.size < w7.heap.size := (by first | omega | (have hz := hb.size; (try simp at hz); omega))); (try have syw7_w6 : w6.heap.size < w7.heap.size + 1 := (by omega)); (try have stw7_w6 : w6.heap.size + 1 < w7.heap.size := (by first | omega | (have hz := hb.size; (try simp at hz); omega))); have sxw7_w6 : w6.heap.size ≤ w7.heap.size := (by first | omega | (have hz := hb.size; (try simp at hz); omega)); have HBw7 : Hid (Below R1.heap.size R1 w7) := (bl_trans (by repeat (first | with_reducible exact Below.refl _ _ | with_reducible exact Hid.out (by assumption) | with_reducible refine Below.setCell ?_ (by first | (simp; done) | omega | (simp <;> omega)) _ | with_reducible refine bl_al ?_ _ | with_reducible apply Below.drew)) hb); clear hb; clear K7)
            | (go_at_call 36; (with_reducible refine (K8.out _).mono ?_); rintro e w8 ⟨rfl, hb⟩; obtain ⟨hclw8, hfrw8⟩ := bcell hb; have zw8_c : w.heap.size < w8.heap.size := (by first | omega | (have hz := hb.size; (try simp at hz); omega)); have yw8_c : w.heap.size < w8.heap.size + 1 := (by omega); have yyw8_c : w.heap.size < w8.heap.size + 1 + 1 := (by omega); (try have sw8_0 : R1.heap.size < w8.heap.size := (by first | omega | (have hz := hb.size; (try simp at hz); omega))); (try have syw8_0 : R1.heap.size < w8.heap.size + 1 := (by omega)); (try have stw8_0 : R1.heap.size + 1 < w8.heap.size := (by first | omega | (have hz := hb.size; (try simp at hz); omega))); have sxw8_0 : R1.heap.size ≤ w8.heap.size := (by first | omega | (have hz := hb.size; (try simp at hz); omega)); (try have sw8_w1 : w1.heap.size < w8.heap.size := (by first | omega | (have hz := hb.size; (try simp at hz); omega))); (try have syw8_w1 : w1.heap.size < w8.heap.size + 1 := (by omega)); (try have stw8_w1 : w1.heap.size + 1 < w8.heap.size := (by first | omega | (have hz := hb.size; (try simp at hz); omega))); have sxw8_w1 : w1.heap.size ≤ w8.heap.size := (by first | omega | (have hz := hb.size; (try simp at hz); omega)); (try have sw8_w2 : w2.heap.size < w8.heap.size := (by first | omega | (have hz := hb.size; (try simp at hz); omega))); (try have syw8_w2 : w2.heap.size < w8.heap.size + 1 := (by omega)); (try have stw8_w2 : w2.heap.size + 1 < w8.heap.size := (by first | omega | (have hz := hb.size; (try simp at hz); omega))); have sxw8_w2 : w2.heap.size ≤ w8.heap.size := (by first | omega | (have hz := hb.size; (try simp at hz); omega)); (try have sw8_w3 : w3.heap.size < w8.heap.size := (by first | omega | (have hz := hb.size; (try simp at hz); omega))); (try have syw8_w3 : w3.heap.size < w8.heap.size + 1 := (by omega)); (try have stw8_w3 : w3.heap.size + 1 < w8.heap.size := (by first | omega | (have hz := hb.size; (try simp at hz); omega))); have sxw8_w3 : w3.heap.size ≤ w8.heap.size := (by first | omega | (have hz := hb.size; (try simp at hz); omega)); (try have sw8_w4 : w4.heap.size < w8.heap.size := (by first | omega | (have hz := hb.size; (try simp at hz); omega))); (try have syw8_w4 : w4.heap.size < w8.heap.size + 1 := (by omega)); (try have stw8_w4 : w4.heap.size + 1 < w8.heap.size := (by first | omega | (have hz := hb.size; (try simp at hz); omega))); have sxw8_w4 : w4.heap.size ≤ w8.heap.size := (by first | omega | (have hz := hb.size; (try simp at hz); omega)); (try have sw8_w5 : w5.heap.size < w8.heap.size := (by first | omega | (have hz := hb.size; (try simp at hz); omega))); (try have syw8_w5 : w5.heap.size < w8.heap.size + 1 := (by omega)); (try have stw8_w5 : w5.heap.size + 1 < w8.heap.size := (by first | omega | (have hz := hb.size; (try simp at hz); omega))); have sxw8_w5 : w5.heap.size ≤ w8.heap.size := (by first | omega | (have hz := hb.size; (try simp at hz); omega)); (try have sw8_w6 : w6.heap.size < w8.heap.size := (by first | omega | (have hz := hb.size; (try simp at hz); omega))); (try have syw8_w6 : w6.heap.size < w8.heap.size + 1 := (by omega)); (try have stw8_w6 : w6.heap.size + 1 < w8.heap.size := (by first | omega | (have hz := hb.size; (try simp at hz); omega))); have sxw8_w6 : w6.heap.size ≤ w8.heap.size := (by first | omega | (have hz := hb.size; (try simp at hz); omega)); (try have sw8_w7 : w7.heap.size < w8.heap.size := (by first | omega | (have hz := hb.size; (try simp at hz); omega))); (try have syw8_w7 : w7.heap.size < w8.heap.size + 1 := (by omega)); (try have stw8_w7 : w7.heap.size + 1 < w8.heap.size := (by first | omega | (have hz := hb.size; (try simp at hz); omega))); have sxw8_w7 : w7.heap.size ≤ w8.heap.size := (by first | omega | (have hz := hb.size; (try simp at hz); omega)); have HBw8 : Hid (Below R1.heap.size R1 w8) := (bl_trans (by repeat (first | with_reducible exact Below.refl _ _ | with_reducible exact Hid.out (by assumption) | with_reducible refine Below.setCell ?_ (by first | (simp; done) | omega | (simp <;> omega)) _ | with_reducible refine bl_al ?_ _ | with_reducible apply Below.drew)) hb); clear hb; clear K8))
        all_goals (rename_i hHeld; clear hHeld; go_wp2_with fail; go_meet; exact ⟨_, rfl, (by first | omega | (simp <;> omega)), (by repeat (first | with_reducible exact Below.refl _ _ | with_reducible exact Hid.out (by assumption) | with_reducible refine Below.setCell ?_ (by first | (simp; done) | omega | (simp <;> omega)) _ | with_reducible refine bl_al ?_ _ | with_reducible apply Below.drew)), Has.mk4 (by first | (simp <;> omega) | omega) (by simp [go_sem, *]) (by simp [go_sem, *]) (by simp [go_sem, *]) (by simp [go_sem, *])⟩)
      case rest =>
      obtain ⟨X1, hX1⟩ : ∃ X, X = wc := ⟨wc, rfl⟩
      subst hX1
      obtain ⟨bX1v, rfl, m_bX1v, hX, g_v⟩ := hcut
      have zX1_c : w.heap.size < X1.heap.size := Nat.lt_of_lt_of_le zR1_c hX.size
      have cX1_c_0 : X1.cell? ⟨w.heap.size, 0, none⟩ = some (.int .i64 (fh c)) := by rw [(bcell hX).1 _ _ zR1_c]; exact cR1_c_0
      have cX1_c_1 : X1.cell? ⟨w.heap.size, 1, none⟩ = some (.int .u64 (fl c)) := by rw [(bcell hX).1 _ _ zR1_c]; exact cR1_c_1
      have fX1_c : ∀ j, X1.frozen? ⟨w.heap.size, j, none⟩ = false := fun j => by rw [(bcell hX).2 _ _ zR1_c]; exact fR1_c j
      have zX1_v := g_v.1; have cX1_v_0 := g_v.2 0 _ rfl; have cX1_v_1 := g_v.2 1 _ rfl; have cX1_v_2 := g_v.2 2 _ rfl; have cX1_v_3 := g_v.2 3 _ rfl; clear g_v
      have nebX1v_c : ¬ (bX1v = w.heap.size) := by omega
      have ndbX1v_c : ¬ (w.heap.size = bX1v) := by omega
      have HBX1 : Hid (Below w.heap.size w X1) := bl_trans HBR1.out hX
      have HOX := Lib.hid (own_step HOR.out hX)
      have hnv : ∀ q, u1.ownBlock = some q → q ≠ bX1v := fun q hq => by have := (HOR.out.lt q hq).2; omega
      clear hX HOR
      clear zR1_c yR1_c yyR1_c cR1_c_0 cR1_c_1 fR1_c HBR1 m_bX1v
      go_wp2_with (first
        | (at_builtin; refine wpList_append_own_at _ rfl _ _ 38 rfl (w.heap.size + 1) 26 i0 _ 4 32 Try.underlying38 hi hz0 hz1 hz2 rfl (by decide) _ _ _ rfl (HOX.out.alloc _) ⟨X1.heap.size, 0, none⟩ 1 1 [.int .i64 (fh x), .int .u64 (fl x), .int .i64 (fh y), .int .u64 (fl y)] rfl rfl ?c1 ?c2 ?c3 ?c4 ?c5 ?_)
        | fail)
      case c1 => exact new4 X1 _ _ _ _ _
      case c2 => intro u hu; simp at hu; rcases hu with rfl | rfl | rfl | rfl <;> rfl
      case c3 => unfold maxLen; omega
      case c4 => omega
      case c5 => have := HBX1.out.size; simp; omega
      intro v2 wz hown2 hgrow _ hown3
      have HOz : Hid (wz.ownsRow (w.heap.size + 1) 26 4 v2 (i + 1) (dirs (i + 1))) := by show World.ownsRow _ _ _ _ _ _ _; rw [EX2.out]; exact hown2
      have hnb : ∀ b, b < X1.heap.size → (∀ q, u1.ownBlock = some q → q ≠ b) → (wz.heap[b]? = X1.heap[b]?) := fun b hb hq => by
        rw [hgrow.block b (by simp; omega) (fun e => hq b e.symm rfl)]; exact Below.heap_alloc _ _ _ hb
      have hlt2 := HOX.out.lt
      have bc := hnb w.heap.size zX1_c (fun q hq => by have := (hlt2 q hq).1; omega)
      have bv := hnb bX1v zX1_v hnv
      have p0 : wz.cell? ⟨bX1v, 0, none⟩ = some (.int .i64 (fh x)) := (World.cell?_of_block bv).trans cX1_v_0
      have p1 : wz.cell? ⟨bX1v, 1, none⟩ = some (.int .u64 (fl x)) := (World.cell?_of_block bv).trans cX1_v_1
      have p2 : wz.cell? ⟨w.heap.size, 0, none⟩ = some (.int .i64 (fh c)) := (World.cell?_of_block bc).trans cX1_c_0
      have p3 : wz.cell? ⟨w.heap.size, 1, none⟩ = some (.int .u64 (fl c)) := (World.cell?_of_block bc).trans cX1_c_1
      have p4 : ∀ j, wz.frozen? ⟨w.heap.size, j, none⟩ = false := fun j => (World.frozen?_of_block bc).trans (fX1_c j)
      have HBz : Hid (Below w.heap.size w wz) := (bl_al HBX1.out _).grown hgrow (by have := HBX1.out.size; simp; omega) (fun q hq => by have := (hlt2 q hq).1; omega)
      have zz : w.heap.size < wz.heap.size := Nat.lt_of_lt_of_le (by simp; omega) hgrow.size
      clear hown2 hown3 hgrow hlt2 bc bv hnb hnv
      go_wp2_with fail
      go_roundg k
      case measure => omega
      case rel =>
        refine ⟨i + 1, by omega, by first | rfl | simp, ?_⟩
        rw [EX3.out]
        refine ⟨Has.mk2 (by simp; omega) (by simp [go_sem, *]) (by simp [go_sem, *]), fun j => ?_, ?_, ?_⟩
        · simp [*]
        · exact ownsRow_setCell_below (ownsRow_setCell_below HOz.out (by simp) _) (by simp) _
        · exact Below.setCell (Below.setCell HBz.out (by simp) _) (by simp) _
end Go.Proofs.Ytmelipbanbihdaa
namespace Go.Proofs.Ytmelipbanbihdaa
open Go.RowKit
set_option maxRecDepth 20000 in
set_option maxHeartbeats 60000000 in
theorem of_core (ph pl rxh rxl ryh ryl xe a : Int)  (w : World)
    (C1 : ∀ W, Calls Try.prog 30 #[.int .i64 1] W fun e w' => e = .returned (.agg #[.int .i64 ph, .int .u64 pl]) ∧ Below W.heap.size W w')
    (C2 : ∀ W, Calls Try.prog 12 #[.agg #[.int .i64 ph, .int .u64 pl, .int .i64 0, .int .u64 0], .int .i64 a] W fun e w' => e = .returned (.tuple #[.agg #[.int .i64 rxh, .int .u64 rxl, .int .i64 ryh, .int .u64 ryl], .int .i64 xe]) ∧ Below W.heap.size W w') :
    Calls Try.prog 9 #[.int .i64 a] w fun e w' => e = .returned (.agg #[.int .i64 rxh, .int .u64 rxl, .int .i64 ryh, .int .u64 ryl]) ∧ Below w.heap.size w w' := by
  have K1 := Lib.hid C1; have K2 := Lib.hid C2
  clear C1 C2
  go_enter Try.func9, Try.ntmps9
  go_wp2_with fail
  (with_reducible refine (K1.out _).mono ?_); rintro e w1 ⟨rfl, hb⟩
  obtain ⟨hcl, hfr⟩ := bcell hb
  have zw1_r : w.heap.size < w1.heap.size := by have hz := hb.size; (try simp at hz); omega
  have cw1_r_0 : w1.cell? ⟨w.heap.size, 0, none⟩ = some (.int .i64 0) := by rw [hcl _ _ (by first | omega | (simp; done) | (simp; omega))]; simp [go_sem, *]
  have cw1_r_1 : w1.cell? ⟨w.heap.size, 1, none⟩ = some (.int .u64 0) := by rw [hcl _ _ (by first | omega | (simp; done) | (simp; omega))]; simp [go_sem, *]
  have cw1_r_2 : w1.cell? ⟨w.heap.size, 2, none⟩ = some (.int .i64 0) := by rw [hcl _ _ (by first | omega | (simp; done) | (simp; omega))]; simp [go_sem, *]
  have cw1_r_3 : w1.cell? ⟨w.heap.size, 3, none⟩ = some (.int .u64 0) := by rw [hcl _ _ (by first | omega | (simp; done) | (simp; omega))]; simp [go_sem, *]
  have fw1_r : ∀ j, w1.frozen? ⟨w.heap.size, j, none⟩ = false := fun j => by rw [hfr _ _ (by first | omega | (simp; done) | (simp; omega))]; first | (simp [go_sem, *]; done) | (simp only [frozen?_alloc_cells]; simp [World.frozen?, *]; done) | (simp [frozen?_alloc_cells, World.frozen?, *]; done)
  have HBw1 : Hid (Below w.heap.size w w1) := bl_trans (by repeat (first | with_reducible exact Below.refl _ _ | with_reducible exact Hid.out (by assumption) | with_reducible refine Below.setCell ?_ (by first | (simp; done) | omega | (simp <;> omega)) _ | with_reducible refine bl_al ?_ _ | with_reducible apply Below.drew)) hb
  clear hb hcl hfr
  go_wp2_with fail
  (with_reducible refine (K2.out _).mono ?_); rintro e w2 ⟨rfl, hb⟩
  obtain ⟨hcl, hfr⟩ := bcell hb
  have zw2_r : w.heap.size < w2.heap.size := by have hz := hb.size; (try simp at hz); omega
  have cw2_r_0 : w2.cell? ⟨w.heap.size, 0, none⟩ = some (.int .i64 0) := by rw [hcl _ _ (by first | omega | (simp; done) | (simp; omega))]; simp [go_sem, *]
  have cw2_r_1 : w2.cell? ⟨w.heap.size, 1, none⟩ = some (.int .u64 0) := by rw [hcl _ _ (by first | omega | (simp; done) | (simp; omega))]; simp [go_sem, *]
  have cw2_r_2 : w2.cell? ⟨w.heap.size, 2, none⟩ = some (.int .i64 0) := by rw [hcl _ _ (by first | omega | (simp; done) | (simp; omega))]; simp [go_sem, *]
  have cw2_r_3 : w2.cell? ⟨w.heap.size, 3, none⟩ = some (.int .u64 0) := by rw [hcl _ _ (by first | omega | (simp; done) | (simp; omega))]; simp [go_sem, *]
  have fw2_r : ∀ j, w2.frozen? ⟨w.heap.size, j, none⟩ = false := fun j => by rw [hfr _ _ (by first | omega | (simp; done) | (simp; omega))]; first | (simp [go_sem, *]; done) | (simp only [frozen?_alloc_cells]; simp [World.frozen?, *]; done) | (simp [frozen?_alloc_cells, World.frozen?, *]; done)
  have HBw2 : Hid (Below w.heap.size w w2) := bl_trans (by repeat (first | with_reducible exact Below.refl _ _ | with_reducible exact Hid.out (by assumption) | with_reducible refine Below.setCell ?_ (by first | (simp; done) | omega | (simp <;> omega)) _ | with_reducible refine bl_al ?_ _ | with_reducible apply Below.drew)) hb
  clear hb hcl hfr
  go_wp2_with fail
  refine bodyPost_ret (by simp [results, Try.results9, go_sem, *]; try rfl) rfl ?_
  exact ⟨rfl, by repeat (first | with_reducible exact Below.refl _ _ | with_reducible exact Hid.out (by assumption) | with_reducible refine Below.setCell ?_ (by first | (simp; done) | omega | (simp <;> omega)) _ | with_reducible refine bl_al ?_ _ | with_reducible apply Below.drew)⟩
theorem field_way (x0 x1 x2 x3 x4 : Value) (w : World) : (Instr.field 34 (.agg #[x0, x1, x2, x3, x4]) 0).run Try.prog w = .ok (.agg #[x0, x1, x2, x3]) w := by kernel_rfl
set_option maxRecDepth 20000 in
set_option maxHeartbeats 60000000 in
theorem ofangle_core (ph pl rxh rxl ryh ryl xe a : Int)  (w : World)
    (C1 : ∀ W, Calls Try.prog 22 #[.int .i64 1] W fun e w' => e = .returned (.agg #[.int .i64 ph, .int .u64 pl]) ∧ Below W.heap.size W w')
    (C2 : ∀ W, Calls Try.prog 13 #[.agg #[.int .i64 ph, .int .u64 pl, .int .i64 0, .int .u64 0], .int .i64 a] W fun e w' => e = .returned (.agg #[.int .i64 rxh, .int .u64 rxl, .int .i64 ryh, .int .u64 ryl, .int .i64 xe]) ∧ Below W.heap.size W w') :
    Calls Try.prog 10 #[.int .i64 a] w fun e w' => e = .returned (.agg #[.int .i64 rxh, .int .u64 rxl, .int .i64 ryh, .int .u64 ryl]) ∧ Below w.heap.size w w' := by
  have K1 := Lib.hid C1; have K2 := Lib.hid C2
  clear C1 C2
  have hfw := field_way
  go_enter Try.func10, Try.ntmps10
  go_wp2_with fail
  (with_reducible refine (K1.out _).mono ?_); rintro e w1 ⟨rfl, hb⟩
  obtain ⟨hcl, hfr⟩ := bcell hb
  have zw1_r : w.heap.size < w1.heap.size := by have hz := hb.size; (try simp at hz); omega
  have cw1_r_0 : w1.cell? ⟨w.heap.size, 0, none⟩ = some (.int .i64 0) := by rw [hcl _ _ (by first | omega | (simp; done) | (simp; omega))]; simp [go_sem, *]
  have cw1_r_1 : w1.cell? ⟨w.heap.size, 1, none⟩ = some (.int .u64 0) := by rw [hcl _ _ (by first | omega | (simp; done) | (simp; omega))]; simp [go_sem, *]
  have cw1_r_2 : w1.cell? ⟨w.heap.size, 2, none⟩ = some (.int .i64 0) := by rw [hcl _ _ (by first | omega | (simp; done) | (simp; omega))]; simp [go_sem, *]
  have cw1_r_3 : w1.cell? ⟨w.heap.size, 3, none⟩ = some (.int .u64 0) := by rw [hcl _ _ (by first | omega | (simp; done) | (simp; omega))]; simp [go_sem, *]
  have fw1_r : ∀ j, w1.frozen? ⟨w.heap.size, j, none⟩ = false := fun j => by rw [hfr _ _ (by first | omega | (simp; done) | (simp; omega))]; first | (simp [go_sem, *]; done) | (simp only [frozen?_alloc_cells]; simp [World.frozen?, *]; done) | (simp [frozen?_alloc_cells, World.frozen?, *]; done)
  have HBw1 : Hid (Below w.heap.size w w1) := bl_trans (by repeat (first | with_reducible exact Below.refl _ _ | with_reducible exact Hid.out (by assumption) | with_reducible refine Below.setCell ?_ (by first | (simp; done) | omega | (simp <;> omega)) _ | with_reducible refine bl_al ?_ _ | with_reducible apply Below.drew)) hb
  clear hb hcl hfr
  go_wp2_with fail
  (with_reducible refine (K2.out _).mono ?_); rintro e w2 ⟨rfl, hb⟩
  obtain ⟨hcl, hfr⟩ := bcell hb
  have zw2_r : w.heap.size < w2.heap.size := by have hz := hb.size; (try simp at hz); omega
  have cw2_r_0 : w2.cell? ⟨w.heap.size, 0, none⟩ = some (.int .i64 0) := by rw [hcl _ _ (by first | omega | (simp; done) | (simp; omega))]; simp [go_sem, *]
  have cw2_r_1 : w2.cell? ⟨w.heap.size, 1, none⟩ = some (.int .u64 0) := by rw [hcl _ _ (by first | omega | (simp; done) | (simp; omega))]; simp [go_sem, *]
  have cw2_r_2 : w2.cell? ⟨w.heap.size, 2, none⟩ = some (.int .i64 0) := by rw [hcl _ _ (by first | omega | (simp; done) | (simp; omega))]; simp [go_sem, *]
  have cw2_r_3 : w2.cell? ⟨w.heap.size, 3, none⟩ = some (.int .u64 0) := by rw [hcl _ _ (by first | omega | (simp; done) | (simp; omega))]; simp [go_sem, *]
  have fw2_r : ∀ j, w2.frozen? ⟨w.heap.size, j, none⟩ = false := fun j => by rw [hfr _ _ (by first | omega | (simp; done) | (simp; omega))]; first | (simp [go_sem, *]; done) | (simp only [frozen?_alloc_cells]; simp [World.frozen?, *]; done) | (simp [frozen?_alloc_cells, World.frozen?, *]; done)
  have HBw2 : Hid (Below w.heap.size w w2) := bl_trans (by repeat (first | with_reducible exact Below.refl _ _ | with_reducible exact Hid.out (by assumption) | with_reducible refine Below.setCell ?_ (by first | (simp; done) | omega | (simp <;> omega)) _ | with_reducible refine bl_al ?_ _ | with_reducible apply Below.drew)) hb
  clear hb hcl hfr
  go_wp2_with fail
  refine bodyPost_ret (by simp [results, Try.results10, go_sem, *]; try rfl) rfl ?_
  exact ⟨rfl, by repeat (first | with_reducible exact Below.refl _ _ | with_reducible exact Hid.out (by assumption) | with_reducible refine Below.setCell ?_ (by first | (simp; done) | omega | (simp <;> omega)) _ | with_reducible refine bl_al ?_ _ | with_reducible apply Below.drew)⟩
set_option maxRecDepth 20000 in
set_option maxHeartbeats 60000000 in
theorem rrotate_any (a x y : Int) (hx : My x) (hy : My y) (w : World) : Calls Try.prog 13 #[vec x y, .int .i64 a] w fun e w' => e = .returned (wayv (rx (ang a) x y) (ry (ang a) x y) (re (ang a) x y)) ∧ Below w.heap.size w w' := by
  have K1 := Lib.hid rtable_any
  have K2 : Hid (∀ (g cap : Nat) (W : World), Tab g W → Calls Try.prog 35 #[.slice (some ⟨g, 0, none⟩) 14 cap, .agg #[.int .i64 (fh x), .int .u64 (fl x), .int .i64 (fh y), .int .u64 (fl y)], .int .i64 a] W fun e w' => e = .returned (wayv (rx (ang a) x y) (ry (ang a) x y) (re (ang a) x y)) ∧ Below W.heap.size W w') := fun g cap W h => rby_any a x y hx hy g cap W h
  clear hx hy
  unfold vec wayv
  unfold wayv at K2
  generalize rx (ang a) x y = rx0 at *
  generalize ry (ang a) x y = ry0 at *
  generalize re (ang a) x y = re0 at *
  go_enter Try.func13, Try.ntmps13
  go_upto_region 1 with fail
  refine name_world (P := fun W => Code.wp _ _ _ _ W) _ (fun R hR => ?_)
  have zR_v : w.heap.size < R.heap.size := by rw [hR]; first | omega | (simp; done) | (simp; omega)
  have cR_v_0 : R.cell? ⟨w.heap.size, 0, none⟩ = some (.int .i64 (fh x)) := by rw [hR]; simp [go_sem, *]
  have cR_v_1 : R.cell? ⟨w.heap.size, 1, none⟩ = some (.int .u64 (fl x)) := by rw [hR]; simp [go_sem, *]
  have cR_v_2 : R.cell? ⟨w.heap.size, 2, none⟩ = some (.int .i64 (fh y)) := by rw [hR]; simp [go_sem, *]
  have cR_v_3 : R.cell? ⟨w.heap.size, 3, none⟩ = some (.int .u64 (fl y)) := by rw [hR]; simp [go_sem, *]
  have zR_r : w.heap.size + 1 < R.heap.size := by rw [hR]; first | omega | (simp; done) | (simp; omega)
  have cR_r_0 : R.cell? ⟨w.heap.size + 1, 0, none⟩ = some (.int .i64 0) := by rw [hR]; simp [go_sem, *]
  have cR_r_1 : R.cell? ⟨w.heap.size + 1, 1, none⟩ = some (.int .u64 0) := by rw [hR]; simp [go_sem, *]
  have cR_r_2 : R.cell? ⟨w.heap.size + 1, 2, none⟩ = some (.int .i64 0) := by rw [hR]; simp [go_sem, *]
  have cR_r_3 : R.cell? ⟨w.heap.size + 1, 3, none⟩ = some (.int .u64 0) := by rw [hR]; simp [go_sem, *]
  have cR_r_4 : R.cell? ⟨w.heap.size + 1, 4, none⟩ = some (.int .i64 0) := by rw [hR]; simp [go_sem, *]
  have fR_r : ∀ j, R.frozen? ⟨w.heap.size + 1, j, none⟩ = false := fun j => by rw [hR]; simp only [frozen?_alloc_cells]; exact frz_past (by omega)
  have HBR : Hid (Below w.heap.size w R) := by rw [hR]; show Below _ _ _; exact (by repeat (first | with_reducible exact Below.refl _ _ | with_reducible exact Hid.out (by assumption) | with_reducible refine Below.setCell ?_ (by first | (simp; done) | omega | (simp <;> omega)) _ | with_reducible refine bl_al ?_ _ | with_reducible apply Below.drew))
  clear hR
  go_region_held3 (fun w' => w'.cell? ⟨w.heap.size, 0, none⟩ = some (.int .i64 (fh x)) ∧ w'.cell? ⟨w.heap.size, 1, none⟩ = some (.int .u64 (fl x)) ∧ w'.cell? ⟨w.heap.size, 2, none⟩ = some (.int .i64 (fh y)) ∧ w'.cell? ⟨w.heap.size, 3, none⟩ = some (.int .u64 (fl y))) (first | (simp [*, go_sem]; done))
    (first
      | (go_at_call 17; (with_reducible refine (K1.out _).mono ?_); rintro e w1 ⟨g, cap, rfl, ht, hlo, hb⟩; obtain ⟨hclw1, hfrw1⟩ := bcell_drew hb; have zw1_v : w.heap.size < w1.heap.size := (by have hz := hb.size; (try simp at hz); omega); have zw1_r : w.heap.size + 1 < w1.heap.size := (by have hz := hb.size; (try simp at hz); omega); have HBw1 : Hid (Below w.heap.size w w1) := (bl_trans (by repeat (first | with_reducible exact Below.refl _ _ | with_reducible exact Hid.out (by assumption) | with_reducible refine Below.setCell ?_ (by first | (simp; done) | omega | (simp <;> omega)) _ | with_reducible refine bl_al ?_ _ | with_reducible apply Below.drew)) hb); have HTb := Lib.hid ht; clear hb ht hlo)
      | (go_at_call 35; (with_reducible refine (K2.out _ _ _ HTb.out).mono ?_); rintro e w2 ⟨rfl, hb⟩; obtain ⟨hclw2, hfrw2⟩ := bcell hb; have zw2_v : w.heap.size < w2.heap.size := (by have hz := hb.size; (try simp at hz); omega); have zw2_r : w.heap.size + 1 < w2.heap.size := (by have hz := hb.size; (try simp at hz); omega); have HBw2 : Hid (Below w.heap.size w w2) := (bl_trans (by repeat (first | with_reducible exact Below.refl _ _ | with_reducible exact Hid.out (by assumption) | with_reducible refine Below.setCell ?_ (by first | (simp; done) | omega | (simp <;> omega)) _ | with_reducible refine bl_al ?_ _ | with_reducible apply Below.drew)) hb); clear hb))
  rename_i hHeld
  clear hHeld
  go_wp2_with fail
  refine bodyPost_ret (by simp [results, Try.results13, go_sem, *]; try rfl) rfl ?_
  exact ⟨rfl, by repeat (first | with_reducible exact Below.refl _ _ | with_reducible exact Hid.out (by assumption) | with_reducible refine Below.setCell ?_ (by first | (simp; done) | omega | (simp <;> omega)) _ | with_reducible refine bl_al ?_ _ | with_reducible apply Below.drew)⟩
set_option maxRecDepth 20000 in
set_option maxHeartbeats 60000000 in
theorem same_core (g cap h cap2 : Nat) (w : World) (C0 C1 C2 C3 : Nat → Int) (hg : g < w.heap.size) (hh : h < w.heap.size)
    (hG : ∀ i, i < 14 → w.cell? ⟨g, i * 4, none⟩ = some (.int .i64 (C0 i)) ∧ w.cell? ⟨g, i * 4 + 1, none⟩ = some (.int .u64 (C1 i)) ∧ w.cell? ⟨g, i * 4 + 2, none⟩ = some (.int .i64 (C2 i)) ∧ w.cell? ⟨g, i * 4 + 3, none⟩ = some (.int .u64 (C3 i)))
    (hH : ∀ i, i < 14 → w.cell? ⟨h, i * 4, none⟩ = some (.int .i64 (C0 i)) ∧ w.cell? ⟨h, i * 4 + 1, none⟩ = some (.int .u64 (C1 i)) ∧ w.cell? ⟨h, i * 4 + 2, none⟩ = some (.int .i64 (C2 i)) ∧ w.cell? ⟨h, i * 4 + 3, none⟩ = some (.int .u64 (C3 i))) :
    Calls Try.prog 15 #[.slice (some ⟨g, 0, none⟩) 14 cap, .slice (some ⟨h, 0, none⟩) 14 cap2] w fun e w' => e = .returned (.bool true) ∧ Below w.heap.size w w' := by
  have HG := Lib.hid hG; have HH := Lib.hid hH
  clear hG hH
  go_enter Try.func15, Try.ntmps15
  go_wp2_with fail
  go_loopg [5] 14 (fun k iv wr => ∃ i : Nat, i + k = 14 ∧ iv = .int .i64 (i : Int) ∧ Below w.heap.size w wr)
  case atStart => exact ⟨0, rfl, rfl, Below.refl _ _⟩
  case round =>
    obtain ⟨i, hk, rfl, hbl⟩ := hrel
    have HB := Lib.hid hbl
    clear hbl
    rcases gk with _ | k
    · obtain rfl : i = 14 := by omega
      clear HG HH
      go_wp2_with fail
      go_returns
      exact ⟨rfl, HB.out⟩
    · have hlt : ((i : Nat) : Int) < 14 := by omega
      have h0 : (0 : Int) ≤ (i : Int) := by omega
      have wi : IntKind.i64.wrap ((i : Int) + 1) = (i : Int) + 1 := IntWalk.i64_in _ (by omega)
      obtain ⟨a0, a1, a2, a3⟩ := HG.out i (by omega)
      obtain ⟨b0, b1, b2, b3⟩ := HH.out i (by omega)
      have hne := ne_vec_false
      have cv := cells_vec
      have qg : g < wr.heap.size := Nat.lt_of_lt_of_le hg HB.out.size
      have qh : h < wr.heap.size := Nat.lt_of_lt_of_le hh HB.out.size
      rw [← (bcell HB.out).1 _ _ hg] at a0 a1 a2 a3
      rw [← (bcell HB.out).1 _ _ hh] at b0 b1 b2 b3
      have HK : Hid (i + 1 + k = 14) := by show _ = _; omega
      clear hk
      generalize C0 i = u0 at *
      generalize C1 i = u1 at *
      generalize C2 i = u2 at *
      generalize C3 i = u3 at *
      go_upto_region 6 with fail
      go_region_held3 (fun w' => w'.cell? ⟨g, i * 4, none⟩ = some (.int .i64 u0) ∧ w'.cell? ⟨g, i * 4 + 1, none⟩ = some (.int .u64 u1) ∧ w'.cell? ⟨g, i * 4 + 2, none⟩ = some (.int .i64 u2) ∧ w'.cell? ⟨g, i * 4 + 3, none⟩ = some (.int .u64 u3) ∧ w'.cell? ⟨h, i * 4, none⟩ = some (.int .i64 u0) ∧ w'.cell? ⟨h, i * 4 + 1, none⟩ = some (.int .u64 u1) ∧ w'.cell? ⟨h, i * 4 + 2, none⟩ = some (.int .i64 u2) ∧ w'.cell? ⟨h, i * 4 + 3, none⟩ = some (.int .u64 u3)) (first | (simp [*, go_sem]; done)) (fail)
      rename_i hHeld
      clear hHeld
      go_wp2_with fail
      go_roundg k
      case measure => omega
      case rel => exact ⟨i + 1, HK.out, by first | rfl | simp, by first | exact HB.out | exact Below.drew HB.out⟩
theorem same_any (g cap h cap2 : Nat) (w : World) (hg : Tab g w) (hh : Tab h w) : Calls Try.prog 15 #[.slice (some ⟨g, 0, none⟩) 14 cap, .slice (some ⟨h, 0, none⟩) 14 cap2] w fun e w' => e = .returned (.bool true) ∧ Below w.heap.size w w' :=
  same_core g cap h cap2 w (fun i => fh (tcos (i + 1))) (fun i => fl (tcos (i + 1))) (fun i => fh (tsin i)) (fun i => fl (tsin i)) hg.1 hh.1 hg.2 hh.2
set_option maxRecDepth 20000 in
set_option maxHeartbeats 60000000 in
theorem tawake_core (ph pl : Int)  (w : World)
    (C1 : ∀ W, Calls Try.prog 9 #[.int .i64 16384] W fun e w' => e = .returned (.agg #[.int .i64 0, .int .u64 0, .int .i64 ph, .int .u64 pl]) ∧ Below W.heap.size W w')
    (C2 : ∀ W, Calls Try.prog 22 #[.int .i64 1] W fun e w' => e = .returned (.agg #[.int .i64 ph, .int .u64 pl]) ∧ Below W.heap.size W w')
    (C3 : ∀ W, Calls Try.prog 9 #[.int .i64 0] W fun e w' => e = .returned (.agg #[.int .i64 ph, .int .u64 pl, .int .i64 0, .int .u64 0]) ∧ Below W.heap.size W w') :
    Calls Try.prog 11 #[] w fun e w' => e = .returned (.bool true) ∧ Below w.heap.size w w' := by
  have K1 := Lib.hid C1; have K2 := Lib.hid C2; have K3 := Lib.hid C3
  clear C1 C2 C3
  have qe := eq_vec_true 0 0 ph pl
  have qf := eq_vec_true ph pl 0 0
  go_enter Try.func11, Try.ntmps11
  go_wp2_with fail
  (with_reducible refine (K1.out _).mono ?_); rintro e w1 ⟨rfl, hb⟩; obtain ⟨hclw1, hfrw1⟩ := bcell hb; have sxw1_0 : w.heap.size ≤ w1.heap.size := (by first | omega | (have hz := hb.size; (try simp at hz); omega)); have HBw1 : Hid (Below w.heap.size w w1) := (bl_trans (by repeat (first | with_reducible exact Below.refl _ _ | with_reducible exact Hid.out (by assumption) | with_reducible refine Below.setCell ?_ (by first | (simp; done) | omega | (simp <;> omega)) _ | with_reducible refine bl_al ?_ _ | with_reducible apply Below.drew)) hb); clear hb
  go_wp2_with fail
  (with_reducible refine (K2.out _).mono ?_); rintro e w2 ⟨rfl, hb⟩; obtain ⟨hclw2, hfrw2⟩ := bcell hb; have sxw2_0 : w1.heap.size ≤ w2.heap.size := (by first | omega | (have hz := hb.size; (try simp at hz); omega)); have HBw2 : Hid (Below w.heap.size w w2) := (bl_trans (by repeat (first | with_reducible exact Below.refl _ _ | with_reducible exact Hid.out (by assumption) | with_reducible refine Below.setCell ?_ (by first | (simp; done) | omega | (simp <;> omega)) _ | with_reducible refine bl_al ?_ _ | with_reducible apply Below.drew)) hb); clear hb
  go_wp2_with fail
  (with_reducible refine (K3.out _).mono ?_); rintro e w3 ⟨rfl, hb⟩; obtain ⟨hclw3, hfrw3⟩ := bcell hb; have sxw3_0 : w2.heap.size ≤ w3.heap.size := (by first | omega | (have hz := hb.size; (try simp at hz); omega)); have HBw3 : Hid (Below w.heap.size w w3) := (bl_trans (by repeat (first | with_reducible exact Below.refl _ _ | with_reducible exact Hid.out (by assumption) | with_reducible refine Below.setCell ?_ (by first | (simp; done) | omega | (simp <;> omega)) _ | with_reducible refine bl_al ?_ _ | with_reducible apply Below.drew)) hb); clear hb
  go_wp2_with fail
  (with_reducible refine (K2.out _).mono ?_); rintro e w4 ⟨rfl, hb⟩; obtain ⟨hclw4, hfrw4⟩ := bcell hb; have sxw4_0 : w3.heap.size ≤ w4.heap.size := (by first | omega | (have hz := hb.size; (try simp at hz); omega)); have HBw4 : Hid (Below w.heap.size w w4) := (bl_trans (by repeat (first | with_reducible exact Below.refl _ _ | with_reducible exact Hid.out (by assumption) | with_reducible refine Below.setCell ?_ (by first | (simp; done) | omega | (simp <;> omega)) _ | with_reducible refine bl_al ?_ _ | with_reducible apply Below.drew)) hb); clear hb
  go_wp2_with fail
  go_returns
  exact ⟨rfl, by repeat (first | with_reducible exact Below.refl _ _ | with_reducible exact Hid.out (by assumption) | with_reducible refine Below.setCell ?_ (by first | (simp; done) | omega | (simp <;> omega)) _ | with_reducible refine bl_al ?_ _ | with_reducible apply Below.drew)⟩
theorem of_any (a : Int) (w : World) : Calls Try.prog 9 #[.int .i64 a] w fun e w' => e = .returned (vec (rx (ang a) 18446744073709551616 0) (ry (ang a) 18446744073709551616 0)) ∧ Below w.heap.size w w' := by
  have i1 := int_any 1
  rw [show intr 1 = 18446744073709551616 by decide] at i1
  have h := rotate_any a 18446744073709551616 0 (by unfold My; omega) (by unfold My; omega)
  have e : vec 18446744073709551616 0 = .agg #[.int .i64 (fh 18446744073709551616), .int .u64 (fl 18446744073709551616), .int .i64 0, .int .u64 0] := by unfold vec; rw [zero_words.1, zero_words.2]
  rw [e] at h
  exact of_core _ _ _ _ _ _ _ _ w i1 h
theorem rofangle_any (a : Int) (w : World) : Calls Try.prog 10 #[.int .i64 a] w fun e w' => e = .returned (vec (rx (ang a) 18446744073709551616 0) (ry (ang a) 18446744073709551616 0)) ∧ Below w.heap.size w w' := by
  have i1 := rint_any 1
  rw [show intr 1 = 18446744073709551616 by decide] at i1
  have h := rrotate_any a 18446744073709551616 0 (by unfold My; omega) (by unfold My; omega)
  have e : vec 18446744073709551616 0 = .agg #[.int .i64 (fh 18446744073709551616), .int .u64 (fl 18446744073709551616), .int .i64 0, .int .u64 0] := by unfold vec; rw [zero_words.1, zero_words.2]
  rw [e] at h
  exact ofangle_core _ _ _ _ _ _ _ _ w i1 h
theorem r_whole {A : Nat} (h : A % 16384 = 0) (x y : Int) : rx A x y = (qt (A / 16384) x y).1 ∧ ry A x y = (qt (A / 16384) x y).2 ∧ re A x y = 0 := by
  unfold rx ry re
  rw [rot_done A 14 0 x y (by simp only [Nat.reducePow]; exact h)]
  exact ⟨rfl, rfl, rfl⟩
theorem tawake_any (w : World) : Calls Try.prog 11 #[] w fun e w' => e = .returned (.bool true) ∧ Below w.heap.size w w' := by
  have i1 := rint_any 1
  rw [show intr 1 = 18446744073709551616 by decide] at i1
  have h1 := of_any 16384
  have h0 := of_any 0
  obtain ⟨a1, a2, _⟩ := r_whole (A := ang 16384) (by decide) 18446744073709551616 0
  obtain ⟨b1, b2, _⟩ := r_whole (A := ang 0) (by decide) 18446744073709551616 0
  rw [show ang 16384 / 16384 = 1 by decide] at a1 a2
  rw [show ang 0 / 16384 = 0 by decide] at b1 b2
  rw [a1, a2] at h1
  rw [b1, b2] at h0
  unfold vec at h1 h0
  rw [show (qt 1 18446744073709551616 0).1 = 0 by decide, show (qt 1 18446744073709551616 0).2 = 18446744073709551616 by decide, zero_words.1, zero_words.2] at h1
  rw [show (qt 0 18446744073709551616 0).1 = 18446744073709551616 by decide, show (qt 0 18446744073709551616 0).2 = 0 by decide, zero_words.1, zero_words.2] at h0
  exact tawake_core _ _ w h1 i1 h0
end Go.Proofs.Ytmelipbanbihdaa
