/- A whole number's text; one turned about: the walk. -/
import Derived.Test.YtgiamnehncbihaaRefuses
import Derived.Test.YtgiamnehncbihaaRefFix2
namespace Go.Proofs.Ytgiamnehncbihaa
open Go.RowKit
theorem hexB_get (N : Nat) : ∀ c i j, i + j + 1 = c → (hexB N c)[i]? = some (hexb (N / 16 ^ j % 16)) := by
  intro c
  induction c with
  | zero => intro i j h; omega
  | succ c ih =>
    intro i j h
    rcases i with _ | i
    · have e : c = j := by omega
      subst e; rfl
    · show (hexB N c)[i]? = _
      exact ih i j (by omega)
theorem get_app (l r : List UInt8) (b : UInt8) (i : Nat) (h : l[i]? = some b) : (l ++ r)[i]? = some b := by
  rw [List.getElem?_append_left (by
    rcases Nat.lt_or_ge i l.length with g | g
    · exact g
    · rw [List.getElem?_eq_none g] at h; cases h)]; exact h
theorem next_div (N j : Nat) : N / 16 ^ (j + 1) * 16 + N / 16 ^ j % 16 = N / 16 ^ j := by
  rw [Nat.pow_succ, ← Nat.div_div_eq_div_mul]; omega
set_option maxRecDepth 20000 in
set_option maxHeartbeats 8000000 in
theorem whole_core (h l nh nl : Int) (N n c : Nat) (b : Bool) (S SU SV : ByteArray) (M : Value) (hn : S.size = n) (nc : n = c + 17) (c0 : 0 < c) (n1 : n ≤ 100) (hN : N < 4294967296) (hc : N < 16 ^ c) (hT : ∀ i j : Nat, i + j + 1 = c → ∀ W : World, (Instr.index 9 (.string S) (.int .i64 (i : Int))).run Try.prog W = .ok (.int .u8 (((hexb (N / 16 ^ j % 16)).toNat : Nat) : Int)) W)
    (cs : b = false ∨ b = true ∧ h < 0 ∨ b = true ∧ h = 0 ∧ l = 0 ∨ b = true ∧ ¬ h < 0 ∧ ¬ (h = 0 ∧ l = 0) ∧ (∀ W, Calls Try.prog 18 #[.agg #[.int .i64 h, .int .u64 l]] W fun e w' => e = .returned (.agg #[.int .i64 nh, .int .u64 nl]) ∧ Below W.heap.size W w') ∧ (∀ W, Calls Try.prog 15 #[.agg #[.int .i64 nh, .int .u64 nl]] W fun e w' => e = .returned (.string SV) ∧ Below W.heap.size W w') ∧ (∀ W, Calls Try.prog 15 #[.agg #[.int .i64 h, .int .u64 l]] W fun e w' => e = .returned (.string SU) ∧ Below W.heap.size W w')) (w : World) (hm : w.cell? ⟨0, 0, none⟩ = some M)
    (H1 : ∀ W : World, (Instr.slice 9 (.string S) (some (.int .i64 ((n : Int) - 17))) none none).run Try.prog W = .ok (.string ⟨#[46, 48, 48, 48, 48, 48, 48, 48, 48, 48, 48, 48, 48, 48, 48, 48, 48]⟩) W) (H2 : ∀ W : World, (Op.stringOp .add ⟨#[45]⟩ SU).run Try.prog W = .ok (.string SV) W)
    (C1 : ∀ W, Calls Try.prog 15 #[.agg #[.int .i64 (N : Int), .int .u64 0]] W fun e w' => e = .returned (.string S) ∧ Below W.heap.size W w')
    (C2 : ∀ W, Calls Try.prog 17 #[.agg #[.int .i64 h, .int .u64 l]] W fun e w' => e = .returned (.bool b) ∧ Below W.heap.size W w')
    (C7 : ∀ W : World, W.cell? ⟨0, 0, none⟩ = some M → Calls Try.prog 12 #[] W fun e w' => e = .returned (.bool true) ∧ Below W.heap.size W w') :
    Calls Try.prog 5 #[.int .u32 (N : Int), .agg #[.int .i64 h, .int .u64 l]] w fun e w' => e = .returned (.bool true) ∧ Below w.heap.size w w' := by
  have K1 := Lib.hid C1; have K2 := Lib.hid C2; have K7 := Lib.hid C7; have HM := Lib.hid hm; have HT := Lib.hid hT; have HC := Lib.hid hc; have HS := Lib.hid cs; have HH := Lib.hid H2; have HNC := Lib.hid nc
  clear C1 C2 C7 hT hc cs H2
  have zm : 0 < w.heap.size := World.block_lt_of_cell? _ _ hm
  clear hm
  have s1 : (S.size : Int) = (n : Int) := by omega
  have s2 : ¬ (n : Int) < 18 := by omega
  have w17 : IntKind.i64.wrap ((n : Int) - 17) = (n : Int) - 17 := IntWalk.i64_in _ (by omega)
  have wN : IntKind.i64.wrap (N : Int) = (N : Int) := IntWalk.i64_in _ (by omega)
  have wN2 : IntKind.u64.wrap (N : Int) = (N : Int) := IntWalk.u64_in _ (by omega)
  clear nc hn
  go_enter Try.func5, Try.ntmps5
  go_wp2_with fail
  (with_reducible refine (K1.out _).mono ?_); rintro e w1 ⟨rfl, hb⟩
  obtain ⟨hcl1, hfr1⟩ := bcell hb
  have a1 : w1.cell? ⟨w.heap.size, 0, none⟩ = some (.int .i64 h) := by rw [hcl1 _ _ (by simp)]; simp [go_sem]
  have b1 : w1.cell? ⟨w.heap.size, 1, none⟩ = some (.int .u64 l) := by rw [hcl1 _ _ (by simp)]; simp [go_sem]
  have z1 : w.heap.size < w1.heap.size := by have hz := hb.size; simp at hz; omega
  have HB1 := Lib.hid (bl_trans (bl_al (Below.refl _ _) _) hb)
  clear hb hcl1 hfr1
  go_wp2_with fail
  clear H1
  go_loopg [6, 7] c (fun g kk ii wr => ∃ i : Nat, kk = .int .u64 ((N / 16 ^ g : Nat) : Int) ∧ ii = .int .i64 (i : Int) ∧ i + g = c ∧ wr.cell? ⟨w.heap.size, 0, none⟩ = some (.int .i64 h) ∧ wr.cell? ⟨w.heap.size, 1, none⟩ = some (.int .u64 l) ∧ w.heap.size < wr.heap.size ∧ Below w.heap.size w wr)
  case atStart => exact ⟨0, by rw [Nat.div_eq_of_lt HC.out]; rfl, rfl, by omega, a1, b1, z1, HB1.out⟩
  case round =>
    obtain ⟨i, rfl, rfl, hi, aX, bX, zX, hbl⟩ := hrel
    have HBX := Lib.hid hbl
    clear hbl a1 b1 z1 HB1
    rcases gk with _ | j
    · have e0 : N / 16 ^ 0 = N := by rw [Nat.pow_zero, Nat.div_one]
      rw [e0]
      have i0 : ¬ (i : Int) < (n : Int) - 17 := by have := HNC.out; omega
      have CM := K2.out
      have cs := HS.out
      clear HT HC K1 K2 HS e0
      rcases cs with rfl | ⟨rfl, g⟩ | ⟨rfl, g1, g2⟩ | ⟨rfl, g, gz, CN, CT, CU⟩
      · clear HH
        go_wp2_with fail
        (with_reducible refine (CM _).mono ?_); rintro e Y ⟨rfl, hb⟩
        obtain ⟨hcY, hfY⟩ := bcell hb
        have aY : Y.cell? ⟨w.heap.size, 0, none⟩ = some (.int .i64 h) := by rw [hcY _ _ zX]; exact aX
        have bY : Y.cell? ⟨w.heap.size, 1, none⟩ = some (.int .u64 l) := by rw [hcY _ _ zX]; exact bX
        have zY : w.heap.size < Y.heap.size := Nat.lt_of_lt_of_le zX hb.size
        clear hcY hfY
        have HBY : Hid (Below w.heap.size w Y) := bl_trans HBX.out hb
        have my : Y.cell? ⟨0, 0, none⟩ = some M := by rw [(bcell HBY.out).1 _ _ zm]; exact HM.out
        clear hb HBX
        go_wp2_with fail
        (with_reducible refine (K7.out _ my).mono ?_); rintro e w7 ⟨rfl, hb⟩
        have HB7 := Lib.hid (bl_trans HBY.out hb)
        clear hb
        go_wp2_with fail
        go_returns
        exact ⟨rfl, HB7.out⟩
      · clear HH
        go_wp2_with fail
        (with_reducible refine (CM _).mono ?_); rintro e Y ⟨rfl, hb⟩
        obtain ⟨hcY, hfY⟩ := bcell hb
        have aY : Y.cell? ⟨w.heap.size, 0, none⟩ = some (.int .i64 h) := by rw [hcY _ _ zX]; exact aX
        have bY : Y.cell? ⟨w.heap.size, 1, none⟩ = some (.int .u64 l) := by rw [hcY _ _ zX]; exact bX
        have zY : w.heap.size < Y.heap.size := Nat.lt_of_lt_of_le zX hb.size
        clear hcY hfY
        have HBY : Hid (Below w.heap.size w Y) := bl_trans HBX.out hb
        have my : Y.cell? ⟨0, 0, none⟩ = some M := by rw [(bcell HBY.out).1 _ _ zm]; exact HM.out
        clear hb HBX
        go_wp2_with fail
        (with_reducible refine (K7.out _ my).mono ?_); rintro e w7 ⟨rfl, hb⟩
        have HB7 := Lib.hid (bl_trans HBY.out hb)
        clear hb
        go_wp2_with fail
        go_returns
        exact ⟨rfl, HB7.out⟩
      · clear HH
        have q : ∀ W, (Go.binOp .eql 24 (.agg #[.int .i64 0, .int .u64 0]) (.agg #[.int .i64 0, .int .u64 0])).run Try.prog W = .ok (.bool true) W := eq_fix_true 0 0
        have G1 := Lib.hid g1; have G2 := Lib.hid g2
        clear g1 g2
        go_wp2_with fail
        (with_reducible refine (CM _).mono ?_); rintro e Y ⟨rfl, hb⟩
        obtain ⟨hcY, hfY⟩ := bcell hb
        have aY : Y.cell? ⟨w.heap.size, 0, none⟩ = some (.int .i64 h) := by rw [hcY _ _ zX]; exact aX
        have bY : Y.cell? ⟨w.heap.size, 1, none⟩ = some (.int .u64 l) := by rw [hcY _ _ zX]; exact bX
        have zY : w.heap.size < Y.heap.size := Nat.lt_of_lt_of_le zX hb.size
        clear hcY hfY
        have g1 := G1.out; have g2 := G2.out
        have HBY : Hid (Below w.heap.size w Y) := bl_trans HBX.out hb
        have my : Y.cell? ⟨0, 0, none⟩ = some M := by rw [(bcell HBY.out).1 _ _ zm]; exact HM.out
        clear hb HBX
        go_wp2_with fail
        (with_reducible refine (K7.out _ my).mono ?_); rintro e w7 ⟨rfl, hb⟩
        have HB7 := Lib.hid (bl_trans HBY.out hb)
        clear hb
        go_wp2_with fail
        go_returns
        exact ⟨rfl, HB7.out⟩
      · have q : ∀ W, (Go.binOp .eql 24 (.agg #[.int .i64 h, .int .u64 l]) (.agg #[.int .i64 0, .int .u64 0])).run Try.prog W = .ok (.bool false) W := fun W => by rw [eq_fix, decide_eq_false gz]
        have KN := Lib.hid CN; have KT := Lib.hid CT; have KU := Lib.hid CU; have GZ := Lib.hid gz
        clear CN CT CU gz
        go_wp2_with fail
        (with_reducible refine (CM _).mono ?_); rintro e Y ⟨rfl, hb⟩
        obtain ⟨hcY, hfY⟩ := bcell hb
        have aY : Y.cell? ⟨w.heap.size, 0, none⟩ = some (.int .i64 h) := by rw [hcY _ _ zX]; exact aX
        have bY : Y.cell? ⟨w.heap.size, 1, none⟩ = some (.int .u64 l) := by rw [hcY _ _ zX]; exact bX
        have zY : w.heap.size < Y.heap.size := Nat.lt_of_lt_of_le zX hb.size
        clear hcY hfY
        go_upto_region 16 with fail
        have H2 := HH.out
        have HBY := Lib.hid (bl_trans HBX.out hb)
        clear hb HBX HH
        have hst : (SV.toList == SV.toList) = true := beq_self_eq_true _
        go_region_held3 (fun w' => w'.cell? ⟨w.heap.size, 0, none⟩ = some (.int .i64 h) ∧ w'.cell? ⟨w.heap.size, 1, none⟩ = some (.int .u64 l)) (first | (simp [*, go_sem]; done))
          (first
            | (go_at_call 18; (with_reducible refine (KN.out _).mono ?_); rintro e y1 ⟨rfl, hb⟩; obtain ⟨hcy1, hfy1⟩ := bcell_drew hb; have zy1 : w.heap.size < y1.heap.size := (by have hz := hb.size; simp at hz; omega); have HC1 : Hid (Below w.heap.size w y1) := (bl_trans (by first | with_reducible exact HBY.out.drew | with_reducible exact HBY.out) hb); clear hb)
            | (go_at_call 15; (with_reducible refine (KT.out _).mono ?_); rintro e y2 ⟨rfl, hb⟩; obtain ⟨hcy2, hfy2⟩ := bcell hb; have zy2 : w.heap.size < y2.heap.size := Nat.lt_of_lt_of_le zy1 hb.size; have HC2 : Hid (Below w.heap.size w y2) := (bl_trans HC1.out hb); clear hb)
            | (go_at_call 15; (with_reducible refine (KU.out _).mono ?_); rintro e y3 ⟨rfl, hb⟩; obtain ⟨hcy3, hfy3⟩ := bcell hb; have zy3 : w.heap.size < y3.heap.size := Nat.lt_of_lt_of_le zy2 hb.size; have HC3 : Hid (Below w.heap.size w y3) := (bl_trans HC2.out hb); clear hb; have my3 : y3.cell? ⟨0, 0, none⟩ = some M := (by rw [(bcell HC3.out).1 _ _ zm]; exact HM.out))
            | (go_at_call 12; (with_reducible refine (K7.out _ my3).mono ?_); rintro e y4 ⟨rfl, hb⟩; obtain ⟨hcy4, hfy4⟩ := bcell hb; have HC4 : Hid (Below w.heap.size w y4) := (bl_trans HC3.out hb); clear hb))
        rename_i hHeld
        clear hHeld
        go_wp2_with fail
        go_returns
        exact ⟨rfl, HC4.out⟩
    · have hix := HT.out i j (by omega)
      have hd : N / 16 ^ j % 16 < 16 := Nat.mod_lt _ (by decide)
      have hN2 := next_div N j
      have hb2 := hexb_nat _ hd
      have hM : N / 16 ^ j ≤ N := Nat.div_le_self _ _
      obtain ⟨V, hV⟩ : ∃ V, V = N / 16 ^ (j + 1) := ⟨_, rfl⟩
      obtain ⟨V2, hV2⟩ : ∃ V2, V2 = N / 16 ^ j := ⟨_, rfl⟩
      rw [← hV] at hN2 ⊢
      rw [← hV2] at hix hd hN2 hb2 hM
      obtain ⟨d, hdd⟩ : ∃ d, d = V2 % 16 := ⟨_, rfl⟩
      rw [← hdd] at hix hd hN2 hb2
      have HV := Lib.hid hV2
      generalize ((hexb d).toNat : Int) = by_ at *
      unfold hexd at hb2
      have i0 : (i : Int) < (n : Int) - 17 := by have := HNC.out; omega
      have wi : IntKind.i64.wrap ((i : Int) + 1) = (i : Int) + 1 := IntWalk.i64_in _ (by omega)
      have wv : IntKind.u64.wrap ((V : Int) * 16) = (V : Int) * 16 := IntWalk.u64_in _ (by omega)
      have ws : IntKind.u64.wrap ((V : Int) * 16 + (d : Int)) = (V2 : Int) := by rw [IntWalk.u64_in _ (by omega)]; omega
      clear hV hdd hV2 HT HC K1 HS HH K2 K7
      by_cases c10 : d < 10
      · rw [if_pos c10] at hb2
        subst hb2
        have e1 : IntKind.u8.wrap ((48 : Int) + (d : Int) - 48) = (d : Int) := by rw [show (48 : Int) + (d : Int) - 48 = (d : Int) by omega]; exact IntWalk.u8_in _ (by omega)
        have e2 : IntKind.u64.wrap (d : Int) = (d : Int) := IntWalk.u64_in _ (by omega)
        have e3 : ¬ (97 : Int) ≤ 48 + (d : Int) := by omega
        go_wp2_with fail
        go_roundg j
        case measure => omega
        case rel => exact ⟨i + 1, by rw [HV.out], by simp, by omega, aX, bX, zX, HBX.out⟩
      · rw [if_neg c10] at hb2
        subst hb2
        obtain ⟨f, hf⟩ : ∃ f, f = IntKind.u8.wrap ((87 : Int) + (d : Int) - 48) := ⟨_, rfl⟩
        have e1 : IntKind.u8.wrap ((87 : Int) + (d : Int) - 48) = f := hf.symm
        have e3 : (97 : Int) ≤ 87 + (d : Int) := by omega
        have e4 : IntKind.u8.wrap ((87 : Int) + (d : Int) - 97) = (d : Int) - 10 := by rw [show (87 : Int) + (d : Int) - 97 = (d : Int) - 10 by omega]; exact IntWalk.u8_in _ (by omega)
        have e5 : IntKind.u64.wrap ((d : Int) - 10) = (d : Int) - 10 := IntWalk.u64_in _ (by omega)
        have e6 : IntKind.u64.wrap ((d : Int) - 10 + 10) = (d : Int) := by rw [show (d : Int) - 10 + 10 = (d : Int) by omega]; exact IntWalk.u64_in _ (by omega)
        clear hf
        go_wp2_with fail
        go_roundg j
        case measure => omega
        case rel => exact ⟨i + 1, by rw [HV.out], by simp, by omega, aX, bX, zX, HBX.out⟩
theorem neg_text (x : Int) (h : 0 < x) : txt (-x) = 45 :: txt x := by
  have e : (-x).natAbs = x.natAbs := Int.natAbs_neg x
  rw [txt_neg (-x) _ _ rfl rfl (by omega), e, txt_pos x _ _ rfl rfl (by omega)]
theorem hexB_nought : ∀ n, hexB 0 n = List.replicate n 48 := by
  intro n
  induction n with
  | zero => rfl
  | succ n ih => rw [List.replicate_succ, ← ih]; show hexb (0 / 16 ^ n % 16) :: _ = _; rw [Nat.zero_div]; rfl
theorem whole_text (N : Nat) (hN : N < 4294967296) : txt ((N : Int) * 18446744073709551616) = hexB N (hexc N) ++ 46 :: List.replicate 16 48 := by
  rw [txt_pos _ N 0 (by omega) (by omega) (by omega), hexB_nought]
theorem whole_walk (N x m : Int) (w : World) (hx : Fx x) (k0 : 0 ≤ N) (k1 : N < 4294967296) (hm : w.cell? ⟨0, 0, none⟩ = some (.int .i64 m)) :
    Calls Try.prog 5 #[.int .u32 N, .agg #[.int .i64 (fh x), .int .u64 (fl x)]] w fun e w' => e = .returned (.bool true) ∧ Below w.heap.size w w' := by
  obtain ⟨N, rfl⟩ := Int.eq_ofNat_of_zero_le k0
  have hN : N < 4294967296 := by omega
  have hw := hexc_word (show N < 18446744073709551616 by omega)
  have hp := hexc_pos N
  have mN : My ((N : Int) * 18446744073709551616) := by unfold My; omega
  have CT := text_any _ mN
  rw [whole_text N hN, show fh ((N : Int) * 18446744073709551616) = (N : Int) by unfold fh; omega, show fl ((N : Int) * 18446744073709551616) = 0 by unfold fl; omega] at CT
  have hlen : (hexB N (hexc N) ++ 46 :: List.replicate 16 48).length = hexc N + 17 := by rw [List.length_append, hexB_length]; rfl
  have hdrop : (hexB N (hexc N) ++ 46 :: List.replicate 16 48).drop (hexc N) = 46 :: List.replicate 16 48 := List.drop_left' (hexB_length _ _)
  have hget : ∀ i j : Nat, i + j + 1 = hexc N → (hexB N (hexc N) ++ 46 :: List.replicate 16 48)[i]? = some (hexb (N / 16 ^ j % 16)) := fun i j h => get_app _ _ _ _ (hexB_get N _ i j h)
  have hroom := hexc_room N
  generalize hexB N (hexc N) ++ 46 :: List.replicate 16 48 = T at *
  generalize hexc N = c at *
  have hidx : ∀ i j : Nat, i + j + 1 = c → ∀ W : World, (Instr.index 9 (.string ⟨T.toArray⟩) (.int .i64 (i : Int))).run Try.prog W = .ok (.int .u8 (((hexb (N / 16 ^ j % 16)).toNat : Nat) : Int)) W := by
    intro i j h W
    have hi : i < T.length := by omega
    rw [run_index_string W 9 _ .i64 i (by kernel_rfl), dif_pos ⟨by omega, by rw [mk_size]; omega⟩]
    have g := hget i j h
    rw [List.getElem?_eq_getElem hi] at g
    have e := Option.some.inj g
    rw [← e]
    rfl
  have hsl : ∀ W : World, (Instr.slice 9 (.string ⟨T.toArray⟩) (some (.int .i64 ((T.length : Int) - 17))) none none).run Try.prog W = .ok (.string ⟨#[46, 48, 48, 48, 48, 48, 48, 48, 48, 48, 48, 48, 48, 48, 48, 48, 48]⟩) W := fun W => by
    rw [slice_from T _ c (by omega) (by omega) W, hdrop]; rfl
  have fin : ∀ (b : Bool) (SU SV : ByteArray) (H2 : ∀ W : World, (Op.stringOp .add ⟨#[45]⟩ SU).run Try.prog W = .ok (.string SV) W) (nh nl : Int), _ → _ → _ := fun b SU SV H2 nh nl cs C2 =>
    whole_core (fh x) (fl x) nh nl N T.length c b ⟨T.toArray⟩ SU SV (.int .i64 m) (mk_size T) hlen hp (by omega) hN hroom hidx cs w hm hsl H2 CT C2 (fun W hW => hawake_any m W hW)
  have triv : ∀ W : World, (Op.stringOp .add ⟨#[45]⟩ ⟨#[]⟩).run Try.prog W = .ok (.string ⟨#[45]⟩) W := fun W => cat_lists [45] [] [45] rfl (by decide) (by decide) W
  by_cases c0 : My x
  · have hM := rmay_true c0
    by_cases c1 : x < 0
    · exact fin true _ _ triv 0 0 (Or.inr (Or.inl ⟨rfl, by unfold fh; omega⟩)) hM
    · by_cases c2 : x = 0
      · subst c2
        exact fin true _ _ triv 0 0 (Or.inr (Or.inr (Or.inl ⟨rfl, rfl, rfl⟩))) hM
      · have hl := txt_len x c0
        have c3 : My (-x) := by unfold My at *; omega
        have TN := text_any _ c3
        rw [neg_text x (by omega)] at TN
        exact fin true ⟨(txt x).toArray⟩ ⟨(45 :: txt x).toArray⟩ (fun W => cat_lists [45] _ _ rfl (by decide) (by omega) W) (fh (-x)) (fl (-x))
          (Or.inr (Or.inr (Or.inr ⟨rfl, by unfold fh; omega, fun h => c2 (by unfold fh fl at h; omega), rneg_any x c0, TN, text_any x c0⟩))) hM
  · exact fin false _ _ triv 0 0 (Or.inl rfl) (rmay_false hx c0)
open Go.ChangeShapes Go.WideShapes Go.ChangeAt Go.RowKit Go.Joins
theorem wf_u32 {n : Int} (h : (Lit.int .u32 n).wf = true) : 0 ≤ n ∧ n < 4294967296 := by
  simp [Lit.wf, IntKind.min, IntKind.max, IntKind.bits, IntKind.signed] at h; omega
set_option maxRecDepth 100000 in
theorem hexaWhole_lifted (os : Os) (started : os.Started) (H : Type) (enc : TypeId × Value → H) :
    ReturnsInHanded {} Try.checked os 5 .any (Rows.hexaWholeSpec.pre6 enc Try.prog Try.f5 Rows.hexaWholeRow.domain false) (Rows.hexaWholeSpec.post enc Try.prog Try.f5 false true false false) := by
  refine returnsInHanded_of_change_shaped (C := Try.checked) Try.own started (by kernel_rfl) Try.func5
    (ChangeSpec.witness6 (enc := enc) (C := Try.checked) false ⟨#[], #[.int .u32 0, .agg #[.int .i64 0, .int .u64 0]], []⟩ 8 (by kernel_rfl) (by kernel_rfl) (by kernel_rfl) (by kernel_rfl)) ?_
  intro W base args ds gs before hval0 hW hcnd _ hsh _
  have hval : ∀ (j : Nat) t v, Try.f5.params[j]? = some t → args[j]? = some v → Value.okWide Try.prog W .any base t v := hval0
  have hW' := hW
  obtain ⟨p, q, hA0, hV, rfl, hfz, hnd⟩ := hW
  have hA : DataW.TrodAll enc Try.prog W 0 (fun _ => true) true Try.f5.params.toList args.toList ds p := hA0
  rw [Try.params5] at hA hval
  obtain ⟨v0, v1, d0, d1, p0, p1, rfl, rfl, rfl, h0, h1⟩ := trodAll_two hA
  obtain ⟨rfl, rfl⟩ := trodVars_none hV
  obtain ⟨n, rfl, rfl, rfl, k00⟩ := open_int Try.underlying36 (hval 0 36 v0 rfl rfl) h0
  obtain ⟨x, rfl, rfl, rfl, k10⟩ := open_fix (hval 1 24 v1 rfl rfl) h1
  obtain ⟨m, hm⟩ := maxlen_cell W hsh
  clear hA0 hval0
  simp only [List.append_nil] at hW'
  refine (whole_walk n x m W k10 (wf_u32 k00).1 (wf_u32 k00).2 hm).mono fun e W' ⟨he, hb⟩ => ?_
  subst he
  exact ⟨_, rfl, _, _, _, [], [], [], hW', trodAll_mk1 (shut_bool Try.underlying4 _), trodAll_mk2 (shut_int Try.underlying36 k00) (shut_fix k10), rfl, hb.frame _, fun h => by cases h⟩
theorem hexaWhole_holds : Rows.HexaWholeSaid :=
  OpenClaim.holds_of_wide 5 Try.f5 rfl rfl rfl rfl rfl rfl rfl ⟨rfl, rfl, rfl, rfl, rfl⟩ rfl rfl rfl rfl rfl (by kernel_rfl) Try.func5 (by kernel_rfl)
    (of_decide_eq_true (by kernel_rfl)) (by unfold Func.isWrapper; first | (rw [if_pos (by decide +kernel)]; kernel_rfl) | (rw [if_neg (by decide +kernel)]; exact ⟨rfl, rfl⟩))
    (fun os started H enc _ => hexaWhole_lifted os started H enc)
end Go.Proofs.Ytgiamnehncbihaa
