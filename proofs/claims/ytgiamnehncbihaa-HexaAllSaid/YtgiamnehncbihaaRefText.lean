/- The document's Text. -/
import Derived.Test.YtgiamnehncbihaaRefHex
import Derived.Test.YtgiamnehncbihaaRefFix2
namespace Go.Proofs.Ytgiamnehncbihaa
open Go.RowKit

set_option maxRecDepth 20000 in
set_option maxHeartbeats 8000000 in
theorem rtext_core (h l A L : Int) (S1 S2 T1 T2 T3 T : ByteArray) (e3 : T = if h < 0 then T3 else T2) (w : World)
    (H1 : ∀ W : World, (Op.stringOp .add S1 ⟨#[46]⟩).run Try.prog W = .ok (.string T1) W)
    (H2 : ∀ W : World, (Op.stringOp .add T1 S2).run Try.prog W = .ok (.string T2) W)
    (H3 : ∀ W : World, (Op.stringOp .add ⟨#[45]⟩ T2).run Try.prog W = .ok (.string T3) W)
    (C1 : ∀ W, Calls Try.prog 17 #[.agg #[.int .i64 h, .int .u64 l]] W fun e w' => e = .returned (.bool true) ∧ Below W.heap.size W w')
    (C2 : ∀ W, Calls Try.prog 40 #[.agg #[.int .i64 h, .int .u64 l]] W fun e w' => e = .returned (.agg #[.int .u64 A, .int .u64 L]) ∧ Below W.heap.size W w')
    (C3 : ∀ W, Calls Try.prog 53 #[.int .u64 A, .int .i64 1] W fun e w' => e = .returned (.string S1) ∧ Below W.heap.size W w')
    (C4 : ∀ W, Calls Try.prog 53 #[.int .u64 L, .int .i64 16] W fun e w' => e = .returned (.string S2) ∧ Below W.heap.size W w') :
    Calls Try.prog 16 #[.agg #[.int .i64 h, .int .u64 l]] w fun e w' => e = .returned (.string T) ∧ Below w.heap.size w w' := by
  have K1 := Lib.hid C1; have K2 := Lib.hid C2; have K3 := Lib.hid C3; have K4 := Lib.hid C4
  clear C1 C2 C3 C4
  have HT := Lib.hid e3
  clear e3
  go_enter Try.func16, Try.ntmps16
  go_wp2_with fail
  (with_reducible refine (K1.out _).mono ?_); rintro e w1 ⟨rfl, hb⟩
  obtain ⟨hcl1, hfr1⟩ := bcell hb
  have z1 : w.heap.size < w1.heap.size := by have hz := hb.size; simp at hz; omega
  have a1 : w1.cell? ⟨w.heap.size, 0, none⟩ = some (.int .i64 h) := by rw [hcl1 _ _ (by simp)]; simp [go_sem]
  have b1 : w1.cell? ⟨w.heap.size, 1, none⟩ = some (.int .u64 l) := by rw [hcl1 _ _ (by simp)]; simp [go_sem]
  have HB1 := Lib.hid (bl_trans (bl_al (Below.refl _ _) _) hb)
  clear hb hcl1 hfr1
  go_wp2_with fail
  (with_reducible refine (K2.out _).mono ?_); rintro e w2 ⟨rfl, hb⟩
  obtain ⟨hcl2, hfr2⟩ := bcell hb
  have z2 : w.heap.size < w2.heap.size := Nat.lt_of_lt_of_le z1 hb.size
  have a2 : w2.cell? ⟨w.heap.size, 0, none⟩ = some (.int .i64 h) := by rw [hcl2 _ _ z1]; exact a1
  have HB2 := Lib.hid (bl_trans HB1.out hb)
  clear hb hcl2 hfr2 a1 b1 z1 HB1
  go_upto_region 4 with fail
  go_region_held3 (fun w' => w'.cell? ⟨w2.heap.size, 0, none⟩ = some (.int .u64 A) ∧ w'.cell? ⟨w2.heap.size, 1, none⟩ = some (.int .u64 L)) (first | (simp [*, go_sem]; done))
    (first
      | (go_at_call 53; (with_reducible refine (K3.out _).mono ?_); rintro e w3 ⟨rfl, hb⟩; obtain ⟨hcl3, hfr3⟩ := bcell_drew hb; have z3 : w2.heap.size < w3.heap.size := (by have hz := hb.size; simp at hz; omega); have HB3 : Hid (Below w.heap.size w w3) := (bl_trans (by repeat (first | with_reducible exact HB2.out | with_reducible refine bl_al ?_ _ | with_reducible apply Below.drew)) hb); clear hb)
      | (go_at_call 53; (with_reducible refine (K4.out _).mono ?_); rintro e w4 ⟨rfl, hb⟩; obtain ⟨hcl4, hfr4⟩ := bcell hb; have z4 : w2.heap.size < w4.heap.size := (by have hz := hb.size; omega); have HB4 : Hid (Below w.heap.size w w4) := (bl_trans HB3.out hb); clear hb))
  rename_i hHeld
  clear hHeld
  have a4 : w4.cell? ⟨w.heap.size, 0, none⟩ = some (.int .i64 h) := by rw [hcl4 _ _ (by omega), hcl3 _ _ (by simp; omega), World.cell?_alloc_old _ _ _ (Nat.ne_of_lt z2)]; exact a2
  clear hcl4 hfr4 hcl3 hfr3 a2 HB2 HB3 z3
  by_cases c : h < 0
  · have e : T = T3 := by rw [HT.out, if_pos c]
    subst e
    go_wp2_with fail
    go_returns
    exact ⟨rfl, HB4.out⟩
  · have e : T = T2 := by rw [HT.out, if_neg c]
    subst e
    go_wp2_with fail
    go_returns
    exact ⟨rfl, HB4.out⟩
set_option maxRecDepth 20000 in
theorem rtext_none (h l : Int) (w : World)
    (C1 : ∀ W, Calls Try.prog 17 #[.agg #[.int .i64 h, .int .u64 l]] W fun e w' => e = .returned (.bool false) ∧ Below W.heap.size W w') :
    Calls Try.prog 16 #[.agg #[.int .i64 h, .int .u64 l]] w fun e w' => e = .returned (.string ⟨#[]⟩) ∧ Below w.heap.size w w' := by
  have K1 := Lib.hid C1
  clear C1
  go_enter Try.func16, Try.ntmps16
  go_wp2_with fail
  (with_reducible refine (K1.out _).mono ?_); rintro e w1 ⟨rfl, hb⟩
  have HB1 : Hid (Below w.heap.size w w1) := bl_trans (bl_al (Below.refl _ _) _) hb
  clear hb
  go_wp2_with fail
  go_returns
  exact ⟨rfl, HB1.out⟩
theorem add_lists (x y z : List UInt8) (h : x ++ y = z) (hx : x.length ≤ 100) (hy : y.length ≤ 100) (X : ByteArray) (hX : X = ⟨x.toArray⟩) (W : World) :
    (Op.stringOp .add X ⟨y.toArray⟩).run Try.prog W = .ok (.string ⟨z.toArray⟩) W := by
  subst hX; subst h
  exact run_string_add_lists W x y (by omega) (by omega)
theorem rtext_parts (x : Int) (A L : Nat) (hA : x.natAbs / 18446744073709551616 = A) (hL : x.natAbs % 18446744073709551616 = L) (a2 : A < 18446744073709551616) (l : L < 18446744073709551616) (hm : My x)
    (eh : fh x < 0 ↔ x < 0) (e1 : wd x.natAbs 1 = (A : Int)) (e0 : wd x.natAbs 0 = (L : Int)) (w : World) :
    Calls Try.prog 16 #[.agg #[.int .i64 (fh x), .int .u64 (fl x)]] w fun e w' => e = .returned (.string ⟨(txt x).toArray⟩) ∧ Below w.heap.size w w' := by
  have M := rmag_any x hm
  rw [e1, e0] at M
  have lA : (hexB A (hexc A)).length ≤ 16 := by rw [hexB_length]; exact hexc_word a2
  have lL : (hexB L 16).length ≤ 16 := by rw [hexB_length]; exact Nat.le_refl _
  generalize hA1 : hexB A (hexc A) = S1 at *
  generalize hL1 : hexB L 16 = S2 at *
  have HA := hex_one A a2
  have HL := hex_16 L l
  rw [hA1] at HA
  rw [hL1] at HL
  refine rtext_core _ _ _ _ ⟨S1.toArray⟩ ⟨S2.toArray⟩ ⟨(S1 ++ [46]).toArray⟩ ⟨(S1 ++ [46] ++ S2).toArray⟩ ⟨([45] ++ (S1 ++ [46] ++ S2)).toArray⟩ _ ?_ w
    (add_lists S1 [46] _ rfl (by omega) (by decide) _ rfl) (add_lists (S1 ++ [46]) S2 _ rfl (by simp; omega) (by omega) _ rfl) (add_lists [45] (S1 ++ [46] ++ S2) _ rfl (by decide) (by simp; omega) _ rfl) (rmay_true hm) M HA HL
  by_cases c : x < 0
  · rw [if_pos (eh.2 c), txt_neg x A L hA hL c, hA1, hL1]; first | done | rfl | simp only [List.append_assoc, List.cons_append, List.nil_append]
  · rw [if_neg (fun h => c (eh.1 h)), txt_pos x A L hA hL c, hA1, hL1]; simp only [List.append_assoc, List.cons_append, List.nil_append]
/-- The document's Text is Text. -/
theorem rtext_any (x : Int) (hx : Fx x) (w : World) :
    Calls Try.prog 16 #[.agg #[.int .i64 (fh x), .int .u64 (fl x)]] w fun e w' => e = .returned (.string ⟨(txtF x).toArray⟩) ∧ Below w.heap.size w w' := by
  by_cases c : My x
  · rw [txtF_my c]
    have c2 := c
    obtain ⟨h0, h1⟩ := c2
    exact rtext_parts x _ _ rfl rfl (by omega) (by omega) c (by unfold fh; omega) (by rw [wd1]; first | done | omega) (by rw [wd0]; first | done | omega) w
  · have e : txtF x = [] := by unfold txtF; rw [if_pos (by unfold My at c; unfold Fx at hx; omega)]
    rw [e]
    exact rtext_none _ _ w (rmay_false hx c)
end Go.Proofs.Ytgiamnehncbihaa
