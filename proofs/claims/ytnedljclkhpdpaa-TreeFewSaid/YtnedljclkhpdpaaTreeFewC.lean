/- TreeFew, from what Build tells. -/
import Derived.Test.YtnedljclkhpdpaaTreeLaw
import Derived.Test.YtnedljclkhpdpaaTreeFew
import Derived.Test.YtnedljclkhpdpaaSortApp
namespace Go.Proofs.Ytnedljclkhpdpaa
open Go.RowKit
/-- So many in one place. -/
def fw (v i : Nat) : List (Nat × Int) := (List.range i).map fun j : Nat => (v, (j : Int))
theorem fw_len (v i : Nat) : (fw v i).length = i := by unfold fw; simp
theorem fw_succ (v i : Nat) : fw v (i + 1) = fw v i ++ [(v, (i : Int))] := by unfold fw; rw [List.range_succ, List.map_append]; rfl
theorem fw_64 {v : Nat} (h : v < 18446744073709551616) (i : Nat) : Ok64 (fw v i) := fun x hx => by
  obtain ⟨j, _, rfl⟩ := List.mem_map.1 hx; exact h
theorem fw_rs (v i : Nat) : rs (fw v i) = true := (rs_pair _).2 (by
  unfold fw; rw [List.pairwise_map]; exact List.pairwise_iff_getElem.2 fun _ _ _ _ _ => Nat.le_refl _)
theorem fw_at (v n k : Nat) (h : k < n) : keyAt (fw v n) k = v := by
  unfold keyAt fw; simp [List.getElem?_map, List.getElem?_range h]
theorem few_none (v : Nat) : bld 0 (fw v 0) = [] := rfl
theorem few_one (v n : Nat) (h0 : 0 < n) (h : n ≤ 4) : (bld n (fw v n)).length = 1 := by
  unfold bld
  rw [if_neg (by rw [fw_rs]; simp; omega)]
  unfold gr; rw [if_pos (by omega)]; rfl
theorem few_all (v n : Nat) (h : 4 < n) : (bld n (fw v n)).length = 33 ∧ (bld n (fw v n))[32]? = some ⟨32, v, 0, n, fun _ => -1⟩ ∧ ∃ kid, (bld n (fw v n))[0]? = some ⟨0, 0, 0, n, kid⟩ := by
  unfold bld
  rw [if_neg (by rw [fw_rs]; simp; omega)]
  have k := gr_few (K := keyAt (fw v n)) (f := 0) (t := n) (v := v) (by omega) (fun k _ h => fw_at v n k h) 32 0 rfl 0 0
  exact ⟨k.1, k.2, gr_head 32 _ 0 0 0 0 n⟩
set_option maxRecDepth 20000 in
set_option maxHeartbeats 8000000 in
theorem treeFew_walk (BL : BldT) (n : Nat) (hn : n < 256) (A : Option Addr) (q c : Nat) (v : Nat) (hv : v < 18446744073709551616) (w : World) :
    Calls Try.prog 8 #[.int .u8 (n : Int), .slice A q c, .int .u64 (v : Int)] w fun e w' => e = .returned (.bool true) ∧ Below w.heap.size w w' := by
  have K1 := Lib.hid BL; have K3 := Lib.hid (tawake_any BL)
  obtain ⟨k, hk⟩ : ∃ k, k = n % 9 := ⟨_, rfl⟩
  have hk9 : k < 9 := by omega
  have e1 : (n : Int).tmod 9 = (k : Int) := by rw [Int.tmod_eq_emod_of_nonneg (by omega)]; omega
  have e2 : (n : Int) % 9 = (k : Int) := by omega
  have e3 : IntKind.i64.wrap (n : Int) = (n : Int) := IntWalk.i64_in _ (by omega)
  have q0 : (0 : Int) ≤ (q : Int) := by omega
  have HV := Lib.hid (fw_64 hv); have HK9 := Lib.hid hk9
  clear BL hn hv hk
  go_enter Try.func8, Try.ntmps8
  go_wp2_with fail
  go_loopg [8, 9] k (fun r lv iv wr => ∃ i : Nat, i + r = k ∧ iv = .int .i64 (i : Int) ∧ wr.ownsRow w.heap.size 36 2 lv i (flat (fw v i)) ∧ Below w.heap.size w wr)
  case atStart => exact ⟨0, by omega, rfl, World.ownsRow_nil _ _ _ _, Below.refl _ _⟩
  case round =>
    obtain ⟨i, hr, rfl, hown, hbl⟩ := hrel
    have HO := Lib.hid hown; have HB := Lib.hid hbl
    clear hown hbl
    by_cases hlt : i < k
    · obtain ⟨y, rfl⟩ : ∃ y, gk = y + 1 := ⟨gk - 1, by omega⟩
      have i1 : (i : Int) < (k : Int) := by omega
      have wi : IntKind.i64.wrap ((i : Int) + 1) = (i : Int) + 1 := by rw [IntWalk.i64_in _ (by omega)]
      have HR : Hid (i + (y + 1) = k) := hr
      clear hr hk9
      go_wp2_with (first
        | (at_builtin; refine wpList_append_kd rfl _ _ rfl w.heap.size _ i (fw v i) rfl (own_kept HO.out (bl_al (Below.refl _ _) _)) (some ⟨wr.heap.size, 0, none⟩) 1 1 [(v, (i : Int))] rfl ?d1 (by simp) ?d2 ?d3 ?_)
        | fail)
      case d1 => exact (Kr.new wr [(v, (i : Int))] rfl).slice
      case d2 => have := HK9.out; omega
      case d3 => have := HB.out.size; simp; omega
      intro v1 w1 hown1 hgrow1
      have HO1 := Lib.hid hown1
      have HB1 : Hid (Below w.heap.size w w1) := (bl_al HB.out _).grown hgrow1 (by have := HB.out.size; simp; omega) (own_block HO.out)
      clear hown1 hgrow1
      go_wp2_with fail
      go_roundg y
      case measure => omega
      case rel =>
        refine ⟨i + 1, by have := HR.out; omega, by simp, ?_, HB1.out⟩
        rw [fw_succ]; exact HO1.out
    · obtain rfl : i = k := by omega
      have i1 : ¬ (i : Int) < (i : Int) := by omega
      obtain ⟨A1, c1, hlv, hA1, q1⟩ := Ks.of_own HO.out
      subst hlv
      have HCP := Lib.hid (own_cap HO.out)
      have HQ := Lib.hid q1; have HA := Lib.hid hA1
      clear q1 hA1 HO hr hlt hk9
      go_wp2_with fail
      refine (K1.out A1 i c1 (fw v i) (by have := HK9.out; omega) HA.out (HV.out i) HCP.out _ HQ.out).mono ?_
      intro e w2 h2
      obtain ⟨A2, c2, rfl, s2, b2⟩ := h2.use
      have HS := Lib.hid s2; have HB2 := Lib.hid (bl_trans HB.out b2)
      clear h2 s2 b2 HB HQ HA
      by_cases h0 : i = 0
      · subst h0
        rw [few_none]
        go_wp2_with fail
        refine (K3.out _).mono ?_
        rintro e w3 ⟨rfl, b3⟩
        have HB3 := Lib.hid (bl_trans HB2.out b3)
        clear b3 HB2
        go_wp2_with fail
        go_returns
        exact ⟨rfl, HB3.out⟩
      have m0 : ((i : Int) == 0) = false := by rw [beq_eq_false_iff_ne]; omega
      have m1 : (i == 0) = false := by rw [beq_eq_false_iff_ne]; omega
      have m2 : ¬ (i : Int) = 0 := by omega
      by_cases h4 : i ≤ 4
      · rw [few_one v i (by omega) h4]
        have h5 : (i : Int) ≤ 4 := by omega
        clear h4
        go_wp2_with fail
        refine (K3.out _).mono ?_
        rintro e w3 ⟨rfl, b3⟩
        have HB3 := Lib.hid (bl_trans HB2.out b3)
        clear b3 HB2
        go_wp2_with fail
        go_returns
        exact ⟨rfl, HB3.out⟩
      · have hf := few_all v i (by omega)
        have h5 : ¬ (i : Int) ≤ 4 := by omega
        have HF := Lib.hid hf
        clear hf h4
        generalize bld i (fw v i) = T at *
        rw [HF.out.1] at HS ⊢
        obtain ⟨G, o, x, rfl, zG, hx, a0, a1, a2, a3, _⟩ := nodes_at HS.out (j := 32) (by decide)
        obtain rfl := Option.some.inj (HF.out.2.1.symm.trans hx)
        obtain ⟨kid, hkid⟩ := HF.out.2.2
        obtain ⟨G', o', y, e', _, hy, d0, d1, _⟩ := nodes_at HS.out (j := 0) (by decide)
        obtain ⟨rfl, rfl⟩ : G = G' ∧ o = o' := by simpa using e'
        obtain rfl := Option.some.inj (hkid.symm.trans hy)
        dsimp only at a0 a1 a2 a3 d0 d1
        simp only [Nat.zero_mul, Nat.add_zero] at d0 d1
        rw [show ((32 : Nat) : Int) = 32 from rfl] at a0
        rw [show ((0 : Nat) : Int) = 0 from rfl] at a2 d1
        simp only [Nat.reduceMul] at a0 a1 a2 a3
        clear hx hy e' HF HS hkid
        go_wp2_with fail
        refine (K3.out _).mono ?_
        rintro e w3 ⟨rfl, b3⟩
        have HB3 := Lib.hid (bl_trans HB2.out b3)
        clear b3 HB2
        go_wp2_with fail
        go_returns
        exact ⟨rfl, HB3.out⟩
end Go.Proofs.Ytnedljclkhpdpaa
