/- MassAll: may all bodies be; helpers. -/
import Derived.Test.YtjilnmpajhifcaaGreatMayAny
import Derived.Test.YtjilnmpajhifcaaGreatZzMasA
import Derived.Test.YtjilnmpajhifcaaGreatMassCels
import Derived.Test.YtjilnmpajhifcaaGreatZzTreB
import Derived.Laws.ResultCell
namespace Go.Proofs.YtjilnmpajhifcaaGreat
open Go.RowKit
theorem nodes_ok {by_ : List (Nat × Int)} {L : List Bod} (h : Std Prod.fst by_ (kys L)) (h0 : L.length ≠ 0) : ∀ x ∈ bld L.length by_, x.fr < x.to ∧ x.to ≤ L.length := by
  intro x hx
  obtain ⟨j, hj⟩ := List.mem_iff_getElem?.1 hx
  have k := bld_ok (n := L.length) (by_len h) h0 (by_rs h) (by_64 h)
  have o := k.all (fun i => (bld L.length by_)[i]?) (fun i y hy => by rw [Nat.zero_add]; exact hy) j x hj
  exact ⟨o.lt, o.le⟩
theorem nodes_few {by_ : List (Nat × Int)} {n : Nat} (hn : n ≤ 64) : (bld n by_).length ≤ 2147483648 := by
  unfold bld
  split
  · simp
  · rename_i h
    have h0 : 0 < n := by
      rcases Nat.eq_zero_or_pos n with e | e
      · exact absurd (Or.inl e) h
      · exact e
    have := gr_len 32 (keyAt by_) 0 0 0 0 n h0
    omega
theorem made_field (A : Option Addr) (n c : Nat) (W : World) : (Instr.field 44 (.agg #[.slice A n c, .int .i64 0]) 0).run Tryz.prog W = .ok (.slice A n c) W := by
  have hu := Tryz.underlying44
  simp [Instr.field, run_underlying hu, go_sem, asAgg]
/-- The document's Centre of none. -/
def RCenNT : Prop := ∀ (A : Option Addr) (c : Nat) (W : World), Calls Tryz.prog 8 #[.slice A 0 c] W fun e w' => e = .returned (.agg #[.int .i64 0, .int .u64 0, .int .i64 0, .int .u64 0, .int .i64 0, .int .u64 0, .int .i64 1]) ∧ Below W.heap.size W w'
set_option maxRecDepth 20000 in
set_option maxHeartbeats 8000000 in
theorem rcentre_none : RCenNT := by
  intro A c w
  have n0 : ((0 : Nat) : Int) = 0 := rfl
  go_enter Tryz.func8, Tryz.ntmps8
  go_wp2_with fail
  go_returns
  exact ⟨rfl, bb⟩
/-- May all bodies be, and are they few? -/
def mayl (n : Nat) (L : List Bod) : Bool := decide (n ≤ 32) && L.all mayb
set_option maxRecDepth 20000 in
set_option maxHeartbeats 8000000 in
theorem lmay_any (CM : RCmpT) (SU : RSubT) (DV : RDivG) (A : Option Addr) (n c : Nat) (L : List Bod) (hf : ∀ b ∈ L, Fb b) (hn : n ≤ maxLen) (w : World) (hL : Bds w A n L) :
    Calls Tryz.prog 5 #[.slice A n c] w fun e w' => e = .returned (.bool (mayl n L)) ∧ Below w.heap.size w w' := by
  obtain ⟨res, hres⟩ : ∃ res, res = mayl n L := ⟨_, rfl⟩
  have HR := Lib.hid hres
  rw [← hres]
  clear hres
  have KB := Lib.hid (maybody_any CM SU DV)
  have HL := Lib.hid hL; have HF := Lib.hid hf; have HN := Lib.hid hn
  have hlen := hL.len
  have HLN := Lib.hid hlen
  clear CM SU DV hL hf hn hlen
  go_enter Tryz.func5, Tryz.ntmps5
  go_wp2_with fail
  go_loopg [3] (min n 33) (fun k iv wr => ∃ i : Nat, i + k = min n 33 ∧ iv = .int .i64 (i : Int) ∧ (∀ (j : Nat) (b : Bod), j < i → L[j]? = some b → mayb b = true) ∧ Below w.heap.size w wr)
  case atStart => exact ⟨0, by omega, rfl, fun j b h => by omega, Below.refl _ _⟩
  case round =>
    obtain ⟨i, hk, rfl, hall, hbl⟩ := hrel
    have HA := Lib.hid hall; have HB := Lib.hid hbl
    have HK : Hid (i + gk = min n 33) := hk
    have h9 := HN.out
    unfold maxLen at h9
    clear hall hbl
    by_cases h1 : i < n
    · have i1 : (i : Int) < (n : Int) := by omega
      by_cases h2 : i ≤ 32
      · have i2 : (i : Int) ≤ 32 := by omega
        have i0 : (0 : Int) ≤ (i : Int) := by omega
        have wi : IntKind.i64.wrap ((i : Int) + 1) = (i : Int) + 1 := by rw [IntWalk.i64_in _ (by omega)]
        obtain ⟨DB, dof, b, rfl, zD, hb, hv⟩ := (HL.out.below HB.out).at_ (i := i) h1
        have HV : Hid (wr.rangeAt DB (dof + i * 20) (bdc b)) := hv
        have hbl := bdc_len b
        have C1 := Lib.hid (KB.out b (HF.out b (List.mem_of_getElem? hb)))
        have HBb := Lib.hid hb
        clear hv hb hk h9 h2
        by_cases hv : mayb b = true
        · rw [hv] at C1
          go_wp2_with (first
            | (refine wpList_load_mid rfl 56 _ rfl DB (dof + i * 20) rfl (bdc b) _ HV.out Tryz.underlying56 rfl (by kernel_rfl) ?_)
            | (go_at_call 18; (with_reducible refine (C1.out _).mono ?_); rintro e w1 ⟨rfl, hb1⟩)
            | fail)
          obtain ⟨z, rfl⟩ : ∃ z, gk = z + 1 := ⟨gk - 1, by have := HK.out; omega⟩
          go_roundg z
          case measure => omega
          case rel =>
            refine ⟨i + 1, by have := HK.out; omega, by simp, fun j b' hj hb' => ?_, bl_trans HB.out hb1⟩
            rcases Nat.lt_or_ge j i with hji | hji
            · exact HA.out j b' hji hb'
            · obtain rfl : j = i := by omega
              have e := HBb.out
              rw [hb'] at e
              injection e with e
              rw [e]; exact hv
        · rw [show mayb b = false by simpa using hv] at C1
          go_wp2_with (first
            | (refine wpList_load_mid rfl 56 _ rfl DB (dof + i * 20) rfl (bdc b) _ HV.out Tryz.underlying56 rfl (by kernel_rfl) ?_)
            | (go_at_call 18; (with_reducible refine (C1.out _).mono ?_); rintro e w1 ⟨rfl, hb1⟩)
            | fail)
          have hr : Hid (res = false) := by
            show _ = _
            rw [HR.out]; unfold mayl
            have e : L.all mayb = false := by
              rw [List.all_eq_false]
              exact ⟨b, List.mem_of_getElem? HBb.out, hv⟩
            rw [e, Bool.and_false]
          go_returns
          exact ⟨by rw [hr.out]; rfl, bl_trans HB.out hb1⟩
      · have i2 : ¬ (i : Int) ≤ 32 := by omega
        have n2 : ¬ (n : Int) ≤ 32 := by omega
        clear hk h9
        go_wp2_with fail
        have hr : Hid (res = false) := by show _ = _; rw [HR.out]; unfold mayl; rw [decide_eq_false (by omega), Bool.false_and]
        go_returns
        exact ⟨by rw [hr.out]; rfl, HB.out⟩
    · have i1 : ¬ (i : Int) < (n : Int) := by omega
      have n2 : (n : Int) ≤ 32 ∨ ¬ (n : Int) ≤ 32 := by omega
      have HQ : Hid (n ≤ 33 ∧ i = min n 33) := ⟨by omega, by omega⟩
      rcases n2 with n2 | n2
      · clear hk h9
        go_wp2_with fail
        have hr : Hid (res = true) := by
          show _ = _
          rw [HR.out]; unfold mayl
          rw [decide_eq_true (by omega), Bool.true_and, List.all_eq_true]
          intro b hb
          obtain ⟨j, hj⟩ := List.mem_iff_getElem?.1 hb
          exact HA.out j b (by have := (List.getElem?_eq_some_iff.1 hj).1; have := HLN.out; have := HQ.out; omega) hj
        go_returns
        exact ⟨by rw [hr.out]; rfl, HB.out⟩
      · clear hk h9
        go_wp2_with fail
        have hr : Hid (res = false) := by show _ = _; rw [HR.out]; unfold mayl; rw [decide_eq_false (by omega), Bool.false_and]
        go_returns
        exact ⟨by rw [hr.out]; rfl, HB.out⟩
end Go.Proofs.YtjilnmpajhifcaaGreat
