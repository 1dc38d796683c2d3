/- The law's Bodies: bodies by numbers, four a body. -/
import Derived.Test.YtjilnmpajhifcaaGreatMassBdy
import Derived.Test.YtjilnmpajhifcaaGreatZzMasA
import Derived.Test.YtjilnmpajhifcaaGreatSortMake
namespace Go.Proofs.YtjilnmpajhifcaaGreat
open Go.RowKit
/-- Number j of the bodies by numbers. -/
def bodj (l : List Nat) (j : Nat) : Bod := bodn (l.getD (4 * j) 0 : Nat) (l.getD (4 * j + 1) 0 : Nat) (l.getD (4 * j + 2) 0 : Nat) (l.getD (4 * j + 3) 0 : Nat)
/-- Bodies by numbers, so many at most. -/
def bods (l : List Nat) (m : Nat) : List Bod := (List.range (min (l.length / 4) m)).map (bodj l)
theorem bods_len (l : List Nat) (m : Nat) : (bods l m).length = min (l.length / 4) m := by unfold bods; simp
theorem bods_take {l : List Nat} {m j : Nat} (h : j ≤ min (l.length / 4) m) : (bods l m).take j = (List.range j).map (bodj l) := by
  unfold bods
  rw [← List.map_take, List.take_range, Nat.min_eq_left h]
theorem bods_ok {l : List Nat} (h : ∀ b ∈ l, b < 256) (m : Nat) : ∀ b ∈ bods l m, Mb b := by
  intro b hb
  unfold bods at hb
  obtain ⟨j, _, rfl⟩ := List.mem_map.1 hb
  have g : ∀ k, (l.getD k 0) < 256 := fun k => by
    rw [List.getD_eq_getElem?_getD]
    cases e : l[k]? with
    | none => simp
    | some x => have := h x (List.mem_of_getElem? e); simpa using this
  have g0 := g (4 * j); have g1 := g (4 * j + 1); have g2 := g (4 * j + 2)
  unfold bodj
  exact bodn_ok (by omega) (by omega) (by omega) (by omega) (by omega) (by omega)
set_option maxRecDepth 20000 in
set_option maxHeartbeats 16000000 in
theorem bodies_any (A : Option Addr) (n c m : Nat) (l : List Nat) (hn : n ≤ maxLen) (hm : m ≤ 64) (w : World) (hl : Bs w A n l) :
    Calls Tryz.prog 17 #[.slice A n c, .int .i64 (m : Int)] w fun e w' => (∃ v, e = .returned v ∧ w'.ownsRow w.heap.size 56 20 v (bods l m).length ((bods l m).map bdc).flatten) ∧ Below w.heap.size w w' := by
  have hlen := hl.1
  have HL := Lib.hid hl; have HN := Lib.hid hn; have HM := Lib.hid hm; have HLN := Lib.hid hlen
  clear hl hn hm hlen
  go_enter Tryz.func17, Tryz.ntmps17
  go_wp2_with fail
  go_loopg [5, 6] (min (n / 4) m) (fun k v iv wr => ∃ j : Nat, j + k = min (n / 4) m ∧ iv = .int .i64 (4 * (j : Int)) ∧ wr.ownsRow w.heap.size 56 20 v j (((List.range j).map (bodj l)).map bdc).flatten ∧ Below w.heap.size w wr)
  case atStart => exact ⟨0, by omega, rfl, World.ownsRow_nil _ _ _ _, Below.refl _ _⟩
  case round =>
    obtain ⟨j, hk, rfl, hown, hbl⟩ := hrel
    obtain ⟨A', c', rfl, _, _⟩ := S0.of_own (Ln.map bdc_len ((List.range j).map (bodj l))) (by decide) hown
    have HO := Lib.hid hown; have HB := Lib.hid hbl
    have h9 := HN.out; have h8 := HM.out
    unfold maxLen at h9
    have HK : Hid (j + gk = min (n / 4) m) := hk
    have w3 : IntKind.i64.wrap (4 * (j : Int) + 3) = 4 * (j : Int) + 3 := by rw [IntWalk.i64_in _ (by omega)]
    clear hown hbl
    by_cases hlt : 4 * j + 3 < n
    · have t1 : 4 * (j : Int) + 3 < (n : Int) := by omega
      by_cases hjm : j < m
      · have t2 : (j : Int) < (m : Int) := by omega
        obtain ⟨B, o, p0, rfl, zB, hb0, l0, d0⟩ := (HL.out.below HB.out).at_ (k := 4 * j) (by omega)
        obtain ⟨B1, o1, p1, e1, _, hb1, l1, d1⟩ := (HL.out.below HB.out).at_ (k := 4 * j + 1) (by omega)
        obtain ⟨rfl, rfl⟩ : B = B1 ∧ o = o1 := by simpa using e1
        obtain ⟨B2, o2, p2, e2, _, hb2, l2, d2⟩ := (HL.out.below HB.out).at_ (k := 4 * j + 2) (by omega)
        obtain ⟨rfl, rfl⟩ : B = B2 ∧ o = o2 := by simpa using e2
        obtain ⟨B3, o3, p3, e3, _, hb3, l3, d3⟩ := (HL.out.below HB.out).at_ (k := 4 * j + 3) (by omega)
        obtain ⟨rfl, rfl⟩ : B = B3 ∧ o = o3 := by simpa using e3
        have hbj : bodj l j = bodn p0 p1 p2 p3 := by unfold bodj; simp [List.getD_eq_getElem?_getD, hb0, hb1, hb2, hb3]
        have HBJ := Lib.hid hbj
        have C1 := Lib.hid (body_any (p0 : Int) (p1 : Int) (p2 : Int) (p3 : Int) (by omega) (by omega) (by omega) (by omega) (by omega) (by omega) (by omega) (by omega))
        clear e1 e2 e3 hb0 hb1 hb2 hb3 hbj hk h9 h8
        generalize bodn p0 p1 p2 p3 = bb at *
        have hBw : B < w.heap.size := by
          obtain ⟨B', o', _, e, hB', _⟩ := HL.out.at_ (k := 4 * j) (by omega)
          simp at e; omega
        have pN : some B ≠ (Value.slice A' j c').ownBlock := fun e => by have := own_block HO.out B e.symm; omega
        have f0 := staysK (P := fun k => some k ≠ (Value.slice A' j c').ownBlock) d0 zB pN; have f1 := staysK (P := fun k => some k ≠ (Value.slice A' j c').ownBlock) d1 zB pN; have f2 := staysK (P := fun k => some k ≠ (Value.slice A' j c').ownBlock) d2 zB pN; have f3 := staysK (P := fun k => some k ≠ (Value.slice A' j c').ownBlock) d3 zB pN
        have s0 : (4 * (j : Int)).toNat = 4 * j := by omega
        have s1 : (4 * (j : Int) + 1).toNat = 4 * j + 1 := by omega
        have s2 : (4 * (j : Int) + 2).toNat = 4 * j + 2 := by omega
        have s3 : (4 * (j : Int) + 3).toNat = 4 * j + 3 := by omega
        have r0 : 0 ≤ 4 * (j : Int) := by omega
        have r1 : 4 * (j : Int) < (n : Int) := by omega
        have r2 : 0 ≤ 4 * (j : Int) + 1 := by omega
        have r3 : 4 * (j : Int) + 1 < (n : Int) := by omega
        have r4 : 0 ≤ 4 * (j : Int) + 2 := by omega
        have r5 : 4 * (j : Int) + 2 < (n : Int) := by omega
        have r6 : 0 ≤ 4 * (j : Int) + 3 := by omega
        have w1 : IntKind.i64.wrap (4 * (j : Int) + 1) = 4 * (j : Int) + 1 := by rw [IntWalk.i64_in _ (by have := HN.out; unfold maxLen at this; omega)]
        have w2 : IntKind.i64.wrap (4 * (j : Int) + 2) = 4 * (j : Int) + 2 := by rw [IntWalk.i64_in _ (by have := HN.out; unfold maxLen at this; omega)]
        have w4 : IntKind.i64.wrap (4 * (j : Int) + 4) = 4 * ((j : Int) + 1) := by rw [IntWalk.i64_in _ (by have := HN.out; unfold maxLen at this; omega)]; omega
        have hbl := bdc_len bb
        have HBB := Lib.hid (bdc_one bb)
        have hsz := HB.out.size
        clear d0 d1 d2 d3 pN
        go_upto_region 5 with fail
        go_region_held3 (fun w' => Kb (fun k => some k ≠ (Value.slice A' j c').ownBlock) wr w') (exact kbs) (first
          | (go_at_call 35; (with_reducible refine (C1.out _).mono ?_); rintro e w1 ⟨rfl, hb1⟩)
          | (refine step_append_rows bd_row rfl _ _ rfl w.heap.size _ j (((List.range j).map (bodj l)).map bdc) rfl (own_kept HO.out (bl_al (bl_trans (Below.drew (Below.refl _ _)) hb1) _)) _ 1 1 [bdc bb] rfl ((R0.new (s := 20) _ 56 (C := [bdc bb]) (by intro c hc; simp at hc; subst hc; rfl) (by rw [bdc_fold]; simp)).slice) HBB.out (by simp) (by have := HM.out; unfold maxLen; omega) (by have := HM.out; omega) (by have := hb1.size; simp at this; simp; omega) ?_; intro v5 w5 hown5 hgrow5 _; have hk5 := Kb.grow (P := fun k => some k ≠ (Value.slice A' j c').ownBlock) (w := wr) kbs hgrow5 (fun _ h => h)))
        rename_i hHeld
        clear hHeld
        have VB : Hid (Below w.heap.size w w5) := Below.grown (row := (Value.slice A' j c').ownBlock) (bl_al (bl_trans HB.out (bl_trans (Below.drew (Below.refl _ _)) hb1)) _) hgrow5 (by have := hb1.size; simp at this; simp; omega) (fun q hq => own_block HO.out q hq)
        have VO : Hid (w5.ownsRow w.heap.size 56 20 v5 (j + 1) (((List.range (j + 1)).map (bodj l)).map bdc).flatten) := by
          have e : ∀ p : Prop, p → Hid p := fun _ h => h
          refine e _ ?_
          rw [List.range_succ, List.map_append, List.map_append]
          show w5.ownsRow _ _ _ _ _ (_ ++ [bdc (bodj l j)]).flatten
          rw [HBJ.out]; exact hown5
        clear hk5 hown5 hgrow5 hb1 HO HB f0 f1 f2 f3
        go_wp2_with fail
        obtain ⟨g, rfl⟩ : ∃ g, gk = g + 1 := ⟨gk - 1, by have := HK.out; omega⟩
        go_roundg g
        case measure => omega
        case rel => exact ⟨j + 1, by have := HK.out; omega, by simp, VO.out, VB.out⟩
      · have t2 : ¬ (j : Int) < (m : Int) := by omega
        have hj : j = min (l.length / 4) m := by have := HLN.out; omega
        have hw := HO.out
        rw [← bods_take (m := m) (by omega), List.take_of_length_le (by rw [bods_len]; omega)] at hw
        have HW : Hid (wr.ownsRow w.heap.size 56 20 (.slice A' j c') (bods l m).length ((bods l m).map bdc).flatten) := by
          show World.ownsRow _ _ _ _ _ _ _
          rw [bods_len, ← hj]; exact hw
        clear hw hj hk h9 h8
        go_wp2_with fail
        go_returns
        exact ⟨⟨_, rfl, HW.out⟩, HB.out⟩
    · have t1 : ¬ 4 * (j : Int) + 3 < (n : Int) := by omega
      have hj : j = min (l.length / 4) m := by have := HLN.out; omega
      have hw := HO.out
      rw [← bods_take (m := m) (by omega), List.take_of_length_le (by rw [bods_len]; omega)] at hw
      have HW : Hid (wr.ownsRow w.heap.size 56 20 (.slice A' j c') (bods l m).length ((bods l m).map bdc).flatten) := by
        show World.ownsRow _ _ _ _ _ _ _
        rw [bods_len, ← hj]; exact hw
      clear hw hj hk h9 h8
      go_wp2_with fail
      go_returns
      exact ⟨⟨_, rfl, HW.out⟩, HB.out⟩
end Go.Proofs.YtjilnmpajhifcaaGreat
