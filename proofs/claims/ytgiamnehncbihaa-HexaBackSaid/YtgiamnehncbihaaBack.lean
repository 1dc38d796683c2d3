/- A number is told again by its text; with a byte turned, by none or as another one: the walk. -/
import Derived.Test.YtgiamnehncbihaaRefuses
namespace Go.Proofs.Ytgiamnehncbihaa
open Go.RowKit
/-- Bytes of a string as a new row. -/
theorem to_bytes (T : List UInt8) (W : World) : ∃ (cap : Nat) (C : Array Value) (lo hi : Nat), (convert 9 34 (.string ⟨T.toArray⟩)).run Try.prog W = .ok (.slice (some ⟨W.heap.size, 0, none⟩) T.length cap) (W.drew.alloc (.cells C 5 (lo, hi))) ∧
    (∀ j (h : j < T.length), C[j]? = some (.int .u8 (T[j].toNat : Int))) ∧ T.length ≤ lo := by
  refine ⟨_, _, _, _, run_bytes_of_string W 9 34 5 ⟨T.toArray⟩ Try.underlying9 Try.underlying34 Try.underlying5, fun j h => ?_, ?_⟩
  · rw [bytesRow_at _ _ j (by simpa using h)]; rfl
  · unfold bytesRow; simp
theorem addr_at (B q : Nat) : (⟨B, 0, none⟩ : Addr).add q = ⟨B, q, none⟩ := by simp [Addr.add]; exact fun h => h.symm
theorem set_cell_of (C : Array Value) (lo hi j k : Nat) (T : List UInt8) (hC : ∀ j (h : j < T.length), C[j]? = some (.int .u8 (T[j].toNat : Int))) (b : UInt8) (W : World) (t : TypeId) (T2 : List UInt8) (h2 : T2 = T.set j b) (hk : k < T2.length) :
    ((W.drew.alloc (.cells C t (lo, hi))).setCell ⟨W.heap.size, j, none⟩ (.int .u8 (b.toNat : Int))).cell? ⟨W.heap.size, k, none⟩ = some (.int .u8 (T2[k].toNat : Int)) := by
  subst h2
  have hk2 : k < T.length := by simpa using hk
  have e : (W.drew.alloc (.cells C t (lo, hi))).cell? ⟨W.heap.size, k, none⟩ = some (.int .u8 (T[k].toNat : Int)) := by
    rw [← hC k hk2]; exact World.cell?_alloc_mark W.drew C t (lo, hi) k
  by_cases c : j = k
  · subst c
    rw [World.cell?_setCell_same _ _ _ e, List.getElem_set_self]
  · have c2 : ¬ k = j := fun h => c h.symm
    rw [List.getElem_set_ne c]
    rw [World.cell?_setCell_other _ _ _ _ (fun h => c (congrArg Addr.off h))]; exact e
set_option maxRecDepth 20000 in
set_option maxHeartbeats 8000000 in
theorem back_core (h l yh yl k : Int) (u : UInt8) (n j : Nat) (T T2 : List UInt8) (A1 A2 : ByteArray) (M : Value) (is : Bool) (hn : T.length = n) (n0 : 0 < n) (n1 : n ≤ 100) (k0 : 0 ≤ k) (k1 : k < 256) (hj : k.tmod (n : Int) = (j : Int)) (j1 : j < n) (h2 : T2 = T.set j u)
    (hq : ¬ T2 = T → is = true → ¬ (yh = h ∧ yl = l)) (w : World) (hm : w.cell? ⟨0, 0, none⟩ = some M)
    (H1 : ∀ W : World, (Op.stringOp .add ⟨T.toArray⟩ ⟨#[48]⟩).run Try.prog W = .ok (.string A1) W) (H2 : ∀ W : World, (Op.stringOp .add ⟨#[48]⟩ ⟨T.toArray⟩).run Try.prog W = .ok (.string A2) W)
    (C1 : ∀ W, Calls Try.prog 17 #[.agg #[.int .i64 h, .int .u64 l]] W fun e w' => e = .returned (.bool true) ∧ Below W.heap.size W w')
    (C2 : ∀ W, Calls Try.prog 15 #[.agg #[.int .i64 h, .int .u64 l]] W fun e w' => e = .returned (.string ⟨T.toArray⟩) ∧ Below W.heap.size W w')
    (C3 : ∀ W : World, W.cell? ⟨0, 0, none⟩ = some M → Calls Try.prog 13 #[.string ⟨T.toArray⟩] W fun e w' => e = .returned (.tuple #[.agg #[.int .i64 h, .int .u64 l], .bool true]) ∧ Below W.heap.size W w')
    (C4 : ∀ W : World, W.cell? ⟨0, 0, none⟩ = some M → Calls Try.prog 13 #[.string ⟨T2.toArray⟩] W fun e w' => e = .returned (.tuple #[.agg #[.int .i64 yh, .int .u64 yl], .bool is]) ∧ Below W.heap.size W w')
    (C5 : ∀ W : World, W.cell? ⟨0, 0, none⟩ = some M → Calls Try.prog 13 #[.string A1] W fun e w' => e = .returned (.tuple #[.agg #[.int .i64 0, .int .u64 0], .bool false]) ∧ Below W.heap.size W w')
    (C6 : ∀ W : World, W.cell? ⟨0, 0, none⟩ = some M → Calls Try.prog 13 #[.string A2] W fun e w' => e = .returned (.tuple #[.agg #[.int .i64 0, .int .u64 0], .bool false]) ∧ Below W.heap.size W w')
    (C7 : ∀ W : World, W.cell? ⟨0, 0, none⟩ = some M → Calls Try.prog 12 #[] W fun e w' => e = .returned (.bool true) ∧ Below W.heap.size W w') :
    Calls Try.prog 4 #[.agg #[.int .i64 h, .int .u64 l], .int .u8 k, .int .u8 (u.toNat : Int)] w fun e w' => e = .returned (.bool true) ∧ Below w.heap.size w w' := by
  have K1 := Lib.hid C1; have K2 := Lib.hid C2; have K3 := Lib.hid C3; have K4 := Lib.hid C4; have K5 := Lib.hid C5; have K6 := Lib.hid C6; have K7 := Lib.hid C7
  have HM := Lib.hid hm; have H2S := Lib.hid h2; have HQ := Lib.hid hq; have HN := Lib.hid hn
  have hT2 : T2.length = n := by rw [h2, List.length_set]; exact hn
  have HN2 := Lib.hid hT2
  clear C1 C2 C3 C4 C5 C6 C7 h2 hq hT2
  have zm : 0 < w.heap.size := World.block_lt_of_cell? _ _ hm
  clear hm
  have ne0 : ¬ ((n : Int) = 0) := by omega
  have wk : IntKind.i64.wrap k = k := IntWalk.i64_in _ (by omega)
  have hqx : ∀ W, (Go.binOp .neq 24 (.agg #[.int .i64 h, .int .u64 l]) (.agg #[.int .i64 h, .int .u64 l])).run Try.prog W = .ok (.bool false) W := ne_fix_false h l
  have hemp : ((⟨T.toArray⟩ : ByteArray).toList == (⟨#[]⟩ : ByteArray).toList) = false := by
    rw [Lib.toList_data, Lib.toList_data]
    rcases T with _ | ⟨c, T⟩
    · simp at hn; omega
    · rfl
  have es : (⟨T.toArray⟩ : ByteArray).toList = T := Lib.toList_data _
  have el : T.isEmpty = false := by
    rcases T with _ | ⟨c, T⟩
    · simp at hn; omega
    · rfl
  clear hn
  go_enter Try.func4, Try.ntmps4
  go_wp2_with fail
  (with_reducible refine (K1.out _).mono ?_); rintro e w1 ⟨rfl, hb⟩
  obtain ⟨hcl1, hfr1⟩ := bcell hb
  have a1 : w1.cell? ⟨w.heap.size, 0, none⟩ = some (.int .i64 h) := by rw [hcl1 _ _ (by simp)]; simp [go_sem]
  have b1 : w1.cell? ⟨w.heap.size, 1, none⟩ = some (.int .u64 l) := by rw [hcl1 _ _ (by simp)]; simp [go_sem]
  have z1 : w.heap.size < w1.heap.size := by have hz := hb.size; simp at hz; omega
  have HB1 := Lib.hid (bl_trans (bl_al (Below.refl _ _) _) hb)
  clear hb hcl1 hfr1
  go_wp2_with fail
  (with_reducible refine (K2.out _).mono ?_); rintro e w2 ⟨rfl, hb⟩
  obtain ⟨hcl2, hfr2⟩ := bcell hb
  have a2 : w2.cell? ⟨w.heap.size, 0, none⟩ = some (.int .i64 h) := by rw [hcl2 _ _ z1]; exact a1
  have b2 : w2.cell? ⟨w.heap.size, 1, none⟩ = some (.int .u64 l) := by rw [hcl2 _ _ z1]; exact b1
  have z2 : w.heap.size < w2.heap.size := Nat.lt_of_lt_of_le z1 hb.size
  have HB2 := Lib.hid (bl_trans HB1.out hb)
  have m2 : w2.cell? ⟨0, 0, none⟩ = some M := by rw [(bcell HB2.out).1 _ _ zm]; exact HM.out
  clear hb hcl2 hfr2 a1 b1 z1 HB1
  go_wp2_with fail
  (with_reducible refine (K3.out _ m2).mono ?_); rintro e w3 ⟨rfl, hb⟩
  obtain ⟨hcl3, hfr3⟩ := bcell hb
  have a3 : w3.cell? ⟨w.heap.size, 0, none⟩ = some (.int .i64 h) := by rw [hcl3 _ _ z2]; exact a2
  have b3 : w3.cell? ⟨w.heap.size, 1, none⟩ = some (.int .u64 l) := by rw [hcl3 _ _ z2]; exact b2
  have z3 : w.heap.size < w3.heap.size := Nat.lt_of_lt_of_le z2 hb.size
  have HB3 := Lib.hid (bl_trans HB2.out hb)
  clear hb hcl3 hfr3 a2 b2 z2 HB2 m2
  go_upto_region 7 with fail
  clear es hemp el hqx
  refine name_world (P := fun W => Code.wp _ _ _ _ W) _ (fun R hR => ?_)
  have zR : w.heap.size < R.heap.size := by rw [hR]; simp; omega
  have aR : R.cell? ⟨w.heap.size, 0, none⟩ = some (.int .i64 h) := by rw [hR]; simp [go_sem, *]
  have bR : R.cell? ⟨w.heap.size, 1, none⟩ = some (.int .u64 l) := by rw [hR]; simp [go_sem, *]
  have HBR : Hid (Below w.heap.size w R) := by rw [hR]; show Below _ _ _; repeat (first | with_reducible exact HB3.out | refine Below.setCell ?_ _ _ (by simp; omega) | with_reducible refine bl_al ?_ _)
  clear hR a3 b3 z3 HB3
  obtain ⟨cap, C, lo, hi, hconv, hC, hlo⟩ := to_bytes T R
  rw [HN.out] at hconv hlo
  have mR : R.cell? ⟨0, 0, none⟩ = some M := by rw [(bcell HBR.out).1 _ _ zm]; exact HM.out
  have hCj : C[j]? = some (.int .u8 (T[j]'(by rw [HN.out]; exact j1)).toNat) := hC j _
  have hlj : j < lo := by omega
  have j2 : (j : Int) < (n : Int) := by omega
  have zmR : 0 < R.heap.size := Nat.lt_of_lt_of_le zm HBR.out.size
  go_upto_region 8 with fail
  clear hconv
  refine name_world (P := fun W => Code.wp _ _ _ _ W) _ (fun Q hQ => ?_)
  have cQ : Q.cell? ⟨R.heap.size, j, none⟩ = some (.int .u8 (T[j]'(by rw [HN.out]; exact j1)).toNat) := by rw [hQ, ← hCj]; exact World.cell?_alloc_mark R.drew C _ (lo, hi) j
  have fQ : Q.frozen? ⟨R.heap.size, j, none⟩ = false := by
    rw [hQ]; refine (World.frozen?_alloc_mark R.drew C _ lo hi j).trans ?_
    rw [decide_eq_false (by omega)]; rfl
  have zQ : R.heap.size < Q.heap.size := by rw [hQ]; simp
  have zQa : w.heap.size < Q.heap.size := by omega
  have aQ : Q.cell? ⟨w.heap.size, 0, none⟩ = some (.int .i64 h) := by rw [hQ]; simp [go_sem, *]
  have bQ : Q.cell? ⟨w.heap.size, 1, none⟩ = some (.int .u64 l) := by rw [hQ]; simp [go_sem, *]
  have mQ : Q.cell? ⟨0, 0, none⟩ = some M := by rw [hQ]; simp [go_sem, *]
  have HBQ : Hid (Below w.heap.size w Q) := by rw [hQ]; exact bl_al HBR.out.drew _
  have cells : ∀ q (hq : q < T2.length), (Q.setCell ⟨R.heap.size, j, none⟩ (.int .u8 (u.toNat : Int))).cell? ⟨R.heap.size, q, none⟩ = some (.int .u8 (T2[q].toNat : Int)) := fun q hq => by rw [hQ]; exact set_cell_of C lo hi j q T hC u R _ T2 H2S.out hq
  clear hQ hC hCj aR bR mR hlo hlj
  go_upto_region 9 with fail
  refine name_world (P := fun W => Code.wp _ _ _ _ W) _ (fun V hV => ?_)
  rw [← hV] at cells
  have zV : R.heap.size < V.heap.size := by rw [hV]; simpa using zQ
  have zVa : w.heap.size < V.heap.size := by omega
  have nR : ¬ R.heap.size = w.heap.size := by omega
  have nM : ¬ R.heap.size = 0 := by omega
  have aV : V.cell? ⟨w.heap.size, 0, none⟩ = some (.int .i64 h) := by rw [hV]; simp [go_sem, *]
  have bV : V.cell? ⟨w.heap.size, 1, none⟩ = some (.int .u64 l) := by rw [hV]; simp [go_sem, *]
  have mV : V.cell? ⟨0, 0, none⟩ = some M := by rw [hV]; simp [go_sem, *]
  have HBV : Hid (Below w.heap.size w V) := by rw [hV]; exact Below.setCell HBQ.out (by show _ ≤ R.heap.size; exact Nat.le_of_lt zR) _
  clear hV cQ fQ aQ bQ mQ HBQ zQ zQa
  have hcv : (convert 34 9 (.slice (some ⟨R.heap.size, 0, none⟩) n cap)).run Try.prog V = .ok (.string ⟨T2.toArray⟩) V := by
    have := run_convert_bytes_back (P := Try.prog) V 34 9 5 ⟨R.heap.size, 0, none⟩ cap T2 Try.underlying34 Try.underlying5 Try.underlying9 (fun q hq => by rw [addr_at]; exact cells q hq)
    rw [HN2.out] at this; exact this
  go_wp2_with fail
  (with_reducible refine (K4.out _ mV).mono ?_); rintro e w4 ⟨rfl, hb⟩
  clear hcv
  obtain ⟨hcl4, hfr4⟩ := bcell hb
  have a4 : w4.cell? ⟨w.heap.size, 0, none⟩ = some (.int .i64 h) := by rw [hcl4 _ _ zVa]; exact aV
  have b4 : w4.cell? ⟨w.heap.size, 1, none⟩ = some (.int .u64 l) := by rw [hcl4 _ _ zVa]; exact bV
  have cells4 : ∀ q (hq : q < T2.length), w4.cell? ⟨R.heap.size, q, none⟩ = some (.int .u8 (T2[q].toNat : Int)) := fun q hq => by rw [hcl4 _ _ zV]; exact cells q hq
  have z4 : R.heap.size < w4.heap.size := Nat.lt_of_lt_of_le zV hb.size
  have z4a : w.heap.size < w4.heap.size := by omega
  have HB4 := Lib.hid (bl_trans HBV.out hb)
  have m4 : w4.cell? ⟨0, 0, none⟩ = some M := by rw [(bcell HB4.out).1 _ _ zm]; exact HM.out
  have zm4 : 0 < w4.heap.size := Nat.lt_of_lt_of_le zm HB4.out.size
  clear hb hcl4 hfr4 aV bV mV HBV zV zVa cells
  go_wp2_with fail
  (with_reducible refine (K5.out _ (by simp [go_sem, *])).mono ?_); rintro e w5 ⟨rfl, hb⟩
  obtain ⟨hcl5, hfr5⟩ := bcell hb
  have y5 : w5.cell? ⟨w4.heap.size, 0, none⟩ = some (.int .i64 yh) := by rw [hcl5 _ _ (by simp)]; simp [go_sem]
  have v5 : w5.cell? ⟨w4.heap.size, 1, none⟩ = some (.int .u64 yl) := by rw [hcl5 _ _ (by simp)]; simp [go_sem]
  have a5 : w5.cell? ⟨w.heap.size, 0, none⟩ = some (.int .i64 h) := by rw [hcl5 _ _ (by simp; omega)]; simp [go_sem, *]
  have b5 : w5.cell? ⟨w.heap.size, 1, none⟩ = some (.int .u64 l) := by rw [hcl5 _ _ (by simp; omega)]; simp [go_sem, *]
  have cells5 : ∀ q (hq : q < T2.length), w5.cell? ⟨R.heap.size, q, none⟩ = some (.int .u8 (T2[q].toNat : Int)) := fun q hq => by rw [hcl5 _ _ (by simp; omega)]; rw [World.cell?_alloc_lt _ _ _ z4]; exact cells4 q hq
  have z5 : w4.heap.size < w5.heap.size := by have hz := hb.size; simp at hz; omega
  have z5a : w.heap.size < w5.heap.size := by omega
  have z5b : R.heap.size < w5.heap.size := by omega
  have HB5 := Lib.hid (bl_trans (bl_al HB4.out _) hb)
  have m5 : w5.cell? ⟨0, 0, none⟩ = some M := by rw [(bcell HB5.out).1 _ _ zm]; exact HM.out
  have zm5 : 0 < w5.heap.size := Nat.lt_of_lt_of_le zm HB5.out.size
  clear hb hcl5 hfr5 a4 b4 cells4 HB4 m4
  go_wp2_with fail
  (with_reducible refine (K6.out _ (by simp [go_sem, *])).mono ?_); rintro e w6 ⟨rfl, hb⟩
  obtain ⟨hcl6, hfr6⟩ := bcell hb
  have y6 : w6.cell? ⟨w4.heap.size, 0, none⟩ = some (.int .i64 yh) := by rw [hcl6 _ _ (by simp; omega)]; simp [go_sem, *]
  have v6 : w6.cell? ⟨w4.heap.size, 1, none⟩ = some (.int .u64 yl) := by rw [hcl6 _ _ (by simp; omega)]; simp [go_sem, *]
  have a6 : w6.cell? ⟨w.heap.size, 0, none⟩ = some (.int .i64 h) := by rw [hcl6 _ _ (by simp; omega)]; simp [go_sem, *]
  have b6 : w6.cell? ⟨w.heap.size, 1, none⟩ = some (.int .u64 l) := by rw [hcl6 _ _ (by simp; omega)]; simp [go_sem, *]
  have cells6 : ∀ q (hq : q < T2.length), w6.cell? ⟨R.heap.size, q, none⟩ = some (.int .u8 (T2[q].toNat : Int)) := fun q hq => by rw [hcl6 _ _ (by simp; omega)]; rw [World.cell?_alloc_lt _ _ _ z5b]; exact cells5 q hq
  have z6 : w5.heap.size < w6.heap.size := by have hz := hb.size; simp at hz; omega
  have HB6 := Lib.hid (bl_trans (bl_al HB5.out _) hb)
  have m6 : w6.cell? ⟨0, 0, none⟩ = some M := by rw [(bcell HB6.out).1 _ _ zm]; exact HM.out
  clear hb hcl6 hfr6 a5 b5 cells5 HB5 m5 y5 v5
  go_upto_region 12 with fail
  refine name_world (P := fun W => Code.wp _ _ _ _ W) _ (fun Y hY => ?_)
  have zmy : 0 < w6.heap.size := Nat.lt_of_lt_of_le zm HB6.out.size
  have ay : Y.cell? ⟨w.heap.size, 0, none⟩ = some (.int .i64 h) := by rw [hY]; rw [World.cell?_alloc_lt _ _ _ (by show w.heap.size < w6.heap.size; omega)]; exact a6
  have by_ : Y.cell? ⟨w.heap.size, 1, none⟩ = some (.int .u64 l) := by rw [hY]; rw [World.cell?_alloc_lt _ _ _ (by show w.heap.size < w6.heap.size; omega)]; exact b6
  have yy : Y.cell? ⟨w4.heap.size, 0, none⟩ = some (.int .i64 yh) := by rw [hY]; rw [World.cell?_alloc_lt _ _ _ (by show w4.heap.size < w6.heap.size; omega)]; exact y6
  have vy : Y.cell? ⟨w4.heap.size, 1, none⟩ = some (.int .u64 yl) := by rw [hY]; rw [World.cell?_alloc_lt _ _ _ (by show w4.heap.size < w6.heap.size; omega)]; exact v6
  have my : Y.cell? ⟨0, 0, none⟩ = some M := by rw [hY]; rw [World.cell?_alloc_lt _ _ _ (by show 0 < w6.heap.size; exact zmy)]; exact m6
  have HBY : Hid (Below w.heap.size w Y) := by rw [hY]; exact bl_al HB6.out _
  have hcy : (convert 34 9 (.slice (some ⟨R.heap.size, 0, none⟩) n cap)).run Try.prog Y = .ok (.string ⟨T2.toArray⟩) Y := by
    have := run_convert_bytes_back (P := Try.prog) Y 34 9 5 ⟨R.heap.size, 0, none⟩ cap T2 Try.underlying34 Try.underlying5 Try.underlying9 (fun q hq => by
      rw [addr_at, hY, World.cell?_alloc_lt _ _ _ (by show R.heap.size < w6.heap.size; omega)]; exact cells6 q hq)
    rw [HN2.out] at this; exact this
  clear hY a6 b6 y6 v6 m6 cells6 HB6
  have hd : ¬ T2 = T → is = true → ∀ W, (Go.binOp .neq 24 (.agg #[.int .i64 yh, .int .u64 yl]) (.agg #[.int .i64 h, .int .u64 l])).run Try.prog W = .ok (.bool true) W := fun x y W => by rw [ne_fix, decide_eq_false (HQ.out x y)]; rfl
  clear HQ
  by_cases c : T2 = T
  · clear hd H2S HN2
    subst c
    go_wp2_with fail
    (with_reducible refine (K7.out _ my).mono ?_); rintro e w7 ⟨rfl, hb⟩
    have HB7 := Lib.hid (bl_trans HBY.out hb)
    clear hb
    go_wp2_with fail
    go_returns
    exact ⟨rfl, HB7.out⟩
  · cases is
    · clear hd
      go_wp2_with fail
      (with_reducible refine (K7.out _ my).mono ?_); rintro e w7 ⟨rfl, hb⟩
      have HB7 := Lib.hid (bl_trans HBY.out hb)
      clear hb
      go_wp2_with fail
      go_returns
      exact ⟨rfl, HB7.out⟩
    · have hd := hd c rfl
      go_wp2_with fail
      (with_reducible refine (K7.out _ my).mono ?_); rintro e w7 ⟨rfl, hb⟩
      have HB7 := Lib.hid (bl_trans HBY.out hb)
      clear hb
      go_wp2_with fail
      go_returns
      exact ⟨rfl, HB7.out⟩
set_option maxRecDepth 20000 in
theorem back_none (h l k u : Int) (M : Value) (w : World) (hm : w.cell? ⟨0, 0, none⟩ = some M)
    (C1 : ∀ W, Calls Try.prog 17 #[.agg #[.int .i64 h, .int .u64 l]] W fun e w' => e = .returned (.bool false) ∧ Below W.heap.size W w')
    (C2 : ∀ W, Calls Try.prog 15 #[.agg #[.int .i64 h, .int .u64 l]] W fun e w' => e = .returned (.string ⟨#[]⟩) ∧ Below W.heap.size W w')
    (C7 : ∀ W : World, W.cell? ⟨0, 0, none⟩ = some M → Calls Try.prog 12 #[] W fun e w' => e = .returned (.bool true) ∧ Below W.heap.size W w') :
    Calls Try.prog 4 #[.agg #[.int .i64 h, .int .u64 l], .int .u8 k, .int .u8 u] w fun e w' => e = .returned (.bool true) ∧ Below w.heap.size w w' := by
  have K1 := Lib.hid C1; have K2 := Lib.hid C2; have K7 := Lib.hid C7
  clear C1 C2 C7
  have zm : 0 < w.heap.size := World.block_lt_of_cell? _ _ hm
  go_enter Try.func4, Try.ntmps4
  go_wp2_with fail
  (with_reducible refine (K1.out _).mono ?_); rintro e w1 ⟨rfl, hb⟩
  obtain ⟨hcl1, hfr1⟩ := bcell hb
  have a1 : w1.cell? ⟨w.heap.size, 0, none⟩ = some (.int .i64 h) := by rw [hcl1 _ _ (by simp)]; simp [go_sem]
  have b1 : w1.cell? ⟨w.heap.size, 1, none⟩ = some (.int .u64 l) := by rw [hcl1 _ _ (by simp)]; simp [go_sem]
  have HB1 := Lib.hid (bl_trans (bl_al (Below.refl _ _) _) hb)
  clear hb hcl1 hfr1
  go_wp2_with fail
  (with_reducible refine (K2.out _).mono ?_); rintro e w2 ⟨rfl, hb⟩
  have HB2 := Lib.hid (bl_trans HB1.out hb)
  have m2 : w2.cell? ⟨0, 0, none⟩ = some M := by rw [(bcell HB2.out).1 _ _ zm]; exact hm
  clear hb HB1
  go_wp2_with fail
  (with_reducible refine (K7.out _ m2).mono ?_); rintro e w5 ⟨rfl, hb⟩
  have HB5 := Lib.hid (bl_trans HB2.out hb)
  clear hb
  go_wp2_with fail
  go_returns
  exact ⟨rfl, HB5.out⟩
/-- A nought more behind, or ahead: no text. -/
theorem no_more (y : Int) (hy : My y) : ∀ x, My x → txt y ++ [48] ≠ txt x := by
  refine no_tail _ ?_
  obtain ⟨l, r, e, _, hr, _, h⟩ := txt_cut y hy
  rw [e, List.append_assoc, List.cons_append, tail46_at l (r ++ [48]) (fun b hb => by
    rcases List.mem_append.1 hb with hb | hb
    · exact h b hb
    · simp at hb; subst hb; decide), List.length_append, hr]
  decide
theorem readw_nought (bs : List UInt8) : readw 0 (48 :: bs) = readw 0 bs := by
  show readw (bits .or .u64 (((0 * 16 % 18446744073709551616 : Nat)) : Int) ((digv (48 : UInt8).toNat : Nat) : Int)).toNat bs = _
  rw [show (bits .or .u64 (((0 * 16 % 18446744073709551616 : Nat)) : Int) ((digv (48 : UInt8).toNat : Nat) : Int)).toNat = 0 by decide]
theorem pnum_nought (l r : List UInt8) (b : UInt8) (hb : b ≠ 45) (h : ∀ c ∈ b :: l, c ≠ 46) : pnum (48 :: (b :: l ++ 46 :: r)) = pnum (b :: l ++ 46 :: r) := by
  have e1 : pnum (b :: l ++ 46 :: r) = pnum0 (b :: l, r, true) := by
    unfold pnum
    rw [List.cons_append, hasP_pos b _ hb, trimP_pos b _ hb, if_neg Bool.false_ne_true, ← List.cons_append, cut_dot _ _ h]
  have h48 : ∀ c ∈ 48 :: b :: l, c ≠ 46 := by
    intro c hc
    rcases List.mem_cons.1 hc with rfl | hc
    · decide
    · exact h c hc
  have e2 : pnum (48 :: (b :: l ++ 46 :: r)) = pnum0 (48 :: b :: l, r, true) := by
    unfold pnum
    rw [hasP_pos 48 _ (by decide), trimP_pos 48 _ (by decide), if_neg Bool.false_ne_true, ← List.cons_append, cut_dot _ _ h48]
  rw [e1, e2]
  unfold pnum0
  rw [readw_nought]
theorem no_nought (y : Int) (hy : My y) : ∀ x, My x → 48 :: txt y ≠ txt x := by
  intro x hx e
  obtain ⟨p, l, r, ey, hp, hl, hr, h1, h2⟩ := txt_form y hy
  obtain ⟨b, l', rfl⟩ : ∃ b l', l = b :: l' := by
    rcases l with _ | ⟨b, l'⟩
    · exact absurd rfl hl
    · exact ⟨b, l', rfl⟩
  rcases hp with rfl | rfl
  · have hb := h1 b (by simp)
    have en : pnum (48 :: txt y) = pnum (txt y) := by
      rw [ey]; exact pnum_nought l' r b hb.1 (fun c hc => (h1 c hc).2)
    rw [e, pnum_txt x hx, pnum_txt y hy] at en
    rw [en] at e
    have := congrArg List.length e
    simp at this
  · obtain ⟨p, m, q, ex, hp, hm, hq, g1, g2⟩ := txt_form x hx
    rw [ey, ex] at e
    rcases hp with rfl | rfl
    · have h45 : (45 : UInt8) ∈ m ++ 46 :: q := by
        have : (45 : UInt8) ∈ 48 :: ([45] ++ b :: l' ++ 46 :: r) := by simp
        rw [e] at this; simpa using this
      rcases List.mem_append.1 h45 with g | g
      · exact (g1 _ g).1 rfl
      · rcases List.mem_cons.1 g with g | g
        · exact absurd g (by decide)
        · exact (g2 _ g).1 rfl
    · have := congrArg List.head? e
      simp at this
theorem fx_words {x y : Int} (h : fh x = fh y ∧ fl x = fl y) : x = y := by
  obtain ⟨a, b⟩ := h
  unfold fh at a; unfold fl at b; omega
theorem back_walk (x k v m : Int) (w : World) (hx : Fx x) (k0 : 0 ≤ k) (k1 : k < 256) (v0 : 0 ≤ v) (v1 : v < 256) (hm : w.cell? ⟨0, 0, none⟩ = some (.int .i64 m)) :
    Calls Try.prog 4 #[.agg #[.int .i64 (fh x), .int .u64 (fl x)], .int .u8 k, .int .u8 v] w fun e w' => e = .returned (.bool true) ∧ Below w.heap.size w w' := by
  by_cases c : My x
  · have hl := txt_len x c
    have hs := txt_size x c
    obtain ⟨j, hj⟩ := Int.eq_ofNat_of_zero_le (Int.tmod_nonneg ((txt x).length : Int) k0)
    have j1 : j < (txt x).length := by have := Int.tmod_lt_of_pos k (show (0 : Int) < ((txt x).length : Int) by omega); omega
    obtain ⟨u, rfl⟩ : ∃ u : UInt8, v = (u.toNat : Int) := ⟨UInt8.ofNat v.toNat, by simp; omega⟩
    have CP := parse_gen ⟨((txt x).set j u).toArray⟩ (by rw [mk_size]; simp; omega) m
    rw [show (⟨((txt x).set j u).toArray⟩ : ByteArray).data.toList = (txt x).set j u from rfl] at CP
    have hq : ¬ (txt x).set j u = txt x → (txtF (pnum ((txt x).set j u)) == (txt x).set j u) = true → ¬ ((if (txtF (pnum ((txt x).set j u)) == (txt x).set j u) then fh (pnum ((txt x).set j u)) else 0) = fh x ∧ (if (txtF (pnum ((txt x).set j u)) == (txt x).set j u) then fl (pnum ((txt x).set j u)) else 0) = fl x) := by
      intro ne is
      rw [is, if_pos rfl, if_pos rfl]
      intro e
      have e1 := fx_words e
      obtain ⟨z, hz, ez⟩ := (parse_is _).1 is
      rw [ez, pnum_txt z hz] at e1
      exact ne (by rw [ez, e1])
    exact back_core (fh x) (fl x) _ _ k u (txt x).length j (txt x) ((txt x).set j u) ⟨(txt x ++ [48]).toArray⟩ ⟨(48 :: txt x).toArray⟩ (.int .i64 m) _ rfl (by omega) (by omega) k0 k1 hj j1 rfl hq w hm
      (cat_lists _ [48] _ rfl (by omega) (by decide)) (cat_lists [48] _ _ rfl (by decide) (by omega))
      (rmay_true c) (text_any x c) (fun W hW => parse_txt x c _ rfl (by rw [mk_size]; omega) m W hW) (fun W hW => CP W hW)
      (fun W hW => parse_no _ (no_more x c) (by rw [mk_size]; simp; omega) m W hW) (fun W hW => parse_no _ (no_nought x c) (by rw [mk_size]; simp; omega) m W hW) (fun W hW => hawake_any m W hW)
  · exact back_none _ _ _ _ _ w hm (rmay_false hx c) (text_least x hx c) (fun W hW => hawake_any m W hW)
open Go.ChangeShapes Go.WideShapes Go.ChangeAt Go.RowKit Go.Joins
set_option maxRecDepth 100000 in
theorem hexaBack_lifted (os : Os) (started : os.Started) (H : Type) (enc : TypeId × Value → H) :
    ReturnsInHanded {} Try.checked os 4 .any (Rows.hexaBackSpec.pre6 enc Try.prog Try.f4 Rows.hexaBackRow.domain false) (Rows.hexaBackSpec.post enc Try.prog Try.f4 false true false false) := by
  refine returnsInHanded_of_change_shaped (C := Try.checked) Try.own started (by kernel_rfl) Try.func4
    (ChangeSpec.witness6 (enc := enc) (C := Try.checked) false ⟨#[], #[.agg #[.int .i64 0, .int .u64 0], .int .u8 0, .int .u8 0], []⟩ 8 (by kernel_rfl) (by kernel_rfl) (by kernel_rfl) (by kernel_rfl)) ?_
  intro W base args ds gs before hval0 hW hcnd _ hsh _
  have hval : ∀ (j : Nat) t v, Try.f4.params[j]? = some t → args[j]? = some v → Value.okWide Try.prog W .any base t v := hval0
  have hW' := hW
  obtain ⟨p, q, hA0, hV, rfl, hfz, hnd⟩ := hW
  have hA : DataW.TrodAll enc Try.prog W 0 (fun _ => true) true Try.f4.params.toList args.toList ds p := hA0
  rw [Try.params4] at hA hval
  obtain ⟨v0, v1, v2, d0, d1, d2, p0, p1, p2, rfl, rfl, rfl, h0, h1, h2⟩ := trodAll_three hA
  obtain ⟨rfl, rfl⟩ := trodVars_none hV
  obtain ⟨x, rfl, rfl, rfl, k00⟩ := open_fix (hval 0 24 v0 rfl rfl) h0
  obtain ⟨n, rfl, rfl, rfl, k10⟩ := open_int Try.underlying5 (hval 1 5 v1 rfl rfl) h1
  obtain ⟨b, rfl, rfl, rfl, k20⟩ := open_int Try.underlying5 (hval 2 5 v2 rfl rfl) h2
  obtain ⟨m, hm⟩ := maxlen_cell W hsh
  clear hA0 hval0
  simp only [List.append_nil] at hW'
  refine (back_walk x n b m W k00 (wf_u8 k10).1 (wf_u8 k10).2 (wf_u8 k20).1 (wf_u8 k20).2 hm).mono fun e W' ⟨he, hb⟩ => ?_
  subst he
  exact ⟨_, rfl, _, _, _, [], [], [], hW', trodAll_mk1 (shut_bool Try.underlying4 _), trodAll_mk3 (shut_fix k00) (shut_int Try.underlying5 k10) (shut_int Try.underlying5 k20), rfl, hb.frame _, fun h => by cases h⟩
theorem hexaBack_holds : Rows.HexaBackSaid :=
  OpenClaim.holds_of_wide 4 Try.f4 rfl rfl rfl rfl rfl rfl rfl ⟨rfl, rfl, rfl, rfl, rfl⟩ rfl rfl rfl rfl rfl (by kernel_rfl) Try.func4 (by kernel_rfl)
    (of_decide_eq_true (by kernel_rfl)) (by unfold Func.isWrapper; first | (rw [if_pos (by decide +kernel)]; kernel_rfl) | (rw [if_neg (by decide +kernel)]; exact ⟨rfl, rfl⟩))
    (fun os started H enc _ => hexaBack_lifted os started H enc)
end Go.Proofs.Ytgiamnehncbihaa
