/- A number's text: what Text comes to. -/
import Derived.Test.YtgiamnehncbihaaHexApp
import Derived.Test.YtgiamnehncbihaaFixOpen
import Derived.Test.YtgiamnehncbihaaRefSum
import Derived.Test.YtgiamnehncbihaaFixAny1
import Derived.Laws.IdiomStrings
namespace Go.Proofs.Ytgiamnehncbihaa
open Go.RowKit

/-- The digits as bytes. -/
def hexb (x : Nat) : UInt8 := if x < 10 then UInt8.ofNat (48 + x) else UInt8.ofNat (87 + x)
def hexB (w : Nat) : Nat → List UInt8
  | 0 => []
  | n + 1 => hexb (w / 16 ^ n % 16) :: hexB w n
theorem hexb_nat (x : Nat) (h : x < 16) : ((hexb x).toNat : Int) = hexd x := by
  unfold hexb hexd
  split
  · simp; omega
  · simp; omega
theorem hexB_nat (w n : Nat) : (hexB w n).map (fun b => (b.toNat : Int)) = hexs w n := by
  induction n with
  | zero => rfl
  | succ n ih => simp only [hexB, hexs, List.map_cons, ih]; rw [hexb_nat _ (Nat.mod_lt _ (by decide))]
theorem hexB_length (w n : Nat) : (hexB w n).length = n := by
  have := congrArg List.length (hexB_nat w n)
  rwa [List.length_map, hexs_length] at this
/-- Owned bytes as a string. -/
theorem own_string {base n : Nat} {v : Value} {W : World} (bs : List UInt8) (h : W.ownsRow base 5 1 v n ((bs.map (fun b => (b.toNat : Int))).map (Value.int .u8))) (hn : bs.length = n) (h0 : 0 < n) :
    (convert 34 9 v).run Try.prog W = .ok (.string ⟨bs.toArray⟩) W := by
  rcases h.2 with ⟨_, hz⟩ | ⟨g, cap, cur, rfl, _⟩
  · omega
  · have hc := h.cells (g := g) rfl
    subst hn
    refine run_convert_bytes_back W 34 9 5 ⟨g, 0, none⟩ cap bs Try.underlying34 Try.underlying5 Try.underlying9 (fun j hj => ?_)
    refine hc j _ ?_
    simp [List.getElem?_eq_getElem hj]
section
variable {base n : Nat} {T : TypeId} {v : Value} {xs : List Value} {W W' : World}
theorem own_step (h : W.ownsRow base T 1 v n xs) (g : Below W.heap.size W W') : W'.ownsRow base T 1 v n xs :=
  h.kept (row := none) ⟨g.os, g.tape, g.output, g.size, fun k hk _ => g.block k hk⟩ (by cases v.ownBlock <;> simp)
theorem grown_set (W : World) (A j : Nat) (x : Value) : W.grownBy (W.setCell ⟨A, j, none⟩ x) (some A) :=
  ⟨rfl, rfl, rfl, by simp [World.setCell], fun k _ hk => Below.heap_setCell _ _ _ _ (fun e => hk (by rw [e]))⟩
theorem own_set (h : W.ownsRow base T 1 v n xs) {A j : Nat} (hA : A < base) (x : Value) : (W.setCell ⟨A, j, none⟩ x).ownsRow base T 1 v n xs :=
  h.kept (grown_set W A j x) (by
    rcases e : v.ownBlock with _ | g
    · exact Or.inl rfl
    · right
      have := (h.lt g e).1
      intro k
      simp at k
      omega)
theorem far_row (h : W.ownsRow base T 1 v n xs) {A : Nat} (hA : A < base) : some A ≠ v.ownBlock := fun e => by
  have := (h.lt A e.symm).1
  omega
end
set_option maxRecDepth 20000 in
set_option maxHeartbeats 8000000 in
theorem text_neg_core (h l h' l' o1 o0 c : Int) (T L n : Nat) (hc : c < 0) (eT : IntKind.u64.wrap h' = (T : Int)) (eL : l' = (L : Int)) (hT : T < 18446744073709551616) (hL : L < 18446744073709551616) (hn : n ≤ 16) (bs : List UInt8) (hbs0 : bs = 45 :: hexB T n ++ [46] ++ hexB L 16) (w : World)
    (C1 : ∀ W, Calls Try.prog 48 #[.agg #[.int .i64 h, .int .u64 l]] W fun e w' => e = .returned (.bool true) ∧ Below W.heap.size W w')
    (C2 : ∀ W, Calls Try.prog 50 #[.int .i64 0] W fun e w' => e = .returned (.agg #[.int .i64 o1, .int .u64 o0]) ∧ Below W.heap.size W w')
    (C3 : ∀ W, Calls Try.prog 49 #[.agg #[.int .i64 h, .int .u64 l], .agg #[.int .i64 o1, .int .u64 o0]] W fun e w' => e = .returned (.int .i64 c) ∧ Below W.heap.size W w')
    (C4 : ∀ W, Calls Try.prog 46 #[.agg #[.int .i64 h, .int .u64 l]] W fun e w' => e = .returned (.agg #[.int .i64 h', .int .u64 l']) ∧ Below W.heap.size W w')
    (C5 : ∀ W, Calls Try.prog 52 #[.int .u64 (T : Int)] W fun e w' => e = .returned (.int .i64 (n : Int)) ∧ Below W.heap.size W w') :
    Calls Try.prog 15 #[.agg #[.int .i64 h, .int .u64 l]] w fun e w' => e = .returned (.string ⟨bs.toArray⟩) ∧ Below w.heap.size w w' := by
  have HBS := Lib.hid hbs0
  clear hbs0
  subst eL
  have K1 := Lib.hid C1; have K2 := Lib.hid C2; have K3 := Lib.hid C3; have K4 := Lib.hid C4; have K5 := Lib.hid C5
  clear C1 C2 C3 C4 C5
  obtain ⟨i0, hi, hz0, hz1, hz2⟩ := info_parts Try.info_u8
  go_enter Try.func15, Try.ntmps15
  go_wp2_with fail
  (with_reducible refine (K1.out _).mono ?_); rintro e w1 ⟨rfl, hb⟩
  obtain ⟨hcl1, hfr1⟩ := bcell hb
  have z1 : w.heap.size < w1.heap.size := by have hz := hb.size; simp at hz; omega
  have HB1 : Hid (Below w.heap.size w w1) := bl_trans (bl_al (Below.refl _ _) _) hb
  have ca1 : w1.cell? ⟨w.heap.size, 0, none⟩ = some (.int .i64 h) := by rw [hcl1 _ _ (by simp)]; simp [go_sem]
  have ca0 : w1.cell? ⟨w.heap.size, 1, none⟩ = some (.int .u64 l) := by rw [hcl1 _ _ (by simp)]; simp [go_sem]
  have fa : ∀ j, w1.frozen? ⟨w.heap.size, j, none⟩ = false := fun j => by rw [hfr1 _ _ (by simp), frozen?_alloc_cells]; simp [World.frozen?]
  clear hb hcl1 hfr1
  go_wp2_with fail
  go_region_held3 (fun w' => w'.cell? ⟨w.heap.size, 0, none⟩ = some (.int .i64 h) ∧ w'.cell? ⟨w.heap.size, 1, none⟩ = some (.int .u64 l)) (first | (simp [*, go_sem]; done))
    (first
      | (go_at_call 50; (with_reducible refine (K2.out _).mono ?_); rintro e w2 ⟨rfl, hb⟩; obtain ⟨hcl2, hfr2⟩ := bcell_drew hb; have z2 : w.heap.size < w2.heap.size := (by have hz := hb.size; simp at hz; omega); have HB2 : Hid (Below w1.heap.size w1 w2) := (bl_trans (Below.refl _ _).drew hb); clear hb)
      | (go_at_call 49; (with_reducible refine (K3.out _).mono ?_); rintro e w3 ⟨rfl, hb⟩; obtain ⟨hcl3, hfr3⟩ := bcell hb; have z3 : w.heap.size < w3.heap.size := (by have hz := hb.size; omega); have HB3 : Hid (Below w1.heap.size w1 w3) := (bl_trans HB2.out hb); clear hb))
  rename_i hHeld
  clear hHeld
  have ca1 : w3.cell? ⟨w.heap.size, 0, none⟩ = some (.int .i64 h) := by rw [hcl3 _ _ z2, hcl2 _ _ z1]; exact ca1
  have ca0 : w3.cell? ⟨w.heap.size, 1, none⟩ = some (.int .u64 l) := by rw [hcl3 _ _ z2, hcl2 _ _ z1]; exact ca0
  have fa : ∀ j, w3.frozen? ⟨w.heap.size, j, none⟩ = false := fun j => by rw [hfr3 _ _ z2, hfr2 _ _ z1]; exact fa j
  have HBA : Hid (Below (w.heap.size) w w3) := bl_trans HB1.out HB3.out
  clear hcl3 hfr3 hcl2 hfr2 HB1 HB2 HB3 z1 z2
  have hown0 := World.ownsRow_nil w3 (w.heap.size + 1) 5 1
  go_wp2_with (first
    | (at_builtin; refine wpList_append_own _ rfl _ _ 34 rfl (w.heap.size + 1) 5 i0 (.int .u8 0) 1 1 Try.underlying34 hi hz0 hz1 hz2 rfl (by decide) _ _ _ rfl (hown0.alloc _) ⟨w3.heap.size, 0, none⟩ 1 1 [.int .u8 45] rfl rfl ?c1 ?c2 ?c3 ?c4 ?c5 ?_)
    | fail)
  case c1 =>
    intro q u hq
    match q, hq with
    | 0, hq => simp at hq; subst hq; simp [Addr.add, go_sem]
  case c2 => intro u hu; simp at hu; subst hu; rfl
  case c3 => unfold maxLen; omega
  case c4 => omega
  case c5 => simp; omega
  intro v4 w4 hown4 hgrow4 _
  have ca1 : w4.cell? ⟨w.heap.size, 0, none⟩ = some (.int .i64 h) := hgrow4.cell (by simp [go_sem, *]) (by simp [Value.ownBlock])
  have ca0 : w4.cell? ⟨w.heap.size, 1, none⟩ = some (.int .u64 l) := hgrow4.cell (by simp [go_sem, *]) (by simp [Value.ownBlock])
  have fa : ∀ j, w4.frozen? ⟨w.heap.size, j, none⟩ = false := fun j => by
    rw [World.frozen?_of_block (hgrow4.block w.heap.size (by simp; omega) (by simp [Value.ownBlock])), frozen?_alloc_cells]; exact fa j
  have HB4 : Hid (Below w.heap.size w w4) := (bl_al HBA.out _).grown hgrow4 (by simp; omega) (fun k hk => by simp [Value.ownBlock] at hk)
  have z4 : w.heap.size + 1 ≤ w4.heap.size := Nat.le_trans (by simp; omega) hgrow4.size
  have HO4 := Lib.hid hown4
  clear hown0 hown4 hgrow4 HBA z3
  go_wp2_with fail
  (with_reducible refine (K4.out _).mono ?_); rintro e w5 ⟨rfl, hb⟩
  obtain ⟨hcl5, hfr5⟩ := bcell hb
  have ca1 : w5.cell? ⟨w.heap.size, 0, none⟩ = some (.int .i64 h) := by rw [hcl5 _ _ (by omega)]; exact ca1
  have ca0 : w5.cell? ⟨w.heap.size, 1, none⟩ = some (.int .u64 l) := by rw [hcl5 _ _ (by omega)]; exact ca0
  have fa : ∀ j, w5.frozen? ⟨w.heap.size, j, none⟩ = false := fun j => by rw [hfr5 _ _ (by omega)]; exact fa j
  have HB5 := Lib.hid (bl_trans HB4.out hb)
  have z5 : w.heap.size + 1 ≤ w5.heap.size := Nat.le_trans z4 hb.size
  have HO5 := Lib.hid (own_set (own_set (own_step HO4.out hb) (A := w.heap.size) (j := 0) (by omega) (.int .i64 h')) (A := w.heap.size) (j := 1) (by omega) (.int .u64 (L : Int)))
  clear hcl5 hfr5 hb HB4 HO4 z4
  go_upto_region 7 with fail
  refine name_world (P := fun W => Code.wp _ _ _ _ W) _ (fun R hR => ?_)
  rw [← hR] at HO5
  have cb1 : R.cell? ⟨w.heap.size, 0, none⟩ = some (.int .i64 h') := by rw [hR]; simp [go_sem, *]
  have cb0 : R.cell? ⟨w.heap.size, 1, none⟩ = some (.int .u64 (L : Int)) := by rw [hR]; simp [go_sem, *]
  have HBR : Hid (Below w.heap.size w R) := by rw [hR]; exact Below.setCell (Below.setCell HB5.out (by simp) _) (by simp) _
  have zR : w.heap.size + 1 ≤ R.heap.size := by rw [hR]; simpa using z5
  clear hR ca1 ca0 fa HB5 z5
  go_wp2_with fail
  (with_reducible refine (K5.out _).mono ?_); rintro e w6 ⟨rfl, hb⟩
  obtain ⟨hcl6, hfr6⟩ := bcell hb
  have cb1 : w6.cell? ⟨w.heap.size, 0, none⟩ = some (.int .i64 h') := by rw [hcl6 _ _ (by omega)]; exact cb1
  have cb0 : w6.cell? ⟨w.heap.size, 1, none⟩ = some (.int .u64 (L : Int)) := by rw [hcl6 _ _ (by omega)]; exact cb0
  have HB6 := Lib.hid (bl_trans HBR.out hb)
  have z6 : w.heap.size + 1 ≤ w6.heap.size := Nat.le_trans zR hb.size
  have HO6 := Lib.hid (own_step HO5.out hb)
  clear hcl6 hfr6 hb HBR HO5 zR
  go_wp2_with fail
  (refine (appendDigits_any (w.heap.size + 1) 1 n T [45] v4 hT hn (by omega) rfl w6 HO6.out z6).mono ?_); rintro e w7 ⟨v7, rfl, hown7, hb, z7⟩
  have cb0 : w7.cell? ⟨w.heap.size, 1, none⟩ = some (.int .u64 (L : Int)) := by rw [hb.cell (p := ⟨w.heap.size, 1, none⟩) (by simp)]; exact cb0
  have HB7 : Hid (Below w.heap.size w w7) := HB6.out.trans (hb.mono (by omega))
  clear hb HB6 HO6 z6 cb1
  go_wp2_with (first
    | (at_builtin; refine wpList_append_own _ rfl _ _ 34 rfl (w.heap.size + 1) 5 i0 (.int .u8 0) 1 1 Try.underlying34 hi hz0 hz1 hz2 rfl (by decide) _ _ _ rfl (hown7.alloc _) ⟨w7.heap.size, 0, none⟩ 1 1 [.int .u8 46] rfl rfl ?e1 ?e2 ?e3 ?e4 ?e5 ?_)
    | fail)
  case e1 =>
    intro q u hq
    match q, hq with
    | 0, hq => simp at hq; subst hq; simp [Addr.add, go_sem]
  case e2 => intro u hu; simp at hu; subst hu; rfl
  case e3 => unfold maxLen; omega
  case e4 => omega
  case e5 => simp; omega
  intro v8 w8 hown8 hgrow8 _
  have hfar := far_row (hown7.alloc (.cells #[.int .u8 46] 5)) (A := w.heap.size) (by omega)
  have hlt7 := (hown7.alloc (.cells #[.int .u8 46] 5)).lt
  have z7s : w.heap.size < w7.heap.size := z7
  have cb0 : w8.cell? ⟨w.heap.size, 1, none⟩ = some (.int .u64 (L : Int)) := hgrow8.cell (by simp [go_sem, *]) hfar
  have HB8 : Hid (Below w.heap.size w w8) := (bl_al HB7.out _).grown hgrow8 (by simp; omega) (fun k hk => by have := (hlt7 k hk).1; omega)
  have z8 : w.heap.size + 1 ≤ w8.heap.size := Nat.le_trans (by simp; omega) hgrow8.size
  have HO8 : Hid (w8.ownsRow (w.heap.size + 1) 5 1 v8 (1 + n + 1) ((([45] ++ hexs T n) ++ [46]).map (Value.int .u8))) := by
    show World.ownsRow _ _ _ _ _ _ _
    simpa using hown8
  clear hown7 hown8 hgrow8 hfar hlt7 HB7 z7 z7s
  go_wp2_with fail
  (refine (appendDigits_any (w.heap.size + 1) (1 + n + 1) 16 L (([45] ++ hexs T n) ++ [46]) v8 hL (by omega) (by omega) (by first | (simp [hexs_length]; done) | (simp [hexs_length]; omega)) w8 HO8.out z8).mono ?_); rintro e w9 ⟨v9, rfl, hown9, hb, z9⟩
  have HB9 : Hid (Below w.heap.size w w9) := HB8.out.trans (hb.mono (by omega))
  have hstr : (convert 34 9 v9).run Try.prog w9 = .ok (.string ⟨bs.toArray⟩) w9 := by
    refine own_string (base := w.heap.size + 1) (n := 1 + n + 1 + 16) _ ?_ (by rw [HBS.out]; first | (simp [hexB_length]; done) | (simp [hexB_length]; omega)) (by omega)
    have e : bs.map (fun b : UInt8 => (b.toNat : Int)) = ([45] ++ hexs T n ++ [46]) ++ hexs L 16 := by
      rw [HBS.out, ← hexB_nat, ← hexB_nat]; simp
    rw [e]; exact hown9
  clear hown9 hb HB8 HO8 z8 cb0
  go_wp2_with fail
  go_returns
  exact ⟨rfl, HB9.out⟩
set_option maxRecDepth 20000 in
set_option maxHeartbeats 8000000 in
theorem text_pos_core (h l o1 o0 c : Int) (T L n : Nat) (hc : ¬ c < 0) (eT : IntKind.u64.wrap h = (T : Int)) (eL : l = (L : Int)) (hT : T < 18446744073709551616) (hL : L < 18446744073709551616) (hn : n ≤ 16) (bs : List UInt8) (hbs0 : bs = hexB T n ++ [46] ++ hexB L 16) (w : World)
    (C1 : ∀ W, Calls Try.prog 48 #[.agg #[.int .i64 h, .int .u64 l]] W fun e w' => e = .returned (.bool true) ∧ Below W.heap.size W w')
    (C2 : ∀ W, Calls Try.prog 50 #[.int .i64 0] W fun e w' => e = .returned (.agg #[.int .i64 o1, .int .u64 o0]) ∧ Below W.heap.size W w')
    (C3 : ∀ W, Calls Try.prog 49 #[.agg #[.int .i64 h, .int .u64 l], .agg #[.int .i64 o1, .int .u64 o0]] W fun e w' => e = .returned (.int .i64 c) ∧ Below W.heap.size W w')
    (C5 : ∀ W, Calls Try.prog 52 #[.int .u64 (T : Int)] W fun e w' => e = .returned (.int .i64 (n : Int)) ∧ Below W.heap.size W w') :
    Calls Try.prog 15 #[.agg #[.int .i64 h, .int .u64 l]] w fun e w' => e = .returned (.string ⟨bs.toArray⟩) ∧ Below w.heap.size w w' := by
  have HBS := Lib.hid hbs0
  clear hbs0
  subst eL
  have K1 := Lib.hid C1; have K2 := Lib.hid C2; have K3 := Lib.hid C3; have K5 := Lib.hid C5
  clear C1 C2 C3 C5
  obtain ⟨i0, hi, hz0, hz1, hz2⟩ := info_parts Try.info_u8
  go_enter Try.func15, Try.ntmps15
  go_wp2_with fail
  (with_reducible refine (K1.out _).mono ?_); rintro e w1 ⟨rfl, hb⟩
  obtain ⟨hcl1, hfr1⟩ := bcell hb
  have z1 : w.heap.size < w1.heap.size := by have hz := hb.size; simp at hz; omega
  have HB1 : Hid (Below w.heap.size w w1) := bl_trans (bl_al (Below.refl _ _) _) hb
  have ca1 : w1.cell? ⟨w.heap.size, 0, none⟩ = some (.int .i64 h) := by rw [hcl1 _ _ (by simp)]; simp [go_sem]
  have ca0 : w1.cell? ⟨w.heap.size, 1, none⟩ = some (.int .u64 (L : Int)) := by rw [hcl1 _ _ (by simp)]; simp [go_sem]
  have fa : ∀ j, w1.frozen? ⟨w.heap.size, j, none⟩ = false := fun j => by rw [hfr1 _ _ (by simp), frozen?_alloc_cells]; simp [World.frozen?]
  clear hb hcl1 hfr1
  go_wp2_with fail
  go_region_held3 (fun w' => w'.cell? ⟨w.heap.size, 0, none⟩ = some (.int .i64 h) ∧ w'.cell? ⟨w.heap.size, 1, none⟩ = some (.int .u64 (L : Int))) (first | (simp [*, go_sem]; done))
    (first
      | (go_at_call 50; (with_reducible refine (K2.out _).mono ?_); rintro e w2 ⟨rfl, hb⟩; obtain ⟨hcl2, hfr2⟩ := bcell_drew hb; have z2 : w.heap.size < w2.heap.size := (by have hz := hb.size; simp at hz; omega); have HB2 : Hid (Below w1.heap.size w1 w2) := (bl_trans (Below.refl _ _).drew hb); clear hb)
      | (go_at_call 49; (with_reducible refine (K3.out _).mono ?_); rintro e w3 ⟨rfl, hb⟩; obtain ⟨hcl3, hfr3⟩ := bcell hb; have z3 : w.heap.size < w3.heap.size := (by have hz := hb.size; omega); have HB3 : Hid (Below w1.heap.size w1 w3) := (bl_trans HB2.out hb); clear hb))
  rename_i hHeld
  clear hHeld
  have ca1 : w3.cell? ⟨w.heap.size, 0, none⟩ = some (.int .i64 h) := by rw [hcl3 _ _ z2, hcl2 _ _ z1]; exact ca1
  have ca0 : w3.cell? ⟨w.heap.size, 1, none⟩ = some (.int .u64 (L : Int)) := by rw [hcl3 _ _ z2, hcl2 _ _ z1]; exact ca0
  have fa : ∀ j, w3.frozen? ⟨w.heap.size, j, none⟩ = false := fun j => by rw [hfr3 _ _ z2, hfr2 _ _ z1]; exact fa j
  have HBA : Hid (Below (w.heap.size) w w3) := bl_trans HB1.out HB3.out
  clear hcl3 hfr3 hcl2 hfr2 HB1 HB2 HB3 z1 z2
  have HBR := HBA
  have zR : w.heap.size + 1 ≤ w3.heap.size := z3
  have cb1 := ca1; have cb0 := ca0
  clear HBA z3 ca1 ca0 fa
  go_wp2_with fail
  (with_reducible refine (K5.out _).mono ?_); rintro e w6 ⟨rfl, hb⟩
  obtain ⟨hcl6, hfr6⟩ := bcell hb
  have cb1 : w6.cell? ⟨w.heap.size, 0, none⟩ = some (.int .i64 h) := by rw [hcl6 _ _ (by omega)]; exact cb1
  have cb0 : w6.cell? ⟨w.heap.size, 1, none⟩ = some (.int .u64 (L : Int)) := by rw [hcl6 _ _ (by omega)]; exact cb0
  have HB6 := Lib.hid (bl_trans HBR.out hb)
  have z6 : w.heap.size + 1 ≤ w6.heap.size := Nat.le_trans zR hb.size
  have HO6 := Lib.hid (World.ownsRow_nil w6 (w.heap.size + 1) 5 1)
  clear hcl6 hfr6 hb HBR zR
  go_wp2_with fail
  (refine (appendDigits_any (w.heap.size + 1) 0 n T [] (.slice none 0 0) hT hn (by omega) rfl w6 HO6.out z6).mono ?_); rintro e w7 ⟨v7, rfl, hown7, hb, z7⟩
  have cb0 : w7.cell? ⟨w.heap.size, 1, none⟩ = some (.int .u64 (L : Int)) := by rw [hb.cell (p := ⟨w.heap.size, 1, none⟩) (by simp)]; exact cb0
  have HB7 : Hid (Below w.heap.size w w7) := HB6.out.trans (hb.mono (by omega))
  clear hb HB6 HO6 z6 cb1
  go_wp2_with (first
    | (at_builtin; refine wpList_append_own _ rfl _ _ 34 rfl (w.heap.size + 1) 5 i0 (.int .u8 0) 1 1 Try.underlying34 hi hz0 hz1 hz2 rfl (by decide) _ _ _ rfl (hown7.alloc _) ⟨w7.heap.size, 0, none⟩ 1 1 [.int .u8 46] rfl rfl ?e1 ?e2 ?e3 ?e4 ?e5 ?_)
    | fail)
  case e1 =>
    intro q u hq
    match q, hq with
    | 0, hq => simp at hq; subst hq; simp [Addr.add, go_sem]
  case e2 => intro u hu; simp at hu; subst hu; rfl
  case e3 => unfold maxLen; omega
  case e4 => omega
  case e5 => simp; omega
  intro v8 w8 hown8 hgrow8 _
  have hfar := far_row (hown7.alloc (.cells #[.int .u8 46] 5)) (A := w.heap.size) (by omega)
  have hlt7 := (hown7.alloc (.cells #[.int .u8 46] 5)).lt
  have z7s : w.heap.size < w7.heap.size := z7
  have cb0 : w8.cell? ⟨w.heap.size, 1, none⟩ = some (.int .u64 (L : Int)) := hgrow8.cell (by simp [go_sem, *]) hfar
  have HB8 : Hid (Below w.heap.size w w8) := (bl_al HB7.out _).grown hgrow8 (by simp; omega) (fun k hk => by have := (hlt7 k hk).1; omega)
  have z8 : w.heap.size + 1 ≤ w8.heap.size := Nat.le_trans (by simp; omega) hgrow8.size
  have HO8 : Hid (w8.ownsRow (w.heap.size + 1) 5 1 v8 (0 + n + 1) ((([] ++ hexs T n) ++ [46]).map (Value.int .u8))) := by
    show World.ownsRow _ _ _ _ _ _ _
    simpa using hown8
  clear hown7 hown8 hgrow8 hfar hlt7 HB7 z7 z7s
  go_wp2_with fail
  (refine (appendDigits_any (w.heap.size + 1) (0 + n + 1) 16 L (([] ++ hexs T n) ++ [46]) v8 hL (by omega) (by omega) (by first | (simp [hexs_length]; done) | (simp [hexs_length]; omega)) w8 HO8.out z8).mono ?_); rintro e w9 ⟨v9, rfl, hown9, hb, z9⟩
  have HB9 : Hid (Below w.heap.size w w9) := HB8.out.trans (hb.mono (by omega))
  have hstr : (convert 34 9 v9).run Try.prog w9 = .ok (.string ⟨bs.toArray⟩) w9 := by
    refine own_string (base := w.heap.size + 1) (n := 0 + n + 1 + 16) _ ?_ (by rw [HBS.out]; first | (simp [hexB_length]; done) | (simp [hexB_length]; omega)) (by omega)
    have e : bs.map (fun b : UInt8 => (b.toNat : Int)) = ([] ++ hexs T n ++ [46]) ++ hexs L 16 := by
      rw [HBS.out, ← hexB_nat, ← hexB_nat]; simp
    rw [e]; exact hown9
  clear hown9 hb HB8 HO8 z8 cb0
  go_wp2_with fail
  go_returns
  exact ⟨rfl, HB9.out⟩
set_option maxRecDepth 20000 in
theorem text_none (h l : Int) (w : World)
    (C1 : ∀ W, Calls Try.prog 48 #[.agg #[.int .i64 h, .int .u64 l]] W fun e w' => e = .returned (.bool false) ∧ Below W.heap.size W w') :
    Calls Try.prog 15 #[.agg #[.int .i64 h, .int .u64 l]] w fun e w' => e = .returned (.string ⟨#[]⟩) ∧ Below w.heap.size w w' := by
  have K1 := Lib.hid C1
  clear C1
  go_enter Try.func15, Try.ntmps15
  go_wp2_with fail
  (with_reducible refine (K1.out _).mono ?_); rintro e w1 ⟨rfl, hb⟩
  have HB1 : Hid (Below w.heap.size w w1) := bl_trans (bl_al (Below.refl _ _) _) hb
  clear hb
  go_wp2_with fail
  go_returns
  exact ⟨rfl, HB1.out⟩
/-- A number's text, as bytes. -/
def txt (x : Int) : List UInt8 := (if x < 0 then [45] else []) ++ hexB (x.natAbs / 18446744073709551616) (hexc (x.natAbs / 18446744073709551616)) ++ [46] ++ hexB (x.natAbs % 18446744073709551616) 16
theorem text_any (x : Int) (hx : My x) (w : World) :
    Calls Try.prog 15 #[.agg #[.int .i64 (fh x), .int .u64 (fl x)]] w fun e w' => e = .returned (.string ⟨(txt x).toArray⟩) ∧ Below w.heap.size w w' := by
  have hx2 := hx
  obtain ⟨x0, x1⟩ := hx2
  have C1 := may_any x
  rw [decide_eq_true (show x ≠ -170141183460469231731687303715884105728 by omega)] at C1
  have C2 := int_any 0
  have C3 := fcmp_any x (intr 0)
  have i0 : intr 0 = 0 := by decide
  have hT : x.natAbs / 18446744073709551616 < 18446744073709551616 := by omega
  have hL : x.natAbs % 18446744073709551616 < 18446744073709551616 := by omega
  have C5 := count_any ((x.natAbs / 18446744073709551616 : Nat) : Int) ⟨by omega, by omega⟩
  rw [Int.toNat_natCast] at C5
  have hn := hexc_word hT
  by_cases c : x < 0
  · have e1 : icmp x (intr 0) < 0 := by rw [i0]; unfold icmp; rw [if_pos c]; decide
    exact text_neg_core _ _ _ _ _ _ _ _ _ _ e1 (by rw [ub_1, wd1]; unfold ub; omega) (by unfold fl; omega) hT hL hn _ (by unfold txt; rw [if_pos c]; rfl) w C1 C2 C3 (neg_any x hx) C5
  · have e1 : ¬ icmp x (intr 0) < 0 := by rw [i0]; unfold icmp; rw [if_neg c]; split <;> decide
    exact text_pos_core _ _ _ _ _ _ _ _ e1 (by rw [ub_1, wd1]; unfold ub; omega) (by unfold fl; omega) hT hL hn _ (by unfold txt; rw [if_neg c]; rfl) w C1 C2 C3 C5
theorem text_least (x : Int) (hx : Fx x) (hn : ¬ My x) (w : World) :
    Calls Try.prog 15 #[.agg #[.int .i64 (fh x), .int .u64 (fl x)]] w fun e w' => e = .returned (.string ⟨#[]⟩) ∧ Below w.heap.size w w' := by
  have C1 := may_any x
  rw [decide_eq_false (show ¬ x ≠ -170141183460469231731687303715884105728 by obtain ⟨_, _⟩ := hx; unfold My at hn; omega)] at C1
  exact text_none _ _ w C1
end Go.Proofs.Ytgiamnehncbihaa
