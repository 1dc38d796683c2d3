/- What the laws of tree want beside their walks: what Build and Width tell, the law's own awake. -/
import Derived.Test.YtjilnmpajhifcaaGreatZzRow
import Derived.Test.YtjilnmpajhifcaaGreatZzSrtA
import Derived.Test.YtjilnmpajhifcaaGreatTreeNum
import Derived.Test.YtjilnmpajhifcaaGreatZzLimA
import Derived.Test.YtjilnmpajhifcaaGreatZzLimC
import Derived.Test.YtjilnmpajhifcaaGreatZzRefA
import Derived.ChangeKeysEq
namespace Go.Proofs.YtjilnmpajhifcaaGreat
open Go.RowKit
theorem nd_row : RowT 38 74 8 64 := RowT.mk' Tryz.underlying38 (z := .agg #[.int .i64 0, .int .u64 0, .int .i64 0, .int .i64 0, .int .i64 0, .int .i64 0, .int .i64 0, .int .i64 0]) (by kernel_rfl) rfl (by decide)
/-- A node as cells. -/
def ndc (x : Nd) : List Value := [.int .i64 (x.lev : Int), .int .u64 (x.key : Int), .int .i64 (x.fr : Int), .int .i64 (x.to : Int), .int .i64 (x.kid 0), .int .i64 (x.kid 1), .int .i64 (x.kid 2), .int .i64 (x.kid 3)]
theorem ndc_len (x : Nd) : (ndc x).length = 8 := rfl
theorem ndc_one (L : List Nd) : One (L.map ndc) := fun c hc u hu => by
  obtain ⟨x, _, rfl⟩ := List.mem_map.1 hc
  simp [ndc] at hu
  rcases hu with rfl | rfl | rfl | rfl | rfl | rfl | rfl | rfl <;> rfl
theorem two_pow_lt (k : Nat) (h : k ≤ 62) : 2 ^ k ≤ 4611686018427387904 := by
  have := Nat.pow_le_pow_right (n := 2) (by decide) h; simpa using this
set_option maxRecDepth 20000 in
set_option maxHeartbeats 8000000 in
theorem rquarter_any (key lev : Nat) (hk : key < 18446744073709551616) (hl : lev < 32) (w : World) :
    Calls Tryz.prog 60 #[.int .u64 (key : Int), .int .i64 (lev : Int)] w fun e w' => e = .returned (.int .i64 (qt4 key lev : Int)) ∧ Below w.heap.size w w' := by
  have s1 : IntKind.i64.wrap (2 * (lev : Int)) = ((2 * lev : Nat) : Int) := by rw [IntWalk.i64_in _ (by omega)]; omega
  have s2 : IntKind.i64.wrap (62 - ((2 * lev : Nat) : Int)) = ((62 - 2 * lev : Nat) : Int) := by rw [IntWalk.i64_in _ (by omega)]; omega
  have r1 : ((62 - 2 * lev : Nat) : Int) < 64 := by omega
  have r2 : ¬ ((62 - 2 * lev : Nat) : Int) < 0 := by omega
  have e1 : bits .and .u64 ((key : Int) / 2 ^ (62 - 2 * lev)) 3 = (qt4 key lev : Int) := by
    have e : (key : Int) / 2 ^ (62 - 2 * lev) = ((key / 2 ^ (62 - 2 * lev) : Nat) : Int) := by simp
    have l : key / 2 ^ (62 - 2 * lev) ≤ key := Nat.div_le_self _ _
    rw [e]
    have a3 : ∀ x : Int, Wd x → bits .and .u64 x 3 = x % 4 := fun x h => bits_mask .u64 64 (by decide) (fun n h0 h1 => IntWalk.u64_in n (by omega)) 2 (by decide) x h.1 h.2
    unfold qt4
    generalize key / 2 ^ (62 - 2 * lev) = z at *
    rw [a3 _ ⟨by omega, by omega⟩]; omega
  have q := qt4_lt key lev
  have e2 : IntKind.i64.wrap (qt4 key lev : Int) = (qt4 key lev : Int) := IntWalk.i64_in _ (by omega)
  clear hk hl
  generalize qt4 key lev = z at *
  generalize 62 - 2 * lev = j1 at *
  generalize 2 * lev = j2 at *
  go_enter Tryz.func60, Tryz.ntmps60
  go_wp2_with fail
  go_returns
  exact ⟨rfl, bb⟩
/-- A kid's number written into a node. -/
theorem kid_set (x : Nd) (q : Nat) (hq : q < 4) (v : Int) : (ndc x).set (4 + q) (.int .i64 v) = ndc { x with kid := fun i => if i = q then v else x.kid i } := by
  rcases (show q = 0 ∨ q = 1 ∨ q = 2 ∨ q = 3 by omega) with rfl | rfl | rfl | rfl <;> rfl
theorem ndc_mid (O T : List Nd) (x y : Nd) : ((O ++ x :: T).map ndc).set O.length (ndc y) = (O ++ y :: T).map ndc := by
  rw [← List.map_set]; congr 1
  rw [List.set_append_right _ _ (Nat.le_refl _), Nat.sub_self]; rfl
theorem ndc_get (O T : List Nd) (x : Nd) : ((O ++ x :: T).map ndc)[O.length]? = some (ndc x) := by
  rw [List.getElem?_map, List.getElem?_append_right (Nat.le_refl _), Nat.sub_self]; rfl
/-- While grow goes: the row that grows, the box that holds the node, all else as it was. -/
structure Gs (b0 : Nat) (w : World) (vb : Option Nat) (box : Array Value) (g cap : Nat) (C : List Nd) (W : World) : Prop where
  own : R0 8 74 W g cap (C.map ndc)
  gb : b0 ≤ g
  cm : cap ≤ maxLen
  nb : W.heap[w.heap.size]? = some (.cells box 74 (0, 0))
  ne : g ≠ w.heap.size
  fr : w.grownBy W vb
  gv : vb = some g ∨ w.heap.size ≤ g
section
variable {b0 : Nat} {w : World} {vb : Option Nat} {box : Array Value} {g cap : Nat} {C : List Nd} {W W' : World}
theorem Gs.below (h : Gs b0 w vb box g cap C W) (k : Below W.heap.size W W') : Gs b0 w vb box g cap C W' := by
  have hn : w.heap.size < W.heap.size := by
    rcases Nat.lt_or_ge w.heap.size W.heap.size with hlt | hge
    · exact hlt
    · have := h.nb; rw [Array.getElem?_eq_none hge] at this; cases this
  exact ⟨h.own.below k, h.gb, h.cm, (k.block _ hn).trans h.nb, h.ne, ⟨k.os.trans h.fr.os, k.tape.trans h.fr.tape, k.output.trans h.fr.output, Nat.le_trans h.fr.size k.size, fun i hi hne => (k.block i (Nat.lt_of_lt_of_le hi h.fr.size)).trans (h.fr.block i hi hne)⟩, h.gv⟩
theorem Gs.drew (h : Gs b0 w vb box g cap C W) : Gs b0 w vb box g cap C W.drew := ⟨h.own, h.gb, h.cm, h.nb, h.ne, ⟨h.fr.os, h.fr.tape, h.fr.output, h.fr.size, h.fr.block⟩, h.gv⟩
theorem Gs.alloc (h : Gs b0 w vb box g cap C W) (o : Obj) : Gs b0 w vb box g cap C (W.alloc o) := h.below (bl_al (Below.refl _ _) o)
theorem Gs.boxc (h : Gs b0 w vb box g cap C W) (j : Nat) : W.cell? ⟨w.heap.size, j, none⟩ = box[j]? := cell_of_row W _ j box _ (0, 0) h.nb
theorem Gs.boxlt (h : Gs b0 w vb box g cap C W) : w.heap.size < W.heap.size := by
  rcases Nat.lt_or_ge w.heap.size W.heap.size with hlt | hge
  · exact hlt
  · have := h.nb; rw [Array.getElem?_eq_none hge] at this; cases this
theorem Gs.kid {O T : List Nd} {x : Nd} (h : Gs b0 w vb box g cap (O ++ x :: T) W) {q : Nat} (hq : q < 4) (v : Int) :
    Gs b0 w vb box g cap (O ++ { x with kid := fun i => if i = q then v else x.kid i } :: T) (W.setCell ⟨g, O.length * 8 + 4 + q, none⟩ (.int .i64 v)) := by
  rw [Nat.add_assoc]
  refine ⟨?_, h.gb, h.cm, (Below.heap_setCell W ⟨g, O.length * 8 + (4 + q), none⟩ _ w.heap.size (Ne.symm h.ne)).trans h.nb, h.ne, ⟨h.fr.os, h.fr.tape, h.fr.output, by simpa using h.fr.size, fun i hi hne => ?_⟩, h.gv⟩
  · have k := h.own.putc (ndc_get O T x) (k := 4 + q) (by omega) (.int .i64 v)
    rw [kid_set x q hq v, ndc_mid] at k
    exact k
  · have hig : i ≠ g := by
      rcases h.gv with e | e
      · intro q; exact hne (by rw [e, q])
      · omega
    exact (Below.heap_setCell W ⟨g, O.length * 8 + (4 + q), none⟩ _ i hig).trans (h.fr.block i hi hne)
theorem Gs.frz (h : Gs b0 w vb box g cap C W) (j : Nat) : W.frozen? ⟨g, j, none⟩ = false := h.own.frz j
theorem Gs.lt (h : Gs b0 w vb box g cap C W) : g < W.heap.size := h.own.lt
end
/-- What grow comes to: what was there, and the tree behind it. -/
def Grown (b0 : Nat) (w : World) (vb : Option Nat) (m : Nat) (O T : List Nd) (e : Ending) (w' : World) : Prop :=
  ∃ v', e = .returned v' ∧ w'.ownsRow b0 74 8 v' (m + T.length) ((O ++ T).map ndc).flatten ∧ w.grownBy w' vb ∧ (∀ q, v'.ownBlock = some q → vb = some q ∨ w.heap.size ≤ q)
def keyAt (L : List (Nat × Int)) (i : Nat) : Nat := (L[i]?.getD (0, 0)).1
/-- The cells of a node as grow is given it. -/
def nd0 (lev key fa ta : Nat) : Array Value := #[.int .i64 (lev : Int), .int .u64 (key : Int), .int .i64 (fa : Int), .int .i64 (ta : Int), .int .i64 0, .int .i64 0, .int .i64 0, .int .i64 0]
theorem Gs.box4 {b0 lev key fa ta : Nat} {w : World} {vb : Option Nat} {g cap : Nat} {C : List Nd} {W : World} (h : Gs b0 w vb (nd0 lev key fa ta) g cap C W) :
    W.cell? ⟨w.heap.size, 0, none⟩ = some (.int .i64 (lev : Int)) ∧ W.cell? ⟨w.heap.size, 1, none⟩ = some (.int .u64 (key : Int)) ∧ W.cell? ⟨w.heap.size, 2, none⟩ = some (.int .i64 (fa : Int)) ∧ W.cell? ⟨w.heap.size, 3, none⟩ = some (.int .i64 (ta : Int)) :=
  ⟨h.boxc 0, h.boxc 1, h.boxc 2, h.boxc 3⟩
/-- When grow is done. -/
theorem Gs.done {b0 m : Nat} {w : World} {vb : Option Nat} {box : Array Value} {g cap : Nat} {O T : List Nd} {W : World} (h : Gs b0 w vb box g cap (O ++ T) W) (hO : O.length = m) :
    Grown b0 w vb m O T (.returned (.slice (some ⟨g, 0, none⟩) (m + T.length) cap)) W := by
  have k := h.own.own (base := b0) (by decide) h.gb h.cm
  rw [List.length_map, List.length_append, hO] at k
  refine ⟨_, rfl, k, h.fr, fun q hq => ?_⟩
  simp [Value.ownBlock] at hq
  subst hq
  exact h.gv
theorem Gs.under {w0 w : World} {vb : Option Nat} {box : Array Value} {g cap : Nat} {C : List Nd} {W : World} (h : Gs w0.heap.size w vb box g cap C W) (hb : Below w0.heap.size w0 w) (hv : ∀ q, vb = some q → w0.heap.size ≤ q) : Below w0.heap.size w0 W :=
  hb.grown h.fr hb.size hv
/-- Behind a kid's tree. -/
theorem Gs.next {b0 m : Nat} {w : World} {vb : Option Nat} {box : Array Value} {g cap : Nat} {C T : List Nd} {W W' : World} {e : Ending} (h : Gs b0 w vb box g cap C W) (k : Grown b0 W (some g) m C T e W') (hm : 0 < m) :
    ∃ g' cap', e = .returned (.slice (some ⟨g', 0, none⟩) (m + T.length) cap') ∧ Gs b0 w vb box g' cap' (C ++ T) W' := by
  obtain ⟨v', rfl, hown, hgrow, hblk⟩ := k
  by_cases hv : v' = .slice none 0 0
  · subst hv
    rcases hown.2 with ⟨_, h0⟩ | ⟨_, _, _, e, _⟩
    · omega
    · cases e
  · obtain ⟨g', cap', rfl, hgb, _, hcm, hK⟩ := R0.of_own (Ln.map ndc_len _) (by decide) hown hv
    have hb := hblk g' rfl
    have hbl := h.boxlt
    refine ⟨g', cap', rfl, hK, hgb, hcm, ?_, ?_, ?_, ?_⟩
    · exact (hgrow.block _ hbl (fun e => h.ne (by injection e with e; exact e.symm))).trans h.nb
    · rcases hb with e | e
      · injection e with e; rw [← e]; exact h.ne
      · omega
    · refine ⟨hgrow.os.trans h.fr.os, hgrow.tape.trans h.fr.tape, hgrow.output.trans h.fr.output, Nat.le_trans h.fr.size hgrow.size, fun i hi hne => ?_⟩
      have hig : some i ≠ some g := fun e => by
        injection e with e
        rcases h.gv with q | q
        · exact hne (by rw [q, e])
        · omega
      exact (hgrow.block i (Nat.lt_of_lt_of_le hi h.fr.size) hig).trans (h.fr.block i hi hne)
    · rcases hb with e | e
      · injection e with e; rw [← e]; exact h.gv
      · exact Or.inr (Nat.le_trans (Nat.le_of_lt hbl) e)
/-- Behind the append: the row is the call's own, its box stands. -/
theorem Gs.start {b0 m : Nat} {w w1 : World} {v v1 : Value} {box box2 : Array Value} {O : List Nd} {x : Nd} (hown : w.ownsRow b0 74 8 v m (O.map ndc).flatten)
    (h1 : w1.ownsRow b0 74 8 v1 (m + 1) ((O ++ [x]).map ndc).flatten) (hg : ((w.alloc (.cells box 74)).alloc (.cells box2 74)).grownBy w1 v.ownBlock) (hn : v1 ≠ .slice none 0 0)
    (hat : v1.ownBlock = v.ownBlock ∨ v1.ownBlock = some (w.heap.size + 1 + 1)) :
    ∃ g cap, v1 = .slice (some ⟨g, 0, none⟩) (m + 1) cap ∧ Gs b0 w v.ownBlock box g cap (O ++ [x]) w1 := by
  obtain ⟨g, cap, rfl, hgb, _, hcm, hK⟩ := R0.of_own (Ln.map ndc_len _) (by decide) h1 hn
  have hl := own_lt hown
  have hv : v.ownBlock = some g ∨ g = w.heap.size + 2 := by
    rcases hat with e | e
    · exact Or.inl (by rw [← e]; rfl)
    · right; simp [Value.ownBlock] at e; omega
  refine ⟨g, cap, rfl, hK, hgb, hcm, ?_, ?_, ?_, ?_⟩
  · rw [hg.block w.heap.size (by simp; omega) (fun e => by have := hl _ e.symm; omega)]
    rw [Below.heap_alloc _ _ _ (by simp)]
    exact heap_alloc_new w _
  · rcases hv with e | e
    · have := hl _ e; omega
    · omega
  · refine ⟨hg.os, hg.tape, hg.output, ?_, fun i hi hne => ?_⟩
    · have := hg.size; simp at this; omega
    · rw [hg.block i (by simp; omega) hne, Below.heap_alloc _ _ _ (by simp; omega), Below.heap_alloc _ _ _ hi]
  · rcases hv with e | e
    · exact Or.inl e
    · exact Or.inr (by omega)
set_option maxRecDepth 20000 in
set_option maxHeartbeats 16000000 in
theorem rgrow_any : ∀ (d lev : Nat), lev + d = 32 → ∀ (w0 : World) (A : Option Addr) (n c : Nat) (L : List (Nat × Int)), Ks w0 A n L → (∀ x ∈ L, x.1 < 18446744073709551616) → n ≤ 68719476736 →
    ∀ (key fa ta : Nat), fa < ta → ta ≤ n → key < 18446744073709551616 → ∀ (m : Nat) (O : List Nd), O.length = m → m + (d + 1) * (ta - fa) ≤ 2199023255552 →
    ∀ (v : Value) (w : World), Below w0.heap.size w0 w → w.ownsRow w0.heap.size 74 8 v m (O.map ndc).flatten →
    Calls Tryz.prog 27 #[v, .slice A n c, .agg (nd0 lev key fa ta)] w (Grown w0.heap.size w v.ownBlock m O (gr d (keyAt L) m lev key fa ta)) := by
  intro d
  induction d with
  | zero =>
    intro lev hd w0 A n c L hL ho hn key fa ta hft htn hkey m O hO hsz v w hb hown
    obtain ⟨A1, c1, rfl, hA1, hS1⟩ := S0.of_own (Ln.map ndc_len O) (by decide) hown
    have HO := Lib.hid hown; have HL := Lib.hid hL; have H64 := Lib.hid ho; have HN := Lib.hid (And.intro hn hsz); have HB := Lib.hid hb; 
    have HD := Lib.hid hd; have HF := Lib.hid (And.intro hft htn); have HOl := Lib.hid hO; have HKey := Lib.hid hkey
    clear hown hL ho hn hsz hb hd hA1 hS1 hO
    have l1 : (32 : Int) ≤ (lev : Int) := by have := HD.out; omega
    have l0 : (0 : Int) ≤ (lev : Int) := by omega
    have HP : Hid (m + 1 ≤ 2199023255552) := by
      have h1 : 1 * 1 ≤ (0 + 1) * (ta - fa) := Nat.mul_le_mul (by omega) (by omega)
      have := HN.out.2; show _ ≤ _; omega
    clear hft htn hkey
    unfold nd0
    go_enter Tryz.func27, Tryz.ntmps27
    go_wp2_with (first
      | (at_builtin; refine wpList_append_rows nd_row rfl _ _ rfl w0.heap.size _ m (O.map ndc) rfl (own_kept HO.out (bl_al (bl_al (Below.refl _ _) _) _)) _ 1 1 [ndc ⟨lev, key, fa, ta, fun _ => 0⟩] rfl ?d1 ?d2 ?d3 ?d4 ?d5 ?d6 ?_)
      | fail)
    case d1 =>
      have k := (R0.new (s := 8) (w.alloc (.cells (nd0 lev key fa ta) 74)) 74 (C := [ndc ⟨lev, key, fa, ta, fun _ => 0⟩]) (cs := nd0 lev key fa ta) (by intro c hc; simp at hc; subst hc; rfl) rfl).slice
      simpa [nd0] using k
    case d2 => exact ndc_one [⟨lev, key, fa, ta, fun _ => 0⟩]
    case d3 => simp
    case d4 => have := HP.out; unfold maxLen; omega
    case d5 => have := HP.out; omega
    case d6 => have := HB.out.size; simp; omega
    intro v1 w1 hown1 hgrow hnil hat
    have hown1 : w1.ownsRow w0.heap.size 74 8 v1 (m + 1) ((O ++ [(⟨lev, key, fa, ta, fun _ => 0⟩ : Nd)]).map ndc).flatten := by simpa using hown1
    obtain ⟨g, cap, rfl, hgs⟩ := Gs.start HO.out hown1 hgrow (by intro e; simp [e] at hnil) hat
    have HG := Lib.hid hgs
    clear hown1 hgrow hnil hat hgs
    have m0 : (0 : Int) ≤ (m : Int) := by omega
    have m1 : (m : Int) < ((m + 1 : Nat) : Int) := by omega
    generalize hvb : (Value.slice A1 m c1).ownBlock = vb at HG
    have HVB := Lib.hid hvb
    clear hvb
    go_wp2_with fail
    go_loopg [8] 4 (fun k qv wr => ∃ q : Nat, q + k = 4 ∧ qv = .int .i64 (q : Int) ∧ Gs w0.heap.size w vb (nd0 lev key fa ta) g cap (O ++ [(⟨lev, key, fa, ta, fun i => if i < q then -1 else 0⟩ : Nd)]) wr)
    case atStart => exact ⟨0, rfl, rfl, by simpa [nd0] using HG.out⟩
    case round =>
      obtain ⟨q, hq, rfl, hgs⟩ := hrel
      have HG1 := Lib.hid hgs
      clear hgs HG
      by_cases hlt : q < 4
      · obtain ⟨k, rfl⟩ : ∃ k, gk = k + 1 := ⟨gk - 1, by omega⟩
        have q1' : q < 4 := hlt
        have q1 : (q : Int) < 4 := by omega
        have q0 : (0 : Int) ≤ (q : Int) := by omega
        have wq : IntKind.i64.wrap ((q : Int) + 1) = (q : Int) + 1 := by rw [IntWalk.i64_in _ (by omega)]
        have zg := HG1.out.lt
        have fg := HG1.out.frz
        have hget := ndc_get O [] ⟨lev, key, fa, ta, fun i => if i < q then -1 else 0⟩
        rw [HOl.out] at hget
        have cg : ∃ u, wr.cell? ⟨g, m * 8 + (4 + q), none⟩ = some u := by
          rcases (show q = 0 ∨ q = 1 ∨ q = 2 ∨ q = 3 by omega) with rfl | rfl | rfl | rfl
          · exact ⟨_, HG1.out.own.cell hget rfl⟩
          · exact ⟨_, HG1.out.own.cell hget rfl⟩
          · exact ⟨_, HG1.out.own.cell hget rfl⟩
          · exact ⟨_, HG1.out.own.cell hget rfl⟩
        obtain ⟨u, cg⟩ := cg
        have cg2 : wr.cell? ⟨g, m * 8 + 4 + q, none⟩ = some u := by rw [show m * 8 + 4 + q = m * 8 + (4 + q) by omega]; exact cg
        have HK : Hid (q + (k + 1) = 4) := hq
        clear hget hq
        go_wp2_with fail
        go_roundg k
        case measure => omega
        case rel =>
          refine ⟨q + 1, by have := HK.out; omega, by simp, ?_⟩
          have k := HG1.out.kid (q := q) q1' (-1)
          rw [HOl.out] at k
          have e : (fun i => if i = q then (-1 : Int) else (if i < q then -1 else 0)) = fun i => if i < q + 1 then -1 else 0 := by
            funext i
            rcases Nat.lt_trichotomy i q with h | h | h
            · rw [if_neg (by omega), if_pos h, if_pos (by omega)]
            · rw [if_pos h, if_pos (by omega)]
            · rw [if_neg (by omega), if_neg (by omega), if_neg (by omega)]
          simp only [e] at k
          exact k
      · obtain rfl : q = 4 := by omega
        have HG2 : Hid (Gs w0.heap.size w vb (nd0 lev key fa ta) g cap (O ++ (⟨lev, key, fa, ta, fun _ => -1⟩ : Nd) :: []) wr) := by
          have h := HG1.out
          refine ⟨?_, h.gb, h.cm, h.nb, h.ne, h.fr, h.gv⟩
          have k := h.own
          simp only [List.map_append, List.map_cons, List.map_nil] at k ⊢
          exact k
        clear HG1
        have hlen : m + ((⟨lev, key, fa, ta, fun _ => -1⟩ : Nd) :: []).length = m + 1 := rfl
        obtain ⟨b0, b1, b2, b3⟩ := HG2.out.box4
        have wd4 : IntKind.i64.wrap ((ta : Int) - (fa : Int)) = ((ta - fa : Nat) : Int) := by rw [IntWalk.i64_in _ (by have := HF.out; have := HN.out; omega)]; have := HF.out; omega
        have HR : Hid (Grown w0.heap.size w (Value.slice A1 m c1).ownBlock m O (gr 0 (keyAt L) m lev key fa ta) (.returned (.slice (some ⟨g, 0, none⟩) (m + 1) cap)) wr) := by
          have e : gr 0 (keyAt L) m lev key fa ta = [⟨lev, key, fa, ta, fun _ => -1⟩] := rfl
          have k := HG2.out.done HOl.out
          rw [HVB.out, e]; exact k
        by_cases h4 : ta - fa ≤ 4
        · have h4i : ((ta - fa : Nat) : Int) ≤ 4 := by omega
          clear h4
          generalize ta - fa = z at *
          go_wp2_with fail
          go_returns
          exact HR.out
        · have h4i : ¬ ((ta - fa : Nat) : Int) ≤ 4 := by omega
          clear h4
          generalize ta - fa = z at *
          go_wp2_with fail
          go_returns
          exact HR.out
  | succ d ih =>
    intro lev hd w0 A n c L hL ho hn key fa ta hft htn hkey m O hO hsz v w hb hown
    obtain ⟨A1, c1, rfl, hA1, hS1⟩ := S0.of_own (Ln.map ndc_len O) (by decide) hown
    have HO := Lib.hid hown; have HL := Lib.hid hL; have H64 := Lib.hid ho; have HN := Lib.hid (And.intro hn hsz); have HB := Lib.hid hb; have IH := Lib.hid ih
    have HD := Lib.hid hd; have HF := Lib.hid (And.intro hft htn); have HOl := Lib.hid hO; have HKey := Lib.hid hkey
    clear hown hL ho hn hsz hb ih hd hA1 hS1 hO
    have l1 : (lev : Int) < 32 := by have := HD.out; omega
    have l0 : (0 : Int) ≤ (lev : Int) := by omega
    have HP : Hid (m + 1 ≤ 2199023255552) := by
      have h1 : 1 * 1 ≤ (d + 1 + 1) * (ta - fa) := Nat.mul_le_mul (by omega) (by omega)
      have := HN.out.2; show _ ≤ _; omega
    clear hft htn hkey
    unfold nd0
    go_enter Tryz.func27, Tryz.ntmps27
    go_wp2_with (first
      | (at_builtin; refine wpList_append_rows nd_row rfl _ _ rfl w0.heap.size _ m (O.map ndc) rfl (own_kept HO.out (bl_al (bl_al (Below.refl _ _) _) _)) _ 1 1 [ndc ⟨lev, key, fa, ta, fun _ => 0⟩] rfl ?d1 ?d2 ?d3 ?d4 ?d5 ?d6 ?_)
      | fail)
    case d1 =>
      have k := (R0.new (s := 8) (w.alloc (.cells (nd0 lev key fa ta) 74)) 74 (C := [ndc ⟨lev, key, fa, ta, fun _ => 0⟩]) (cs := nd0 lev key fa ta) (by intro c hc; simp at hc; subst hc; rfl) rfl).slice
      simpa [nd0] using k
    case d2 => exact ndc_one [⟨lev, key, fa, ta, fun _ => 0⟩]
    case d3 => simp
    case d4 => have := HP.out; unfold maxLen; omega
    case d5 => have := HP.out; omega
    case d6 => have := HB.out.size; simp; omega
    intro v1 w1 hown1 hgrow hnil hat
    have hown1 : w1.ownsRow w0.heap.size 74 8 v1 (m + 1) ((O ++ [(⟨lev, key, fa, ta, fun _ => 0⟩ : Nd)]).map ndc).flatten := by simpa using hown1
    obtain ⟨g, cap, rfl, hgs⟩ := Gs.start HO.out hown1 hgrow (by intro e; simp [e] at hnil) hat
    have HG := Lib.hid hgs
    clear hown1 hgrow hnil hat hgs
    have m0 : (0 : Int) ≤ (m : Int) := by omega
    have m1 : (m : Int) < ((m + 1 : Nat) : Int) := by omega
    generalize hvb : (Value.slice A1 m c1).ownBlock = vb at HG
    have HVB := Lib.hid hvb
    clear hvb
    go_wp2_with fail
    go_loopg [8] 4 (fun k qv wr => ∃ q : Nat, q + k = 4 ∧ qv = .int .i64 (q : Int) ∧ Gs w0.heap.size w vb (nd0 lev key fa ta) g cap (O ++ [(⟨lev, key, fa, ta, fun i => if i < q then -1 else 0⟩ : Nd)]) wr)
    case atStart => exact ⟨0, rfl, rfl, by simpa [nd0] using HG.out⟩
    case round =>
      obtain ⟨q, hq, rfl, hgs⟩ := hrel
      have HG1 := Lib.hid hgs
      clear hgs HG
      by_cases hlt : q < 4
      · obtain ⟨k, rfl⟩ : ∃ k, gk = k + 1 := ⟨gk - 1, by omega⟩
        have q1' : q < 4 := hlt
        have q1 : (q : Int) < 4 := by omega
        have q0 : (0 : Int) ≤ (q : Int) := by omega
        have wq : IntKind.i64.wrap ((q : Int) + 1) = (q : Int) + 1 := by rw [IntWalk.i64_in _ (by omega)]
        have zg := HG1.out.lt
        have fg := HG1.out.frz
        have hget := ndc_get O [] ⟨lev, key, fa, ta, fun i => if i < q then -1 else 0⟩
        rw [HOl.out] at hget
        have cg : ∃ u, wr.cell? ⟨g, m * 8 + (4 + q), none⟩ = some u := by
          rcases (show q = 0 ∨ q = 1 ∨ q = 2 ∨ q = 3 by omega) with rfl | rfl | rfl | rfl
          · exact ⟨_, HG1.out.own.cell hget rfl⟩
          · exact ⟨_, HG1.out.own.cell hget rfl⟩
          · exact ⟨_, HG1.out.own.cell hget rfl⟩
          · exact ⟨_, HG1.out.own.cell hget rfl⟩
        obtain ⟨u, cg⟩ := cg
        have cg2 : wr.cell? ⟨g, m * 8 + 4 + q, none⟩ = some u := by rw [show m * 8 + 4 + q = m * 8 + (4 + q) by omega]; exact cg
        have HK : Hid (q + (k + 1) = 4) := hq
        clear hget hq
        go_wp2_with fail
        go_roundg k
        case measure => omega
        case rel =>
          refine ⟨q + 1, by have := HK.out; omega, by simp, ?_⟩
          have k := HG1.out.kid (q := q) q1' (-1)
          rw [HOl.out] at k
          have e : (fun i => if i = q then (-1 : Int) else (if i < q then -1 else 0)) = fun i => if i < q + 1 then -1 else 0 := by
            funext i
            rcases Nat.lt_trichotomy i q with h | h | h
            · rw [if_neg (by omega), if_pos h, if_pos (by omega)]
            · rw [if_pos h, if_pos (by omega)]
            · rw [if_neg (by omega), if_neg (by omega), if_neg (by omega)]
          simp only [e] at k
          exact k
      · obtain rfl : q = 4 := by omega
        have HG2 : Hid (Gs w0.heap.size w vb (nd0 lev key fa ta) g cap (O ++ (⟨lev, key, fa, ta, (ku (fun a k f t => gr d (keyAt L) a (lev + 1) k f t) (keyAt L) lev m ta fa 0).2.2⟩ : Nd) :: (ku (fun a k f t => gr d (keyAt L) a (lev + 1) k f t) (keyAt L) lev m ta fa 0).1) wr) := by
          have h := HG1.out
          refine ⟨?_, h.gb, h.cm, h.nb, h.ne, h.fr, h.gv⟩
          have k := h.own
          simp only [List.map_append, List.map_cons, List.map_nil] at k ⊢
          exact k
        clear HG1
        have hlen : m + ((⟨lev, key, fa, ta, (ku (fun a k f t => gr d (keyAt L) a (lev + 1) k f t) (keyAt L) lev m ta fa 0).2.2⟩ : Nd) :: (ku (fun a k f t => gr d (keyAt L) a (lev + 1) k f t) (keyAt L) lev m ta fa 0).1).length = m + 1 := rfl
        obtain ⟨b0, b1, b2, b3⟩ := HG2.out.box4
        have wd4 : IntKind.i64.wrap ((ta : Int) - (fa : Int)) = ((ta - fa : Nat) : Int) := by rw [IntWalk.i64_in _ (by have := HF.out; have := HN.out; omega)]; have := HF.out; omega
        by_cases h4 : ta - fa ≤ 4
        · have h4i : ((ta - fa : Nat) : Int) ≤ 4 := by omega
          have HR : Hid (Grown w0.heap.size w (Value.slice A1 m c1).ownBlock m O (gr (d + 1) (keyAt L) m lev key fa ta) (.returned (.slice (some ⟨g, 0, none⟩) (m + 1) cap)) wr) := by
            have e : gr (d + 1) (keyAt L) m lev key fa ta = [⟨lev, key, fa, ta, fun _ => -1⟩] := by unfold gr; rw [if_pos h4]
            have k := HG2.out.done HOl.out
            rw [HVB.out, e]; exact k
          clear h4
          generalize ta - fa = z at *
          go_wp2_with fail
          go_returns
          exact HR.out
        · have h4i : ¬ ((ta - fa : Nat) : Int) ≤ 4 := by omega
          have hl32 : ¬ (32 : Int) ≤ (lev : Int) := by omega
          have H4 := Lib.hid h4
          clear h4
          have HR : Hid (∀ W' g' cap', Gs w0.heap.size w vb (nd0 lev key fa ta) g' cap' (O ++ (⟨lev, key, fa, ta, (ku (fun a k f t => gr d (keyAt L) a (lev + 1) k f t) (keyAt L) lev m ta fa 4).2.2⟩ : Nd) :: (ku (fun a k f t => gr d (keyAt L) a (lev + 1) k f t) (keyAt L) lev m ta fa 4).1) W' →
              Grown w0.heap.size w (Value.slice A1 m c1).ownBlock m O (gr (d + 1) (keyAt L) m lev key fa ta) (.returned (.slice (some ⟨g', 0, none⟩) (m + 1 + (ku (fun a k f t => gr d (keyAt L) a (lev + 1) k f t) (keyAt L) lev m ta fa 4).1.length) cap')) W') := fun W' g' cap' h => by
            have e : gr (d + 1) (keyAt L) m lev key fa ta = ⟨lev, key, fa, ta, (ku (fun a k f t => gr d (keyAt L) a (lev + 1) k f t) (keyAt L) lev m ta fa 4).2.2⟩ :: (ku (fun a k f t => gr d (keyAt L) a (lev + 1) k f t) (keyAt L) lev m ta fa 4).1 := by
              show (if ta - fa ≤ 4 then _ else _) = _
              rw [if_neg H4.out]
            have k := h.done HOl.out
            rw [HVB.out, e, show m + 1 + (ku (fun a k f t => gr d (keyAt L) a (lev + 1) k f t) (keyAt L) lev m ta fa 4).1.length = m + (⟨lev, key, fa, ta, (ku (fun a k f t => gr d (keyAt L) a (lev + 1) k f t) (keyAt L) lev m ta fa 4).2.2⟩ :: (ku (fun a k f t => gr d (keyAt L) a (lev + 1) k f t) (keyAt L) lev m ta fa 4).1 : List Nd).length by rw [List.length_cons]; omega]
            exact k
          have HRec : Hid (∀ a k f t, f < t → (gr d (keyAt L) a (lev + 1) k f t).length ≤ (d + 1) * (t - f)) := fun a k f t h => gr_len d (keyAt L) a (lev + 1) k f t h
          generalize hrec : (fun a k f t => gr d (keyAt L) a (lev + 1) k f t) = rec_ at HG2 HR
          have HRE : Hid (∀ a k f t, rec_ a k f t = gr d (keyAt L) a (lev + 1) k f t) := fun a k f t => by rw [← hrec]
          clear H4 hlen hrec
          go_wp2_with fail
          go_loopg [0, 9, 10] 4 (fun z ov fv qv wr => ∃ (q g cap f : Nat) (o : List Nd) (kk : Nat → Int), q + z = 4 ∧ qv = .int .i64 (q : Int) ∧ fv = .int .i64 (f : Int) ∧ ov = .slice (some ⟨g, 0, none⟩) (m + 1 + o.length) cap ∧ ku rec_ (keyAt L) lev m ta fa q = (o, f, kk) ∧ Gs w0.heap.size w vb (nd0 lev key fa ta) g cap (O ++ (⟨lev, key, fa, ta, kk⟩ : Nd) :: o) wr)
          case atStart => exact ⟨0, g, cap, fa, [], fun _ => -1, rfl, rfl, rfl, rfl, rfl, HG2.out⟩
          case round =>
            obtain ⟨q, g, cap, f, o, kk, hq, rfl, rfl, rfl, he, hgs⟩ := hrel
            have HE := Lib.hid he; have HGq := Lib.hid hgs
            have hfr := ku_fr rec_ (keyAt L) lev m ta fa (by have := HF.out; omega) q
            rw [he] at hfr
            have HFq : Hid (fa ≤ f ∧ f ≤ ta) := hfr
            clear he hgs HG2 hfr
            by_cases hlt : q < 4
            · obtain ⟨z, rfl⟩ : ∃ z, gk = z + 1 := ⟨gk - 1, by omega⟩
              have HQ : Hid (q < 4 ∧ q + (z + 1) = 4) := ⟨hlt, hq⟩
              have q1 : (q : Int) < 4 := by omega
              have q0 : (0 : Int) ≤ (q : Int) := by omega
              have wq : IntKind.i64.wrap ((q : Int) + 1) = (q : Int) + 1 := by rw [IntWalk.i64_in _ (by omega)]
              clear hlt hq HR
              go_wp2_with fail
              go_loopg [11] (ta - f) (fun y av wz => ∃ a : Nat, f ≤ a ∧ a + y = ta ∧ av = .int .i64 (a : Int) ∧ adv (keyAt L) lev q (ta - f) f = adv (keyAt L) lev q y a ∧ Gs w0.heap.size w vb (nd0 lev key fa ta) g cap (O ++ (⟨lev, key, fa, ta, kk⟩ : Nd) :: o) wz)
              case atStart => exact ⟨f, Nat.le_refl _, by have := HFq.out; omega, rfl, rfl, HGq.out⟩
              case round =>
                obtain ⟨a, hfa, hy, rfl, hadv, hgs⟩ := hrel
                have HGz := Lib.hid hgs
                have HAd := Lib.hid hadv
                have HAy : Hid (f ≤ a ∧ a + gk = ta) := ⟨hfa, hy⟩
                obtain ⟨x0, x1, x2, x3⟩ := HGz.out.box4
                have xl := HGz.out.boxlt
                clear hgs hadv HGq
                rcases gk with _ | y
                · have HT : Hid (adv (keyAt L) lev q (ta - f) f = a) := HAd.out
                  have ae : a = ta := by omega
                  have ai : ¬ (a : Int) < (ta : Int) := by omega
                  have HTr : Hid (f ≤ a ∧ a ≤ ta) := ⟨by omega, by omega⟩
                  clear hfa hy HAd HAy ae
                  go_upto_region 14 with fail
                  refine wp_region_held_drew (S := fun w' => w'.cell? ⟨w.heap.size, 3, none⟩ = some (.int .i64 (ta : Int))) (by kernel_rfl) ?_ (fun hHeld => ?_)
                  · (try dsimp only); (try exact x3)
                  refine wpAnyH_take (i := 0) (oi := _) (v := ?_) (by simp only [List.getElem?_toArray, List.getElem?_cons_zero]; rfl) (by kernel_rfl) (by kernel_rfl) (by kernel_rfl) (by exact fun _ _ _ h => h) (Or.inl ⟨by rfl, ?_⟩) (by assumption) ?_
                  rotate_left 1
                  · (intro w hSw; (try dsimp only at hSw); go_simp; try with_reducible rfl)
                  try simp only [Act.put, List.setIfInBounds_toArray, List.set_cons_zero, List.set_cons_succ]
                  refine wpAnyH_take (i := 1) (oi := _) (v := ?_) (by simp only [List.getElem?_toArray, List.getElem?_cons_succ, List.getElem?_cons_zero]; rfl) (by kernel_rfl) (by kernel_rfl) (by kernel_rfl) (by exact fun _ _ _ h => h) (Or.inl ⟨by rfl, ?_⟩) (by assumption) ?_
                  rotate_left 1
                  · (intro w hSw; (try dsimp only at hSw); go_simp; try with_reducible rfl)
                  try simp only [Act.put, List.setIfInBounds_toArray, List.set_cons_zero, List.set_cons_succ]
                  refine wpAnyH_take (i := 2) (oi := _) (v := ?_) (by simp only [List.getElem?_toArray, List.getElem?_cons_succ, List.getElem?_cons_zero]; rfl) (by kernel_rfl) (by kernel_rfl) (by kernel_rfl) (by exact fun _ _ _ h => h) (Or.inl ⟨by rfl, ?_⟩) (by assumption) ?_
                  rotate_left 1
                  · (intro w hSw; (try dsimp only at hSw); go_simp; try with_reducible rfl)
                  try simp only [Act.put, List.setIfInBounds_toArray, List.set_cons_zero, List.set_cons_succ]
                  refine wpAnyH_take (i := 3) (oi := _) (v := ?_) (by simp only [List.getElem?_toArray, List.getElem?_cons_succ, List.getElem?_cons_zero]; rfl) (by kernel_rfl) (by kernel_rfl) (by kernel_rfl) (by exact fun _ _ _ h => h) (Or.inl ⟨by rfl, ?_⟩) (by assumption) ?_
                  rotate_left 1
                  · (intro w hSw; (try dsimp only at hSw); go_simp; try with_reducible rfl)
                  try simp only [Act.put, List.setIfInBounds_toArray, List.set_cons_zero, List.set_cons_succ]
                  refine wpAnyH_take (i := 4) (oi := _) (v := ?_) (by simp only [List.getElem?_toArray, List.getElem?_cons_succ, List.getElem?_cons_zero]; rfl) (by kernel_rfl) (by kernel_rfl) (by kernel_rfl) (by exact fun _ _ _ h => h) (Or.inl ⟨by rfl, ?_⟩) (by assumption) ?_
                  rotate_left 1
                  · (intro w hSw; (try dsimp only at hSw); go_simp; try with_reducible rfl)
                  try simp only [Act.put, List.setIfInBounds_toArray, List.set_cons_zero, List.set_cons_succ]
                  refine wpAnyH_take (i := 5) (oi := _) (v := undef) (by simp only [List.getElem?_toArray, List.getElem?_cons_succ, List.getElem?_cons_zero]; rfl) (by kernel_rfl) (by kernel_rfl) (by kernel_rfl) (by exact fun _ _ _ h => h) (Or.inr ⟨by rfl, rfl⟩) (by assumption) ?_
                  try simp only [Act.put, List.setIfInBounds_toArray, List.set_cons_zero, List.set_cons_succ]
                  refine wpAnyH_take (i := 6) (oi := _) (v := undef) (by simp only [List.getElem?_toArray, List.getElem?_cons_succ, List.getElem?_cons_zero]; rfl) (by kernel_rfl) (by kernel_rfl) (by kernel_rfl) (by exact fun _ _ _ h => h) (Or.inr ⟨by rfl, rfl⟩) (by assumption) ?_
                  try simp only [Act.put, List.setIfInBounds_toArray, List.set_cons_zero, List.set_cons_succ]
                  refine wpAnyH_take (i := 7) (oi := _) (v := undef) (by simp only [List.getElem?_toArray, List.getElem?_cons_succ, List.getElem?_cons_zero]; rfl) (by kernel_rfl) (by kernel_rfl) (by kernel_rfl) (by exact fun _ _ _ h => h) (Or.inr ⟨by rfl, rfl⟩) (by assumption) ?_
                  try simp only [Act.put, List.setIfInBounds_toArray, List.set_cons_zero, List.set_cons_succ]
                  refine wpAnyH_take (i := 8) (oi := _) (v := undef) (by simp only [List.getElem?_toArray, List.getElem?_cons_succ, List.getElem?_cons_zero]; rfl) (by kernel_rfl) (by kernel_rfl) (by kernel_rfl) (by exact fun _ _ _ h => h) (Or.inr ⟨by rfl, rfl⟩) (by assumption) ?_
                  try simp only [Act.put, List.setIfInBounds_toArray, List.set_cons_zero, List.set_cons_succ]
                  refine wpAnyH_take (i := 9) (oi := _) (v := undef) (by simp only [List.getElem?_toArray, List.getElem?_cons_succ, List.getElem?_cons_zero]; rfl) (by kernel_rfl) (by kernel_rfl) (by kernel_rfl) (by exact fun _ _ _ h => h) (Or.inr ⟨by rfl, rfl⟩) (by assumption) ?_
                  try simp only [Act.put, List.setIfInBounds_toArray, List.set_cons_zero, List.set_cons_succ]
                  refine wpAnyH_take (i := 10) (oi := _) (v := undef) (by simp only [List.getElem?_toArray, List.getElem?_cons_succ, List.getElem?_cons_zero]; rfl) (by kernel_rfl) (by kernel_rfl) (by kernel_rfl) (by exact fun _ _ _ h => h) (Or.inr ⟨by rfl, rfl⟩) (by assumption) ?_
                  try simp only [Act.put, List.setIfInBounds_toArray, List.set_cons_zero, List.set_cons_succ]
                  refine wpAnyH_take (i := 11) (oi := _) (v := undef) (by simp only [List.getElem?_toArray, List.getElem?_cons_succ, List.getElem?_cons_zero]; rfl) (by kernel_rfl) (by kernel_rfl) (by kernel_rfl) (by exact fun _ _ _ h => h) (Or.inr ⟨by rfl, rfl⟩) (by assumption) ?_
                  try simp only [Act.put, List.setIfInBounds_toArray, List.set_cons_zero, List.set_cons_succ]
                  refine wpAnyH_take (i := 13) (oi := _) (v := undef) (by simp only [List.getElem?_toArray, List.getElem?_cons_succ, List.getElem?_cons_zero]; rfl) (by kernel_rfl) (by kernel_rfl) (by kernel_rfl) (by exact fun _ _ _ h => h) (Or.inr ⟨by rfl, rfl⟩) (by assumption) ?_
                  try simp only [Act.put, List.setIfInBounds_toArray, List.set_cons_zero, List.set_cons_succ]
                  refine wpAnyH_ready (rs := [12]) (by kernel_rfl) (by simp) ?_
                  refine AllReadyH.cons (o := _) (by simp only [List.getElem?_toArray, List.getElem?_cons_succ, List.getElem?_cons_zero]; rfl) (fun K hK => ?_) AllReadyH.nil
                  go_simp
                  refine hK.out _ _ ?_ (fun hHeldN => ?_)
                  · (try dsimp only); (first | exact hHeld | (simp [*, go_sem]; done))
                  clear hK K hHeld; have hHeld := hHeldN; clear hHeldN
                  try simp only [Act.put, List.setIfInBounds_toArray, List.set_cons_zero, List.set_cons_succ]
                  refine wpAnyH_take (i := 14) (oi := _) (v := undef) (by simp only [List.getElem?_toArray, List.getElem?_cons_succ, List.getElem?_cons_zero]; rfl) (by kernel_rfl) (by kernel_rfl) (by kernel_rfl) (by exact fun _ _ _ h => h) (Or.inr ⟨by rfl, rfl⟩) (by assumption) ?_
                  try simp only [Act.put, List.setIfInBounds_toArray, List.set_cons_zero, List.set_cons_succ]
                  refine wpAnyH_take (i := 15) (oi := _) (v := ?_) (by simp only [List.getElem?_toArray, List.getElem?_cons_succ, List.getElem?_cons_zero]; rfl) (by kernel_rfl) (by kernel_rfl) (by kernel_rfl) (by exact fun _ _ _ h => h) (Or.inl ⟨by rfl, ?_⟩) (by assumption) ?_
                  rotate_left 1
                  · (intro w hSw; (try dsimp only at hSw); go_simp; try with_reducible rfl)
                  try simp only [Act.put, List.setIfInBounds_toArray, List.set_cons_zero, List.set_cons_succ]
                  refine wpAnyH_done (by kernel_rfl) ?_ _
                  clear hHeld
                  by_cases hft : f < a
                  · have HT2 := Lib.hid (ku_yes HE.out HT.out hft)
                    have HFA : Hid (f < a) := hft
                    have f1 : (f : Int) < (a : Int) := by omega
                    have f0 : (0 : Int) ≤ (f : Int) := by omega
                    have fn : (f : Int) < (n : Int) := by have := HF.out; have := HTr.out; omega
                    clear hft
                    obtain ⟨j2, hj2⟩ : ∃ j2, j2 = 2 * lev := ⟨_, rfl⟩
                    obtain ⟨j1, hj1⟩ : ∃ j1, j1 = 62 - 2 * lev := ⟨_, rfl⟩
                    have g1 : IntKind.i64.wrap (2 * (lev : Int)) = (j2 : Int) := by rw [IntWalk.i64_in _ (by omega)]; omega
                    have g2 : IntKind.i64.wrap (62 - (j2 : Int)) = (j1 : Int) := by rw [IntWalk.i64_in _ (by omega)]; omega
                    have g3 : (j1 : Int) < 64 := by omega
                    have g4 : ¬ (j1 : Int) < 0 := by omega
                    have HJ1 := Lib.hid hj1
                    clear hj1 hj2
                    go_upto_region 17 with fail
                    refine nw _ fun R hR => ?_
                    have HGR : Hid (Gs w0.heap.size w vb (nd0 lev key fa ta) g cap (O ++ (⟨lev, key, fa, ta, kk⟩ : Nd) :: o) R) := by rw [hR]; exact HGz.out.drew
                    clear hR x0 x1 x2 x3 xl HGz
                    have zg := HGR.out.lt
                    have fg := HGR.out.frz
                    obtain ⟨x0, x1, x2, x3⟩ := HGR.out.box4
                    have xl := HGR.out.boxlt
                    have hget := ndc_get O o ⟨lev, key, fa, ta, kk⟩
                    rw [HOl.out] at hget
                    have cg : ∃ u, R.cell? ⟨g, m * 8 + (4 + q), none⟩ = some u := by
                      rcases (show q = 0 ∨ q = 1 ∨ q = 2 ∨ q = 3 by have := HQ.out; omega) with rfl | rfl | rfl | rfl
                      · exact ⟨_, HGR.out.own.cell hget rfl⟩
                      · exact ⟨_, HGR.out.own.cell hget rfl⟩
                      · exact ⟨_, HGR.out.own.cell hget rfl⟩
                      · exact ⟨_, HGR.out.own.cell hget rfl⟩
                    obtain ⟨u, cg⟩ := cg
                    have cg2 : R.cell? ⟨g, m * 8 + 4 + q, none⟩ = some u := by rw [show m * 8 + 4 + q = m * 8 + (4 + q) by omega]; exact cg
                    have ml : (m : Int) < ((m + 1 + o.length : Nat) : Int) := by omega
                    clear hget cg
                    go_upto_region 19 with fail
                    refine nw _ fun R2 hR2 => ?_
                    have HG2 : Hid (Gs w0.heap.size w vb (nd0 lev key fa ta) g cap (O ++ (⟨lev, key, fa, ta, fun i => if i = q then ((m + 1 + o.length : Nat) : Int) else kk i⟩ : Nd) :: o) R2) := by
                      have k := HGR.out.kid (q := q) HQ.out.1 ((m + 1 + o.length : Nat) : Int)
                      rw [HOl.out] at k
                      rw [hR2]; exact k
                    clear hR2 x0 x1 x2 x3 xl zg fg cg2 HGR
                    obtain ⟨x0, x1, x2, x3⟩ := HG2.out.box4
                    have xl := HG2.out.boxlt
                    have HU2 := Lib.hid (HG2.out.under HB.out (fun r hr => by rw [← HVB.out] at hr; exact own_block HO.out r hr))
                    obtain ⟨Bf, of_, xf, hA', zBf, hxf, y0w, _⟩ := HL.out.at_ (show f < n by omega)
                    have y0f : R2.cell? ⟨Bf, of_ + f * 2, none⟩ = some (.int .u64 (xf.1 : Int)) := (HU2.out.cell (p := ⟨Bf, of_ + f * 2, none⟩) zBf).trans y0w
                    have HY := Lib.hid (And.intro zBf y0w)
                    clear y0w
                    have hkf : keyAt L f = xf.1 := by unfold keyAt; rw [hxf]; rfl
                    have hk64 := H64.out xf (List.mem_of_getElem? hxf)
                    obtain ⟨l2, hl2⟩ : ∃ l2, l2 = lev + 1 := ⟨_, rfl⟩
                    obtain ⟨ck, hck⟩ : ∃ ck, ck = cutk xf.1 lev := ⟨_, rfl⟩
                    have hck64 : ck < 18446744073709551616 := by
                      rw [hck]; unfold cutk
                      exact Nat.lt_of_le_of_lt (Nat.div_mul_le_self _ _) hk64
                    have g5 : IntKind.i64.wrap ((lev : Int) + 1) = (l2 : Int) := by rw [IntWalk.i64_in _ (by omega)]; omega
                    have g6 : IntKind.u64.wrap ((xf.1 : Int) / 2 ^ j1 * 2 ^ j1) = (ck : Int) := by
                      have e : (xf.1 : Int) / 2 ^ j1 * 2 ^ j1 = ((cutk xf.1 lev : Nat) : Int) := by unfold cutk; rw [← HJ1.out]; simp
                      rw [e, hck]; exact IntWalk.u64_in _ (by rw [hck] at hck64; omega)
                    have hlen2 : (O ++ (⟨lev, key, fa, ta, fun i => if i = q then ((m + 1 + o.length : Nat) : Int) else kk i⟩ : Nd) :: o).length = m + 1 + o.length := by
                      rw [List.length_append, HOl.out, List.length_cons]; omega
                    have KG : Hid (Calls Tryz.prog 27 #[.slice (some ⟨g, 0, none⟩) (m + 1 + o.length) cap, .slice A n c, .agg #[.int .i64 (l2 : Int), .int .u64 (ck : Int), .int .i64 (f : Int), .int .i64 (a : Int), .int .i64 0, .int .i64 0, .int .i64 0, .int .i64 0]] R2.drew
                        (Grown w0.heap.size R2.drew (some g) (m + 1 + o.length) (O ++ (⟨lev, key, fa, ta, fun i => if i = q then ((m + 1 + o.length : Nat) : Int) else kk i⟩ : Nd) :: o) (rec_ (m + 1 + o.length) (cutk (keyAt L f) lev) f a))) := by
                      have own := HG2.out.drew.own.own (base := w0.heap.size) (by decide) HG2.out.gb HG2.out.cm
                      rw [List.length_map, hlen2] at own
                      have kl := ku_len (rec := rec_) (d := d + 1) (fun a k f t h => by rw [HRE.out]; exact HRec.out a k f t h) (keyAt L) lev m ta fa (by have := HF.out; omega) q
                      rw [HE.out] at kl
                      have s1 : (d + 1) * (f - fa) + (d + 1) * (a - f) = (d + 1) * (a - fa) := by rw [← Nat.mul_add]; congr 1; have := HFq.out; have := HFA.out; omega
                      have s2 : (d + 1) * (a - fa) ≤ (d + 1) * (ta - fa) := Nat.mul_le_mul_left _ (by have := HTr.out; omega)
                      have s3 : (d + 1 + 1) * (ta - fa) = (d + 1) * (ta - fa) + (ta - fa) := by rw [Nat.add_mul (d + 1) 1]; omega
                      have k := IH.out l2 (by have := HD.out; omega) w0 A n c L HL.out H64.out HN.out.1 ck f a HFA.out (by have := HTr.out; have := HF.out; omega) hck64 (m + 1 + o.length) _ hlen2 (by have := HN.out.2; have := HF.out; simp only at kl; omega) _ R2.drew HU2.out.drew own
                      rw [HRE.out, hkf, ← hck, ← hl2]
                      exact k
                    subst hA'
                    clear hxf hkf hk64 hck hck64 hl2 hlen2 zBf
                    go_region_held3 (fun w' => w'.cell? ⟨w.heap.size, 0, none⟩ = some (.int .i64 (lev : Int)) ∧ w'.cell? ⟨Bf, of_ + f * 2, none⟩ = some (.int .u64 (xf.1 : Int)))
                      (first | (simp [*, go_sem]; done) | exact ⟨z0, z1⟩)
                      (first
                        | (go_at_call 27; (with_reducible refine KG.out.mono ?_); intro e w9 hgrown; obtain ⟨g', cap', rfl, hgs'⟩ := HG2.out.drew.next hgrown (by omega); have HG3 := Lib.hid hgs'; have HU3 := Lib.hid (hgs'.under HB.out (fun r hr => by rw [← HVB.out] at hr; exact own_block HO.out r hr)); have z0 := hgs'.box4.1; have z1 : w9.cell? ⟨Bf, of_ + f * 2, none⟩ = some (.int .u64 (xf.1 : Int)) := (HU3.out.cell (p := ⟨Bf, of_ + f * 2, none⟩) HY.out.1).trans HY.out.2; clear hgrown hgs'))
                    rename_i hHeld
                    clear hHeld
                    clear y0f x0 x1 x2 x3 z0 z1 KG HG2 HU2
                    go_wp2_with fail
                    go_roundg z
                    case measure => omega
                    case rel =>
                      refine ⟨q + 1, g', cap', a, _, _, by have := HQ.out.2; omega, by simp, rfl, ?_, HT2.out, ?_⟩
                      · rw [List.length_append]; congr 1; omega
                      · have k := HG3.out
                        simp only [List.append_assoc, List.cons_append] at k
                        exact k
                  · have HT2 := Lib.hid (ku_no HE.out HT.out hft)
                    have f1 : ¬ (f : Int) < (a : Int) := by omega
                    clear hft
                    go_upto_region 20 with fail
                    refine nw _ fun R hR => ?_
                    have HGR : Hid (Gs w0.heap.size w vb (nd0 lev key fa ta) g cap (O ++ (⟨lev, key, fa, ta, kk⟩ : Nd) :: o) R) := by rw [hR]; exact HGz.out.drew
                    clear hR x0 x1 x2 x3 xl HGz
                    go_wp2_with fail
                    go_roundg z
                    case measure => omega
                    case rel => exact ⟨q + 1, g, cap, a, o, kk, by have := HQ.out.2; omega, by simp, rfl, rfl, HT2.out, HGR.out⟩
                · have ai : (a : Int) < (ta : Int) := by omega
                  have a0 : (0 : Int) ≤ (a : Int) := by omega
                  have an : a < n := by have := HF.out; omega
                  have ani : (a : Int) < (n : Int) := by omega
                  have HU := Lib.hid (HGz.out.under HB.out (fun r hr => by rw [← HVB.out] at hr; exact own_block HO.out r hr))
                  obtain ⟨B, o', x, rfl, zB, hx, y0, y1⟩ := (HL.out.below HU.out).at_ an
                  have hk : keyAt L a = x.1 := by unfold keyAt; rw [hx]; rfl
                  have KQ := Lib.hid (rquarter_any x.1 lev (H64.out x (List.mem_of_getElem? hx)) (by omega))
                  have wa : IntKind.i64.wrap ((a : Int) + 1) = (a : Int) + 1 := by rw [IntWalk.i64_in _ (by have := HN.out; omega)]
                  have HKa : Hid (qt4 (keyAt L a) lev = qt4 x.1 lev) := by show qt4 _ _ = _; rw [hk]
                  have q4 := qt4_lt x.1 lev
                  generalize qt4 x.1 lev = z4 at KQ HKa q4
                  clear hfa hy hx hk an q4
                  go_upto_region 14 with fail
                  go_region_held3 (fun w' => w'.cell? ⟨w.heap.size, 0, none⟩ = some (.int .i64 (lev : Int)) ∧ w'.cell? ⟨w.heap.size, 3, none⟩ = some (.int .i64 (ta : Int)) ∧ w'.cell? ⟨B, o' + a * 2, none⟩ = some (.int .u64 (x.1 : Int)))
                    (first | (simp [*, go_sem]; done))
                    (first
                      | (go_at_call 60; (with_reducible refine (KQ.out _).mono ?_); rintro e w9 ⟨rfl, hb9⟩; obtain ⟨hcl9, hfr9⟩ := bcell_drew hb9; have HG9 := Lib.hid (HGz.out.drew.below hb9); have hsz9 := hb9.size; clear hb9))
                  rename_i hHeld
                  clear hHeld
                  by_cases hz : z4 = q
                  · subst hz
                    have HA := Lib.hid (adv_go (f := y) HKa.out)
                    go_wp2_with fail
                    go_roundg y
                    case measure => omega
                    case rel => exact ⟨a + 1, by have := HAy.out; omega, by have := HAy.out; omega, by simp, by rw [HAd.out]; exact HA.out, HG9.out⟩
                  · have HT : Hid (adv (keyAt L) lev q (ta - f) f = a) := by show adv _ _ _ _ _ = _; rw [HAd.out]; exact adv_stop (by rw [HKa.out]; exact hz)
                    have HTr : Hid (f ≤ a ∧ a ≤ ta) := ⟨by have := HAy.out; omega, by have := HAy.out; omega⟩
                    have k1 : ((z4 : Int) == (q : Int)) = false := by rw [beq_eq_false_iff_ne]; omega
                    have k2 : (z4 == q) = false := by rw [beq_eq_false_iff_ne]; omega
                    clear HAd HAy HKa KQ y0 y1 hcl9 hfr9 hsz9 HU zB
                    by_cases hft : f < a
                    · have HT2 := Lib.hid (ku_yes HE.out HT.out hft)
                      have HFA : Hid (f < a) := hft
                      have f1 : (f : Int) < (a : Int) := by omega
                      have f0 : (0 : Int) ≤ (f : Int) := by omega
                      have fn : (f : Int) < (n : Int) := by have := HF.out; have := HTr.out; omega
                      clear hft
                      obtain ⟨j2, hj2⟩ : ∃ j2, j2 = 2 * lev := ⟨_, rfl⟩
                      obtain ⟨j1, hj1⟩ : ∃ j1, j1 = 62 - 2 * lev := ⟨_, rfl⟩
                      have g1 : IntKind.i64.wrap (2 * (lev : Int)) = (j2 : Int) := by rw [IntWalk.i64_in _ (by omega)]; omega
                      have g2 : IntKind.i64.wrap (62 - (j2 : Int)) = (j1 : Int) := by rw [IntWalk.i64_in _ (by omega)]; omega
                      have g3 : (j1 : Int) < 64 := by omega
                      have g4 : ¬ (j1 : Int) < 0 := by omega
                      have HJ1 := Lib.hid hj1
                      clear hj1 hj2
                      go_upto_region 17 with fail
                      refine nw _ fun R hR => ?_
                      have HGR : Hid (Gs w0.heap.size w vb (nd0 lev key fa ta) g cap (O ++ (⟨lev, key, fa, ta, kk⟩ : Nd) :: o) R) := by rw [hR]; exact HG9.out
                      clear hR x0 x1 x2 x3 xl HG9
                      have zg := HGR.out.lt
                      have fg := HGR.out.frz
                      obtain ⟨x0, x1, x2, x3⟩ := HGR.out.box4
                      have xl := HGR.out.boxlt
                      have hget := ndc_get O o ⟨lev, key, fa, ta, kk⟩
                      rw [HOl.out] at hget
                      have cg : ∃ u, R.cell? ⟨g, m * 8 + (4 + q), none⟩ = some u := by
                        rcases (show q = 0 ∨ q = 1 ∨ q = 2 ∨ q = 3 by have := HQ.out; omega) with rfl | rfl | rfl | rfl
                        · exact ⟨_, HGR.out.own.cell hget rfl⟩
                        · exact ⟨_, HGR.out.own.cell hget rfl⟩
                        · exact ⟨_, HGR.out.own.cell hget rfl⟩
                        · exact ⟨_, HGR.out.own.cell hget rfl⟩
                      obtain ⟨u, cg⟩ := cg
                      have cg2 : R.cell? ⟨g, m * 8 + 4 + q, none⟩ = some u := by rw [show m * 8 + 4 + q = m * 8 + (4 + q) by omega]; exact cg
                      have ml : (m : Int) < ((m + 1 + o.length : Nat) : Int) := by omega
                      clear hget cg
                      go_upto_region 19 with fail
                      refine nw _ fun R2 hR2 => ?_
                      have HG2 : Hid (Gs w0.heap.size w vb (nd0 lev key fa ta) g cap (O ++ (⟨lev, key, fa, ta, fun i => if i = q then ((m + 1 + o.length : Nat) : Int) else kk i⟩ : Nd) :: o) R2) := by
                        have k := HGR.out.kid (q := q) HQ.out.1 ((m + 1 + o.length : Nat) : Int)
                        rw [HOl.out] at k
                        rw [hR2]; exact k
                      clear hR2 x0 x1 x2 x3 xl zg fg cg2 HGR
                      obtain ⟨x0, x1, x2, x3⟩ := HG2.out.box4
                      have xl := HG2.out.boxlt
                      have HU2 := Lib.hid (HG2.out.under HB.out (fun r hr => by rw [← HVB.out] at hr; exact own_block HO.out r hr))
                      obtain ⟨Bf, of_, xf, hA', zBf, hxf, y0w, _⟩ := HL.out.at_ (show f < n by omega)
                      have y0f : R2.cell? ⟨Bf, of_ + f * 2, none⟩ = some (.int .u64 (xf.1 : Int)) := (HU2.out.cell (p := ⟨Bf, of_ + f * 2, none⟩) zBf).trans y0w
                      have HY := Lib.hid (And.intro zBf y0w)
                      clear y0w
                      have hkf : keyAt L f = xf.1 := by unfold keyAt; rw [hxf]; rfl
                      have hk64 := H64.out xf (List.mem_of_getElem? hxf)
                      obtain ⟨l2, hl2⟩ : ∃ l2, l2 = lev + 1 := ⟨_, rfl⟩
                      obtain ⟨ck, hck⟩ : ∃ ck, ck = cutk xf.1 lev := ⟨_, rfl⟩
                      have hck64 : ck < 18446744073709551616 := by
                        rw [hck]; unfold cutk
                        exact Nat.lt_of_le_of_lt (Nat.div_mul_le_self _ _) hk64
                      have g5 : IntKind.i64.wrap ((lev : Int) + 1) = (l2 : Int) := by rw [IntWalk.i64_in _ (by omega)]; omega
                      have g6 : IntKind.u64.wrap ((xf.1 : Int) / 2 ^ j1 * 2 ^ j1) = (ck : Int) := by
                        have e : (xf.1 : Int) / 2 ^ j1 * 2 ^ j1 = ((cutk xf.1 lev : Nat) : Int) := by unfold cutk; rw [← HJ1.out]; simp
                        rw [e, hck]; exact IntWalk.u64_in _ (by rw [hck] at hck64; omega)
                      have hlen2 : (O ++ (⟨lev, key, fa, ta, fun i => if i = q then ((m + 1 + o.length : Nat) : Int) else kk i⟩ : Nd) :: o).length = m + 1 + o.length := by
                        rw [List.length_append, HOl.out, List.length_cons]; omega
                      have KG : Hid (Calls Tryz.prog 27 #[.slice (some ⟨g, 0, none⟩) (m + 1 + o.length) cap, .slice (some ⟨B, o', none⟩) n c, .agg #[.int .i64 (l2 : Int), .int .u64 (ck : Int), .int .i64 (f : Int), .int .i64 (a : Int), .int .i64 0, .int .i64 0, .int .i64 0, .int .i64 0]] R2.drew
                          (Grown w0.heap.size R2.drew (some g) (m + 1 + o.length) (O ++ (⟨lev, key, fa, ta, fun i => if i = q then ((m + 1 + o.length : Nat) : Int) else kk i⟩ : Nd) :: o) (rec_ (m + 1 + o.length) (cutk (keyAt L f) lev) f a))) := by
                        have own := HG2.out.drew.own.own (base := w0.heap.size) (by decide) HG2.out.gb HG2.out.cm
                        rw [List.length_map, hlen2] at own
                        have kl := ku_len (rec := rec_) (d := d + 1) (fun a k f t h => by rw [HRE.out]; exact HRec.out a k f t h) (keyAt L) lev m ta fa (by have := HF.out; omega) q
                        rw [HE.out] at kl
                        have s1 : (d + 1) * (f - fa) + (d + 1) * (a - f) = (d + 1) * (a - fa) := by rw [← Nat.mul_add]; congr 1; have := HFq.out; have := HFA.out; omega
                        have s2 : (d + 1) * (a - fa) ≤ (d + 1) * (ta - fa) := Nat.mul_le_mul_left _ (by have := HTr.out; omega)
                        have s3 : (d + 1 + 1) * (ta - fa) = (d + 1) * (ta - fa) + (ta - fa) := by rw [Nat.add_mul (d + 1) 1]; omega
                        have k := IH.out l2 (by have := HD.out; omega) w0 (some ⟨B, o', none⟩) n c L HL.out H64.out HN.out.1 ck f a HFA.out (by have := HTr.out; have := HF.out; omega) hck64 (m + 1 + o.length) _ hlen2 (by have := HN.out.2; have := HF.out; simp only at kl; omega) _ R2.drew HU2.out.drew own
                        rw [HRE.out, hkf, ← hck, ← hl2]
                        exact k
                      obtain ⟨rfl, rfl⟩ : Bf = B ∧ of_ = o' := by simpa using hA'.symm
                      clear hxf hkf hk64 hck hck64 hl2 hlen2 zBf
                      go_region_held3 (fun w' => w'.cell? ⟨w.heap.size, 0, none⟩ = some (.int .i64 (lev : Int)) ∧ w'.cell? ⟨Bf, of_ + f * 2, none⟩ = some (.int .u64 (xf.1 : Int)))
                        (first | (simp [*, go_sem]; done) | exact ⟨z0, z1⟩)
                        (first
                          | (go_at_call 27; (with_reducible refine KG.out.mono ?_); intro e w9 hgrown; obtain ⟨g', cap', rfl, hgs'⟩ := HG2.out.drew.next hgrown (by omega); have HG3 := Lib.hid hgs'; have HU3 := Lib.hid (hgs'.under HB.out (fun r hr => by rw [← HVB.out] at hr; exact own_block HO.out r hr)); have z0 := hgs'.box4.1; have z1 : w9.cell? ⟨Bf, of_ + f * 2, none⟩ = some (.int .u64 (xf.1 : Int)) := (HU3.out.cell (p := ⟨Bf, of_ + f * 2, none⟩) HY.out.1).trans HY.out.2; clear hgrown hgs'))
                      rename_i hHeld
                      clear hHeld
                      clear y0f x0 x1 x2 x3 z0 z1 KG HG2 HU2
                      go_wp2_with fail
                      go_roundg z
                      case measure => omega
                      case rel =>
                        refine ⟨q + 1, g', cap', a, _, _, by have := HQ.out.2; omega, by simp, rfl, ?_, HT2.out, ?_⟩
                        · rw [List.length_append]; congr 1; omega
                        · have k := HG3.out
                          simp only [List.append_assoc, List.cons_append] at k
                          exact k
                    · have HT2 := Lib.hid (ku_no HE.out HT.out hft)
                      have f1 : ¬ (f : Int) < (a : Int) := by omega
                      clear hft
                      go_upto_region 20 with fail
                      refine nw _ fun R hR => ?_
                      have HGR : Hid (Gs w0.heap.size w vb (nd0 lev key fa ta) g cap (O ++ (⟨lev, key, fa, ta, kk⟩ : Nd) :: o) R) := by rw [hR]; exact HG9.out
                      clear hR x0 x1 x2 x3 xl HG9
                      go_wp2_with fail
                      go_roundg z
                      case measure => omega
                      case rel => exact ⟨q + 1, g, cap, a, o, kk, by have := HQ.out.2; omega, by simp, rfl, rfl, HT2.out, HGR.out⟩
            · obtain rfl : q = 4 := by omega
              have HRR : Hid (Grown w0.heap.size w (Value.slice A1 m c1).ownBlock m O (gr (d + 1) (keyAt L) m lev key fa ta) (.returned (.slice (some ⟨g, 0, none⟩) (m + 1 + o.length) cap)) wr) := by
                have k := HR.out wr g cap
                rw [HE.out] at k
                exact k HGq.out
              rw [show ((4 : Nat) : Int) = 4 from rfl]
              clear hq HR
              go_wp2_with fail
              go_returns
              exact HRR.out
end Go.Proofs.YtjilnmpajhifcaaGreat
namespace Go.Proofs.YtjilnmpajhifcaaGreat
open Go.RowKit
/-- A level, within its bounds. -/
def wlev (z : Int) : Nat := if z < 0 then 0 else if 32 < z then 32 else z.toNat
def wid (z : Int) : Value := .agg #[.int .i64 ((2 ^ (32 - wlev z) : Nat) : Int), .int .u64 0]
set_option maxRecDepth 20000 in
set_option maxHeartbeats 8000000 in
theorem rwidth_0 (z : Int) (c : z ≤ 0) (w : World) (C1 : Ct 19 #[.int .i64 4294967296] (.agg #[.int .i64 4294967296, .int .u64 0])) :
    Calls Tryz.prog 32 #[.int .i64 z] w fun e w' => e = .returned (.agg #[.int .i64 4294967296, .int .u64 0]) ∧ Below w.heap.size w w' := by
  have K1 := Lib.hid C1
  clear C1
  have c1 : ¬ 32 < z := by omega
  have c2 : z < 32 := by omega
  have c3 : ¬ 0 < z := by omega
  go_enter Tryz.func32, Tryz.ntmps32
  go_wp2_with fail
  (with_reducible refine cm (K1.out _) fun w1 hclw1 hfrw1 hb => ?_); obtain ⟨zw1_a, yw1_a, yyw1_a⟩ := sz3 (B := w.heap.size) hb; have sxw1_0 := sz1 (b := w.heap.size + 1) hb; have HBw1 := hbw (a := w) hb; clear hb
  go_wp2_with fail
  refine bodyPost_ret (by simp [results, Tryz.results32, go_sem, *]; try rfl) rfl ?_
  exact ⟨rfl, bb⟩
set_option maxRecDepth 20000 in
set_option maxHeartbeats 8000000 in
theorem rwidth_2 (z : Int) (c : 32 < z) (w : World) (C1 : Ct 19 #[.int .i64 1] (.agg #[.int .i64 1, .int .u64 0])) :
    Calls Tryz.prog 32 #[.int .i64 z] w fun e w' => e = .returned (.agg #[.int .i64 1, .int .u64 0]) ∧ Below w.heap.size w w' := by
  have K1 := Lib.hid C1
  clear C1
  have c1 : ¬ z < 32 := by omega
  have c2 : ¬ z < 0 := by omega
  have c3 : 0 < z := by omega
  go_enter Tryz.func32, Tryz.ntmps32
  go_wp2_with fail
  (with_reducible refine cm (K1.out _) fun w1 hclw1 hfrw1 hb => ?_); obtain ⟨zw1_a, yw1_a, yyw1_a⟩ := sz3 (B := w.heap.size) hb; have sxw1_0 := sz1 (b := w.heap.size + 1) hb; have HBw1 := hbw (a := w) hb; clear hb
  go_wp2_with fail
  refine bodyPost_ret (by simp [results, Tryz.results32, go_sem, *]; try rfl) rfl ?_
  exact ⟨rfl, bb⟩
set_option maxRecDepth 20000 in
set_option maxHeartbeats 8000000 in
theorem rwidth_3 (z : Int) (c : z = 32) (w : World) (C1 : Ct 19 #[.int .i64 1] (.agg #[.int .i64 1, .int .u64 0])) :
    Calls Tryz.prog 32 #[.int .i64 z] w fun e w' => e = .returned (.agg #[.int .i64 1, .int .u64 0]) ∧ Below w.heap.size w w' := by
  have K1 := Lib.hid C1
  clear C1
  subst c
  go_enter Tryz.func32, Tryz.ntmps32
  go_wp2_with fail
  (with_reducible refine cm (K1.out _) fun w1 hclw1 hfrw1 hb => ?_); obtain ⟨zw1_a, yw1_a, yyw1_a⟩ := sz3 (B := w.heap.size) hb; have sxw1_0 := sz1 (b := w.heap.size + 1) hb; have HBw1 := hbw (a := w) hb; clear hb
  go_wp2_with fail
  refine bodyPost_ret (by simp [results, Tryz.results32, go_sem, *]; try rfl) rfl ?_
  exact ⟨rfl, bb⟩
set_option maxRecDepth 20000 in
set_option maxHeartbeats 8000000 in
theorem rwidth_1 (z n : Int) (j : Nat) (c : 0 < z) (d : z < 32) (e1 : IntKind.i64.wrap (32 - z) = (j : Int)) (e2 : (j : Int) < 64) (e4 : IntKind.i64.wrap (2 ^ j) = n) (w : World) (C1 : Ct 19 #[.int .i64 n] (.agg #[.int .i64 n, .int .u64 0])) :
    Calls Tryz.prog 32 #[.int .i64 z] w fun e w' => e = .returned (.agg #[.int .i64 n, .int .u64 0]) ∧ Below w.heap.size w w' := by
  have K1 := Lib.hid C1
  clear C1
  have c1 : ¬ z < 0 := by omega
  have c2 : ¬ 32 < z := by omega
  go_enter Tryz.func32, Tryz.ntmps32
  go_wp2_with fail
  (with_reducible refine cm (K1.out _) fun w1 hclw1 hfrw1 hb => ?_); obtain ⟨zw1_a, yw1_a, yyw1_a⟩ := sz3 (B := w.heap.size) hb; have sxw1_0 := sz1 (b := w.heap.size + 1) hb; have HBw1 := hbw (a := w) hb; clear hb
  go_wp2_with fail
  refine bodyPost_ret (by simp [results, Tryz.results32, go_sem, *]; try rfl) rfl ?_
  exact ⟨rfl, bb⟩
theorem rwidth_any (z : Int) (w : World) : Calls Tryz.prog 32 #[.int .i64 z] w fun e w' => e = .returned (wid z) ∧ Below w.heap.size w w' := by
  by_cases c0 : z ≤ 0
  · have e : wid z = .agg #[.int .i64 4294967296, .int .u64 0] := by
      have : wlev z = 0 := by unfold wlev; split; rfl; rw [if_neg (by omega)]; omega
      unfold wid; rw [this]; rfl
    rw [e]; exact rwidth_0 z c0 w (rint_hi _ (by omega))
  · by_cases c1 : 32 < z
    · have e : wid z = .agg #[.int .i64 1, .int .u64 0] := by
        have : wlev z = 32 := by unfold wlev; rw [if_neg (by omega), if_pos c1]
        unfold wid; rw [this]; rfl
      rw [e]; exact rwidth_2 z c1 w (rint_hi _ (by omega))
    · by_cases c2 : z = 32
      · have e : wid z = .agg #[.int .i64 1, .int .u64 0] := by subst c2; rfl
        rw [e]; exact rwidth_3 z c2 w (rint_hi _ (by omega))
      · have hl : wlev z = z.toNat := by unfold wlev; rw [if_neg (by omega), if_neg c1]
        have e1 : IntKind.i64.wrap (32 - z) = ((32 - wlev z : Nat) : Int) := by rw [IntWalk.i64_in _ (by omega)]; omega
        unfold wid
        have hj : 32 - wlev z ≤ 32 := by omega
        have hp : 2 ^ (32 - wlev z) ≤ 4294967296 := by have := Nat.pow_le_pow_right (n := 2) (by decide) hj; simpa using this
        have e4 : IntKind.i64.wrap (2 ^ (32 - wlev z)) = ((2 ^ (32 - wlev z) : Nat) : Int) := by
          have e : ((2 : Int) ^ (32 - wlev z)) = ((2 ^ (32 - wlev z) : Nat) : Int) := by simp
          rw [e]; generalize 2 ^ (32 - wlev z) = x at *; exact IntWalk.i64_in _ (by omega)
        exact rwidth_1 z _ _ (by omega) (by omega) e1 (by omega) e4 w (rint_hi _ (by have := Int.natCast_nonneg (2 ^ (32 - wlev z)); omega))
end Go.Proofs.YtjilnmpajhifcaaGreat
namespace Go.Proofs.YtjilnmpajhifcaaGreat
open Go.RowKit
/-- The tree of bodies. -/
def bld (n : Nat) (L : List (Nat × Int)) : List Nd := if n = 0 ∨ rs L = false then [] else gr 32 (keyAt L) 0 0 0 0 n
/-- A fresh row of nodes. -/
def Bld (w : World) (T : List Nd) (e : Ending) (w' : World) : Prop :=
  ∃ v', e = .returned v' ∧ w'.ownsRow w.heap.size 74 8 v' T.length (T.map ndc).flatten ∧ Below w.heap.size w w'
theorem Bld.nil (w w' : World) (h : Below w.heap.size w w') : Bld w [] (.returned (.slice none 0 0)) w' :=
  ⟨_, rfl, ⟨by simp, Or.inl ⟨rfl, rfl⟩⟩, h⟩
theorem Bld.of {w w1 w' : World} {T : List Nd} {e : Ending} (hb : Below w.heap.size w w1) (h : Grown w.heap.size w1 none 0 [] T e w') : Bld w T e w' := by
  obtain ⟨v', rfl, hown, hg, _⟩ := h
  refine ⟨v', rfl, ?_, hb.grown hg hb.size (fun q hq => by cases hq)⟩
  simpa using hown
set_option maxRecDepth 20000 in
set_option maxHeartbeats 8000000 in
theorem rbuild_any (A : Option Addr) (n c : Nat) (L : List (Nat × Int)) (w : World) (hL : Ks w A n L) (ho : ∀ x ∈ L, x.1 < 18446744073709551616) (hn : n ≤ 34359738368) :
    Calls Tryz.prog 10 #[.slice A n c] w (Bld w (bld n L)) := by
  have HL := Lib.hid hL; have HO := Lib.hid ho
  clear hL ho
  by_cases h0 : n = 0
  · subst h0
    have hb : Hid (bld 0 L = []) := rfl
    go_enter Tryz.func10, Tryz.ntmps10
    go_wp2_with fail
    go_returns
    rw [hb.out]
    exact Bld.nil _ _ (Below.refl _ _)
  · have n0 : ((n : Int) == 0) = false := by rw [beq_eq_false_iff_ne]; omega
    have n1 : (n == 0) = false := by rw [beq_eq_false_iff_ne]; omega
    have n2 : ¬ (n : Int) = 0 := by omega
    have KR := rrising_any A n c L (by omega) w HL.out
    have KG : ∀ w1, Below w.heap.size w w1 → Calls Tryz.prog 27 #[.slice none 0 0, .slice A n c, .agg #[.int .i64 0, .int .u64 0, .int .i64 0, .int .i64 (n : Int), .int .i64 0, .int .i64 0, .int .i64 0, .int .i64 0]] w1 (Grown w.heap.size w1 none 0 [] (gr 32 (keyAt L) 0 0 0 0 n)) := fun w1 hb =>
      rgrow_any 32 0 rfl w A n c L HL.out HO.out (by omega) 0 0 n (by omega) (by omega) (by decide) 0 [] rfl (by omega) (.slice none 0 0) w1 hb ⟨by simp, Or.inl ⟨rfl, rfl⟩⟩
    clear hn
    by_cases hr : rs L = false
    · have HB : Hid (bld n L = []) := by show bld n L = _; unfold bld; rw [if_pos (Or.inr hr)]
      rw [hr] at KR
      go_enter Tryz.func10, Tryz.ntmps10
      go_wp2_with (first
        | (go_at_call 26; (with_reducible refine KR.mono ?_); rintro e w9 ⟨rfl, hb9⟩)
        | fail)
      rw [HB.out]
      refine bodyPost_ret (by simp [results, Tryz.results10, go_sem]; try rfl) rfl ?_
      exact Bld.nil _ _ hb9
    · have HB : Hid (bld n L = gr 32 (keyAt L) 0 0 0 0 n) := by show bld n L = _; unfold bld; rw [if_neg (by simp [h0, hr])]
      rw [show rs L = true by simpa using hr] at KR
      have KG := Lib.hid KG
      go_enter Tryz.func10, Tryz.ntmps10
      go_wp2_with (first
        | (go_at_call 26; (with_reducible refine KR.mono ?_); rintro e w9 ⟨rfl, hb9⟩)
        | (go_at_call 27; (with_reducible refine (KG.out _ hb9).mono ?_); intro e w8 hgr; have hb8 := Bld.of hb9 hgr; obtain ⟨v8, rfl, _⟩ := hgr)
        | fail)
      rw [HB.out]
      first
        | (go_returns; exact hb8)
        | (refine bodyPost_ret (by simp [results, Tryz.results10, go_sem]; try rfl) rfl ?_; exact hb8)
end Go.Proofs.YtjilnmpajhifcaaGreat
namespace Go.Proofs.YtjilnmpajhifcaaGreat
open Go.RowKit
theorem nd_cells : Tryz.prog.cellsOf 74 = 8 := by kernel_rfl
def agn (x : Nd) : Value := .agg #[.int .i64 (x.lev : Int), .int .u64 (x.key : Int), .int .i64 (x.fr : Int), .int .i64 (x.to : Int), .int .i64 (x.kid 0), .int .i64 (x.kid 1), .int .i64 (x.kid 2), .int .i64 (x.kid 3)]
theorem eq4 (d : Nat) (a b c e : Int) (W : World) : (Op.equalIn (d + 1 + 1) 72 (.agg #[.int .i64 a, .int .i64 b, .int .i64 c, .int .i64 e]) (.agg #[.int .i64 a, .int .i64 b, .int .i64 c, .int .i64 e])).run Tryz.prog W = .ok true W := by
  obtain ⟨i, hi⟩ := Option.isSome_iff_exists.1 (show (Tryz.prog.info? 3).isSome = true by kernel_rfl)
  have hc : Tryz.prog.cellsOf 3 = 1 := by kernel_rfl
  rw [run_equalIn_array W (d + 1) _ _ (show Tryz.prog.underlying 72 = some (.array 4 3) by kernel_rfl) hi, hc]
  simp [Op.eqItems, List.range, List.range.loop, go_sem]
theorem ne_nd_false (a b c d e f g h : Int) (W : World) : (Go.binOp .neq 74 (.agg #[.int .i64 a, .int .u64 b, .int .i64 c, .int .i64 d, .int .i64 e, .int .i64 f, .int .i64 g, .int .i64 h]) (.agg #[.int .i64 a, .int .u64 b, .int .i64 c, .int .i64 d, .int .i64 e, .int .i64 f, .int .i64 g, .int .i64 h])).run Tryz.prog W = .ok (.bool false) W := by
  have h := eq4 9997 e f g h W
  simp only [Nat.reduceAdd] at h
  simp [go_sem, h]
/-- A node's eight cells in a slice. -/
def Cs (w : World) (G o : Nat) (x : Nd) : Prop :=
  w.cell? ⟨G, o, none⟩ = some (.int .i64 (x.lev : Int)) ∧ w.cell? ⟨G, o + 1, none⟩ = some (.int .u64 (x.key : Int)) ∧ w.cell? ⟨G, o + 2, none⟩ = some (.int .i64 (x.fr : Int)) ∧ w.cell? ⟨G, o + 3, none⟩ = some (.int .i64 (x.to : Int)) ∧
  w.cell? ⟨G, o + 4, none⟩ = some (.int .i64 (x.kid 0)) ∧ w.cell? ⟨G, o + 5, none⟩ = some (.int .i64 (x.kid 1)) ∧ w.cell? ⟨G, o + 6, none⟩ = some (.int .i64 (x.kid 2)) ∧ w.cell? ⟨G, o + 7, none⟩ = some (.int .i64 (x.kid 3))
theorem nodes_at {w : World} {A : Option Addr} {n : Nat} {L : List Nd} (h : S0 8 w A n (L.map ndc)) {j : Nat} (hj : j < n) :
    ∃ G o x, A = some ⟨G, o, none⟩ ∧ G < w.heap.size ∧ L[j]? = some x ∧ Cs w G (o + j * 8) x := by
  obtain ⟨x, hx⟩ : ∃ x, L[j]? = some x := by
    have hl : L.length = n := by have := h.1; rwa [List.length_map] at this
    exact ⟨_, List.getElem?_eq_getElem (by omega)⟩
  have hm : (L.map ndc)[j]? = some (ndc x) := by rw [List.getElem?_map, hx]; rfl
  obtain ⟨B, o, e, hb, hc⟩ := h.at_ hm
  exact ⟨B, o, x, e, hb, hx, hc 0 _ rfl, hc 1 _ rfl, hc 2 _ rfl, hc 3 _ rfl, hc 4 _ rfl, hc 5 _ rfl, hc 6 _ rfl, hc 7 _ rfl⟩
end Go.Proofs.YtjilnmpajhifcaaGreat
namespace Go.Proofs.YtjilnmpajhifcaaGreat
open Go.RowKit
theorem own_cap {w : World} {base : Nat} {t : TypeId} {s n c : Nat} {A : Option Addr} {xs : List Value} (h : w.ownsRow base t s (.slice A n c) n xs) : n ≤ c := by
  rcases h.2 with ⟨h, rfl⟩ | ⟨g, cap, cur, e, _, _, hn, _⟩
  · exact Nat.zero_le _
  · injection e with _ _ e3; omega
/-- What the program's Width comes to. -/
def WidT : Prop := ∀ (z : Int) (W : World), Calls Tryz.prog 31 #[.int .i64 z] W fun e w' => e = .returned (wid z) ∧ Below W.heap.size W w'
theorem Bld.use {w w' : World} {T : List Nd} {e : Ending} (h : Bld w T e w') : ∃ A c, e = .returned (.slice A T.length c) ∧ S0 8 w' A T.length (T.map ndc) ∧ Below w.heap.size w w' := by
  obtain ⟨v', rfl, hown, hb⟩ := h
  obtain ⟨A, c, rfl, _, hS⟩ := S0.of_own (Ln.map ndc_len T) (by decide) hown
  exact ⟨A, c, rfl, hS, hb⟩
theorem eq_fx (a b : Int) (W : World) : (Go.binOp .eql 27 (.agg #[.int .i64 a, .int .u64 b]) (.agg #[.int .i64 a, .int .u64 b])).run Tryz.prog W = .ok (.bool true) W := by
  simp [go_sem]
theorem eq_k4 (a b c e : Int) (W : World) : (Go.binOp .eql 72 (.agg #[.int .i64 a, .int .i64 b, .int .i64 c, .int .i64 e]) (.agg #[.int .i64 a, .int .i64 b, .int .i64 c, .int .i64 e])).run Tryz.prog W = .ok (.bool true) W := by
  have h := eq4 9998 a b c e W
  simp only [Nat.reduceAdd] at h
  simp [go_sem, h]
theorem bld_len (n : Nat) (L : List (Nat × Int)) (hn : n ≤ 34359738368) : (bld n L).length ≤ 1133871366144 := by
  unfold bld
  by_cases h : n = 0 ∨ rs L = false
  · rw [if_pos h]; exact Nat.zero_le _
  · rw [if_neg h]
    have := gr_len 32 (keyAt L) 0 0 0 0 n (by omega)
    omega
end Go.Proofs.YtjilnmpajhifcaaGreat
