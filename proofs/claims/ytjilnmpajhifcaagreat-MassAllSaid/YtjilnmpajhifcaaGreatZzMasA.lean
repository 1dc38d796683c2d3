/- The document's SameCells. -/
import Derived.Test.YtjilnmpajhifcaaGreatMassCen
import Derived.Test.YtjilnmpajhifcaaGreatZzTreA
import Derived.Test.YtjilnmpajhifcaaGreatZzSrtA
import Derived.Test.YtjilnmpajhifcaaGreatZzBod
import Derived.Test.YtjilnmpajhifcaaGreatZzMortA
import Derived.Test.YtjilnmpajhifcaaGreatZzRefA
namespace Go.Proofs.YtjilnmpajhifcaaGreat
open Go.RowKit
/-- What the document's Centre comes to, of some bodies. -/
def RCenT : Prop := ∀ (A : Option Addr) (n c : Nat) (L : List Bod), 0 < n → n ≤ 64 → (∀ b ∈ L, Mb b) → ∀ W : World, Bds W A n L → Calls Tryz.prog 8 #[.slice A n c] W fun e w' => e = .returned (.agg #[.int .i64 (fh (sM L)), .int .u64 (fl (sM L)), .int .i64 (fh (mid Bod.x L)), .int .u64 (fl (mid Bod.x L)), .int .i64 (fh (mid Bod.y L)), .int .u64 (fl (mid Bod.y L)), .int .i64 0]) ∧ Below W.heap.size W w'
/-- The bodies of a node. -/
def memb (by_ : List (Nat × Int)) (L : List Bod) (f t : Nat) : List Bod := ((by_.drop f).take (t - f)).filterMap fun k => L[k.2.toNat]?
theorem memb_zero (by_ : List (Nat × Int)) (L : List Bod) (f : Nat) : memb by_ L f f = [] := by unfold memb; simp
theorem memb_next {by_ : List (Nat × Int)} {L : List Bod} {f k : Nat} {x : Nat × Int} {b : Bod} (h : f ≤ k) (hx : by_[k]? = some x) (hb : L[x.2.toNat]? = some b) : memb by_ L f (k + 1) = memb by_ L f k ++ [b] := by
  unfold memb
  have e : (by_.drop f)[k - f]? = some x := by rw [List.getElem?_drop, show f + (k - f) = k by omega]; exact hx
  rw [show k + 1 - f = k - f + 1 by omega, take_snoc' e, List.filterMap_append]
  simp [hb]
theorem memb_mem {by_ : List (Nat × Int)} {L : List Bod} {f t : Nat} {b : Bod} (h : b ∈ memb by_ L f t) : b ∈ L := by
  unfold memb at h
  obtain ⟨k, _, hk⟩ := List.mem_filterMap.1 h
  exact List.mem_of_getElem? hk
/-- How wide a level is. -/
def wd8 (z : Int) : Int := ((2 ^ (32 - wlev z) : Nat) : Int)
theorem rwidth_wd (z : Int) : ∀ W, Calls Tryz.prog 32 #[.int .i64 z] W fun e w' => e = .returned (.agg #[.int .i64 (wd8 z), .int .u64 0]) ∧ Below W.heap.size W w' := fun W => rwidth_any z W
/-- A cell: all mass, the middle, how wide. -/
def celc (C : List Bod) (z : Int) : List Value := [.int .i64 (fh (sM C)), .int .u64 (fl (sM C)), .int .i64 (fh (mid Bod.x C)), .int .u64 (fl (mid Bod.x C)), .int .i64 (fh (mid Bod.y C)), .int .u64 (fl (mid Bod.y C)), .int .i64 (wd8 z), .int .u64 0]
theorem celc_len (C : List Bod) (z : Int) : (celc C z).length = 8 := rfl
theorem celc_one (C : List Bod) (z : Int) : One [celc C z] := fun c hc u hu => by
  simp at hc; subst hc
  simp [celc] at hu
  rcases hu with rfl | rfl | rfl | rfl | rfl | rfl | rfl | rfl <;> rfl
theorem bdc_one (b : Bod) : One [bdc b] := fun c hc u hu => by
  simp at hc; subst hc
  simp [bdc] at hu
  rcases hu with rfl | rfl | rfl | rfl | rfl | rfl | rfl | rfl | rfl | rfl | rfl | rfl | rfl | rfl | rfl | rfl | rfl | rfl | rfl | rfl <;> rfl
/-- Cells laid one by one over as many. -/
theorem fold_set : ∀ (l : List Value) (k : Nat) (z : Array Value), k + l.length = z.size → (l.zipIdx k).foldl (fun (cs : Array Value) (x : Value × Nat) => cs.setIfInBounds x.snd x.fst) z = (z.toList.take k ++ l).toArray := by
  intro l
  induction l with
  | nil => intro k z h; simp at h; rw [List.take_of_length_le (by simp; omega)]; simp
  | cons a t ih =>
    intro k z h
    rw [List.length_cons] at h
    rw [List.zipIdx_cons, List.foldl_cons, ih (k + 1) (z.setIfInBounds k a) (by simp; omega)]
    congr 1
    have hk : k < z.toList.length := by simp; omega
    rw [Array.toList_setIfInBounds, List.take_succ_eq_append_getElem (by simp; omega), List.take_set_of_le (Nat.le_refl _), List.getElem_set_self]
    simp
theorem bdc_fold (b : Bod) : List.foldl (fun (cs : Array Value) (x : Value × Nat) => cs.setIfInBounds x.snd x.fst) #[.int .i64 0, .int .u64 0, .int .i64 0, .int .u64 0, .int .i64 0, .int .u64 0, .int .i64 0, .int .u64 0, .int .i64 0, .int .u64 0, .int .i64 0, .int .u64 0, .int .i64 0, .int .u64 0, .int .i64 0, .int .u64 0, .int .i64 0, .int .u64 0, .int .i64 0, .int .i64 0] (bdc b).zipIdx = (bdc b).toArray := by
  rw [fold_set (bdc b) 0 _ rfl]; simp
/-- All cells of some nodes. -/
def cels (by_ : List (Nat × Int)) (L : List Bod) (T : List Nd) : List (List Value) := T.map fun x => celc (memb by_ L x.fr x.to) (x.lev : Int)
theorem cels_len (by_ : List (Nat × Int)) (L : List Bod) (T : List Nd) : Ln 8 (cels by_ L T) := by
  unfold cels
  exact Ln.map (s := 8) (fun _ => celc_len _ _) T
theorem bd_row : RowT 22 56 20 160 := RowT.mk' Tryz.underlying22 (z := .agg #[.int .i64 0, .int .u64 0, .int .i64 0, .int .u64 0, .int .i64 0, .int .u64 0, .int .i64 0, .int .u64 0, .int .i64 0, .int .u64 0, .int .i64 0, .int .u64 0, .int .i64 0, .int .u64 0, .int .i64 0, .int .u64 0, .int .i64 0, .int .u64 0, .int .i64 0, .int .i64 0]) (by kernel_rfl) rfl (by decide)
theorem cl_row : RowT 40 52 8 64 := RowT.mk' Tryz.underlying40 (z := .agg #[.int .i64 0, .int .u64 0, .int .i64 0, .int .u64 0, .int .i64 0, .int .u64 0, .int .i64 0, .int .u64 0]) (by kernel_rfl) rfl (by decide)
theorem node_at {w : World} {A : Option Addr} {n : Nat} {T : List Nd} (h : S0 8 w A n (T.map ndc)) {j : Nat} (hj : j < n) :
    ∃ (B o : Nat) (x : Nd), A = some ⟨B, o, none⟩ ∧ B < w.heap.size ∧ T[j]? = some x ∧ w.cell? ⟨B, o + j * 8, none⟩ = some (.int .i64 (x.lev : Int)) ∧ w.cell? ⟨B, o + j * 8 + 2, none⟩ = some (.int .i64 (x.fr : Int)) ∧ w.cell? ⟨B, o + j * 8 + 3, none⟩ = some (.int .i64 (x.to : Int)) := by
  have hl : T.length = n := by have := h.1; simpa using this
  have hx := List.getElem?_eq_getElem (l := T) (i := j) (by omega)
  obtain ⟨B, o, e, hB, hc⟩ := h.at_ (j := j) (c := ndc T[j]) (by rw [List.getElem?_map, hx]; rfl)
  exact ⟨B, o, _, e, hB, hx, hc 0 _ rfl, hc 2 _ rfl, hc 3 _ rfl⟩
end Go.Proofs.YtjilnmpajhifcaaGreat
namespace Go.Proofs.YtjilnmpajhifcaaGreat
open Go.RowKit
set_option maxRecDepth 20000 in
set_option maxHeartbeats 8000000 in
theorem mswake_core (k1 k0 j1 j0 : Int) (C1 : Ct 19 #[.int .i64 1] (.agg #[.int .i64 k1, .int .u64 k0])) (C3 : Ct 19 #[.int .i64 3] (.agg #[.int .i64 j1, .int .u64 j0]))
    (CN : Ct 13 #[.int .i64 0] (.int .i64 0))
    (CC : ∀ (W : World) (A : Option Addr), S0 20 W A 1 [[.int .i64 k1, .int .u64 k0, .int .i64 0, .int .u64 0, .int .i64 j1, .int .u64 j0, .int .i64 0, .int .u64 0, .int .i64 0, .int .u64 0, .int .i64 0, .int .u64 0, .int .i64 0, .int .u64 0, .int .i64 0, .int .u64 0, .int .i64 0, .int .u64 0, .int .i64 0, .int .i64 0]] → Calls Tryz.prog 7 #[.slice A 1 1] W fun e w' => e = .returned (.tuple #[.agg #[.int .i64 k1, .int .u64 k0], .agg #[.int .i64 j1, .int .u64 j0, .int .i64 0, .int .u64 0], .int .i64 0]) ∧ Below W.heap.size W w') (w : World) :
    Calls Tryz.prog 6 #[] w fun e w' => e = .returned (.bool true) ∧ Below w.heap.size w w' := by
  have K1 := Lib.hid C1; have K3 := Lib.hid C3; have KN := Lib.hid CN; have KC := Lib.hid CC
  clear C1 C3 CN CC
  go_enter Tryz.func6, Tryz.ntmps6
  go_wp2_with fail
  refine (K1.out _).mono ?_
  rintro e w1 ⟨rfl, hb1⟩
  have B1 : Hid (Below w.heap.size w w1) := hb1
  clear hb1
  go_wp2_with fail
  refine (K3.out _).mono ?_
  rintro e w2 ⟨rfl, hb2⟩
  have B2 : Hid (Below w.heap.size w w2) := bl_trans B1.out hb2
  clear hb2 B1
  go_wp2_with fail
  refine (KC.out _ _ ?_).mono ?_
  · exact (R0.new (s := 20) w2 56 (C := [[.int .i64 k1, .int .u64 k0, .int .i64 0, .int .u64 0, .int .i64 j1, .int .u64 j0, .int .i64 0, .int .u64 0, .int .i64 0, .int .u64 0, .int .i64 0, .int .u64 0, .int .i64 0, .int .u64 0, .int .i64 0, .int .u64 0, .int .i64 0, .int .u64 0, .int .i64 0, .int .i64 0]]) (by intro c hc; simp at hc; subst hc; rfl) rfl).slice
  rintro e w3 ⟨rfl, hb3⟩
  have B3 : Hid (Below w.heap.size w w3) := bl_trans (bl_al B2.out _) hb3
  clear hb3 B2
  go_upto_region 2 with fail
  obtain ⟨wx, ewx⟩ : ∃ x, x = (w3.alloc (.cells #[.int .i64 k1, .int .u64 k0] 27)).alloc (.cells #[.int .i64 j1, .int .u64 j0, .int .i64 0, .int .u64 0] 29) := ⟨_, rfl⟩
  have x1 : Bx 27 wx w3.heap.size [.int .i64 k1, .int .u64 k0] := by rw [ewx]; exact (Bx.new _ _ _).alloc _
  have x2 : Bx 29 wx (w3.heap.size + 1) [.int .i64 j1, .int .u64 j0, .int .i64 0, .int .u64 0] := by
    rw [ewx]
    have := Bx.new (w3.alloc (.cells #[.int .i64 k1, .int .u64 k0] 27)) 29 #[.int .i64 j1, .int .u64 j0, .int .i64 0, .int .u64 0]
    simpa using this
  have BX : Hid (Below w.heap.size w wx) := by show Below _ _ _; rw [ewx]; exact bl_al (bl_al B3.out _) _
  have f0 := stays (x1.cell (j := 0) rfl) x1.lt; have f1 := stays (x1.cell (j := 1) rfl) x1.lt
  have g0 := stays (x2.cell (j := 0) rfl) x2.lt; have g1 := stays (x2.cell (j := 1) rfl) x2.lt; have g2 := stays (x2.cell (j := 2) rfl) x2.lt; have g3 := stays (x2.cell (j := 3) rfl) x2.lt
  rw [← ewx]
  clear ewx x1 x2 B3
  go_region_held3 (fun w' => Below wx.heap.size wx w') (exact bs) (first
    | (go_at_call 13; (with_reducible refine (KN.out _).mono ?_); rintro e w4 ⟨rfl, hb4⟩)
    | (go_at_call 19; (with_reducible refine (K1.out _).mono ?_); rintro e w5 ⟨rfl, hb5⟩)
    | (go_at_call 19; (with_reducible refine (K3.out _).mono ?_); rintro e w6 ⟨rfl, hb6⟩))
  rename_i hHeld
  have BZ := Lib.hid (bl_trans BX.out hHeld)
  clear hHeld
  go_wp2_with fail
  go_returns
  exact ⟨rfl, BZ.out⟩
end Go.Proofs.YtjilnmpajhifcaaGreat
namespace Go.Proofs.YtjilnmpajhifcaaGreat
open Go.RowKit
/-- A body's key. -/
def kof (b : Bod) : Nat := (key (cl1 (fh b.x)) (cl1 (fh b.y))).toNat
theorem kof_int (b : Bod) : ((kof b : Nat) : Int) = key (cl1 (fh b.x)) (cl1 (fh b.y)) := by
  have h := (key_wd (cl1 (fh b.x)) (cl1 (fh b.y))).1
  unfold kof; omega
theorem kof_lt (b : Bod) : kof b < 18446744073709551616 := by
  have h := (key_wd (cl1 (fh b.x)) (cl1 (fh b.y))).2
  have := kof_int b; omega
/-- Bodies' keys, and their places. -/
def kys (L : List Bod) : List (Nat × Int) := L.zipIdx.map fun p => (kof p.1, (p.2 : Int))
theorem kys_len (L : List Bod) : (kys L).length = L.length := by unfold kys; simp
theorem kys_at {L : List Bod} {i : Nat} {b : Bod} (h : L[i]? = some b) : (kys L)[i]? = some (kof b, (i : Int)) := by
  unfold kys
  rw [List.getElem?_map, List.getElem?_zipIdx, h]
  simp
theorem kys_64 (L : List Bod) : ∀ x ∈ kys L, x.1 < 18446744073709551616 := by
  intro x hx
  unfold kys at hx
  obtain ⟨p, _, rfl⟩ := List.mem_map.1 hx
  exact kof_lt _
theorem kd_row : RowT 36 68 2 16 := RowT.mk' Tryz.underlying36 kd_info rfl (by decide)
theorem flat_snoc' (L : List (Nat × Int)) (x : Nat × Int) : flat (L ++ [x]) = flat L ++ [.int .u64 (x.1 : Int), .int .i64 x.2] := by
  unfold flat; rw [List.flatMap_append]; rfl
set_option maxRecDepth 20000 in
set_option maxHeartbeats 8000000 in
theorem rkeyed_any (A : Option Addr) (n c : Nat) (L : List Bod) (hn : n ≤ 8796093022207) (w : World) (hL : Bds w A n L) :
    Calls Tryz.prog 9 #[.slice A n c] w (Sorted w n (kys L)) := by
  have hlen := hL.len
  have HL := Lib.hid hL; have HN := Lib.hid hn; have HLN := Lib.hid hlen
  clear hL hn hlen
  go_enter Tryz.func9, Tryz.ntmps9
  go_wp2_with fail
  go_loopg [3, 4] n (fun k vr iv wr => ∃ i : Nat, i + k = n ∧ iv = .int .i64 (i : Int) ∧ wr.ownsRow w.heap.size 68 2 vr i (flat ((kys L).take i)) ∧ Below w.heap.size w wr)
  case atStart => exact ⟨0, by omega, rfl, World.ownsRow_nil _ _ _ _, Below.refl _ _⟩
  case round =>
    obtain ⟨i, hk, rfl, hown, hbl⟩ := hrel
    have HO := Lib.hid hown; have HB := Lib.hid hbl
    have h9 := HN.out
    clear hown hbl
    by_cases hlt : i < n
    · obtain ⟨B, o, b, rfl, hB, hb, _, _, c4, c5, c6, c7⟩ := (HL.out.below HB.out).mx (i := i) hlt
      have hi : (i : Int) < (n : Int) := by omega
      have i0 : (0 : Int) ≤ (i : Int) := by omega
      have wi : IntKind.i64.wrap ((i : Int) + 1) = (i : Int) + 1 := by rw [IntWalk.i64_in _ (by omega)]
      have HX := Lib.hid (kys_at hb)
      have HK : Hid (i + gk = n) := hk
      have C1 := Lib.hid (rof_any b.x b.y)
      have HKO := Lib.hid (kof_int b)
      clear hb hk h9
      go_wp2_with fail
      refine (C1.out _).mono ?_
      rintro e w1 ⟨rfl, hb1⟩
      have HO1 := Lib.hid (own_kept HO.out hb1)
      have HB1 : Hid (Below w.heap.size w w1) := bl_trans HB.out hb1
      rw [← HKO.out]
      clear hb1 HO HB c4 c5 c6 c7
      generalize kof b = v at *
      go_wp2_with (first
        | (at_builtin; refine wpList_append_kd rfl _ _ rfl w.heap.size _ i ((kys L).take i) rfl (own_kept HO1.out (bl_al (Below.refl _ _) _)) _ 1 1 [(v, (i : Int))] rfl ?d1 ?d2 ?d3 ?d4 ?_)
        | fail)
      case d1 => simpa using (Kr.new w1 [(v, (i : Int))] (cs := #[.int .u64 (v : Int), .int .i64 (i : Int)]) rfl).slice
      case d2 => simp
      case d3 => have := HN.out; omega
      case d4 => have := HB1.out.size; simp; omega
      intro v1 w4 hown1 hgrow
      have VO : Hid (w4.ownsRow w.heap.size 68 2 v1 (i + 1) (flat ((kys L).take (i + 1)))) := by
        have e : ∀ p : Prop, p → Hid p := fun _ h => h
        refine e _ ?_
        rw [take_snoc' HX.out]; exact hown1
      have VB : Hid (Below w.heap.size w w4) := (bl_al HB1.out _).grown hgrow (by have := HB1.out.size; simp; omega) (fun q hq => own_block HO1.out q hq)
      clear hown1 hgrow HO1 HB1
      go_wp2_with fail
      obtain ⟨g, rfl⟩ : ∃ g, gk = g + 1 := ⟨gk - 1, by have := HK.out; omega⟩
      go_roundg g
      case measure => omega
      case rel => exact ⟨i + 1, by have := HK.out; omega, by simp, VO.out, VB.out⟩
    · have hi : ¬ (i : Int) < (n : Int) := by omega
      have hS := HO.out
      obtain rfl : i = n := by omega
      rw [List.take_of_length_le (by rw [kys_len]; have := HLN.out; omega)] at hS
      obtain ⟨A', c', rfl, hA', hK'⟩ := Ks.of_own hS
      have KQ := Lib.hid hK'; have KA := Lib.hid hA'
      clear hS hK' hA' hk h9
      go_wp2_with fail
      refine (rby_any A' i c' (kys L) (by have := HN.out; omega) KA.out wr KQ.out).mono ?_
      intro e w3 h3
      obtain ⟨A3, c3, M3, rfl, _, _, hown3, hS3, hb3⟩ := h3.use
      have H3 := Lib.hid hown3; have HS3 := Lib.hid hS3; have HB3 := Lib.hid (bl_trans HB.out hb3)
      have hsz := HB.out.size
      clear h3 hown3 hS3 hb3
      go_wp2_with fail
      go_returns
      exact ⟨⟨_, M3, rfl, by obtain ⟨a, h⟩ := H3.out; exact ⟨a, h.imp id fun ⟨g, cap, cur, e, hg, r⟩ => ⟨g, cap, cur, e, by omega, r⟩⟩, HS3.out⟩, HB3.out⟩
end Go.Proofs.YtjilnmpajhifcaaGreat
namespace Go.Proofs.YtjilnmpajhifcaaGreat
open Go.RowKit
/-- What the program's Centre comes to: of some bodies, of none. -/
def CenT : Prop := ∀ (A : Option Addr) (n c : Nat) (L : List Bod), 0 < n → n ≤ 64 → (∀ b ∈ L, Mb b) → ∀ W : World, Bds W A n L → Calls Tryz.prog 7 #[.slice A n c] W fun e w' => e = .returned (.tuple #[.agg #[.int .i64 (fh (sM L)), .int .u64 (fl (sM L))], .agg #[.int .i64 (fh (mid Bod.x L)), .int .u64 (fl (mid Bod.x L)), .int .i64 (fh (mid Bod.y L)), .int .u64 (fl (mid Bod.y L))], .int .i64 0]) ∧ Below W.heap.size W w'
def CenNT : Prop := ∀ (A : Option Addr) (c : Nat) (W : World), Calls Tryz.prog 7 #[.slice A 0 c] W fun e w' => e = .returned (.tuple #[.agg #[.int .i64 0, .int .u64 0], .agg #[.int .i64 0, .int .u64 0, .int .i64 0, .int .u64 0], .int .i64 1]) ∧ Below W.heap.size W w'
/-- What the program's Keyed comes to. -/
def KeyT : Prop := ∀ (A : Option Addr) (n c : Nat) (L : List Bod), n ≤ 64 → (A = none → n = 0 ∧ c = 0) → ∀ W : World, Bds W A n L → Calls Tryz.prog 15 #[.slice A n c] W (Sorted W n (kys L))
/-- What the program's Cells comes to, of nodes as they should be. -/
def CelT : Prop := ∀ (A : Option Addr) (n c : Nat) (T : List Nd) (B : Option Addr) (m d : Nat) (by_ : List (Nat × Int)) (D : Option Addr) (l e0 : Nat) (L : List Bod), n ≤ 2147483648 → m ≤ 64 → l ≤ 64 → (∀ b ∈ L, Mb b) → (∀ x ∈ by_, 0 ≤ x.2 ∧ x.2.toNat < l) → (∀ x ∈ T, x.fr < x.to ∧ x.to ≤ m) → ∀ W : World, S0 8 W A n (T.map ndc) → Ks W B m by_ → Bds W D l L →
    Calls Tryz.prog 11 #[.slice A n c, .slice B m d, .slice D l e0] W fun e w' => (∃ v, e = .returned (.tuple #[v, .int .i64 0]) ∧ w'.ownsRow W.heap.size 52 8 v n (cels by_ L T).flatten) ∧ Below W.heap.size W w'
/-- One body of a whole mass: its middle is where it is. -/
theorem mid_one {f : Bod → Int} {b : Bod} {K : Nat} (hK : 0 < K) (hb : b.m = (K : Int) * 18446744073709551616) : sM [b] = b.m ∧ mid f [b] = f b := by
  have e1 : sM [b] = b.m := by show b.m + 0 = b.m; omega
  have e2 : sD f [b] = (K : Int) * f b := by
    show mulr b.m (f b) + 0 = _
    rw [hb, mulr_whole (by omega)]; omega
  refine ⟨e1, ?_⟩
  unfold mid
  rw [e1, e2, hb, divr_one hK]
theorem intr_in {n : Int} (h : -9223372036854775807 ≤ n) : intr n = n * 18446744073709551616 := by unfold intr; rw [if_neg (by omega)]
theorem mswake_any (C : CenT) (CN : Ct 13 #[.int .i64 0] (.int .i64 0)) (w : World) : Calls Tryz.prog 6 #[] w fun e w' => e = .returned (.bool true) ∧ Below w.heap.size w w' := by
  refine mswake_core _ _ _ _ (rint_any 1) (rint_any 3) CN (fun W A hS => ?_) w
  obtain ⟨b, hb⟩ : ∃ b : Bod, b = ⟨intr 1, 0, intr 3, 0, 0, 0, 0, 0, 0, 0, 0⟩ := ⟨_, rfl⟩
  have h1 : intr 1 = ((1 : Nat) : Int) * 18446744073709551616 := intr_in (by decide)
  have hm : b.m = ((1 : Nat) : Int) * 18446744073709551616 := by rw [hb]; exact h1
  obtain ⟨e1, e2⟩ := mid_one (f := Bod.x) (by decide) hm
  obtain ⟨_, e3⟩ := mid_one (f := Bod.y) (by decide) hm
  have k := C A 1 1 [b] (by decide) (by decide) (fun c hc => by
    simp at hc; subst hc
    have h3 : intr 3 = 3 * 18446744073709551616 := intr_in (by decide)
    subst hb
    unfold Mb
    refine ⟨?_, ?_, ?_, ?_, ?_, ?_⟩ <;> dsimp only <;> omega) W (by
      unfold Bds
      subst hb
      exact hS)
  rw [e1, e2, e3] at k
  subst hb
  exact k
end Go.Proofs.YtjilnmpajhifcaaGreat
namespace Go.Proofs.YtjilnmpajhifcaaGreat
open Go.RowKit
theorem kys_id {L : List Bod} {x : Nat × Int} (h : x ∈ kys L) : 0 ≤ x.2 ∧ x.2.toNat < L.length := by
  unfold kys at h
  obtain ⟨p, hp, rfl⟩ := List.mem_map.1 h
  have := List.mem_zipIdx hp
  refine ⟨by simp, ?_⟩
  simp at this ⊢
  omega
theorem ids_ok {by_ : List (Nat × Int)} {L : List Bod} (h : Std Prod.fst by_ (kys L)) : ∀ x ∈ by_, 0 ≤ x.2 ∧ x.2.toNat < L.length := fun _ hx => kys_id (h.perm.mem_iff.1 hx)
theorem by_len {by_ : List (Nat × Int)} {L : List Bod} (h : Std Prod.fst by_ (kys L)) : by_.length = L.length := by rw [h.perm.length_eq, kys_len]
theorem by_rs {by_ : List (Nat × Int)} {L : List Bod} (h : Std Prod.fst by_ (kys L)) : rs by_ = true := (rs_pair by_).2 h.1
theorem by_64 {by_ : List (Nat × Int)} {L : List Bod} (h : Std Prod.fst by_ (kys L)) : ∀ x ∈ by_, x.1 < 18446744073709551616 := fun x hx => kys_64 L x (h.perm.mem_iff.1 hx)
theorem fm_congr {α β : Type} {f g : α → Option β} : ∀ {l : List α}, (∀ x ∈ l, f x = g x) → l.filterMap f = l.filterMap g := by
  intro l
  induction l with
  | nil => intro _; rfl
  | cons a t ih =>
    intro h
    rw [List.filterMap_cons, List.filterMap_cons, h a List.mem_cons_self, ih fun x hx => h x (List.mem_cons_of_mem _ hx)]
theorem kys_back (L : List Bod) : (kys L).filterMap (fun k => L[k.2.toNat]?) = L := by
  unfold kys
  rw [List.filterMap_map]
  apply List.ext_getElem?
  intro i
  have e : L.zipIdx.filterMap ((fun k : Nat × Int => L[k.2.toNat]?) ∘ fun p : Bod × Nat => (kof p.1, (p.2 : Int))) = L.zipIdx.map fun p => p.1 := by
    rw [← List.filterMap_eq_map]
    refine fm_congr fun p hp => ?_
    have := List.mem_zipIdx hp
    simp at this
    simp
    have h2 := List.mem_zipIdx_iff_getElem?.1 hp
    simpa using h2
  rw [e, List.getElem?_map, List.getElem?_zipIdx]
  cases L[i]? <;> simp
theorem memb_all {by_ : List (Nat × Int)} {L : List Bod} (h : Std Prod.fst by_ (kys L)) : (memb by_ L 0 by_.length).Perm L := by
  unfold memb
  rw [Nat.sub_zero, List.drop_zero, List.take_of_length_le (Nat.le_refl _)]
  have k := h.perm.filterMap (fun k => L[k.2.toNat]?)
  rw [kys_back] at k
  exact k
theorem sM_perm {L M : List Bod} (h : L.Perm M) : sM L = sM M := by
  induction h with
  | nil => rfl
  | cons x _ ih => show _ + sM _ = _ + sM _; rw [ih]
  | swap x y l => show _ + (_ + sM l) = _ + (_ + sM l); omega
  | trans _ _ a b => exact a.trans b
end Go.Proofs.YtjilnmpajhifcaaGreat
namespace Go.Proofs.YtjilnmpajhifcaaGreat
open Go.RowKit
theorem cl_cells : Tryz.prog.cellsOf 52 = 8 := by kernel_rfl
/-- Oct8 numbers. -/
def Oct8 (c : List Value) : Prop := ∃ z0 z1 z2 z3 z4 z5 z6 z7 : Int, c = [.int .i64 z0, .int .u64 z1, .int .i64 z2, .int .u64 z3, .int .i64 z4, .int .u64 z5, .int .i64 z6, .int .u64 z7]
theorem cels_eight (by_ : List (Nat × Int)) (L : List Bod) (T : List Nd) : ∀ c ∈ cels by_ L T, Oct8 c := fun c hc => by
  unfold cels at hc
  obtain ⟨x, _, rfl⟩ := List.mem_map.1 hc
  exact ⟨_, _, _, _, _, _, _, _, rfl⟩
theorem ne_cl_false (z0 z1 z2 z3 z4 z5 z6 z7 : Int) (W : World) : (Go.binOp .neq 52 (.agg #[.int .i64 z0, .int .u64 z1, .int .i64 z2, .int .u64 z3, .int .i64 z4, .int .u64 z5, .int .i64 z6, .int .u64 z7]) (.agg #[.int .i64 z0, .int .u64 z1, .int .i64 z2, .int .u64 z3, .int .i64 z4, .int .u64 z5, .int .i64 z6, .int .u64 z7])).run Tryz.prog W = .ok (.bool false) W := by
  simp [go_sem]
set_option maxRecDepth 20000 in
set_option maxHeartbeats 8000000 in
theorem samecells_any (A B : Option Addr) (n c d : Nat) (C : List (List Value)) (hn : n < 9223372036854775807) (hE : ∀ c ∈ C, Oct8 c) (w : World) (hL : S0 8 w A n C) (hM : S0 8 w B n C) :
    Calls Tryz.prog 16 #[.slice A n c, .slice B n d] w fun e w' => e = .returned (.bool true) ∧ Below w.heap.size w w' := by
  have HL := Lib.hid hL; have HM := Lib.hid hM; have HN := Lib.hid hn; have HE := Lib.hid hE
  clear hL hM hn hE
  have hne := ne_cl_false
  have cv := cl_cells
  go_enter Tryz.func16, Tryz.ntmps16
  go_wp2_with fail
  go_loopg [5] n (fun k iv wr => ∃ i : Nat, i + k = n ∧ iv = .int .i64 (i : Int) ∧ Below w.heap.size w wr)
  case atStart => exact ⟨0, by omega, rfl, Below.refl _ _⟩
  case round =>
    obtain ⟨i, hk, rfl, hbl⟩ := hrel
    have HB := Lib.hid hbl
    have h9 := HN.out
    clear hbl
    by_cases hlt : i < n
    · have hx := List.getElem?_eq_getElem (l := C) (i := i) (by have := HL.out.1; omega)
      obtain ⟨r, hr⟩ : ∃ r, C[i]? = some r := ⟨_, hx⟩
      obtain ⟨z0, z1, z2, z3, z4, z5, z6, z7, rfl⟩ := HE.out r (List.mem_of_getElem? hr)
      obtain ⟨G, o, rfl, _, ha⟩ := (HL.out.below HB.out).at_ hr
      obtain ⟨E, q, rfl, _, hd⟩ := (HM.out.below HB.out).at_ hr
      have a0 := ha 0 _ rfl; have a1 := ha 1 _ rfl; have a2 := ha 2 _ rfl; have a3 := ha 3 _ rfl; have a4 := ha 4 _ rfl; have a5 := ha 5 _ rfl; have a6 := ha 6 _ rfl; have a7 := ha 7 _ rfl
      have d0 := hd 0 _ rfl; have d1 := hd 1 _ rfl; have d2 := hd 2 _ rfl; have d3 := hd 3 _ rfl; have d4 := hd 4 _ rfl; have d5 := hd 5 _ rfl; have d6 := hd 6 _ rfl; have d7 := hd 7 _ rfl
      simp only [Nat.add_zero] at a0 d0
      have hi : (i : Int) < (n : Int) := by omega
      have h0 : (0 : Int) ≤ (i : Int) := by omega
      have wi : IntKind.i64.wrap ((i : Int) + 1) = (i : Int) + 1 := by rw [IntWalk.i64_in _ (by omega)]
      have HK : Hid (i + gk = n) := hk
      clear hx hr hk h9 ha hd
      go_upto_region 6 with fail
      go_region_held3 (fun w' => w'.cell? ⟨G, o + i * 8, none⟩ = some (.int .i64 z0) ∧ w'.cell? ⟨G, o + i * 8 + 1, none⟩ = some (.int .u64 z1) ∧ w'.cell? ⟨G, o + i * 8 + 2, none⟩ = some (.int .i64 z2) ∧ w'.cell? ⟨G, o + i * 8 + 3, none⟩ = some (.int .u64 z3) ∧ w'.cell? ⟨G, o + i * 8 + 4, none⟩ = some (.int .i64 z4) ∧ w'.cell? ⟨G, o + i * 8 + 5, none⟩ = some (.int .u64 z5) ∧ w'.cell? ⟨G, o + i * 8 + 6, none⟩ = some (.int .i64 z6) ∧ w'.cell? ⟨G, o + i * 8 + 7, none⟩ = some (.int .u64 z7) ∧ w'.cell? ⟨E, q + i * 8, none⟩ = some (.int .i64 z0) ∧ w'.cell? ⟨E, q + i * 8 + 1, none⟩ = some (.int .u64 z1) ∧ w'.cell? ⟨E, q + i * 8 + 2, none⟩ = some (.int .i64 z2) ∧ w'.cell? ⟨E, q + i * 8 + 3, none⟩ = some (.int .u64 z3) ∧ w'.cell? ⟨E, q + i * 8 + 4, none⟩ = some (.int .i64 z4) ∧ w'.cell? ⟨E, q + i * 8 + 5, none⟩ = some (.int .u64 z5) ∧ w'.cell? ⟨E, q + i * 8 + 6, none⟩ = some (.int .i64 z6) ∧ w'.cell? ⟨E, q + i * 8 + 7, none⟩ = some (.int .u64 z7)) (first | (simp [*, go_sem]; done)) (fail)
      rename_i hHeld
      clear hHeld
      go_wp2_with fail
      obtain ⟨g, rfl⟩ : ∃ g, gk = g + 1 := ⟨gk - 1, by have := HK.out; omega⟩
      go_roundg g
      case measure => omega
      case rel => exact ⟨i + 1, by have := HK.out; omega, by simp, bb⟩
    · have hi : ¬ (i : Int) < (n : Int) := by omega
      go_wp2_with fail
      go_returns
      exact ⟨rfl, bb⟩
end Go.Proofs.YtjilnmpajhifcaaGreat
