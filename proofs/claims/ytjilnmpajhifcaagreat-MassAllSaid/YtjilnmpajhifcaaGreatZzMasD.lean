/- The program's Keyed and Cells. -/
import Derived.Test.YtjilnmpajhifcaaGreatZzMasA
import Derived.Test.YtjilnmpajhifcaaGreatZzSrtA
import Derived.Test.YtjilnmpajhifcaaGreatZzSrtB
import Derived.Test.YtjilnmpajhifcaaGreatZzMortA
import Derived.Test.YtjilnmpajhifcaaGreatZzMasB
import Derived.Test.YtjilnmpajhifcaaGreatZzVecA
import Derived.Maps.Own
import Derived.MapViews
import Derived.DeepKeys4
import Derived.Carry
import Derived.Test.YtjilnmpajhifcaaGreatZzTreA
import Derived.Test.YtjilnmpajhifcaaGreatZzMasC
import Derived.Test.YtjilnmpajhifcaaGreatZzTreB
namespace Go.Proofs.YtjilnmpajhifcaaGreat
open Go.RowKit
theorem flat_rep {z : List Value} {s : Nat} (hz : z.length = s) (hs : 0 < s) (m i : Nat) (hi : i < m * s) : (List.replicate m z).flatten[i]? = z[i % s]? := by
  have hl : Ln s (List.replicate m z) := fun c hc => by rw [(List.mem_replicate.1 hc).2]; exact hz
  have hj : i / s < m := by rw [Nat.div_lt_iff_lt_mul hs]; exact hi
  have hk : i % s < z.length := by rw [hz]; exact Nat.mod_lt _ hs
  have q := fl_at (j := i / s) (k := i % s) (c := z) hl (by rw [List.getElem?_replicate, if_pos hj]) (List.getElem?_eq_getElem hk)
  rw [show i / s * s + i % s = i by rw [Nat.mul_comm]; exact Nat.div_add_mod i s] at q
  rw [q, List.getElem?_eq_getElem hk]
theorem row_makes {t e : TypeId} {s b : Nat} {z : List Value} (hu : Tryz.prog.underlying t = some (.slice e)) (h : (Tryz.prog.info? e).map (fun i => (i.zero, i.size, i.bytes)) = some (some (.agg z.toArray), s, b)) (hz : z.length = s) (hs : 0 < s) (m : Nat) (hm : b * m ≤ 281474976710656) (h6 : m ≤ 9223372036854775807) :
    ∃ cs : Array Value, cs.toList = (List.replicate m z).flatten ∧ ∀ W : World, (Instr.makeSlice t (.int .i64 (m : Int)) (.int .i64 (m : Int))).run Tryz.prog W = .ok (.slice (some ⟨W.heap.size, 0, none⟩) m m) (W.alloc (.cells cs e)) := by
  cases hi : Tryz.prog.info? e with
  | none => rw [hi] at h; cases h
  | some i =>
    rw [hi] at h; simp only [Option.map_some, Option.some.injEq, Prod.mk.injEq] at h
    obtain ⟨h1, h2, h3⟩ := h
    refine ⟨madeCells z.toArray (m * s), ?_, fun W => ?_⟩
    · apply List.ext_getElem?
      intro k
      have hl : Ln s (List.replicate m z) := fun c hc => by rw [(List.mem_replicate.1 hc).2]; exact hz
      by_cases hk : k < m * s
      · have hk2 : k % s < z.length := by rw [hz]; exact Nat.mod_lt _ hs
        rw [flat_rep hz hs m k hk]
        unfold madeCells
        rw [Array.toList_map, Array.toList_range, List.getElem?_map, List.getElem?_range hk]
        simp [hz]
        rw [List.getElem?_eq_getElem hk2]; rfl
      · rw [List.getElem?_eq_none (by simp [madeCells]; omega), List.getElem?_eq_none (by rw [fl_len hl, List.length_replicate]; omega)]
    · have hb' : (i.bytes : Int) * (m : Int) ≤ 281474976710656 := by
        rw [h3]
        have k : ((b * m : Nat) : Int) ≤ 281474976710656 := by omega
        rwa [Int.natCast_mul] at k
      have r := run_make (P := Tryz.prog) W t e i _ hu hi h1 .i64 .i64 (m : Int) (m : Int) (by omega) (Int.le_refl _) hb' (by omega)
      simp only [Int.toNat_natCast, h2] at r
      exact r
section
variable {s : Nat} {t : TypeId} {w : World} {g cap : Nat} {C : List (List Value)}
theorem set_take {l : List Value} {k : Nat} {v : Value} (h : k < l.length) : (l.set k v).take (k + 1) = l.take k ++ [v] := by
  rw [List.take_succ_eq_append_getElem (by simpa using h), List.take_set_of_le (Nat.le_refl _), List.getElem_set_self]
theorem R0.puts_from {j : Nat} : ∀ (vs : List Value) (k : Nat) (w : World) (C : List (List Value)) (c : List Value), R0 s t w g cap C → C[j]? = some c → k + vs.length ≤ s → c.length = s →
    R0 s t (w.setCells g (j * s + k) vs) g cap (C.set j (c.take k ++ vs ++ c.drop (k + vs.length))) := by
  intro vs
  induction vs with
  | nil =>
    intro k w C c h hj hk hc
    have e : c.take k ++ [] ++ c.drop (k + ([] : List Value).length) = c := by simp
    rw [e]
    have : C.set j c = C := by
      have hl := List.getElem?_eq_some_iff.1 hj
      rw [← hl.2, List.set_getElem_self]
    rw [this]; exact h
  | cons v vs ih =>
    intro k w C c h hj hk hc
    rw [List.length_cons] at hk
    have h1 := h.putc hj (show k < s by omega) v
    have hjl := (List.getElem?_eq_some_iff.1 hj).1
    have h2 := ih (k + 1) _ _ (c.set k v) h1 (by rw [List.getElem?_set_self hjl]) (by omega) (by simpa using hc)
    rw [List.set_set, set_take (by omega), List.drop_set_of_lt (by omega)] at h2
    have e : c.take k ++ [v] ++ vs ++ c.drop (k + 1 + vs.length) = c.take k ++ (v :: vs) ++ c.drop (k + (v :: vs).length) := by
      rw [List.length_cons, show k + 1 + vs.length = k + (vs.length + 1) by omega]; simp
    rw [e] at h2
    exact h2
/-- One row written whole. -/
theorem R0.puts (h : R0 s t w g cap C) {j : Nat} (hj : j < C.length) {c : List Value} (hc : c.length = s) : R0 s t (w.setCells g (j * s) c) g cap (C.set j c) := by
  have hx := List.getElem?_eq_getElem hj
  have hl := h.ln.at_ hx
  have q := R0.puts_from c 0 w C _ h hx (by omega) hl
  rw [List.take_zero, List.nil_append, List.drop_of_length_le (by omega), List.append_nil] at q
  exact q
theorem R0.there_ (h : R0 s t w g cap C) {j : Nat} (hj : j < C.length) : w.there g (j * s) s := fun k hk => by
  have hx := List.getElem?_eq_getElem hj
  have hl := h.ln.at_ hx
  rw [h.cell hx (List.getElem?_eq_getElem (by omega : k < (C[j]'hj).length))]
  exact ⟨rfl, h.frz _⟩
end
theorem below_cells {B g : Nat} {w0 : World} (hBg : B ≤ g) : ∀ (vs : List Value) (o : Nat) (w : World), Below B w0 w → Below B w0 (w.setCells g o vs) := by
  intro vs
  induction vs with
  | nil => intro o w h; exact h
  | cons v t ih => intro o w h; show Below B w0 ((w.setCell ⟨g, o, none⟩ v).setCells g (o + 1) t); exact ih _ _ (h.setCell hBg v)
end Go.Proofs.YtjilnmpajhifcaaGreat
namespace Go.Proofs.YtjilnmpajhifcaaGreat
open Go.RowKit
theorem vec_agg (x y : Int) : vec x y = .agg #[.int .i64 (fh x), .int .u64 (fl x), .int .i64 (fh y), .int .u64 (fl y)] := rfl
theorem kys_split {L : List Bod} {i n : Nat} {b : Bod} (hl : L.length = n) (h : L[i]? = some b) :
    (((kys L).take i ++ List.replicate (n - i) ((0 : Nat), (0 : Int))).set i (kof b, (i : Int))) = (kys L).take (i + 1) ++ List.replicate (n - (i + 1)) (0, 0) := by
  have hi := (List.getElem?_eq_some_iff.1 h).1
  have e : ((kys L).take i).length = i := by rw [List.length_take, kys_len]; omega
  rw [List.set_append_right _ _ (by omega), e, Nat.sub_self, show n - i = n - (i + 1) + 1 by omega, List.replicate_succ, List.set_cons_zero, take_snoc' (kys_at h), List.append_assoc]; rfl
set_option maxRecDepth 20000 in
set_option maxHeartbeats 8000000 in
theorem keyed_any (BY : ByT) (A : Option Addr) (n c : Nat) (L : List Bod) (hn : n ≤ 64) (w : World) (hL : Bds w A n L) :
    Calls Tryz.prog 15 #[.slice A n c] w (Sorted w n (kys L)) := by
  have hlen := hL.len
  have HL := Lib.hid hL; have HN := Lib.hid hn; have HLN := Lib.hid hlen; have KB := Lib.hid BY
  obtain ⟨cs, hcs, hmk⟩ := kd_makes n (by omega)
  have k0 := Kr.new w (List.replicate n ((0 : Nat), (0 : Int))) hcs
  rw [List.length_replicate] at k0
  have K0 := Lib.hid k0
  clear hL hn hlen BY hcs k0
  go_enter Tryz.func15, Tryz.ntmps15
  go_wp2_with fail
  clear hmk
  go_loopg [11] n (fun k iv wr => ∃ i : Nat, i + k = n ∧ iv = .int .i64 (i : Int) ∧ Kr wr w.heap.size n ((kys L).take i ++ List.replicate (n - i) (0, 0)) ∧ Below w.heap.size w wr)
  case atStart => exact ⟨0, by omega, rfl, by simpa using K0.out, bl_al (Below.refl _ _) _⟩
  case round =>
    obtain ⟨i, hk, rfl, q0, hbl⟩ := hrel
    have Q0 := Lib.hid q0; have HB := Lib.hid hbl
    have z0 := q0.lt
    have h9 := HN.out
    clear q0 hbl K0
    by_cases hlt : i < n
    · obtain ⟨B, o, b, rfl, hB, hb, hv⟩ := (HL.out.below HB.out).at_ (i := i) hlt
      have HV : Hid (wr.rangeAt B (o + i * 20) (bdc b)) := hv
      have hi : (i : Int) < (n : Int) := by omega
      have i0 : (0 : Int) ≤ (i : Int) := by omega
      have wi : IntKind.i64.wrap ((i : Int) + 1) = (i : Int) + 1 := by rw [IntWalk.i64_in _ (by omega)]
      have HK : Hid (i + gk = n) := hk
      have HSP := Lib.hid (kys_split HLN.out hb)
      have C1 := Lib.hid (of_any b.x b.y)
      have HKO := Lib.hid (kof_int b)
      have HBB := Lib.hid (bdc_one b)
      have hbl := bdc_len b
      clear hb hk h9 hv
      go_upto_region 5 with (first
        | (refine wpList_load_mid rfl 56 _ rfl B (o + i * 20) rfl (bdc b) _ HV.out Tryz.underlying56 rfl (by kernel_rfl) ?_)
        | (refine wpList_store_box rfl 56 _ _ rfl wr.heap.size (bdc b).toArray rfl rfl 56 _ (Bx.new wr _ _) (by kernel_rfl) rfl (all_oneCell_toArray (fun u hu => HBB.out _ List.mem_cons_self u hu)) ?_)
        | fail)
      refine nw _ fun w2 hw2 => ?_
      have box : Bx 56 w2 wr.heap.size (bdc b) := by rw [hw2]; exact (Bx.new wr _ _).row _
      have hb2 : Below wr.heap.size wr w2 := by rw [hw2]; exact below_row (bl_al (Below.refl _ _) _) (Nat.le_refl _) _
      have c4 := box.cell (j := 4) rfl; have c5 := box.cell (j := 5) rfl; have c6 := box.cell (j := 6) rfl; have c7 := box.cell (j := 7) rfl
      have Q2 := Lib.hid (Q0.out.below hb2); have HB2 := Lib.hid (bl_trans HB.out hb2)
      have z2 : w.heap.size < w2.heap.size := Q2.out.lt
      clear hw2 box hb2 hbl HV Q0 HB z0
      go_wp2_with fail
      refine (C1.out _).mono ?_
      rintro e w3 ⟨rfl, hb3⟩
      have Q3 := Lib.hid (Q2.out.below hb3); have HB3 := Lib.hid (bl_trans HB2.out hb3)
      obtain ⟨y0, y1⟩ := Q3.out.cells i (0, 0) (by rw [List.getElem?_append_right (by rw [List.length_take]; omega), List.getElem?_replicate, if_pos (by rw [List.length_take, kys_len, HLN.out]; omega)])
      have yf := Q3.out.frz
      have yz := Q3.out.lt
      rw [← HKO.out]
      clear hb3 c4 c5 c6 c7 Q2 HB2 z2
      generalize kof b = v at *
      go_wp2_with fail
      obtain ⟨g, rfl⟩ : ∃ g, gk = g + 1 := ⟨gk - 1, by have := HK.out; omega⟩
      go_roundg g
      case measure => omega
      case rel =>
        refine ⟨i + 1, by have := HK.out; omega, by simp, ?_, bb⟩
        rw [← HSP.out]
        exact Q3.out.put (by rw [List.length_append, List.length_take, kys_len, List.length_replicate, HLN.out]; omega) (v, (i : Int))
    · have hi : ¬ (i : Int) < (n : Int) := by omega
      obtain rfl : i = n := by omega
      have kr := Q0.out
      rw [Nat.sub_self, List.replicate_zero, List.append_nil, List.take_of_length_le (by rw [kys_len]; have := HLN.out; omega)] at kr
      have hks := kr.slice
      rw [kys_len, HLN.out] at hks
      have C2 := Lib.hid (KB.out (some ⟨w.heap.size, 0, none⟩) i i (kys L) (by omega) (fun h => by cases h) (kys_64 L) wr hks)
      clear hk h9 kr hks
      go_wp2_with fail
      refine C2.out.mono ?_
      intro e w3 h3
      obtain ⟨A3, c3, M3, rfl, _, _, hown3, hS3, hb3⟩ := h3.use
      have H3 := Lib.hid hown3; have HS3 := Lib.hid hS3; have HB3 := Lib.hid (bl_trans HB.out hb3)
      have hsz := HB.out.size
      clear h3 hown3 hS3 hb3
      go_wp2_with fail
      go_returns
      exact ⟨⟨_, M3, rfl, by obtain ⟨a, h⟩ := H3.out; exact ⟨a, h.imp id fun ⟨g, cap, cur, e, hg, r⟩ => ⟨g, cap, cur, e, by omega, r⟩⟩, HS3.out⟩, HB3.out⟩
end Go.Proofs.YtjilnmpajhifcaaGreat
namespace Go.Proofs.YtjilnmpajhifcaaGreat
open Go.RowKit
/-- No body. -/
def bod0 : Bod := ⟨0, 0, 0, 0, 0, 0, 0, 0, 0, 0, 0⟩
/-- Bodies in the order of their keys. -/
def ord (by_ : List (Nat × Int)) (L : List Bod) : List Bod := by_.map fun k => (L[k.2.toNat]?).getD bod0
theorem ord_len (by_ : List (Nat × Int)) (L : List Bod) : (ord by_ L).length = by_.length := by unfold ord; simp
theorem ord_at {by_ : List (Nat × Int)} {L : List Bod} {i : Nat} {x : Nat × Int} {b : Bod} (h : by_[i]? = some x) (hb : L[x.2.toNat]? = some b) : (ord by_ L)[i]? = some b := by unfold ord; rw [List.getElem?_map, h]; simp [hb]
theorem ord_split {by_ : List (Nat × Int)} {L : List Bod} {i m : Nat} {b : Bod} (hl : by_.length = m) (h : (ord by_ L)[i]? = some b) :
    ((((ord by_ L).take i ++ List.replicate (m - i) bod0).map bdc).set i (bdc b)) = ((ord by_ L).take (i + 1) ++ List.replicate (m - (i + 1)) bod0).map bdc := by
  have hi := (List.getElem?_eq_some_iff.1 h).1
  rw [ord_len] at hi
  have e : ((ord by_ L).take i).length = i := by rw [List.length_take, ord_len]; omega
  rw [List.map_append, List.set_append_right _ _ (by rw [List.length_map]; omega), List.length_map, e, Nat.sub_self, show m - i = m - (i + 1) + 1 by omega, List.replicate_succ, List.map_cons, List.set_cons_zero, take_snoc' h, List.map_append, List.map_append, List.append_assoc]; rfl
theorem body_makes (m : Nat) (hm : m ≤ 64) : ∃ cs : Array Value, cs.toList = ((List.replicate m bod0).map bdc).flatten ∧ ∀ W : World, (Instr.makeSlice 22 (.int .i64 (m : Int)) (.int .i64 (m : Int))).run Tryz.prog W = .ok (.slice (some ⟨W.heap.size, 0, none⟩) m m) (W.alloc (.cells cs 56)) := by
  rw [List.map_replicate]
  exact row_makes (s := 20) (b := 160) (z := bdc bod0) Tryz.underlying22 (by kernel_rfl) rfl (by decide) m (by omega) (by omega)
set_option maxRecDepth 20000 in
set_option maxHeartbeats 8000000 in
theorem inOrder_any (B : Option Addr) (m d : Nat) (by_ : List (Nat × Int)) (D : Option Addr) (l e0 : Nat) (L : List Bod) (hm : m ≤ 64) (hl : l ≤ 64) (hid : ∀ x ∈ by_, 0 ≤ x.2 ∧ x.2.toNat < l) (w : World) (hB : Ks w B m by_) (hD : Bds w D l L) :
    Calls Tryz.prog 28 #[.slice B m d, .slice D l e0] w fun e w' => (∃ g, e = .returned (.slice (some ⟨g, 0, none⟩) m m) ∧ w.heap.size ≤ g ∧ R0 20 56 w' g m ((ord by_ L).map bdc)) ∧ Below w.heap.size w w' := by
  have HB := Lib.hid hB; have HD := Lib.hid hD; have HM := Lib.hid hm; have HL := Lib.hid hl; have HI := Lib.hid hid; have HBL := Lib.hid hB.1
  obtain ⟨cs, hcs, hmk⟩ := body_makes m hm
  have k0 := R0.new (s := 20) w 56 (Ln.map bdc_len (List.replicate m bod0)) hcs
  rw [List.length_map, List.length_replicate] at k0
  have K0 := Lib.hid k0
  clear hB hD hm hl hid hcs k0
  go_enter Tryz.func28, Tryz.ntmps28
  go_wp2_with fail
  clear hmk
  go_loopg [13] m (fun k iv wr => ∃ i : Nat, i + k = m ∧ iv = .int .i64 (i : Int) ∧ R0 20 56 wr w.heap.size m (((ord by_ L).take i ++ List.replicate (m - i) bod0).map bdc) ∧ Below w.heap.size w wr)
  case atStart => exact ⟨0, by omega, rfl, by simpa using K0.out, bl_al (Below.refl _ _) _⟩
  case round =>
    obtain ⟨i, hk, rfl, q0, hbl⟩ := hrel
    have Q0 := Lib.hid q0; have GB := Lib.hid hbl
    have z0 := q0.lt
    have h9 := HM.out
    clear q0 hbl K0
    by_cases hlt : i < m
    · obtain ⟨YB, yo, y, rfl, zY, hy, y0, y1⟩ := (HB.out.below GB.out).at_ (k := i) hlt
      obtain ⟨hy0, hyl⟩ := HI.out y (List.mem_of_getElem? hy)
      obtain ⟨p, hp⟩ : ∃ p : Nat, y.2 = (p : Int) := ⟨y.2.toNat, by omega⟩
      have hpl : p < l := by omega
      obtain ⟨DB, dof, b, rfl, zD, hb, hv⟩ := (HD.out.below GB.out).at_ (i := p) hpl
      have HV : Hid (wr.rangeAt DB (dof + p * 20) (bdc b)) := hv
      have HSP := Lib.hid (ord_split HBL.out (ord_at hy (by rw [hp]; simpa using hb)))
      rw [hp] at y1
      obtain ⟨yk, hyk⟩ : ∃ k, k = y.1 := ⟨_, rfl⟩
      rw [← hyk] at y0
      have hi : (i : Int) < (m : Int) := by omega
      have i0 : (0 : Int) ≤ (i : Int) := by omega
      have wi : IntKind.i64.wrap ((i : Int) + 1) = (i : Int) + 1 := by rw [IntWalk.i64_in _ (by omega)]
      have p1 : (p : Int) < (l : Int) := by omega
      have p0 : (0 : Int) ≤ (p : Int) := by omega
      have pn : ¬ (p : Int) < 0 := by omega
      have pm : ¬ (l : Int) ≤ (p : Int) := by omega
      have HK : Hid (i + gk = m) := hk
      have HBB := Lib.hid (bdc_one b)
      have hbl := bdc_len b
      clear hb hk h9 hv hy hp hy0 hyl hyk
      go_upto_region 6 with fail
      refine nw _ fun w2 hw2 => ?_
      have box : Bx 68 w2 wr.heap.size [.int .u64 (yk : Int), .int .i64 (p : Int)] := by rw [hw2]; exact Bx.new _ _ _
      have hb2 : Below wr.heap.size wr w2 := by rw [hw2]; exact bl_al (Below.refl _ _) _
      obtain ⟨x0, x1⟩ := box.c2
      have Q2 := Lib.hid (Q0.out.below hb2); have GB2 := Lib.hid (bl_trans GB.out hb2)
      have HV2 : Hid (w2.rangeAt DB (dof + p * 20) (bdc b)) := fun j v hj => by rw [hb2.cell (p := ⟨DB, dof + p * 20 + j, none⟩) zD]; exact HV.out j v hj
      have TH := Lib.hid (Q2.out.there_ (j := i) (by rw [List.length_map, List.length_append, List.length_take, ord_len, List.length_replicate, HBL.out]; omega))
      clear hw2 box hb2 HV Q0 GB z0 y0 y1
      go_wp2_with (first
        | (refine wpList_load_mid rfl 56 _ rfl DB (dof + p * 20) rfl (bdc b) _ HV2.out Tryz.underlying56 rfl (by kernel_rfl) ?_)
        | (refine wpList_store_mid rfl 56 _ _ rfl w.heap.size (i * 20) (bdc b).toArray rfl rfl TH.out (by kernel_rfl) (all_oneCell_toArray (fun u hu => HBB.out _ List.mem_cons_self u hu)) ?_
           generalize hw3 : World.setCells w2 w.heap.size (i * 20) (bdc b).toArray.toList = w3
           have Q3 : Hid (R0 20 56 w3 w.heap.size m (((ord by_ L).take (i + 1) ++ List.replicate (m - (i + 1)) bod0).map bdc)) := by
             show R0 _ _ _ _ _ _
             rw [← hw3, ← HSP.out]; exact Q2.out.puts (by rw [List.length_map, List.length_append, List.length_take, ord_len, List.length_replicate, HBL.out]; omega) (bdc_len b)
           have GB3 : Hid (Below w.heap.size w w3) := by
             show Below _ _ _
             rw [← hw3]; exact below_cells (Nat.le_refl _) _ _ _ GB2.out
           clear hw3 Q2 GB2 TH HV2 x0 x1 HSP)
        | fail)
      obtain ⟨g, rfl⟩ : ∃ g, gk = g + 1 := ⟨gk - 1, by have := HK.out; omega⟩
      go_roundg g
      case measure => omega
      case rel => exact ⟨i + 1, by have := HK.out; omega, by simp, Q3.out, GB3.out⟩
    · have hi : ¬ (i : Int) < (m : Int) := by omega
      obtain rfl : i = m := by omega
      have kr := Q0.out
      rw [Nat.sub_self, List.replicate_zero, List.append_nil, List.take_of_length_le (by rw [ord_len]; have := HBL.out; omega)] at kr
      have KR := Lib.hid kr
      clear hk h9 kr Q0
      go_wp2_with fail
      go_returns
      exact ⟨⟨_, rfl, Nat.le_refl _, KR.out⟩, GB.out⟩
end Go.Proofs.YtjilnmpajhifcaaGreat
namespace Go.Proofs.YtjilnmpajhifcaaGreat
open Go.ChangeShapes Go.WideShapes Go.ChangeAt Go.RowKit Go.Joins
open Go.ChangeMaps (setBlock)
theorem cells_span : Tryz.prog.cellsOf 80 = 2 := by kernel_rfl
/-- Which bodies a sum is of, as a value. -/
def spv (f t : Int) : Value := .agg #[.int .i64 f, .int .i64 t]
theorem span_row : (80 : TypeId) < Tryz.prog.types.size := of_decide_eq_true (by kernel_rfl)
set_option maxRecDepth 20000 in
theorem span_wide : (match Tryz.prog.underlying 80 with | some (.array _ _) | some (.struct _) => true | _ => false) = true := by rw [Tryz.underlying80]
theorem laid_out : laidOutB Tryz.prog = true := by kernel_rfl
set_option maxRecDepth 100000 in
theorem span_law : Maps.Keyed Tryz.prog 80 := Maps.Keyed.of_law (deep_law_laid laid_out (m := 3) (by omega) span_row (by kernel_rfl) span_wide)
theorem span_deep : Tryz.prog.keyTypeAt (Tryz.prog.types.size + 1) 80 = true := by kernel_rfl
set_option maxRecDepth 20000 in
theorem span_formed (f t : Int) : (spv f t).formed Tryz.prog 80 = true := by simp [spv, Value.formed, Tryz.underlying80, cells_span]
theorem cells_intk : Tryz.prog.cellsOf 3 = 1 := by kernel_rfl
set_option maxRecDepth 20000 in
theorem shut_span {H : Type} {enc : TypeId × Value → H} {w : World} {base : Nat} {spare : Nat → Bool} {held : Bool} {f t : Int} (hf : Hd f) (ht : Hd t) : DataW.Trod enc Tryz.prog w base spare held 80 (spv f t) (.agg [.lit (.int .i64 f), .lit (.int .i64 t)]) [] := by
  have := trod_struct2_mk (enc := enc) (w := w) (base := base) (spare := spare) (held := held) (n := 1) (cs := [.int .i64 f, .int .i64 t]) (y0 := (.lit (.int .i64 f), [])) (y1 := (.lit (.int .i64 t), [])) Tryz.underlying80 (by simp [cells_span])
    (by simpa [cells_intk] using trod_int_mk 0 Tryz.underlying3 (wf_of_hd hf)) (by simpa [cells_intk] using trod_int_mk 0 Tryz.underlying3 (wf_of_hd ht))
  exact ⟨2, by simpa [spv, Value.cells] using this⟩
set_option maxRecDepth 100000 in
theorem span_key {f t : Int} (hf : Hd f) (ht : Hd t) : ∃ l, keyOf Tryz.prog 80 (spv f t) = some l :=
  ⟨_, (keyOf_asKey (H := Unit) (enc := fun _ => ()) (w := default) (base := 0) (sp := fun _ => false) (held := false) span_deep span_wide (span_formed f t) (shut_span hf ht)).1⟩
theorem sums_map : Tryz.prog.underlying 77 = some (.map 80 59) := Tryz.underlying77
section
variable {W : World} {B cl : Nat} {es : Array MapEntry} {x : Value}
theorem span_look {l : Lit} (hb : W.heap[B]? = some (.map es cl)) (hk : keyOf Tryz.prog 80 x = some l) (hes : ∀ e ∈ es.toList, ∃ l, keyOf Tryz.prog 80 e.key = some l) :
    (∃ e ∈ es.toList, e.key = x ∧ (Instr.lookup 77 (.map (some B)) x true).run Tryz.prog W = .ok (.tuple #[e.val, .bool true]) W) ∨ ((∀ e ∈ es.toList, e.key ≠ x) ∧ (Instr.lookup 77 (.map (some B)) x true).run Tryz.prog W = .ok (.tuple #[smv 0 0 0, .bool false]) W) := by
  rcases span_law.find W hk es.toList hes with ⟨h1, h2⟩ | ⟨j, e, h1, h2, h3⟩
  · refine Or.inr ⟨h2, ?_⟩
    simp [Instr.lookup, run_underlying sums_map, MapKept.run_getObj_map hb, span_law.check W _ hk, h1, Result.andThen]
    decide
  · refine Or.inl ⟨e, List.mem_of_getElem? h2, h3, ?_⟩
    simp [Instr.lookup, run_underlying sums_map, MapKept.run_getObj_map hb, span_law.check W _ hk, h1, Result.andThen]
theorem span_put {l : Lit} {v : Value} (hb : W.heap[B]? = some (.map es cl)) (hk : keyOf Tryz.prog 80 x = some l) (hes : ∀ e ∈ es.toList, ∃ l, keyOf Tryz.prog 80 e.key = some l) (hne : ∀ e ∈ es.toList, e.key ≠ x) :
    (Instr.mapUpdate 77 (.map (some B)) x v).run Tryz.prog W = .ok () (setBlock W B (.map (es.push ⟨x, v, cl⟩) (cl + 1))) := by
  rcases span_law.find W hk es.toList hes with ⟨h1, _⟩ | ⟨j, e, _, h2, h3⟩
  · simp [Instr.mapUpdate, run_underlying sums_map, MapKept.run_getObj_map hb, span_law.check W false hk, h1, MapKept.run_setObj_map _ hb, Result.andThen, setBlock]
  · exact absurd h3 (hne e (List.mem_of_getElem? h2))
end
/-- Bodies from one on, below another one. -/
def part (O : List Bod) (f t : Nat) : List Bod := (O.drop f).take (t - f)
def smp (O : List Bod) (f t : Nat) : Value := smv (sM (part O f t)) (mid Bod.x (part O f t)) (mid Bod.y (part O f t))
/-- A map of sums, each as it should be. -/
def Sms (w : World) (B : Nat) (O : List Bod) : Prop := ∃ es cl, w.heap[B]? = some (.map es cl) ∧ ∀ e ∈ es.toList, ∃ f t : Nat, f ≤ 64 ∧ t ≤ 64 ∧ e.key = spv (f : Int) (t : Int) ∧ e.val = smp O f t
theorem hd_small {f : Nat} (h : f ≤ 64) : Hd (f : Int) := by unfold Hd; omega
theorem S0.sub {s : Nat} {w : World} {g o n : Nat} {C : List (List Value)} (h : S0 s w (some ⟨g, o, none⟩) n C) {f t : Nat} (hf : f ≤ t) (ht : t ≤ n) : S0 s w (some ⟨g, o + f * s, none⟩) (t - f) ((C.drop f).take (t - f)) := by
  refine ⟨by rw [List.length_take, List.length_drop, h.1]; omega, fun c hc => h.2.1 c (List.mem_of_mem_drop (List.mem_of_mem_take hc)), fun hn => ?_⟩
  obtain ⟨B, o', e, hb, hc⟩ := h.2.2 (by omega)
  simp only [Option.some.injEq, Addr.mk.injEq, and_true] at e
  obtain ⟨rfl, rfl⟩ := e
  refine ⟨g, o + f * s, rfl, hb, fun j c hj k u hu => ?_⟩
  have hl := (List.getElem?_eq_some_iff.1 hj).1
  rw [List.length_take] at hl
  rw [List.getElem?_take, if_pos (by omega), List.getElem?_drop] at hj
  have q := hc (f + j) c hj k u hu
  rw [show o + f * s + j * s + k = o + (f + j) * s + k by rw [Nat.add_mul]; omega]
  exact q
theorem Bds.sub {w : World} {g o n : Nat} {L : List Bod} (h : Bds w (some ⟨g, o, none⟩) n L) {f t : Nat} (hf : f ≤ t) (ht : t ≤ n) : Bds w (some ⟨g, o + f * 20, none⟩) (t - f) (part L f t) := by
  have q := S0.sub h hf ht
  unfold Bds part
  rw [List.map_take, List.map_drop]; exact q
set_option maxRecDepth 20000 in
set_option maxHeartbeats 8000000 in
theorem of_hit (B : Nat) (A : Option Addr) (m c : Nat) (f t : Int) (M x y : Int) (es : Array MapEntry) (cl : Nat) (w : World) (hb0 : w.heap[B]? = some (.map es cl))
    (look : ∀ W : World, W.heap[B]? = some (.map es cl) → (Instr.lookup 77 (.map (some B)) (.agg #[.int .i64 f, .int .i64 t]) true).run Tryz.prog W = .ok (.tuple #[.agg #[.int .i64 (fh M), .int .u64 (fl M), .int .i64 (fh x), .int .u64 (fl x), .int .i64 (fh y), .int .u64 (fl y)], .bool true]) W) :
    Calls Tryz.prog 29 #[.map (some B), .slice A m c, .agg #[.int .i64 f, .int .i64 t]] w fun e' w' => e' = .returned (.tuple #[smv M x y, .int .i64 0]) ∧ Below w.heap.size w w' := by
  have hB : B < w.heap.size := (Array.getElem?_eq_some_iff.1 hb0).1
  go_enter Tryz.func29, Tryz.ntmps29
  go_upto_region 1 with fail
  refine nw _ fun R hR => ?_
  have x0 : Bx 80 R w.heap.size [.int .i64 f, .int .i64 t] := by rw [hR]; exact (Bx.new _ _ _).alloc _
  have x1 : Bx 59 R (w.heap.size + 1) [.int .i64 0, .int .u64 0, .int .i64 0, .int .u64 0, .int .i64 0, .int .u64 0] := by rw [hR]; exact bx_at1 _ _ _ _
  have hb : Below w.heap.size w R := by rw [hR]; exact bl_al (bl_al (Below.refl _ _) _) _
  have HB := Lib.hid hb
  have hlk := look R ((hb.block B hB).trans hb0)
  obtain ⟨k0, k1⟩ := x0.c2
  have zk := x0.lt
  have q0 := x1.cell (j := 0) rfl; have q1 := x1.cell (j := 1) rfl; have q2 := x1.cell (j := 2) rfl; have q3 := x1.cell (j := 3) rfl; have q4 := x1.cell (j := 4) rfl; have q5 := x1.cell (j := 5) rfl
  have qf := x1.frz
  have zq := x1.lt
  have X1 := Lib.hid x1
  clear look hR x0 x1 hb q0 q1 q2 q3 q4 q5 qf
  go_upto_region 3 with fail
  refine nw _ fun S hS => ?_
  have b0 : Bx 59 S R.heap.size [.int .i64 (fh M), .int .u64 (fl M), .int .i64 (fh x), .int .u64 (fl x), .int .i64 (fh y), .int .u64 (fl y)] := by rw [hS]; exact Bx.new _ _ _
  have hb2 : Below R.heap.size R S := by rw [hS]; exact bl_al (Below.refl _ _) _
  have x2 := X1.out.below hb2
  have HB2 := Lib.hid (bl_trans HB.out hb2)
  have q0 := x2.cell (j := 0) rfl; have q1 := x2.cell (j := 1) rfl; have q2 := x2.cell (j := 2) rfl; have q3 := x2.cell (j := 3) rfl; have q4 := x2.cell (j := 4) rfl; have q5 := x2.cell (j := 5) rfl
  have r0 := b0.cell (j := 0) rfl; have r1 := b0.cell (j := 1) rfl; have r2 := b0.cell (j := 2) rfl; have r3 := b0.cell (j := 3) rfl; have r4 := b0.cell (j := 4) rfl; have r5 := b0.cell (j := 5) rfl
  have qf := x2.frz
  have zq2 := x2.lt
  clear hS b0 hb2 X1 HB x2 hlk k0 k1
  generalize R.heap.size = g at *
  go_wp2_with fail
  refine bodyPost_ret (by simp [results, Tryz.results29, go_sem, *]; try rfl) rfl ?_
  exact ⟨rfl, bb⟩
set_option maxRecDepth 20000 in
set_option maxHeartbeats 8000000 in
theorem of_miss (B G o : Nat) (m c : Nat) (f t : Nat) (hft : f < t) (htm : t ≤ m) (hmc : m ≤ c) (M x y : Int) (es es2 : Array MapEntry) (cl cl2 : Nat) (w : World) (hb0 : w.heap[B]? = some (.map es cl))
    (look : ∀ W : World, W.heap[B]? = some (.map es cl) → (Instr.lookup 77 (.map (some B)) (.agg #[.int .i64 (f : Int), .int .i64 (t : Int)]) true).run Tryz.prog W = .ok (.tuple #[.agg #[.int .i64 0, .int .u64 0, .int .i64 0, .int .u64 0, .int .i64 0, .int .u64 0], .bool false]) W)
    (put : ∀ W : World, W.heap[B]? = some (.map es cl) → (Instr.mapUpdate 77 (.map (some B)) (.agg #[.int .i64 (f : Int), .int .i64 (t : Int)]) (.agg #[.int .i64 (fh M), .int .u64 (fl M), .int .i64 (fh x), .int .u64 (fl x), .int .i64 (fh y), .int .u64 (fl y)])).run Tryz.prog W = .ok () (setBlock W B (.map es2 cl2)))
    (K1 : ∀ W : World, Below w.heap.size w W → Calls Tryz.prog 20 #[.slice (some ⟨G, o + f * 20, none⟩) (t - f) (c - f)] W fun e w' => e = .returned (.tuple #[.agg #[.int .i64 (fh M), .int .u64 (fl M), .int .i64 (fh x), .int .u64 (fl x), .int .i64 (fh y), .int .u64 (fl y)], .int .i64 0]) ∧ Below W.heap.size W w') :
    Calls Tryz.prog 29 #[.map (some B), .slice (some ⟨G, o, none⟩) m c, .agg #[.int .i64 (f : Int), .int .i64 (t : Int)]] w fun e' w' => e' = .returned (.tuple #[smv M x y, .int .i64 0]) ∧ w.grownBy w' (some B) ∧ w'.heap[B]? = some (.map es2 cl2) := by
  have hB : B < w.heap.size := (Array.getElem?_eq_some_iff.1 hb0).1
  have C1 := Lib.hid K1
  clear K1
  have f0 : (0 : Int) ≤ (f : Int) := by omega
  have f1 : (f : Int) ≤ (t : Int) := by omega
  have f2 : (t : Int) ≤ (c : Int) := by omega
  have f3 : (f : Int) ≤ (c : Int) := by omega
  have g0 : ¬ (f : Int) < 0 := by omega
  have g1 : ¬ (t : Int) < (f : Int) := by omega
  have g2 : ¬ (c : Int) < (t : Int) := by omega
  have g3 : f ≤ t := by omega
  have g4 : t ≤ c := by omega
  go_enter Tryz.func29, Tryz.ntmps29
  go_upto_region 1 with fail
  refine nw _ fun R hR => ?_
  have x0 : Bx 80 R w.heap.size [.int .i64 (f : Int), .int .i64 (t : Int)] := by rw [hR]; exact (Bx.new _ _ _).alloc _
  have x1 : Bx 59 R (w.heap.size + 1) [.int .i64 0, .int .u64 0, .int .i64 0, .int .u64 0, .int .i64 0, .int .u64 0] := by rw [hR]; exact bx_at1 _ _ _ _
  have hb : Below w.heap.size w R := by rw [hR]; exact bl_al (bl_al (Below.refl _ _) _) _
  have hlk := look R ((hb.block B hB).trans hb0)
  obtain ⟨k0, k1⟩ := x0.c2
  have X0 := Lib.hid x0; have X1 := Lib.hid x1; have HB := Lib.hid hb
  have zk := x0.lt
  clear look hR x0 x1 hb
  go_upto_region 4 with fail
  refine nw _ fun R2 hR2 => ?_
  have hb2 : Below R.heap.size R R2 := by rw [hR2]; exact bl_al (Below.refl _ _) _
  have Y0 := Lib.hid (X0.out.below hb2); have Y1 := Lib.hid (X1.out.below hb2); have HB2 := Lib.hid (bl_trans HB.out hb2)
  obtain ⟨l0, l1⟩ := Y0.out.c2
  clear hR2 hb2 X0 X1 HB k0 k1 zk hlk
  go_wp2_with fail
  refine (C1.out _ HB2.out).mono ?_
  rintro e w1 ⟨rfl, hb1⟩
  have Z0 := Lib.hid (Y0.out.below hb1); have Z1 := Lib.hid (Y1.out.below hb1); have HB3 := Lib.hid (bl_trans HB2.out hb1)
  clear hb1 Y0 Y1 HB2 l0 l1
  go_upto_region 7 with fail
  refine nw _ fun S hS => ?_
  have v0 : Bx 59 S w1.heap.size [.int .i64 (fh M), .int .u64 (fl M), .int .i64 (fh x), .int .u64 (fl x), .int .i64 (fh y), .int .u64 (fl y)] := by rw [hS]; exact Bx.new _ _ _
  have hb4 : Below w1.heap.size w1 S := by rw [hS]; exact bl_al (Below.refl _ _) _
  have y0 := Z0.out.below hb4
  obtain ⟨k0, k1⟩ := y0.c2
  have U1 := Lib.hid (Z1.out.below hb4); have HB4 := Lib.hid (bl_trans HB3.out hb4)
  have zs : w.heap.size + 1 < w1.heap.size := Z1.out.lt
  have r0 := v0.cell (j := 0) rfl; have r1 := v0.cell (j := 1) rfl; have r2 := v0.cell (j := 2) rfl; have r3 := v0.cell (j := 3) rfl; have r4 := v0.cell (j := 4) rfl; have r5 := v0.cell (j := 5) rfl
  have V0 := Lib.hid v0
  have hSb : S.heap[B]? = some (.map es cl) := (HB4.out.block B hB).trans hb0
  have hpt := put S hSb
  clear put hS v0 hb4 y0 Z0 Z1 HB3
  generalize w1.heap.size = g at *
  go_upto_region 8 with fail
  refine nw _ fun Y hY => ?_
  have zv : g ≠ B := by omega
  have zr : w.heap.size + 1 ≠ B := by omega
  have hYb : Y.heap[B]? = some (.map es2 cl2) := by rw [hY]; exact ChangeMaps.heap_setBlock_same hSb _
  have GY : Hid (w.grownBy Y (some B)) := by rw [hY]; exact grown_put (grown_below HB4.out) _
  have e1 : Y.heap[w.heap.size + 1]? = S.heap[w.heap.size + 1]? := by rw [hY]; show (S.heap.setIfInBounds B _)[_]? = _; rw [Array.getElem?_setIfInBounds_ne (fun e => zr e.symm)]
  have e0 : Y.heap[g]? = S.heap[g]? := by rw [hY]; show (S.heap.setIfInBounds B _)[_]? = _; rw [Array.getElem?_setIfInBounds_ne (fun e => zv e.symm)]
  have x2 := U1.out.block e1
  have b0 := V0.out.block e0
  have q0 := x2.cell (j := 0) rfl; have q1 := x2.cell (j := 1) rfl; have q2 := x2.cell (j := 2) rfl; have q3 := x2.cell (j := 3) rfl; have q4 := x2.cell (j := 4) rfl; have q5 := x2.cell (j := 5) rfl
  have p0 := b0.cell (j := 0) rfl; have p1 := b0.cell (j := 1) rfl; have p2 := b0.cell (j := 2) rfl; have p3 := b0.cell (j := 3) rfl; have p4 := b0.cell (j := 4) rfl; have p5 := b0.cell (j := 5) rfl
  have qf := x2.frz
  have zq := x2.lt
  clear hY hpt hSb r0 r1 r2 r3 r4 r5 k0 k1 e0 e1 x2 b0 U1 V0 HB4
  go_wp2_with fail
  refine bodyPost_ret (by simp [results, Tryz.results29, go_sem, *]; try rfl) rfl ?_
  refine ⟨rfl, ?_, ?_⟩
  · refine grown_cell (grown_cell (grown_cell (grown_cell (grown_cell (grown_cell GY.out _ _ _ ?_) _ _ _ ?_) _ _ _ ?_) _ _ _ ?_) _ _ _ ?_) _ _ _ ?_ <;> omega
  · rw [set_heap _ _ _ zr, set_heap _ _ _ zr, set_heap _ _ _ zr, set_heap _ _ _ zr, set_heap _ _ _ zr, set_heap _ _ _ zr]; exact hYb
/-- The sum of the bodies from one on, below another one: it is told, and the map stays as it should be. -/
theorem of_all (ADD : ∀ (A : Option Addr) (n c : Nat) (L : List Bod), 0 < n → n ≤ 64 → (∀ b ∈ L, Mb b) → ∀ W : World, Bds W A n L → Calls Tryz.prog 20 #[.slice A n c] W fun e w' => e = .returned (.tuple #[smv (sM L) (mid Bod.x L) (mid Bod.y L), .int .i64 0]) ∧ Below W.heap.size W w')
    (B G o m c f t : Nat) (O : List Bod) (hft : f < t) (htm : t ≤ m) (hmc : m ≤ c) (hm : m ≤ 64) (hO : ∀ b ∈ O, Mb b) (w : World) (hw : Bds w (some ⟨G, o, none⟩) m O) (hs : Sms w B O) :
    Calls Tryz.prog 29 #[.map (some B), .slice (some ⟨G, o, none⟩) m c, .agg #[.int .i64 (f : Int), .int .i64 (t : Int)]] w fun e w' => e = .returned (.tuple #[smp O f t, .int .i64 0]) ∧ w.grownBy w' (some B) ∧ Sms w' B O := by
  obtain ⟨es, cl, hb, hes⟩ := hs
  obtain ⟨l, hk⟩ := span_key (hd_small (f := f) (by omega)) (hd_small (f := t) (by omega))
  have hkeys : ∀ e ∈ es.toList, ∃ l, keyOf Tryz.prog 80 e.key = some l := fun e he => by
    obtain ⟨f', t', h1, h2, h3, _⟩ := hes e he
    rw [h3]; exact span_key (hd_small h1) (hd_small h2)
  by_cases hin : ∃ e ∈ es.toList, e.key = spv (f : Int) (t : Int)
  · refine (of_hit B _ m c (f : Int) (t : Int) _ _ _ es cl w hb fun W hW => ?_).mono fun e w' ⟨he, hbl⟩ => ⟨he, grown_below hbl, es, cl, ?_, hes⟩
    · rcases span_look hW hk hkeys with ⟨e, he, h1, h2⟩ | ⟨h1, _⟩
      · rw [show spv (f : Int) (t : Int) = .agg #[.int .i64 (f : Int), .int .i64 (t : Int)] from rfl] at h2
        rw [h2]
        obtain ⟨f', t', h3, h4, h5, h6⟩ := hes e he
        rw [h5] at h1
        unfold spv at h1
        simp at h1
        obtain rfl : f' = f := by omega
        obtain rfl : t' = t := by omega
        rw [h6]; rfl
      · obtain ⟨e, he, h2⟩ := hin
        exact absurd h2 (h1 e he)
    · exact (hbl.block B (Array.getElem?_eq_some_iff.1 hb).1).trans hb
  · have hne : ∀ e ∈ es.toList, e.key ≠ spv (f : Int) (t : Int) := fun e he h => hin ⟨e, he, h⟩
    refine (of_miss B G o m c f t hft htm hmc _ _ _ es _ cl _ w hb (fun W hW => ?_) (fun W hW => span_put hW hk hkeys hne) (fun W hW => ADD _ (t - f) (c - f) (part O f t) (by omega) (by omega) (fun b hb => hO b (List.mem_of_mem_drop (List.mem_of_mem_take hb))) W ((hw.below hW).sub (by omega) htm))).mono fun e w' ⟨he, hg, hh⟩ => ⟨he, hg, _, _, hh, fun x hx => ?_⟩
    · rcases span_look hW hk hkeys with ⟨e, he, h1, _⟩ | ⟨_, h2⟩
      · exact absurd h1 (hne e he)
      · exact h2
    · rw [Array.toList_push] at hx
      rcases List.mem_append.1 hx with h | h
      · exact hes x h
      · simp at h; subst h
        exact ⟨f, t, by omega, by omega, rfl, rfl⟩
end Go.Proofs.YtjilnmpajhifcaaGreat
namespace Go.Proofs.YtjilnmpajhifcaaGreat
open Go.RowKit
open Go.ChangeMaps (setBlock)
set_option maxRecDepth 20000 in
set_option maxHeartbeats 8000000 in
theorem spanOf_any (a0 a1 k0 k1 k2 k3 : Int) (f t m : Nat) (hft : f < t) (htm : t ≤ m) (w : World) :
    Calls Tryz.prog 30 #[.agg #[.int .i64 a0, .int .u64 a1, .int .i64 (f : Int), .int .i64 (t : Int), .int .i64 k0, .int .i64 k1, .int .i64 k2, .int .i64 k3], .int .i64 (m : Int)] w fun e w' => e = .returned (.agg #[.int .i64 (f : Int), .int .i64 (t : Int)]) ∧ Below w.heap.size w w' := by
  have h1 : ¬ (0 : Int) > (f : Int) := by omega
  have h2 : ¬ (m : Int) < (f : Int) := by omega
  have h3 : ¬ (f : Int) > (t : Int) := by omega
  have h4 : ¬ (m : Int) < (t : Int) := by omega
  have h5 : ¬ (f : Int) < 0 := by omega
  have h6 : ¬ (t : Int) < (f : Int) := by omega
  have h7 : ¬ t < f := by omega
  have h8 : ¬ m < f := by omega
  have h9 : ¬ m < t := by omega
  go_enter Tryz.func30, Tryz.ntmps30
  go_wp2_with fail
  refine bodyPost_ret (by simp [results, Tryz.results30, go_sem, *]; try rfl) rfl ?_
  exact ⟨rfl, bb⟩
theorem cell_makes (n : Nat) (hn : n ≤ 2147483648) : ∃ cs : Array Value, cs.toList = (List.replicate n [Value.int .i64 0, .int .u64 0, .int .i64 0, .int .u64 0, .int .i64 0, .int .u64 0, .int .i64 0, .int .u64 0]).flatten ∧ ∀ W : World, (Instr.makeSlice 40 (.int .i64 (n : Int)) (.int .i64 (n : Int))).run Tryz.prog W = .ok (.slice (some ⟨W.heap.size, 0, none⟩) n n) (W.alloc (.cells cs 52)) :=
  row_makes (s := 8) (b := 64) Tryz.underlying40 (by kernel_rfl) rfl (by decide) n (by omega) (by omega)
theorem Kb.setc {P : Nat → Prop} {w u : World} (h : Kb P w u) {p : Addr} (hp : ¬ P p.block) (v : Value) : Kb P w (u.setCell p v) :=
  ⟨by simpa using h.1, fun k hk hl => by rw [Below.heap_setCell _ _ _ _ (fun e => hp (by rw [← e]; exact hk))]; exact h.2 k hk hl⟩
theorem kbt {P : Nat → Prop} {w u : World} (h : Kb P w u := by repeat (first | with_reducible assumption | with_reducible exact Kb.refl _ _ | with_reducible refine Kb.alloc ?_ _ | with_reducible apply Kb.drew | with_reducible refine Kb.call ?_ (by with_reducible assumption) | refine Kb.setc ?_ (by simp) _)) : Kb P w u := h
theorem part_memb {by_ : List (Nat × Int)} {L : List Bod} {f t : Nat} (hid : ∀ x ∈ by_, 0 ≤ x.2 ∧ x.2.toNat < L.length) : part (ord by_ L) f t = memb by_ L f t := by
  have k : ∀ l : List (Nat × Int), (∀ x ∈ l, 0 ≤ x.2 ∧ x.2.toNat < L.length) → ord l L = l.filterMap fun k => L[k.2.toNat]? := by
    intro l
    induction l with
    | nil => intro _; rfl
    | cons a t ih =>
      intro h
      have ha := (h a List.mem_cons_self).2
      have e := List.getElem?_eq_getElem ha
      show (L[a.2.toNat]?).getD bod0 :: ord t L = _
      rw [List.filterMap_cons, e, ih fun x hx => h x (List.mem_cons_of_mem _ hx)]; rfl
  unfold part memb
  rw [← k _ fun x hx => hid x (List.mem_of_mem_drop (List.mem_of_mem_take hx))]
  unfold ord
  rw [← List.map_drop, ← List.map_take]
theorem ord_Mb {by_ : List (Nat × Int)} {L : List Bod} (hid : ∀ x ∈ by_, 0 ≤ x.2 ∧ x.2.toNat < L.length) (hm : ∀ b ∈ L, Mb b) : ∀ b ∈ ord by_ L, Mb b := fun b hb => by
  unfold ord at hb
  obtain ⟨x, hx, rfl⟩ := List.mem_map.1 hb
  have ha := (hid x hx).2
  rw [List.getElem?_eq_getElem ha]
  exact hm _ (List.getElem_mem _)
theorem Sms.grown {w w' : World} {B : Nat} {O : List Bod} (h : Sms w B O) (e : w'.heap[B]? = w.heap[B]?) : Sms w' B O := by
  obtain ⟨es, cl, hb, hes⟩ := h
  exact ⟨es, cl, e.trans hb, hes⟩
theorem Sms.lt {w : World} {B : Nat} {O : List Bod} (h : Sms w B O) : B < w.heap.size := by
  obtain ⟨es, cl, hb, _⟩ := h
  exact (Array.getElem?_eq_some_iff.1 hb).1
theorem cels_split {by_ : List (Nat × Int)} {L : List Bod} {T : List Nd} {i n : Nat} {x : Nd} {z : List Value} (hl : T.length = n) (h : T[i]? = some x) :
    ((cels by_ L T).take i ++ List.replicate (n - i) z).set i (celc (memb by_ L x.fr x.to) (x.lev : Int)) = (cels by_ L T).take (i + 1) ++ List.replicate (n - (i + 1)) z := by
  have hi := (List.getElem?_eq_some_iff.1 h).1
  have e : ((cels by_ L T).take i).length = i := by unfold cels; rw [List.length_take, List.length_map]; omega
  have q : (cels by_ L T)[i]? = some (celc (memb by_ L x.fr x.to) (x.lev : Int)) := by unfold cels; rw [List.getElem?_map, h]; rfl
  rw [List.set_append_right _ _ (by omega), e, Nat.sub_self, show n - i = n - (i + 1) + 1 by omega, List.replicate_succ, List.set_cons_zero, take_snoc' q, List.append_assoc]; rfl
theorem cels_at {by_ : List (Nat × Int)} {L : List Bod} {T : List Nd} {i n : Nat} {z : List Value} (hl : T.length = n) (hi : i < n) : ((cels by_ L T).take i ++ List.replicate (n - i) z)[i]? = some z := by
  have e : ((cels by_ L T).take i).length = i := by unfold cels; rw [List.length_take, List.length_map]; omega
  rw [List.getElem?_append_right (by omega), e, Nat.sub_self, List.getElem?_replicate, if_pos (by omega)]
/-- A cell's cells while there is none. -/
def cel0 : List Value := [.int .i64 0, .int .u64 0, .int .i64 0, .int .u64 0, .int .i64 0, .int .u64 0, .int .i64 0, .int .u64 0]
set_option maxRecDepth 20000 in
set_option maxHeartbeats 16000000 in
theorem cells_any (WT : ∀ (z : Int) (W : World), Calls Tryz.prog 31 #[.int .i64 z] W fun e w' => e = .returned (.agg #[.int .i64 (wd8 z), .int .u64 0]) ∧ Below W.heap.size W w')
    (ADD : ∀ (A : Option Addr) (n c : Nat) (L : List Bod), 0 < n → n ≤ 64 → (∀ b ∈ L, Mb b) → ∀ W : World, Bds W A n L → Calls Tryz.prog 20 #[.slice A n c] W fun e w' => e = .returned (.tuple #[smv (sM L) (mid Bod.x L) (mid Bod.y L), .int .i64 0]) ∧ Below W.heap.size W w') : CelT := by
  intro A n c T B m d by_ D l e0 L hn hm hl hmb hid hT w hA hB hD
  have hDl := hD.len
  rw [← hDl] at hid
  have hO := ord_Mb hid hmb
  have hpm : ∀ f t, part (ord by_ L) f t = memb by_ L f t := fun f t => part_memb hid
  rw [hDl] at hid
  have hOl : (ord by_ L).length = m := by rw [ord_len]; exact hB.1
  have CI := Lib.hid (inOrder_any B m d by_ D l e0 L hm hl hid w hB hD)
  obtain ⟨O, hOO⟩ : ∃ O, O = ord by_ L := ⟨_, rfl⟩
  rw [← hOO] at hO hpm hOl CI
  have hTl : T.length = n := by have := hA.1; simpa using this
  have HA := Lib.hid hA; have HN := Lib.hid hn; have HM := Lib.hid hm; have HT := Lib.hid hT; have HO := Lib.hid hO; have HPM := Lib.hid hpm; have HOL := Lib.hid hOl; have HTL := Lib.hid hTl; have KW := Lib.hid WT; have KA := Lib.hid ADD
  obtain ⟨cs, hcs, hmk⟩ := cell_makes n hn
  have HCS := Lib.hid hcs
  have hmm := @run_makeMap Tryz.prog
  clear hA hn hm hl hmb hid hT hB hD hDl hO hpm hOO hOl hTl WT ADD hcs
  go_enter Tryz.func11, Tryz.ntmps11
  go_wp2_with fail
  refine CI.out.mono ?_
  rintro e w1 ⟨⟨g, rfl, hg, hR⟩, hb1⟩
  have R1 := Lib.hid hR; have HB1 := Lib.hid hb1
  have gz := hR.lt
  clear hR hb1 CI
  go_upto_region 2 with fail
  refine nw _ fun w2 hw2 => ?_
  have S2 : Hid (Sms w2 w1.heap.size O) := ⟨#[], 0, by rw [hw2, heap_alloc_new], fun e he => by simp at he⟩
  have hb2 : Below w1.heap.size w1 w2 := by rw [hw2]; exact bl_al (Below.refl _ _) _
  have R2 := Lib.hid (R1.out.below hb2); have HB2 := Lib.hid (bl_trans HB1.out hb2)
  have zb : w.heap.size ≤ w1.heap.size := HB1.out.size
  clear hw2 hb2 R1 HB1 hmm
  obtain ⟨M, hM⟩ : ∃ M, M = w1.heap.size := ⟨_, rfl⟩
  rw [← hM] at S2 gz zb ⊢
  clear hM
  have r8 := R0.new (s := 8) (t := 52) w2 (C := List.replicate n cel0) (cs := cs) (fun c hc => by rw [(List.mem_replicate.1 hc).2]; rfl) HCS.out
  rw [List.length_replicate] at r8
  have hb3 : Below w2.heap.size w2 (w2.alloc (.cells cs 52)) := bl_al (Below.refl _ _) _
  have R8 := Lib.hid r8
  have R3 := Lib.hid (R2.out.below hb3); have S3 := Lib.hid (S2.out.grown (hb3.block M S2.out.lt)); have HB3 := Lib.hid (bl_trans HB2.out hb3)
  have hz : M < w2.heap.size := S2.out.lt
  clear r8 hb3
  go_wp2_with fail
  clear hmk HCS
  generalize w2.alloc (.cells cs 52) = w3 at *
  clear R2 S2 HB2
  obtain ⟨h, hh⟩ : ∃ h, h = w2.heap.size := ⟨_, rfl⟩
  rw [← hh] at R8 hz ⊢
  clear hh
  go_loopg [24] n (fun k iv wr => ∃ i : Nat, i + k = n ∧ iv = .int .i64 (i : Int) ∧ R0 20 56 wr g m (O.map bdc) ∧ Sms wr M O ∧ R0 8 52 wr h n ((cels by_ L T).take i ++ List.replicate (n - i) cel0) ∧ Below w.heap.size w wr)
  case atStart => exact ⟨0, by omega, rfl, R3.out, S3.out, by simpa using R8.out, HB3.out⟩
  case round =>
    obtain ⟨wq, rfl⟩ : ∃ x : World, x = wr := ⟨wr, rfl⟩
    obtain ⟨i, hk, rfl, q0, q1, q2, hbl⟩ := hrel
    have Q0 := Lib.hid q0; have Q1 := Lib.hid q1; have Q2 := Lib.hid q2; have GB := Lib.hid hbl
    have h9 := HN.out
    have hq := q2.lt
    clear q0 q1 q2 hbl R3 S3 R8 HB3
    by_cases hlt : i < n
    · obtain ⟨gi, rfl⟩ : ∃ gi, gk = gi + 1 := ⟨gk - 1, by omega⟩
      have hxx := List.getElem?_eq_getElem (l := T) (i := i) (by have := HTL.out; omega)
      obtain ⟨NB, no, rfl, zN, hc⟩ := (HA.out.below GB.out).at_ (j := i) (c := ndc (T[i]'(by have := HTL.out; omega))) (by rw [List.getElem?_map, hxx]; rfl)
      obtain ⟨x, hx⟩ : ∃ x, x = T[i]'(by have := HTL.out; omega) := ⟨_, rfl⟩
      rw [← hx] at hxx hc
      obtain ⟨hft, htm⟩ := HT.out x (List.mem_of_getElem? hxx)
      have HSP := Lib.hid (cels_split (by_ := by_) (L := L) (z := cel0) HTL.out hxx)
      have HAT := Lib.hid (cels_at (by_ := by_) (L := L) (z := cel0) HTL.out hlt)
      have HV : Hid (wq.rangeAt NB (no + i * 8) (ndc x)) := hc
      have hi : (i : Int) < (n : Int) := by omega
      have i0 : (0 : Int) ≤ (i : Int) := by omega
      have wi : IntKind.i64.wrap ((i : Int) + 1) = (i : Int) + 1 := by rw [IntWalk.i64_in _ (by omega)]
      have HK : Hid (i + (gi + 1) = n) := hk
      have HND := Lib.hid (ndc_one [x])
      have hnl := ndc_len x
      have CS := Lib.hid (spanOf_any (x.lev : Int) (x.key : Int) (x.kid 0) (x.kid 1) (x.kid 2) (x.kid 3) x.fr x.to m hft htm)
      have CO := Lib.hid (fun W hw hs => of_all KA.out M g 0 m m x.fr x.to O hft htm (Nat.le_refl _) HM.out HO.out W hw hs)
      have CW := Lib.hid (KW.out (x.lev : Int))
      unfold smp at CO
      rw [HPM.out x.fr x.to] at CO
      have zM : M < wq.heap.size := Q1.out.lt
      have zg : g < wq.heap.size := Q0.out.lt
      obtain ⟨C, hC⟩ : ∃ C, C = memb by_ L x.fr x.to := ⟨_, rfl⟩
      rw [← hC] at CO HSP
      clear hC hxx hx hc hk h9 hft htm
      go_upto_region 6 with (first
        | (refine wpList_load_mid rfl 74 _ rfl NB (no + i * 8) rfl (ndc x) _ HV.out Tryz.underlying74 rfl (by kernel_rfl) ?_)
        | (refine wpList_store_box rfl 74 _ _ rfl wq.heap.size (ndc x).toArray rfl rfl 74 _ (Bx.new wq _ _) (by kernel_rfl) rfl (all_oneCell_toArray (fun u hu => HND.out _ (by simp) u hu)) ?_)
        | fail)
      refine nw _ fun w4 hw4 => ?_
      have box : Bx 74 w4 wq.heap.size (ndc x) := by rw [hw4]; exact (Bx.new wq _ _).row _
      have hb4 : Below wq.heap.size wq w4 := by rw [hw4]; exact below_row (bl_al (Below.refl _ _) _) (Nat.le_refl _) _
      have c0 := box.cell (j := 0) rfl; have c1 := box.cell (j := 1) rfl; have c2 := box.cell (j := 2) rfl; have c3 := box.cell (j := 3) rfl; have c4 := box.cell (j := 4) rfl; have c5 := box.cell (j := 5) rfl; have c6 := box.cell (j := 6) rfl; have c7 := box.cell (j := 7) rfl
      have BX := Lib.hid box
      have P0 := Lib.hid (Q0.out.below hb4); have P1 := Lib.hid (Q1.out.grown (hb4.block M Q1.out.lt)); have P2 := Lib.hid (Q2.out.below hb4); have GB4 := Lib.hid (bl_trans GB.out hb4)
      clear hw4 hb4 box HV Q0 Q1 Q2 GB HND hnl
      generalize wq.heap.size = b at *
      go_wp2_with fail
      refine (CS.out _).mono ?_
      rintro e w5 ⟨rfl, hb5⟩
      have B5 := Lib.hid (BX.out.below hb5); have T0 := Lib.hid (P0.out.below hb5); have T1 := Lib.hid (P1.out.grown (hb5.block M P1.out.lt)); have T2 := Lib.hid (P2.out.below hb5); have GB5 := Lib.hid (bl_trans GB4.out hb5)
      clear hb5 c0 c1 c2 c3 c4 c5 c6 c7 BX P0 P1 P2 GB4 CS
      go_wp2_with fail
      refine (CO.out _ ?_ T1.out).mono ?_
      · have q := T0.out.slice
        rw [List.length_map, HOL.out] at q
        exact q
      rintro e w6 ⟨rfl, hg6, hs6⟩
      have e6 : ∀ k, k < w5.heap.size → k ≠ M → w6.heap[k]? = w5.heap[k]? := fun k hk hne => hg6.block k hk (fun e => hne (Option.some.inj e))
      have B6 := Lib.hid (B5.out.block (e6 b B5.out.lt (by omega))); have V0 := Lib.hid (T0.out.block (e6 g T0.out.lt (by omega))); have V1 := Lib.hid hs6; have V2 := Lib.hid (T2.out.block (e6 h T2.out.lt (by omega)))
      have GB6 : Hid (Below w.heap.size w w6) := GB5.out.grown hg6 GB5.out.size (fun q hq => by have : M = q := Option.some.inj hq; omega)
      have zb6 : b < w6.heap.size := B6.out.lt
      clear e6 hg6 hs6 B5 T0 T1 T2 GB5 CO
      go_upto_region 9 with fail
      refine nw _ fun wx ewx => ?_
      have sb : Bx 59 wx w6.heap.size [.int .i64 (fh (sM C)), .int .u64 (fl (sM C)), .int .i64 (fh (mid Bod.x C)), .int .u64 (fl (mid Bod.x C)), .int .i64 (fh (mid Bod.y C)), .int .u64 (fl (mid Bod.y C))] := by rw [ewx]; exact Bx.new _ _ _
      have hxw : Below w6.heap.size w6 wx := by rw [ewx]; exact bl_al (Below.refl _ _) _
      have bx := B6.out.below hxw
      have U0 := Lib.hid (V0.out.below hxw); have U1 := Lib.hid (V1.out.grown (hxw.block M V1.out.lt)); have U2 := Lib.hid (V2.out.below hxw); have GBX := Lib.hid (bl_trans GB6.out hxw)
      have zsx := sb.lt; have zbx := bx.lt
      have ps : w6.heap.size ≠ h := by omega
      have pb : b ≠ h := by omega
      have f0 := staysK (P := fun k => k ≠ h) (sb.cell (j := 0) rfl) zsx ps; have f1 := staysK (P := fun k => k ≠ h) (sb.cell (j := 1) rfl) zsx ps; have f2 := staysK (P := fun k => k ≠ h) (sb.cell (j := 2) rfl) zsx ps; have f3 := staysK (P := fun k => k ≠ h) (sb.cell (j := 3) rfl) zsx ps; have f4 := staysK (P := fun k => k ≠ h) (sb.cell (j := 4) rfl) zsx ps; have f5 := staysK (P := fun k => k ≠ h) (sb.cell (j := 5) rfl) zsx ps
      have f6 := staysK (P := fun k => k ≠ h) (bx.cell (j := 0) rfl) zbx pb
      clear ewx hxw sb bx B6 V0 V1 V2 GB6 zsx zbx ps pb
      generalize w6.heap.size = s at *
      go_region_held3 (fun w' => Kb (fun k => k ≠ h) wx w') (exact kbt) (first
        | (go_at_call 31; (with_reducible refine (CW.out _).mono ?_); rintro e w7 ⟨rfl, hb7⟩; have X7 := U2.out.drew.below hb7
           have y0 : w7.cell? ⟨h, i * 8, none⟩ = some (.int .i64 0) := X7.cell (k := 0) HAT.out rfl
           have y1 := X7.cell (k := 1) HAT.out rfl; have y2 := X7.cell (k := 2) HAT.out rfl; have y3 := X7.cell (k := 3) HAT.out rfl; have y4 := X7.cell (k := 4) HAT.out rfl; have y5 := X7.cell (k := 5) HAT.out rfl; have y6 := X7.cell (k := 6) HAT.out rfl; have y7 := X7.cell (k := 7) HAT.out rfl
           have yf := X7.frz))
      rename_i hHeld
      clear hHeld
      go_upto_region 10 with fail
      refine nw _ fun w9 hw9 => ?_
      have e9 : w9 = w7.setCells h (i * 8) (celc C (x.lev : Int)) := hw9
      have hl9 : ((cels by_ L T).take i ++ List.replicate (n - i) cel0).length = n := by
        have k : (cels by_ L T).length = n := by unfold cels; rw [List.length_map]; exact HTL.out
        rw [List.length_append, List.length_take, List.length_replicate, k]; omega
      have N2 : Hid (R0 8 52 w9 h n ((cels by_ L T).take (i + 1) ++ List.replicate (n - (i + 1)) cel0)) := by
        show R0 _ _ _ _ _ _
        rw [e9, ← HSP.out]; exact X7.puts (by omega) (celc_len _ _)
      have e7 : ∀ k, k < wx.heap.size → k ≠ h → w9.heap[k]? = wx.heap[k]? := fun k hk hne => by rw [e9, heap_setCells h _ _ _ k hne]; exact hb7.block k hk
      have N0 := Lib.hid (U0.out.block (e7 g U0.out.lt (by omega)))
      have N1 := Lib.hid (U1.out.grown (e7 M U1.out.lt (by omega)))
      have GB9 : Hid (Below w.heap.size w w9) := by
        show Below _ _ _
        rw [e9]; exact below_cells (by omega) _ _ _ (bl_trans GBX.out.drew hb7)
      clear hw9 e9 e7 hl9 X7 y0 y1 y2 y3 y4 y5 y6 y7 yf hb7 U0 U1 U2 GBX f0 f1 f2 f3 f4 f5 f6
      go_wp2_with fail
      go_roundg gi
      case measure => omega
      case rel => exact ⟨i + 1, by have := HK.out; omega, by simp, N0.out, N1.out, N2.out, GB9.out⟩
    · have hi : ¬ (i : Int) < (n : Int) := by omega
      obtain rfl : i = n := by omega
      have kr := Q2.out
      have hlc : (cels by_ L T).length = i := by unfold cels; rw [List.length_map]; exact HTL.out
      rw [Nat.sub_self, List.replicate_zero, List.append_nil, List.take_of_length_le (by omega)] at kr
      have ko := kr.own (base := w.heap.size) (by decide) (by omega) (by have := HN.out; unfold maxLen; omega)
      rw [hlc] at ko
      have KO := Lib.hid ko
      clear hk h9 kr ko hlc Q0 Q1 Q2
      go_wp2_with fail
      go_returns
      exact ⟨⟨_, rfl, KO.out⟩, GB.out⟩
end Go.Proofs.YtjilnmpajhifcaaGreat
namespace Go.Proofs.YtjilnmpajhifcaaGreat
open Go.RowKit
theorem key_prog : KeyT := fun A n c L hn _ W hL => keyed_any by_prog A n c L hn W hL
theorem cel_prog : CelT := cells_any (fun z W => wid_prog z W) fun A n c L h0 hn hm W hL => added_any padd_prog pmul_prog pdiv_prog A n c L h0 hn hm W hL
end Go.Proofs.YtjilnmpajhifcaaGreat
