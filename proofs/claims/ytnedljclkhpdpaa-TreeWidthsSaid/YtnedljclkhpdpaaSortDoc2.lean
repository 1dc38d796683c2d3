/- The document's By: one body at a time laid in among those ahead of it. -/
import Derived.Test.YtnedljclkhpdpaaSortDoc1
namespace Go.Proofs.Ytnedljclkhpdpaa
open Go.RowKit
theorem info_parts {t : TypeId} {q : Nat} {z : Value} (h : (Try.prog.info? t).map (fun i => (i.zero, i.size, i.bytes)) = some (some z, q, 16)) : ∃ i, Try.prog.info? t = some i ∧ i.zero = some z ∧ i.size = q ∧ i.bytes = 16 := by
  cases hi : Try.prog.info? t with
  | none => rw [hi] at h; cases h
  | some i => rw [hi] at h; simp only [Option.map_some, Option.some.injEq, Prod.mk.injEq] at h; exact ⟨i, rfl, h.1, h.2.1, h.2.2⟩
theorem kd_info : (Try.prog.info? 36).map (fun i => (i.zero, i.size, i.bytes)) = some (some (.agg #[.int .u64 0, .int .i64 0]), 2, 16) := by kernel_rfl
theorem Ks.asFlat {w : World} {a : Addr} {n : Nat} {L : List (Nat × Int)} (h : Ks w (some a) n L) (j : Nat) (u : Value) (hu : (flat L)[j]? = some u) : a.block < w.heap.size ∧ w.cell? (a.add j) = some u := by
  obtain ⟨x, hx, hc⟩ := flat_of hu
  have hl := (List.getElem?_eq_some_iff.1 hx).1
  obtain ⟨B, o, e, hb, hcell⟩ := h.2 (by have := h.1; omega)
  obtain rfl : a = ⟨B, o, none⟩ := by injection e
  obtain ⟨c0, c1⟩ := hcell _ x hx
  refine ⟨hb, ?_⟩
  rw [WideShapes.add_plain]
  rcases hc with ⟨hm, rfl⟩ | ⟨hm, rfl⟩
  · rw [show o + j = o + j / 2 * 2 by omega]; exact c0
  · rw [show o + j = o + j / 2 * 2 + 1 by omega]; exact c1
theorem own_none (w : World) (e : TypeId) : (w.alloc (.cells #[] e)).ownsRow w.heap.size e 2 (.slice (some ⟨w.heap.size, 0, none⟩) 0 0) 0 [] :=
  ⟨rfl, .inr ⟨w.heap.size, 0, #[], rfl, Nat.le_refl _, heap_alloc_new w _, Nat.le_refl _, Nat.zero_le _, rfl, rfl⟩⟩
theorem set_mid {α : Type} (P T : List α) (x y z : α) : ((P ++ y :: x :: T).set (P.length + 1) y).set P.length z = P ++ z :: y :: T := by
  induction P with
  | nil => rfl
  | cons a t ih => simp
/-- A list sorted, in new memory. -/
def Sorted (w : World) (n : Nat) (L : List (Nat × Int)) (e : Ending) (w' : World) : Prop :=
  (∃ v M, e = .returned v ∧ w'.ownsRow w.heap.size 36 2 v n (flat M) ∧ Std Prod.fst M L) ∧ Below w.heap.size w w'
/-- The first i are sorted, all others stand as they stood. -/
def Part (w : World) (g cap i : Nat) (L : List (Nat × Int)) (W : World) : Prop :=
  ∃ S, Std Prod.fst S (L.take i) ∧ Kr W g cap (S ++ L.drop i) ∧ Below w.heap.size w W
/-- One more goes down among the first ones: it is at place m. -/
def Down (w : World) (g cap i m : Nat) (x : Nat × Int) (L : List (Nat × Int)) (W : World) : Prop :=
  ∃ P Q, P.length = m ∧ Std Prod.fst (P ++ Q) (L.take i) ∧ (∀ q ∈ Q, x.1 < q.1) ∧ Kr W g cap (P ++ x :: (Q ++ L.drop (i + 1))) ∧ Below w.heap.size w W
theorem Part.drew {w : World} {g cap i : Nat} {L : List (Nat × Int)} {W : World} (h : Part w g cap i L W) : Part w g cap i L W.drew := by
  obtain ⟨S, hS, hK, hB⟩ := h
  exact ⟨S, hS, hK.drew, hB.drew⟩
theorem Down.drew {w : World} {g cap i m : Nat} {x : Nat × Int} {L : List (Nat × Int)} {W : World} (h : Down w g cap i m x L W) : Down w g cap i m x L W.drew := by
  obtain ⟨P, Q, hP, hS, hQ, hK, hB⟩ := h
  exact ⟨P, Q, hP, hS, hQ, hK.drew, hB.drew⟩
theorem Down.alloc {w : World} {g cap i m : Nat} {x : Nat × Int} {L : List (Nat × Int)} {W : World} (h : Down w g cap i m x L W) (o : Obj) : Down w g cap i m x L (W.alloc o) := by
  obtain ⟨P, Q, hP, hS, hQ, hK, hB⟩ := h
  exact ⟨P, Q, hP, hS, hQ, hK.alloc o, bl_al hB o⟩
theorem Part.down {w : World} {g cap i : Nat} {x : Nat × Int} {L : List (Nat × Int)} {W : World} (h : Part w g cap i L W) (hx : L[i]? = some x) : Down w g cap i i x L W := by
  obtain ⟨S, hS, hK, hB⟩ := h
  have hl := (List.getElem?_eq_some_iff.1 hx)
  refine ⟨S, [], ?_, by rw [List.append_nil]; exact hS, by simp, ?_, hB⟩
  · rw [hS.perm.length_eq, List.length_take]; have := hl.1; omega
  · have e : L.drop i = x :: L.drop (i + 1) := by
      rw [List.drop_eq_getElem_cons hl.1, hl.2]
    rw [List.nil_append, ← e]; exact hK
theorem Down.done {w : World} {g cap i m : Nat} {x : Nat × Int} {L : List (Nat × Int)} {W : World} (h : Down w g cap i m x L W) (hx : L[i]? = some x)
    (hm : m = 0 ∨ ∃ y, (∃ p, m = p + 1 ∧ ∀ P Q : List (Nat × Int), P.length = m → Kr W g cap (P ++ x :: Q) → P[p]? = some y) ∧ y.1 ≤ x.1) : Part w g cap (i + 1) L W := by
  obtain ⟨P, Q, hP, hS, hQ, hK, hB⟩ := h
  have hl := (List.getElem?_eq_some_iff.1 hx)
  refine ⟨P ++ x :: Q, ?_, by rw [List.append_assoc]; exact hK, hB⟩
  have e : L.take (i + 1) = L.take i ++ [x] := by rw [List.take_succ_eq_append_getElem hl.1, hl.2]
  rw [e]
  refine laid_std hS (fun a ha => ?_) hQ
  rcases hm with rfl | ⟨y, ⟨p, rfl, hy⟩, hyx⟩
  · rw [List.length_eq_zero_iff.1 hP] at ha; cases ha
  · have hy := hy P _ hP hK
    have hp := hS.1
    rw [List.pairwise_append] at hp
    obtain ⟨k, hk⟩ := List.mem_iff_getElem?.1 ha
    have hkl := (List.getElem?_eq_some_iff.1 hk)
    have hyl := (List.getElem?_eq_some_iff.1 hy)
    have q := List.pairwise_iff_getElem.1 hp.1
    by_cases c : k = p
    · subst c; rw [hk] at hy; injection hy with hy; rw [hy]; exact hyx
    · have := q k p hkl.1 hyl.1 (by have := hkl.1; omega)
      rw [hkl.2, hyl.2] at this
      omega
/-- What stands at its place, and ahead of it. -/
theorem Down.see {w : World} {g cap i m : Nat} {x : Nat × Int} {L : List (Nat × Int)} {W : World} (h : Down w g cap i (m + 1) x L W) :
    ∃ y : Nat × Int, (∀ P Q : List (Nat × Int), P.length = m + 1 → Kr W g cap (P ++ x :: Q) → P[m]? = some y) ∧ W.cell? ⟨g, m * 2, none⟩ = some (.int .u64 (y.1 : Int)) ∧ W.cell? ⟨g, m * 2 + 1, none⟩ = some (.int .i64 y.2) ∧
      W.cell? ⟨g, (m + 1) * 2, none⟩ = some (.int .u64 (x.1 : Int)) ∧ W.cell? ⟨g, (m + 1) * 2 + 1, none⟩ = some (.int .i64 x.2) := by
  obtain ⟨P, Q, hP, hS, hQ, hK, hB⟩ := h
  have hy : P[m]? = some (P[m]'(by omega)) := List.getElem?_eq_getElem _
  have cy := hK.cells m _ (by rw [List.getElem?_append_left (by omega)]; exact hy)
  have cx := hK.cells (m + 1) x (by rw [List.getElem?_append_right (by omega), hP, Nat.sub_self]; rfl)
  refine ⟨_, fun P' Q' hP' hK' => ?_, cy.1, cy.2, cx.1, cx.2⟩
  have hz : P'[m]? = some (P'[m]'(by omega)) := List.getElem?_eq_getElem _
  have cz := hK'.cells m _ (by rw [List.getElem?_append_left (by omega)]; exact hz)
  rw [cy.1, cy.2] at cz
  rw [hz]
  have e1 := cz.1; have e2 := cz.2
  injection e1 with e1; injection e1 with _ e1; injection e2 with e2; injection e2 with _ e2
  congr 1
  exact (Prod.ext (by omega) e2).symm
theorem Down.swap {w : World} {g cap i m : Nat} {x y : Nat × Int} {L : List (Nat × Int)} {W W' : World} (h : Down w g cap i (m + 1) x L W) (hy : ∀ P Q : List (Nat × Int), P.length = m + 1 → Kr W g cap (P ++ x :: Q) → P[m]? = some y) (hxy : x.1 < y.1)
    (hg : w.heap.size ≤ g) (hW : Below W.heap.size W W') :
    Down w g cap i m x L ((((W'.setCell ⟨g, (m + 1) * 2, none⟩ (.int .u64 (y.1 : Int))).setCell ⟨g, (m + 1) * 2 + 1, none⟩ (.int .i64 y.2)).setCell ⟨g, m * 2, none⟩ (.int .u64 (x.1 : Int))).setCell ⟨g, m * 2 + 1, none⟩ (.int .i64 x.2)) := by
  obtain ⟨P, Q, hP, hS, hQ, hK, hB⟩ := h
  have hy := hy P _ hP hK
  obtain ⟨P0, rfl⟩ : ∃ P0, P = P0 ++ [y] := by
    refine ⟨P.take m, ?_⟩
    have hl := (List.getElem?_eq_some_iff.1 hy)
    rw [← hl.2, ← List.take_succ_eq_append_getElem hl.1, List.take_of_length_le (by omega)]
  have hm : P0.length = m := by simpa using hP
  refine ⟨P0, y :: Q, hm, by simpa using hS, ?_, ?_, Below.setCell (Below.setCell (Below.setCell (Below.setCell (bl_trans hB hW) hg _) hg _) hg _) hg _⟩
  · intro q hq
    rcases List.mem_cons.1 hq with rfl | hq
    · exact hxy
    · exact hQ q hq
  · have k := ((hK.below hW).put (j := m + 1) (by simp; omega) y).put (j := m) (by simp; omega) x
    have e := set_mid P0 (Q ++ L.drop (i + 1)) x y x
    rw [hm] at e
    simp only [List.append_assoc, List.singleton_append] at k
    rw [e] at k
    exact k
set_option maxRecDepth 20000 in
set_option maxHeartbeats 8000000 in
theorem rby_some (A : Addr) (n c : Nat) (L : List (Nat × Int)) (hn : n ≤ 8796093022208) (w : World) (hL : Ks w (some A) n L) :
    Calls Try.prog 14 #[.slice (some A) n c] w (Sorted w n L) := by
  have HL := Lib.hid hL; clear hL
  have HN := Lib.hid hn; clear hn
  obtain ⟨i0, hi, hz0, hz1, hz2⟩ := info_parts kd_info
  have HI := Lib.hid hi; have HZ0 := Lib.hid hz0; have HZ1 := Lib.hid hz1; have HZ2 := Lib.hid hz2
  clear hi hz0 hz1 hz2
  go_enter Try.func14, Try.ntmps14
  go_wp2_with (first
    | (at_builtin; refine wpList_append_own_at _ rfl _ _ 22 rfl w.heap.size 36 i0 _ 2 16 Try.underlying22 HI.out HZ0.out HZ1.out HZ2.out rfl (by decide) _ _ _ rfl (own_none w _) A n c (flat L) rfl ?c0 ?c1 ?c2 ?c3 ?c4 ?c5 ?_)
    | fail)
  case c0 => rw [flat_len, HL.out.1]
  case c1 => intro j u hu; obtain ⟨h1, h2⟩ := HL.out.asFlat j u hu; rw [World.cell?_alloc_lt _ _ _ (by rw [block_of_add]; exact h1)]; exact h2
  case c2 => exact flat_one L
  case c3 => have := HN.out; unfold maxLen; omega
  case c4 => have := HN.out; omega
  case c5 => simp
  intro v1 w1 hown hgrow hnil _
  have hown : w1.ownsRow w.heap.size 36 2 v1 n (flat L) := by simpa using hown
  obtain ⟨g, cap, rfl, hg, hlen, hmax, hK⟩ := Kr.of_own hown (fun e => hnil e)
  have HB1 : Hid (Below w.heap.size w w1) := (bl_al (Below.refl _ _) _).grown hgrow (by simp) (fun q hq => by simp [Value.ownBlock] at hq; omega)
  have HP : Hid (Part w g cap 1 L w1) := by
    refine ⟨L.take 1, Std.refl ?_, by rw [List.take_append_drop]; exact hK, HB1.out⟩
    cases L with
    | nil => exact List.Pairwise.nil
    | cons a t => simp
  have HG : Hid (w.heap.size ≤ g) := hg
  have HC : Hid (L.length = n ∧ cap ≤ maxLen) := ⟨hlen, hmax⟩
  clear hown hgrow hnil hK HI HZ0 HZ1 HZ2 hg hlen hmax
  go_wp2_with fail
  go_loopg [4, 5, 6] n (fun k iv _ _ wr => ∃ i : Nat, 1 ≤ i ∧ n ≤ i + k ∧ i + k ≤ n + 1 ∧ iv = .int .i64 (i : Int) ∧ Part w g cap i L wr)
  case atStart => exact ⟨1, by omega, by omega, by omega, rfl, HP.out⟩
  case round =>
    obtain ⟨i, hi1, hk, hk2, rfl, hpt⟩ := hrel
    have HPt := Lib.hid hpt
    have h9 := HN.out
    clear hpt HP
    by_cases hlt : i < n
    · have hx : L[i]? = some (L[i]'(by rw [HL.out.1]; exact hlt)) := List.getElem?_eq_getElem _
      generalize L[i]'(by rw [HL.out.1]; exact hlt) = x at hx
      have HX := Lib.hid hx
      have HD := Lib.hid (HPt.out.down hx)
      have HK : Hid (n ≤ i + gk ∧ i + gk ≤ n + 1 ∧ 1 ≤ i) := ⟨hk, hk2, hi1⟩
      have hi : (i : Int) < (n : Int) := by omega
      have h0 : (0 : Int) ≤ (i : Int) := by omega
      have wi : IntKind.i64.wrap ((i : Int) + 1) = (i : Int) + 1 := by rw [IntWalk.i64_in _ (by omega)]
      clear hk hk2 hi1 hx HPt h9
      go_wp2_with fail
      go_loopg [5, 6] i (fun m kv _ wz => m ≤ i ∧ kv = .int .i64 (m : Int) ∧ Down w g cap i m x L wz)
      case atStart => exact ⟨Nat.le_refl _, rfl, HD.out⟩
      case round =>
        obtain ⟨hm, rfl, hd⟩ := hrel
        have HD2 := Lib.hid hd
        clear hd HD
        rcases gk with _ | m
        · have HPn := Lib.hid (HD2.out.done HX.out (Or.inl rfl))
          clear HD2
          rw [show ((0 : Nat) : Int) = 0 from rfl]
          go_upto_region 6 with fail
          refine wp_region_held_drew (S := fun w' => True) (by kernel_rfl) ?_ (fun hHeld => ?_)
          · (try dsimp only); (try trivial)
          refine wpAnyH_take (i := 0) (oi := _) (v := ?_) (by simp only [List.getElem?_toArray, List.getElem?_cons_zero]; rfl) (by kernel_rfl) (by kernel_rfl) (by kernel_rfl) (by exact fun _ _ _ h => h) (Or.inl ⟨by rfl, ?_⟩) (by assumption) ?_
          rotate_left 1
          · (intro w hSw; (try dsimp only at hSw); go_simp; try with_reducible rfl)
          try simp only [Act.put, List.setIfInBounds_toArray, List.set_cons_zero, List.set_cons_succ]
          refine wpAnyH_take (i := 1) (oi := _) (v := ?_) (by simp only [List.getElem?_toArray, List.getElem?_cons_succ, List.getElem?_cons_zero]; rfl) (by kernel_rfl) (by kernel_rfl) (by kernel_rfl) (by exact fun _ _ _ h => h) (Or.inl ⟨by rfl, ?_⟩) (by assumption) ?_
          rotate_left 1
          · (intro w hSw; (try dsimp only at hSw); go_simp; try with_reducible rfl)
          try simp only [Act.put, List.setIfInBounds_toArray, List.set_cons_zero, List.set_cons_succ]
          refine wpAnyH_take (i := 2) (oi := _) (v := ?_) (by simp only [List.getElem?_toArray, List.getElem?_cons_succ, List.getElem?_cons_zero]; rfl) (by kernel_rfl) (by kernel_rfl) (by kernel_rfl) (by exact fun _ _ _ h => h) (Or.inl ⟨by rfl, ?_⟩) (by assumption) ?_
          rotate_left 1
          · (intro w hSw; (try dsimp only at hSw); go_simp; try with_reducible rfl)
          try simp only [Act.put, List.setIfInBounds_toArray, List.set_cons_zero, List.set_cons_succ]
          refine wpAnyH_take (i := 3) (oi := _) (v := undef) (by simp only [List.getElem?_toArray, List.getElem?_cons_succ, List.getElem?_cons_zero]; rfl) (by kernel_rfl) (by kernel_rfl) (by kernel_rfl) (by exact fun _ _ _ h => h) (Or.inr ⟨by rfl, rfl⟩) (by assumption) ?_
          try simp only [Act.put, List.setIfInBounds_toArray, List.set_cons_zero, List.set_cons_succ]
          refine wpAnyH_take (i := 4) (oi := _) (v := undef) (by simp only [List.getElem?_toArray, List.getElem?_cons_succ, List.getElem?_cons_zero]; rfl) (by kernel_rfl) (by kernel_rfl) (by kernel_rfl) (by exact fun _ _ _ h => h) (Or.inr ⟨by rfl, rfl⟩) (by assumption) ?_
          try simp only [Act.put, List.setIfInBounds_toArray, List.set_cons_zero, List.set_cons_succ]
          refine wpAnyH_take (i := 5) (oi := _) (v := undef) (by simp only [List.getElem?_toArray, List.getElem?_cons_succ, List.getElem?_cons_zero]; rfl) (by kernel_rfl) (by kernel_rfl) (by kernel_rfl) (by exact fun _ _ _ h => h) (Or.inr ⟨by rfl, rfl⟩) (by assumption) ?_
          try simp only [Act.put, List.setIfInBounds_toArray, List.set_cons_zero, List.set_cons_succ]
          refine wpAnyH_take (i := 6) (oi := _) (v := undef) (by simp only [List.getElem?_toArray, List.getElem?_cons_succ, List.getElem?_cons_zero]; rfl) (by kernel_rfl) (by kernel_rfl) (by kernel_rfl) (by exact fun _ _ _ h => h) (Or.inr ⟨by rfl, rfl⟩) (by assumption) ?_
          try simp only [Act.put, List.setIfInBounds_toArray, List.set_cons_zero, List.set_cons_succ]
          refine wpAnyH_take (i := 7) (oi := _) (v := undef) (by simp only [List.getElem?_toArray, List.getElem?_cons_succ, List.getElem?_cons_zero]; rfl) (by kernel_rfl) (by kernel_rfl) (by kernel_rfl) (by exact fun _ _ _ h => h) (Or.inr ⟨by rfl, rfl⟩) (by assumption) ?_
          try simp only [Act.put, List.setIfInBounds_toArray, List.set_cons_zero, List.set_cons_succ]
          refine wpAnyH_take (i := 8) (oi := _) (v := undef) (by simp only [List.getElem?_toArray, List.getElem?_cons_succ, List.getElem?_cons_zero]; rfl) (by kernel_rfl) (by kernel_rfl) (by kernel_rfl) (by exact fun _ _ _ h => h) (Or.inr ⟨by rfl, rfl⟩) (by assumption) ?_
          try simp only [Act.put, List.setIfInBounds_toArray, List.set_cons_zero, List.set_cons_succ]
          refine wpAnyH_take (i := 9) (oi := _) (v := undef) (by simp only [List.getElem?_toArray, List.getElem?_cons_succ, List.getElem?_cons_zero]; rfl) (by kernel_rfl) (by kernel_rfl) (by kernel_rfl) (by exact fun _ _ _ h => h) (Or.inr ⟨by rfl, rfl⟩) (by assumption) ?_
          try simp only [Act.put, List.setIfInBounds_toArray, List.set_cons_zero, List.set_cons_succ]
          refine wpAnyH_take (i := 10) (oi := _) (v := undef) (by simp only [List.getElem?_toArray, List.getElem?_cons_succ, List.getElem?_cons_zero]; rfl) (by kernel_rfl) (by kernel_rfl) (by kernel_rfl) (by exact fun _ _ _ h => h) (Or.inr ⟨by rfl, rfl⟩) (by assumption) ?_
          try simp only [Act.put, List.setIfInBounds_toArray, List.set_cons_zero, List.set_cons_succ]
          refine wpAnyH_take (i := 11) (oi := _) (v := undef) (by simp only [List.getElem?_toArray, List.getElem?_cons_succ, List.getElem?_cons_zero]; rfl) (by kernel_rfl) (by kernel_rfl) (by kernel_rfl) (by exact fun _ _ _ h => h) (Or.inr ⟨by rfl, rfl⟩) (by assumption) ?_
          try simp only [Act.put, List.setIfInBounds_toArray, List.set_cons_zero, List.set_cons_succ]
          refine wpAnyH_take (i := 12) (oi := _) (v := undef) (by simp only [List.getElem?_toArray, List.getElem?_cons_succ, List.getElem?_cons_zero]; rfl) (by kernel_rfl) (by kernel_rfl) (by kernel_rfl) (by exact fun _ _ _ h => h) (Or.inr ⟨by rfl, rfl⟩) (by assumption) ?_
          try simp only [Act.put, List.setIfInBounds_toArray, List.set_cons_zero, List.set_cons_succ]
          refine wpAnyH_take (i := 13) (oi := _) (v := undef) (by simp only [List.getElem?_toArray, List.getElem?_cons_succ, List.getElem?_cons_zero]; rfl) (by kernel_rfl) (by kernel_rfl) (by kernel_rfl) (by exact fun _ _ _ h => h) (Or.inr ⟨by rfl, rfl⟩) (by assumption) ?_
          try simp only [Act.put, List.setIfInBounds_toArray, List.set_cons_zero, List.set_cons_succ]
          refine wpAnyH_take (i := 14) (oi := _) (v := undef) (by simp only [List.getElem?_toArray, List.getElem?_cons_succ, List.getElem?_cons_zero]; rfl) (by kernel_rfl) (by kernel_rfl) (by kernel_rfl) (by exact fun _ _ _ h => h) (Or.inr ⟨by rfl, rfl⟩) (by assumption) ?_
          try simp only [Act.put, List.setIfInBounds_toArray, List.set_cons_zero, List.set_cons_succ]
          refine wpAnyH_take (i := 15) (oi := _) (v := ?_) (by simp only [List.getElem?_toArray, List.getElem?_cons_succ, List.getElem?_cons_zero]; rfl) (by kernel_rfl) (by kernel_rfl) (by kernel_rfl) (by exact fun _ _ _ h => h) (Or.inl ⟨by rfl, ?_⟩) (by assumption) ?_
          rotate_left 1
          · (intro w hSw; (try dsimp only at hSw); go_simp; try with_reducible rfl)
          try simp only [Act.put, List.setIfInBounds_toArray, List.set_cons_zero, List.set_cons_succ]
          refine wpAnyH_done (by kernel_rfl) ?_ _
          clear hHeld
          go_wp2_with fail
          obtain ⟨k, rfl⟩ : ∃ k, gk = k + 1 := ⟨gk - 1, by have := HK.out; omega⟩
          go_roundg k
          case measure => omega
          case rel => exact ⟨i + 1, by omega, by have := HK.out; omega, by have := HK.out; omega, by simp, HPn.out.drew⟩
        · obtain ⟨y, hyP, cy0, cy1, cx0, cx1⟩ := HD2.out.see
          have HY := Lib.hid hyP
          obtain ⟨g0, hgW⟩ : ∃ u, u = g := ⟨g, rfl⟩
          have zg : g < wr.heap.size := by
            obtain ⟨P, Q, _, _, _, hK, _⟩ := HD2.out; exact hK.lt
          have fg : ∀ j, wr.frozen? ⟨g, j, none⟩ = false := by
            obtain ⟨P, Q, _, _, _, hK, _⟩ := HD2.out; exact hK.frz
          obtain ⟨q, hq⟩ : ∃ q, q = m + 1 := ⟨_, rfl⟩
          have HQ := Lib.hid hq
          have k0 : (0 : Int) < (q : Int) := by omega
          have k0n : 0 < q := by omega
          have k1 : (0 : Int) ≤ (q : Int) := by omega
          have k2 : (q : Int) < (n : Int) := by omega
          have k3 : (0 : Int) ≤ (m : Int) := by omega
          have k4 : (m : Int) < (n : Int) := by omega
          have wj : IntKind.i64.wrap ((q : Int) - 1) = (m : Int) := by rw [IntWalk.i64_in _ (by have := HN.out; omega)]; omega
          have HM : Hid (m + 1 ≤ i) := hm
          have e1 : ¬ (q * 2 = m * 2 + 1) := by omega
          have e2 : ¬ (m * 2 + 1 = q * 2) := by omega
          have e3 : ¬ (q * 2 + 1 = m * 2) := by omega
          have e4 : ¬ (m * 2 = q * 2 + 1) := by omega
          have e5 : ¬ (q = m) := by omega
          have e6 : ¬ (m = q) := by omega
          rw [← hq] at cx0 cx1 ⊢
          clear hyP hq hm hgW g0
          go_upto_region 6 with fail
          go_region_held3 (fun w' => w'.cell? ⟨g, m * 2, none⟩ = some (.int .u64 (y.1 : Int)) ∧ w'.cell? ⟨g, q * 2, none⟩ = some (.int .u64 (x.1 : Int))) (first | (simp [*, go_sem]; done)) (fail)
          rename_i hHeld
          clear hHeld
          by_cases hc : x.1 < y.1
          · go_wp2_with fail
            go_roundg m
            case measure => omega
            case rel =>
              refine ⟨by have := HM.out; omega, rfl, ?_⟩
              have k := (HD2.out.swap HY.out hc HG.out (Below.refl _ _)).alloc (.cells #[.int .u64 (x.1 : Int), .int .i64 x.2] 36)
              rw [← HQ.out] at k
              exact k.drew
          · have HPn := Lib.hid (HD2.out.done HX.out (Or.inr ⟨y, ⟨m, rfl, HY.out⟩, by omega⟩))
            clear HD2
            go_wp2_with fail
            obtain ⟨k, rfl⟩ : ∃ k, gk = k + 1 := ⟨gk - 1, by have := HK.out; omega⟩
            go_roundg k
            case measure => omega
            case rel => exact ⟨i + 1, by omega, by have := HK.out; omega, by have := HK.out; omega, by simp, HPn.out.drew⟩
    · have hi : ¬ (i : Int) < (n : Int) := by omega
      have HS : Hid (∀ W, Part w g cap i L W → Sorted w n L (.returned (.slice (some ⟨g, 0, none⟩) n cap)) W) := fun W hW => by
        obtain ⟨S, hS, hK', hB'⟩ := hW
        have hl := HL.out.1
        rw [List.take_of_length_le (by omega)] at hS
        rw [List.drop_of_length_le (by omega), List.append_nil] at hK'
        have hSl : S.length = n := by rw [hS.perm.length_eq]; exact hl
        refine ⟨⟨_, S, rfl, ?_, hS⟩, hB'⟩
        rw [← hSl]; exact hK'.own HG.out HC.out.2
      go_wp2_with fail
      go_returns
      exact HS.out _ HPt.out
set_option maxRecDepth 20000 in
set_option maxHeartbeats 8000000 in
theorem rby_none (w : World) : Calls Try.prog 14 #[.slice none 0 0] w (Sorted w 0 []) := by
  obtain ⟨i0, hi, hz0, hz1, hz2⟩ := info_parts kd_info
  have HI := Lib.hid hi
  clear hi hz0 hz1 hz2
  go_enter Try.func14, Try.ntmps14
  go_wp2_with (first
    | (at_builtin; refine wpList_append_own_none rfl _ _ 22 rfl w.heap.size 36 i0 2 Try.underlying22 HI.out _ _ _ rfl (own_none w _) rfl ?_)
    | fail)
  go_wp2_with fail
  go_loopg [4, 5, 6] 0 (fun _ iv _ _ wr => iv = .int .i64 1 ∧ wr = w.alloc (.cells #[] 36))
  case atStart => exact ⟨rfl, rfl⟩
  case round =>
    obtain ⟨rfl, rfl⟩ := hrel
    have HS : Hid (Sorted w 0 [] (.returned (.slice (some ⟨w.heap.size, 0, none⟩) 0 0)) (w.alloc (.cells #[] 36))) :=
      ⟨⟨_, [], rfl, own_none w _, Std.refl List.Pairwise.nil⟩, bl_al (Below.refl _ _) _⟩
    go_wp2_with fail
    go_returns
    exact HS.out
theorem rby_any (A : Option Addr) (n c : Nat) (L : List (Nat × Int)) (hn : n ≤ 8796093022208) (hc : A = none → n = 0 ∧ c = 0) (w : World) (hL : Ks w A n L) :
    Calls Try.prog 14 #[.slice A n c] w (Sorted w n L) := by
  rcases A with _ | A
  · obtain ⟨rfl, rfl⟩ := hc rfl
    rw [List.length_eq_zero_iff.1 hL.1]
    exact rby_none w
  · exact rby_some A n c L hn w hL
end Go.Proofs.Ytnedljclkhpdpaa
