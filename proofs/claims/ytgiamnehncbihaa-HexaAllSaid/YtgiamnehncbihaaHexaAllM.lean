/- The text of any number, and what any text says, is the document's: at any commit whose code this is, for every number and every string, whatever the library's MaxLen holds. -/
import Derived.Test.YtgiamnehncbihaaRefText
import Derived.Test.YtgiamnehncbihaaHexBad
import Derived.Test.YtgiamnehncbihaaLate
import Derived.Test.YtgiamnehncbihaaRefuses
import Derived.Test.YtgiamnehncbihaaHexLaw
import Derived.ChangeMaps5
namespace Go.Proofs.Ytgiamnehncbihaa
open Go.RowKit
/-- What the document's Parse makes of bytes. -/
def docd (b : Nat) : Option Nat := if 48 ≤ b ∧ b ≤ 57 then some (b - 48) else if 97 ≤ b ∧ b ≤ 102 then some (b - 87) else none
def docm (V : Nat) : List UInt8 → Nat
  | [] => V
  | b :: bs => docm (match docd b.toNat with | some d => (V * 16 + d) % 340282366920938463463374607431768211456 | none => V) bs
/-- What stays beside the number that is read. -/
structure Rest (w W : World) : Prop where
  r0 : W.cell? ⟨w.heap.size, 0, none⟩ = some (.int .i64 0)
  r1 : W.cell? ⟨w.heap.size, 1, none⟩ = some (.int .u64 0)
  r2 : W.cell? ⟨w.heap.size, 2, none⟩ = some (.bool false)
  f0 : ∀ j, W.frozen? ⟨w.heap.size, j, none⟩ = false
  f1 : ∀ j, W.frozen? ⟨w.heap.size + 1, j, none⟩ = false
  zz : w.heap.size + 1 < W.heap.size
  below : Below w.heap.size w W
section
variable {P : Program} {ops : Array Oper} {Q : Exit → Act → World → Prop} {md : Region.Mode} {C : World → Prop} {k : Nat}
/-- Two operations may come up: carry out each. -/
theorem wpAnyK_two {i j : Nat} {o o' : Oper} {fuel : Nat} {listed : Array Bool} {a : Act} {w : World} (hr : Region.ready md ops listed = [i, j]) (ho : ops[i]? = some o) (ho' : ops[j]? = some o')
    (h : ∀ K' : Act → World → Prop, Shut (∀ a w, ((listed.setIfInBounds i true).getD k true = false → C w) → (((listed.setIfInBounds i true).getD k true = false → C w) → wpAnyK P md ops Q C k fuel (listed.setIfInBounds i true) a w) → K' a w) →
      if Region.wanted o (yielded ops a.tmps) = true then Oper.wp P o a w K' Q else K' (a.put o.dst undef) w)
    (h' : ∀ K' : Act → World → Prop, Shut (∀ a w, ((listed.setIfInBounds j true).getD k true = false → C w) → (((listed.setIfInBounds j true).getD k true = false → C w) → wpAnyK P md ops Q C k fuel (listed.setIfInBounds j true) a w) → K' a w) →
      if Region.wanted o' (yielded ops a.tmps) = true then Oper.wp P o' a w K' Q else K' (a.put o'.dst undef) w) : wpAnyK P md ops Q C k (fuel + 1) listed a w := by
  refine ⟨fun h0 => (by rw [hr] at h0; cases h0), fun m hm => ?_⟩
  rw [hr] at hm
  rcases List.mem_cons.1 hm with rfl | hm
  · exact wpOp_step ho (fun K' hK => h K' (fun a w hC hW => hK a w ⟨hC, hW hC⟩))
  · rcases List.mem_cons.1 hm with rfl | hm
    · exact wpOp_step ho' (fun K' hK => h' K' (fun a w hC hW => hK a w ⟨hC, hW hC⟩))
    · cases hm
end
theorem doc_words (H L d : Nat) (_hH : H < 18446744073709551616) (hL : L < 18446744073709551616) (hd : d < 16) : ∃ Uh Ul q H2 L2 : Nat, IntKind.u64.wrap ((H : Int) * 16) = (Uh : Int) ∧ IntKind.u64.wrap ((L : Int) * 16) = (Ul : Int) ∧ (L : Int) / 1152921504606846976 = (q : Int) ∧
    bits .or .u64 (Uh : Int) (q : Int) = (H2 : Int) ∧ bits .or .u64 (Ul : Int) (d : Int) = (L2 : Int) ∧ H2 < 18446744073709551616 ∧ L2 < 18446744073709551616 ∧ ((H * 18446744073709551616 + L) * 16 + d) % 340282366920938463463374607431768211456 = H2 * 18446744073709551616 + L2 := by
  refine ⟨H * 16 % 18446744073709551616, L * 16 % 18446744073709551616, L / 1152921504606846976, H * 16 % 18446744073709551616 + L / 1152921504606846976, L * 16 % 18446744073709551616 + d, ?_, ?_, ?_, ?_, ?_, ?_, ?_, ?_⟩
  · rw [wrap_u64]; omega
  · rw [wrap_u64]; omega
  · omega
  · exact or_digit _ _ (by omega) (by omega) (by omega)
  · exact or_digit _ _ (by omega) (by omega) hd
  · omega
  · omega
  · omega
theorem Rest.set {w W : World} (h : Rest w W) (a b : Value) : Rest w ((W.setCell ⟨w.heap.size + 1, 0, none⟩ a).setCell ⟨w.heap.size + 1, 1, none⟩ b) := by
  have h0 := h.r0; have h1 := h.r1; have h2 := h.r2; have g0 := h.f0; have g1 := h.f1; have z := h.zz
  refine ⟨?_, ?_, ?_, ?_, ?_, ?_, ?_⟩
  · simp [go_sem, *]
  · simp [go_sem, *]
  · simp [go_sem, *]
  · intro j; simp [go_sem, *]
  · intro j; simp [go_sem, *]
  · simpa using z
  · exact Below.setCell (Below.setCell h.below (by simp) _) (by simp) _
set_option maxRecDepth 20000 in
set_option maxHeartbeats 16000000 in
theorem rparse_core (s : ByteArray) (c0 : Int) (hs hl vh vl ee oh ol : Int) (U : ByteArray) (r : Bool) (n0 : 0 < s.size) (n1 : s.size ≤ 40) (w : World)
    (hh : hs = ((docm 0 s.data.toList / 18446744073709551616 : Nat) : Int)) (hll : hl = ((docm 0 s.data.toList % 18446744073709551616 : Nat) : Int))
    (hix0 : ∀ W : World, (Instr.index 9 (.string s) (.int .i64 0)).run Try.prog W = .ok (.int .u8 c0) W)
    (CS : ∀ W, Calls Try.prog 47 #[.bool (c0 == 45), .agg #[.int .u64 0, .int .u64 0, .int .u64 hs, .int .u64 hl]] W fun e w' => e = .returned (.agg #[.int .i64 vh, .int .u64 vl, .int .i64 ee]) ∧ Below W.heap.size W w')
    (CT : ∀ W, Calls Try.prog 16 #[.agg #[.int .i64 vh, .int .u64 vl]] W fun e w' => e = .returned (.string U) ∧ Below W.heap.size W w')
    (cs : ee = 3 ∧ r = false ∧ oh = 0 ∧ ol = 0 ∨ ee = 0 ∧ (U.toList == s.toList) = false ∧ r = false ∧ oh = 0 ∧ ol = 0 ∨ ee = 0 ∧ (U.toList == s.toList) = true ∧ r = true ∧ vh = oh ∧ vl = ol) :
    Calls Try.prog 14 #[.string s] w fun e w' => e = .returned (.agg #[.int .i64 oh, .int .u64 ol, .bool r]) ∧ Below w.heap.size w w' := by
  have KS := Lib.hid CS; have KT := Lib.hid CT; have HCS := Lib.hid cs; have HH := Lib.hid hh; have HL := Lib.hid hll
  clear CS CT cs hh hll
  have n2 : ¬ (40 : Int) < (s.size : Int) := by omega
  go_enter Try.func14, Try.ntmps14
  go_wp2_with fail
  have hst : Rest w ((w.alloc (.cells #[.int .i64 0, .int .u64 0, .bool false] 29)).alloc (.cells #[.int .u64 0, .int .u64 0] 69)) := by
    refine ⟨?_, ?_, ?_, ?_, ?_, ?_, ?_⟩
    · simp [go_sem]
    · simp [go_sem]
    · simp [go_sem]
    · intro j; simp only [frozen?_alloc_cells]; simp [World.frozen?]
    · intro j; simp only [frozen?_alloc_cells]; simp [World.frozen?]
    · simp
    · exact bl_al (bl_al (Below.refl _ _) _) _
  go_loopg [4] s.size (fun g ii wr => ∃ i H L : Nat, ii = .int .i64 (i : Int) ∧ i + g = s.size ∧ H < 18446744073709551616 ∧ L < 18446744073709551616 ∧ docm 0 s.data.toList = docm (H * 18446744073709551616 + L) (s.data.toList.drop i) ∧ wr.cell? ⟨w.heap.size + 1, 0, none⟩ = some (.int .u64 (H : Int)) ∧ wr.cell? ⟨w.heap.size + 1, 1, none⟩ = some (.int .u64 (L : Int)) ∧ Rest w wr)
  case atStart => exact ⟨0, 0, 0, rfl, by omega, by decide, by decide, rfl, by simp [go_sem], by simp [go_sem], hst⟩
  case round =>
    obtain ⟨i, H, L, rfl, hi, hH, hL, hd, c1, c0_, hR⟩ := hrel
    have HD := Lib.hid hd
    clear hd hst
    rcases gk with _ | j
    · have i0 : ¬ (i : Int) < (s.size : Int) := by omega
      have eH : hs = (H : Int) := by
        rw [HH.out, HD.out, List.drop_of_length_le (by show s.size ≤ i; omega)]
        show ((((H * 18446744073709551616 + L) / 18446744073709551616 : Nat)) : Int) = _
        omega
      have eL : hl = (L : Int) := by
        rw [HL.out, HD.out, List.drop_of_length_le (by show s.size ≤ i; omega)]
        show ((((H * 18446744073709551616 + L) % 18446744073709551616 : Nat)) : Int) = _
        omega
      subst eH; subst eL
      clear HD HH HL hH hL
      obtain ⟨r0, r1, r2, f0, f1, zz, hbl⟩ := hR
      have HB := Lib.hid hbl
      clear hbl
      go_upto_region 14 with fail
      have z0 : (0 : Int) < (s.size : Int) := by omega
      refine wp_region_late_drew (fun w' => w'.cell? ⟨w.heap.size + 1, 0, none⟩ = some (.int .u64 (H : Int)) ∧ w'.cell? ⟨w.heap.size + 1, 1, none⟩ = some (.int .u64 (L : Int))) 12 (by kernel_rfl) ?_ (fun hHeld => ?_)
      · (try dsimp only); simp [go_sem, *]
      refine wpAnyK_take (i := 0) (oi := _) (v := ?_) (by simp only [List.getElem?_toArray, List.getElem?_cons_zero]; rfl) (by kernel_rfl) (by kernel_rfl) (by kernel_rfl) (by kernel_rfl) (by kernel_rfl) (by exact fun _ _ _ h => h) (Or.inl ⟨by rfl, ?_⟩) hHeld ?_
      rotate_left 1
      · (intro w hSw; (try dsimp only at hSw); go_simp; try with_reducible rfl)
      try simp only [Act.put, List.setIfInBounds_toArray, List.set_cons_zero, List.set_cons_succ]
      refine wpAnyK_take (i := 1) (oi := _) (v := ?_) (by simp only [List.getElem?_toArray, List.getElem?_cons_succ, List.getElem?_cons_zero]; rfl) (by kernel_rfl) (by kernel_rfl) (by kernel_rfl) (by kernel_rfl) (by kernel_rfl) (by exact fun _ _ _ h => h) (Or.inl ⟨by rfl, ?_⟩) hHeld ?_
      rotate_left 1
      · (intro w hSw; (try dsimp only at hSw); go_simp; try with_reducible rfl)
      try simp only [Act.put, List.setIfInBounds_toArray, List.set_cons_zero, List.set_cons_succ]
      refine wpAnyK_take (i := 2) (oi := _) (v := ?_) (by simp only [List.getElem?_toArray, List.getElem?_cons_succ, List.getElem?_cons_zero]; rfl) (by kernel_rfl) (by kernel_rfl) (by kernel_rfl) (by kernel_rfl) (by kernel_rfl) (by exact fun _ _ _ h => h) (Or.inl ⟨by rfl, ?_⟩) hHeld ?_
      rotate_left 1
      · (intro w hSw; (try dsimp only at hSw); go_simp; try with_reducible rfl)
      try simp only [Act.put, List.setIfInBounds_toArray, List.set_cons_zero, List.set_cons_succ]
      refine wpAnyK_take (i := 3) (oi := _) (v := ?_) (by simp only [List.getElem?_toArray, List.getElem?_cons_succ, List.getElem?_cons_zero]; rfl) (by kernel_rfl) (by kernel_rfl) (by kernel_rfl) (by kernel_rfl) (by kernel_rfl) (by exact fun _ _ _ h => h) (Or.inl ⟨by rfl, ?_⟩) hHeld ?_
      rotate_left 1
      · (intro w hSw; (try dsimp only at hSw); go_simp; try with_reducible rfl)
      try simp only [Act.put, List.setIfInBounds_toArray, List.set_cons_zero, List.set_cons_succ]
      refine wpAnyK_take (i := 4) (oi := _) (v := ?_) (by simp only [List.getElem?_toArray, List.getElem?_cons_succ, List.getElem?_cons_zero]; rfl) (by kernel_rfl) (by kernel_rfl) (by kernel_rfl) (by kernel_rfl) (by kernel_rfl) (by exact fun _ _ _ h => h) (Or.inl ⟨by rfl, ?_⟩) hHeld ?_
      rotate_left 1
      · (intro w hSw; (try dsimp only at hSw); go_simp; try with_reducible rfl)
      try simp only [Act.put, List.setIfInBounds_toArray, List.set_cons_zero, List.set_cons_succ]
      refine wpAnyK_take (i := 5) (oi := _) (v := ?_) (by simp only [List.getElem?_toArray, List.getElem?_cons_succ, List.getElem?_cons_zero]; rfl) (by kernel_rfl) (by kernel_rfl) (by kernel_rfl) (by kernel_rfl) (by kernel_rfl) (by exact fun _ _ _ h => h) (Or.inl ⟨by rfl, ?_⟩) hHeld ?_
      rotate_left 1
      · (intro w hSw; (try dsimp only at hSw); go_simp; try with_reducible rfl)
      try simp only [Act.put, List.setIfInBounds_toArray, List.set_cons_zero, List.set_cons_succ]
      refine wpAnyK_take (i := 6) (oi := _) (v := ?_) (by simp only [List.getElem?_toArray, List.getElem?_cons_succ, List.getElem?_cons_zero]; rfl) (by kernel_rfl) (by kernel_rfl) (by kernel_rfl) (by kernel_rfl) (by kernel_rfl) (by exact fun _ _ _ h => h) (Or.inl ⟨by rfl, ?_⟩) hHeld ?_
      rotate_left 1
      · (intro w hSw; (try dsimp only at hSw); go_simp; try with_reducible rfl)
      try simp only [Act.put, List.setIfInBounds_toArray, List.set_cons_zero, List.set_cons_succ]
      refine wpAnyK_take (i := 7) (oi := _) (v := ?_) (by simp only [List.getElem?_toArray, List.getElem?_cons_succ, List.getElem?_cons_zero]; rfl) (by kernel_rfl) (by kernel_rfl) (by kernel_rfl) (by kernel_rfl) (by kernel_rfl) (by exact fun _ _ _ h => h) (Or.inl ⟨by rfl, ?_⟩) hHeld ?_
      rotate_left 1
      · (intro w hSw; (try dsimp only at hSw); go_simp; try with_reducible rfl)
      try simp only [Act.put, List.setIfInBounds_toArray, List.set_cons_zero, List.set_cons_succ]
      refine wpAnyK_take (i := 8) (oi := _) (v := ?_) (by simp only [List.getElem?_toArray, List.getElem?_cons_succ, List.getElem?_cons_zero]; rfl) (by kernel_rfl) (by kernel_rfl) (by kernel_rfl) (by kernel_rfl) (by kernel_rfl) (by exact fun _ _ _ h => h) (Or.inl ⟨by rfl, ?_⟩) hHeld ?_
      rotate_left 1
      · (intro w hSw; (try dsimp only at hSw); go_simp; try with_reducible rfl)
      try simp only [Act.put, List.setIfInBounds_toArray, List.set_cons_zero, List.set_cons_succ]
      refine wpAnyK_take (i := 9) (oi := _) (v := ?_) (by simp only [List.getElem?_toArray, List.getElem?_cons_succ, List.getElem?_cons_zero]; rfl) (by kernel_rfl) (by kernel_rfl) (by kernel_rfl) (by kernel_rfl) (by kernel_rfl) (by exact fun _ _ _ h => h) (Or.inl ⟨by rfl, ?_⟩) hHeld ?_
      rotate_left 1
      · (intro w hSw; (try dsimp only at hSw); go_simp; try with_reducible rfl)
      try simp only [Act.put, List.setIfInBounds_toArray, List.set_cons_zero, List.set_cons_succ]
      refine wpAnyK_two (i := 10) (j := 11) (o := _) (o' := _) (by kernel_rfl) (by simp only [List.getElem?_toArray, List.getElem?_cons_succ, List.getElem?_cons_zero]; rfl) (by simp only [List.getElem?_toArray, List.getElem?_cons_succ, List.getElem?_cons_zero]; rfl) (fun K hK => ?_) (fun K hK => ?_)
      · go_simp
        (with_reducible refine (KS.out _).mono ?_); rintro e w1 ⟨rfl, hb⟩
        have zz0 : w.heap.size < wr.heap.size := by omega
        obtain ⟨hcl, hfr⟩ := bcell_drew hb
        have y1 : w1.cell? ⟨w.heap.size + 1, 0, none⟩ = some (.int .u64 (H : Int)) := by rw [hcl _ _ (by first | exact zz | (simp; omega))]; first | exact c1 | (simp [go_sem, *]; done)
        have y0 : w1.cell? ⟨w.heap.size + 1, 1, none⟩ = some (.int .u64 (L : Int)) := by rw [hcl _ _ (by first | exact zz | (simp; omega))]; first | exact c0_ | (simp [go_sem, *]; done)
        have q0 : w1.cell? ⟨w.heap.size, 0, none⟩ = some (.int .i64 0) := by rw [hcl _ _ (by first | omega | (simp; omega))]; first | exact r0 | (simp [go_sem, *]; done)
        have q1 : w1.cell? ⟨w.heap.size, 1, none⟩ = some (.int .u64 0) := by rw [hcl _ _ (by first | omega | (simp; omega))]; first | exact r1 | (simp [go_sem, *]; done)
        have q2 : w1.cell? ⟨w.heap.size, 2, none⟩ = some (.bool false) := by rw [hcl _ _ (by first | omega | (simp; omega))]; first | exact r2 | (simp [go_sem, *]; done)
        have g0 : ∀ j, w1.frozen? ⟨w.heap.size, j, none⟩ = false := fun j => by rw [hfr _ _ (by first | omega | (simp; omega))]; first | exact f0 j | (simp only [frozen?_alloc_cells]; exact f0 j)
        have zw : w.heap.size < w1.heap.size := by have hz := hb.size; (try simp at hz); omega
        have zv : w.heap.size + 1 < w1.heap.size := by have hz := hb.size; (try simp at hz); omega
        have HB1 : Hid (Below w.heap.size w w1) := bl_trans (by repeat (first | with_reducible exact HB.out | with_reducible refine bl_al ?_ _ | with_reducible apply Below.drew)) hb
        clear hb hcl hfr
        refine hK.out _ _ (fun _ => (by (try dsimp only); first | (simp [*, go_sem]; done) | (simp [*, go_sem, World.cell?_alloc_past]; done))) (fun hHeldN => ?_)
        replace hHeld := hHeldN (by kernel_rfl)
        clear hK K hHeldN
        try simp only [Act.put, List.setIfInBounds_toArray, List.set_cons_zero, List.set_cons_succ]
        refine wpAnyK_one (i := 11) (o := _) (by kernel_rfl) (by simp only [List.getElem?_toArray, List.getElem?_cons_succ, List.getElem?_cons_zero]; rfl) (fun K hK => ?_)
        go_simp
        refine hK.out _ _ (fun _ => (by (try dsimp only); first | (simp [*, go_sem]; done) | (simp [*, go_sem, World.cell?_alloc_past]; done))) (fun hHeldN => ?_)
        replace hHeld := hHeldN (by kernel_rfl)
        clear hK K hHeldN
        try simp only [Act.put, List.setIfInBounds_toArray, List.set_cons_zero, List.set_cons_succ]
        refine wpAnyK_one (i := 12) (o := _) (by kernel_rfl) (by simp only [List.getElem?_toArray, List.getElem?_cons_succ, List.getElem?_cons_zero]; rfl) (fun K hK => ?_)
        go_simp
        refine hK.out _ _ (fun h => absurd (Eq.trans (Eq.symm h) (by kernel_rfl)) Bool.false_ne_true) (fun _ => ?_)
        clear hK K
        try simp only [Act.put, List.setIfInBounds_toArray, List.set_cons_zero, List.set_cons_succ]
        refine wpAnyK_done (by kernel_rfl) ?_ _
        clear hHeld
        go_upto_region 15 with fail
        refine name_world (P := fun W => Code.wp _ _ _ _ W) _ (fun Y hY => ?_)
        have nz : ¬ w1.heap.size = w.heap.size := by omega
        have v0 : Y.cell? ⟨w1.heap.size, 0, none⟩ = some (.int .i64 vh) := by rw [hY]; simp [go_sem, *]
        have v1 : Y.cell? ⟨w1.heap.size, 1, none⟩ = some (.int .u64 vl) := by rw [hY]; simp [go_sem, *]
        have v2 : Y.cell? ⟨w1.heap.size, 2, none⟩ = some (.int .i64 ee) := by rw [hY]; simp [go_sem, *]
        have q0 : Y.cell? ⟨w.heap.size, 0, none⟩ = some (.int .i64 0) := by rw [hY]; simp [go_sem, *]
        have q1 : Y.cell? ⟨w.heap.size, 1, none⟩ = some (.int .u64 0) := by rw [hY]; simp [go_sem, *]
        have q2 : Y.cell? ⟨w.heap.size, 2, none⟩ = some (.bool false) := by rw [hY]; simp [go_sem, *]
        have g0 : ∀ j, Y.frozen? ⟨w.heap.size, j, none⟩ = false := fun j => by rw [hY]; first | (simp only [go_sem, frozen?_alloc_cells]; exact g0 j) | (simp [go_sem, *]; done) | exact g0 j
        have zY : w.heap.size < Y.heap.size := by rw [hY]; simp; omega
        have zN : w1.heap.size < Y.heap.size := by rw [hY]; simp; try omega
        have HBY : Hid (Below w.heap.size w Y) := by rw [hY]; show Below _ _ _; exact (by repeat (first | with_reducible exact Hid.out (by assumption) | with_reducible refine Below.setCell ?_ (by first | (simp; done) | omega | (simp <;> omega)) _ | with_reducible refine bl_al ?_ _ | with_reducible apply Below.drew))
        clear hY
        have cs := HCS.out
        clear HCS
        rcases cs with ⟨rfl, rfl, rfl, rfl⟩ | ⟨rfl, hq, rfl, rfl, rfl⟩ | ⟨rfl, hq, rfl, rfl, rfl⟩
        · clear KT
          go_wp2_with fail
          refine bodyPost_ret (by simp [results, Try.results14, go_sem, *]; try rfl) rfl ?_
          exact ⟨rfl, by repeat (first | with_reducible exact Hid.out (by assumption) | with_reducible refine Below.setCell ?_ (by first | (simp; done) | omega | (simp <;> omega)) _ | with_reducible refine bl_al ?_ _ | with_reducible apply Below.drew)⟩
        · have CT := KT.out
          clear KT
          go_wp2_with fail
          (with_reducible refine (CT _).mono ?_); rintro e Z ⟨rfl, hb⟩
          obtain ⟨hcz, hfz⟩ := bcell hb
          have v0 : Z.cell? ⟨w1.heap.size, 0, none⟩ = some (.int .i64 vh) := by rw [hcz _ _ zN]; exact v0
          have v1 : Z.cell? ⟨w1.heap.size, 1, none⟩ = some (.int .u64 vl) := by rw [hcz _ _ zN]; exact v1
          have q0 : Z.cell? ⟨w.heap.size, 0, none⟩ = some (.int .i64 0) := by rw [hcz _ _ zY]; exact q0
          have q1 : Z.cell? ⟨w.heap.size, 1, none⟩ = some (.int .u64 0) := by rw [hcz _ _ zY]; exact q1
          have q2 : Z.cell? ⟨w.heap.size, 2, none⟩ = some (.bool false) := by rw [hcz _ _ zY]; exact q2
          have g0 : ∀ j, Z.frozen? ⟨w.heap.size, j, none⟩ = false := fun j => by rw [hfz _ _ zY]; exact g0 j
          have HBZ := Lib.hid (bl_trans HBY.out hb)
          clear hb hcz hfz HBY
          go_wp2_with fail
          refine bodyPost_ret (by simp [results, Try.results14, go_sem, *]; try rfl) rfl ?_
          exact ⟨rfl, by repeat (first | with_reducible exact Hid.out (by assumption) | with_reducible refine Below.setCell ?_ (by first | (simp; done) | omega | (simp <;> omega)) _ | with_reducible refine bl_al ?_ _ | with_reducible apply Below.drew)⟩
        · have CT := KT.out
          clear KT
          go_wp2_with fail
          (with_reducible refine (CT _).mono ?_); rintro e Z ⟨rfl, hb⟩
          obtain ⟨hcz, hfz⟩ := bcell hb
          have v0 : Z.cell? ⟨w1.heap.size, 0, none⟩ = some (.int .i64 vh) := by rw [hcz _ _ zN]; exact v0
          have v1 : Z.cell? ⟨w1.heap.size, 1, none⟩ = some (.int .u64 vl) := by rw [hcz _ _ zN]; exact v1
          have q0 : Z.cell? ⟨w.heap.size, 0, none⟩ = some (.int .i64 0) := by rw [hcz _ _ zY]; exact q0
          have q1 : Z.cell? ⟨w.heap.size, 1, none⟩ = some (.int .u64 0) := by rw [hcz _ _ zY]; exact q1
          have q2 : Z.cell? ⟨w.heap.size, 2, none⟩ = some (.bool false) := by rw [hcz _ _ zY]; exact q2
          have g0 : ∀ j, Z.frozen? ⟨w.heap.size, j, none⟩ = false := fun j => by rw [hfz _ _ zY]; exact g0 j
          have HBZ := Lib.hid (bl_trans HBY.out hb)
          clear hb hcz hfz HBY
          go_wp2_with fail
          refine bodyPost_ret (by simp [results, Try.results14, go_sem, *]; try rfl) rfl ?_
          exact ⟨rfl, by repeat (first | with_reducible exact Hid.out (by assumption) | with_reducible refine Below.setCell ?_ (by first | (simp; done) | omega | (simp <;> omega)) _ | with_reducible refine bl_al ?_ _ | with_reducible apply Below.drew)⟩
      · go_simp
        refine hK.out _ _ (fun _ => (by (try dsimp only); first | (simp [*, go_sem]; done) | (simp [*, go_sem, World.cell?_alloc_past]; done))) (fun hHeldN => ?_)
        replace hHeld := hHeldN (by kernel_rfl)
        clear hK K hHeldN
        try simp only [Act.put, List.setIfInBounds_toArray, List.set_cons_zero, List.set_cons_succ]
        refine wpAnyK_one (i := 10) (o := _) (by kernel_rfl) (by simp only [List.getElem?_toArray, List.getElem?_cons_succ, List.getElem?_cons_zero]; rfl) (fun K hK => ?_)
        go_simp
        (with_reducible refine (KS.out _).mono ?_); rintro e w1 ⟨rfl, hb⟩
        have zz0 : w.heap.size < wr.heap.size := by omega
        obtain ⟨hcl, hfr⟩ := bcell_drew hb
        have y1 : w1.cell? ⟨w.heap.size + 1, 0, none⟩ = some (.int .u64 (H : Int)) := by rw [hcl _ _ (by first | exact zz | (simp; omega))]; first | exact c1 | (simp [go_sem, *]; done)
        have y0 : w1.cell? ⟨w.heap.size + 1, 1, none⟩ = some (.int .u64 (L : Int)) := by rw [hcl _ _ (by first | exact zz | (simp; omega))]; first | exact c0_ | (simp [go_sem, *]; done)
        have q0 : w1.cell? ⟨w.heap.size, 0, none⟩ = some (.int .i64 0) := by rw [hcl _ _ (by first | omega | (simp; omega))]; first | exact r0 | (simp [go_sem, *]; done)
        have q1 : w1.cell? ⟨w.heap.size, 1, none⟩ = some (.int .u64 0) := by rw [hcl _ _ (by first | omega | (simp; omega))]; first | exact r1 | (simp [go_sem, *]; done)
        have q2 : w1.cell? ⟨w.heap.size, 2, none⟩ = some (.bool false) := by rw [hcl _ _ (by first | omega | (simp; omega))]; first | exact r2 | (simp [go_sem, *]; done)
        have g0 : ∀ j, w1.frozen? ⟨w.heap.size, j, none⟩ = false := fun j => by rw [hfr _ _ (by first | omega | (simp; omega))]; first | exact f0 j | (simp only [frozen?_alloc_cells]; exact f0 j)
        have zw : w.heap.size < w1.heap.size := by have hz := hb.size; (try simp at hz); omega
        have zv : w.heap.size + 1 < w1.heap.size := by have hz := hb.size; (try simp at hz); omega
        have HB1 : Hid (Below w.heap.size w w1) := bl_trans (by repeat (first | with_reducible exact HB.out | with_reducible refine bl_al ?_ _ | with_reducible apply Below.drew)) hb
        have ub : wr.heap.size < w1.heap.size := by have hz := hb.size; simp at hz; omega
        have ne : ∀ j, w1.frozen? ⟨wr.heap.size, j, none⟩ = false := fun j => by rw [hfr _ _ (by simp)]; simp only [frozen?_alloc_cells]; simp [World.frozen?]
        have n0_ : w1.cell? ⟨wr.heap.size, 0, none⟩ = some (.int .i64 0) := by rw [hcl _ _ (by simp)]; simp [go_sem]
        have n1_ : w1.cell? ⟨wr.heap.size, 1, none⟩ = some (.int .u64 0) := by rw [hcl _ _ (by simp)]; simp [go_sem]
        have n2_ : w1.cell? ⟨wr.heap.size, 2, none⟩ = some (.int .i64 0) := by rw [hcl _ _ (by simp)]; simp [go_sem]
        have nzz : ¬ w.heap.size = wr.heap.size := by omega
        have nzy : ¬ w.heap.size + 1 = wr.heap.size := by omega
        clear hb hcl hfr
        refine hK.out _ _ (fun _ => (by (try dsimp only); first | (simp [*, go_sem]; done) | (simp [*, go_sem, World.cell?_alloc_past]; done))) (fun hHeldN => ?_)
        replace hHeld := hHeldN (by kernel_rfl)
        clear hK K hHeldN
        try simp only [Act.put, List.setIfInBounds_toArray, List.set_cons_zero, List.set_cons_succ]
        refine wpAnyK_one (i := 12) (o := _) (by kernel_rfl) (by simp only [List.getElem?_toArray, List.getElem?_cons_succ, List.getElem?_cons_zero]; rfl) (fun K hK => ?_)
        go_simp
        refine hK.out _ _ (fun h => absurd (Eq.trans (Eq.symm h) (by kernel_rfl)) Bool.false_ne_true) (fun _ => ?_)
        clear hK K
        try simp only [Act.put, List.setIfInBounds_toArray, List.set_cons_zero, List.set_cons_succ]
        refine wpAnyK_done (by kernel_rfl) ?_ _
        clear hHeld
        go_upto_region 15 with fail
        refine name_world (P := fun W => Code.wp _ _ _ _ W) _ (fun Y hY => ?_)
        have nz : ¬ wr.heap.size = w.heap.size := by omega
        have v0 : Y.cell? ⟨wr.heap.size, 0, none⟩ = some (.int .i64 vh) := by rw [hY]; simp [go_sem, *]
        have v1 : Y.cell? ⟨wr.heap.size, 1, none⟩ = some (.int .u64 vl) := by rw [hY]; simp [go_sem, *]
        have v2 : Y.cell? ⟨wr.heap.size, 2, none⟩ = some (.int .i64 ee) := by rw [hY]; simp [go_sem, *]
        have q0 : Y.cell? ⟨w.heap.size, 0, none⟩ = some (.int .i64 0) := by rw [hY]; simp [go_sem, *]
        have q1 : Y.cell? ⟨w.heap.size, 1, none⟩ = some (.int .u64 0) := by rw [hY]; simp [go_sem, *]
        have q2 : Y.cell? ⟨w.heap.size, 2, none⟩ = some (.bool false) := by rw [hY]; simp [go_sem, *]
        have g0 : ∀ j, Y.frozen? ⟨w.heap.size, j, none⟩ = false := fun j => by rw [hY]; first | (simp only [go_sem, frozen?_alloc_cells]; exact g0 j) | (simp [go_sem, *]; done) | exact g0 j
        have zY : w.heap.size < Y.heap.size := by rw [hY]; simp; omega
        have zN : wr.heap.size < Y.heap.size := by rw [hY]; simp; try omega
        have HBY : Hid (Below w.heap.size w Y) := by rw [hY]; show Below _ _ _; exact (by repeat (first | with_reducible exact Hid.out (by assumption) | with_reducible refine Below.setCell ?_ (by first | (simp; done) | omega | (simp <;> omega)) _ | with_reducible refine bl_al ?_ _ | with_reducible apply Below.drew))
        clear hY
        have cs := HCS.out
        clear HCS
        rcases cs with ⟨rfl, rfl, rfl, rfl⟩ | ⟨rfl, hq, rfl, rfl, rfl⟩ | ⟨rfl, hq, rfl, rfl, rfl⟩
        · clear KT
          go_wp2_with fail
          refine bodyPost_ret (by simp [results, Try.results14, go_sem, *]; try rfl) rfl ?_
          exact ⟨rfl, by repeat (first | with_reducible exact Hid.out (by assumption) | with_reducible refine Below.setCell ?_ (by first | (simp; done) | omega | (simp <;> omega)) _ | with_reducible refine bl_al ?_ _ | with_reducible apply Below.drew)⟩
        · have CT := KT.out
          clear KT
          go_wp2_with fail
          (with_reducible refine (CT _).mono ?_); rintro e Z ⟨rfl, hb⟩
          obtain ⟨hcz, hfz⟩ := bcell hb
          have v0 : Z.cell? ⟨wr.heap.size, 0, none⟩ = some (.int .i64 vh) := by rw [hcz _ _ zN]; exact v0
          have v1 : Z.cell? ⟨wr.heap.size, 1, none⟩ = some (.int .u64 vl) := by rw [hcz _ _ zN]; exact v1
          have q0 : Z.cell? ⟨w.heap.size, 0, none⟩ = some (.int .i64 0) := by rw [hcz _ _ zY]; exact q0
          have q1 : Z.cell? ⟨w.heap.size, 1, none⟩ = some (.int .u64 0) := by rw [hcz _ _ zY]; exact q1
          have q2 : Z.cell? ⟨w.heap.size, 2, none⟩ = some (.bool false) := by rw [hcz _ _ zY]; exact q2
          have g0 : ∀ j, Z.frozen? ⟨w.heap.size, j, none⟩ = false := fun j => by rw [hfz _ _ zY]; exact g0 j
          have HBZ := Lib.hid (bl_trans HBY.out hb)
          clear hb hcz hfz HBY
          go_wp2_with fail
          refine bodyPost_ret (by simp [results, Try.results14, go_sem, *]; try rfl) rfl ?_
          exact ⟨rfl, by repeat (first | with_reducible exact Hid.out (by assumption) | with_reducible refine Below.setCell ?_ (by first | (simp; done) | omega | (simp <;> omega)) _ | with_reducible refine bl_al ?_ _ | with_reducible apply Below.drew)⟩
        · have CT := KT.out
          clear KT
          go_wp2_with fail
          (with_reducible refine (CT _).mono ?_); rintro e Z ⟨rfl, hb⟩
          obtain ⟨hcz, hfz⟩ := bcell hb
          have v0 : Z.cell? ⟨wr.heap.size, 0, none⟩ = some (.int .i64 vh) := by rw [hcz _ _ zN]; exact v0
          have v1 : Z.cell? ⟨wr.heap.size, 1, none⟩ = some (.int .u64 vl) := by rw [hcz _ _ zN]; exact v1
          have q0 : Z.cell? ⟨w.heap.size, 0, none⟩ = some (.int .i64 0) := by rw [hcz _ _ zY]; exact q0
          have q1 : Z.cell? ⟨w.heap.size, 1, none⟩ = some (.int .u64 0) := by rw [hcz _ _ zY]; exact q1
          have q2 : Z.cell? ⟨w.heap.size, 2, none⟩ = some (.bool false) := by rw [hcz _ _ zY]; exact q2
          have g0 : ∀ j, Z.frozen? ⟨w.heap.size, j, none⟩ = false := fun j => by rw [hfz _ _ zY]; exact g0 j
          have HBZ := Lib.hid (bl_trans HBY.out hb)
          clear hb hcz hfz HBY
          go_wp2_with fail
          refine bodyPost_ret (by simp [results, Try.results14, go_sem, *]; try rfl) rfl ?_
          exact ⟨rfl, by repeat (first | with_reducible exact Hid.out (by assumption) | with_reducible refine Below.setCell ?_ (by first | (simp; done) | omega | (simp <;> omega)) _ | with_reducible refine bl_al ?_ _ | with_reducible apply Below.drew)⟩
    · have hi2 : i < s.data.toList.length := by show i < s.size; omega
      obtain ⟨c, hc⟩ : ∃ c : UInt8, c = s.data.toList[i] := ⟨_, rfl⟩
      have hc2 : c.toNat < 256 := c.toNat_lt
      have hix : ∀ W : World, (Instr.index 9 (.string s) (.int .i64 (i : Int))).run Try.prog W = .ok (.int .u8 ((c.toNat : Nat) : Int)) W := by
        intro W
        rw [run_index_string W 9 s .i64 i (by kernel_rfl), dif_pos ⟨by omega, by omega⟩, hc]
        rfl
      have HN : Hid (docm 0 s.data.toList = docm (match docd c.toNat with | some d => ((H * 18446744073709551616 + L) * 16 + d) % 340282366920938463463374607431768211456 | none => H * 18446744073709551616 + L) (s.data.toList.drop (i + 1))) := by
        show _ = _
        rw [HD.out, List.drop_eq_getElem_cons hi2, ← hc]; rfl
      clear HD hc hi2 KS KT HCS HH HL hix0
      generalize c.toNat = x at *
      have i1 : (i : Int) < (s.size : Int) := by omega
      have wi : IntKind.i64.wrap ((i : Int) + 1) = (i : Int) + 1 := IntWalk.i64_in _ (by omega)
      have HR := Lib.hid hR
      have f1 := hR.f1
      have zz := hR.zz
      clear hR
      have skip : ∀ (hn : docd x = none), docm 0 s.data.toList = docm (H * 18446744073709551616 + L) (s.data.toList.drop (i + 1)) := fun hn => by have h := HN.out; rw [hn] at h; exact h
      have HSK := Lib.hid skip
      clear skip
      by_cases a1 : 48 ≤ x
      · have a1i : (48 : Int) ≤ (x : Int) := by omega
        by_cases a2 : x ≤ 57
        · have a2i : (x : Int) ≤ 57 := by omega
          have a3i : ¬ (97 : Int) ≤ (x : Int) := by omega
          obtain ⟨d, hd⟩ : ∃ d, d = x - 48 := ⟨_, rfl⟩
          have hdd : docd x = some d := by unfold docd; rw [if_pos ⟨a1, a2⟩, hd]
          rw [hdd] at HN
          have d16 : (d : Int) < 16 := by omega
          have e1 : IntKind.u8.wrap ((x : Int) - 48) = (d : Int) := by rw [IntWalk.u8_in _ (by omega)]; omega
          have e2 : IntKind.u64.wrap (d : Int) = (d : Int) := IntWalk.u64_in _ (by omega)
          obtain ⟨Uh, Ul, q, H2, L2, g1, g2, g3, g4, g5, g6, g7, g8⟩ := doc_words H L d hH hL (by omega)
          have HE := Lib.hid g8
          clear g8 hdd hd a1 a2 HSK
          go_wp2_with fail
          go_roundg j
          case measure => omega
          case rel => exact ⟨i + 1, H2, L2, by simp, by omega, g6, g7, by rw [← HE.out]; exact HN.out, by simp [go_sem, *], by simp [go_sem, *], HR.out.set _ _⟩
        · have a2i : ¬ (x : Int) ≤ 57 := by omega
          by_cases a3 : 97 ≤ x
          · have a3i : (97 : Int) ≤ (x : Int) := by omega
            by_cases a4 : x ≤ 102
            · have a4i : (x : Int) ≤ 102 := by omega
              obtain ⟨d, hd⟩ : ∃ d, d = x - 87 := ⟨_, rfl⟩
              have hdd : docd x = some d := by unfold docd; rw [if_neg (by omega), if_pos ⟨a3, a4⟩, hd]
              rw [hdd] at HN
              obtain ⟨g, hg⟩ : ∃ g, g = x - 97 := ⟨_, rfl⟩
              have d16 : (d : Int) < 16 := by omega
              have e1 : IntKind.u8.wrap ((x : Int) - 97) = (g : Int) := by rw [IntWalk.u8_in _ (by omega)]; omega
              have e2 : IntKind.u64.wrap (g : Int) = (g : Int) := IntWalk.u64_in _ (by omega)
              have e3 : IntKind.u64.wrap ((g : Int) + 10) = (d : Int) := by rw [IntWalk.u64_in _ (by omega)]; omega
              obtain ⟨Uh, Ul, q, H2, L2, g1, g2, g3, g4, g5, g6, g7, g8⟩ := doc_words H L d hH hL (by omega)
              have HE := Lib.hid g8
              clear g8 hdd hd hg a1 a2 a3 a4 HSK
              go_wp2_with fail
              go_roundg j
              case measure => omega
              case rel => exact ⟨i + 1, H2, L2, by simp, by omega, g6, g7, by rw [← HE.out]; exact HN.out, by simp [go_sem, *], by simp [go_sem, *], HR.out.set _ _⟩
            · have a4i : ¬ (x : Int) ≤ 102 := by omega
              have HS2 := Lib.hid (HSK.out (by unfold docd; rw [if_neg (by omega), if_neg (by omega)]))
              clear HN HSK a1 a2 a3 a4
              go_wp2_with fail
              go_roundg j
              case measure => omega
              case rel => exact ⟨i + 1, H, L, by simp, by omega, hH, hL, HS2.out, c1, c0_, HR.out⟩
          · have a3i : ¬ (97 : Int) ≤ (x : Int) := by omega
            have HS2 := Lib.hid (HSK.out (by unfold docd; rw [if_neg (by omega), if_neg (by omega)]))
            clear HN HSK a1 a2 a3
            go_wp2_with fail
            go_roundg j
            case measure => omega
            case rel => exact ⟨i + 1, H, L, by simp, by omega, hH, hL, HS2.out, c1, c0_, HR.out⟩
      · have a1i : ¬ (48 : Int) ≤ (x : Int) := by omega
        have a3i : ¬ (97 : Int) ≤ (x : Int) := by omega
        have HS2 := Lib.hid (HSK.out (by unfold docd; rw [if_neg (by omega), if_neg (by omega)]))
        clear HN HSK a1
        go_wp2_with fail
        go_roundg j
        case measure => omega
        case rel => exact ⟨i + 1, H, L, by simp, by omega, hH, hL, HS2.out, c1, c0_, HR.out⟩
set_option maxRecDepth 20000 in
set_option maxHeartbeats 16000000 in
theorem rparse_empty (s : ByteArray) (hs hl vh vl ee oh ol : Int) (U : ByteArray) (r : Bool) (n0 : s.size = 0) (n1 : s.size ≤ 40) (w : World)
    (hh : hs = ((docm 0 s.data.toList / 18446744073709551616 : Nat) : Int)) (hll : hl = ((docm 0 s.data.toList % 18446744073709551616 : Nat) : Int))
    (CS : ∀ W, Calls Try.prog 47 #[.bool false, .agg #[.int .u64 0, .int .u64 0, .int .u64 hs, .int .u64 hl]] W fun e w' => e = .returned (.agg #[.int .i64 vh, .int .u64 vl, .int .i64 ee]) ∧ Below W.heap.size W w')
    (CT : ∀ W, Calls Try.prog 16 #[.agg #[.int .i64 vh, .int .u64 vl]] W fun e w' => e = .returned (.string U) ∧ Below W.heap.size W w')
    (cs : ee = 3 ∧ r = false ∧ oh = 0 ∧ ol = 0 ∨ ee = 0 ∧ (U.toList == s.toList) = false ∧ r = false ∧ oh = 0 ∧ ol = 0 ∨ ee = 0 ∧ (U.toList == s.toList) = true ∧ r = true ∧ vh = oh ∧ vl = ol) :
    Calls Try.prog 14 #[.string s] w fun e w' => e = .returned (.agg #[.int .i64 oh, .int .u64 ol, .bool r]) ∧ Below w.heap.size w w' := by
  have KS := Lib.hid CS; have KT := Lib.hid CT; have HCS := Lib.hid cs; have HH := Lib.hid hh; have HL := Lib.hid hll
  clear CS CT cs hh hll
  have n2 : ¬ (40 : Int) < (s.size : Int) := by omega
  have HN0 := Lib.hid n0
  clear n0
  go_enter Try.func14, Try.ntmps14
  go_wp2_with fail
  have hst : Rest w ((w.alloc (.cells #[.int .i64 0, .int .u64 0, .bool false] 29)).alloc (.cells #[.int .u64 0, .int .u64 0] 69)) := by
    refine ⟨?_, ?_, ?_, ?_, ?_, ?_, ?_⟩
    · simp [go_sem]
    · simp [go_sem]
    · simp [go_sem]
    · intro j; simp only [frozen?_alloc_cells]; simp [World.frozen?]
    · intro j; simp only [frozen?_alloc_cells]; simp [World.frozen?]
    · simp
    · exact bl_al (bl_al (Below.refl _ _) _) _
  go_loopg [4] s.size (fun g ii wr => ∃ i H L : Nat, ii = .int .i64 (i : Int) ∧ i + g = s.size ∧ H < 18446744073709551616 ∧ L < 18446744073709551616 ∧ docm 0 s.data.toList = docm (H * 18446744073709551616 + L) (s.data.toList.drop i) ∧ wr.cell? ⟨w.heap.size + 1, 0, none⟩ = some (.int .u64 (H : Int)) ∧ wr.cell? ⟨w.heap.size + 1, 1, none⟩ = some (.int .u64 (L : Int)) ∧ Rest w wr)
  case atStart => exact ⟨0, 0, 0, rfl, by omega, by decide, by decide, rfl, by simp [go_sem], by simp [go_sem], hst⟩
  case round =>
    obtain ⟨i, H, L, rfl, hi, hH, hL, hd, c1, c0_, hR⟩ := hrel
    have HD := Lib.hid hd
    clear hd hst
    rcases gk with _ | j
    · have i0 : ¬ (i : Int) < (s.size : Int) := by omega
      have eH : hs = (H : Int) := by
        rw [HH.out, HD.out, List.drop_of_length_le (by show s.size ≤ i; omega)]
        show ((((H * 18446744073709551616 + L) / 18446744073709551616 : Nat)) : Int) = _
        omega
      have eL : hl = (L : Int) := by
        rw [HL.out, HD.out, List.drop_of_length_le (by show s.size ≤ i; omega)]
        show ((((H * 18446744073709551616 + L) % 18446744073709551616 : Nat)) : Int) = _
        omega
      subst eH; subst eL
      clear HD HH HL hH hL
      obtain ⟨r0, r1, r2, f0, f1, zz, hbl⟩ := hR
      have HB := Lib.hid hbl
      clear hbl
      go_upto_region 14 with fail
      have z0 : s.size = 0 := HN0.out
      refine wp_region_late_drew (fun w' => w'.cell? ⟨w.heap.size + 1, 0, none⟩ = some (.int .u64 (H : Int)) ∧ w'.cell? ⟨w.heap.size + 1, 1, none⟩ = some (.int .u64 (L : Int))) 12 (by kernel_rfl) ?_ (fun hHeld => ?_)
      · (try dsimp only); simp [go_sem, *]
      refine wpAnyK_take (i := 0) (oi := _) (v := ?_) (by simp only [List.getElem?_toArray, List.getElem?_cons_zero]; rfl) (by kernel_rfl) (by kernel_rfl) (by kernel_rfl) (by kernel_rfl) (by kernel_rfl) (by exact fun _ _ _ h => h) (Or.inl ⟨by rfl, ?_⟩) hHeld ?_
      rotate_left 1
      · (intro w hSw; (try dsimp only at hSw); go_simp; try with_reducible rfl)
      try simp only [Act.put, List.setIfInBounds_toArray, List.set_cons_zero, List.set_cons_succ]
      refine wpAnyK_take (i := 1) (oi := _) (v := ?_) (by simp only [List.getElem?_toArray, List.getElem?_cons_succ, List.getElem?_cons_zero]; rfl) (by kernel_rfl) (by kernel_rfl) (by kernel_rfl) (by kernel_rfl) (by kernel_rfl) (by exact fun _ _ _ h => h) (Or.inl ⟨by rfl, ?_⟩) hHeld ?_
      rotate_left 1
      · (intro w hSw; (try dsimp only at hSw); go_simp; try with_reducible rfl)
      try simp only [Act.put, List.setIfInBounds_toArray, List.set_cons_zero, List.set_cons_succ]
      refine wpAnyK_take (i := 2) (oi := _) (v := ?_) (by simp only [List.getElem?_toArray, List.getElem?_cons_succ, List.getElem?_cons_zero]; rfl) (by kernel_rfl) (by kernel_rfl) (by kernel_rfl) (by kernel_rfl) (by kernel_rfl) (by exact fun _ _ _ h => h) (Or.inl ⟨by rfl, ?_⟩) hHeld ?_
      rotate_left 1
      · (intro w hSw; (try dsimp only at hSw); go_simp; try with_reducible rfl)
      try simp only [Act.put, List.setIfInBounds_toArray, List.set_cons_zero, List.set_cons_succ]
      refine wpAnyK_take (i := 3) (oi := _) (v := ?_) (by simp only [List.getElem?_toArray, List.getElem?_cons_succ, List.getElem?_cons_zero]; rfl) (by kernel_rfl) (by kernel_rfl) (by kernel_rfl) (by kernel_rfl) (by kernel_rfl) (by exact fun _ _ _ h => h) (Or.inl ⟨by rfl, ?_⟩) hHeld ?_
      rotate_left 1
      · (intro w hSw; (try dsimp only at hSw); go_simp; try with_reducible rfl)
      try simp only [Act.put, List.setIfInBounds_toArray, List.set_cons_zero, List.set_cons_succ]
      refine wpAnyK_take (i := 4) (oi := _) (v := undef) (by simp only [List.getElem?_toArray, List.getElem?_cons_succ, List.getElem?_cons_zero]; rfl) (by kernel_rfl) (by kernel_rfl) (by kernel_rfl) (by kernel_rfl) (by kernel_rfl) (by exact fun _ _ _ h => h) (Or.inr ⟨by rfl, rfl⟩) hHeld ?_
      try simp only [Act.put, List.setIfInBounds_toArray, List.set_cons_zero, List.set_cons_succ]
      refine wpAnyK_take (i := 5) (oi := _) (v := undef) (by simp only [List.getElem?_toArray, List.getElem?_cons_succ, List.getElem?_cons_zero]; rfl) (by kernel_rfl) (by kernel_rfl) (by kernel_rfl) (by kernel_rfl) (by kernel_rfl) (by exact fun _ _ _ h => h) (Or.inr ⟨by rfl, rfl⟩) hHeld ?_
      try simp only [Act.put, List.setIfInBounds_toArray, List.set_cons_zero, List.set_cons_succ]
      refine wpAnyK_take (i := 6) (oi := _) (v := undef) (by simp only [List.getElem?_toArray, List.getElem?_cons_succ, List.getElem?_cons_zero]; rfl) (by kernel_rfl) (by kernel_rfl) (by kernel_rfl) (by kernel_rfl) (by kernel_rfl) (by exact fun _ _ _ h => h) (Or.inr ⟨by rfl, rfl⟩) hHeld ?_
      try simp only [Act.put, List.setIfInBounds_toArray, List.set_cons_zero, List.set_cons_succ]
      refine wpAnyK_take (i := 7) (oi := _) (v := ?_) (by simp only [List.getElem?_toArray, List.getElem?_cons_succ, List.getElem?_cons_zero]; rfl) (by kernel_rfl) (by kernel_rfl) (by kernel_rfl) (by kernel_rfl) (by kernel_rfl) (by exact fun _ _ _ h => h) (Or.inl ⟨by rfl, ?_⟩) hHeld ?_
      rotate_left 1
      · (intro w hSw; (try dsimp only at hSw); go_simp; try with_reducible rfl)
      try simp only [Act.put, List.setIfInBounds_toArray, List.set_cons_zero, List.set_cons_succ]
      refine wpAnyK_take (i := 8) (oi := _) (v := ?_) (by simp only [List.getElem?_toArray, List.getElem?_cons_succ, List.getElem?_cons_zero]; rfl) (by kernel_rfl) (by kernel_rfl) (by kernel_rfl) (by kernel_rfl) (by kernel_rfl) (by exact fun _ _ _ h => h) (Or.inl ⟨by rfl, ?_⟩) hHeld ?_
      rotate_left 1
      · (intro w hSw; (try dsimp only at hSw); go_simp; try with_reducible rfl)
      try simp only [Act.put, List.setIfInBounds_toArray, List.set_cons_zero, List.set_cons_succ]
      refine wpAnyK_take (i := 9) (oi := _) (v := ?_) (by simp only [List.getElem?_toArray, List.getElem?_cons_succ, List.getElem?_cons_zero]; rfl) (by kernel_rfl) (by kernel_rfl) (by kernel_rfl) (by kernel_rfl) (by kernel_rfl) (by exact fun _ _ _ h => h) (Or.inl ⟨by rfl, ?_⟩) hHeld ?_
      rotate_left 1
      · (intro w hSw; (try dsimp only at hSw); go_simp; try with_reducible rfl)
      try simp only [Act.put, List.setIfInBounds_toArray, List.set_cons_zero, List.set_cons_succ]
      refine wpAnyK_two (i := 10) (j := 11) (o := _) (o' := _) (by kernel_rfl) (by simp only [List.getElem?_toArray, List.getElem?_cons_succ, List.getElem?_cons_zero]; rfl) (by simp only [List.getElem?_toArray, List.getElem?_cons_succ, List.getElem?_cons_zero]; rfl) (fun K hK => ?_) (fun K hK => ?_)
      · go_simp
        (with_reducible refine (KS.out _).mono ?_); rintro e w1 ⟨rfl, hb⟩
        have zz0 : w.heap.size < wr.heap.size := by omega
        obtain ⟨hcl, hfr⟩ := bcell_drew hb
        have y1 : w1.cell? ⟨w.heap.size + 1, 0, none⟩ = some (.int .u64 (H : Int)) := by rw [hcl _ _ (by first | exact zz | (simp; omega))]; first | exact c1 | (simp [go_sem, *]; done)
        have y0 : w1.cell? ⟨w.heap.size + 1, 1, none⟩ = some (.int .u64 (L : Int)) := by rw [hcl _ _ (by first | exact zz | (simp; omega))]; first | exact c0_ | (simp [go_sem, *]; done)
        have q0 : w1.cell? ⟨w.heap.size, 0, none⟩ = some (.int .i64 0) := by rw [hcl _ _ (by first | omega | (simp; omega))]; first | exact r0 | (simp [go_sem, *]; done)
        have q1 : w1.cell? ⟨w.heap.size, 1, none⟩ = some (.int .u64 0) := by rw [hcl _ _ (by first | omega | (simp; omega))]; first | exact r1 | (simp [go_sem, *]; done)
        have q2 : w1.cell? ⟨w.heap.size, 2, none⟩ = some (.bool false) := by rw [hcl _ _ (by first | omega | (simp; omega))]; first | exact r2 | (simp [go_sem, *]; done)
        have g0 : ∀ j, w1.frozen? ⟨w.heap.size, j, none⟩ = false := fun j => by rw [hfr _ _ (by first | omega | (simp; omega))]; first | exact f0 j | (simp only [frozen?_alloc_cells]; exact f0 j)
        have zw : w.heap.size < w1.heap.size := by have hz := hb.size; (try simp at hz); omega
        have zv : w.heap.size + 1 < w1.heap.size := by have hz := hb.size; (try simp at hz); omega
        have HB1 : Hid (Below w.heap.size w w1) := bl_trans (by repeat (first | with_reducible exact HB.out | with_reducible refine bl_al ?_ _ | with_reducible apply Below.drew)) hb
        clear hb hcl hfr
        refine hK.out _ _ (fun _ => (by (try dsimp only); first | (simp [*, go_sem]; done) | (simp [*, go_sem, World.cell?_alloc_past]; done))) (fun hHeldN => ?_)
        replace hHeld := hHeldN (by kernel_rfl)
        clear hK K hHeldN
        try simp only [Act.put, List.setIfInBounds_toArray, List.set_cons_zero, List.set_cons_succ]
        refine wpAnyK_one (i := 11) (o := _) (by kernel_rfl) (by simp only [List.getElem?_toArray, List.getElem?_cons_succ, List.getElem?_cons_zero]; rfl) (fun K hK => ?_)
        go_simp
        refine hK.out _ _ (fun _ => (by (try dsimp only); first | (simp [*, go_sem]; done) | (simp [*, go_sem, World.cell?_alloc_past]; done))) (fun hHeldN => ?_)
        replace hHeld := hHeldN (by kernel_rfl)
        clear hK K hHeldN
        try simp only [Act.put, List.setIfInBounds_toArray, List.set_cons_zero, List.set_cons_succ]
        refine wpAnyK_one (i := 12) (o := _) (by kernel_rfl) (by simp only [List.getElem?_toArray, List.getElem?_cons_succ, List.getElem?_cons_zero]; rfl) (fun K hK => ?_)
        go_simp
        refine hK.out _ _ (fun h => absurd (Eq.trans (Eq.symm h) (by kernel_rfl)) Bool.false_ne_true) (fun _ => ?_)
        clear hK K
        try simp only [Act.put, List.setIfInBounds_toArray, List.set_cons_zero, List.set_cons_succ]
        refine wpAnyK_done (by kernel_rfl) ?_ _
        clear hHeld
        go_upto_region 15 with fail
        refine name_world (P := fun W => Code.wp _ _ _ _ W) _ (fun Y hY => ?_)
        have nz : ¬ w1.heap.size = w.heap.size := by omega
        have v0 : Y.cell? ⟨w1.heap.size, 0, none⟩ = some (.int .i64 vh) := by rw [hY]; simp [go_sem, *]
        have v1 : Y.cell? ⟨w1.heap.size, 1, none⟩ = some (.int .u64 vl) := by rw [hY]; simp [go_sem, *]
        have v2 : Y.cell? ⟨w1.heap.size, 2, none⟩ = some (.int .i64 ee) := by rw [hY]; simp [go_sem, *]
        have q0 : Y.cell? ⟨w.heap.size, 0, none⟩ = some (.int .i64 0) := by rw [hY]; simp [go_sem, *]
        have q1 : Y.cell? ⟨w.heap.size, 1, none⟩ = some (.int .u64 0) := by rw [hY]; simp [go_sem, *]
        have q2 : Y.cell? ⟨w.heap.size, 2, none⟩ = some (.bool false) := by rw [hY]; simp [go_sem, *]
        have g0 : ∀ j, Y.frozen? ⟨w.heap.size, j, none⟩ = false := fun j => by rw [hY]; first | (simp only [go_sem, frozen?_alloc_cells]; exact g0 j) | (simp [go_sem, *]; done) | exact g0 j
        have zY : w.heap.size < Y.heap.size := by rw [hY]; simp; omega
        have zN : w1.heap.size < Y.heap.size := by rw [hY]; simp; try omega
        have HBY : Hid (Below w.heap.size w Y) := by rw [hY]; show Below _ _ _; exact (by repeat (first | with_reducible exact Hid.out (by assumption) | with_reducible refine Below.setCell ?_ (by first | (simp; done) | omega | (simp <;> omega)) _ | with_reducible refine bl_al ?_ _ | with_reducible apply Below.drew))
        clear hY
        have cs := HCS.out
        clear HCS
        rcases cs with ⟨rfl, rfl, rfl, rfl⟩ | ⟨rfl, hq, rfl, rfl, rfl⟩ | ⟨rfl, hq, rfl, rfl, rfl⟩
        · clear KT
          go_wp2_with fail
          refine bodyPost_ret (by simp [results, Try.results14, go_sem, *]; try rfl) rfl ?_
          exact ⟨rfl, by repeat (first | with_reducible exact Hid.out (by assumption) | with_reducible refine Below.setCell ?_ (by first | (simp; done) | omega | (simp <;> omega)) _ | with_reducible refine bl_al ?_ _ | with_reducible apply Below.drew)⟩
        · have CT := KT.out
          clear KT
          go_wp2_with fail
          (with_reducible refine (CT _).mono ?_); rintro e Z ⟨rfl, hb⟩
          obtain ⟨hcz, hfz⟩ := bcell hb
          have v0 : Z.cell? ⟨w1.heap.size, 0, none⟩ = some (.int .i64 vh) := by rw [hcz _ _ zN]; exact v0
          have v1 : Z.cell? ⟨w1.heap.size, 1, none⟩ = some (.int .u64 vl) := by rw [hcz _ _ zN]; exact v1
          have q0 : Z.cell? ⟨w.heap.size, 0, none⟩ = some (.int .i64 0) := by rw [hcz _ _ zY]; exact q0
          have q1 : Z.cell? ⟨w.heap.size, 1, none⟩ = some (.int .u64 0) := by rw [hcz _ _ zY]; exact q1
          have q2 : Z.cell? ⟨w.heap.size, 2, none⟩ = some (.bool false) := by rw [hcz _ _ zY]; exact q2
          have g0 : ∀ j, Z.frozen? ⟨w.heap.size, j, none⟩ = false := fun j => by rw [hfz _ _ zY]; exact g0 j
          have HBZ := Lib.hid (bl_trans HBY.out hb)
          clear hb hcz hfz HBY
          go_wp2_with fail
          refine bodyPost_ret (by simp [results, Try.results14, go_sem, *]; try rfl) rfl ?_
          exact ⟨rfl, by repeat (first | with_reducible exact Hid.out (by assumption) | with_reducible refine Below.setCell ?_ (by first | (simp; done) | omega | (simp <;> omega)) _ | with_reducible refine bl_al ?_ _ | with_reducible apply Below.drew)⟩
        · have CT := KT.out
          clear KT
          go_wp2_with fail
          (with_reducible refine (CT _).mono ?_); rintro e Z ⟨rfl, hb⟩
          obtain ⟨hcz, hfz⟩ := bcell hb
          have v0 : Z.cell? ⟨w1.heap.size, 0, none⟩ = some (.int .i64 vh) := by rw [hcz _ _ zN]; exact v0
          have v1 : Z.cell? ⟨w1.heap.size, 1, none⟩ = some (.int .u64 vl) := by rw [hcz _ _ zN]; exact v1
          have q0 : Z.cell? ⟨w.heap.size, 0, none⟩ = some (.int .i64 0) := by rw [hcz _ _ zY]; exact q0
          have q1 : Z.cell? ⟨w.heap.size, 1, none⟩ = some (.int .u64 0) := by rw [hcz _ _ zY]; exact q1
          have q2 : Z.cell? ⟨w.heap.size, 2, none⟩ = some (.bool false) := by rw [hcz _ _ zY]; exact q2
          have g0 : ∀ j, Z.frozen? ⟨w.heap.size, j, none⟩ = false := fun j => by rw [hfz _ _ zY]; exact g0 j
          have HBZ := Lib.hid (bl_trans HBY.out hb)
          clear hb hcz hfz HBY
          go_wp2_with fail
          refine bodyPost_ret (by simp [results, Try.results14, go_sem, *]; try rfl) rfl ?_
          exact ⟨rfl, by repeat (first | with_reducible exact Hid.out (by assumption) | with_reducible refine Below.setCell ?_ (by first | (simp; done) | omega | (simp <;> omega)) _ | with_reducible refine bl_al ?_ _ | with_reducible apply Below.drew)⟩
      · go_simp
        refine hK.out _ _ (fun _ => (by (try dsimp only); first | (simp [*, go_sem]; done) | (simp [*, go_sem, World.cell?_alloc_past]; done))) (fun hHeldN => ?_)
        replace hHeld := hHeldN (by kernel_rfl)
        clear hK K hHeldN
        try simp only [Act.put, List.setIfInBounds_toArray, List.set_cons_zero, List.set_cons_succ]
        refine wpAnyK_one (i := 10) (o := _) (by kernel_rfl) (by simp only [List.getElem?_toArray, List.getElem?_cons_succ, List.getElem?_cons_zero]; rfl) (fun K hK => ?_)
        go_simp
        (with_reducible refine (KS.out _).mono ?_); rintro e w1 ⟨rfl, hb⟩
        have zz0 : w.heap.size < wr.heap.size := by omega
        obtain ⟨hcl, hfr⟩ := bcell_drew hb
        have y1 : w1.cell? ⟨w.heap.size + 1, 0, none⟩ = some (.int .u64 (H : Int)) := by rw [hcl _ _ (by first | exact zz | (simp; omega))]; first | exact c1 | (simp [go_sem, *]; done)
        have y0 : w1.cell? ⟨w.heap.size + 1, 1, none⟩ = some (.int .u64 (L : Int)) := by rw [hcl _ _ (by first | exact zz | (simp; omega))]; first | exact c0_ | (simp [go_sem, *]; done)
        have q0 : w1.cell? ⟨w.heap.size, 0, none⟩ = some (.int .i64 0) := by rw [hcl _ _ (by first | omega | (simp; omega))]; first | exact r0 | (simp [go_sem, *]; done)
        have q1 : w1.cell? ⟨w.heap.size, 1, none⟩ = some (.int .u64 0) := by rw [hcl _ _ (by first | omega | (simp; omega))]; first | exact r1 | (simp [go_sem, *]; done)
        have q2 : w1.cell? ⟨w.heap.size, 2, none⟩ = some (.bool false) := by rw [hcl _ _ (by first | omega | (simp; omega))]; first | exact r2 | (simp [go_sem, *]; done)
        have g0 : ∀ j, w1.frozen? ⟨w.heap.size, j, none⟩ = false := fun j => by rw [hfr _ _ (by first | omega | (simp; omega))]; first | exact f0 j | (simp only [frozen?_alloc_cells]; exact f0 j)
        have zw : w.heap.size < w1.heap.size := by have hz := hb.size; (try simp at hz); omega
        have zv : w.heap.size + 1 < w1.heap.size := by have hz := hb.size; (try simp at hz); omega
        have HB1 : Hid (Below w.heap.size w w1) := bl_trans (by repeat (first | with_reducible exact HB.out | with_reducible refine bl_al ?_ _ | with_reducible apply Below.drew)) hb
        have ub : wr.heap.size < w1.heap.size := by have hz := hb.size; simp at hz; omega
        have ne : ∀ j, w1.frozen? ⟨wr.heap.size, j, none⟩ = false := fun j => by rw [hfr _ _ (by simp)]; simp only [frozen?_alloc_cells]; simp [World.frozen?]
        have n0_ : w1.cell? ⟨wr.heap.size, 0, none⟩ = some (.int .i64 0) := by rw [hcl _ _ (by simp)]; simp [go_sem]
        have n1_ : w1.cell? ⟨wr.heap.size, 1, none⟩ = some (.int .u64 0) := by rw [hcl _ _ (by simp)]; simp [go_sem]
        have n2_ : w1.cell? ⟨wr.heap.size, 2, none⟩ = some (.int .i64 0) := by rw [hcl _ _ (by simp)]; simp [go_sem]
        have nzz : ¬ w.heap.size = wr.heap.size := by omega
        have nzy : ¬ w.heap.size + 1 = wr.heap.size := by omega
        clear hb hcl hfr
        refine hK.out _ _ (fun _ => (by (try dsimp only); first | (simp [*, go_sem]; done) | (simp [*, go_sem, World.cell?_alloc_past]; done))) (fun hHeldN => ?_)
        replace hHeld := hHeldN (by kernel_rfl)
        clear hK K hHeldN
        try simp only [Act.put, List.setIfInBounds_toArray, List.set_cons_zero, List.set_cons_succ]
        refine wpAnyK_one (i := 12) (o := _) (by kernel_rfl) (by simp only [List.getElem?_toArray, List.getElem?_cons_succ, List.getElem?_cons_zero]; rfl) (fun K hK => ?_)
        go_simp
        refine hK.out _ _ (fun h => absurd (Eq.trans (Eq.symm h) (by kernel_rfl)) Bool.false_ne_true) (fun _ => ?_)
        clear hK K
        try simp only [Act.put, List.setIfInBounds_toArray, List.set_cons_zero, List.set_cons_succ]
        refine wpAnyK_done (by kernel_rfl) ?_ _
        clear hHeld
        go_upto_region 15 with fail
        refine name_world (P := fun W => Code.wp _ _ _ _ W) _ (fun Y hY => ?_)
        have nz : ¬ wr.heap.size = w.heap.size := by omega
        have v0 : Y.cell? ⟨wr.heap.size, 0, none⟩ = some (.int .i64 vh) := by rw [hY]; simp [go_sem, *]
        have v1 : Y.cell? ⟨wr.heap.size, 1, none⟩ = some (.int .u64 vl) := by rw [hY]; simp [go_sem, *]
        have v2 : Y.cell? ⟨wr.heap.size, 2, none⟩ = some (.int .i64 ee) := by rw [hY]; simp [go_sem, *]
        have q0 : Y.cell? ⟨w.heap.size, 0, none⟩ = some (.int .i64 0) := by rw [hY]; simp [go_sem, *]
        have q1 : Y.cell? ⟨w.heap.size, 1, none⟩ = some (.int .u64 0) := by rw [hY]; simp [go_sem, *]
        have q2 : Y.cell? ⟨w.heap.size, 2, none⟩ = some (.bool false) := by rw [hY]; simp [go_sem, *]
        have g0 : ∀ j, Y.frozen? ⟨w.heap.size, j, none⟩ = false := fun j => by rw [hY]; first | (simp only [go_sem, frozen?_alloc_cells]; exact g0 j) | (simp [go_sem, *]; done) | exact g0 j
        have zY : w.heap.size < Y.heap.size := by rw [hY]; simp; omega
        have zN : wr.heap.size < Y.heap.size := by rw [hY]; simp; try omega
        have HBY : Hid (Below w.heap.size w Y) := by rw [hY]; show Below _ _ _; exact (by repeat (first | with_reducible exact Hid.out (by assumption) | with_reducible refine Below.setCell ?_ (by first | (simp; done) | omega | (simp <;> omega)) _ | with_reducible refine bl_al ?_ _ | with_reducible apply Below.drew))
        clear hY
        have cs := HCS.out
        clear HCS
        rcases cs with ⟨rfl, rfl, rfl, rfl⟩ | ⟨rfl, hq, rfl, rfl, rfl⟩ | ⟨rfl, hq, rfl, rfl, rfl⟩
        · clear KT
          go_wp2_with fail
          refine bodyPost_ret (by simp [results, Try.results14, go_sem, *]; try rfl) rfl ?_
          exact ⟨rfl, by repeat (first | with_reducible exact Hid.out (by assumption) | with_reducible refine Below.setCell ?_ (by first | (simp; done) | omega | (simp <;> omega)) _ | with_reducible refine bl_al ?_ _ | with_reducible apply Below.drew)⟩
        · have CT := KT.out
          clear KT
          go_wp2_with fail
          (with_reducible refine (CT _).mono ?_); rintro e Z ⟨rfl, hb⟩
          obtain ⟨hcz, hfz⟩ := bcell hb
          have v0 : Z.cell? ⟨wr.heap.size, 0, none⟩ = some (.int .i64 vh) := by rw [hcz _ _ zN]; exact v0
          have v1 : Z.cell? ⟨wr.heap.size, 1, none⟩ = some (.int .u64 vl) := by rw [hcz _ _ zN]; exact v1
          have q0 : Z.cell? ⟨w.heap.size, 0, none⟩ = some (.int .i64 0) := by rw [hcz _ _ zY]; exact q0
          have q1 : Z.cell? ⟨w.heap.size, 1, none⟩ = some (.int .u64 0) := by rw [hcz _ _ zY]; exact q1
          have q2 : Z.cell? ⟨w.heap.size, 2, none⟩ = some (.bool false) := by rw [hcz _ _ zY]; exact q2
          have g0 : ∀ j, Z.frozen? ⟨w.heap.size, j, none⟩ = false := fun j => by rw [hfz _ _ zY]; exact g0 j
          have HBZ := Lib.hid (bl_trans HBY.out hb)
          clear hb hcz hfz HBY
          go_wp2_with fail
          refine bodyPost_ret (by simp [results, Try.results14, go_sem, *]; try rfl) rfl ?_
          exact ⟨rfl, by repeat (first | with_reducible exact Hid.out (by assumption) | with_reducible refine Below.setCell ?_ (by first | (simp; done) | omega | (simp <;> omega)) _ | with_reducible refine bl_al ?_ _ | with_reducible apply Below.drew)⟩
        · have CT := KT.out
          clear KT
          go_wp2_with fail
          (with_reducible refine (CT _).mono ?_); rintro e Z ⟨rfl, hb⟩
          obtain ⟨hcz, hfz⟩ := bcell hb
          have v0 : Z.cell? ⟨wr.heap.size, 0, none⟩ = some (.int .i64 vh) := by rw [hcz _ _ zN]; exact v0
          have v1 : Z.cell? ⟨wr.heap.size, 1, none⟩ = some (.int .u64 vl) := by rw [hcz _ _ zN]; exact v1
          have q0 : Z.cell? ⟨w.heap.size, 0, none⟩ = some (.int .i64 0) := by rw [hcz _ _ zY]; exact q0
          have q1 : Z.cell? ⟨w.heap.size, 1, none⟩ = some (.int .u64 0) := by rw [hcz _ _ zY]; exact q1
          have q2 : Z.cell? ⟨w.heap.size, 2, none⟩ = some (.bool false) := by rw [hcz _ _ zY]; exact q2
          have g0 : ∀ j, Z.frozen? ⟨w.heap.size, j, none⟩ = false := fun j => by rw [hfz _ _ zY]; exact g0 j
          have HBZ := Lib.hid (bl_trans HBY.out hb)
          clear hb hcz hfz HBY
          go_wp2_with fail
          refine bodyPost_ret (by simp [results, Try.results14, go_sem, *]; try rfl) rfl ?_
          exact ⟨rfl, by repeat (first | with_reducible exact Hid.out (by assumption) | with_reducible refine Below.setCell ?_ (by first | (simp; done) | omega | (simp <;> omega)) _ | with_reducible refine bl_al ?_ _ | with_reducible apply Below.drew)⟩
    · have hi2 : i < s.data.toList.length := by show i < s.size; omega
      obtain ⟨c, hc⟩ : ∃ c : UInt8, c = s.data.toList[i] := ⟨_, rfl⟩
      have hc2 : c.toNat < 256 := c.toNat_lt
      have hix : ∀ W : World, (Instr.index 9 (.string s) (.int .i64 (i : Int))).run Try.prog W = .ok (.int .u8 ((c.toNat : Nat) : Int)) W := by
        intro W
        rw [run_index_string W 9 s .i64 i (by kernel_rfl), dif_pos ⟨by omega, by omega⟩, hc]
        rfl
      have HN : Hid (docm 0 s.data.toList = docm (match docd c.toNat with | some d => ((H * 18446744073709551616 + L) * 16 + d) % 340282366920938463463374607431768211456 | none => H * 18446744073709551616 + L) (s.data.toList.drop (i + 1))) := by
        show _ = _
        rw [HD.out, List.drop_eq_getElem_cons hi2, ← hc]; rfl
      clear HD hc hi2 KS KT HCS HH HL
      generalize c.toNat = x at *
      have i1 : (i : Int) < (s.size : Int) := by omega
      have wi : IntKind.i64.wrap ((i : Int) + 1) = (i : Int) + 1 := IntWalk.i64_in _ (by omega)
      have HR := Lib.hid hR
      have f1 := hR.f1
      have zz := hR.zz
      clear hR
      have skip : ∀ (hn : docd x = none), docm 0 s.data.toList = docm (H * 18446744073709551616 + L) (s.data.toList.drop (i + 1)) := fun hn => by have h := HN.out; rw [hn] at h; exact h
      have HSK := Lib.hid skip
      clear skip
      by_cases a1 : 48 ≤ x
      · have a1i : (48 : Int) ≤ (x : Int) := by omega
        by_cases a2 : x ≤ 57
        · have a2i : (x : Int) ≤ 57 := by omega
          have a3i : ¬ (97 : Int) ≤ (x : Int) := by omega
          obtain ⟨d, hd⟩ : ∃ d, d = x - 48 := ⟨_, rfl⟩
          have hdd : docd x = some d := by unfold docd; rw [if_pos ⟨a1, a2⟩, hd]
          rw [hdd] at HN
          have d16 : (d : Int) < 16 := by omega
          have e1 : IntKind.u8.wrap ((x : Int) - 48) = (d : Int) := by rw [IntWalk.u8_in _ (by omega)]; omega
          have e2 : IntKind.u64.wrap (d : Int) = (d : Int) := IntWalk.u64_in _ (by omega)
          obtain ⟨Uh, Ul, q, H2, L2, g1, g2, g3, g4, g5, g6, g7, g8⟩ := doc_words H L d hH hL (by omega)
          have HE := Lib.hid g8
          clear g8 hdd hd a1 a2 HSK
          go_wp2_with fail
          go_roundg j
          case measure => omega
          case rel => exact ⟨i + 1, H2, L2, by simp, by omega, g6, g7, by rw [← HE.out]; exact HN.out, by simp [go_sem, *], by simp [go_sem, *], HR.out.set _ _⟩
        · have a2i : ¬ (x : Int) ≤ 57 := by omega
          by_cases a3 : 97 ≤ x
          · have a3i : (97 : Int) ≤ (x : Int) := by omega
            by_cases a4 : x ≤ 102
            · have a4i : (x : Int) ≤ 102 := by omega
              obtain ⟨d, hd⟩ : ∃ d, d = x - 87 := ⟨_, rfl⟩
              have hdd : docd x = some d := by unfold docd; rw [if_neg (by omega), if_pos ⟨a3, a4⟩, hd]
              rw [hdd] at HN
              obtain ⟨g, hg⟩ : ∃ g, g = x - 97 := ⟨_, rfl⟩
              have d16 : (d : Int) < 16 := by omega
              have e1 : IntKind.u8.wrap ((x : Int) - 97) = (g : Int) := by rw [IntWalk.u8_in _ (by omega)]; omega
              have e2 : IntKind.u64.wrap (g : Int) = (g : Int) := IntWalk.u64_in _ (by omega)
              have e3 : IntKind.u64.wrap ((g : Int) + 10) = (d : Int) := by rw [IntWalk.u64_in _ (by omega)]; omega
              obtain ⟨Uh, Ul, q, H2, L2, g1, g2, g3, g4, g5, g6, g7, g8⟩ := doc_words H L d hH hL (by omega)
              have HE := Lib.hid g8
              clear g8 hdd hd hg a1 a2 a3 a4 HSK
              go_wp2_with fail
              go_roundg j
              case measure => omega
              case rel => exact ⟨i + 1, H2, L2, by simp, by omega, g6, g7, by rw [← HE.out]; exact HN.out, by simp [go_sem, *], by simp [go_sem, *], HR.out.set _ _⟩
            · have a4i : ¬ (x : Int) ≤ 102 := by omega
              have HS2 := Lib.hid (HSK.out (by unfold docd; rw [if_neg (by omega), if_neg (by omega)]))
              clear HN HSK a1 a2 a3 a4
              go_wp2_with fail
              go_roundg j
              case measure => omega
              case rel => exact ⟨i + 1, H, L, by simp, by omega, hH, hL, HS2.out, c1, c0_, HR.out⟩
          · have a3i : ¬ (97 : Int) ≤ (x : Int) := by omega
            have HS2 := Lib.hid (HSK.out (by unfold docd; rw [if_neg (by omega), if_neg (by omega)]))
            clear HN HSK a1 a2 a3
            go_wp2_with fail
            go_roundg j
            case measure => omega
            case rel => exact ⟨i + 1, H, L, by simp, by omega, hH, hL, HS2.out, c1, c0_, HR.out⟩
      · have a1i : ¬ (48 : Int) ≤ (x : Int) := by omega
        have a3i : ¬ (97 : Int) ≤ (x : Int) := by omega
        have HS2 := Lib.hid (HSK.out (by unfold docd; rw [if_neg (by omega), if_neg (by omega)]))
        clear HN HSK a1
        go_wp2_with fail
        go_roundg j
        case measure => omega
        case rel => exact ⟨i + 1, H, L, by simp, by omega, hH, hL, HS2.out, c1, c0_, HR.out⟩
set_option maxRecDepth 20000 in
theorem rparse_long (s : ByteArray) (n1 : 40 < s.size) (w : World) :
    Calls Try.prog 14 #[.string s] w fun e w' => e = .returned (.agg #[.int .i64 0, .int .u64 0, .bool false]) ∧ Below w.heap.size w w' := by
  have n2 : (40 : Int) < (s.size : Int) := by omega
  go_enter Try.func14, Try.ntmps14
  go_wp2_with fail
  refine bodyPost_ret (by simp [results, Try.results14, go_sem, *]; try rfl) rfl ?_
  exact ⟨rfl, by repeat (first | with_reducible exact Below.refl _ _ | with_reducible refine Below.setCell ?_ (by first | (simp; done) | omega | (simp <;> omega)) _ | with_reducible refine bl_al ?_ _ | with_reducible apply Below.drew)⟩
end Go.Proofs.Ytgiamnehncbihaa
namespace Go.Proofs.Ytgiamnehncbihaa
open Go.RowKit
theorem docm_lt (bs : List UInt8) : ∀ V, V < 340282366920938463463374607431768211456 → docm V bs < 340282366920938463463374607431768211456 := by
  induction bs with
  | nil => intro V h; exact h
  | cons b bs ih =>
    intro V h
    refine ih _ ?_
    split
    · exact Nat.mod_lt _ (by decide)
    · exact h
theorem docd_hexb : ∀ x : Nat, x < 16 → docd (hexb x).toNat = some x := by decide
theorem docm_hexB (w n : Nat) : ∀ V, (V + 1) * 16 ^ n ≤ 340282366920938463463374607431768211456 → ∀ rest, docm V (hexB w n ++ rest) = docm (V * 16 ^ n + w % 16 ^ n) rest := by
  induction n with
  | zero => intro V _ rest; simp [hexB, Nat.mod_one]
  | succ n ih =>
    intro V h rest
    have hd : w / 16 ^ n % 16 < 16 := Nat.mod_lt _ (by decide)
    have e1 : w % 16 ^ (n + 1) = w % 16 ^ n + 16 ^ n * (w / 16 ^ n % 16) := by rw [Nat.pow_succ, Nat.mod_mul]
    show docm V (hexb (w / 16 ^ n % 16) :: (hexB w n ++ rest)) = _
    rw [e1]
    generalize w / 16 ^ n % 16 = d at *
    have hp : 1 ≤ 16 ^ n := Nat.pow_pos (by decide)
    have h2 : (V * 16 + 16) * 16 ^ n ≤ 340282366920938463463374607431768211456 := by
      have : (V * 16 + 16) * 16 ^ n = (V + 1) * 16 ^ (n + 1) := by rw [Nat.pow_succ, Nat.mul_comm (16 ^ n) 16, ← Nat.mul_assoc, Nat.add_mul V 1 16]
      omega
    have h3 : V * 16 + 16 ≤ 340282366920938463463374607431768211456 := by
      have := Nat.mul_le_mul_left (V * 16 + 16) hp
      omega
    have h4 : (V * 16 + d + 1) * 16 ^ n ≤ 340282366920938463463374607431768211456 := Nat.le_trans (Nat.mul_le_mul_right _ (by omega)) h2
    have e2 : docm V (hexb d :: (hexB w n ++ rest)) = docm (V * 16 + d) (hexB w n ++ rest) := by
      show docm (match docd (hexb d).toNat with | some d => (V * 16 + d) % 340282366920938463463374607431768211456 | none => V) _ = _
      rw [docd_hexb d hd]
      show docm ((V * 16 + d) % 340282366920938463463374607431768211456) _ = _
      rw [Nat.mod_eq_of_lt (by omega)]
    rw [e2, ih _ h4]
    congr 1
    rw [Nat.pow_succ, Nat.add_mul, Nat.mul_comm (16 ^ n) 16, ← Nat.mul_assoc, Nat.mul_comm (16 ^ n) d]
    omega
theorem docm_skip (V : Nat) (b : UInt8) (bs : List UInt8) (h : docd b.toNat = none) : docm V (b :: bs) = docm V bs := by
  show docm (match docd b.toNat with | some d => (V * 16 + d) % 340282366920938463463374607431768211456 | none => V) bs = _
  rw [h]
theorem docm_num (A L : Nat) (a : A < 9223372036854775808) (l : L < 18446744073709551616) : docm 0 (hexB A (hexc A) ++ 46 :: hexB L 16) = A * 18446744073709551616 + L := by
  have h1 := hexc_room A
  have h2 : hexc A ≤ 16 := hexc_word (by omega)
  have h3 : 16 ^ hexc A ≤ 16 ^ 16 := Nat.pow_le_pow_right (by decide) h2
  rw [docm_hexB A (hexc A) 0 (by omega), Nat.mod_eq_of_lt h1, docm_skip _ 46 _ (by decide), ← List.append_nil (hexB L 16), docm_hexB L 16 _ (by omega), Nat.mod_eq_of_lt (word_16 l)]
  show (0 * 16 ^ hexc A + A) * 16 ^ 16 + L = A * 18446744073709551616 + L
  rw [Nat.zero_mul, Nat.zero_add, show (16 : Nat) ^ 16 = 18446744073709551616 by decide]
theorem docm_txt (x : Int) (hx : My x) : docm 0 (txt x) = x.natAbs := by
  obtain ⟨h0, h1⟩ := hx
  have a : x.natAbs / 18446744073709551616 < 9223372036854775808 := by omega
  have l : x.natAbs % 18446744073709551616 < 18446744073709551616 := Nat.mod_lt _ (by decide)
  have e := docm_num _ _ a l
  by_cases c : x < 0
  · rw [txt_neg x _ _ rfl rfl c, docm_skip _ 45 _ (by decide), e]; omega
  · rw [txt_pos x _ _ rfl rfl c, e]; omega
/-- Does a text begin with a sign? -/
def docb : List UInt8 → Bool
  | [] => false
  | c :: _ => c == 45
theorem docb_txt (x : Int) : docb (txt x) = decide (x < 0) := by
  by_cases c : x < 0
  · rw [txt_neg x _ _ rfl rfl c, decide_eq_true c]; rfl
  · rw [txt_pos x _ _ rfl rfl c, decide_eq_false c]
    have hp := hexc_pos (x.natAbs / 18446744073709551616)
    have hl := hexB_length (x.natAbs / 18446744073709551616) (hexc (x.natAbs / 18446744073709551616))
    have hm := hexB_mem (x.natAbs / 18446744073709551616) (hexc (x.natAbs / 18446744073709551616))
    generalize hexB (x.natAbs / 18446744073709551616) (hexc (x.natAbs / 18446744073709551616)) = l at *
    rcases l with _ | ⟨b, l⟩
    · simp at hl; omega
    · have hb := (hm b (by simp)).1
      show (b == 45) = false
      simpa using hb
theorem byte_45 (c : UInt8) : (((c.toNat : Nat) : Int) == 45) = (c == 45) := by
  by_cases h : c = 45
  · subst h; rfl
  · have : ¬ ((c.toNat : Nat) : Int) = 45 := fun e => h (by
      have e2 : c.toNat = 45 := by omega
      exact UInt8.toNat_inj.1 e2)
    rw [beq_eq_false_iff_ne.2 this, beq_eq_false_iff_ne.2 h]
theorem rparse_at (s : ByteArray) (n1 : s.size ≤ 40) (r : Bool) (o : Int)
    (cs : ¬ My (sg (docb s.data.toList) (docm 0 s.data.toList)) ∧ r = false ∧ o = 0 ∨ My (sg (docb s.data.toList) (docm 0 s.data.toList)) ∧ txt (sg (docb s.data.toList) (docm 0 s.data.toList)) ≠ s.data.toList ∧ r = false ∧ o = 0 ∨ My (sg (docb s.data.toList) (docm 0 s.data.toList)) ∧ txt (sg (docb s.data.toList) (docm 0 s.data.toList)) = s.data.toList ∧ r = true ∧ o = sg (docb s.data.toList) (docm 0 s.data.toList)) (w : World) :
    Calls Try.prog 14 #[.string s] w fun e w' => e = .returned (.agg #[.int .i64 (fh o), .int .u64 (fl o), .bool r]) ∧ Below w.heap.size w w' := by
  have hlt := docm_lt s.data.toList 0 (by decide)
  obtain ⟨n, hn⟩ : ∃ n, n = docm 0 s.data.toList := ⟨_, rfl⟩
  have CS := fun W => rsigned_any (docb s.data.toList) (docm 0 s.data.toList) (Nat.lt_trans hlt (by decide)) W
  rw [← hn] at hlt cs CS
  rw [show wd n 3 = 0 by unfold wd; rw [Nat.div_eq_of_lt (Nat.lt_of_lt_of_le hlt (by decide))]; rfl, show wd n 2 = 0 by unfold wd; rw [Nat.div_eq_of_lt (Nat.lt_of_lt_of_le hlt (by decide))]; rfl] at CS
  obtain ⟨v, hv⟩ : ∃ v, v = sg (docb s.data.toList) n := ⟨_, rfl⟩
  rw [← hv] at cs CS
  have CT := fun W => rtext_any (ov v) (My.fx (ov_My v)) W
  have hh : wd n 1 = ((n / 18446744073709551616 : Nat) : Int) := by rw [wd1, Nat.mod_eq_of_lt (by omega)]
  have hl : wd n 0 = ((n % 18446744073709551616 : Nat) : Int) := by rw [wd0]
  have cs2 : oe v = 3 ∧ r = false ∧ fh o = 0 ∧ fl o = 0 ∨ oe v = 0 ∧ ((⟨(txtF (ov v)).toArray⟩ : ByteArray).toList == s.toList) = false ∧ r = false ∧ fh o = 0 ∧ fl o = 0 ∨ oe v = 0 ∧ ((⟨(txtF (ov v)).toArray⟩ : ByteArray).toList == s.toList) = true ∧ r = true ∧ fh (ov v) = fh o ∧ fl (ov v) = fl o := by
    rw [Lib.toList_data, Lib.toList_data]
    rcases cs with ⟨h, hr, ho⟩ | ⟨h, ht, hr, ho⟩ | ⟨h, ht, hr, ho⟩
    · exact Or.inl ⟨oe_out h, hr, by rw [ho]; rfl, by rw [ho]; rfl⟩
    · refine Or.inr (Or.inl ⟨oe_in h, ?_, hr, by rw [ho]; rfl, by rw [ho]; rfl⟩)
      rw [ov_in h, txtF_my h]
      exact beq_eq_false_iff_ne.2 ht
    · refine Or.inr (Or.inr ⟨oe_in h, ?_, hr, by rw [ho, ov_in h], by rw [ho, ov_in h]⟩)
      rw [ov_in h, txtF_my h, ← ht]
      exact beq_self_eq_true _
  rcases Nat.eq_zero_or_pos s.size with z | z
  · have e0 : docb s.data.toList = false := by
      rcases hs : s.data.toList with _ | ⟨c, cs⟩
      · rfl
      · have : s.data.toList.length = 0 := z
        rw [hs] at this; simp at this
    rw [e0] at CS
    exact rparse_empty s _ _ _ _ _ _ _ _ r z n1 w (by rw [hh, hn]) (by rw [hl, hn]) CS CT cs2
  · obtain ⟨c, cs', hs⟩ : ∃ c cs', s.data.toList = c :: cs' := by
      rcases hs : s.data.toList with _ | ⟨c, cs⟩
      · have : s.data.toList.length = s.size := rfl
        rw [hs] at this; simp at this; omega
      · exact ⟨c, cs, rfl⟩
    have hix : ∀ W : World, (Instr.index 9 (.string s) (.int .i64 0)).run Try.prog W = .ok (.int .u8 ((c.toNat : Nat) : Int)) W := by
      intro W
      have h0 : 0 < s.data.toList.length := z
      have g := run_index_string (P := Try.prog) W 9 s .i64 ((0 : Nat) : Int) (by kernel_rfl)
      rw [dif_pos ⟨by omega, by omega⟩] at g
      rw [show (0 : Int) = ((0 : Nat) : Int) from rfl, g]
      have e : s.data.toList[0] = c := by simp [hs]
      rw [← e]; rfl
    have e0 : docb s.data.toList = (((c.toNat : Nat) : Int) == 45) := by rw [hs, byte_45]; rfl
    rw [e0] at CS
    exact rparse_core s _ _ _ _ _ _ _ _ _ r z n1 w (by rw [hh, hn]) (by rw [hl, hn]) hix CS CT cs2
theorem rparse_txt (x : Int) (hx : My x) (s : ByteArray) (hs : s.data.toList = txt x) (w : World) :
    Calls Try.prog 14 #[.string s] w fun e w' => e = .returned (.agg #[.int .i64 (fh x), .int .u64 (fl x), .bool true]) ∧ Below w.heap.size w w' := by
  have e : sg (docb s.data.toList) (docm 0 s.data.toList) = x := by rw [hs, docb_txt, docm_txt x hx, sg_abs]
  refine rparse_at s ?_ true x (Or.inr (Or.inr ?_)) w
  · have := txt_len x hx
    have h2 : s.data.toList.length = s.size := rfl
    rw [hs] at h2; omega
  · rw [e, hs]; exact ⟨hx, rfl, rfl, rfl⟩
theorem rparse_no (s : ByteArray) (hs : ∀ x, My x → s.data.toList ≠ txt x) (w : World) :
    Calls Try.prog 14 #[.string s] w fun e w' => e = .returned (.agg #[.int .i64 0, .int .u64 0, .bool false]) ∧ Below w.heap.size w w' := by
  rcases Nat.lt_or_ge 40 s.size with c | c
  · exact rparse_long s c w
  · by_cases m : My (sg (docb s.data.toList) (docm 0 s.data.toList))
    · exact rparse_at s c false 0 (Or.inr (Or.inl ⟨m, fun h => hs _ m h.symm, rfl, rfl⟩)) w
    · exact rparse_at s c false 0 (Or.inl ⟨m, rfl, rfl⟩) w
end Go.Proofs.Ytgiamnehncbihaa
namespace Go.Proofs.Ytgiamnehncbihaa
open Go.RowKit
set_option maxRecDepth 20000 in
set_option maxHeartbeats 8000000 in
theorem all_core (h l oh ol : Int) (r : Bool) (s U : ByteArray) (M : Value) (n1 : s.size ≤ 200) (w : World) (hm : w.cell? ⟨0, 0, none⟩ = some M)
    (C1 : ∀ W : World, W.cell? ⟨0, 0, none⟩ = some M → Calls Try.prog 13 #[.string s] W fun e w' => e = .returned (.tuple #[.agg #[.int .i64 oh, .int .u64 ol], .bool r]) ∧ Below W.heap.size W w')
    (C2 : ∀ W, Calls Try.prog 14 #[.string s] W fun e w' => e = .returned (.agg #[.int .i64 oh, .int .u64 ol, .bool r]) ∧ Below W.heap.size W w')
    (C3 : ∀ W, Calls Try.prog 15 #[.agg #[.int .i64 h, .int .u64 l]] W fun e w' => e = .returned (.string U) ∧ Below W.heap.size W w')
    (C4 : ∀ W, Calls Try.prog 16 #[.agg #[.int .i64 h, .int .u64 l]] W fun e w' => e = .returned (.string U) ∧ Below W.heap.size W w')
    (C5 : ∀ W : World, W.cell? ⟨0, 0, none⟩ = some M → Calls Try.prog 12 #[] W fun e w' => e = .returned (.bool true) ∧ Below W.heap.size W w') :
    Calls Try.prog 3 #[.agg #[.int .i64 h, .int .u64 l], .string s] w fun e w' => e = .returned (.bool true) ∧ Below w.heap.size w w' := by
  have K1 := Lib.hid C1; have K2 := Lib.hid C2; have K3 := Lib.hid C3; have K4 := Lib.hid C4; have K5 := Lib.hid C5; have HM := Lib.hid hm
  clear C1 C2 C3 C4 C5
  have zm : 0 < w.heap.size := World.block_lt_of_cell? _ _ hm
  clear hm
  have n2 : ¬ (200 : Int) < (s.size : Int) := by omega
  have q : ∀ W, (Go.binOp .eql 24 (.agg #[.int .i64 oh, .int .u64 ol]) (.agg #[.int .i64 oh, .int .u64 ol])).run Try.prog W = .ok (.bool true) W := eq_fix_true oh ol
  clear n1
  go_enter Try.func3, Try.ntmps3
  go_wp2_with fail
  (with_reducible refine (K1.out _ (by rw [World.cell?_alloc_lt _ _ _ zm]; exact HM.out)).mono ?_); rintro e w1 ⟨rfl, hb⟩
  obtain ⟨hcl1, hfr1⟩ := bcell hb
  have a1 : w1.cell? ⟨w.heap.size, 0, none⟩ = some (.int .i64 h) := by rw [hcl1 _ _ (by simp)]; simp [go_sem]
  have b1 : w1.cell? ⟨w.heap.size, 1, none⟩ = some (.int .u64 l) := by rw [hcl1 _ _ (by simp)]; simp [go_sem]
  have z1 : w.heap.size < w1.heap.size := by have hz := hb.size; simp at hz; omega
  have HB1 := Lib.hid (bl_trans (bl_al (Below.refl _ _) _) hb)
  clear hb hcl1 hfr1
  go_wp2_with fail
  (with_reducible refine (K2.out _).mono ?_); rintro e w2 ⟨rfl, hb⟩
  obtain ⟨hcl2, hfr2⟩ := bcell hb
  have a2 : w2.cell? ⟨w.heap.size, 0, none⟩ = some (.int .i64 h) := by rw [hcl2 _ _ (by simp; omega)]; simp [go_sem, *]
  have b2 : w2.cell? ⟨w.heap.size, 1, none⟩ = some (.int .u64 l) := by rw [hcl2 _ _ (by simp; omega)]; simp [go_sem, *]
  have x2 : w2.cell? ⟨w1.heap.size, 0, none⟩ = some (.int .i64 oh) := by rw [hcl2 _ _ (by simp)]; simp [go_sem]
  have y2 : w2.cell? ⟨w1.heap.size, 1, none⟩ = some (.int .u64 ol) := by rw [hcl2 _ _ (by simp)]; simp [go_sem]
  have z2 : w1.heap.size < w2.heap.size := by have hz := hb.size; simp at hz; omega
  have HB2 := Lib.hid (bl_trans (bl_al HB1.out _) hb)
  clear hb hcl2 hfr2 a1 b1 HB1
  go_upto_region 5 with fail
  refine name_world (P := fun W => Code.wp _ _ _ _ W) _ (fun R hR => ?_)
  have za : w.heap.size < R.heap.size := by rw [hR]; simp; omega
  have zx : w1.heap.size < R.heap.size := by rw [hR]; simp; omega
  have zy : w2.heap.size < R.heap.size := by rw [hR]; simp
  have za2 : w.heap.size < w2.heap.size := by omega
  have aR : R.cell? ⟨w.heap.size, 0, none⟩ = some (.int .i64 h) := by rw [hR]; simp [go_sem, *]
  have bR : R.cell? ⟨w.heap.size, 1, none⟩ = some (.int .u64 l) := by rw [hR]; simp [go_sem, *]
  have xR : R.cell? ⟨w1.heap.size, 0, none⟩ = some (.int .i64 oh) := by rw [hR]; simp [go_sem, *]
  have yR : R.cell? ⟨w1.heap.size, 1, none⟩ = some (.int .u64 ol) := by rw [hR]; simp [go_sem, *]
  have p0 : R.cell? ⟨w2.heap.size, 0, none⟩ = some (.int .i64 oh) := by rw [hR]; simp [go_sem]
  have p1 : R.cell? ⟨w2.heap.size, 1, none⟩ = some (.int .u64 ol) := by rw [hR]; simp [go_sem]
  have p2 : R.cell? ⟨w2.heap.size, 2, none⟩ = some (.bool r) := by rw [hR]; simp [go_sem]
  have HBR : Hid (Below w.heap.size w R) := by rw [hR]; exact bl_al HB2.out _
  clear hR a2 b2 x2 y2 HB2 K1 K2
  have hst : (U.toList == U.toList) = true := beq_self_eq_true _
  go_region_held3 (fun w' => w'.cell? ⟨w.heap.size, 0, none⟩ = some (.int .i64 h) ∧ w'.cell? ⟨w.heap.size, 1, none⟩ = some (.int .u64 l) ∧ w'.cell? ⟨w1.heap.size, 0, none⟩ = some (.int .i64 oh) ∧ w'.cell? ⟨w1.heap.size, 1, none⟩ = some (.int .u64 ol) ∧ w'.cell? ⟨w2.heap.size, 0, none⟩ = some (.int .i64 oh) ∧ w'.cell? ⟨w2.heap.size, 1, none⟩ = some (.int .u64 ol) ∧ w'.cell? ⟨w2.heap.size, 2, none⟩ = some (.bool r)) (first | (simp [*, go_sem]; done))
    (first
      | (go_at_call 15; (with_reducible refine (K3.out _).mono ?_); rintro e y1 ⟨rfl, hb⟩; obtain ⟨hcy1, hfy1⟩ := bcell_drew hb; have zy1 : w2.heap.size < y1.heap.size := (by have hz := hb.size; simp at hz; omega); have zy1x : w1.heap.size < y1.heap.size := (by omega); have zy1a : w.heap.size < y1.heap.size := (by omega); have HC1 : Hid (Below w.heap.size w y1) := (bl_trans (by first | with_reducible exact HBR.out.drew | with_reducible exact HBR.out) hb); clear hb)
      | (go_at_call 16; (with_reducible refine (K4.out _).mono ?_); rintro e y2 ⟨rfl, hb⟩; obtain ⟨hcy2, hfy2⟩ := bcell hb; have zy2 : w2.heap.size < y2.heap.size := Nat.lt_of_lt_of_le zy1 hb.size; have zy2x : w1.heap.size < y2.heap.size := (by omega); have zy2a : w.heap.size < y2.heap.size := (by omega); have HC2 : Hid (Below w.heap.size w y2) := (bl_trans HC1.out hb); clear hb; have my2 : y2.cell? ⟨0, 0, none⟩ = some M := (by rw [(bcell HC2.out).1 _ _ zm]; exact HM.out))
      | (go_at_call 12; (with_reducible refine (K5.out _ my2).mono ?_); rintro e y4 ⟨rfl, hb⟩; obtain ⟨hcy4, hfy4⟩ := bcell hb; have HC4 : Hid (Below w.heap.size w y4) := (bl_trans HC2.out hb); clear hb))
  rename_i hHeld
  clear hHeld
  go_wp2_with fail
  go_returns
  exact ⟨rfl, HC4.out⟩
set_option maxRecDepth 20000 in
theorem all_long (h l : Int) (s : ByteArray) (M : Value) (n1 : 200 < s.size) (w : World) (hm : w.cell? ⟨0, 0, none⟩ = some M)
    (C5 : ∀ W : World, W.cell? ⟨0, 0, none⟩ = some M → Calls Try.prog 12 #[] W fun e w' => e = .returned (.bool true) ∧ Below W.heap.size W w') :
    Calls Try.prog 3 #[.agg #[.int .i64 h, .int .u64 l], .string s] w fun e w' => e = .returned (.bool true) ∧ Below w.heap.size w w' := by
  have zm : 0 < w.heap.size := World.block_lt_of_cell? _ _ hm
  have n2 : (200 : Int) < (s.size : Int) := by omega
  clear n1
  go_enter Try.func3, Try.ntmps3
  go_wp2_with fail
  (with_reducible refine (C5 _ (by rw [World.cell?_alloc_lt _ _ _ zm]; exact hm)).mono ?_); rintro e w1 ⟨rfl, hb⟩
  have HB1 := Lib.hid (bl_trans (bl_al (Below.refl _ _) _) hb)
  clear hb
  go_wp2_with fail
  go_returns
  exact ⟨rfl, HB1.out⟩
theorem all_walk (x m : Int) (s : ByteArray) (w : World) (hx : Fx x) (hm : w.cell? ⟨0, 0, none⟩ = some (.int .i64 m)) :
    Calls Try.prog 3 #[.agg #[.int .i64 (fh x), .int .u64 (fl x)], .string s] w fun e w' => e = .returned (.bool true) ∧ Below w.heap.size w w' := by
  rcases Nat.lt_or_ge 200 s.size with c | c
  · exact all_long _ _ s _ c w hm (fun W hW => hawake_any m W hW)
  · by_cases t : ∃ y, My y ∧ s.data.toList = txt y
    · obtain ⟨y, hy, hs⟩ := t
      exact all_core _ _ (fh y) (fl y) true s _ _ c w hm (fun W hW => parse_txt y hy s hs (by omega) m W hW) (fun W => rparse_txt y hy s hs W) (text_all x hx) (rtext_any x hx) (fun W hW => hawake_any m W hW)
    · have hs : ∀ y, My y → s.data.toList ≠ txt y := fun y hy e => t ⟨y, hy, e⟩
      exact all_core _ _ 0 0 false s _ _ c w hm (fun W hW => parse_no s hs (by omega) m W hW) (fun W => rparse_no s hs W) (text_all x hx) (rtext_any x hx) (fun W hW => hawake_any m W hW)
open Go.ChangeShapes Go.WideShapes Go.ChangeAt Go.RowKit Go.Joins
set_option maxRecDepth 100000 in
theorem hexaAll_lifted (os : Os) (started : os.Started) (H : Type) (enc : TypeId × Value → H) :
    ReturnsInHanded {} Try.checked os 3 .any (Rows.hexaAllSpec.pre6 enc Try.prog Try.f3 Rows.hexaAllRow.domain false) (Rows.hexaAllSpec.post enc Try.prog Try.f3 false true false false) := by
  refine returnsInHanded_of_change_shaped (C := Try.checked) Try.own started (by kernel_rfl) Try.func3
    (ChangeSpec.witness6 (enc := enc) (C := Try.checked) false ⟨#[], #[.agg #[.int .i64 0, .int .u64 0], .string ⟨#[]⟩], []⟩ 8 (by kernel_rfl) (by kernel_rfl) (by kernel_rfl) (by kernel_rfl)) ?_
  intro W base args ds gs before hval0 hW hcnd _ hsh _
  have hval : ∀ (j : Nat) t v, Try.f3.params[j]? = some t → args[j]? = some v → Value.okWide Try.prog W .any base t v := hval0
  have hW' := hW
  obtain ⟨p, q, hA0, hV, rfl, hfz, hnd⟩ := hW
  have hA : DataW.TrodAll enc Try.prog W 0 (fun _ => true) true Try.f3.params.toList args.toList ds p := hA0
  rw [Try.params3] at hA hval
  obtain ⟨v0, v1, d0, d1, p0, p1, rfl, rfl, rfl, h0, h1⟩ := trodAll_two hA
  obtain ⟨rfl, rfl⟩ := trodVars_none hV
  obtain ⟨x, rfl, rfl, rfl, k00⟩ := open_fix (hval 0 24 v0 rfl rfl) h0
  obtain ⟨s, rfl, rfl, rfl, k10⟩ := Go.ChangeMaps.open_string Try.underlying9 (hval 1 9 v1 rfl rfl) h1
  obtain ⟨m, hm⟩ := maxlen_cell W hsh
  clear hA0 hval0
  simp only [List.append_nil] at hW'
  refine (all_walk x m s W k00 hm).mono fun e W' ⟨he, hb⟩ => ?_
  subst he
  exact ⟨_, rfl, _, _, _, [], [], [], hW', trodAll_mk1 (shut_bool Try.underlying4 _), trodAll_mk2 (shut_fix k00) (Go.ChangeMaps.shut_string Try.underlying9 k10), rfl, hb.frame _, fun h => by cases h⟩
theorem hexaAll_holds : Rows.HexaAllSaid :=
  OpenClaim.holds_of_wide 3 Try.f3 rfl rfl rfl rfl rfl rfl rfl ⟨rfl, rfl, rfl, rfl, rfl⟩ rfl rfl rfl rfl rfl (by kernel_rfl) Try.func3 (by kernel_rfl)
    (of_decide_eq_true (by kernel_rfl)) (by unfold Func.isWrapper; first | (rw [if_pos (by decide +kernel)]; kernel_rfl) | (rw [if_neg (by decide +kernel)]; exact ⟨rfl, rfl⟩))
    (fun os started H enc _ => hexaAll_lifted os started H enc)
end Go.Proofs.Ytgiamnehncbihaa
