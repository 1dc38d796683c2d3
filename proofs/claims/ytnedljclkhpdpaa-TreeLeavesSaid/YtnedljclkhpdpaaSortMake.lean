/- The law's Make: lists by numbers. -/
import Derived.Test.YtnedljclkhpdpaaSortOpen
import Derived.Deep.AppendLies
namespace Go.Proofs.Ytnedljclkhpdpaa
open Go.RowKit
/-- A slice of bytes, nil let in. -/
def Bs (w : World) (A : Option Addr) (n : Nat) (l : List Nat) : Prop :=
  l.length = n ∧ (∀ b ∈ l, b < 256) ∧ (0 < n → ∃ B o : Nat, A = some ⟨B, o, none⟩ ∧ B < w.heap.size ∧ ∀ (j b : Nat), l[j]? = some b → w.cell? ⟨B, o + j, none⟩ = some (.int .u8 (b : Int)))
theorem Bs.below {w w' : World} {A : Option Addr} {n : Nat} {l : List Nat} (h : Bs w A n l) (g : Below w.heap.size w w') : Bs w' A n l :=
  ⟨h.1, h.2.1, fun hn => by
    obtain ⟨B, o, e, hb, hc⟩ := h.2.2 hn
    refine ⟨B, o, e, Nat.lt_of_lt_of_le hb g.size, fun j x hx => ?_⟩
    rw [g.cell (p := ⟨B, o + j, none⟩) hb]
    exact hc j x hx⟩
theorem Bs.at_ {w : World} {A : Option Addr} {n : Nat} {l : List Nat} (h : Bs w A n l) {k : Nat} (hk : k < n) :
    ∃ (B o b : Nat), A = some ⟨B, o, none⟩ ∧ B < w.heap.size ∧ l[k]? = some b ∧ b < 256 ∧ w.cell? ⟨B, o + k, none⟩ = some (.int .u8 (b : Int)) := by
  obtain ⟨B, o, e, hb, hc⟩ := h.2.2 (by omega)
  have hl : k < l.length := by have := h.1; omega
  have hx := List.getElem?_eq_getElem hl
  exact ⟨B, o, l[k], e, hb, hx, h.2.1 _ (List.getElem_mem hl), hc k _ hx⟩
section
open Go.ChangeShapes Go.WideShapes Go.ChangeAt Go.RowKit Go.Joins
variable {H : Type} {enc : TypeId × Value → H} {w : World} {base : Nat} {spare : Nat → Bool} {held : Bool}
set_option maxRecDepth 20000 in
theorem open_bytes {r : Reach} {b0 : Nat} {v : Value} {d : DataW H} {p : List MemPlace} (hv : Value.okWide Try.prog w r b0 33 v) (h : DataW.Trod enc Try.prog w base spare held 33 v d p) :
    ∃ (A : Option Addr) (n c : Nat) (l : List Nat), v = .slice A n c ∧ (A = none → n = 0 ∧ c = 0) ∧ Bs w A n l ∧ n ≤ maxLen := by
  obtain ⟨A, n, c, rfl⟩ := okWide_slice Try.underlying33 hv
  obtain ⟨fuel, hf⟩ := h
  have hf : DataW.trod enc Try.prog w base spare held fuel 33 [.slice A n c] = some (d, p) := by simpa [Value.cells] using hf
  rcases Go.Deep.open_slice1 Try.underlying33 (by kernel_rfl) hf with ⟨e, _⟩ | ⟨a, len, cap, m, k, V, D, P, e, hb, hl, hm, hmm, _, hx⟩
  · simp only [List.cons.injEq, Value.slice.injEq, and_true] at e
    obtain ⟨rfl, rfl, rfl⟩ := e
    exact ⟨none, 0, 0, [], rfl, fun _ => ⟨rfl, rfl⟩, ⟨rfl, by simp, fun h => by omega⟩, Nat.zero_le _⟩
  · simp only [List.cons.injEq, Value.slice.injEq, and_true] at e
    obtain ⟨rfl, rfl, rfl⟩ := e
    have hlm : n ≤ m := by rw [hmm]; split <;> omega
    have val : ∀ j, j < n → ∃ z : Int, V j = .int .u8 z ∧ 0 ≤ z ∧ z < 256 := fun j hj => by
      obtain ⟨_, t0⟩ := hx j (by omega)
      obtain ⟨z, e0, _, w0⟩ := DataW.trod_int Try.underlying5 t0
      simp only [List.cons.injEq, and_true] at e0
      refine ⟨z, e0, ?_⟩
      simp [Lit.wf, IntKind.min, IntKind.max, IntKind.bits, IntKind.signed] at w0; omega
    refine ⟨some a, n, c, (List.range n).map fun i => (intOf (V i)).toNat, rfl, by simp, ⟨by simp, fun b hb => ?_, fun hn => ?_⟩, by omega⟩
    · obtain ⟨j, hj, rfl⟩ := List.mem_map.1 hb
      obtain ⟨z, e, z0, z1⟩ := val j (List.mem_range.1 hj)
      rw [e]; show z.toNat < 256; omega
    · obtain ⟨h0, _⟩ := hx 0 (by omega)
      have hs : a.spot = none := by simpa [Addr.add] using World.cell?_spot h0
      have hlt := World.block_lt_of_cell? _ _ h0
      obtain ⟨B, o, s⟩ := a
      obtain rfl : s = none := hs
      refine ⟨B, o, rfl, by rw [block_of_add] at hlt; exact hlt, fun j b hxj => ?_⟩
      have hj : j < n := by have := (List.getElem?_eq_some_iff.1 hxj).1; simpa using this
      rw [List.getElem?_map, List.getElem?_range hj] at hxj
      obtain rfl : (intOf (V j)).toNat = b := by simpa using hxj
      obtain ⟨g0, _⟩ := hx j (by omega)
      obtain ⟨z, e, z0, z1⟩ := val j hj
      rw [add_plain] at g0
      rw [g0, e]
      show some (Value.int .u8 z) = some (.int .u8 ((z.toNat : Nat) : Int))
      rw [Int.toNat_of_nonneg z0]
end
/-- A byte's key. -/
def bkey (b : Nat) : Nat := b % 8 * 2 ^ (8 * (b / 8 % 8))
theorem bkey_lt (b : Nat) : bkey b < 18446744073709551616 := by
  unfold bkey
  have h : 2 ^ (8 * (b / 8 % 8)) ≤ 2 ^ 56 := Nat.pow_le_pow_right (by decide) (by omega)
  have h2 : b % 8 * 2 ^ (8 * (b / 8 % 8)) ≤ 7 * 2 ^ 56 := Nat.mul_le_mul (by omega) h
  simp only [Nat.reducePow] at h2
  omega
/-- The list that Make makes. -/
def mk_ (l : List Nat) : List (Nat × Int) := (l.take 100).zipIdx.map fun p => (bkey p.1, (p.2 : Int))
theorem mk_len (l : List Nat) : (mk_ l).length = min 100 l.length := by unfold mk_; simp
theorem mk_at {l : List Nat} {i b : Nat} (h : l[i]? = some b) (hi : i < 100) : (mk_ l)[i]? = some (bkey b, (i : Int)) := by
  unfold mk_
  rw [List.getElem?_map, List.getElem?_zipIdx, List.getElem?_take, if_pos hi, h]
  simp
theorem flat_snoc (L : List (Nat × Int)) (x : Nat × Int) : flat (L ++ [x]) = flat L ++ [.int .u64 (x.1 : Int), .int .i64 x.2] := by
  unfold flat; rw [List.flatMap_append]; rfl
theorem take_snoc_at {α : Type} {L : List α} {i : Nat} {x : α} (h : L[i]? = some x) : L.take (i + 1) = L.take i ++ [x] := by
  have hl := List.getElem?_eq_some_iff.1 h
  rw [List.take_succ_eq_append_getElem hl.1, hl.2]
/-- A list by numbers, in new memory. -/
def Made (w : World) (L : List (Nat × Int)) (e : Ending) (w' : World) : Prop :=
  (∃ v, e = .returned v ∧ w'.ownsRow w.heap.size 36 2 v L.length (flat L)) ∧ Below w.heap.size w w'
set_option maxRecDepth 20000 in
set_option maxHeartbeats 8000000 in
theorem make_any (A : Option Addr) (n c : Nat) (l : List Nat) (hn : n ≤ maxLen) (w : World) (hl : Bs w A n l) :
    Calls Try.prog 17 #[.slice A n c] w (Made w (mk_ l)) := by
  have HL := Lib.hid hl; have HN := Lib.hid hn
  obtain ⟨i0, hi0, hz0, hz1, hz2⟩ := info_parts kd_info
  have HI := Lib.hid hi0; have HZ0 := Lib.hid hz0; have HZ1 := Lib.hid hz1; have HZ2 := Lib.hid hz2
  clear hi0 hz0 hz1 hz2 hl hn
  go_enter Try.func17, Try.ntmps17
  go_wp2_with fail
  go_loopg [3, 4] (min 100 n) (fun k vr iv wr => ∃ i : Nat, i + k = min 100 n ∧ iv = .int .i64 (i : Int) ∧ wr.ownsRow w.heap.size 36 2 vr i (flat ((mk_ l).take i)) ∧ Below w.heap.size w wr)
  case atStart => exact ⟨0, by omega, rfl, World.ownsRow_nil _ _ _ _, Below.refl _ _⟩
  case round =>
    obtain ⟨i, hk, rfl, hown, hbl⟩ := hrel
    have HB := Lib.hid hbl; have HO := Lib.hid hown
    have h9 := HN.out
    unfold maxLen at h9
    clear hbl hown
    by_cases hlt : i < n
    · by_cases h100 : i < 100
      · obtain ⟨B, o, b, rfl, zB0, hb, hb256, c0⟩ := HL.out.at_ (k := i) hlt
        rw [← HB.out.cell (p := ⟨B, o + i, none⟩) zB0] at c0
        have zB : B < wr.heap.size := Nat.lt_of_lt_of_le zB0 HB.out.size
        have zB1 : ¬ (B = wr.heap.size) := by omega
        have zB2 : ¬ (wr.heap.size = B) := by omega
        have hne : u3.ownBlock ≠ some B := fun e => by
          rcases HO.out.2 with ⟨rfl, _⟩ | ⟨g, _, _, rfl, hg, _⟩
          · simp [Value.ownBlock] at e
          · simp [Value.ownBlock] at e; omega
        have HM := Lib.hid (take_snoc_at (mk_at hb h100))
        have hi : (i : Int) < (n : Int) := by omega
        have h0 : (0 : Int) ≤ (i : Int) := by omega
        have hc : (i : Int) < 100 := by omega
        have wi : IntKind.i64.wrap ((i : Int) + 1) = (i : Int) + 1 := by rw [IntWalk.i64_in _ (by omega)]
        have HK : Hid (i + gk = min 100 n) := hk
        have e1 : (b : Int).tmod 8 = ((b % 8 : Nat) : Int) := by rw [Int.tmod_eq_emod_of_nonneg (by omega)]; omega
        have e3 : (b : Int).tdiv 8 = ((b / 8 : Nat) : Int) := by rw [Int.tdiv_eq_ediv_of_nonneg (by omega)]; omega
        have e4 : ((b / 8 : Nat) : Int).tmod 8 = ((b / 8 % 8 : Nat) : Int) := by rw [Int.tmod_eq_emod_of_nonneg (by omega)]; omega
        have f1 : (b : Int) % 8 = ((b % 8 : Nat) : Int) := by omega
        have f3 : (b : Int) / 8 = ((b / 8 : Nat) : Int) := by omega
        have f4 : ((b / 8 : Nat) : Int) % 8 = ((b / 8 % 8 : Nat) : Int) := by omega
        have e2 : IntKind.u64.wrap ((b % 8 : Nat) : Int) = ((b % 8 : Nat) : Int) := IntWalk.u64_in _ (by omega)
        have e5 : IntKind.u8.wrap (8 * ((b / 8 % 8 : Nat) : Int)) = ((8 * (b / 8 % 8) : Nat) : Int) := by rw [IntWalk.u8_in _ (by omega)]; omega
        have w3 : IntKind.u8.wrap ((b / 8 : Nat) : Int) = ((b / 8 : Nat) : Int) := IntWalk.u8_in _ (by omega)
        have e6 : IntKind.u64.wrap (((b % 8 : Nat) : Int) * 2 ^ (8 * (b / 8 % 8))) = ((bkey b : Nat) : Int) := by
          have := bkey_lt b
          have e : ((b % 8 : Nat) : Int) * 2 ^ (8 * (b / 8 % 8)) = ((bkey b : Nat) : Int) := by unfold bkey; simp
          rw [e]; exact IntWalk.u64_in _ (by omega)
        have k1 : ((8 * (b / 8 % 8) : Nat) : Int) < 64 := by omega
        have k2 : ¬ ((8 * (b / 8 % 8) : Nat) : Int) < 0 := by omega
        have HV : Hid (bkey b = bkey b) := rfl
        clear hk h9 hb hb256 zB0
        generalize bkey b = v at *
        generalize 8 * (b / 8 % 8) = s at *
        generalize b / 8 % 8 = q at *
        generalize b / 8 = p at *
        generalize b % 8 = r at *
        go_upto_region 5 with fail
        go_region_held3 (fun w' => w'.cell? ⟨B, o + i, none⟩ = some (.int .u8 (b : Int)))
          (first | (simp [*, go_sem]; done) | (rw [hgrow.cell_far _ (by simp; omega) (Ne.symm hne)]; simp [*, go_sem]; done))
          ((refine step_append_lies _ (by rfl) _ _ _ (by rfl) w.heap.size 36 i0 _ 2 16 Try.underlying22 HI.out HZ0.out HZ1.out HZ2.out rfl (by omega) u3 i _ (by rfl) ((HO.out.alloc _).drew) ⟨wr.heap.size, 0, none⟩ 1 1 [.int .u64 (v : Int), .int .i64 (i : Int)] (by rfl) (by rfl) (World.news_of_block (cs := #[.int .u64 (v : Int), .int .i64 (i : Int)]) (t := 36) (fr := (0, 0)) (heap_alloc_new wr _)) (by simp [Value.oneCell']) (by omega) (by unfold maxLen; omega) (by omega) (by have := HB.out.size; simp; omega) (wr.heap.size + 1) (by simp) ?_; intro gg cap w1 hown1 hgrow hat hlt1))
        have HO1 := Lib.hid hown1
        have HB1 : Hid (Below w.heap.size w w1) := (bl_al HB.out _).drew.grown hgrow (by have := HB.out.size; simp; omega) (fun q hq => by
          rcases HO.out.2 with ⟨rfl, _⟩ | ⟨g, _, _, rfl, hg, _⟩
          · simp [Value.ownBlock] at hq
          · simp [Value.ownBlock] at hq; omega)
        rename_i hHeld
        clear hHeld hown1 hgrow hat hlt1
        go_wp2_with fail
        obtain ⟨k, rfl⟩ : ∃ k, gk = k + 1 := ⟨gk - 1, by have := HK.out; omega⟩
        go_roundg k
        case measure => omega
        case rel =>
          refine ⟨i + 1, by have := HK.out; omega, by simp, ?_, HB1.out⟩
          rw [HM.out, flat_snoc]; exact HO1.out
      · have hi : (i : Int) < (n : Int) := by omega
        have hc : ¬ (i : Int) < 100 := by omega
        have HS : Hid (Made w (mk_ l) (.returned u3) wr) := by
          refine ⟨⟨u3, rfl, ?_⟩, HB.out⟩
          have := HO.out; have hm := mk_len l; have hh := HL.out.1
          rw [List.take_of_length_le (by omega)] at this
          rw [show (mk_ l).length = i by omega]; exact this
        go_wp2_with fail
        go_returns
        exact HS.out
    · have hi : ¬ (i : Int) < (n : Int) := by omega
      have HS : Hid (Made w (mk_ l) (.returned u3) wr) := by
        refine ⟨⟨u3, rfl, ?_⟩, HB.out⟩
        have := HO.out; have hm := mk_len l; have hh := HL.out.1
        rw [List.take_of_length_le (by omega)] at this
        rw [show (mk_ l).length = i by omega]; exact this
      go_wp2_with fail
      go_returns
      exact HS.out
end Go.Proofs.Ytnedljclkhpdpaa
