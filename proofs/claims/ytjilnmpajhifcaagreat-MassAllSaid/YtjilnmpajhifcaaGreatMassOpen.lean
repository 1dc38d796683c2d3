/- A list of bodies as an argument: opened. -/
import Derived.Test.YtjilnmpajhifcaaGreatZzFixA
import Derived.Test.YtjilnmpajhifcaaGreatZzMasA
import Derived.Test.YtjilnmpajhifcaaGreatZzSrtA
import Derived.Deep.Slices
namespace Go.Proofs.YtjilnmpajhifcaaGreat
open Go.ChangeShapes Go.WideShapes Go.ChangeAt Go.RowKit Go.Joins
/-- Its numbers are words. -/
def Fb (b : Bod) : Prop := (Fx b.m ∧ Fx b.r ∧ Fx b.x ∧ Fx b.y ∧ Fx b.px ∧ Fx b.py ∧ Fx b.fu ∧ Fx b.ra ∧ Fx b.ex) ∧ (Lit.int .i64 b.th).wf = true ∧ (Lit.int .i64 b.he).wf = true
section
variable {H : Type} {enc : TypeId × Value → H} {w : World} {base : Nat} {spare : Nat → Bool} {held : Bool}
theorem pick_list {α : Type} {P : Nat → α → Prop} : ∀ n, (∀ i, i < n → ∃ b, P i b) → ∃ L : List α, L.length = n ∧ ∀ i b, L[i]? = some b → P i b := by
  intro n
  induction n with
  | zero => intro _; exact ⟨[], rfl, fun i b h => by simp at h⟩
  | succ n ih =>
    intro h
    obtain ⟨L, hl, hp⟩ := ih fun i hi => h i (by omega)
    obtain ⟨b, hb⟩ := h n (by omega)
    refine ⟨L ++ [b], by simp [hl], fun i c hc => ?_⟩
    by_cases hi : i < n
    · rw [List.getElem?_append_left (by omega)] at hc; exact hp i c hc
    · rw [List.getElem?_append_right (by omega)] at hc
      obtain ⟨hz, e⟩ := List.getElem?_eq_some_iff.1 hc
      have hz : i - L.length < 1 := hz
      obtain rfl : i = n := by omega
      have e : b = c := by simpa using e
      rw [← e]; exact hb
theorem list20 {α : Type} {l : List α} (h : l.length = 20) : ∃ a b c d e f g i j k m n o p q r s t u v, l = [a, b, c, d, e, f, g, i, j, k, m, n, o, p, q, r, s, t, u, v] := by
  match l, h with
  | [a, b, c, d, e, f, g, i, j, k, m, n, o, p, q, r, s, t, u, v], _ => exact ⟨a, b, c, d, e, f, g, i, j, k, m, n, o, p, q, r, s, t, u, v, rfl⟩
set_option maxRecDepth 20000 in
theorem trod_vec4 {n : Nat} {c0 c1 c2 c3 : Value} {y : DataW H × List MemPlace} (h : DataW.trod enc Tryz.prog w base spare held n 29 [c0, c1, c2, c3] = some y) :
    ∃ x z : Int, c0 = .int .i64 (fh x) ∧ c1 = .int .u64 (fl x) ∧ c2 = .int .i64 (fh z) ∧ c3 = .int .u64 (fl z) ∧ Fx x ∧ Fx z := by
  obtain ⟨y0, y1, m, e, _, g0, g1⟩ := trod_struct2 Tryz.underlying29 h
  simp [cells_fix] at g0 g1
  obtain ⟨a3, a2, rfl, rfl, rfl, k3, k2⟩ := trod_fix g0
  obtain ⟨a1, a0, rfl, rfl, rfl, k1, k0⟩ := trod_fix g1
  exact ⟨fx a3 a2, fx a1 a0, by rw [fh_fx k2], by rw [fl_fx k2], by rw [fh_fx k0], by rw [fl_fx k0], fx_Fx k3 k2, fx_Fx k1 k0⟩
theorem trod_fix1 {n : Nat} {c0 c1 : Value} {y : DataW H × List MemPlace} (h : DataW.trod enc Tryz.prog w base spare held n 27 [c0, c1] = some y) :
    ∃ x : Int, c0 = .int .i64 (fh x) ∧ c1 = .int .u64 (fl x) ∧ Fx x := by
  obtain ⟨a1, a0, rfl, rfl, _, k1, k0⟩ := trod_fix h
  exact ⟨fx a1 a0, by rw [fh_fx k0], by rw [fl_fx k0], fx_Fx k1 k0⟩
theorem cells_bod : Tryz.prog.cellsOf 56 = 20 := by kernel_rfl
theorem cells_vec4 : Tryz.prog.cellsOf 29 = 4 := by kernel_rfl
theorem cells_int1 : Tryz.prog.cellsOf 3 = 1 := by kernel_rfl
set_option maxRecDepth 20000 in
theorem trod_bod {n : Nat} {cs : List Value} {y : DataW H × List MemPlace} (h : DataW.trod enc Tryz.prog w base spare held n 56 cs = some y) : ∃ b, cs = bdc b ∧ Fb b := by
  obtain ⟨xs, k, _, rfl, hl, hx, hf⟩ := DataW.trod_struct Tryz.underlying56 h
  rw [cells_bod] at hl
  obtain ⟨a, b, c, d, e, f, g, i, j, k', m, n', o, p, q, r, s, t, u, v, rfl⟩ := list20 hl
  have hx9 : xs.length = 9 := hx
  match xs, hx9 with
  | [x0, x1, x2, x3, x4, x5, x6, x7, x8], _ =>
    have f0 := hf 0 _ rfl; have f1 := hf 1 _ rfl; have f2 := hf 2 _ rfl; have f3 := hf 3 _ rfl; have f4 := hf 4 _ rfl
    have f5 := hf 5 _ rfl; have f6 := hf 6 _ rfl; have f7 := hf 7 _ rfl; have f8 := hf 8 _ rfl
    simp [cells_fix, cells_vec4, cells_int1] at f0 f1 f2 f3 f4 f5 f6 f7 f8
    obtain ⟨z0, rfl, rfl, w0⟩ := trod_fix1 f0
    obtain ⟨z1, rfl, rfl, w1⟩ := trod_fix1 f1
    obtain ⟨z2, z3, rfl, rfl, rfl, rfl, w2, w3⟩ := trod_vec4 f2
    obtain ⟨z4, z5, rfl, rfl, rfl, rfl, w4, w5⟩ := trod_vec4 f3
    obtain ⟨z6, rfl, rfl, w6⟩ := trod_fix1 f4
    obtain ⟨z7, rfl, rfl, w7⟩ := trod_fix1 f5
    obtain ⟨z8, rfl, rfl, w8⟩ := trod_fix1 f6
    obtain ⟨z9, e9, _, w9⟩ := DataW.trod_int Tryz.underlying3 f7
    obtain ⟨z10, e10, _, w10⟩ := DataW.trod_int Tryz.underlying3 f8
    simp only [List.cons.injEq, and_true] at e9 e10
    subst e9 e10
    exact ⟨⟨z0, z1, z2, z3, z4, z5, z6, z7, z8, z9, z10⟩, rfl, ⟨w0, w1, w2, w3, w4, w5, w6, w7, w8⟩, w9, w10⟩
set_option maxRecDepth 20000 in
theorem open_bds {r : Reach} {b0 : Nat} {v : Value} {d : DataW H} {p : List MemPlace} (hv : Value.okWide Tryz.prog w r b0 22 v) (h : DataW.Trod enc Tryz.prog w base spare held 22 v d p) :
    ∃ (A : Option Addr) (n c : Nat) (L : List Bod), v = .slice A n c ∧ (A = none → n = 0 ∧ c = 0) ∧ Bds w A n L ∧ n ≤ c ∧ n ≤ maxLen ∧ ∀ b ∈ L, Fb b := by
  obtain ⟨A, n, c, rfl⟩ := okWide_slice Tryz.underlying22 hv
  obtain ⟨fuel, hf⟩ := h
  have hf : DataW.trod enc Tryz.prog w base spare held fuel 22 [.slice A n c] = some (d, p) := by simpa [Value.cells] using hf
  rcases Go.Deep.open_slice Tryz.underlying22 hf with ⟨e, _⟩ | ⟨a, len, cap, m, k, D, Pl, e, hb, hl, hm, hmm, _, hx⟩
  · simp only [List.cons.injEq, Value.slice.injEq, and_true] at e
    obtain ⟨rfl, rfl, rfl⟩ := e
    exact ⟨none, 0, 0, [], rfl, fun _ => ⟨rfl, rfl⟩, S0.none_ 20 _ _, Nat.le_refl _, Nat.zero_le _, fun x hx => by cases hx⟩
  · simp only [List.cons.injEq, Value.slice.injEq, and_true] at e
    obtain ⟨rfl, rfl, rfl⟩ := e
    have hlm : n ≤ m := by rw [hmm]; split <;> omega
    have each : ∀ i, i < n → ∃ b : Bod, Fb b ∧ ∀ (j : Nat) (u : Value), (bdc b)[j]? = some u → w.cell? (a.add (i * 20 + j)) = some u := by
      intro i hi
      obtain ⟨cs', h1, h2⟩ := hx i (by omega)
      rw [cells_bod] at h1
      obtain ⟨_, hlen, hcell⟩ := World.cells?_some h1
      obtain ⟨b, rfl, hb⟩ := trod_bod h2
      refine ⟨b, hb, fun j u hu => ?_⟩
      have hj : j < 20 := by have := (List.getElem?_eq_some_iff.1 hu).1; rwa [bdc_len] at this
      have q := hcell j hj
      rw [add_of_add] at q
      exact q.trans hu
    obtain ⟨L, hL, hP⟩ := pick_list n each
    refine ⟨some a, n, c, L, rfl, by simp, ⟨by simpa using hL, Ln.map bdc_len L, fun hn => ?_⟩, hl, by omega, fun b hb => ?_⟩
    · have h0 := (hP 0 _ (List.getElem?_eq_getElem (by omega))).2 0 _ rfl
      have hs : a.spot = none := by simpa [Addr.add] using World.cell?_spot h0
      have hlt := World.block_lt_of_cell? _ _ h0
      obtain ⟨B, o, s⟩ := a
      obtain rfl : s = none := hs
      refine ⟨B, o, rfl, by rw [block_of_add] at hlt; exact hlt, fun j cs hj k u hu => ?_⟩
      rw [List.getElem?_map] at hj
      cases e : L[j]? with
      | none => rw [e] at hj; cases hj
      | some b =>
        rw [e] at hj
        obtain rfl : bdc b = cs := by simpa using hj
        have q := (hP j b e).2 k u hu
        rw [add_plain] at q
        rw [Nat.add_assoc]; exact q
    · obtain ⟨j, hj⟩ := List.mem_iff_getElem?.1 hb
      exact (hP j b hj).1
end
end Go.Proofs.YtjilnmpajhifcaaGreat
