/- Boxes: blocks of the call's own that hold just these cells; what a walk does elsewhere leaves them. Numbers with a point as cells. -/
import Derived.Test.YtjilnmpajhifcaaZzLimA
import Derived.Test.YtjilnmpajhifcaaSpan
import Derived.StillTailTactics
import Derived.Deep.MidRow
namespace Go.Proofs.Ytjilnmpajhifcaa
open Go.RowKit
/-- A block that holds these. -/
def Bx (t : TypeId) (w : World) (g : Nat) (cs : List Value) : Prop := w.heap[g]? = some (.cells cs.toArray t (0, 0))
section
variable {t : TypeId} {w w' : World} {g : Nat} {cs : List Value}
theorem Bx.lt (h : Bx t w g cs) : g < w.heap.size := by
  rcases Nat.lt_or_ge g w.heap.size with hlt | hge
  · exact hlt
  · unfold Bx at h; rw [Array.getElem?_eq_none hge] at h; cases h
theorem Bx.frz (h : Bx t w g cs) (j : Nat) : w.frozen? ⟨g, j, none⟩ = false := by unfold Bx at h; simp [World.frozen?, h]
theorem Bx.cell (h : Bx t w g cs) {j : Nat} {u : Value} (hj : cs[j]? = some u) : w.cell? ⟨g, j, none⟩ = some u := by
  rw [cell_of_row w g j _ t (0, 0) h]; simpa using hj
theorem Bx.block (h : Bx t w g cs) (e : w'.heap[g]? = w.heap[g]?) : Bx t w' g cs := e.trans h
theorem Bx.below (h : Bx t w g cs) (k : Below w.heap.size w w') : Bx t w' g cs := h.block (k.block g h.lt)
theorem Bx.drew (h : Bx t w g cs) : Bx t w.drew g cs := h
theorem Bx.alloc (h : Bx t w g cs) (o : Obj) : Bx t (w.alloc o) g cs := h.block (Below.heap_alloc w o g h.lt)
theorem Bx.far (h : Bx t w g cs) {p : Addr} (hp : g ≠ p.block) (v : Value) : Bx t (w.setCell p v) g cs := h.block (Below.heap_setCell w p v g hp)
theorem Bx.put (h : Bx t w g cs) (j : Nat) (u : Value) : Bx t (w.setCell ⟨g, j, none⟩ u) g (cs.set j u) := by
  unfold Bx at h ⊢
  simp [World.setCell, Array.getElem?_modify, h]
theorem Bx.c2 {a b : Value} (h : Bx t w g [a, b]) : w.cell? ⟨g, 0, none⟩ = some a ∧ w.cell? ⟨g, 1, none⟩ = some b := ⟨h.cell rfl, h.cell rfl⟩
theorem Bx.c3 {a b c : Value} (h : Bx t w g [a, b, c]) : w.cell? ⟨g, 0, none⟩ = some a ∧ w.cell? ⟨g, 1, none⟩ = some b ∧ w.cell? ⟨g, 2, none⟩ = some c := ⟨h.cell rfl, h.cell rfl, h.cell rfl⟩
end
theorem Bx.new (w : World) (t : TypeId) (cs : Array Value) : Bx t (w.alloc (.cells cs t)) w.heap.size cs.toList := by
  show _ = _; rw [heap_alloc_new]
/-- A box behind a call, or behind steps of a walk. -/
theorem bxb {t : TypeId} {w w' : World} (g : Nat) (cs : List Value) (k : Below w.heap.size w w') (h : Bx t w g cs := by repeat (first | with_reducible exact Hid.out (by assumption) | with_reducible refine Bx.far ?_ (by first | (simp; done) | omega | (simp <;> omega)) _ | with_reducible refine Bx.alloc ?_ _ | with_reducible apply Bx.drew)) : Hid (Bx t w' g cs) := h.below k
theorem bxk {t : TypeId} {w : World} {g : Nat} {cs : List Value} (h : Bx t w g cs := by repeat (first | with_reducible exact Hid.out (by assumption) | with_reducible refine Bx.far ?_ (by first | (simp; done) | omega | (simp <;> omega)) _ | with_reducible refine Bx.alloc ?_ _ | with_reducible apply Bx.drew)) : Bx t w g cs := h
/-- What was below is below, what is held among it. -/
theorem bs {a : Nat} {u v : World} (h : Below a u v := by repeat (first | with_reducible assumption | with_reducible exact Below.refl _ _ | with_reducible exact Hid.out (by assumption) | with_reducible refine Below.setCell ?_ (by first | (simp; done) | omega | (simp <;> omega)) _ | with_reducible refine bl_al ?_ _ | with_reducible apply Below.drew | with_reducible refine bl_trans ?_ (by with_reducible assumption))) : Below a u v := h
/-- A cell that stays. -/
theorem stays {w : World} {g j : Nat} {v : Value} (h : w.cell? ⟨g, j, none⟩ = some v) (k : g < w.heap.size) : ∀ w' : World, Below w.heap.size w w' → w'.cell? ⟨g, j, none⟩ = some v := fun _ hb => (hb.cell (p := ⟨g, j, none⟩) k).trans h
/-- An answer laid into a box, made ahead of the call. -/
theorem bx_put {w w1 : World} {t : TypeId} {z : Array Value} (hb : Below (w.alloc (.cells z t)).heap.size (w.alloc (.cells z t)) w1) : Bx t w1 w.heap.size z.toList := (Bx.new w t z).below hb
theorem bx_putd {w w1 : World} {t : TypeId} {z : Array Value} (hb : Below (w.alloc (.cells z t)).drew.heap.size (w.alloc (.cells z t)).drew w1) : Bx t w1 w.heap.size z.toList := ((Bx.new w t z).drew).below hb
theorem own_lt {w : World} {base : Nat} {e : TypeId} {s n : Nat} {v : Value} {xs : List Value} (h : w.ownsRow base e s v n xs) : ∀ q, v.ownBlock = some q → q < w.heap.size := by
  intro q hq
  rcases h.2 with ⟨rfl, _⟩ | ⟨g, cap, cur, rfl, hg, hh, _⟩
  · simp [Value.ownBlock] at hq
  · simp [Value.ownBlock] at hq
    subst hq
    rcases Nat.lt_or_ge g w.heap.size with hlt | hge
    · exact hlt
    · rw [Array.getElem?_eq_none hge] at hh; cases hh
/-- The blocks of one kind stand as they stood. -/
def Kb (P : Nat → Prop) (w w' : World) : Prop := w.heap.size ≤ w'.heap.size ∧ ∀ k, P k → k < w.heap.size → w'.heap[k]? = w.heap[k]?
section
variable {P : Nat → Prop} {w u v : World}
theorem Kb.refl (P : Nat → Prop) (w : World) : Kb P w w := ⟨Nat.le_refl _, fun _ _ _ => rfl⟩
theorem Kb.drew (h : Kb P w u) : Kb P w u.drew := h
theorem Kb.alloc (h : Kb P w u) (o : Obj) : Kb P w (u.alloc o) := ⟨by have := h.1; simp; omega, fun k hp hk => by rw [Below.heap_alloc _ _ _ (by have := h.1; omega)]; exact h.2 k hp hk⟩
theorem Kb.call (h : Kb P w u) (g : Below u.heap.size u v) : Kb P w v := ⟨Nat.le_trans h.1 g.size, fun k hp hk => (g.block k (by have := h.1; omega)).trans (h.2 k hp hk)⟩
theorem Kb.grow {r : Option Nat} (h : Kb P w u) (g : u.grownBy v r) (hr : ∀ k, P k → some k ≠ r) : Kb P w v := ⟨Nat.le_trans h.1 g.size, fun k hp hk => (g.block k (by have := h.1; omega) (hr k hp)).trans (h.2 k hp hk)⟩
theorem kbs (h : Kb P w u := by repeat (first | with_reducible assumption | with_reducible exact Kb.refl _ _ | with_reducible refine Kb.alloc ?_ _ | with_reducible apply Kb.drew | with_reducible refine Kb.call ?_ (by with_reducible assumption) | with_reducible refine Kb.grow ?_ (by with_reducible assumption) (fun _ h => h))) : Kb P w u := h
theorem staysK {g j : Nat} {x : Value} (h : w.cell? ⟨g, j, none⟩ = some x) (k : g < w.heap.size) (hp : P g) : ∀ w' : World, Kb P w w' → w'.cell? ⟨g, j, none⟩ = some x := fun _ hb => (World.cell?_of_block (w := w) (hb.2 g hp k)).trans h
end
/-- A whole box stored at once. -/
theorem wpList_store_box {P : Program} {w : World} {ops : Array Oper} {rest : List Oper} {o : Oper} {a : Act} {Q : Exit → Act → World → Prop} (hgd : o.guard = none) (ty : TypeId) (x y : Operand) (ho : o.op = .store ty x y)
    (g : Nat) (cells : Array Value) (hx : a.eval x = .pointer (some ⟨g, 0, none⟩)) (hy : a.eval y = .agg cells) (t : TypeId) (old : List Value) (hg : Bx t w g old) (hi : (P.info? ty).map (·.size) = some cells.size) (hold : old.toArray.size = cells.size) (h1 : cells.all (·.oneCell') = true)
    (h : wpList P ops Q rest (a.put o.dst undef) (w.setRow g cells)) : wpList P ops Q (o :: rest) a w :=
  wpList_plain hgd fun _ hK => wp_store_row ty x y ho g cells hx hy t old.toArray hg hi hold h1 (hK _ _ h)
theorem Bx.row {t : TypeId} {w : World} {g : Nat} {old : List Value} (h : Bx t w g old) (cells : Array Value) : Bx t (w.setRow g cells) g cells.toList := setRow_heap w g _ _ _ _ h
theorem below_row {B g : Nat} {w0 w : World} (hb : Below B w0 w) (hBg : B ≤ g) (cs : Array Value) : Below B w0 (w.setRow g cs) :=
  hb.trans ⟨rfl, rfl, rfl, by simp [World.setRow], fun k hk => setRow_other w g k cs (by omega)⟩
theorem heap_setCells (b : Nat) : ∀ (vs : List Value) (o : Nat) (w : World) (k : Nat), k ≠ b → (w.setCells b o vs).heap[k]? = w.heap[k]? := by
  intro vs
  induction vs with
  | nil => intro o w k _; rfl
  | cons v t ih => intro o w k hk; show ((w.setCell ⟨b, o, none⟩ v).setCells b (o + 1) t).heap[k]? = _; rw [ih _ _ _ hk, Below.heap_setCell _ _ _ _ hk]
theorem size_setCells (b : Nat) : ∀ (vs : List Value) (o : Nat) (w : World), (w.setCells b o vs).heap.size = w.heap.size := by
  intro vs
  induction vs with
  | nil => intro o w; rfl
  | cons v t ih => intro o w; show ((w.setCell ⟨b, o, none⟩ v).setCells b (o + 1) t).heap.size = _; rw [ih]; simp
theorem Kb.store {P : Nat → Prop} {w u : World} (h : Kb P w u) {b : Nat} (hb : ¬ P b) (o : Nat) (vs : List Value) : Kb P w (u.setCells b o vs) :=
  ⟨by rw [size_setCells]; exact h.1, fun k hp hk => by rw [heap_setCells b vs o u k (fun e => hb (by rw [← e]; exact hp))]; exact h.2 k hp hk⟩
theorem there_below {u v : World} {b o n : Nat} (h : u.there b o n) (hb : b < u.heap.size) (g : Below u.heap.size u v) : v.there b o n := fun j hj => by
  rw [g.cell (p := ⟨b, o + j, none⟩) hb, g.frozen (p := ⟨b, o + j, none⟩) hb]; exact h j hj
theorem Bx.there {t : TypeId} {w : World} {g : Nat} {cs : List Value} (h : Bx t w g cs) : w.there g 0 cs.length := fun j hj => by
  rw [Nat.zero_add, h.cell (List.getElem?_eq_getElem hj)]
  exact ⟨rfl, h.frz j⟩
/-- append of rows as a step of a region that draws. -/
theorem step_append_rows {t e : TypeId} {sz b : Nat} (hT : RowT t e sz b) {w : World} {ops : Array Oper} {o : Oper} {a : Act} {K : Act → World → Prop} {Q : Exit → Act → World → Prop} {E : Prop} (hgd : o.guard = none) (s x : Operand)
    (ho : o.op = .call { callee := .builtin .append, args := #[s, x], argTypes := #[t, t] })
    (base : Nat) (v : Value) (n : Nat) (L : List (List Value)) (hs : a.eval s = v) (hown : w.ownsRow base e sz v n L.flatten)
    (A : Option Addr) (m c : Nat) (M : List (List Value)) (hx : a.eval x = .slice A m c) (hM : S0 sz w A m M) (h1 : One M) (hA : A = none → m = 0 ∧ c = 0) (h63 : n + m ≤ maxLen) (hb : (n + m) * b ≤ 140737488355328) (hbase : base ≤ w.heap.size)
    (h : ∀ v' w', w'.ownsRow base e sz v' (n + m) (L ++ M).flatten → w.grownBy w' v.ownBlock → (v'.ownBlock = v.ownBlock ∨ v'.ownBlock = some w.heap.size) → K (a.put o.dst v') w') :
    if Region.wanted o (yielded ops a.tmps) = true then Oper.wp Try.prog o a w K Q else E := by
  have hw : Region.wanted o (yielded ops a.tmps) = true := by simp [Region.wanted, hgd]
  rw [if_pos hw]
  obtain ⟨v', w', hr, h2, h3, _, h5⟩ := run_append_rows hT w base o.type v n L hown A m c M hM h1 hA h63 hb hbase
  unfold Oper.wp execOp
  simp only [ho, resolve, invoke, builtin, Sem.run_bind, Sem.run_pure, Result.andThen_ok, List.map_toArray, List.map_cons, List.map_nil, hs, hx, hr]
  exact h v' w' h2 h3 h5
/-- A number with a point, as cells and as a value. -/
def fxc (x : Int) : List Value := [.int .i64 (fh x), .int .u64 (fl x)]
@[reducible] def fxv (x : Int) : Value := .agg #[.int .i64 (fh x), .int .u64 (fl x)]
end Go.Proofs.Ytjilnmpajhifcaa
