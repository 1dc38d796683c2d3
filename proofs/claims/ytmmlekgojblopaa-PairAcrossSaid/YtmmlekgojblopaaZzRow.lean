/- Boxes: blocks of the call's own that hold just these cells; what a walk does elsewhere leaves them. Numbers with a point as cells. -/
import Derived.Test.YtmmlekgojblopaaZzLimA
import Derived.Laws.OwnMore
import Derived.Deep.LoopGhost
import Derived.Deep.DeepCutAuto
import Derived.Deep.AppendLies
import Derived.Deep.Slices
import Derived.Laws.MakeOwn
import Derived.Maps.AppendAt
import Derived.StillTailTactics
import Derived.Deep.MidRow
namespace Go.Proofs.Ytmmlekgojblopaa
open Go.RowKit
theorem own_kept {w w' : World} {base : Nat} {e : TypeId} {s n : Nat} {v : Value} {xs : List Value} (h : w.ownsRow base e s v n xs) (k : Below w.heap.size w w') : w'.ownsRow base e s v n xs := by
  obtain ⟨h1, h2⟩ := h
  refine ⟨h1, ?_⟩
  rcases h2 with h2 | ⟨g, cap, cur, hv, hb, hh, r⟩
  · exact Or.inl h2
  · refine Or.inr ⟨g, cap, cur, hv, hb, ?_, r⟩
    have hlt : g < w.heap.size := by
      rcases Nat.lt_or_ge g w.heap.size with hlt | hge
      · exact hlt
      · rw [Array.getElem?_eq_none hge] at hh; cases hh
    exact (k.block g hlt).trans hh
theorem own_block {w : World} {base : Nat} {e : TypeId} {s n : Nat} {v : Value} {xs : List Value} (h : w.ownsRow base e s v n xs) : ∀ q, v.ownBlock = some q → base ≤ q := by
  intro q hq
  rcases h.2 with ⟨rfl, _⟩ | ⟨g, _, _, rfl, hg, _⟩
  · simp [Value.ownBlock] at hq
  · simp [Value.ownBlock] at hq; omega
end Go.Proofs.Ytmmlekgojblopaa
namespace Go.Proofs.Ytmmlekgojblopaa
open Go.RowKit
/-- Each has so many cells. -/
def Ln (s : Nat) (C : List (List Value)) : Prop := ∀ c ∈ C, c.length = s
theorem Ln.nil (s : Nat) : Ln s [] := fun c h => by cases h
theorem Ln.app {s : Nat} {C D : List (List Value)} (h : Ln s C) (g : Ln s D) : Ln s (C ++ D) := fun c hc => by
  rcases List.mem_append.1 hc with a | a
  · exact h c a
  · exact g c a
theorem Ln.map {α : Type} {s : Nat} {f : α → List Value} (h : ∀ x, (f x).length = s) (L : List α) : Ln s (L.map f) := fun c hc => by
  obtain ⟨x, _, rfl⟩ := List.mem_map.1 hc
  exact h x
theorem Ln.set {s j : Nat} {C : List (List Value)} {c : List Value} (h : Ln s C) (g : c.length = s) : Ln s (C.set j c) := fun d hd => by
  rcases List.mem_or_eq_of_mem_set hd with a | a
  · exact h d a
  · rw [a]; exact g
theorem Ln.at_ {s j : Nat} {C : List (List Value)} {c : List Value} (h : Ln s C) (g : C[j]? = some c) : c.length = s := h c (List.mem_of_getElem? g)
theorem fl_len {s : Nat} : ∀ {C : List (List Value)}, Ln s C → C.flatten.length = C.length * s := by
  intro C
  induction C with
  | nil => intro _; simp
  | cons a t ih =>
    intro h
    rw [List.flatten_cons, List.length_append, ih fun c hc => h c (List.mem_cons_of_mem _ hc), h a List.mem_cons_self, List.length_cons, Nat.add_mul]; omega
theorem fl_at {s : Nat} : ∀ {C : List (List Value)}, Ln s C → ∀ {j k : Nat} {c : List Value} {u : Value}, C[j]? = some c → c[k]? = some u → C.flatten[j * s + k]? = some u := by
  intro C
  induction C with
  | nil => intro _ j k c u h _; simp at h
  | cons a t ih =>
    intro h j k c u hc hu
    have ha := h a List.mem_cons_self
    rw [List.flatten_cons]
    cases j with
    | zero =>
      simp at hc; subst hc
      rw [Nat.zero_mul, Nat.zero_add, List.getElem?_append_left (List.getElem?_eq_some_iff.1 hu).1]; exact hu
    | succ j =>
      rw [List.getElem?_append_right (by rw [ha, Nat.add_mul]; omega), ha, show (j + 1) * s + k - s = j * s + k by rw [Nat.add_mul]; omega]
      exact ih (fun c hc => h c (List.mem_cons_of_mem _ hc)) (by simpa using hc) hu
theorem fl_of {s : Nat} (hs : 0 < s) {C : List (List Value)} (h : Ln s C) {i : Nat} {u : Value} (hu : C.flatten[i]? = some u) : ∃ c, C[i / s]? = some c ∧ c[i % s]? = some u := by
  have hi := (List.getElem?_eq_some_iff.1 hu).1
  rw [fl_len h] at hi
  have hj : i / s < C.length := by rw [Nat.div_lt_iff_lt_mul hs]; exact hi
  have hc : C[i / s]? = some (C[i / s]'hj) := List.getElem?_eq_getElem _
  have hl := h.at_ hc
  have hk : i % s < (C[i / s]'hj).length := by rw [hl]; exact Nat.mod_lt _ hs
  refine ⟨_, hc, ?_⟩
  have q := fl_at h hc (List.getElem?_eq_getElem hk)
  rw [show i / s * s + i % s = i by rw [Nat.mul_comm]; exact Nat.div_add_mod i s] at q
  rw [List.getElem?_eq_getElem hk, ← q]; exact hu
/-- A slice that holds these, nil let in. -/
def S0 (s : Nat) (w : World) (A : Option Addr) (n : Nat) (C : List (List Value)) : Prop :=
  C.length = n ∧ Ln s C ∧ (0 < n → ∃ B o : Nat, A = some ⟨B, o, none⟩ ∧ B < w.heap.size ∧ ∀ (j : Nat) (c : List Value), C[j]? = some c → ∀ (k : Nat) (u : Value), c[k]? = some u → w.cell? ⟨B, o + j * s + k, none⟩ = some u)
section
variable {s : Nat} {w w' : World} {A : Option Addr} {n : Nat} {C : List (List Value)}
theorem S0.none_ (s : Nat) (w : World) (A : Option Addr) : S0 s w A 0 [] := ⟨rfl, Ln.nil s, fun h => absurd h (by omega)⟩
theorem S0.below (h : S0 s w A n C) (g : Below w.heap.size w w') : S0 s w' A n C :=
  ⟨h.1, h.2.1, fun hn => by
    obtain ⟨B, o, e, hb, hc⟩ := h.2.2 hn
    refine ⟨B, o, e, Nat.lt_of_lt_of_le hb g.size, fun j c hj k u hu => ?_⟩
    rw [g.cell (p := ⟨B, o + j * s + k, none⟩) hb]
    exact hc j c hj k u hu⟩
theorem S0.drew (h : S0 s w A n C) : S0 s w.drew A n C := h
theorem S0.at_ (h : S0 s w A n C) {j : Nat} {c : List Value} (hj : C[j]? = some c) :
    ∃ B o : Nat, A = some ⟨B, o, none⟩ ∧ B < w.heap.size ∧ ∀ (k : Nat) (u : Value), c[k]? = some u → w.cell? ⟨B, o + j * s + k, none⟩ = some u := by
  have hl := (List.getElem?_eq_some_iff.1 hj).1
  obtain ⟨B, o, e, hb, hc⟩ := h.2.2 (by have := h.1; omega)
  exact ⟨B, o, e, hb, hc j c hj⟩
theorem S0.asFlat (hs : 0 < s) {a : Addr} (h : S0 s w (some a) n C) (j : Nat) (u : Value) (hu : C.flatten[j]? = some u) : a.block < w.heap.size ∧ w.cell? (a.add j) = some u := by
  obtain ⟨c, hc, hk⟩ := fl_of hs h.2.1 hu
  obtain ⟨B, o, e, hb, hcell⟩ := h.at_ hc
  obtain rfl : a = ⟨B, o, none⟩ := by injection e
  refine ⟨hb, ?_⟩
  rw [WideShapes.add_plain, ← hcell _ _ hk]
  congr 2
  have := Nat.div_add_mod j s
  rw [Nat.mul_comm] at this
  omega
end
/-- A block of one's own, of room for so many, that holds these. -/
def R0 (s : Nat) (t : TypeId) (w : World) (g cap : Nat) (C : List (List Value)) : Prop :=
  ∃ cur : Array Value, w.heap[g]? = some (.cells cur t (0, 0)) ∧ cur.size = cap * s ∧ C.length ≤ cap ∧ Ln s C ∧ ∀ (j : Nat) (c : List Value), C[j]? = some c → ∀ (k : Nat) (u : Value), c[k]? = some u → cur[j * s + k]? = some u
section
variable {s : Nat} {t : TypeId} {w w' : World} {g cap : Nat} {C : List (List Value)}
theorem R0.lt (h : R0 s t w g cap C) : g < w.heap.size := by
  obtain ⟨cur, hh, _⟩ := h
  rcases Nat.lt_or_ge g w.heap.size with hlt | hge
  · exact hlt
  · rw [Array.getElem?_eq_none hge] at hh; cases hh
theorem R0.frz (h : R0 s t w g cap C) (j : Nat) : w.frozen? ⟨g, j, none⟩ = false := by
  obtain ⟨cur, hh, _⟩ := h
  simp [World.frozen?, hh]
theorem R0.ln (h : R0 s t w g cap C) : Ln s C := by obtain ⟨_, _, _, _, h, _⟩ := h; exact h
theorem R0.room (h : R0 s t w g cap C) : C.length ≤ cap := by obtain ⟨_, _, _, h, _⟩ := h; exact h
theorem R0.cell (h : R0 s t w g cap C) {j k : Nat} {c : List Value} {u : Value} (hj : C[j]? = some c) (hu : c[k]? = some u) : w.cell? ⟨g, j * s + k, none⟩ = some u := by
  obtain ⟨cur, hh, _, _, _, hc⟩ := h
  rw [cell_of_row w g _ cur _ (0, 0) hh]
  exact hc j c hj k u hu
theorem R0.block (h : R0 s t w g cap C) (e : w'.heap[g]? = w.heap[g]?) : R0 s t w' g cap C := by
  obtain ⟨cur, hh, r⟩ := h; exact ⟨cur, e.trans hh, r⟩
theorem R0.below (h : R0 s t w g cap C) (k : Below w.heap.size w w') : R0 s t w' g cap C := h.block (k.block g h.lt)
theorem R0.drew (h : R0 s t w g cap C) : R0 s t w.drew g cap C := h
theorem R0.alloc (h : R0 s t w g cap C) (o : Obj) : R0 s t (w.alloc o) g cap C := h.block (Below.heap_alloc w o g h.lt)
theorem R0.far (h : R0 s t w g cap C) {p : Addr} (hp : g ≠ p.block) (v : Value) : R0 s t (w.setCell p v) g cap C := h.block (Below.heap_setCell w p v g hp)
/-- One cell written. -/
theorem R0.putc (h : R0 s t w g cap C) {j k : Nat} {c : List Value} (hj : C[j]? = some c) (hk : k < s) (u : Value) :
    R0 s t (w.setCell ⟨g, j * s + k, none⟩ u) g cap (C.set j (c.set k u)) := by
  obtain ⟨cur, hh, hs, hl, hln, hc⟩ := h
  have hjl := (List.getElem?_eq_some_iff.1 hj).1
  have hcl := hln.at_ hj
  have hmul : (j + 1) * s ≤ cap * s := Nat.mul_le_mul_right _ (by omega)
  rw [Nat.add_mul] at hmul
  refine ⟨cur.setIfInBounds (j * s + k) u, ?_, by simpa using hs, by simpa using hl, hln.set (by simpa using hcl), fun i d hd m v hv => ?_⟩
  · simp [World.setCell, Array.getElem?_modify, hh]
  rw [List.getElem?_set] at hd
  by_cases e : j = i
  · subst e
    rw [if_pos rfl, if_pos hjl] at hd
    obtain rfl : c.set k u = d := by simpa using hd
    rw [List.getElem?_set] at hv
    by_cases f : k = m
    · subst f
      rw [if_pos rfl, if_pos (by omega)] at hv
      obtain rfl : u = v := by simpa using hv
      rw [Array.getElem?_setIfInBounds_self_of_lt (by omega)]
    · rw [if_neg f] at hv
      rw [Array.getElem?_setIfInBounds_ne (by omega)]; exact hc j c hj m v hv
  · rw [if_neg e] at hd
    have hm : m < s := by rw [← hln.at_ hd]; exact (List.getElem?_eq_some_iff.1 hv).1
    rw [Array.getElem?_setIfInBounds_ne]
    · exact hc i d hd m v hv
    · intro q
      rcases Nat.lt_or_gt_of_ne e with a | a
      · have : (j + 1) * s ≤ i * s := Nat.mul_le_mul_right _ a
        rw [Nat.add_mul] at this; omega
      · have : (i + 1) * s ≤ j * s := Nat.mul_le_mul_right _ a
        rw [Nat.add_mul] at this; omega
theorem R0.new (w : World) (t : TypeId) {C : List (List Value)} (hl : Ln s C) {cs : Array Value} (h : cs.toList = C.flatten) : R0 s t (w.alloc (.cells cs t)) w.heap.size C.length C := by
  have hs : cs.size = C.length * s := by rw [← fl_len hl, ← h, Array.length_toList]
  refine ⟨cs, heap_alloc_new w _, hs, Nat.le_refl _, hl, fun j c hj k u hu => ?_⟩
  rw [← Array.getElem?_toList, h]
  exact fl_at hl hj hu
theorem R0.slice (h : R0 s t w g cap C) : S0 s w (some ⟨g, 0, none⟩) C.length C :=
  ⟨rfl, h.ln, fun _ => ⟨g, 0, rfl, h.lt, fun j c hj k u hu => by rw [Nat.zero_add]; exact h.cell hj hu⟩⟩
theorem R0.of_own {base n : Nat} {v : Value} (hl : Ln s C) (hs : 0 < s) (h : w.ownsRow base t s v n C.flatten) (hv : v ≠ .slice none 0 0) :
    ∃ g cap, v = .slice (some ⟨g, 0, none⟩) n cap ∧ base ≤ g ∧ C.length = n ∧ cap ≤ maxLen ∧ R0 s t w g cap C := by
  obtain ⟨hlen, h⟩ := h
  rcases h with ⟨h, _⟩ | ⟨g, cap, cur, rfl, hb, hh, hn, hm, hsz, ht⟩
  · exact absurd h hv
  · have hL : C.length = n := by rw [fl_len hl] at hlen; exact Nat.eq_of_mul_eq_mul_right hs hlen
    refine ⟨g, cap, rfl, hb, hL, hm, cur, hh, hsz, by omega, hl, fun j c hj k u hu => ?_⟩
    have q := fl_at hl hj hu
    rw [← ht, List.getElem?_take] at q
    split at q
    · simpa using q
    · cases q
theorem R0.own {base : Nat} (h : R0 s t w g cap C) (hs : 0 < s) (hb : base ≤ g) (hm : cap ≤ maxLen) :
    w.ownsRow base t s (.slice (some ⟨g, 0, none⟩) C.length cap) C.length C.flatten := by
  obtain ⟨cur, hh, hsz, hl, hln, hc⟩ := h
  refine ⟨fl_len hln, .inr ⟨g, cap, cur, rfl, hb, hh, hl, hm, hsz, ?_⟩⟩
  apply List.ext_getElem?
  intro i
  rw [List.getElem?_take]
  by_cases c : i < C.length * s
  · rw [if_pos c]
    have hi : i < C.flatten.length := by rw [fl_len hln]; exact c
    have hu := List.getElem?_eq_getElem hi
    obtain ⟨d, hd, hk⟩ := fl_of hs hln hu
    have q := hc _ d hd _ _ hk
    rw [show i / s * s + i % s = i by rw [Nat.mul_comm]; exact Nat.div_add_mod i s] at q
    rw [hu]; simpa using q
  · rw [if_neg c, List.getElem?_eq_none (by rw [fl_len hln]; omega)]
end
/-- A slice of one's own, nil let in, read. -/
theorem S0.of_own {s : Nat} {t : TypeId} {w : World} {base n : Nat} {v : Value} {C : List (List Value)} (hl : Ln s C) (hs : 0 < s) (h : w.ownsRow base t s v n C.flatten) :
    ∃ A c, v = .slice A n c ∧ (A = none → n = 0 ∧ c = 0) ∧ S0 s w A n C := by
  by_cases hv : v = .slice none 0 0
  · subst hv
    rcases h.2 with ⟨_, rfl⟩ | ⟨g, cap, cur, e, _⟩
    · have hn := h.1
      rw [fl_len hl, Nat.zero_mul] at hn
      have : C.length = 0 := by
        rcases Nat.mul_eq_zero.1 hn with a | a
        · exact a
        · omega
      rw [List.length_eq_zero_iff.1 this]
      exact ⟨none, 0, rfl, fun _ => ⟨rfl, rfl⟩, S0.none_ s w none⟩
    · cases e
  · obtain ⟨g, cap, rfl, _, hn, _, hK⟩ := R0.of_own hl hs h hv
    refine ⟨_, cap, rfl, by simp, ?_⟩
    rw [← hn]; exact hK.slice
/-- What append wants to know of a slice's type. -/
structure RowT (t e : TypeId) (s b : Nat) : Prop where
  und : Try.prog.underlying t = some (.slice e)
  inf : ∃ i z, Try.prog.info? e = some i ∧ i.zero = some z ∧ i.size = s ∧ i.bytes = b ∧ z.cells.size = s
  pos : 0 < s
theorem RowT.mk' {t e : TypeId} {s b : Nat} {z : Value} (hu : Try.prog.underlying t = some (.slice e)) (h : (Try.prog.info? e).map (fun i => (i.zero, i.size, i.bytes)) = some (some z, s, b)) (hz : z.cells.size = s) (hs : 0 < s) : RowT t e s b :=
  ⟨hu, by
    cases hi : Try.prog.info? e with
    | none => rw [hi] at h; cases h
    | some i => rw [hi] at h; simp only [Option.map_some, Option.some.injEq, Prod.mk.injEq] at h; exact ⟨i, z, rfl, h.1, h.2.1, h.2.2, hz⟩, hs⟩
def One (C : List (List Value)) : Prop := ∀ c ∈ C, ∀ u ∈ c, u.oneCell' = true
theorem One.fl {C : List (List Value)} (h : One C) : ∀ u ∈ C.flatten, u.oneCell' = true := fun u hu => by
  obtain ⟨c, hc, hu⟩ := List.mem_flatten.1 hu
  exact h c hc u hu
theorem run_append_rows {t e : TypeId} {s b : Nat} (hT : RowT t e s b) (w : World) (base : Nat) (ty : TypeId) (v : Value) (n : Nat) (L : List (List Value)) (hown : w.ownsRow base e s v n L.flatten)
    (A : Option Addr) (m c : Nat) (M : List (List Value)) (hM : S0 s w A m M) (h1 : One M) (hA : A = none → m = 0 ∧ c = 0) (h63 : n + m ≤ maxLen) (hb : (n + m) * b ≤ 140737488355328) (hbase : base ≤ w.heap.size) :
    ∃ v' w', (Builtin.append_ #[t, t] ty #[v, .slice A m c]).run Try.prog w = .ok v' w' ∧ w'.ownsRow base e s v' (n + m) (L ++ M).flatten ∧ w.grownBy w' v.ownBlock ∧ (v' = .slice none 0 0 ↔ v = .slice none 0 0 ∧ m = 0) ∧ (v'.ownBlock = v.ownBlock ∨ v'.ownBlock = some w.heap.size) := by
  obtain ⟨i, z, hi, hz, hs, hby, hzs⟩ := hT.inf
  rcases A with _ | a
  · obtain ⟨rfl, rfl⟩ := hA rfl
    obtain rfl : M = [] := List.length_eq_zero_iff.1 hM.1
    have h := run_append_owned_none (P := Try.prog) (w := w) base t ty e i s hT.und hi v n L.flatten hown
    exact ⟨v, w, h, by simpa using hown, World.grownBy.refl w _, by simp, Or.inl rfl⟩
  · obtain ⟨v', w', hr, h2, h3, h4, h5⟩ := run_append_own_at (P := Try.prog) w base t ty e i z s b hT.und hi hz hs hby hzs hT.pos v n L.flatten hown a m c M.flatten
      (by rw [fl_len hM.2.1, hM.1]) (fun j u hu => (hM.asFlat hT.pos j u hu).2) h1.fl h63 hb hbase
    exact ⟨v', w', hr, by rw [List.flatten_append]; exact h2, h3, h4, h5⟩
theorem wpList_append_rows {t e : TypeId} {sz b : Nat} (hT : RowT t e sz b) {w : World} {ops : Array Oper} {rest : List Oper} {o : Oper} {a : Act} {Q : Exit → Act → World → Prop} (hgd : o.guard = none) (s x : Operand)
    (ho : o.op = .call { callee := .builtin .append, args := #[s, x], argTypes := #[t, t] })
    (base : Nat) (v : Value) (n : Nat) (L : List (List Value)) (hs : a.eval s = v) (hown : w.ownsRow base e sz v n L.flatten)
    (A : Option Addr) (m c : Nat) (M : List (List Value)) (hx : a.eval x = .slice A m c) (hM : S0 sz w A m M) (h1 : One M) (hA : A = none → m = 0 ∧ c = 0) (h63 : n + m ≤ maxLen) (hb : (n + m) * b ≤ 140737488355328) (hbase : base ≤ w.heap.size)
    (h : ∀ v' w', w'.ownsRow base e sz v' (n + m) (L ++ M).flatten → w.grownBy w' v.ownBlock → (v' = .slice none 0 0 ↔ v = .slice none 0 0 ∧ m = 0) → (v'.ownBlock = v.ownBlock ∨ v'.ownBlock = some w.heap.size) → wpList Try.prog ops Q rest (a.put o.dst v') w') :
    wpList Try.prog ops Q (o :: rest) a w := by
  refine wpList_plain hgd fun K hK => ?_
  obtain ⟨v', w', hr, h2, h3, h4, h5⟩ := run_append_rows hT w base o.type v n L hown A m c M hM h1 hA h63 hb hbase
  unfold Oper.wp execOp
  simp only [ho, resolve, invoke, builtin, Sem.run_bind, Sem.run_pure, Result.andThen_ok, List.map_toArray, List.map_cons, List.map_nil, hs, hx, hr]
  exact hK _ _ (h v' w' h2 h3 h4 h5)
end Go.Proofs.Ytmmlekgojblopaa
namespace Go.Proofs.Ytmmlekgojblopaa
open Go.RowKit
/-- A block that holds these. -/
def Bx (t : TypeId) (w : World) (g : Nat) (cs : List Value) : Prop := w.heap[g]? = some (.cells cs.toArray t (0, 0))
section
variable {t : TypeId} {w w' : World} {g : Nat} {cs : List Value}
theorem Bx.lt (h : Bx t w g cs) : g < w.heap.size := by
  rcases Nat.lt_or_ge g w.heap.size with hlt | hge
  · exact hlt
  · unfold Bx at h; rw [Array.getElem?_eq_none hge] at h; cases h
theorem Bx.frz (h : Bx t w g cs) (j : Nat) : w.frozen? ⟨g, j, none⟩ = false := by unfold Bx at h; simp [World.frozen?, h]
theorem Bx.cell (h : Bx t w g cs) {j : Nat} {u : Value} (hj : cs[j]? = some u) : w.cell? ⟨g, j, none⟩ = some u := by
  rw [cell_of_row w g j _ t (0, 0) h]; simpa using hj
theorem Bx.block (h : Bx t w g cs) (e : w'.heap[g]? = w.heap[g]?) : Bx t w' g cs := e.trans h
theorem Bx.below (h : Bx t w g cs) (k : Below w.heap.size w w') : Bx t w' g cs := h.block (k.block g h.lt)
theorem Bx.drew (h : Bx t w g cs) : Bx t w.drew g cs := h
theorem Bx.alloc (h : Bx t w g cs) (o : Obj) : Bx t (w.alloc o) g cs := h.block (Below.heap_alloc w o g h.lt)
theorem Bx.far (h : Bx t w g cs) {p : Addr} (hp : g ≠ p.block) (v : Value) : Bx t (w.setCell p v) g cs := h.block (Below.heap_setCell w p v g hp)
theorem Bx.put (h : Bx t w g cs) (j : Nat) (u : Value) : Bx t (w.setCell ⟨g, j, none⟩ u) g (cs.set j u) := by
  unfold Bx at h ⊢
  simp [World.setCell, Array.getElem?_modify, h]
theorem Bx.c2 {a b : Value} (h : Bx t w g [a, b]) : w.cell? ⟨g, 0, none⟩ = some a ∧ w.cell? ⟨g, 1, none⟩ = some b := ⟨h.cell rfl, h.cell rfl⟩
theorem Bx.c3 {a b c : Value} (h : Bx t w g [a, b, c]) : w.cell? ⟨g, 0, none⟩ = some a ∧ w.cell? ⟨g, 1, none⟩ = some b ∧ w.cell? ⟨g, 2, none⟩ = some c := ⟨h.cell rfl, h.cell rfl, h.cell rfl⟩
end
theorem Bx.new (w : World) (t : TypeId) (cs : Array Value) : Bx t (w.alloc (.cells cs t)) w.heap.size cs.toList := by
  show _ = _; rw [heap_alloc_new]
/-- A box behind a call, or behind steps of a walk. -/
theorem bxb {t : TypeId} {w w' : World} (g : Nat) (cs : List Value) (k : Below w.heap.size w w') (h : Bx t w g cs := by repeat (first | with_reducible exact Hid.out (by assumption) | with_reducible refine Bx.far ?_ (by first | (simp; done) | omega | (simp <;> omega)) _ | with_reducible refine Bx.alloc ?_ _ | with_reducible apply Bx.drew)) : Hid (Bx t w' g cs) := h.below k
theorem bxk {t : TypeId} {w : World} {g : Nat} {cs : List Value} (h : Bx t w g cs := by repeat (first | with_reducible exact Hid.out (by assumption) | with_reducible refine Bx.far ?_ (by first | (simp; done) | omega | (simp <;> omega)) _ | with_reducible refine Bx.alloc ?_ _ | with_reducible apply Bx.drew)) : Bx t w g cs := h
/-- What was below is below, what is held among it. -/
theorem bs {a : Nat} {u v : World} (h : Below a u v := by repeat (first | with_reducible assumption | with_reducible exact Below.refl _ _ | with_reducible exact Hid.out (by assumption) | with_reducible refine Below.setCell ?_ (by first | (simp; done) | omega | (simp <;> omega)) _ | with_reducible refine bl_al ?_ _ | with_reducible apply Below.drew | with_reducible refine bl_trans ?_ (by with_reducible assumption))) : Below a u v := h
/-- A cell that stays. -/
theorem stays {w : World} {g j : Nat} {v : Value} (h : w.cell? ⟨g, j, none⟩ = some v) (k : g < w.heap.size) : ∀ w' : World, Below w.heap.size w w' → w'.cell? ⟨g, j, none⟩ = some v := fun _ hb => (hb.cell (p := ⟨g, j, none⟩) k).trans h
/-- An answer laid into a box, made ahead of the call. -/
theorem bx_put {w w1 : World} {t : TypeId} {z : Array Value} (hb : Below (w.alloc (.cells z t)).heap.size (w.alloc (.cells z t)) w1) : Bx t w1 w.heap.size z.toList := (Bx.new w t z).below hb
theorem bx_putd {w w1 : World} {t : TypeId} {z : Array Value} (hb : Below (w.alloc (.cells z t)).drew.heap.size (w.alloc (.cells z t)).drew w1) : Bx t w1 w.heap.size z.toList := ((Bx.new w t z).drew).below hb
theorem own_lt {w : World} {base : Nat} {e : TypeId} {s n : Nat} {v : Value} {xs : List Value} (h : w.ownsRow base e s v n xs) : ∀ q, v.ownBlock = some q → q < w.heap.size := by
  intro q hq
  rcases h.2 with ⟨rfl, _⟩ | ⟨g, cap, cur, rfl, hg, hh, _⟩
  · simp [Value.ownBlock] at hq
  · simp [Value.ownBlock] at hq
    subst hq
    rcases Nat.lt_or_ge g w.heap.size with hlt | hge
    · exact hlt
    · rw [Array.getElem?_eq_none hge] at hh; cases hh
/-- The blocks of one kind stand as they stood. -/
def Kb (P : Nat → Prop) (w w' : World) : Prop := w.heap.size ≤ w'.heap.size ∧ ∀ k, P k → k < w.heap.size → w'.heap[k]? = w.heap[k]?
section
variable {P : Nat → Prop} {w u v : World}
theorem Kb.refl (P : Nat → Prop) (w : World) : Kb P w w := ⟨Nat.le_refl _, fun _ _ _ => rfl⟩
theorem Kb.drew (h : Kb P w u) : Kb P w u.drew := h
theorem Kb.alloc (h : Kb P w u) (o : Obj) : Kb P w (u.alloc o) := ⟨by have := h.1; simp; omega, fun k hp hk => by rw [Below.heap_alloc _ _ _ (by have := h.1; omega)]; exact h.2 k hp hk⟩
theorem Kb.call (h : Kb P w u) (g : Below u.heap.size u v) : Kb P w v := ⟨Nat.le_trans h.1 g.size, fun k hp hk => (g.block k (by have := h.1; omega)).trans (h.2 k hp hk)⟩
theorem Kb.grow {r : Option Nat} (h : Kb P w u) (g : u.grownBy v r) (hr : ∀ k, P k → some k ≠ r) : Kb P w v := ⟨Nat.le_trans h.1 g.size, fun k hp hk => (g.block k (by have := h.1; omega) (hr k hp)).trans (h.2 k hp hk)⟩
theorem kbs (h : Kb P w u := by repeat (first | with_reducible assumption | with_reducible exact Kb.refl _ _ | with_reducible refine Kb.alloc ?_ _ | with_reducible apply Kb.drew | with_reducible refine Kb.call ?_ (by with_reducible assumption) | with_reducible refine Kb.grow ?_ (by with_reducible assumption) (fun _ h => h))) : Kb P w u := h
theorem staysK {g j : Nat} {x : Value} (h : w.cell? ⟨g, j, none⟩ = some x) (k : g < w.heap.size) (hp : P g) : ∀ w' : World, Kb P w w' → w'.cell? ⟨g, j, none⟩ = some x := fun _ hb => (World.cell?_of_block (w := w) (hb.2 g hp k)).trans h
end
/-- A whole box stored at once. -/
theorem wpList_store_box {P : Program} {w : World} {ops : Array Oper} {rest : List Oper} {o : Oper} {a : Act} {Q : Exit → Act → World → Prop} (hgd : o.guard = none) (ty : TypeId) (x y : Operand) (ho : o.op = .store ty x y)
    (g : Nat) (cells : Array Value) (hx : a.eval x = .pointer (some ⟨g, 0, none⟩)) (hy : a.eval y = .agg cells) (t : TypeId) (old : List Value) (hg : Bx t w g old) (hi : (P.info? ty).map (·.size) = some cells.size) (hold : old.toArray.size = cells.size) (h1 : cells.all (·.oneCell') = true)
    (h : wpList P ops Q rest (a.put o.dst undef) (w.setRow g cells)) : wpList P ops Q (o :: rest) a w :=
  wpList_plain hgd fun _ hK => wp_store_row ty x y ho g cells hx hy t old.toArray hg hi hold h1 (hK _ _ h)
theorem Bx.row {t : TypeId} {w : World} {g : Nat} {old : List Value} (h : Bx t w g old) (cells : Array Value) : Bx t (w.setRow g cells) g cells.toList := setRow_heap w g _ _ _ _ h
theorem below_row {B g : Nat} {w0 w : World} (hb : Below B w0 w) (hBg : B ≤ g) (cs : Array Value) : Below B w0 (w.setRow g cs) :=
  hb.trans ⟨rfl, rfl, rfl, by simp [World.setRow], fun k hk => setRow_other w g k cs (by omega)⟩
theorem heap_setCells (b : Nat) : ∀ (vs : List Value) (o : Nat) (w : World) (k : Nat), k ≠ b → (w.setCells b o vs).heap[k]? = w.heap[k]? := by
  intro vs
  induction vs with
  | nil => intro o w k _; rfl
  | cons v t ih => intro o w k hk; show ((w.setCell ⟨b, o, none⟩ v).setCells b (o + 1) t).heap[k]? = _; rw [ih _ _ _ hk, Below.heap_setCell _ _ _ _ hk]
theorem size_setCells (b : Nat) : ∀ (vs : List Value) (o : Nat) (w : World), (w.setCells b o vs).heap.size = w.heap.size := by
  intro vs
  induction vs with
  | nil => intro o w; rfl
  | cons v t ih => intro o w; show ((w.setCell ⟨b, o, none⟩ v).setCells b (o + 1) t).heap.size = _; rw [ih]; simp
theorem Kb.store {P : Nat → Prop} {w u : World} (h : Kb P w u) {b : Nat} (hb : ¬ P b) (o : Nat) (vs : List Value) : Kb P w (u.setCells b o vs) :=
  ⟨by rw [size_setCells]; exact h.1, fun k hp hk => by rw [heap_setCells b vs o u k (fun e => hb (by rw [← e]; exact hp))]; exact h.2 k hp hk⟩
theorem there_below {u v : World} {b o n : Nat} (h : u.there b o n) (hb : b < u.heap.size) (g : Below u.heap.size u v) : v.there b o n := fun j hj => by
  rw [g.cell (p := ⟨b, o + j, none⟩) hb, g.frozen (p := ⟨b, o + j, none⟩) hb]; exact h j hj
theorem Bx.there {t : TypeId} {w : World} {g : Nat} {cs : List Value} (h : Bx t w g cs) : w.there g 0 cs.length := fun j hj => by
  rw [Nat.zero_add, h.cell (List.getElem?_eq_getElem hj)]
  exact ⟨rfl, h.frz j⟩
/-- append of rows as a step of a region that draws. -/
theorem step_append_rows {t e : TypeId} {sz b : Nat} (hT : RowT t e sz b) {w : World} {ops : Array Oper} {o : Oper} {a : Act} {K : Act → World → Prop} {Q : Exit → Act → World → Prop} {E : Prop} (hgd : o.guard = none) (s x : Operand)
    (ho : o.op = .call { callee := .builtin .append, args := #[s, x], argTypes := #[t, t] })
    (base : Nat) (v : Value) (n : Nat) (L : List (List Value)) (hs : a.eval s = v) (hown : w.ownsRow base e sz v n L.flatten)
    (A : Option Addr) (m c : Nat) (M : List (List Value)) (hx : a.eval x = .slice A m c) (hM : S0 sz w A m M) (h1 : One M) (hA : A = none → m = 0 ∧ c = 0) (h63 : n + m ≤ maxLen) (hb : (n + m) * b ≤ 140737488355328) (hbase : base ≤ w.heap.size)
    (h : ∀ v' w', w'.ownsRow base e sz v' (n + m) (L ++ M).flatten → w.grownBy w' v.ownBlock → (v'.ownBlock = v.ownBlock ∨ v'.ownBlock = some w.heap.size) → K (a.put o.dst v') w') :
    if Region.wanted o (yielded ops a.tmps) = true then Oper.wp Try.prog o a w K Q else E := by
  have hw : Region.wanted o (yielded ops a.tmps) = true := by simp [Region.wanted, hgd]
  rw [if_pos hw]
  obtain ⟨v', w', hr, h2, h3, _, h5⟩ := run_append_rows hT w base o.type v n L hown A m c M hM h1 hA h63 hb hbase
  unfold Oper.wp execOp
  simp only [ho, resolve, invoke, builtin, Sem.run_bind, Sem.run_pure, Result.andThen_ok, List.map_toArray, List.map_cons, List.map_nil, hs, hx, hr]
  exact h v' w' h2 h3 h5
/-- A number with a point, as cells and as a value. -/
def fxc (x : Int) : List Value := [.int .i64 (fh x), .int .u64 (fl x)]
@[reducible] def fxv (x : Int) : Value := .agg #[.int .i64 (fh x), .int .u64 (fl x)]
end Go.Proofs.Ytmmlekgojblopaa
