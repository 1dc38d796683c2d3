/- The program's By: eight deals, from the lowest digit up; and its Rising. -/
import Derived.Test.YtjilnmpajhifcaaGreatZzSrtA
import Derived.Laws.MakeOwn
import Derived.Deep.WholeRow
import Derived.Laws.CopyOwn
import Derived.Laws.ResultCell
import Derived.Deep.RegionWith
namespace Go.Proofs.YtjilnmpajhifcaaGreat
open Go.RowKit
/-- A block of n whole numbers. -/
def Ir (t : TypeId) (w : World) (g n : Nat) (F : Nat → Int) : Prop :=
  ∃ cur : Array Value, w.heap[g]? = some (.cells cur t (0, 0)) ∧ cur.size = n ∧ ∀ j, j < n → cur[j]? = some (.int .i64 (F j))
section
variable {t : TypeId} {w w' : World} {g n : Nat} {F : Nat → Int}
theorem Ir.lt (h : Ir t w g n F) : g < w.heap.size := by
  obtain ⟨cur, hh, _⟩ := h
  rcases Nat.lt_or_ge g w.heap.size with hlt | hge
  · exact hlt
  · rw [Array.getElem?_eq_none hge] at hh; cases hh
theorem Ir.frz (h : Ir t w g n F) (j : Nat) : w.frozen? ⟨g, j, none⟩ = false := by
  obtain ⟨cur, hh, _⟩ := h
  simp [World.frozen?, hh]
theorem Ir.cell (h : Ir t w g n F) {j : Nat} (hj : j < n) : w.cell? ⟨g, j, none⟩ = some (.int .i64 (F j)) := by
  obtain ⟨cur, hh, _, hc⟩ := h
  rw [cell_of_row w g _ cur _ (0, 0) hh]
  exact hc j hj
theorem Ir.block (h : Ir t w g n F) (e : w'.heap[g]? = w.heap[g]?) : Ir t w' g n F := by
  obtain ⟨cur, hh, r⟩ := h; exact ⟨cur, e.trans hh, r⟩
theorem Ir.below (h : Ir t w g n F) (k : Below w.heap.size w w') : Ir t w' g n F := h.block (k.block g h.lt)
theorem Ir.drew (h : Ir t w g n F) : Ir t w.drew g n F := h
theorem Ir.alloc (h : Ir t w g n F) (o : Obj) : Ir t (w.alloc o) g n F := h.block (Below.heap_alloc w o g h.lt)
theorem Ir.far (h : Ir t w g n F) {p : Addr} (hp : g ≠ p.block) (v : Value) : Ir t (w.setCell p v) g n F := h.block (Below.heap_setCell w p v g hp)
theorem Ir.put (h : Ir t w g n F) {j : Nat} (hj : j < n) (x : Int) : Ir t (w.setCell ⟨g, j, none⟩ (.int .i64 x)) g n (fun i => if i = j then x else F i) := by
  obtain ⟨cur, hh, hs, hc⟩ := h
  refine ⟨cur.setIfInBounds j (.int .i64 x), ?_, by simpa using hs, fun i hi => ?_⟩
  · simp [World.setCell, Array.getElem?_modify, hh]
  show _ = some (Value.int .i64 (if i = j then x else F i))
  by_cases c : i = j
  · subst c; rw [if_pos rfl, Array.getElem?_setIfInBounds_self_of_lt (by omega)]
  · rw [if_neg c, Array.getElem?_setIfInBounds_ne (by omega)]; exact hc i hi
theorem Ir.congr (h : Ir t w g n F) {G : Nat → Int} (e : ∀ j, j < n → F j = G j) : Ir t w g n G := by
  obtain ⟨cur, hh, hs, hc⟩ := h
  exact ⟨cur, hh, hs, fun j hj => by rw [← e j hj]; exact hc j hj⟩
end
theorem Ir.of_cells {t : TypeId} (w : World) {cs : Array Value} {n : Nat} (h : cs.size = n) (z : ∀ j, j < n → cs[j]? = some (.int .i64 0)) : Ir t (w.alloc (.cells cs t)) w.heap.size n (fun _ => 0) :=
  ⟨cs, heap_alloc_new w _, h, z⟩
end Go.Proofs.YtjilnmpajhifcaaGreat
namespace Go.Proofs.YtjilnmpajhifcaaGreat
section
variable {α : Type}
theorem hold_le {d : α → Nat} {L : List α} {i : Nat} (c : Nat) : hold d (L.take i) c ≤ hold d L c := by
  have h := hold_app d (L.take i) (L.drop i) c
  rw [List.take_append_drop] at h; omega
theorem hold_next {d : α → Nat} {L : List α} {i : Nat} {x : α} (h : L[i]? = some x) (c : Nat) : hold d (L.take (i + 1)) c = hold d (L.take i) c + if d x = c then 1 else 0 := by
  have hl := List.getElem?_eq_some_iff.1 h
  rw [List.take_succ_eq_append_getElem hl.1, hl.2, hold_snoc]
/-- Where the next body of a heap comes. -/
def pos (d : α → Nat) (L : List α) (i : Nat) (c : Nat) : Nat := lie d L c + hold d (L.take i) c
theorem pos_zero (d : α → Nat) (L : List α) (c : Nat) : pos d L 0 c = lie d L c := by unfold pos hold; simp
theorem pos_next {d : α → Nat} {L : List α} {i : Nat} {x : α} (h : L[i]? = some x) (c : Nat) : pos d L (i + 1) c = pos d L i c + if d x = c then 1 else 0 := by
  unfold pos; rw [hold_next h]; omega
theorem pos_room {d : α → Nat} {L : List α} {i : Nat} {x : α} (h : L[i]? = some x) : pos d L i (d x) < lie d L (d x + 1) := by
  have h1 := hold_next (d := d) h (d x)
  rw [if_pos rfl] at h1
  have h2 := hold_le (d := d) (L := L) (i := i + 1) (d x)
  unfold pos; rw [lie_succ]; omega
theorem pos_lt {d : α → Nat} {N : Nat} {L : List α} (hN : ∀ x, d x < N) {i : Nat} {x : α} (h : L[i]? = some x) : pos d L i (d x) < L.length := by
  have h1 := pos_room (d := d) h
  have h2 := lie_mono d L (show d x + 1 ≤ N from hN x)
  rw [lie_all L hN] at h2; omega
/-- The first i bodies lie where their heaps begin, one behind the other. -/
def Placed (d : α → Nat) (L : List α) (i : Nat) (T : List α) : Prop :=
  T.length = L.length ∧ ∀ (c k : Nat) (x : α), ((L.take i).filter fun y => d y == c)[k]? = some x → T[lie d L c + k]? = some x
theorem Placed.zero (d : α → Nat) {L T : List α} (h : T.length = L.length) : Placed d L 0 T := ⟨h, fun c k x hx => by simp at hx⟩
theorem Placed.step {d : α → Nat} {L T : List α} {i : Nat} {x : α} (h : Placed d L i T) (hx : L[i]? = some x) : Placed d L (i + 1) (T.set (pos d L i (d x)) x) := by
  obtain ⟨hl, hp⟩ := h
  have hxl := List.getElem?_eq_some_iff.1 hx
  have room := pos_room (d := d) hx
  refine ⟨by simpa using hl, fun c k y hy => ?_⟩
  rw [List.take_succ_eq_append_getElem hxl.1, hxl.2, List.filter_append] at hy
  have flen : ((L.take i).filter fun y => d y == c).length = hold d (L.take i) c := hold_filter _ _ _
  have far : k < hold d (L.take i) c → T[lie d L c + k]? = some y → (T.set (pos d L i (d x)) x)[lie d L c + k]? = some y := fun hk ht => by
    rw [List.getElem?_set_ne]
    · exact ht
    · have hle := hold_le (d := d) (L := L) (i := i) c
      have hs := lie_succ d L c
      rcases Nat.lt_trichotomy c (d x) with q | q | q
      · have := lie_mono d L (show c + 1 ≤ d x from q)
        unfold pos; omega
      · subst q; unfold pos; omega
      · have := lie_mono d L (show d x + 1 ≤ c from q)
        omega
  by_cases hc : d x = c
  · rw [List.getElem?_append] at hy
    split at hy
    · rename_i hk
      rw [flen] at hk
      exact far hk (hp c k y hy)
    · rename_i hk
      rw [flen] at hk hy
      have e : [x].filter (fun y => d y == c) = [x] := by simp [hc]
      rw [e] at hy
      have hk0 : k = hold d (L.take i) c := by
        have := (List.getElem?_eq_some_iff.1 hy).1
        simp at this; omega
      subst hk0
      rw [Nat.sub_self] at hy
      obtain rfl : x = y := by simpa using hy
      rw [← hc]
      have hT : pos d L i (d x) < T.length := by
        have h2 := lie_mono d L (show d x + 1 ≤ (d x + 1) from Nat.le_refl _)
        have h3 : lie d L (d x + 1) ≤ L.length := by unfold lie; exact List.countP_le_length
        omega
      show (T.set (pos d L i (d x)) x)[pos d L i (d x)]? = _
      rw [List.getElem?_set_self hT]
  · have e : [x].filter (fun y => d y == c) = [] := by simp [hc]
    rw [e, List.append_nil] at hy
    have hk := (List.getElem?_eq_some_iff.1 hy).1
    rw [flen] at hk
    exact far hk (hp c k y hy)
theorem Placed.done {d : α → Nat} {N : Nat} {L T : List α} (hN : ∀ x, d x < N) (h : Placed d L L.length T) : Std d T L := by
  have e := heaps_of (d := d) (N := N) (l := L) (m := T) hN h.1 fun c k x _ hx => h.2 c k x (by rw [List.take_of_length_le (Nat.le_refl _)]; exact hx)
  rw [e]; exact heaps_std L hN
end
/-- A key's digit at a place. -/
def dig (p : Nat) (x : Nat × Int) : Nat := x.1 / 256 ^ p % 256
theorem dig_lt (p : Nat) (x : Nat × Int) : dig p x < 256 := Nat.mod_lt _ (by decide)
/-- Sorted by the digits below place p. -/
def Low (p : Nat) (M L : List (Nat × Int)) : Prop := Std (fun x => x.1 % 256 ^ p) M L
theorem Low.zero (L : List (Nat × Int)) : Low 0 L L := by
  refine Std.refl ?_
  rw [List.pairwise_iff_getElem]
  intro i j hi hj _
  simp [Nat.mod_one]
theorem Low.next {p : Nat} {L M N : List (Nat × Int)} (h : Low p M L) (g : Std (dig p) N M) : Low (p + 1) N L := by
  refine Std.both (B := 256 ^ p) (fun x => Nat.mod_lt _ (Nat.pow_pos (by decide))) (fun x => ?_) h g
  show x.1 % 256 ^ (p + 1) = dig p x * 256 ^ p + x.1 % 256 ^ p
  unfold dig
  rw [Nat.pow_succ, Nat.mod_mul, Nat.mul_comm (256 ^ p) (x.1 / 256 ^ p % 256), Nat.add_comm]
theorem Low.all {L M : List (Nat × Int)} (h : Low 8 M L) (ho : ∀ x ∈ L, x.1 < 18446744073709551616) : Std Prod.fst M L := by
  have hp := h.perm
  have e : ∀ x : Nat × Int, x ∈ L → x.1 % 256 ^ 8 = x.1 := fun x hx => Nat.mod_eq_of_lt (ho x hx)
  have eM : ∀ x : Nat × Int, x ∈ M → x.1 % 256 ^ 8 = x.1 := fun x hx => e x (hp.mem_iff.1 hx)
  refine ⟨?_, fun c => ?_⟩
  · refine List.Pairwise.imp_of_mem (fun {a b} ha hb hab => ?_) h.1
    have hab : a.1 % 256 ^ 8 ≤ b.1 % 256 ^ 8 := hab
    rw [eM a ha, eM b hb] at hab; exact hab
  · have q := h.2 c
    have q1 : M.filter (fun x => (fun x : Nat × Int => x.1 % 256 ^ 8) x == c) = M.filter (fun x => x.1 == c) := List.filter_congr fun x hx => by show (x.1 % 256 ^ 8 == c) = _; rw [eM x hx]
    have q2 : L.filter (fun x => (fun x : Nat × Int => x.1 % 256 ^ 8) x == c) = L.filter (fun x => x.1 == c) := List.filter_congr fun x hx => by show (x.1 % 256 ^ 8 == c) = _; rw [e x hx]
    rw [← q1, ← q2]; exact q
end Go.Proofs.YtjilnmpajhifcaaGreat
namespace Go.Proofs.YtjilnmpajhifcaaGreat
open Go.RowKit
set_option maxRecDepth 20000 in
set_option maxHeartbeats 2000000 in
theorem digit_core (x s q r : Nat) (e1 : (x : Int) / 2 ^ min s 64 = (q : Int)) (e2 : (q : Int).tmod 256 = (r : Int)) (w : World) :
    Calls Tryz.prog 81 #[.int .u64 (x : Int), .int .i64 (s : Int)] w fun e w' => e = .returned (.int .u64 (r : Int)) ∧ Below w.heap.size w w' := by
  go_enter Tryz.func81, Tryz.ntmps81
  go_wp2_with fail
  go_returns
  exact ⟨rfl, bb⟩
theorem digit_any (x : Nat × Int) (p : Nat) (hp : p < 8) (w : World) :
    Calls Tryz.prog 81 #[.int .u64 (x.1 : Int), .int .i64 (8 * (p : Int))] w fun e w' => e = .returned (.int .u64 (dig p x : Int)) ∧ Below w.heap.size w w' := by
  rw [show 8 * (p : Int) = ((8 * p : Nat) : Int) by omega]
  refine digit_core x.1 (8 * p) (x.1 / 256 ^ p) (dig p x) ?_ ?_ w
  · have h : ((2 : Int) ^ (8 * p)) = ((256 ^ p : Nat) : Int) := by rw [Int.pow_mul]; simp
    rw [show min (8 * p) 64 = 8 * p by omega, h]; rfl
  · unfold dig
    rw [Int.tmod_eq_emod_of_nonneg (Int.natCast_nonneg _)]; rfl
/-- Rows of 256. -/
theorem row_info : ∃ z : Array Value, z.size = 256 ∧ (∀ j, j < 256 → z[j]? = some (.int .i64 0)) ∧ (∀ w, (zeroValue 134).run Tryz.prog w = .ok (.agg z) w) := by
  have h : (Tryz.prog.info? 134).map (fun i => (i.zero, i.size)) = some (some (.agg (Array.replicate 256 (.int .i64 0))), 256) := by kernel_rfl
  refine ⟨_, ?_, ?_, (zero_of_info h).1⟩
  · simp
  · intro j hj; simp [hj]
theorem row_size : (Tryz.prog.info? 134).map (·.size) = some 256 := by kernel_rfl
/-- So many numbers. -/
def Nums (cs : Array Value) (F : Nat → Int) : Prop := cs.size = 256 ∧ ∀ j, j < 256 → cs[j]? = some (.int .i64 (F j))
theorem Nums.one {cs : Array Value} {F : Nat → Int} (h : Nums cs F) : cs.all (·.oneCell') = true := by
  rw [Array.all_eq_true_iff_forall_mem]
  intro v hv
  obtain ⟨i, hi, rfl⟩ := Array.mem_iff_getElem.1 hv
  have e := h.2 i (by rw [← h.1]; exact hi)
  rw [Array.getElem?_eq_getElem hi] at e
  injection e with e
  rw [e]; rfl
theorem Ir.nums {t : TypeId} {w : World} {g : Nat} {F : Nat → Int} (h : Ir t w g 256 F) : ∃ cs, Nums cs F ∧ w.heap[g]? = some (.cells cs t (0, 0)) := by
  obtain ⟨cs, hh, hs, hc⟩ := h
  exact ⟨cs, ⟨hs, hc⟩, hh⟩
theorem Ir.loads {w : World} {g : Nat} {F : Nat → Int} (h : Ir 134 w g 256 F) : ∃ cs, Nums cs F ∧ (Instr.loadAt 134 (.pointer (some ⟨g, 0, none⟩))).run Tryz.prog w = .ok (.agg cs) w ∧ (loadVar 134 ⟨g, 0, none⟩).run Tryz.prog w = .ok (.agg cs) w ∧ (loadCellsFrom ⟨g, 0, none⟩ 0 256 #[]).run Tryz.prog w = .ok cs w := by
  obtain ⟨cs, hn, hh⟩ := h.nums
  have hl := run_loadVar_row (P := Tryz.prog) w g 134 134 cs (0, 0) _ hh Tryz.underlying134 rfl (by rw [hn.1]; exact row_size)
  refine ⟨cs, hn, ?_, hl, ?_⟩
  · simp only [Instr.loadAt, Instr.sureAddr, Sem.run_bind, Sem.run_pure, Result.andThen]; exact hl
  · have := run_loadCells_list (P := Tryz.prog) w ⟨g, 0, none⟩ cs.toList (fun j v hv => by
      have hadd : (⟨g, 0, none⟩ : Addr).add j = ⟨g, j, none⟩ := by unfold Addr.add; split <;> simp_all
      rw [hadd, cell_of_row _ _ j cs 134 (0, 0) hh]
      simpa using hv)
    simpa [loadCells, hn.1] using this
theorem Ir.stores {w : World} {g : Nat} {F G : Nat → Int} (h : Ir 134 w g 256 F) {cs : Array Value} (hc : Nums cs G) : (Instr.storeAt 134 (.pointer (some ⟨g, 0, none⟩)) (.agg cs)).run Tryz.prog w = .ok () (w.setRow g cs) ∧ (storeVar 134 ⟨g, 0, none⟩ (.agg cs)).run Tryz.prog w = .ok () (w.setRow g cs) ∧ (storeCells ⟨g, 0, none⟩ cs.toList 0).run Tryz.prog w = .ok () (w.setRow g cs) ∧ Ir 134 (w.setRow g cs) g 256 G ∧ (loadVar 134 ⟨g, 0, none⟩).run Tryz.prog (w.setRow g cs) = .ok (.agg cs) (w.setRow g cs) := by
  obtain ⟨old, hn, hh⟩ := h.nums
  have hs := run_storeVar_row (P := Tryz.prog) w g 134 134 old cs hh (by rw [hc.1]; exact row_size) (by rw [hc.1, hn.1]) hc.one
  refine ⟨?_, hs, ?_, ⟨cs, setRow_heap w g _ _ _ _ hh, hc.1, hc.2⟩, run_loadVar_row _ g 134 134 cs (0, 0) _ (setRow_heap w g _ _ _ _ hh) Tryz.underlying134 rfl (by rw [hc.1]; exact row_size)⟩
  · simp only [Instr.storeAt, Instr.sureAddr, Sem.run_bind, Sem.run_pure, Result.andThen]; exact hs
  · have hz := run_storeCells_from (P := Tryz.prog) g 134 cs.toList 0 old w hh (by simp [hc.1, hn.1]) (fun v hv => (Array.all_eq_true_iff_forall_mem.1 hc.one) v (by simpa using hv))
    rw [hz]
    simp
/-- What a walk does to a world leaves a row that it does not touch. -/
theorem irb {w w' : World} (g : Nat) (F : Nat → Int) (k : Below w.heap.size w w') (h : Ir 134 w g 256 F := by repeat (first | with_reducible exact Hid.out (by assumption) | with_reducible refine Ir.far ?_ (by first | (simp; done) | omega | (simp <;> omega)) _ | with_reducible refine Ir.alloc ?_ _ | with_reducible apply Ir.drew)) : Hid (Ir 134 w' g 256 F) := h.below k
theorem krb {w w' : World} (n : Nat) (L : List (Nat × Int)) (g : Nat) (k : Below w.heap.size w w') (h : Kr w g n L := by repeat (first | with_reducible exact Hid.out (by assumption) | with_reducible refine Kr.far ?_ (by first | (simp; done) | omega | (simp <;> omega)) _ | with_reducible refine Kr.alloc ?_ _ | with_reducible apply Kr.drew)) : Hid (Kr w' g n L) := h.below k
theorem irk {t : TypeId} {w : World} {n : Nat} {F : Nat → Int} {g : Nat} (h : Ir t w g n F := by repeat (first | with_reducible exact Hid.out (by assumption) | with_reducible refine Ir.far ?_ (by first | (simp; done) | omega | (simp <;> omega)) _ | with_reducible refine Ir.alloc ?_ _ | with_reducible apply Ir.drew)) : Ir t w g n F := h
theorem krk {w : World} {n : Nat} {L : List (Nat × Int)} {g : Nat} (h : Kr w g n L := by repeat (first | with_reducible exact Hid.out (by assumption) | with_reducible refine Kr.far ?_ (by first | (simp; done) | omega | (simp <;> omega)) _ | with_reducible refine Kr.alloc ?_ _ | with_reducible apply Kr.drew)) : Kr w g n L := h
end Go.Proofs.YtjilnmpajhifcaaGreat
namespace Go.Proofs.YtjilnmpajhifcaaGreat
open Go.RowKit
set_option maxRecDepth 20000 in
set_option maxHeartbeats 8000000 in
theorem starts_any (A : Option Addr) (n c : Nat) (L : List (Nat × Int)) (hn : n ≤ 8796093022208) (p : Nat) (hp : p < 8) (w : World) (hL : Ks w A n L) :
    Calls Tryz.prog 80 #[.slice A n c, .int .i64 (8 * (p : Int))] w fun e w' => ∃ cs, Nums cs (fun d => (lie (dig p) L d : Int)) ∧ e = .returned (.agg cs) ∧ Below w.heap.size w w' := by
  have HL := Lib.hid hL; have HN := Lib.hid hn
  have HD := Lib.hid fun x => digit_any x p hp
  obtain ⟨z, hv, hvz, hz⟩ := row_info
  have h0 := Ir.of_cells (t := 134) w hv hvz
  have h1 := Ir.of_cells (t := 134) (w.alloc (.cells z 134)) hv hvz
  have h2 := Ir.of_cells (t := 134) ((w.alloc (.cells z 134)).alloc (.cells z 134)) hv hvz
  simp only [World.size_alloc] at h1 h2
  have H0 := Lib.hid ((h0.alloc (.cells z 134)).alloc (.cells z 134)); have H1 := Lib.hid (h1.alloc (.cells z 134)); have H2 := Lib.hid h2
  clear hL hn hp h0 h1 h2 hv hvz
  go_enter Tryz.func80, Tryz.ntmps80
  go_wp2_with fail
  go_loopg [12] n (fun k iv wr => ∃ i : Nat, i + k = n ∧ iv = .int .i64 (i : Int) ∧ Ir 134 wr w.heap.size 256 (fun _ => 0) ∧ Ir 134 wr (w.heap.size + 1) 256 (fun d => (hold (dig p) (L.take i) d : Int)) ∧ Ir 134 wr (w.heap.size + 1 + 1) 256 (fun _ => 0) ∧ Below w.heap.size w wr)
  case atStart => exact ⟨0, by omega, rfl, H0.out, H1.out.congr fun j _ => by simp [hold], H2.out, bl_al (bl_al (bl_al (Below.refl _ _) _) _) _⟩
  case round =>
    obtain ⟨i, hk, rfl, q0, q1, q2, hbl⟩ := hrel
    have Q0 := Lib.hid q0; have Q1 := Lib.hid q1; have Q2 := Lib.hid q2; have HB := Lib.hid hbl
    have h9 := HN.out
    have z0 := q2.lt
    clear q0 q1 q2 hbl H0 H1 H2
    by_cases hlt : i < n
    · obtain ⟨G, o, x, rfl, hb, hx, c0, c1⟩ := (HL.out.below HB.out).at_ (k := i) hlt
      have hi : (i : Int) < (n : Int) := by omega
      have h0 : (0 : Int) ≤ (i : Int) := by omega
      have wi : IntKind.i64.wrap ((i : Int) + 1) = (i : Int) + 1 := by rw [IntWalk.i64_in _ (by omega)]
      have hd := dig_lt p x
      have hc := Q1.out.cell hd
      have hf := Q1.out.frz
      have e1 : (dig p x : Int) < 256 := by omega
      have e0 : (0 : Int) ≤ (dig p x : Int) := by omega
      have HX := Lib.hid hx
      have HK : Hid (i + gk = n) := hk
      clear hx hk h9
      go_wp2_with fail
      refine (HD.out x _).mono ?_
      rintro e w1 ⟨rfl, hb1⟩
      have R0 := irb w.heap.size (fun _ => 0) hb1
      have R1 := irb (w.heap.size + 1) (fun d => (hold (dig p) (L.take i) d : Int)) hb1
      have R2 := irb (w.heap.size + 1 + 1) (fun _ => 0) hb1
      have HB1 : Hid (Below w.heap.size w w1) := hbw hb1
      have hc := R1.out.cell hd
      have hf := R1.out.frz
      have z1 := R1.out.lt
      have wh : IntKind.i64.wrap ((hold (dig p) (L.take i) (dig p x) : Int) + 1) = (hold (dig p) (L.take i) (dig p x) : Int) + 1 := by
        have := HN.out; have h := HL.out.1
        have hl := List.countP_le_length (p := fun y => dig p y == dig p x) (l := L.take i)
        rw [List.length_take] at hl
        have e : hold (dig p) (L.take i) (dig p x) ≤ i := by unfold hold; omega
        rw [IntWalk.i64_in _ (by omega)]
      clear hb1 c0 c1 hb Q0 Q1 Q2
      go_wp2_with fail
      obtain ⟨g, rfl⟩ : ∃ g, gk = g + 1 := ⟨gk - 1, by have := HK.out; omega⟩
      go_roundg g
      case measure => omega
      case rel =>
        have q := R1.out.put hd ((hold (dig p) (L.take i) (dig p x) : Int) + 1)
        refine ⟨i + 1, by have := HK.out; omega, by simp, R0.out.far (by simp) _, q.congr fun j _ => ?_, R2.out.far (by simp) _, bb⟩
        rw [hold_next HX.out]
        by_cases h : j = dig p x
        · subst h; simp
        · have h' : ¬ dig p x = j := fun e => h e.symm
          simp [h, h']
    · have hi : ¬ (i : Int) < (n : Int) := by omega
      have hL := HL.out.1
      have P1 : Hid (Ir 134 wr (w.heap.size + 1) 256 (fun d => (hold (dig p) L d : Int))) := Q1.out.congr fun j _ => by rw [List.take_of_length_le (by omega)]
      clear Q1 hL
      go_wp2_with fail
      have hst : Ir 134 wr (w.heap.size + 1 + 1) 256 (fun j => if j < 1 then (lie (dig p) L j : Int) else 0) := Q2.out.congr fun j _ => by
        by_cases h : j < 1
        · have h' : j = 0 := by omega
          subst h'; rw [lie_zero]; simp
        · simp [h]
      go_loopg [9] 255 (fun k iv wq => ∃ d : Nat, 1 ≤ d ∧ d + k = 256 ∧ iv = .int .i64 (d : Int) ∧ Ir 134 wq w.heap.size 256 (fun _ => 0) ∧ Ir 134 wq (w.heap.size + 1) 256 (fun d => (hold (dig p) L d : Int)) ∧ Ir 134 wq (w.heap.size + 1 + 1) 256 (fun j => if j < d then (lie (dig p) L j : Int) else 0) ∧ Below w.heap.size w wq)
      case atStart => exact ⟨1, by omega, by omega, rfl, Q0.out, P1.out, hst, HB.out⟩
      case round =>
        obtain ⟨d, hd1, hdk, rfl, q0, q1, q2, hbl⟩ := hrel
        have Y0 := Lib.hid q0; have Y1 := Lib.hid q1; have Y2 := Lib.hid q2; have YB := Lib.hid hbl
        have z0 := q2.lt
        clear q0 q1 q2 hbl P1 Q0 Q2 HB hst
        by_cases hlt : d < 256
        · obtain ⟨j, hj⟩ : ∃ j, d = j + 1 := ⟨d - 1, by omega⟩
          have h9 := HN.out; have h8 := HL.out.1
          have hd : (d : Int) < 256 := by omega
          have h0 : (0 : Int) ≤ (d : Int) := by omega
          have h1 : (0 : Int) ≤ (j : Int) := by omega
          have h2 : (j : Int) < 256 := by omega
          have wi : IntKind.i64.wrap ((d : Int) + 1) = (d : Int) + 1 := by rw [IntWalk.i64_in _ (by omega)]
          have wj : IntKind.i64.wrap ((d : Int) - 1) = (j : Int) := by rw [IntWalk.i64_in _ (by omega)]; omega
          have hl : lie (dig p) L d = lie (dig p) L j + hold (dig p) L j := by rw [hj]; exact lie_succ _ _ _
          have hb2 : lie (dig p) L d ≤ L.length := by unfold lie; exact List.countP_le_length
          have ws : IntKind.i64.wrap ((lie (dig p) L j : Int) + (hold (dig p) L j : Int)) = (lie (dig p) L d : Int) := by rw [IntWalk.i64_in _ (by omega)]; omega
          have c1 := Y1.out.cell (show j < 256 by omega)
          have c2 := Y2.out.cell (show j < 256 by omega)
          have c3 := Y2.out.cell hlt
          have f2 := Y2.out.frz
          simp only [show j < d by omega, if_true] at c2
          simp only [show ¬ d < d by omega, if_false] at c3
          have HK : Hid (d + gk = 256) := hdk
          have HJ := Lib.hid hj
          obtain ⟨n1, n2⟩ := nn (show ¬ (d = j) by omega)
          clear hdk h9 h8 hl hb2 hj
          go_upto_region 10 with fail
          go_region_held3 (fun w' => w'.cell? ⟨w.heap.size + 1, j, none⟩ = some (.int .i64 (hold (dig p) L j : Int)) ∧ w'.cell? ⟨w.heap.size + 1 + 1, j, none⟩ = some (.int .i64 (lie (dig p) L j : Int))) (first | (simp [*, go_sem]; done)) (fail)
          rename_i hHeld
          clear hHeld
          go_wp2_with fail
          obtain ⟨g, rfl⟩ : ∃ g, gk = g + 1 := ⟨gk - 1, by have := HK.out; omega⟩
          go_roundg g
          case measure => omega
          case rel =>
            have q := Y2.out.put hlt (lie (dig p) L d : Int)
            refine ⟨d + 1, by omega, by have := HK.out; omega, by simp, Y0.out.far (by simp; omega) _, Y1.out.far (by simp) _, q.congr fun i _ => ?_, bb⟩
            by_cases h : i = d
            · subst h; simp
            · by_cases h' : i < d
              · simp [h, h', show i < d + 1 by omega]
              · simp [h, h', show ¬ i < d + 1 by omega]
        · have hd : ¬ (d : Int) < 256 := by omega
          obtain ⟨cs, hcs, hh⟩ := Y2.out.nums
          have hcs2 : Nums cs (fun d => (lie (dig p) L d : Int)) := ⟨hcs.1, fun j hj => by rw [hcs.2 j hj]; simp only [show j < d by omega, if_true]⟩
          have HC := Lib.hid hcs2
          have HH := Lib.hid hh
          have hcz := hcs2.1
          obtain ⟨_, _, hs3, _, hs5⟩ := Y0.out.stores hcs2
          have YR := Lib.hid hs5
          have HS := Lib.hid hs3
          clear hcs hcs2 hh hs3 hs5
          go_wp2_with fail
          refine wp_load_row 134 (.tmp 6) rfl (w.heap.size + 1 + 1) rfl 134 cs (0, 0) _ HH.out Tryz.underlying134 rfl (by rw [HC.out.1]; exact row_size) ?_
          go_wp2_with fail
          rw [HS.out]
          simp only [Result.andThen]
          rw [Oper.upon_skip]
          go_wp2_with fail
          (try simp only [Exit.inBlock, Exit.then])
          refine bodyPost_ret (v := .agg cs) ?_ rfl ⟨cs, HC.out, rfl, below_setRow YB.out (Nat.le_refl _) cs⟩
          have hlv := YR.out
          simp [results, asAddr, hlv, Act.put]
end Go.Proofs.YtjilnmpajhifcaaGreat
namespace Go.Proofs.YtjilnmpajhifcaaGreat
open Go.RowKit
set_option maxRecDepth 20000 in
set_option maxHeartbeats 8000000 in
theorem deal_any (B gT gF n cT cF : Nat) (L T : List (Nat × Int)) (hn : n ≤ 8796093022208) (hl : L.length = n) (ht : T.length = n) (hne : gT ≠ gF) (hT : B ≤ gT) (p : Nat) (hp : p < 8) (w : World) (hF : Kr w gF n L) (hR : Kr w gT n T) :
    Calls Tryz.prog 63 #[.slice (some ⟨gT, 0, none⟩) n cT, .slice (some ⟨gF, 0, none⟩) n cF, .int .i64 (8 * (p : Int))] w fun e w' => e = .returned (.tuple #[]) ∧ ∃ M, Std (dig p) M L ∧ Kr w' gF n L ∧ Kr w' gT n M ∧ Below B w w' := by
  have HF := Lib.hid hF; have HR := Lib.hid hR; have HN := Lib.hid hn; have HL := Lib.hid hl; have HTL := Lib.hid ht; have HT := Lib.hid hT
  have HNE := Lib.hid hne
  have hks := hF.slice
  rw [hl] at hks
  have HD := Lib.hid fun x => digit_any x p hp
  have HS := Lib.hid (starts_any (some ⟨gF, 0, none⟩) n cF L hn p hp w hks)
  obtain ⟨z, hv, hvz, hz⟩ := row_info
  have HV := Lib.hid hv
  clear hF hR hn hl ht hne hT hks hp hv hvz
  go_enter Tryz.func63, Tryz.ntmps63
  go_wp2_with fail
  refine HS.out.mono ?_
  rintro e w1 ⟨cs, hcs, rfl, hb1⟩
  have hsc := run_storeCells_new (P := Tryz.prog) w1 134 z cs (by rw [hcs.1]; exact row_size) (by rw [HV.out, hcs.1]) hcs.one
  have hi1 : Ir 134 (w1.alloc (.cells cs 134)) w1.heap.size 256 (fun d => (lie (dig p) L d : Int)) := ⟨cs, heap_alloc_new w1 _, hcs.1, hcs.2⟩
  have HI := Lib.hid hi1
  have HSC := Lib.hid hsc
  have HF1 := krb n L gF hb1
  have HR1 := krb n T gT hb1
  have hr1 := HR.out.lt; have hf1 := HF.out.lt
  have HB1 : Hid (Below w.heap.size w w1) := hbw hb1
  have hcz := hcs.1
  have HRW := Lib.hid hr1; have HNZ : Hid (gT < w1.heap.size) := Nat.lt_of_lt_of_le hr1 hb1.size; have HNF : Hid (gF < w1.heap.size) := Nat.lt_of_lt_of_le hf1 hb1.size
  clear hcs hsc hi1 hb1 HF HR HV
  go_wp2_with fail
  rw [HSC.out]
  simp only [Result.andThen]
  rw [Oper.upon_skip]
  go_wp2_with fail
  go_loopg [15] n (fun k iv wr => ∃ i : Nat, i + k = n ∧ iv = .int .i64 (i : Int) ∧ Ir 134 wr w1.heap.size 256 (fun d => (pos (dig p) L i d : Int)) ∧ Kr wr gF n L ∧ (∃ M, Placed (dig p) L i M ∧ Kr wr gT n M) ∧ Below B w wr)
  case atStart => exact ⟨0, by omega, rfl, HI.out.congr fun j _ => by rw [pos_zero], HF1.out.alloc _, ⟨T, Placed.zero _ (HTL.out.trans HL.out.symm), HR1.out.alloc _⟩, (HB1.out.mono (by have := HT.out; have := HRW.out; omega)).alloc (by have := HT.out; have := HNZ.out; omega) _⟩
  case round =>
    obtain ⟨i, hk, rfl, q0, q1, ⟨M, hM, q2⟩, hbl⟩ := hrel
    have Q0 := Lib.hid q0; have Q1 := Lib.hid q1; have Q2 := Lib.hid q2; have HB := Lib.hid hbl; have HM := Lib.hid hM
    have h9 := HN.out
    have z0 := q0.lt; have z1 := q1.lt; have z2 := q2.lt
    have zn := HNZ.out
    clear HI HF1 HR1 HB1 hbl
    by_cases hlt : i < n
    · have hl := HL.out; have htl := HTL.out
      have hx := List.getElem?_eq_getElem (l := L) (i := i) (by omega)
      obtain ⟨x, hx'⟩ : ∃ x, L[i]? = some x := ⟨_, hx⟩
      obtain ⟨c0, c1⟩ := q1.cells i x hx'
      have hd := dig_lt p x
      obtain ⟨j, hj⟩ : ∃ j, j = pos (dig p) L i (dig p x) := ⟨_, rfl⟩
      have hjn : j < L.length := by rw [hj]; exact pos_lt (dig_lt p) hx'
      have hML := hM.1
      have hy := List.getElem?_eq_getElem (l := M) (i := j) (by omega)
      have hi : (i : Int) < (n : Int) := by omega
      have h0 : (0 : Int) ≤ (i : Int) := by omega
      have wi : IntKind.i64.wrap ((i : Int) + 1) = (i : Int) + 1 := by rw [IntWalk.i64_in _ (by omega)]
      have e1 : (dig p x : Int) < 256 := by omega
      have e0 : (0 : Int) ≤ (dig p x : Int) := by omega
      have HX := Lib.hid hx'
      have HJ := Lib.hid hj; have HJN : Hid (j < n) := (by omega : j < n)
      have HK : Hid (i + gk = n) := hk
      have HMJ : Hid (j < M.length) := (by omega : j < M.length)
      clear hx hx' hk h9 q0 q1 q2 hM hML hl htl hjn hy hj
      go_wp2_with fail
      refine (HD.out x _).mono ?_
      rintro e w2 ⟨rfl, hb2⟩
      have R0 := irb w1.heap.size (fun d => (pos (dig p) L i d : Int)) hb2
      have R1 := krb n L gF hb2
      have R2 := krb n M gT hb2
      have HB2 : Hid (Below B w w2) := (HB.out.alloc (by have := HT.out; omega) _).trans (hb2.mono (by have := HT.out; simp; omega))
      have k0 : w2.cell? ⟨wr.heap.size, 0, none⟩ = some (.int .u64 (x.1 : Int)) := (hb2.cell (by simp)).trans (by simp [go_sem])
      have k1 : w2.cell? ⟨wr.heap.size, 1, none⟩ = some (.int .i64 x.2) := (hb2.cell (by simp)).trans (by simp [go_sem])
      have hs := hb2.size
      simp only [World.size_alloc] at hs
      have hc := R0.out.cell hd
      simp only [← HJ.out] at hc
      have hf := R0.out.frz
      obtain ⟨m0, m1⟩ := R2.out.cells j _ (List.getElem?_eq_getElem HMJ.out)
      have mf := R2.out.frz
      have j1 : (j : Int) < (n : Int) := by have := HJN.out; omega
      have j0 : (0 : Int) ≤ (j : Int) := by omega
      have jn : ¬ (j : Int) < 0 := by omega
      have jm : ¬ (n : Int) ≤ (j : Int) := by omega
      have r0 := R0.out.lt; have r1 := R1.out.lt; have r2 := R2.out.lt
      have wjj : IntKind.i64.wrap ((j : Int) + 1) = (j : Int) + 1 := by rw [IntWalk.i64_in _ (by have := HN.out; omega)]
      obtain ⟨n1, n2⟩ := nn (show ¬ (gT = w1.heap.size) by omega)
      obtain ⟨n3, n4⟩ := nn (show ¬ (gT = wr.heap.size) by omega)
      clear hb2 Q0 Q1 Q2 HB c0 c1
      go_upto_region 5 with fail
      go_region_held3 (fun w' => w'.cell? ⟨w1.heap.size, dig p x, none⟩ = some (.int .i64 (j : Int)) ∧ w'.cell? ⟨wr.heap.size, 0, none⟩ = some (.int .u64 (x.1 : Int)) ∧ w'.cell? ⟨wr.heap.size, 1, none⟩ = some (.int .i64 x.2)) (first | (simp [*, go_sem]; done)) (fail)
      rename_i hHeld
      clear hHeld
      have P0 : Hid (Ir 134 ((w2.setCell ⟨gT, j * 2, none⟩ (.int .u64 (x.1 : Int))).setCell ⟨gT, j * 2 + 1, none⟩ (.int .i64 x.2)).drew w1.heap.size 256 (fun d => (pos (dig p) L i d : Int))) := ((R0.out.far (by simp; omega) _).far (by simp; omega) _).drew
      have P1 : Hid (Kr ((w2.setCell ⟨gT, j * 2, none⟩ (.int .u64 (x.1 : Int))).setCell ⟨gT, j * 2 + 1, none⟩ (.int .i64 x.2)).drew gF n L) := ((R1.out.far (fun e => HNE.out e.symm) _).far (fun e => HNE.out e.symm) _).drew
      have P2 : Hid (Kr ((w2.setCell ⟨gT, j * 2, none⟩ (.int .u64 (x.1 : Int))).setCell ⟨gT, j * 2 + 1, none⟩ (.int .i64 x.2)).drew gT n (M.set j x)) := (R2.out.put HMJ.out x).drew
      have PB : Hid (Below B w ((w2.setCell ⟨gT, j * 2, none⟩ (.int .u64 (x.1 : Int))).setCell ⟨gT, j * 2 + 1, none⟩ (.int .i64 x.2)).drew) := ((HB2.out.setCell HT.out _).setCell HT.out _).drew
      obtain ⟨w3, E3⟩ : ∃ w3, w3 = ((w2.setCell ⟨gT, j * 2, none⟩ (.int .u64 (x.1 : Int))).setCell ⟨gT, j * 2 + 1, none⟩ (.int .i64 x.2)).drew := ⟨_, rfl⟩
      rw [← E3] at P0 P1 P2 PB ⊢
      have hc := P0.out.cell hd
      simp only [← HJ.out] at hc
      have hf := P0.out.frz
      have q0 := P0.out.lt
      clear E3 R0 R1 R2 HB2 k0 k1 m0 m1 mf hs
      go_wp2_with fail
      obtain ⟨g, rfl⟩ : ∃ g, gk = g + 1 := ⟨gk - 1, by have := HK.out; omega⟩
      go_roundg g
      case measure => omega
      case rel =>
        have q := P0.out.put hd ((j : Int) + 1)
        refine ⟨i + 1, by have := HK.out; omega, by simp, q.congr fun c _ => ?_, P1.out.far (by have := HNF.out; simp; omega) _, ⟨M.set j x, ?_, P2.out.far (by simp; omega) _⟩, PB.out.setCell (by have := HT.out; have := HNZ.out; simp; omega) _⟩
        · rw [pos_next HX.out]
          have e := HJ.out
          by_cases h : c = dig p x
          · subst h; simp [e]
          · have h' : ¬ dig p x = c := fun e => h e.symm
            simp [h, h']
        · rw [HJ.out]; exact HM.out.step HX.out
    · have hi : ¬ (i : Int) < (n : Int) := by omega
      have hl := HL.out
      have hS : Std (dig p) M L := by
        obtain rfl : i = L.length := by omega
        exact hM.done (dig_lt p)
      have HSM := Lib.hid hS
      clear hS hM q0 q1 q2 hk hl
      go_wp2_with fail
      go_returns
      exact ⟨rfl, M, HSM.out, Q1.out, Q2.out, HB.out⟩
end Go.Proofs.YtjilnmpajhifcaaGreat
namespace Go.Proofs.YtjilnmpajhifcaaGreat
open Go.RowKit
theorem flat_two (m : Nat) : flat (List.replicate m ((0 : Nat), (0 : Int))) = (List.range (m * 2)).map fun j => if j % 2 = 0 then Value.int .u64 0 else .int .i64 0 := by
  apply List.ext_getElem?
  intro j
  rw [List.getElem?_map]
  by_cases h : j < m * 2
  · rw [List.getElem?_range h]
    have e : (List.replicate m ((0 : Nat), (0 : Int)))[j / 2]? = some (0, 0) := by rw [List.getElem?_replicate, if_pos (by omega)]
    obtain ⟨a, b⟩ := flat_at _ _ _ e
    rcases (show j % 2 = 0 ∨ j % 2 = 1 by omega) with d | d
    · rw [show j / 2 * 2 = j by omega] at a; rw [a]; simp [d]
    · rw [show j / 2 * 2 + 1 = j by omega] at b; rw [b]; simp [d]
  · rw [List.getElem?_eq_none (by rw [flat_len, List.length_replicate]; omega), List.getElem?_eq_none (by simp; omega)]; rfl
theorem kd_makes (m : Nat) (hm : m ≤ 8796093022208) : ∃ cs : Array Value, cs.toList = flat (List.replicate m (0, 0)) ∧
    ∀ W : World, (Instr.makeSlice 36 (.int .i64 (m : Int)) (.int .i64 (m : Int))).run Tryz.prog W = .ok (.slice (some ⟨W.heap.size, 0, none⟩) m m) (W.alloc (.cells cs 68)) := by
  obtain ⟨i0, hi, hz0, hz1, hz2⟩ := info_parts kd_info
  refine ⟨madeCells #[.int .u64 0, .int .i64 0] (m * 2), ?_, fun W => ?_⟩
  · rw [flat_two]
    unfold madeCells
    rw [Array.toList_map, Array.toList_range]
    apply List.map_congr_left
    intro j _
    rcases (show j % 2 = 0 ∨ j % 2 = 1 by omega) with d | d <;> simp [d]
  · have h := run_make (P := Tryz.prog) W 36 68 i0 (.agg #[.int .u64 0, .int .i64 0]) Tryz.underlying36 hi hz0 .i64 .i64 (m : Int) (m : Int) (by omega) (Int.le_refl _) (by rw [hz2]; omega) (by omega)
    simp only [Int.toNat_natCast, hz1] at h
    exact h
theorem run_copy_kd {w : World} {g n cap c : Nat} {A : Option Addr} {L T : List (Nat × Int)} (ty : TypeId) (hT : Kr w g n T) (hL : Ks w A n L) :
    ∃ w', (Builtin.copy_ #[36, 36] ty #[.slice (some ⟨g, 0, none⟩) n cap, .slice A n c]).run Tryz.prog w = .ok (goInt n) w' ∧ Kr w' g n L ∧ ∀ (B : Nat) (w0 : World), Below B w0 w → B ≤ g → Below B w0 w' ∧ ∀ k, k ≠ g → w'.heap[k]? = w.heap[k]? := by
  obtain ⟨i0, hi, hz0, hz1, hz2⟩ := info_parts kd_info
  obtain ⟨cur, hh, hs, ht, hc⟩ := hT
  have hlL := hL.1
  rcases A with _ | a
  · have hn : n = 0 := by
      rcases Nat.eq_zero_or_pos n with h | h
      · exact h
      · obtain ⟨_, _, e, _⟩ := hL.2 h; cases e
    subst hn
    obtain rfl : L = [] := List.length_eq_zero_iff.1 hlL
    refine ⟨w, ?_, ⟨cur, hh, hs, by simp, fun j x hx => by simp at hx⟩, fun B w0 hb _ => ⟨hb, fun _ _ => rfl⟩⟩
    simp [Builtin.copy_, run_underlying (P := Tryz.prog) (t := 36) Tryz.underlying36, Builtin.lenOf, Builtin.firstCells, sizeOf, typeInfo, hi, storeCells]
  · have hl := run_loadCells_list (P := Tryz.prog) w a (flat L) (fun j u hu => (hL.asFlat j u hu).2)
    have hst := run_storeCells_at Tryz.prog g 0 68 (flat L) 0 cur w hh (by rw [flat_len, hlL]; omega) (flat_one L)
    have e : (cur.toList.take (0 + 0) ++ flat L ++ cur.toList.drop (0 + 0 + (flat L).length)).toArray = (flat L).toArray := by
      rw [List.drop_eq_nil_of_le (by rw [flat_len, hlL, Array.length_toList]; omega)]; simp
    rw [e] at hst
    rw [flat_len, hlL] at hl
    refine ⟨w.setRow g (flat L).toArray, ?_, ⟨(flat L).toArray, setRow_heap w g _ _ _ _ hh, by simp [flat_len, hlL], by omega, fun j x hx => ?_⟩, fun B w0 hb hB => ⟨below_setRow hb hB _, fun k hk => setRow_other w g k _ hk⟩⟩
    · simp [Builtin.copy_, run_underlying (P := Tryz.prog) (t := 36) Tryz.underlying36, Builtin.lenOf, Builtin.firstCells, sizeOf, typeInfo, hi, hz1, hl, hst]
    · obtain ⟨u, v⟩ := flat_at L j x hx
      exact ⟨by simpa using u, by simpa using v⟩
theorem wpList_copy_kd {w : World} {ops : Array Oper} {rest : List Oper} {o : Oper} {a : Act} {Q : Exit → Act → World → Prop} (hgd : o.guard = none) (d s : Operand)
    (ho : o.op = .call { callee := .builtin .copy, args := #[d, s], argTypes := #[36, 36] })
    (g n cap c : Nat) (A : Option Addr) (L T : List (Nat × Int)) (hd : a.eval d = .slice (some ⟨g, 0, none⟩) n cap) (hs : a.eval s = .slice A n c) (hT : Kr w g n T) (hL : Ks w A n L)
    (h : ∀ w', Kr w' g n L → (∀ (B : Nat) (w0 : World), Below B w0 w → B ≤ g → Below B w0 w' ∧ ∀ k, k ≠ g → w'.heap[k]? = w.heap[k]?) → wpList Tryz.prog ops Q rest (a.put o.dst (goInt n)) w') :
    wpList Tryz.prog ops Q (o :: rest) a w := by
  refine wpList_plain hgd fun K hK => ?_
  obtain ⟨w', hr, h2, h3⟩ := run_copy_kd (cap := cap) (c := c) o.type hT hL
  unfold Oper.wp execOp
  simp only [ho, resolve, invoke, builtin, Sem.run_bind, Sem.run_pure, Result.andThen_ok, List.map_toArray, List.map_cons, List.map_nil, hd, hs, hr]
  exact hK _ _ (h w' h2 h3)
end Go.Proofs.YtjilnmpajhifcaaGreat
namespace Go.Proofs.YtjilnmpajhifcaaGreat
open Go.RowKit
set_option maxRecDepth 20000 in
set_option maxHeartbeats 8000000 in
theorem by_prog : ByT := by
  intro A n c L hn hA h64 w hL
  have HL := Lib.hid hL; have HN := Lib.hid hn; have HA := Lib.hid hA; have H64 := Lib.hid h64
  have hlen := hL.1
  have HLN := Lib.hid hlen
  obtain ⟨cs, hcs, hmk⟩ := kd_makes n hn
  have HCS := Lib.hid hcs
  clear hL hn hA h64 hlen hcs
  go_enter Tryz.func34, Tryz.ntmps34
  go_upto_region 1 with fail
  go_cut [3, 4] (fun s r wz => ∃ g h, s = .slice (some ⟨g, 0, none⟩) n n ∧ r = .slice (some ⟨h, 0, none⟩) n n ∧ g ≠ h ∧ w.heap.size ≤ g ∧ w.heap.size ≤ h ∧ Kr wz g n (List.replicate n (0, 0)) ∧ Kr wz h n (List.replicate n (0, 0)) ∧ Below w.heap.size w wz)
  case first =>
    have k0 := Kr.new w (List.replicate n ((0 : Nat), (0 : Int))) HCS.out
    have k1 := Kr.new (w.alloc (.cells cs 68)) (List.replicate n ((0 : Nat), (0 : Int))) HCS.out
    rw [List.length_replicate] at k0 k1
    simp only [World.size_alloc] at k1
    have K0 := Lib.hid (k0.alloc (.cells cs 68)); have K1 := Lib.hid k1
    clear k0 k1
    go_region_with (fail)
    · go_wp2_with fail
      go_meet
      exact ⟨_, _, rfl, rfl, by omega, by omega, by omega, K0.out.drew, K1.out.drew, bb⟩
    · go_wp2_with fail
      go_meet
      exact ⟨_, _, rfl, rfl, by omega, by omega, by omega, K1.out.drew, K0.out.drew, bb⟩
  case rest =>
  obtain ⟨g, h, rfl, rfl, hne, hg, hh, kg, kh, hb⟩ := hcut
  have HNE := Lib.hid hne; have HG := Lib.hid hg; have HH := Lib.hid hh; have KG := Lib.hid kg; have KH := Lib.hid kh; have HB := Lib.hid hb
  clear hne hg hh kg kh hb hmk HCS
  go_wp2_with fail
  obtain ⟨wa, hr, ka, hka⟩ := run_copy_kd (cap := n) (c := c) 3 KG.out (HL.out.below HB.out)
  rw [hr]
  simp only [Result.andThen]
  rw [Oper.upon_value]
  have KA := Lib.hid ka
  obtain ⟨hba, hbk⟩ := hka _ _ HB.out HG.out
  have BA := Lib.hid hba
  have KHA : Hid (Kr wa h n (List.replicate n (0, 0))) := KH.out.block (hbk h (fun e => HNE.out e.symm))
  clear hr ka hka hba hbk KG KH HB
  go_wp2_with fail
  go_loopg [3, 4, 5] 8 (fun k s r iv wr => ∃ (p gs gr : Nat) (M T : List (Nat × Int)), p + k = 8 ∧ iv = .int .i64 (8 * (p : Int)) ∧ s = .slice (some ⟨gs, 0, none⟩) n n ∧ r = .slice (some ⟨gr, 0, none⟩) n n ∧ gs ≠ gr ∧ w.heap.size ≤ gs ∧ w.heap.size ≤ gr ∧ Low p M L ∧ T.length = n ∧ Kr wr gs n M ∧ Kr wr gr n T ∧ Below w.heap.size w wr)
  case atStart => exact ⟨0, g, h, L, _, by omega, rfl, rfl, rfl, HNE.out, HG.out, HH.out, Low.zero L, List.length_replicate, KA.out, KHA.out, BA.out⟩
  case round =>
    obtain ⟨p, gs, gr, M, T, hk, rfl, rfl, rfl, hne, hgs, hgr, hM, hT, ks, kr, hb⟩ := hrel
    have RNE := Lib.hid hne; have RS := Lib.hid hgs; have RR := Lib.hid hgr; have RM := Lib.hid hM; have RT := Lib.hid hT; have KS := Lib.hid ks; have KR := Lib.hid kr; have RB := Lib.hid hb
    have RK : Hid (p + gk = 8) := hk
    clear hne hgs hgr hM hT ks kr hb KA KHA BA HNE HG HH
    by_cases hp : p < 8
    · have h1 : 8 * (p : Int) < 64 := by omega
      have wi : IntKind.i64.wrap (8 * (p : Int) + 8) = 8 * ((p + 1 : Nat) : Int) := by rw [IntWalk.i64_in _ (by omega)]; omega
      clear hk
      go_wp2_with fail
      refine (deal_any w.heap.size gr gs n n n M T HN.out ?_ RT.out (fun e => RNE.out e.symm) RR.out p hp _ KS.out KR.out).mono ?_
      · exact (RM.out.perm.length_eq).trans HLN.out
      rintro e w2 ⟨rfl, N, hS, k1, k2, hb2⟩
      have HS := Lib.hid hS; have K1 := Lib.hid k1; have K2 := Lib.hid k2
      have HB2 := Lib.hid (RB.out.trans hb2)
      clear hS k1 k2 hb2 KS KR RB
      go_wp2_with fail
      obtain ⟨q, rfl⟩ : ∃ q, gk = q + 1 := ⟨gk - 1, by have := RK.out; omega⟩
      go_roundg q
      case measure => omega
      case rel => exact ⟨p + 1, gr, gs, N, M, by have := RK.out; omega, rfl, rfl, rfl, fun e => RNE.out e.symm, RR.out, RS.out, RM.out.next HS.out, (RM.out.perm.length_eq).trans HLN.out, K2.out, K1.out, HB2.out⟩
    · have h1 : ¬ 8 * (p : Int) < 64 := by omega
      have HS : Hid (Std Prod.fst M L) := by
        have hM := RM.out
        obtain rfl : p = 8 := by omega
        exact hM.all H64.out
      go_wp2_with fail
      go_returns
      have hl : M.length = n := (RM.out.perm.length_eq).trans HLN.out
      have ho := KS.out.own RS.out (by have := HN.out; unfold maxLen; omega)
      rw [hl] at ho
      exact ⟨⟨_, M, rfl, ho, HS.out⟩, RB.out⟩
end Go.Proofs.YtjilnmpajhifcaaGreat
