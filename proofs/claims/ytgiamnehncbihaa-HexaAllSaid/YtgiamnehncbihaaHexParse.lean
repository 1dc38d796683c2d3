/- Parse: cores over what its callees tell. -/
import Derived.Test.YtgiamnehncbihaaHexText
import Derived.Test.YtgiamnehncbihaaHexRead
import Derived.Test.YtgiamnehncbihaaHexShelf
import Derived.WalkSmall
namespace Go.Proofs.Ytgiamnehncbihaa
open Go.RowKit

theorem cutPrefix_any (s p : ByteArray) (w : World) :
    Calls Try.prog 43 #[.string s, .string p] w fun e w' => e = .returned (.tuple #[.string ⟨(Lib.trimPrefix s.data.toList p.data.toList).toArray⟩, .bool (Lib.hasPrefix s.data.toList p.data.toList)]) ∧ Below w.heap.size w w' :=
  (Any.strings_CutPrefix Try.lays103 s p w).mono fun _ _ ⟨h, g⟩ => ⟨h, by rw [g]; exact Below.refl _ _⟩
theorem cut_any (s sep : ByteArray) (m : Int) (hs : s.size < 4294967281) (w : World) (hm : w.cell? ⟨0, 0, none⟩ = some (.int .i64 m)) :
    Calls Try.prog 44 #[.string s, .string sep] w fun e w' => e = .returned (.tuple #[.string ⟨(Lib.cut s.data.toList sep.data.toList).1.toArray⟩, .string ⟨(Lib.cut s.data.toList sep.data.toList).2.1.toArray⟩, .bool (Lib.cut s.data.toList sep.data.toList).2.2]) ∧ Below w.heap.size w w' :=
  (Any.strings_Cut Try.lays145 s sep m w hs hm).mono fun _ _ ⟨h, n, g⟩ => ⟨h, by rw [g]; exact below_drewN (Below.refl _ _) n⟩

set_option maxRecDepth 20000 in
set_option maxHeartbeats 8000000 in
theorem parse_pos_core (s r1 r2 r3 t : ByteArray) (b2 m : Bool) (M : Value) (A L h : Int) (eh : IntKind.i64.wrap A = h) (em : (t.toList == s.toList) = m) (w : World)
    (hm : w.cell? ⟨0, 0, none⟩ = some M)
    (C1 : ∀ W, Calls Try.prog 43 #[.string s, .string ⟨#[45]⟩] W fun e w' => e = .returned (.tuple #[.string r1, .bool false]) ∧ Below W.heap.size W w')
    (C2 : ∀ W : World, W.cell? ⟨0, 0, none⟩ = some M → Calls Try.prog 44 #[.string r1, .string ⟨#[46]⟩] W fun e w' => e = .returned (.tuple #[.string r2, .string r3, .bool b2]) ∧ Below W.heap.size W w')
    (C3 : ∀ W, Calls Try.prog 45 #[.string r2] W fun e w' => e = .returned (.int .u64 A) ∧ Below W.heap.size W w')
    (C4 : ∀ W, Calls Try.prog 45 #[.string r3] W fun e w' => e = .returned (.int .u64 L) ∧ Below W.heap.size W w')
    (C5 : ∀ W, Calls Try.prog 15 #[.agg #[.int .i64 h, .int .u64 L]] W fun e w' => e = .returned (.string t) ∧ Below W.heap.size W w') :
    Calls Try.prog 13 #[.string s] w fun e w' => e = .returned (.tuple #[.agg #[.int .i64 (if m then h else 0), .int .u64 (if m then L else 0)], .bool m]) ∧ Below w.heap.size w w' := by
  have K1 := Lib.hid C1; have K2 := Lib.hid C2; have K3 := Lib.hid C3; have K4 := Lib.hid C4; have K5 := Lib.hid C5
  clear C1 C2 C3 C4 C5
  have hlt := World.block_lt_of_cell? _ _ hm
  go_enter Try.func13, Try.ntmps13
  go_wp2_with fail
  (with_reducible refine (K1.out _).mono ?_); rintro e w1 ⟨rfl, hb⟩
  obtain ⟨hcl1, hfr1⟩ := bcell hb
  have z1 : w.heap.size < w1.heap.size := by have hz := hb.size; simp at hz; omega
  have g1 : w1.cell? ⟨0, 0, none⟩ = some M := by rw [hcl1 _ _ (by simp), World.cell?_alloc_old _ _ _ (Nat.ne_of_lt hlt)]; exact hm
  have a1 : w1.cell? ⟨w.heap.size, 0, none⟩ = some (.int .i64 0) := by rw [hcl1 _ _ (by simp)]; simp [go_sem]
  have b1 : w1.cell? ⟨w.heap.size, 1, none⟩ = some (.int .u64 0) := by rw [hcl1 _ _ (by simp)]; simp [go_sem]
  have f1 : ∀ j, w1.frozen? ⟨w.heap.size, j, none⟩ = false := fun j => by rw [hfr1 _ _ (by simp), frozen?_alloc_cells]; simp [World.frozen?]
  have HB1 := Lib.hid (bl_trans (bl_al (Below.refl _ _) _) hb)
  have C2 := K2.out w1 g1
  clear hb hcl1 hfr1
  go_wp2_with fail
  (with_reducible refine C2.mono ?_); rintro e w2 ⟨rfl, hb⟩
  obtain ⟨hcl2, hfr2⟩ := bcell hb
  have z2 : w.heap.size < w2.heap.size := Nat.lt_of_lt_of_le z1 hb.size
  have a2 : w2.cell? ⟨w.heap.size, 0, none⟩ = some (.int .i64 0) := by rw [hcl2 _ _ z1]; exact a1
  have b2 : w2.cell? ⟨w.heap.size, 1, none⟩ = some (.int .u64 0) := by rw [hcl2 _ _ z1]; exact b1
  have f2 : ∀ j, w2.frozen? ⟨w.heap.size, j, none⟩ = false := fun j => by rw [hfr2 _ _ z1]; exact f1 j
  have HB2 := Lib.hid (bl_trans HB1.out hb)
  clear hb hcl2 hfr2 a1 b1 f1 g1 z1 HB1 hm hlt C2
  go_wp2_with fail
  (with_reducible refine (K3.out _).mono ?_); rintro e w3 ⟨rfl, hb⟩
  obtain ⟨hcl3, hfr3⟩ := bcell hb
  have z3 : w.heap.size < w3.heap.size := Nat.lt_of_lt_of_le z2 hb.size
  have a3 : w3.cell? ⟨w.heap.size, 0, none⟩ = some (.int .i64 0) := by rw [hcl3 _ _ z2]; exact a2
  have b3 : w3.cell? ⟨w.heap.size, 1, none⟩ = some (.int .u64 0) := by rw [hcl3 _ _ z2]; exact b2
  have f3 : ∀ j, w3.frozen? ⟨w.heap.size, j, none⟩ = false := fun j => by rw [hfr3 _ _ z2]; exact f2 j
  have HB3 := Lib.hid (bl_trans HB2.out hb)
  clear hb hcl3 hfr3 a2 b2 f2 z2 HB2
  go_wp2_with fail
  (with_reducible refine (K4.out _).mono ?_); rintro e w4 ⟨rfl, hb⟩
  obtain ⟨hcl4, hfr4⟩ := bcell hb
  have z4 : w.heap.size < w4.heap.size := Nat.lt_of_lt_of_le z3 hb.size
  have a4 : w4.cell? ⟨w.heap.size, 0, none⟩ = some (.int .i64 0) := by rw [hcl4 _ _ z3]; exact a3
  have b4 : w4.cell? ⟨w.heap.size, 1, none⟩ = some (.int .u64 0) := by rw [hcl4 _ _ z3]; exact b3
  have f4 : ∀ j, w4.frozen? ⟨w.heap.size, j, none⟩ = false := fun j => by rw [hfr4 _ _ z3]; exact f3 j
  have HB4 := Lib.hid (bl_trans HB3.out hb)
  clear hb hcl4 hfr4 a3 b3 f3 z3 HB3
  go_wp2_with fail
  (with_reducible refine (K5.out _).mono ?_); rintro e w5 ⟨rfl, hb⟩
  obtain ⟨hcl5, hfr5⟩ := bcell hb
  have z5a : w4.heap.size < w5.heap.size := by have hz := hb.size; simp at hz; omega
  have z5 : w.heap.size < w5.heap.size := by omega
  have a5 : w5.cell? ⟨w.heap.size, 0, none⟩ = some (.int .i64 0) := by rw [hcl5 _ _ (by simp; omega), World.cell?_alloc_old _ _ _ (Nat.ne_of_lt z4)]; exact a4
  have b5 : w5.cell? ⟨w.heap.size, 1, none⟩ = some (.int .u64 0) := by rw [hcl5 _ _ (by simp; omega), World.cell?_alloc_old _ _ _ (Nat.ne_of_lt z4)]; exact b4
  have f5 : ∀ j, w5.frozen? ⟨w.heap.size, j, none⟩ = false := fun j => by rw [hfr5 _ _ (by simp; omega)]; first | (simp [go_sem, *]; done) | (simp [frozen?_alloc_cells, World.frozen?, *]; done)
  have c5 : w5.cell? ⟨w4.heap.size, 0, none⟩ = some (.int .i64 h) := by rw [hcl5 _ _ (by simp)]; simp [go_sem]
  have d5 : w5.cell? ⟨w4.heap.size, 1, none⟩ = some (.int .u64 L) := by rw [hcl5 _ _ (by simp)]; simp [go_sem]
  have HB5 := Lib.hid (bl_trans (bl_al HB4.out _) hb)
  clear hb hcl5 hfr5 a4 b4 f4 z4 HB4
  cases m
  · go_wp2_with fail
    refine bodyPost_ret (by simp [results, Try.results13, go_sem, *]; try rfl) rfl ?_
    exact ⟨rfl, by repeat (first | with_reducible exact Below.refl _ _ | with_reducible exact HB5.out | with_reducible refine Below.setCell ?_ (by first | (simp; done) | omega | (simp <;> omega)) _ | with_reducible refine bl_al ?_ _ | with_reducible apply Below.drew)⟩
  · go_wp2_with fail
    refine bodyPost_ret (by simp [results, Try.results13, go_sem, *]; try rfl) rfl ?_
    exact ⟨rfl, by repeat (first | with_reducible exact Below.refl _ _ | with_reducible exact HB5.out | with_reducible refine Below.setCell ?_ (by first | (simp; done) | omega | (simp <;> omega)) _ | with_reducible refine bl_al ?_ _ | with_reducible apply Below.drew)⟩
set_option maxRecDepth 20000 in
set_option maxHeartbeats 8000000 in
theorem parse_neg_core (s r1 r2 r3 t : ByteArray) (b2 m : Bool) (M : Value) (A L h h' L' : Int) (eh : IntKind.i64.wrap A = h) (em : (t.toList == s.toList) = m) (w : World)
    (hm : w.cell? ⟨0, 0, none⟩ = some M)
    (C1 : ∀ W, Calls Try.prog 43 #[.string s, .string ⟨#[45]⟩] W fun e w' => e = .returned (.tuple #[.string r1, .bool true]) ∧ Below W.heap.size W w')
    (C2 : ∀ W : World, W.cell? ⟨0, 0, none⟩ = some M → Calls Try.prog 44 #[.string r1, .string ⟨#[46]⟩] W fun e w' => e = .returned (.tuple #[.string r2, .string r3, .bool b2]) ∧ Below W.heap.size W w')
    (C3 : ∀ W, Calls Try.prog 45 #[.string r2] W fun e w' => e = .returned (.int .u64 A) ∧ Below W.heap.size W w')
    (C4 : ∀ W, Calls Try.prog 45 #[.string r3] W fun e w' => e = .returned (.int .u64 L) ∧ Below W.heap.size W w')
    (C6 : ∀ W, Calls Try.prog 46 #[.agg #[.int .i64 h, .int .u64 L]] W fun e w' => e = .returned (.agg #[.int .i64 h', .int .u64 L']) ∧ Below W.heap.size W w')
    (C5 : ∀ W, Calls Try.prog 15 #[.agg #[.int .i64 h', .int .u64 L']] W fun e w' => e = .returned (.string t) ∧ Below W.heap.size W w') :
    Calls Try.prog 13 #[.string s] w fun e w' => e = .returned (.tuple #[.agg #[.int .i64 (if m then h' else 0), .int .u64 (if m then L' else 0)], .bool m]) ∧ Below w.heap.size w w' := by
  have K1 := Lib.hid C1; have K2 := Lib.hid C2; have K3 := Lib.hid C3; have K4 := Lib.hid C4; have K5 := Lib.hid C5; have K6 := Lib.hid C6
  clear C1 C2 C3 C4 C5 C6
  have hlt := World.block_lt_of_cell? _ _ hm
  go_enter Try.func13, Try.ntmps13
  go_wp2_with fail
  (with_reducible refine (K1.out _).mono ?_); rintro e w1 ⟨rfl, hb⟩
  obtain ⟨hcl1, hfr1⟩ := bcell hb
  have z1 : w.heap.size < w1.heap.size := by have hz := hb.size; simp at hz; omega
  have g1 : w1.cell? ⟨0, 0, none⟩ = some M := by rw [hcl1 _ _ (by simp), World.cell?_alloc_old _ _ _ (Nat.ne_of_lt hlt)]; exact hm
  have a1 : w1.cell? ⟨w.heap.size, 0, none⟩ = some (.int .i64 0) := by rw [hcl1 _ _ (by simp)]; simp [go_sem]
  have b1 : w1.cell? ⟨w.heap.size, 1, none⟩ = some (.int .u64 0) := by rw [hcl1 _ _ (by simp)]; simp [go_sem]
  have f1 : ∀ j, w1.frozen? ⟨w.heap.size, j, none⟩ = false := fun j => by rw [hfr1 _ _ (by simp), frozen?_alloc_cells]; simp [World.frozen?]
  have HB1 := Lib.hid (bl_trans (bl_al (Below.refl _ _) _) hb)
  have C2 := K2.out w1 g1
  clear hb hcl1 hfr1
  go_wp2_with fail
  (with_reducible refine C2.mono ?_); rintro e w2 ⟨rfl, hb⟩
  obtain ⟨hcl2, hfr2⟩ := bcell hb
  have z2 : w.heap.size < w2.heap.size := Nat.lt_of_lt_of_le z1 hb.size
  have a2 : w2.cell? ⟨w.heap.size, 0, none⟩ = some (.int .i64 0) := by rw [hcl2 _ _ z1]; exact a1
  have b2 : w2.cell? ⟨w.heap.size, 1, none⟩ = some (.int .u64 0) := by rw [hcl2 _ _ z1]; exact b1
  have f2 : ∀ j, w2.frozen? ⟨w.heap.size, j, none⟩ = false := fun j => by rw [hfr2 _ _ z1]; exact f1 j
  have HB2 := Lib.hid (bl_trans HB1.out hb)
  clear hb hcl2 hfr2 a1 b1 f1 g1 z1 HB1 hm hlt C2
  go_wp2_with fail
  (with_reducible refine (K3.out _).mono ?_); rintro e w3 ⟨rfl, hb⟩
  obtain ⟨hcl3, hfr3⟩ := bcell hb
  have z3 : w.heap.size < w3.heap.size := Nat.lt_of_lt_of_le z2 hb.size
  have a3 : w3.cell? ⟨w.heap.size, 0, none⟩ = some (.int .i64 0) := by rw [hcl3 _ _ z2]; exact a2
  have b3 : w3.cell? ⟨w.heap.size, 1, none⟩ = some (.int .u64 0) := by rw [hcl3 _ _ z2]; exact b2
  have f3 : ∀ j, w3.frozen? ⟨w.heap.size, j, none⟩ = false := fun j => by rw [hfr3 _ _ z2]; exact f2 j
  have HB3 := Lib.hid (bl_trans HB2.out hb)
  clear hb hcl3 hfr3 a2 b2 f2 z2 HB2
  go_wp2_with fail
  (with_reducible refine (K4.out _).mono ?_); rintro e w4 ⟨rfl, hb⟩
  obtain ⟨hcl4, hfr4⟩ := bcell hb
  have z4 : w.heap.size < w4.heap.size := Nat.lt_of_lt_of_le z3 hb.size
  have a4 : w4.cell? ⟨w.heap.size, 0, none⟩ = some (.int .i64 0) := by rw [hcl4 _ _ z3]; exact a3
  have b4 : w4.cell? ⟨w.heap.size, 1, none⟩ = some (.int .u64 0) := by rw [hcl4 _ _ z3]; exact b3
  have f4 : ∀ j, w4.frozen? ⟨w.heap.size, j, none⟩ = false := fun j => by rw [hfr4 _ _ z3]; exact f3 j
  have HB4 := Lib.hid (bl_trans HB3.out hb)
  clear hb hcl4 hfr4 a3 b3 f3 z3 HB3
  go_wp2_with fail
  (with_reducible refine (K6.out _).mono ?_); rintro e w5 ⟨rfl, hb⟩
  obtain ⟨hcl5, hfr5⟩ := bcell hb
  have z5a : w4.heap.size < w5.heap.size := by have hz := hb.size; simp at hz; omega
  have z5 : w.heap.size < w5.heap.size := by omega
  have a5 : w5.cell? ⟨w.heap.size, 0, none⟩ = some (.int .i64 0) := by rw [hcl5 _ _ (by simp; omega), World.cell?_alloc_old _ _ _ (Nat.ne_of_lt z4)]; exact a4
  have b5 : w5.cell? ⟨w.heap.size, 1, none⟩ = some (.int .u64 0) := by rw [hcl5 _ _ (by simp; omega), World.cell?_alloc_old _ _ _ (Nat.ne_of_lt z4)]; exact b4
  have f5 : ∀ j, w5.frozen? ⟨w.heap.size, j, none⟩ = false := fun j => by rw [hfr5 _ _ (by simp; omega)]; first | (simp [go_sem, *]; done) | (simp [frozen?_alloc_cells, World.frozen?, *]; done)
  have c5 : w5.cell? ⟨w4.heap.size, 0, none⟩ = some (.int .i64 h) := by rw [hcl5 _ _ (by simp)]; simp [go_sem]
  have d5 : w5.cell? ⟨w4.heap.size, 1, none⟩ = some (.int .u64 L) := by rw [hcl5 _ _ (by simp)]; simp [go_sem]
  have HB5 := Lib.hid (bl_trans (bl_al HB4.out _) hb)
  have z4l : w.heap.size < w4.heap.size := z4
  have g5 : ∀ j, w5.frozen? ⟨w4.heap.size, j, none⟩ = false := fun j => by rw [hfr5 _ _ (by simp)]; first | (simp [go_sem, *]; done) | (simp [frozen?_alloc_cells, World.frozen?, *]; done)
  clear hb hcl5 hfr5 a4 b4 f4 z4 HB4
  go_wp2_with fail
  (with_reducible refine (K5.out _).mono ?_); rintro e w6 ⟨rfl, hb⟩
  obtain ⟨hcl6, hfr6⟩ := bcell hb
  have z6a : w4.heap.size < w6.heap.size := by have hz := hb.size; simp at hz; omega
  have z6 : w.heap.size < w6.heap.size := by omega
  have a6 : w6.cell? ⟨w.heap.size, 0, none⟩ = some (.int .i64 0) := by rw [hcl6 _ _ (by simp; omega)]; simp [go_sem, *]
  have b6 : w6.cell? ⟨w.heap.size, 1, none⟩ = some (.int .u64 0) := by rw [hcl6 _ _ (by simp; omega)]; simp [go_sem, *]
  have f6 : ∀ j, w6.frozen? ⟨w.heap.size, j, none⟩ = false := fun j => by rw [hfr6 _ _ (by simp; omega)]; first | (simp [go_sem, *]; done) | (simp [frozen?_alloc_cells, World.frozen?, *]; done)
  have c6 : w6.cell? ⟨w4.heap.size, 0, none⟩ = some (.int .i64 h') := by rw [hcl6 _ _ (by simp; omega)]; simp [go_sem, *]
  have d6 : w6.cell? ⟨w4.heap.size, 1, none⟩ = some (.int .u64 L') := by rw [hcl6 _ _ (by simp; omega)]; simp [go_sem, *]
  have HB6 : Hid (Below w.heap.size w w6) := (bl_trans (by repeat (first | with_reducible exact HB5.out | with_reducible exact Below.refl _ _  | with_reducible refine Below.setCell ?_ (by first | (simp; done) | omega | (simp <;> omega)) _ | with_reducible refine bl_al ?_ _ | with_reducible apply Below.drew)) hb)
  clear hb hcl6 hfr6 a5 b5 f5 c5 d5 g5 HB5 z5 z5a z4l
  cases m
  · go_wp2_with fail
    refine bodyPost_ret (by simp [results, Try.results13, go_sem, *]; try rfl) rfl ?_
    exact ⟨rfl, by repeat (first | with_reducible exact Below.refl _ _ | with_reducible exact HB6.out | with_reducible refine Below.setCell ?_ (by first | (simp; done) | omega | (simp <;> omega)) _ | with_reducible refine bl_al ?_ _ | with_reducible apply Below.drew)⟩
  · go_wp2_with fail
    refine bodyPost_ret (by simp [results, Try.results13, go_sem, *]; try rfl) rfl ?_
    exact ⟨rfl, by repeat (first | with_reducible exact Below.refl _ _ | with_reducible exact HB6.out | with_reducible refine Below.setCell ?_ (by first | (simp; done) | omega | (simp <;> omega)) _ | with_reducible refine bl_al ?_ _ | with_reducible apply Below.drew)⟩
end Go.Proofs.Ytgiamnehncbihaa
