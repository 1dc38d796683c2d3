/- The program's total, middle, added, Centre, of bodies that may be. -/
import Derived.Test.YtjilnmpajhifcaaMassBod
import Derived.Laws.ResultCell
namespace Go.Proofs.Ytjilnmpajhifcaa
open Go.RowKit
/-- What the program's Add, Mul, Div come to where the answer may be. -/
def PAddT : Prop := ∀ x y : Int, My x → My y → My (x + y) → ∀ W : World, Calls Try.prog 30 #[fxv x, fxv y] W fun e w' => e = .returned (.tuple #[fxv (x + y), .int .i64 0]) ∧ Below W.heap.size W w'
def PMulT : Prop := ∀ x y : Int, My x → My y → My (mulr x y) → ∀ W : World, Calls Try.prog 32 #[fxv x, fxv y] W fun e w' => e = .returned (.tuple #[fxv (mulr x y), .int .i64 0]) ∧ Below W.heap.size W w'
def PDivT : Prop := ∀ x y : Int, My x → My y → y ≠ 0 → My (divr x y) → ∀ W : World, Calls Try.prog 33 #[fxv x, fxv y] W fun e w' => e = .returned (.tuple #[fxv (divr x y), .int .i64 0]) ∧ Below W.heap.size W w'
set_option maxRecDepth 20000 in
set_option maxHeartbeats 8000000 in
theorem lit_mass (B o : Nat) (x : Int) (w : World) (c0 : w.cell? ⟨B, o, none⟩ = some (.int .i64 (fh x))) (c1 : w.cell? ⟨B, o + 1, none⟩ = some (.int .u64 (fl x))) :
    Calls Try.prog 24 #[.pointer (some ⟨B, o, none⟩)] w fun e w' => e = .returned (.tuple #[fxv x, .int .i64 0]) ∧ Below w.heap.size w w' := by
  have hB : B < w.heap.size := World.block_lt_of_cell? _ _ c0
  go_enter Try.func24, Try.ntmps24
  go_wp2_with fail
  refine bodyPost_ret (by simp [results, Try.results24, go_sem, *]; try rfl) rfl ?_
  exact ⟨rfl, bb⟩
set_option maxRecDepth 20000 in
set_option maxHeartbeats 8000000 in
theorem lit_x (B o : Nat) (x : Int) (w : World) (c0 : w.cell? ⟨B, o + 4, none⟩ = some (.int .i64 (fh x))) (c1 : w.cell? ⟨B, o + 5, none⟩ = some (.int .u64 (fl x))) :
    Calls Try.prog 26 #[.pointer (some ⟨B, o, none⟩)] w fun e w' => e = .returned (fxv x) ∧ Below w.heap.size w w' := by
  have hB : B < w.heap.size := World.block_lt_of_cell? _ _ c0
  go_enter Try.func26, Try.ntmps26
  go_wp2_with fail
  refine bodyPost_ret (by simp [results, Try.results26, go_sem, *]; try rfl) rfl ?_
  exact ⟨rfl, bb⟩
set_option maxRecDepth 20000 in
set_option maxHeartbeats 8000000 in
theorem lit_y (B o : Nat) (x : Int) (w : World) (c0 : w.cell? ⟨B, o + 6, none⟩ = some (.int .i64 (fh x))) (c1 : w.cell? ⟨B, o + 7, none⟩ = some (.int .u64 (fl x))) :
    Calls Try.prog 27 #[.pointer (some ⟨B, o, none⟩)] w fun e w' => e = .returned (fxv x) ∧ Below w.heap.size w w' := by
  have hB : B < w.heap.size := World.block_lt_of_cell? _ _ c0
  go_enter Try.func27, Try.ntmps27
  go_wp2_with fail
  refine bodyPost_ret (by simp [results, Try.results27, go_sem, *]; try rfl) rfl ?_
  exact ⟨rfl, bb⟩
set_option maxRecDepth 20000 in
set_option maxHeartbeats 8000000 in
theorem moment_x (PM : PMulT) (g B o : Nat) (x m : Int) (hx : My x) (hm : My m) (hp : My (mulr m x)) (w : World) (hg : w.cell? ⟨g, 0, none⟩ = some (.func (.func 26) #[] #[])) (c0 : w.cell? ⟨B, o, none⟩ = some (.int .i64 (fh m))) (c1 : w.cell? ⟨B, o + 1, none⟩ = some (.int .u64 (fl m))) (c4 : w.cell? ⟨B, o + 4, none⟩ = some (.int .i64 (fh x))) (c5 : w.cell? ⟨B, o + 5, none⟩ = some (.int .u64 (fl x))) :
    Calls Try.prog 31 #[.pointer (some ⟨B, o, none⟩), .pointer (some ⟨g, 0, none⟩)] w fun e w' => e = .returned (.tuple #[fxv (mulr m x), .int .i64 0]) ∧ Below w.heap.size w w' := by
  have hB : B < w.heap.size := World.block_lt_of_cell? _ _ c0
  have hG : g < w.heap.size := World.block_lt_of_cell? _ _ hg
  have C1 := Lib.hid (PM m x hm hx hp)
  have K1 : Hid (∀ w' : World, Below w.heap.size w w' → Calls Try.prog 26 #[.pointer (some ⟨B, o, none⟩)] w' fun e w'' => e = .returned (fxv x) ∧ Below w'.heap.size w' w'') := fun w' h => lit_x B o x w' (stays c4 hB w' h) (stays c5 hB w' h)
  have k0 := stays c0 hB; have k1 := stays c1 hB; have k2 := stays hg hG
  clear PM c0 c1 c4 c5 hg
  generalize mulr m x = p at *
  go_enter Try.func31, Try.ntmps31
  go_upto_region 1 with fail
  refine nw _ fun wx hwx => ?_
  have xr := (Bx.new w 28 #[.int .i64 0, .int .u64 0])
  rw [← hwx] at xr
  have hb : Below w.heap.size w wx := by rw [hwx]; exact bl_al (Below.refl _ _) _
  have HX := Lib.hid xr; have HB := Lib.hid hb
  clear xr hb hwx
  go_region_held3 (fun w' => Below w.heap.size w w') (exact bs) (first
    | (go_at_call 32; (with_reducible refine (C1.out _).mono ?_); rintro e w2 ⟨rfl, hb2⟩; have xx := X1.out.below hb2; obtain ⟨y0, y1⟩ := xx.c2; have yf := xx.frz)
    | (go_at_call 26; (with_reducible refine (K1.out _ bs).mono ?_); rintro e w1 ⟨rfl, hb1⟩; have X1 := Lib.hid (HX.out.drew.below hb1)))
  rename_i hHeld
  clear hHeld
  go_wp2_with fail
  refine bodyPost_ret (by simp [results, Try.results31, go_sem, *]; try rfl) rfl ?_
  exact ⟨rfl, bs⟩
set_option maxRecDepth 20000 in
set_option maxHeartbeats 8000000 in
theorem moment_y (PM : PMulT) (g B o : Nat) (x m : Int) (hx : My x) (hm : My m) (hp : My (mulr m x)) (w : World) (hg : w.cell? ⟨g, 0, none⟩ = some (.func (.func 27) #[] #[])) (c0 : w.cell? ⟨B, o, none⟩ = some (.int .i64 (fh m))) (c1 : w.cell? ⟨B, o + 1, none⟩ = some (.int .u64 (fl m))) (c4 : w.cell? ⟨B, o + 6, none⟩ = some (.int .i64 (fh x))) (c5 : w.cell? ⟨B, o + 7, none⟩ = some (.int .u64 (fl x))) :
    Calls Try.prog 31 #[.pointer (some ⟨B, o, none⟩), .pointer (some ⟨g, 0, none⟩)] w fun e w' => e = .returned (.tuple #[fxv (mulr m x), .int .i64 0]) ∧ Below w.heap.size w w' := by
  have hB : B < w.heap.size := World.block_lt_of_cell? _ _ c0
  have hG : g < w.heap.size := World.block_lt_of_cell? _ _ hg
  have C1 := Lib.hid (PM m x hm hx hp)
  have K1 : Hid (∀ w' : World, Below w.heap.size w w' → Calls Try.prog 27 #[.pointer (some ⟨B, o, none⟩)] w' fun e w'' => e = .returned (fxv x) ∧ Below w'.heap.size w' w'') := fun w' h => lit_y B o x w' (stays c4 hB w' h) (stays c5 hB w' h)
  have k0 := stays c0 hB; have k1 := stays c1 hB; have k2 := stays hg hG
  clear PM c0 c1 c4 c5 hg
  generalize mulr m x = p at *
  go_enter Try.func31, Try.ntmps31
  go_upto_region 1 with fail
  refine nw _ fun wx hwx => ?_
  have xr := (Bx.new w 28 #[.int .i64 0, .int .u64 0])
  rw [← hwx] at xr
  have hb : Below w.heap.size w wx := by rw [hwx]; exact bl_al (Below.refl _ _) _
  have HX := Lib.hid xr; have HB := Lib.hid hb
  clear xr hb hwx
  go_region_held3 (fun w' => Below w.heap.size w w') (exact bs) (first
    | (go_at_call 32; (with_reducible refine (C1.out _).mono ?_); rintro e w2 ⟨rfl, hb2⟩; have xx := X1.out.below hb2; obtain ⟨y0, y1⟩ := xx.c2; have yf := xx.frz)
    | (go_at_call 27; (with_reducible refine (K1.out _ bs).mono ?_); rintro e w1 ⟨rfl, hb1⟩; have X1 := Lib.hid (HX.out.drew.below hb1)))
  rename_i hHeld
  clear hHeld
  go_wp2_with fail
  refine bodyPost_ret (by simp [results, Try.results31, go_sem, *]; try rfl) rfl ?_
  exact ⟨rfl, bs⟩
/- All of them added, in order. -/
set_option maxRecDepth 20000 in
set_option maxHeartbeats 8000000 in
theorem total_mass (PA : PAddT) (A : Option Addr) (n c : Nat) (L : List Bod) (hn : n ≤ 64) (s : List Bod → Int) (f : Bod → Int) (h0 : s [] = 0) (hs : ∀ i b, L[i]? = some b → s (L.take (i + 1)) = s (L.take i) + f b) (hS : ∀ i, My (s (L.take i))) (hF : ∀ b ∈ L, My (f b)) (w : World) (hL : Bds w A n L)
    (HK : ∀ i B o b, A = some ⟨B, o, none⟩ → L[i]? = some b → i < n → ∀ w' : World, Below w.heap.size w w' → Calls Try.prog 24 #[.pointer (some ⟨B, o + i * 20, none⟩)] w' fun e w'' => e = .returned (.tuple #[fxv (f b), .int .i64 0]) ∧ Below w'.heap.size w' w'') :
    Calls Try.prog 23 #[.slice A n c, .func (.func 24) #[] #[]] w fun e w' => e = .returned (.tuple #[fxv (s L), .int .i64 0]) ∧ Below w.heap.size w w' := by
  have hlen := hL.len
  have KA := Lib.hid PA; have HL := Lib.hid hL; have HN := Lib.hid hn; have HLN := Lib.hid hlen; have KK := Lib.hid HK; have SN := Lib.hid hs; have SM := Lib.hid hS; have FM := Lib.hid hF; have S0' := Lib.hid h0
  clear PA hL hn hlen HK hs hS hF h0
  go_enter Try.func23, Try.ntmps23
  go_wp2_with fail
  have hr := (Bx.new w 28 #[.int .i64 0, .int .u64 0]).alloc (.cells #[.int .i64 0, .int .u64 0] 28)
  have hmb := Bx.new (w.alloc (.cells #[.int .i64 0, .int .u64 0] 28)) 28 #[.int .i64 0, .int .u64 0]
  simp only [World.size_alloc] at hmb
  have HR := Lib.hid hr; have HM := Lib.hid hmb
  clear hr hmb
  go_loopg [13] n (fun k iv wr => ∃ i : Nat, i + k = n ∧ iv = .int .i64 (i : Int) ∧ Bx 28 wr w.heap.size [.int .i64 0, .int .u64 0] ∧ Bx 28 wr (w.heap.size + 1) [.int .i64 (fh (s (L.take i))), .int .u64 (fl (s (L.take i)))] ∧ Below w.heap.size w wr)
  case atStart => exact ⟨0, by omega, rfl, HR.out, by rw [List.take_zero, S0'.out]; exact HM.out, bl_al (bl_al (Below.refl _ _) _) _⟩
  case round =>
    obtain ⟨i, hk, rfl, q0, q1, hbl⟩ := hrel
    have Q0 := Lib.hid q0; have Q1 := Lib.hid q1; have HB := Lib.hid hbl
    have z1 := q1.lt
    have hN := HN.out
    clear q0 q1 hbl HR HM
    by_cases hlt : i < n
    · obtain ⟨B, o, b, rfl, hB, hb, _⟩ := (HL.out.below HB.out).mx (i := i) hlt
      have hi : (i : Int) < (n : Int) := by omega
      have i0 : (0 : Int) ≤ (i : Int) := by omega
      have wi : IntKind.i64.wrap ((i : Int) + 1) = (i : Int) + 1 := by rw [IntWalk.i64_in _ (by omega)]
      have HKK : Hid (i + gk = n) := hk
      have C0 := Lib.hid (KK.out i B o b rfl hb hlt wr HB.out)
      have HE := Lib.hid (SN.out i b hb)
      have C1 := Lib.hid (KA.out (s (L.take i)) (f b) (SM.out i) (FM.out b (List.mem_of_getElem? hb)) (by rw [← HE.out]; exact SM.out (i + 1)))
      clear hk hN hb
      generalize f b = x at *
      generalize s (L.take i) = S at *
      go_wp2_with fail
      refine (C0.out).mono ?_
      rintro e w1 ⟨rfl, hb1⟩
      have R0 := bxb (t := 28) w.heap.size [.int .i64 0, .int .u64 0] hb1
      have R1 := bxb (t := 28) (w.heap.size + 1) [.int .i64 (fh S), .int .u64 (fl S)] hb1
      have HB1 : Hid (Below w.heap.size w w1) := hbw hb1
      have z2 := R1.out.lt
      obtain ⟨m0, m1⟩ := R1.out.c2
      clear hb1 Q0 Q1 HB hB z1
      go_wp2_with fail
      refine (C1.out _).mono ?_
      rintro e w2 ⟨rfl, hb2⟩
      have T0 := bxb (t := 28) w.heap.size [.int .i64 0, .int .u64 0] hb2
      have T1 := bxb (t := 28) (w.heap.size + 1) [.int .i64 (fh S), .int .u64 (fl S)] hb2
      have HB2 : Hid (Below w.heap.size w w2) := hbw hb2
      have z3 := T1.out.lt
      obtain ⟨n0, n1⟩ := T1.out.c2
      have nf := T1.out.frz
      clear hb2 R0 R1 HB1 m0 m1 z2
      generalize S + x = S' at *
      go_wp2_with fail
      obtain ⟨g, rfl⟩ : ∃ g, gk = g + 1 := ⟨gk - 1, by have := HKK.out; omega⟩
      go_roundg g
      case measure => omega
      case rel =>
        refine ⟨i + 1, by have := HKK.out; omega, by simp, bxk, ?_, bb⟩
        rw [HE.out]
        exact (T1.out.put 0 _).put 1 _
    · have hi : ¬ (i : Int) < (n : Int) := by omega
      have hM : Hid (Bx 28 wr (w.heap.size + 1) [.int .i64 (fh (s L)), .int .u64 (fl (s L))]) := by
        have := Q1.out
        rw [List.take_of_length_le (by have := HLN.out; omega)] at this
        exact this
      clear Q1
      obtain ⟨m0, m1⟩ := hM.out.c2
      obtain ⟨r0, r1⟩ := Q0.out.c2
      have rf := Q0.out.frz
      have zr := Q0.out.lt
      go_wp2_with fail
      refine bodyPost_ret (by simp [results, Try.results23, go_sem, *]; try rfl) rfl ?_
      exact ⟨rfl, bb⟩
set_option maxRecDepth 20000 in
set_option maxHeartbeats 8000000 in
theorem total_at (PA : PAddT) (g : Nat) (A : Option Addr) (n c : Nat) (L : List Bod) (hn : n ≤ 64) (s : List Bod → Int) (f : Bod → Int) (h0 : s [] = 0) (hs : ∀ i b, L[i]? = some b → s (L.take (i + 1)) = s (L.take i) + f b) (hS : ∀ i, My (s (L.take i))) (hF : ∀ b ∈ L, My (f b)) (w : World) (hL : Bds w A n L)
    (HK : ∀ i B o b, A = some ⟨B, o, none⟩ → L[i]? = some b → i < n → ∀ w' : World, Below w.heap.size w w' → Calls Try.prog 31 #[.pointer (some ⟨B, o + i * 20, none⟩), .pointer (some ⟨g, 0, none⟩)] w' fun e w'' => e = .returned (.tuple #[fxv (f b), .int .i64 0]) ∧ Below w'.heap.size w' w'') :
    Calls Try.prog 23 #[.slice A n c, .func (.func 31) #[] #[.pointer (some ⟨g, 0, none⟩)]] w fun e w' => e = .returned (.tuple #[fxv (s L), .int .i64 0]) ∧ Below w.heap.size w w' := by
  have hlen := hL.len
  have KA := Lib.hid PA; have HL := Lib.hid hL; have HN := Lib.hid hn; have HLN := Lib.hid hlen; have KK := Lib.hid HK; have SN := Lib.hid hs; have SM := Lib.hid hS; have FM := Lib.hid hF; have S0' := Lib.hid h0
  clear PA hL hn hlen HK hs hS hF h0
  go_enter Try.func23, Try.ntmps23
  go_wp2_with fail
  have hr := (Bx.new w 28 #[.int .i64 0, .int .u64 0]).alloc (.cells #[.int .i64 0, .int .u64 0] 28)
  have hmb := Bx.new (w.alloc (.cells #[.int .i64 0, .int .u64 0] 28)) 28 #[.int .i64 0, .int .u64 0]
  simp only [World.size_alloc] at hmb
  have HR := Lib.hid hr; have HM := Lib.hid hmb
  clear hr hmb
  go_loopg [13] n (fun k iv wr => ∃ i : Nat, i + k = n ∧ iv = .int .i64 (i : Int) ∧ Bx 28 wr w.heap.size [.int .i64 0, .int .u64 0] ∧ Bx 28 wr (w.heap.size + 1) [.int .i64 (fh (s (L.take i))), .int .u64 (fl (s (L.take i)))] ∧ Below w.heap.size w wr)
  case atStart => exact ⟨0, by omega, rfl, HR.out, by rw [List.take_zero, S0'.out]; exact HM.out, bl_al (bl_al (Below.refl _ _) _) _⟩
  case round =>
    obtain ⟨i, hk, rfl, q0, q1, hbl⟩ := hrel
    have Q0 := Lib.hid q0; have Q1 := Lib.hid q1; have HB := Lib.hid hbl
    have z1 := q1.lt
    have hN := HN.out
    clear q0 q1 hbl HR HM
    by_cases hlt : i < n
    · obtain ⟨B, o, b, rfl, hB, hb, _⟩ := (HL.out.below HB.out).mx (i := i) hlt
      have hi : (i : Int) < (n : Int) := by omega
      have i0 : (0 : Int) ≤ (i : Int) := by omega
      have wi : IntKind.i64.wrap ((i : Int) + 1) = (i : Int) + 1 := by rw [IntWalk.i64_in _ (by omega)]
      have HKK : Hid (i + gk = n) := hk
      have C0 := Lib.hid (KK.out i B o b rfl hb hlt wr HB.out)
      have HE := Lib.hid (SN.out i b hb)
      have C1 := Lib.hid (KA.out (s (L.take i)) (f b) (SM.out i) (FM.out b (List.mem_of_getElem? hb)) (by rw [← HE.out]; exact SM.out (i + 1)))
      clear hk hN hb
      generalize f b = x at *
      generalize s (L.take i) = S at *
      go_wp2_with fail
      refine (C0.out).mono ?_
      rintro e w1 ⟨rfl, hb1⟩
      have R0 := bxb (t := 28) w.heap.size [.int .i64 0, .int .u64 0] hb1
      have R1 := bxb (t := 28) (w.heap.size + 1) [.int .i64 (fh S), .int .u64 (fl S)] hb1
      have HB1 : Hid (Below w.heap.size w w1) := hbw hb1
      have z2 := R1.out.lt
      obtain ⟨m0, m1⟩ := R1.out.c2
      clear hb1 Q0 Q1 HB hB z1
      go_wp2_with fail
      refine (C1.out _).mono ?_
      rintro e w2 ⟨rfl, hb2⟩
      have T0 := bxb (t := 28) w.heap.size [.int .i64 0, .int .u64 0] hb2
      have T1 := bxb (t := 28) (w.heap.size + 1) [.int .i64 (fh S), .int .u64 (fl S)] hb2
      have HB2 : Hid (Below w.heap.size w w2) := hbw hb2
      have z3 := T1.out.lt
      obtain ⟨n0, n1⟩ := T1.out.c2
      have nf := T1.out.frz
      clear hb2 R0 R1 HB1 m0 m1 z2
      generalize S + x = S' at *
      go_wp2_with fail
      obtain ⟨g, rfl⟩ : ∃ g, gk = g + 1 := ⟨gk - 1, by have := HKK.out; omega⟩
      go_roundg g
      case measure => omega
      case rel =>
        refine ⟨i + 1, by have := HKK.out; omega, by simp, bxk, ?_, bb⟩
        rw [HE.out]
        exact (T1.out.put 0 _).put 1 _
    · have hi : ¬ (i : Int) < (n : Int) := by omega
      have hM : Hid (Bx 28 wr (w.heap.size + 1) [.int .i64 (fh (s L)), .int .u64 (fl (s L))]) := by
        have := Q1.out
        rw [List.take_of_length_le (by have := HLN.out; omega)] at this
        exact this
      clear Q1
      obtain ⟨m0, m1⟩ := hM.out.c2
      obtain ⟨r0, r1⟩ := Q0.out.c2
      have rf := Q0.out.frz
      have zr := Q0.out.lt
      go_wp2_with fail
      refine bodyPost_ret (by simp [results, Try.results23, go_sem, *]; try rfl) rfl ?_
      exact ⟨rfl, bb⟩
end Go.Proofs.Ytjilnmpajhifcaa
