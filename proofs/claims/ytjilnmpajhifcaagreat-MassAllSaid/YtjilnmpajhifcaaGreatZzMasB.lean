/- The program's middle, added, Centre, of bodies that may be. -/
import Derived.Test.YtjilnmpajhifcaaGreatZzBod
import Derived.Laws.ResultCell
namespace Go.Proofs.YtjilnmpajhifcaaGreat
open Go.RowKit
/-- What the program's Add, Mul, Div come to where the answer may be. -/
def PAddT : Prop := ∀ x y : Int, My x → My y → My (x + y) → ∀ W : World, Calls Tryz.prog 68 #[fxv x, fxv y] W fun e w' => e = .returned (.tuple #[fxv (x + y), .int .i64 0]) ∧ Below W.heap.size W w'
def PMulT : Prop := ∀ x y : Int, My x → My y → My (mulr x y) → ∀ W : World, Calls Tryz.prog 70 #[fxv x, fxv y] W fun e w' => e = .returned (.tuple #[fxv (mulr x y), .int .i64 0]) ∧ Below W.heap.size W w'
def PDivT : Prop := ∀ x y : Int, My x → My y → y ≠ 0 → My (divr x y) → ∀ W : World, Calls Tryz.prog 71 #[fxv x, fxv y] W fun e w' => e = .returned (.tuple #[fxv (divr x y), .int .i64 0]) ∧ Below W.heap.size W w'
set_option maxRecDepth 20000 in
set_option maxHeartbeats 8000000 in
theorem lit_mass (B o : Nat) (x : Int) (w : World) (c0 : w.cell? ⟨B, o, none⟩ = some (.int .i64 (fh x))) (c1 : w.cell? ⟨B, o + 1, none⟩ = some (.int .u64 (fl x))) :
    Calls Tryz.prog 45 #[.pointer (some ⟨B, o, none⟩)] w fun e w' => e = .returned (.tuple #[fxv x, .int .i64 0]) ∧ Below w.heap.size w w' := by
  have hB : B < w.heap.size := World.block_lt_of_cell? _ _ c0
  go_enter Tryz.func45, Tryz.ntmps45
  go_wp2_with fail
  refine bodyPost_ret (by simp [results, Tryz.results45, go_sem, *]; try rfl) rfl ?_
  exact ⟨rfl, bb⟩
set_option maxRecDepth 20000 in
set_option maxHeartbeats 8000000 in
theorem lit_x (B o : Nat) (x : Int) (w : World) (c0 : w.cell? ⟨B, o + 4, none⟩ = some (.int .i64 (fh x))) (c1 : w.cell? ⟨B, o + 5, none⟩ = some (.int .u64 (fl x))) :
    Calls Tryz.prog 47 #[.pointer (some ⟨B, o, none⟩)] w fun e w' => e = .returned (fxv x) ∧ Below w.heap.size w w' := by
  have hB : B < w.heap.size := World.block_lt_of_cell? _ _ c0
  go_enter Tryz.func47, Tryz.ntmps47
  go_wp2_with fail
  refine bodyPost_ret (by simp [results, Tryz.results47, go_sem, *]; try rfl) rfl ?_
  exact ⟨rfl, bb⟩
set_option maxRecDepth 20000 in
set_option maxHeartbeats 8000000 in
theorem lit_y (B o : Nat) (x : Int) (w : World) (c0 : w.cell? ⟨B, o + 6, none⟩ = some (.int .i64 (fh x))) (c1 : w.cell? ⟨B, o + 7, none⟩ = some (.int .u64 (fl x))) :
    Calls Tryz.prog 48 #[.pointer (some ⟨B, o, none⟩)] w fun e w' => e = .returned (fxv x) ∧ Below w.heap.size w w' := by
  have hB : B < w.heap.size := World.block_lt_of_cell? _ _ c0
  go_enter Tryz.func48, Tryz.ntmps48
  go_wp2_with fail
  refine bodyPost_ret (by simp [results, Tryz.results48, go_sem, *]; try rfl) rfl ?_
  exact ⟨rfl, bb⟩
set_option maxRecDepth 20000 in
set_option maxHeartbeats 8000000 in
theorem moment_x (PM : PMulT) (g B o : Nat) (x m : Int) (hx : My x) (hm : My m) (hp : My (mulr m x)) (w : World) (hg : w.cell? ⟨g, 0, none⟩ = some (.func (.func 47) #[] #[])) (c0 : w.cell? ⟨B, o, none⟩ = some (.int .i64 (fh m))) (c1 : w.cell? ⟨B, o + 1, none⟩ = some (.int .u64 (fl m))) (c4 : w.cell? ⟨B, o + 4, none⟩ = some (.int .i64 (fh x))) (c5 : w.cell? ⟨B, o + 5, none⟩ = some (.int .u64 (fl x))) :
    Calls Tryz.prog 69 #[.pointer (some ⟨B, o, none⟩), .pointer (some ⟨g, 0, none⟩)] w fun e w' => e = .returned (.tuple #[fxv (mulr m x), .int .i64 0]) ∧ Below w.heap.size w w' := by
  have hB : B < w.heap.size := World.block_lt_of_cell? _ _ c0
  have hG : g < w.heap.size := World.block_lt_of_cell? _ _ hg
  have C1 := Lib.hid (PM m x hm hx hp)
  have K1 : Hid (∀ w' : World, Below w.heap.size w w' → Calls Tryz.prog 47 #[.pointer (some ⟨B, o, none⟩)] w' fun e w'' => e = .returned (fxv x) ∧ Below w'.heap.size w' w'') := fun w' h => lit_x B o x w' (stays c4 hB w' h) (stays c5 hB w' h)
  have k0 := stays c0 hB; have k1 := stays c1 hB; have k2 := stays hg hG
  clear PM c0 c1 c4 c5 hg
  generalize mulr m x = p at *
  go_enter Tryz.func69, Tryz.ntmps69
  go_upto_region 1 with fail
  refine nw _ fun wx hwx => ?_
  have xr := (Bx.new w 27 #[.int .i64 0, .int .u64 0])
  rw [← hwx] at xr
  have hb : Below w.heap.size w wx := by rw [hwx]; exact bl_al (Below.refl _ _) _
  have HX := Lib.hid xr; have HB := Lib.hid hb
  clear xr hb hwx
  go_region_held3 (fun w' => Below w.heap.size w w') (exact bs) (first
    | (go_at_call 70; (with_reducible refine (C1.out _).mono ?_); rintro e w2 ⟨rfl, hb2⟩; have xx := X1.out.below hb2; obtain ⟨y0, y1⟩ := xx.c2; have yf := xx.frz)
    | (go_at_call 47; (with_reducible refine (K1.out _ bs).mono ?_); rintro e w1 ⟨rfl, hb1⟩; have X1 := Lib.hid (HX.out.drew.below hb1)))
  rename_i hHeld
  clear hHeld
  go_wp2_with fail
  refine bodyPost_ret (by simp [results, Tryz.results69, go_sem, *]; try rfl) rfl ?_
  exact ⟨rfl, bs⟩
set_option maxRecDepth 20000 in
set_option maxHeartbeats 8000000 in
theorem moment_y (PM : PMulT) (g B o : Nat) (x m : Int) (hx : My x) (hm : My m) (hp : My (mulr m x)) (w : World) (hg : w.cell? ⟨g, 0, none⟩ = some (.func (.func 48) #[] #[])) (c0 : w.cell? ⟨B, o, none⟩ = some (.int .i64 (fh m))) (c1 : w.cell? ⟨B, o + 1, none⟩ = some (.int .u64 (fl m))) (c4 : w.cell? ⟨B, o + 6, none⟩ = some (.int .i64 (fh x))) (c5 : w.cell? ⟨B, o + 7, none⟩ = some (.int .u64 (fl x))) :
    Calls Tryz.prog 69 #[.pointer (some ⟨B, o, none⟩), .pointer (some ⟨g, 0, none⟩)] w fun e w' => e = .returned (.tuple #[fxv (mulr m x), .int .i64 0]) ∧ Below w.heap.size w w' := by
  have hB : B < w.heap.size := World.block_lt_of_cell? _ _ c0
  have hG : g < w.heap.size := World.block_lt_of_cell? _ _ hg
  have C1 := Lib.hid (PM m x hm hx hp)
  have K1 : Hid (∀ w' : World, Below w.heap.size w w' → Calls Tryz.prog 48 #[.pointer (some ⟨B, o, none⟩)] w' fun e w'' => e = .returned (fxv x) ∧ Below w'.heap.size w' w'') := fun w' h => lit_y B o x w' (stays c4 hB w' h) (stays c5 hB w' h)
  have k0 := stays c0 hB; have k1 := stays c1 hB; have k2 := stays hg hG
  clear PM c0 c1 c4 c5 hg
  generalize mulr m x = p at *
  go_enter Tryz.func69, Tryz.ntmps69
  go_upto_region 1 with fail
  refine nw _ fun wx hwx => ?_
  have xr := (Bx.new w 27 #[.int .i64 0, .int .u64 0])
  rw [← hwx] at xr
  have hb : Below w.heap.size w wx := by rw [hwx]; exact bl_al (Below.refl _ _) _
  have HX := Lib.hid xr; have HB := Lib.hid hb
  clear xr hb hwx
  go_region_held3 (fun w' => Below w.heap.size w w') (exact bs) (first
    | (go_at_call 70; (with_reducible refine (C1.out _).mono ?_); rintro e w2 ⟨rfl, hb2⟩; have xx := X1.out.below hb2; obtain ⟨y0, y1⟩ := xx.c2; have yf := xx.frz)
    | (go_at_call 48; (with_reducible refine (K1.out _ bs).mono ?_); rintro e w1 ⟨rfl, hb1⟩; have X1 := Lib.hid (HX.out.drew.below hb1)))
  rename_i hHeld
  clear hHeld
  go_wp2_with fail
  refine bodyPost_ret (by simp [results, Tryz.results69, go_sem, *]; try rfl) rfl ?_
  exact ⟨rfl, bs⟩
/- All of them added, in order. -/
set_option maxRecDepth 20000 in
set_option maxHeartbeats 8000000 in
theorem total_mass (PA : PAddT) (A : Option Addr) (n c : Nat) (L : List Bod) (hn : n ≤ 64) (s : List Bod → Int) (f : Bod → Int) (h0 : s [] = 0) (hs : ∀ i b, L[i]? = some b → s (L.take (i + 1)) = s (L.take i) + f b) (hS : ∀ i, My (s (L.take i))) (hF : ∀ b ∈ L, My (f b)) (w : World) (hL : Bds w A n L)
    (HK : ∀ i B o b, A = some ⟨B, o, none⟩ → L[i]? = some b → i < n → ∀ w' : World, Below w.heap.size w w' → Calls Tryz.prog 45 #[.pointer (some ⟨B, o + i * 20, none⟩)] w' fun e w'' => e = .returned (.tuple #[fxv (f b), .int .i64 0]) ∧ Below w'.heap.size w' w'') :
    Calls Tryz.prog 44 #[.slice A n c, .func (.func 45) #[] #[]] w fun e w' => e = .returned (.tuple #[fxv (s L), .int .i64 0]) ∧ Below w.heap.size w w' := by
  have hlen := hL.len
  have KA := Lib.hid PA; have HL := Lib.hid hL; have HN := Lib.hid hn; have HLN := Lib.hid hlen; have KK := Lib.hid HK; have SN := Lib.hid hs; have SM := Lib.hid hS; have FM := Lib.hid hF; have S0' := Lib.hid h0
  clear PA hL hn hlen HK hs hS hF h0
  go_enter Tryz.func44, Tryz.ntmps44
  go_wp2_with fail
  have hr := (Bx.new w 27 #[.int .i64 0, .int .u64 0]).alloc (.cells #[.int .i64 0, .int .u64 0] 27)
  have hmb := Bx.new (w.alloc (.cells #[.int .i64 0, .int .u64 0] 27)) 27 #[.int .i64 0, .int .u64 0]
  simp only [World.size_alloc] at hmb
  have HR := Lib.hid hr; have HM := Lib.hid hmb
  clear hr hmb
  go_loopg [13] n (fun k iv wr => ∃ i : Nat, i + k = n ∧ iv = .int .i64 (i : Int) ∧ Bx 27 wr w.heap.size [.int .i64 0, .int .u64 0] ∧ Bx 27 wr (w.heap.size + 1) [.int .i64 (fh (s (L.take i))), .int .u64 (fl (s (L.take i)))] ∧ Below w.heap.size w wr)
  case atStart => exact ⟨0, by omega, rfl, HR.out, by rw [List.take_zero, S0'.out]; exact HM.out, bl_al (bl_al (Below.refl _ _) _) _⟩
  case round =>
    obtain ⟨i, hk, rfl, q0, q1, hbl⟩ := hrel
    have Q0 := Lib.hid q0; have Q1 := Lib.hid q1; have HB := Lib.hid hbl
    have z1 := q1.lt
    have hN := HN.out
    clear q0 q1 hbl HR HM
    by_cases hlt : i < n
    · obtain ⟨B, o, b, rfl, hB, hb, _⟩ := (HL.out.below HB.out).mx (i := i) hlt
      have hi : (i : Int) < (n : Int) := by omega
      have i0 : (0 : Int) ≤ (i : Int) := by omega
      have wi : IntKind.i64.wrap ((i : Int) + 1) = (i : Int) + 1 := by rw [IntWalk.i64_in _ (by omega)]
      have HKK : Hid (i + gk = n) := hk
      have C0 := Lib.hid (KK.out i B o b rfl hb hlt wr HB.out)
      have HE := Lib.hid (SN.out i b hb)
      have C1 := Lib.hid (KA.out (s (L.take i)) (f b) (SM.out i) (FM.out b (List.mem_of_getElem? hb)) (by rw [← HE.out]; exact SM.out (i + 1)))
      clear hk hN hb
      generalize f b = x at *
      generalize s (L.take i) = S at *
      go_wp2_with fail
      refine (C0.out).mono ?_
      rintro e w1 ⟨rfl, hb1⟩
      have R0 := bxb (t := 27) w.heap.size [.int .i64 0, .int .u64 0] hb1
      have R1 := bxb (t := 27) (w.heap.size + 1) [.int .i64 (fh S), .int .u64 (fl S)] hb1
      have HB1 : Hid (Below w.heap.size w w1) := hbw hb1
      have z2 := R1.out.lt
      obtain ⟨m0, m1⟩ := R1.out.c2
      clear hb1 Q0 Q1 HB hB z1
      go_wp2_with fail
      refine (C1.out _).mono ?_
      rintro e w2 ⟨rfl, hb2⟩
      have T0 := bxb (t := 27) w.heap.size [.int .i64 0, .int .u64 0] hb2
      have T1 := bxb (t := 27) (w.heap.size + 1) [.int .i64 (fh S), .int .u64 (fl S)] hb2
      have HB2 : Hid (Below w.heap.size w w2) := hbw hb2
      have z3 := T1.out.lt
      obtain ⟨n0, n1⟩ := T1.out.c2
      have nf := T1.out.frz
      clear hb2 R0 R1 HB1 m0 m1 z2
      generalize S + x = S' at *
      go_wp2_with fail
      obtain ⟨g, rfl⟩ : ∃ g, gk = g + 1 := ⟨gk - 1, by have := HKK.out; omega⟩
      go_roundg g
      case measure => omega
      case rel =>
        refine ⟨i + 1, by have := HKK.out; omega, by simp, bxk, ?_, bb⟩
        rw [HE.out]
        exact (T1.out.put 0 _).put 1 _
    · have hi : ¬ (i : Int) < (n : Int) := by omega
      have hM : Hid (Bx 27 wr (w.heap.size + 1) [.int .i64 (fh (s L)), .int .u64 (fl (s L))]) := by
        have := Q1.out
        rw [List.take_of_length_le (by have := HLN.out; omega)] at this
        exact this
      clear Q1
      obtain ⟨m0, m1⟩ := hM.out.c2
      obtain ⟨r0, r1⟩ := Q0.out.c2
      have rf := Q0.out.frz
      have zr := Q0.out.lt
      go_wp2_with fail
      refine bodyPost_ret (by simp [results, Tryz.results44, go_sem, *]; try rfl) rfl ?_
      exact ⟨rfl, bb⟩
set_option maxRecDepth 20000 in
set_option maxHeartbeats 8000000 in
theorem total_at (PA : PAddT) (g : Nat) (A : Option Addr) (n c : Nat) (L : List Bod) (hn : n ≤ 64) (s : List Bod → Int) (f : Bod → Int) (h0 : s [] = 0) (hs : ∀ i b, L[i]? = some b → s (L.take (i + 1)) = s (L.take i) + f b) (hS : ∀ i, My (s (L.take i))) (hF : ∀ b ∈ L, My (f b)) (w : World) (hL : Bds w A n L)
    (HK : ∀ i B o b, A = some ⟨B, o, none⟩ → L[i]? = some b → i < n → ∀ w' : World, Below w.heap.size w w' → Calls Tryz.prog 69 #[.pointer (some ⟨B, o + i * 20, none⟩), .pointer (some ⟨g, 0, none⟩)] w' fun e w'' => e = .returned (.tuple #[fxv (f b), .int .i64 0]) ∧ Below w'.heap.size w' w'') :
    Calls Tryz.prog 44 #[.slice A n c, .func (.func 69) #[] #[.pointer (some ⟨g, 0, none⟩)]] w fun e w' => e = .returned (.tuple #[fxv (s L), .int .i64 0]) ∧ Below w.heap.size w w' := by
  have hlen := hL.len
  have KA := Lib.hid PA; have HL := Lib.hid hL; have HN := Lib.hid hn; have HLN := Lib.hid hlen; have KK := Lib.hid HK; have SN := Lib.hid hs; have SM := Lib.hid hS; have FM := Lib.hid hF; have S0' := Lib.hid h0
  clear PA hL hn hlen HK hs hS hF h0
  go_enter Tryz.func44, Tryz.ntmps44
  go_wp2_with fail
  have hr := (Bx.new w 27 #[.int .i64 0, .int .u64 0]).alloc (.cells #[.int .i64 0, .int .u64 0] 27)
  have hmb := Bx.new (w.alloc (.cells #[.int .i64 0, .int .u64 0] 27)) 27 #[.int .i64 0, .int .u64 0]
  simp only [World.size_alloc] at hmb
  have HR := Lib.hid hr; have HM := Lib.hid hmb
  clear hr hmb
  go_loopg [13] n (fun k iv wr => ∃ i : Nat, i + k = n ∧ iv = .int .i64 (i : Int) ∧ Bx 27 wr w.heap.size [.int .i64 0, .int .u64 0] ∧ Bx 27 wr (w.heap.size + 1) [.int .i64 (fh (s (L.take i))), .int .u64 (fl (s (L.take i)))] ∧ Below w.heap.size w wr)
  case atStart => exact ⟨0, by omega, rfl, HR.out, by rw [List.take_zero, S0'.out]; exact HM.out, bl_al (bl_al (Below.refl _ _) _) _⟩
  case round =>
    obtain ⟨i, hk, rfl, q0, q1, hbl⟩ := hrel
    have Q0 := Lib.hid q0; have Q1 := Lib.hid q1; have HB := Lib.hid hbl
    have z1 := q1.lt
    have hN := HN.out
    clear q0 q1 hbl HR HM
    by_cases hlt : i < n
    · obtain ⟨B, o, b, rfl, hB, hb, _⟩ := (HL.out.below HB.out).mx (i := i) hlt
      have hi : (i : Int) < (n : Int) := by omega
      have i0 : (0 : Int) ≤ (i : Int) := by omega
      have wi : IntKind.i64.wrap ((i : Int) + 1) = (i : Int) + 1 := by rw [IntWalk.i64_in _ (by omega)]
      have HKK : Hid (i + gk = n) := hk
      have C0 := Lib.hid (KK.out i B o b rfl hb hlt wr HB.out)
      have HE := Lib.hid (SN.out i b hb)
      have C1 := Lib.hid (KA.out (s (L.take i)) (f b) (SM.out i) (FM.out b (List.mem_of_getElem? hb)) (by rw [← HE.out]; exact SM.out (i + 1)))
      clear hk hN hb
      generalize f b = x at *
      generalize s (L.take i) = S at *
      go_wp2_with fail
      refine (C0.out).mono ?_
      rintro e w1 ⟨rfl, hb1⟩
      have R0 := bxb (t := 27) w.heap.size [.int .i64 0, .int .u64 0] hb1
      have R1 := bxb (t := 27) (w.heap.size + 1) [.int .i64 (fh S), .int .u64 (fl S)] hb1
      have HB1 : Hid (Below w.heap.size w w1) := hbw hb1
      have z2 := R1.out.lt
      obtain ⟨m0, m1⟩ := R1.out.c2
      clear hb1 Q0 Q1 HB hB z1
      go_wp2_with fail
      refine (C1.out _).mono ?_
      rintro e w2 ⟨rfl, hb2⟩
      have T0 := bxb (t := 27) w.heap.size [.int .i64 0, .int .u64 0] hb2
      have T1 := bxb (t := 27) (w.heap.size + 1) [.int .i64 (fh S), .int .u64 (fl S)] hb2
      have HB2 : Hid (Below w.heap.size w w2) := hbw hb2
      have z3 := T1.out.lt
      obtain ⟨n0, n1⟩ := T1.out.c2
      have nf := T1.out.frz
      clear hb2 R0 R1 HB1 m0 m1 z2
      generalize S + x = S' at *
      go_wp2_with fail
      obtain ⟨g, rfl⟩ : ∃ g, gk = g + 1 := ⟨gk - 1, by have := HKK.out; omega⟩
      go_roundg g
      case measure => omega
      case rel =>
        refine ⟨i + 1, by have := HKK.out; omega, by simp, bxk, ?_, bb⟩
        rw [HE.out]
        exact (T1.out.put 0 _).put 1 _
    · have hi : ¬ (i : Int) < (n : Int) := by omega
      have hM : Hid (Bx 27 wr (w.heap.size + 1) [.int .i64 (fh (s L)), .int .u64 (fl (s L))]) := by
        have := Q1.out
        rw [List.take_of_length_le (by have := HLN.out; omega)] at this
        exact this
      clear Q1
      obtain ⟨m0, m1⟩ := hM.out.c2
      obtain ⟨r0, r1⟩ := Q0.out.c2
      have rf := Q0.out.frz
      have zr := Q0.out.lt
      go_wp2_with fail
      refine bodyPost_ret (by simp [results, Tryz.results44, go_sem, *]; try rfl) rfl ?_
      exact ⟨rfl, bb⟩
end Go.Proofs.YtjilnmpajhifcaaGreat
namespace Go.Proofs.YtjilnmpajhifcaaGreat
open Go.RowKit
theorem bx_at1 (w : World) (o : Obj) (t : TypeId) (cs : Array Value) : Bx t ((w.alloc o).alloc (.cells cs t)) (w.heap.size + 1) cs.toList := by
  have h := Bx.new (w.alloc o) t cs
  simp only [World.size_alloc] at h; exact h
theorem bx_at2 (w : World) (o p : Obj) (t : TypeId) (cs : Array Value) : Bx t (((w.alloc o).alloc p).alloc (.cells cs t)) (w.heap.size + 2) cs.toList := by
  have h := Bx.new ((w.alloc o).alloc p) t cs
  simp only [World.size_alloc] at h; exact h
set_option maxRecDepth 20000 in
set_option maxHeartbeats 8000000 in
theorem middle_any (PD : PDivT) (k : Nat) (A : Option Addr) (n c : Nat) (D M : Int) (hD : My D) (hM : My M) (h0 : M ≠ 0) (hq : My (divr D M)) (w : World)
    (KT : ∀ (g : Nat) (w' : World), Below w.heap.size w w' → g < w'.heap.size → w'.cell? ⟨g, 0, none⟩ = some (.func (.func k) #[] #[]) → Calls Tryz.prog 44 #[.slice A n c, .func (.func 69) #[] #[.pointer (some ⟨g, 0, none⟩)]] w' fun e w'' => e = .returned (.tuple #[fxv D, .int .i64 0]) ∧ Below w'.heap.size w' w'') :
    Calls Tryz.prog 46 #[.slice A n c, fxv M, .func (.func k) #[] #[]] w fun e w' => e = .returned (.tuple #[fxv (divr D M), .int .i64 0]) ∧ Below w.heap.size w w' := by
  have hmf : ∀ (fn : Fn) (first cap : Array Value) (w : World), (Instr.makeFunc fn first cap).run Tryz.prog w = .ok (.func fn first cap) w := fun _ _ _ _ => rfl
  have C1 := Lib.hid (PD D M hD hM h0 hq); have K1 := Lib.hid KT
  clear PD KT hD hM h0 hq
  generalize divr D M = q at *
  go_enter Tryz.func46, Tryz.ntmps46
  go_upto_region 1 with fail
  refine nw _ fun wx hwx => ?_
  have x0 : Bx 27 wx w.heap.size [.int .i64 (fh M), .int .u64 (fl M)] := by rw [hwx]; exact ((Bx.new _ _ _).alloc _).alloc _
  have x1 : wx.cell? ⟨w.heap.size + 1, 0, none⟩ = some (.func (.func k) #[] #[]) := by rw [hwx]; exact ((bx_at1 _ _ _ _).alloc _).cell (j := 0) rfl
  have x2 : Bx 27 wx (w.heap.size + 2) [.int .i64 0, .int .u64 0] := by rw [hwx]; exact bx_at2 _ _ _ _ _
  have hb : Below w.heap.size w wx := by rw [hwx]; exact bl_al (bl_al (bl_al (Below.refl _ _) _) _) _
  have C0 := Lib.hid (K1.out (w.heap.size + 1) wx hb (by have := x2.lt; omega) x1)
  have X0 := Lib.hid x0; have X2 := Lib.hid x2; have HB := Lib.hid hb
  clear hwx x0 x1 x2 hb K1
  go_wp2_with fail
  refine C0.out.mono ?_
  rintro e w1 ⟨rfl, hb1⟩
  have Y0 := bxb (t := 27) w.heap.size [.int .i64 (fh M), .int .u64 (fl M)] hb1
  have Y2 := bxb (t := 27) (w.heap.size + 2) [.int .i64 0, .int .u64 0] hb1
  have HB1 : Hid (Below w.heap.size w w1) := hbw hb1
  have zy := Y2.out.lt; have zy0 := Y0.out.lt
  obtain ⟨m0, m1⟩ := Y0.out.c2
  clear hb1 X0 X2 HB C0
  go_wp2_with fail
  refine (C1.out _).mono ?_
  rintro e w2 ⟨rfl, hb2⟩
  have Z2 := bxb (t := 27) (w.heap.size + 2) [.int .i64 0, .int .u64 0] hb2
  have HB2 : Hid (Below w.heap.size w w2) := hbw hb2
  have zz := Z2.out.lt
  obtain ⟨n0, n1⟩ := Z2.out.c2
  have nf := Z2.out.frz
  clear hb2 Y0 Y2 HB1 m0 m1
  go_wp2_with fail
  refine bodyPost_ret (by simp [results, Tryz.results46, go_sem, *]; try rfl) rfl ?_
  exact ⟨rfl, bb⟩
/-- All of some bodies, as cells and as a value. -/
def smc (M x y : Int) : List Value := [.int .i64 (fh M), .int .u64 (fl M), .int .i64 (fh x), .int .u64 (fl x), .int .i64 (fh y), .int .u64 (fl y)]
@[reducible] def smv (M x y : Int) : Value := .agg #[.int .i64 (fh M), .int .u64 (fl M), .int .i64 (fh x), .int .u64 (fl x), .int .i64 (fh y), .int .u64 (fl y)]
set_option maxRecDepth 20000 in
set_option maxHeartbeats 8000000 in
theorem added_core (A : Option Addr) (n c : Nat) (M x y : Int) (h0 : 0 < n) (w : World)
    (K0 : ∀ w' : World, Below w.heap.size w w' → Calls Tryz.prog 44 #[.slice A n c, .func (.func 45) #[] #[]] w' fun e w'' => e = .returned (.tuple #[fxv M, .int .i64 0]) ∧ Below w'.heap.size w' w'')
    (K1 : ∀ w' : World, Below w.heap.size w w' → Calls Tryz.prog 46 #[.slice A n c, fxv M, .func (.func 47) #[] #[]] w' fun e w'' => e = .returned (.tuple #[fxv x, .int .i64 0]) ∧ Below w'.heap.size w' w'')
    (K2 : ∀ w' : World, Below w.heap.size w w' → Calls Tryz.prog 46 #[.slice A n c, fxv M, .func (.func 48) #[] #[]] w' fun e w'' => e = .returned (.tuple #[fxv y, .int .i64 0]) ∧ Below w'.heap.size w' w'') :
    Calls Tryz.prog 20 #[.slice A n c] w fun e w' => e = .returned (.tuple #[smv M x y, .int .i64 0]) ∧ Below w.heap.size w w' := by
  have n0 : ((n : Int) == 0) = false := by rw [beq_eq_false_iff_ne]; omega
  have n1 : (n == 0) = false := by rw [beq_eq_false_iff_ne]; omega
  have n2 : ¬ (n : Int) = 0 := by omega
  have n3 : ¬ n = 0 := by omega
  have k0 := Lib.hid K0; have k1 := Lib.hid K1; have k2 := Lib.hid K2
  clear K0 K1 K2
  go_enter Tryz.func20, Tryz.ntmps20
  go_upto_region 1 with fail
  refine nw _ fun wx hwx => ?_
  have x0 : Bx 59 wx w.heap.size [.int .i64 0, .int .u64 0, .int .i64 0, .int .u64 0, .int .i64 0, .int .u64 0] := by rw [hwx]; exact Bx.new _ _ _
  have hb : Below w.heap.size w wx := by rw [hwx]; exact bl_al (Below.refl _ _) _
  have X0 := Lib.hid x0; have HB := Lib.hid hb
  clear hwx x0 hb
  go_wp2_with fail
  refine (k0.out _ HB.out).mono ?_
  rintro e w1 ⟨rfl, hb1⟩
  have X1 := bxb (t := 59) w.heap.size [.int .i64 0, .int .u64 0, .int .i64 0, .int .u64 0, .int .i64 0, .int .u64 0] hb1
  have HB1 : Hid (Below w.heap.size w w1) := hbw hb1
  clear hb1 X0 HB k0
  go_upto_region 6 with fail
  refine nw _ fun w2 hw2 => ?_
  have b0 : Bx 27 w2 w1.heap.size [.int .i64 (fh M), .int .u64 (fl M)] := by rw [hw2]; exact Bx.new _ _ _
  have hb : Below w1.heap.size w1 w2 := by rw [hw2]; exact bl_al (Below.refl _ _) _
  have X2 := Lib.hid (X1.out.below hb); have HB2 : Hid (Below w.heap.size w w2) := bl_trans HB1.out hb
  obtain ⟨m0, m1⟩ := b0.c2
  have B0 := Lib.hid b0
  clear hw2 b0 hb X1 HB1
  generalize w1.heap.size = g0 at *
  go_wp2_with fail
  refine (k1.out _ HB2.out).mono ?_
  rintro e w3 ⟨rfl, hb3⟩
  have X3 := Lib.hid (X2.out.below hb3); have B3 := Lib.hid (B0.out.below hb3); have HB3 : Hid (Below w.heap.size w w3) := bl_trans HB2.out hb3
  clear hb3 m0 m1 X2 B0 HB2 k1
  go_upto_region 9 with fail
  refine nw _ fun w4 hw4 => ?_
  have b1 : Bx 27 w4 w3.heap.size [.int .i64 (fh x), .int .u64 (fl x)] := by rw [hw4]; exact Bx.new _ _ _
  have hb : Below w3.heap.size w3 w4 := by rw [hw4]; exact bl_al (Below.refl _ _) _
  have X4 := Lib.hid (X3.out.below hb); have B4 := Lib.hid (B3.out.below hb); have HB4 : Hid (Below w.heap.size w w4) := bl_trans HB3.out hb
  obtain ⟨m0, m1⟩ := B4.out.c2
  have D4 := Lib.hid b1
  clear hw4 b1 hb X3 B3 HB3
  generalize w3.heap.size = g1 at *
  go_wp2_with fail
  refine (k2.out _ HB4.out).mono ?_
  rintro e w5 ⟨rfl, hb5⟩
  have X5 := Lib.hid (X4.out.below hb5); have B5 := Lib.hid (B4.out.below hb5); have D5 := Lib.hid (D4.out.below hb5); have HB5 : Hid (Below w.heap.size w w5) := bl_trans HB4.out hb5
  clear hb5 m0 m1 X4 B4 D4 HB4 k2
  go_upto_region 12 with fail
  refine nw _ fun w6 hw6 => ?_
  have b2 : Bx 27 w6 w5.heap.size [.int .i64 (fh y), .int .u64 (fl y)] := by rw [hw6]; exact Bx.new _ _ _
  have hb : Below w5.heap.size w5 w6 := by rw [hw6]; exact bl_al (Below.refl _ _) _
  have X6 := Lib.hid (X5.out.below hb); have HB6 : Hid (Below w.heap.size w w6) := bl_trans HB5.out hb
  obtain ⟨m0, m1⟩ := (B5.out.below hb).c2
  obtain ⟨m2, m3⟩ := (D5.out.below hb).c2
  obtain ⟨m4, m5⟩ := b2.c2
  have q0 := X6.out.cell (j := 0) rfl; have q1 := X6.out.cell (j := 1) rfl; have q2 := X6.out.cell (j := 2) rfl; have q3 := X6.out.cell (j := 3) rfl; have q4 := X6.out.cell (j := 4) rfl; have q5 := X6.out.cell (j := 5) rfl
  have qf := X6.out.frz
  have zq := X6.out.lt
  clear hw6 b2 hb X5 B5 D5 HB5
  generalize w5.heap.size = g2 at *
  go_wp2_with fail
  refine bodyPost_ret (by simp [results, Tryz.results20, go_sem, *]; try rfl) rfl ?_
  exact ⟨rfl, bb⟩
set_option maxRecDepth 20000 in
set_option maxHeartbeats 8000000 in
theorem added_none (A : Option Addr) (c : Nat) (w : World) :
    Calls Tryz.prog 20 #[.slice A 0 c] w fun e w' => e = .returned (.tuple #[.agg #[.int .i64 0, .int .u64 0, .int .i64 0, .int .u64 0, .int .i64 0, .int .u64 0], .int .i64 1]) ∧ Below w.heap.size w w' := by
  go_enter Tryz.func20, Tryz.ntmps20
  go_wp2_with fail
  refine bodyPost_ret (by simp [results, Tryz.results20, go_sem, *]; try rfl) rfl ?_
  exact ⟨rfl, bb⟩
theorem added_any (PA : PAddT) (PM : PMulT) (PD : PDivT) (A : Option Addr) (n c : Nat) (L : List Bod) (h0 : 0 < n) (hn : n ≤ 64) (hm : ∀ b ∈ L, Mb b) (w : World) (hL : Bds w A n L) :
    Calls Tryz.prog 20 #[.slice A n c] w fun e w' => e = .returned (.tuple #[smv (sM L) (mid Bod.x L) (mid Bod.y L), .int .i64 0]) ∧ Below w.heap.size w w' := by
  have hl := hL.len
  have ne : L ≠ [] := by intro h; rw [h] at hl; simp at hl; omega
  obtain ⟨s0, s1, s2⟩ := sM_near hm
  have s2 := s2 ne
  have FM := few_M hm (by omega)
  have FX := few_D (Mb.x_ hm) (by omega); have FY := few_D (Mb.y_ hm) (by omega)
  have tk : L.take n = L := List.take_of_length_le (by omega)
  have hM : My (sM L) := by have := FM n; rwa [tk] at this
  have hX : My (sD Bod.x L) := by have := FX n; rwa [tk] at this
  have hY : My (sD Bod.y L) := by have := FY n; rwa [tk] at this
  have mx := mid_near (Mb.x_ hm) ne; have my := mid_near (Mb.y_ hm) ne
  have bm : ∀ b ∈ L, My b.m := fun b hb => by have := hm b hb; unfold Mb at this; unfold My; omega
  have bx : ∀ b ∈ L, My b.x := fun b hb => by have := hm b hb; unfold Mb at this; unfold My; omega
  have by_ : ∀ b ∈ L, My b.y := fun b hb => by have := hm b hb; unfold Mb at this; unfold My; omega
  have px : ∀ b ∈ L, My (mulr b.m b.x) := fun b hb => by obtain ⟨h1, h2, h3⟩ := Mb.x_ hm b hb; have := mulr_near h1.1 h2 h3; unfold Mb at h1; unfold My; omega
  have py : ∀ b ∈ L, My (mulr b.m b.y) := fun b hb => by obtain ⟨h1, h2, h3⟩ := Mb.y_ hm b hb; have := mulr_near h1.1 h2 h3; unfold Mb at h1; unfold My; omega
  have at_ : ∀ w' : World, Below w.heap.size w w' → ∀ i B o b, A = some ⟨B, o, none⟩ → L[i]? = some b → i < n → w'.cell? ⟨B, o + i * 20, none⟩ = some (.int .i64 (fh b.m)) ∧ w'.cell? ⟨B, o + i * 20 + 1, none⟩ = some (.int .u64 (fl b.m)) ∧ w'.cell? ⟨B, o + i * 20 + 4, none⟩ = some (.int .i64 (fh b.x)) ∧ w'.cell? ⟨B, o + i * 20 + 5, none⟩ = some (.int .u64 (fl b.x)) ∧ w'.cell? ⟨B, o + i * 20 + 6, none⟩ = some (.int .i64 (fh b.y)) ∧ w'.cell? ⟨B, o + i * 20 + 7, none⟩ = some (.int .u64 (fl b.y)) := by
    intro w' hb' i B o b hA hi hin
    obtain ⟨B', o', b', e, _, hb, r⟩ := (hL.below hb').mx hin
    rw [hA] at e
    simp only [Option.some.injEq, Addr.mk.injEq, and_true] at e
    obtain ⟨rfl, rfl⟩ := e
    rw [hi] at hb
    obtain rfl := Option.some.inj hb
    exact r
  refine added_core A n c _ _ _ h0 w (fun w1 h1 => ?_) (fun w1 h1 => ?_) (fun w1 h1 => ?_)
  · refine total_mass PA A n c L hn sM Bod.m rfl (fun i b hb => sM_next hb) FM bm w1 (hL.below h1) fun i B o b hA hi hin w2 h2 => ?_
    obtain ⟨c0, c1, _⟩ := at_ w2 (bl_trans h1 h2) i B o b hA hi hin
    exact lit_mass B _ _ w2 c0 c1
  · refine middle_any PD _ A n c _ _ hX hM (by omega) (by show My (mid Bod.x L); unfold My; omega) w1 fun g w2 h2 hg hc => ?_
    have gw := stays hc hg
    refine total_at PA g A n c L hn (sD Bod.x) (fun b => mulr b.m b.x) rfl (fun i b hb => sD_next hb) FX px w2 (hL.below (bl_trans h1 h2)) fun i B o b hA hi hin w3 h3 => ?_
    obtain ⟨c0, c1, c4, c5, _⟩ := at_ w3 (bl_trans (bl_trans h1 h2) h3) i B o b hA hi hin
    have hbm := List.mem_of_getElem? hi
    exact moment_x PM g B _ _ _ (bx b hbm) (bm b hbm) (px b hbm) w3 (gw w3 h3) c0 c1 c4 c5
  · refine middle_any PD _ A n c _ _ hY hM (by omega) (by show My (mid Bod.y L); unfold My; omega) w1 fun g w2 h2 hg hc => ?_
    have gw := stays hc hg
    refine total_at PA g A n c L hn (sD Bod.y) (fun b => mulr b.m b.y) rfl (fun i b hb => sD_next hb) FY py w2 (hL.below (bl_trans h1 h2)) fun i B o b hA hi hin w3 h3 => ?_
    obtain ⟨c0, c1, _, _, c4, c5⟩ := at_ w3 (bl_trans (bl_trans h1 h2) h3) i B o b hA hi hin
    have hbm := List.mem_of_getElem? hi
    exact moment_y PM g B _ _ _ (by_ b hbm) (bm b hbm) (py b hbm) w3 (gw w3 h3) c0 c1 c4 c5
set_option maxRecDepth 20000 in
set_option maxHeartbeats 8000000 in
theorem centre_core (A : Option Addr) (n c : Nat) (a0 a1 a2 a3 a4 a5 : Int) (ee : Int) (w : World)
    (K0 : ∀ w' : World, Below w.heap.size w w' → Calls Tryz.prog 20 #[.slice A n c] w' fun e w'' => e = .returned (.tuple #[.agg #[.int .i64 a0, .int .u64 a1, .int .i64 a2, .int .u64 a3, .int .i64 a4, .int .u64 a5], .int .i64 ee]) ∧ Below w'.heap.size w' w'') :
    Calls Tryz.prog 7 #[.slice A n c] w fun e w' => e = .returned (.tuple #[.agg #[.int .i64 a0, .int .u64 a1], .agg #[.int .i64 a2, .int .u64 a3, .int .i64 a4, .int .u64 a5], .int .i64 ee]) ∧ Below w.heap.size w w' := by
  have k0 := Lib.hid K0
  clear K0
  go_enter Tryz.func7, Tryz.ntmps7
  go_upto_region 1 with fail
  refine nw _ fun wx hwx => ?_
  have x0 : Bx 27 wx w.heap.size [.int .i64 0, .int .u64 0] := by rw [hwx]; exact (Bx.new _ _ _).alloc _
  have x1 : Bx 29 wx (w.heap.size + 1) [.int .i64 0, .int .u64 0, .int .i64 0, .int .u64 0] := by rw [hwx]; exact bx_at1 _ _ _ _
  have hb : Below w.heap.size w wx := by rw [hwx]; exact bl_al (bl_al (Below.refl _ _) _) _
  have X0 := Lib.hid x0; have X1 := Lib.hid x1; have HB := Lib.hid hb
  clear hwx x0 x1 hb
  go_wp2_with fail
  refine (k0.out _ HB.out).mono ?_
  rintro e w1 ⟨rfl, hb1⟩
  have Y0 := Lib.hid (X0.out.below hb1); have Y1 := Lib.hid (X1.out.below hb1); have HB1 : Hid (Below w.heap.size w w1) := bl_trans HB.out hb1
  clear hb1 X0 X1 HB k0
  go_upto_region 2 with fail
  refine nw _ fun w2 hw2 => ?_
  have b0 : Bx 59 w2 w1.heap.size [.int .i64 a0, .int .u64 a1, .int .i64 a2, .int .u64 a3, .int .i64 a4, .int .u64 a5] := by rw [hw2]; exact Bx.new _ _ _
  have hb : Below w1.heap.size w1 w2 := by rw [hw2]; exact bl_al (Below.refl _ _) _
  have z0 := b0.lt
  have x0 := Y0.out.below hb; have x1 := Y1.out.below hb
  have HB2 : Hid (Below w.heap.size w w2) := bl_trans HB1.out hb
  have zs : w.heap.size + 1 < w1.heap.size := Y1.out.lt
  have s0 := b0.cell (j := 0) rfl; have s1 := b0.cell (j := 1) rfl; have s2 := b0.cell (j := 2) rfl; have s3 := b0.cell (j := 3) rfl; have s4 := b0.cell (j := 4) rfl; have s5 := b0.cell (j := 5) rfl
  have p0 := x0.cell (j := 0) rfl; have p1 := x0.cell (j := 1) rfl; have pf := x0.frz; have zp := x0.lt
  have r0 := x1.cell (j := 0) rfl; have r1 := x1.cell (j := 1) rfl; have r2 := x1.cell (j := 2) rfl; have r3 := x1.cell (j := 3) rfl; have rf := x1.frz; have zr := x1.lt
  clear hw2 b0 hb Y0 Y1 HB1 x0 x1
  generalize w1.heap.size = g at *
  have g0 : ¬ g = w.heap.size := by omega
  have g1 : ¬ g = w.heap.size + 1 := by omega
  go_region_held3 (fun w' => w'.cell? ⟨g, 0, none⟩ = some (.int .i64 a0) ∧ w'.cell? ⟨g, 1, none⟩ = some (.int .u64 a1) ∧ w'.cell? ⟨g, 2, none⟩ = some (.int .i64 a2) ∧ w'.cell? ⟨g, 3, none⟩ = some (.int .u64 a3) ∧ w'.cell? ⟨g, 4, none⟩ = some (.int .i64 a4) ∧ w'.cell? ⟨g, 5, none⟩ = some (.int .u64 a5)) (first | (simp [*, go_sem]; done)) (fail)
  rename_i hHeld
  clear hHeld
  go_wp2_with fail
  refine bodyPost_ret (by simp [results, Tryz.results7, go_sem, *]; try rfl) rfl ?_
  exact ⟨rfl, bb⟩
end Go.Proofs.YtjilnmpajhifcaaGreat
