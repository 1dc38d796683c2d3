/- PairTurned, PairAcross, from what the program's Pull comes to. -/
import Derived.Test.YtmmlekgojblopaaPairEnd
namespace Go.Proofs.Ytmmlekgojblopaa
open Go.RowKit
def My2 (t : Int × Int × Int) : Prop := My t.1 ∧ My t.2.1
theorem st_My {p : Int × Int} {k : Int → Int × Int × Int} (h : ∀ v, My2 (k v)) : My2 (st p k) := by
  unfold st
  split
  · exact h _
  · exact ⟨by show My 0; unfold My; omega, by show My 0; unfold My; omega⟩
theorem pul_My (g a b dx dy ep h : Int) : My2 (pul g a b dx dy ep h) :=
  st_My fun _ => st_My fun _ => st_My fun _ => st_My fun _ => st_My fun _ => st_My fun _ => st_My fun _ => st_My fun _ => st_My fun _ => ⟨vx_My _ _, vy_My _ _⟩
theorem pairTurned_any (C : PulT) (g a b dx dy ep h : Int) (hg : Fx g) (ha : Fx a) (hb : Fx b) (hdx : Fx dx) (hdy : Fx dy) (hep : Fx ep) (hh : Fx h) (w : World) :
    Calls Try.prog 4 #[fxv g, fxv a, fxv b, vec dx dy, fxv ep, fxv h] w fun e w' => e = .returned (.bool true) ∧ Below w.heap.size w w' := by
  obtain ⟨q, e, c⟩ := pmay_any g a b dx dy ep h hg ha hb hdx hdy hep hh
  cases q
  · exact pairTurned_no _ _ _ _ _ _ _ _ _ _ _ _ _ _ w c (pawake_any C)
  · obtain ⟨m1, m2, m3, m4, m5, m6, m7⟩ := e.1 rfl
    obtain ⟨n1, n2⟩ := pul_My g a b dx dy ep h
    have c4 := C g a b (-dx) (-dy) ep h m1 m2 m3 (my_neg2 m4) (my_neg2 m5) m6 m7
    rw [pul_d] at c4
    have c6 := C g a b dx dy ep (-h) m1 m2 m3 m4 m5 m6 (my_neg2 m7)
    rw [pul_h] at c6
    have c7 := C g b a dx dy ep h m1 m3 m2 m4 m5 m6 m7
    rw [pul_ab] at c7
    exact pairTurned_yes _ _ _ _ _ _ _ _ _ _ _ _ _ _ _ _ _ _ _ _ _ _ _ _ _ _ _ _ _ w c (C g a b dx dy ep h m1 m2 m3 m4 m5 m6 m7) (rnegvec_any dx dy m4 m5) c4 (rneg_any h m7) c6 c7 (rnegvec_any _ _ n1 n2) (pawake_any C)
theorem pairAcross_any (C : PulT) (a b x y h : Int) (ha : Fx a) (hb : Fx b) (x1 : -2147483648 ≤ x) (x2 : x < 2147483648) (y1 : -2147483648 ≤ y) (y2 : y < 2147483648) (h1 : 0 ≤ h) (h2 : h < 18446744073709551616) (w : World) :
    Calls Try.prog 8 #[fxv a, fxv b, .int .i32 x, .int .i32 y, .int .u64 h] w fun e w' => e = .returned (.bool true) ∧ Below w.heap.size w w' := by
  obtain ⟨q1, e1, c1⟩ := may_b a ha
  obtain ⟨q2, e2, c2⟩ := may_b b hb
  cases q1
  · exact pairAcross_no1 _ _ _ _ _ _ _ w c1 (pawake_any C)
  cases q2
  · exact pairAcross_no2 _ _ _ _ _ _ _ w c1 c2 (pawake_any C)
  have m1 := e1.1 rfl
  have m2 := e2.1 rfl
  have K := rint_any 1
  have mo : My (intr 1) := by unfold intr My; omega
  have wy : Wd (IntKind.u64.wrap y) := by rw [wrap_u64]; unfold Wd; omega
  have wx : Wd (IntKind.u64.wrap x) := by rw [wrap_u64]; unfold Wd; omega
  have ux := wx.1; have ux2 := wx.2; have uy := wy.1; have uy2 := wy.2
  have fx1 : fh (x / 256 * 18446744073709551616 + IntKind.u64.wrap y) = x / 256 := by unfold fh; omega
  have fx2 : fl (x / 256 * 18446744073709551616 + IntKind.u64.wrap y) = IntKind.u64.wrap y := by unfold fl; omega
  have fy1 : fh (y / 256 * 18446744073709551616 + IntKind.u64.wrap x) = y / 256 := by unfold fh; omega
  have fy2 : fl (y / 256 * 18446744073709551616 + IntKind.u64.wrap x) = IntKind.u64.wrap x := by unfold fl; omega
  have fh1 : fh h = 0 := by unfold fh; omega
  have fh2 : fl h = h := by unfold fl; omega
  have k := C (intr 1) a b (x / 256 * 18446744073709551616 + IntKind.u64.wrap y) (y / 256 * 18446744073709551616 + IntKind.u64.wrap x) (intr 1) h mo m1 m2 (by unfold My; omega) (by unfold My; omega) mo (by unfold My; omega)
  have k' := C (intr 1) a b (y / 256 * 18446744073709551616 + IntKind.u64.wrap x) (x / 256 * 18446744073709551616 + IntKind.u64.wrap y) (intr 1) h mo m1 m2 (by unfold My; omega) (by unfold My; omega) mo (by unfold My; omega)
  rw [pul_xy] at k'
  simp only [fxv, fx1, fx2, fy1, fy2, fh1, fh2] at k k'
  exact pairAcross_yes _ _ _ _ x y h _ _ _ _ _ _ _ _ _ _ _ ⟨x1, x2⟩ ⟨y1, y2⟩ rfl rfl rfl rfl w c1 c2 K k k' (pawake_any C)
end Go.Proofs.Ytmmlekgojblopaa
