/- The document's Pull, as numbers; what the laws of layer 10 come to, from what the program's Pull comes to. -/
import Derived.Test.YtmmlekgojblopaaPairDoc
import Derived.Test.YtmmlekgojblopaaPairLaw
import Derived.Test.YtmmlekgojblopaaPairSay
import Derived.Test.YtmmlekgojblopaaZzVecB
import Derived.Test.YtmmlekgojblopaaZzRefF
import Derived.Test.YtmmlekgojblopaaZzFixA
namespace Go.Proofs.Ytmmlekgojblopaa
open Go.RowKit
def way3 (t : Int × Int × Int) : Value := .agg #[.int .i64 (fh t.1), .int .u64 (fl t.1), .int .i64 (fh t.2.1), .int .u64 (fl t.2.1), .int .i64 t.2.2]
theorem st_chn {p : Int × Int} {k : Int → Int × Int × Int} {es : List Int} {V : Value} (h : way3 (k p.1) = chn es V) : way3 (st p k) = chn (p.2 :: es) V := by
  unfold st
  show _ = if p.2 = 0 then chn es V else _
  by_cases c : p.2 = 0
  · rw [if_pos c, if_pos c]; exact h
  · rw [if_neg c, if_neg c]; unfold way3; rw [zero_words.1, zero_words.2]
theorem di_My (x y : Int) : My (di x y).1 := by
  unfold di
  split
  · show My 0; unfold My; omega
  · exact ov_My _
theorem sq_My {x : Int} (h : My x) : My (sq x).1 := by
  unfold sq
  split
  · show My 0; unfold My; omega
  · exact sqr_My h
theorem rdi_any (x y : Int) (hx : My x) (hy : My y) (w : World) :
    Calls Try.prog 17 #[.agg #[.int .i64 (fh x), .int .u64 (fl x)], .agg #[.int .i64 (fh y), .int .u64 (fl y)]] w fun e w' => e = .returned (.agg #[.int .i64 (fh (di x y).1), .int .u64 (fl (di x y).1), .int .i64 (di x y).2]) ∧ Below w.heap.size w w' := by
  by_cases h : y = 0
  · subst h
    have e : di x 0 = (0, 2) := if_pos rfl
    rw [e]
    have k := rdivf_none (fh x) (fl x) (eq_fix_true 0 0) w
    rw [zero_words.1, zero_words.2]; exact k
  · have e : di x y = (ov (divr x y), oe (divr x y)) := if_neg h
    rw [e]
    exact rdivf_any x y hx hy h w
theorem rsq_any (x : Int) (hx : My x) (w : World) :
    Calls Try.prog 28 #[.agg #[.int .i64 (fh x), .int .u64 (fl x)]] w fun e w' => e = .returned (.agg #[.int .i64 (fh (sq x).1), .int .u64 (fl (sq x).1), .int .i64 (sq x).2]) ∧ Below w.heap.size w w' := by
  by_cases h : x < 0
  · have e : sq x = (0, 1) := if_pos h
    rw [e]
    have k := rsqrt_below x h w
    rw [zero_words.1, zero_words.2]; exact k
  · have e : sq x = (sqr x, 0) := if_neg h
    rw [e]
    exact rsqrt_any x hx (by omega) w
theorem rpull_any (g a b dx dy ep h : Int) (hg : My g) (ha : My a) (hb : My b) (hdx : My dx) (hdy : My dy) (hep : My ep) (hh : My h) (w : World) :
    Calls Try.prog 12 #[fxv g, fxv a, fxv b, .agg #[.int .i64 (fh dx), .int .u64 (fl dx), .int .i64 (fh dy), .int .u64 (fl dy)], fxv ep, fxv h] w fun e w' => e = .returned (way3 (pul g a b dx dy ep h)) ∧ Below w.heap.size w w' := by
  have l := dv_My (mulr dx dx) (mulr dy dy)
  have s := ov_My (mulr ep ep)
  have q := ov_My (dv (mulr dx dx) (mulr dy dy) + ov (mulr ep ep))
  have r := sq_My q
  have m := ov_My (mulr a b)
  have n := ov_My (mulr g (ov (mulr a b)))
  have o := ov_My (mulr (ov (mulr g (ov (mulr a b)))) h)
  have k := di_My (ov (mulr (ov (mulr g (ov (mulr a b)))) h)) (ov (dv (mulr dx dx) (mulr dy dy) + ov (mulr ep ep)))
  have j := di_My (di (ov (mulr (ov (mulr g (ov (mulr a b)))) h)) (ov (dv (mulr dx dx) (mulr dy dy) + ov (mulr ep ep)))).1 (sq (ov (dv (mulr dx dx) (mulr dy dy) + ov (mulr ep ep)))).1
  have C := rpull_core _ _ _ _ _ _ _ _ _ _ _ _ _ _ _ _ _ _ _ _ _ _ _ _ _ _ _ _ _ _ _ _ _ _ _ _ _ _ _ _ _ _ _ _ _ _ w (rlen2_any dx dy hdx hdy) (rmul_any ep ep hep hep) (radd_any _ _ l s) (rsq_any _ q) (rmul_any a b ha hb) (rmul_any g _ hg m) (rmul_any _ h n hh) (rdi_any _ _ o q) (rdi_any _ _ k r) (rscale_any dx dy _ hdx hdy j)
  have e : way3 (pul g a b dx dy ep h) = chn [de (mulr dx dx) (mulr dy dy), oe (mulr ep ep), oe (dv (mulr dx dx) (mulr dy dy) + ov (mulr ep ep)), (sq (ov (dv (mulr dx dx) (mulr dy dy) + ov (mulr ep ep)))).2, oe (mulr a b), oe (mulr g (ov (mulr a b))), oe (mulr (ov (mulr g (ov (mulr a b)))) h), (di (ov (mulr (ov (mulr g (ov (mulr a b)))) h)) (ov (dv (mulr dx dx) (mulr dy dy) + ov (mulr ep ep)))).2, (di (di (ov (mulr (ov (mulr g (ov (mulr a b)))) h)) (ov (dv (mulr dx dx) (mulr dy dy) + ov (mulr ep ep)))).1 (sq (ov (dv (mulr dx dx) (mulr dy dy) + ov (mulr ep ep)))).1).2]
      (wayv (vx (mulr dx (di (di (ov (mulr (ov (mulr g (ov (mulr a b)))) h)) (ov (dv (mulr dx dx) (mulr dy dy) + ov (mulr ep ep)))).1 (sq (ov (dv (mulr dx dx) (mulr dy dy) + ov (mulr ep ep)))).1).1) (mulr dy (di (di (ov (mulr (ov (mulr g (ov (mulr a b)))) h)) (ov (dv (mulr dx dx) (mulr dy dy) + ov (mulr ep ep)))).1 (sq (ov (dv (mulr dx dx) (mulr dy dy) + ov (mulr ep ep)))).1).1)) (vy (mulr dx (di (di (ov (mulr (ov (mulr g (ov (mulr a b)))) h)) (ov (dv (mulr dx dx) (mulr dy dy) + ov (mulr ep ep)))).1 (sq (ov (dv (mulr dx dx) (mulr dy dy) + ov (mulr ep ep)))).1).1) (mulr dy (di (di (ov (mulr (ov (mulr g (ov (mulr a b)))) h)) (ov (dv (mulr dx dx) (mulr dy dy) + ov (mulr ep ep)))).1 (sq (ov (dv (mulr dx dx) (mulr dy dy) + ov (mulr ep ep)))).1).1)) (ve (mulr dx (di (di (ov (mulr (ov (mulr g (ov (mulr a b)))) h)) (ov (dv (mulr dx dx) (mulr dy dy) + ov (mulr ep ep)))).1 (sq (ov (dv (mulr dx dx) (mulr dy dy) + ov (mulr ep ep)))).1).1) (mulr dy (di (di (ov (mulr (ov (mulr g (ov (mulr a b)))) h)) (ov (dv (mulr dx dx) (mulr dy dy) + ov (mulr ep ep)))).1 (sq (ov (dv (mulr dx dx) (mulr dy dy) + ov (mulr ep ep)))).1).1))) :=
    st_chn (st_chn (st_chn (st_chn (st_chn (st_chn (st_chn (st_chn (st_chn rfl))))))))
  rw [e]; exact C
end Go.Proofs.Ytmmlekgojblopaa
