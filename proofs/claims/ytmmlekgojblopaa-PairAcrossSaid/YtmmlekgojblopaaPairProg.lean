/- What the program's Pull comes to, as numbers. -/
import Derived.Test.YtmmlekgojblopaaPairPull
import Derived.Test.YtmmlekgojblopaaPairEnd2
namespace Go.Proofs.Ytmmlekgojblopaa
open Go.RowKit
theorem fdi_any (x y : Int) (hx : My x) (hy : My y) (w : World) :
    Calls Try.prog 23 #[.agg #[.int .i64 (fh x), .int .u64 (fl x)], .agg #[.int .i64 (fh y), .int .u64 (fl y)]] w fun e w' => e = .returned (.tuple #[.agg #[.int .i64 (fh (di x y).1), .int .u64 (fl (di x y).1)], .int .i64 (di x y).2]) ∧ Below w.heap.size w w' := by
  by_cases h : y = 0
  · subst h
    have e : di x 0 = (0, 2) := if_pos rfl
    rw [e]
    have k := fdiv_none x hx w
    rw [zero_words.1, zero_words.2]; exact k
  · have e : di x y = (ov (divr x y), oe (divr x y)) := if_neg h
    rw [e]
    exact fdiv_any x y hx hy h w
theorem fsq_any (x : Int) (hx : My x) (w : World) :
    Calls Try.prog 39 #[.agg #[.int .i64 (fh x), .int .u64 (fl x)]] w fun e w' => e = .returned (.tuple #[.agg #[.int .i64 (fh (sq x).1), .int .u64 (fl (sq x).1)], .int .i64 (sq x).2]) ∧ Below w.heap.size w w' := by
  by_cases h : x < 0
  · have e : sq x = (0, 1) := if_pos h
    rw [e]
    have k := fsqrt_none x hx h w
    rw [zero_words.1, zero_words.2]; exact k
  · have e : sq x = (sqr x, 0) := if_neg h
    rw [e]
    exact fsqrt_any x hx (by omega) w
/-- How far apart, as numbers: the square, its root, the error. -/
def apn (dx dy ep : Int) : Int × Int × Int := st (dv (mulr dx dx) (mulr dy dy), de (mulr dx dx) (mulr dy dy)) fun l => st (mu ep ep) fun e => st (ad l e) fun r2 => (r2, sq r2)
def st1 (p : Int × Int) (k : Int → Int × Int) : Int × Int := if p.2 = 0 then k p.1 else (0, p.2)
/-- How strong. -/
def strn (g a b h : Int) : Int × Int := st1 (mu a b) fun m => st1 (mu m g) fun m => st1 (mu m h) fun m => (m, 0)
def pv1 (t : Int × Int) : Value := .tuple #[.agg #[.int .i64 (fh t.1), .int .u64 (fl t.1)], .int .i64 t.2]
def pv2 (t : Int × Int × Int) : Value := .tuple #[.agg #[.int .i64 (fh t.1), .int .u64 (fl t.1)], .agg #[.int .i64 (fh t.2.1), .int .u64 (fl t.2.1)], .int .i64 t.2.2]
theorem st_z2 {p : Int × Int} {k : Int → Int × Int × Int} {es : List Int} {V : Value} (h : pv2 (k p.1) = chz z2e es V) : pv2 (st p k) = chz z2e (p.2 :: es) V := by
  unfold st
  show _ = if p.2 = 0 then chz z2e es V else _
  by_cases c : p.2 = 0
  · rw [if_pos c, if_pos c]; exact h
  · rw [if_neg c, if_neg c]; unfold pv2 z2e; rw [zero_words.1, zero_words.2]
theorem st_zv {p : Int × Int} {k : Int → Int × Int × Int} {es : List Int} {V : Value} (h : pv (k p.1) = chz zve es V) : pv (st p k) = chz zve (p.2 :: es) V := by
  unfold st
  show _ = if p.2 = 0 then chz zve es V else _
  by_cases c : p.2 = 0
  · rw [if_pos c, if_pos c]; exact h
  · rw [if_neg c, if_neg c]; unfold pv zve; rw [zero_words.1, zero_words.2]
theorem st_z1 {p : Int × Int} {k : Int → Int × Int} {es : List Int} {V : Value} (h : pv1 (k p.1) = chz z1e es V) : pv1 (st1 p k) = chz z1e (p.2 :: es) V := by
  unfold st1
  show _ = if p.2 = 0 then chz z1e es V else _
  by_cases c : p.2 = 0
  · rw [if_pos c, if_pos c]; exact h
  · rw [if_neg c, if_neg c]; unfold pv1 z1e; rw [zero_words.1, zero_words.2]
theorem my_0 : My 0 := by unfold My; omega
theorem apn_My (dx dy ep : Int) : My2 (apn dx dy ep) :=
  st_My fun _ => st_My fun _ => by
    unfold st
    split
    · exact ⟨ov_My _, sq_My (ov_My _)⟩
    · exact ⟨my_0, my_0⟩
theorem st1_My {p : Int × Int} {k : Int → Int × Int} (h : p.2 = 0 → My (k p.1).1) : My (st1 p k).1 := by
  unfold st1
  split
  · exact h (by assumption)
  · exact my_0
theorem strn_My (g a b h : Int) : My (strn g a b h).1 := st1_My fun _ => st1_My fun _ => st1_My fun _ => ov_My _
theorem apart_any (dx dy ep : Int) (hx : My dx) (hy : My dy) (he : My ep) (w : World) :
    Calls Try.prog 21 #[.agg #[.int .i64 (fh dx), .int .u64 (fl dx), .int .i64 (fh dy), .int .u64 (fl dy)], .agg #[.int .i64 (fh ep), .int .u64 (fl ep)]] w fun e w' => e = .returned (pv2 (apn dx dy ep)) ∧ Below w.heap.size w w' := by
  have q := ov_My (dv (mulr dx dx) (mulr dy dy) + ov (mulr ep ep))
  have C := apart_core _ _ _ _ _ _ _ _ _ _ _ _ _ _ _ _ _ _ w (vlen2_any dx dy hx hy) (fmul_any ep ep he he) (fadd_any _ _ (dv_My _ _) (ov_My _)) (fsq_any _ q)
  have e : pv2 (apn dx dy ep) = chz z2e [de (mulr dx dx) (mulr dy dy), oe (mulr ep ep), oe (dv (mulr dx dx) (mulr dy dy) + ov (mulr ep ep))] (pv2 (ov (dv (mulr dx dx) (mulr dy dy) + ov (mulr ep ep)), sq (ov (dv (mulr dx dx) (mulr dy dy) + ov (mulr ep ep))))) := st_z2 (st_z2 (st_z2 rfl))
  rw [e]; exact C
theorem strength_any (g a b h : Int) (hg : My g) (ha : My a) (hb : My b) (hh : My h) (w : World) :
    Calls Try.prog 22 #[.agg #[.int .i64 (fh g), .int .u64 (fl g)], .agg #[.int .i64 (fh a), .int .u64 (fl a)], .agg #[.int .i64 (fh b), .int .u64 (fl b)], .agg #[.int .i64 (fh h), .int .u64 (fl h)]] w fun e w' => e = .returned (pv1 (strn g a b h)) ∧ Below w.heap.size w w' := by
  have C := strength_core _ _ _ _ _ _ _ _ _ _ _ _ _ _ _ _ _ w (fun W B => grown_any B a b ha hb W) (fun W B => grown_any B (ov (mulr a b)) g (ov_My _) hg W) (fun W B => grown_any B (ov (mulr (ov (mulr a b)) g)) h (ov_My _) hh W)
  have e : pv1 (strn g a b h) = chz z1e [oe (mulr a b), oe (mulr (ov (mulr a b)) g), oe (mulr (ov (mulr (ov (mulr a b)) g)) h)] (pv1 (ov (mulr (ov (mulr (ov (mulr a b)) g)) h), 0)) := st_z1 (st_z1 (st_z1 rfl))
  rw [e]; exact C
/-- The document's steps, as the program makes them. -/
theorem pul_prog_num (g a b dx dy ep h : Int) : pul g a b dx dy ep h = st ((apn dx dy ep).1, (apn dx dy ep).2.2) fun r2 => st (strn g a b h) fun m => pulk m dx dy r2 (apn dx dy ep).2.1 := by
  have em : ∀ r2 r, pulm g a b dx dy h r2 r = st (strn g a b h) fun m => pulk m dx dy r2 r := fun r2 r => by
    unfold pulm strn st1
    have c : ∀ m, mu g m = mu m g := fun m => by unfold mu; rw [mulr_comm]
    simp only [c]
    by_cases h1 : (mu a b).2 = 0
    · by_cases h2 : (mu (mu a b).1 g).2 = 0
      · by_cases h3 : (mu (mu (mu a b).1 g).1 h).2 = 0 <;> simp [st, h1, h2, h3]
      · simp [st, h1, h2]
    · simp [st, h1]
  unfold pul apn
  simp only [em]
  by_cases h1 : de (mulr dx dx) (mulr dy dy) = 0
  · by_cases h2 : (mu ep ep).2 = 0
    · by_cases h3 : (ad (dv (mulr dx dx) (mulr dy dy)) (mu ep ep).1).2 = 0 <;> simp [st, h1, h2, h3]
    · simp [st, h1, h2]
  · simp [st, h1]
/-- What the program's Pull comes to. -/
theorem pul_prog : PulT := fun g a b dx dy ep h hg ha hb hdx hdy hep hh W => by
  obtain ⟨q1, q2⟩ := apn_My dx dy ep
  have m1 := strn_My g a b h
  have k1 := di_My (strn g a b h).1 (apn dx dy ep).1
  have j1 := di_My (di (strn g a b h).1 (apn dx dy ep).1).1 (apn dx dy ep).2.1
  have C := pull_core _ _ _ _ _ _ _ _ _ _ _ _ _ _ _ _ _ _ _ _ _ _ _ _ _ _ _ _ _ _ _ _ _ W (apart_any dx dy ep hdx hdy hep) (strength_any g a b h hg ha hb hh) (fdi_any _ _ m1 q1) (fdi_any _ _ k1 q2) (vscale_any dx dy _ hdx hdy j1)
  rw [pul_prog_num]
  have e : pv (st ((apn dx dy ep).1, (apn dx dy ep).2.2) fun r2 => st (strn g a b h) fun m => pulk m dx dy r2 (apn dx dy ep).2.1) = chz zve [(apn dx dy ep).2.2, (strn g a b h).2, (di (strn g a b h).1 (apn dx dy ep).1).2, (di (di (strn g a b h).1 (apn dx dy ep).1).1 (apn dx dy ep).2.1).2] _ := st_zv (st_zv (st_zv (st_zv rfl)))
  rw [e]; exact C
end Go.Proofs.Ytmmlekgojblopaa
