/- The law's near: two numbers no farther from one another than this. -/
import Derived.Test.YtmelipbanbihdaaTurnBaseM
import Derived.Test.YtmelipbanbihdaaTurnAnyM
import Derived.Test.YtmelipbanbihdaaRefFix2
namespace Go.Proofs.Ytmelipbanbihdaa
/-- A number between two that are one another turned about. -/
def Bd (a A : Int) : Prop := -A ≤ a ∧ a ≤ A
theorem Bd.add {a b A B : Int} (h : Bd a A) (g : Bd b B) : Bd (a + b) (A + B) := by unfold Bd at *; omega
theorem Bd.sub {a b A B : Int} (h : Bd a A) (g : Bd b B) : Bd (a - b) (A + B) := by unfold Bd at *; omega
theorem Bd.neg {a A : Int} (h : Bd a A) : Bd (-a) A := by unfold Bd at *; omega
theorem Bd.mono {a A B : Int} (h : Bd a A) (g : A ≤ B) : Bd a B := by unfold Bd at *; omega
theorem Bd.mul {a b A B : Int} (h : Bd a A) (g : Bd b B) : Bd (a * b) (A * B) := by
  obtain ⟨h1, h2⟩ := h
  obtain ⟨g1, g2⟩ := g
  have p1 := Int.mul_nonneg (show 0 ≤ A - a by omega) (show 0 ≤ B + b by omega)
  have p2 := Int.mul_nonneg (show 0 ≤ A + a by omega) (show 0 ≤ B - b by omega)
  have p3 := Int.mul_nonneg (show 0 ≤ A - a by omega) (show 0 ≤ B - b by omega)
  have p4 := Int.mul_nonneg (show 0 ≤ A + a by omega) (show 0 ≤ B + b by omega)
  have e1 : (A - a) * (B + b) + (A + a) * (B - b) = 2 * (A * B) - 2 * (a * b) := by grind
  have e2 : (A - a) * (B - b) + (A + a) * (B + b) = 2 * (A * B) + 2 * (a * b) := by grind
  constructor <;> omega
theorem Bd.div {P a K : Int} (hP : 0 < P) (h : Bd (P * a) (P * K)) : Bd a K := by
  obtain ⟨h1, h2⟩ := h
  constructor
  · refine Int.le_of_mul_le_mul_left (a := P) ?_ hP
    rw [Int.mul_neg]; exact h1
  · exact Int.le_of_mul_le_mul_left h2 hP
theorem sq_bd {x N M : Int} (h : x * x ≤ N) (g : N ≤ M * M) (hM : 0 ≤ M) : Bd x M := by
  constructor
  · by_cases c : -M ≤ x
    · exact c
    · have p := Int.mul_nonneg (show 0 ≤ -x - M - 1 by omega) (show 0 ≤ -x + M + 1 by omega)
      have e : (-x - M - 1) * (-x + M + 1) = x * x - M * M - 2 * M - 1 := by grind
      omega
  · by_cases c : x ≤ M
    · exact c
    · have p := Int.mul_nonneg (show 0 ≤ x - M - 1 by omega) (show 0 ≤ x + M + 1 by omega)
      have e : (x - M - 1) * (x + M + 1) = x * x - M * M - 2 * M - 1 := by grind
      omega
theorem mulr_near (x y : Int) : ∃ r, 18446744073709551616 * mulr x y = x * y + r ∧ Bd r 9223372036854775808 := by
  have e := sg_mul2 x y
  refine ⟨18446744073709551616 * mulr x y - x * y, by omega, ?_⟩
  rw [← e]
  unfold mulr sg Bd
  generalize x.natAbs * y.natAbs = n
  split <;> omega
def Tx (x y c s : Int) : Int := mulr x c - mulr y s
def Ty (x y c s : Int) : Int := mulr x s + mulr y c
theorem T_near (x y c s : Int) : ∃ e1 e2, 18446744073709551616 * Tx x y c s = x * c - y * s + e1 ∧ 18446744073709551616 * Ty x y c s = x * s + y * c + e2 ∧ Bd e1 18446744073709551616 ∧ Bd e2 18446744073709551616 := by
  obtain ⟨r1, h1, b1⟩ := mulr_near x c
  obtain ⟨r2, h2, b2⟩ := mulr_near y s
  obtain ⟨r3, h3, b3⟩ := mulr_near x s
  obtain ⟨r4, h4, b4⟩ := mulr_near y c
  refine ⟨r1 - r2, r3 + r4, ?_, ?_, b1.sub b2, b3.add b4⟩
  · unfold Tx; omega
  · unfold Ty; omega
/-- A step's length. -/
theorem norm_step {P x y c s x' y' e1 e2 M v G : Int} (hP : 0 < P) (h1 : P * x' = x * c - y * s + e1) (h2 : P * y' = x * s + y * c + e2) (b1 : Bd e1 P) (b2 : Bd e2 P)
    (hx : Bd x M) (hy : Bd y M) (hc : Bd c P) (hs : Bd s P) (hv : c * c + s * s = P * P + v) (bv : Bd v (2 * P)) (hG : (M * M + M * M) * (2 * P) + (P * (M * P + M * P) + P * (M * P + M * P)) + (P * (M * P + M * P) + P * (M * P + M * P)) + (P * P + P * P) ≤ P * (P * (G * P))) :
    Bd (x' * x' + y' * y' - (x * x + y * y)) (G * P) := by
  have e : P * (P * (x' * x' + y' * y' - (x * x + y * y))) = (x * x + y * y) * v + (e1 * (x * c - y * s) + e1 * (x * c - y * s)) + (e2 * (x * s + y * c) + e2 * (x * s + y * c)) + (e1 * e1 + e2 * e2) := by
    have k1 : (P * x') * (P * x') = (x * c - y * s + e1) * (x * c - y * s + e1) := by rw [h1]
    have k2 : (P * y') * (P * y') = (x * s + y * c + e2) * (x * s + y * c + e2) := by rw [h2]
    have k3 : (x * x + y * y) * (c * c + s * s) = (x * x + y * y) * (P * P + v) := by rw [hv]
    grind
  have t1 := ((hx.mul hx).add (hy.mul hy)).mul bv
  have t2 := b1.mul ((hx.mul hc).sub (hy.mul hs))
  have t3 := b2.mul ((hx.mul hs).add (hy.mul hc))
  have t4 := (b1.mul b1).add (b2.mul b2)
  have t := ((t1.add (t2.add t2)).add (t3.add t3)).add t4
  rw [← e] at t
  exact Bd.div hP (Bd.div hP (t.mono hG))
/-- One turned further, the other not. -/
theorem comp_one {P E a b c d p q C S a' b' p' q' e1 e2 f1 f2 : Int} (hP : 0 < P) (h1 : P * a' = a * C - b * S + e1) (h2 : P * b' = a * S + b * C + e2) (h3 : P * p' = p * C - q * S + f1) (h4 : P * q' = p * S + q * C + f2)
    (b1 : Bd e1 P) (b2 : Bd e2 P) (b3 : Bd f1 P) (b4 : Bd f2 P) (hc : Bd c (2 * P)) (hd : Bd d (2 * P)) (hC : Bd C P) (hS : Bd S P)
    (r1 : Bd (a * c - b * d - P * p) (E * P)) (r2 : Bd (a * d + b * c - P * q) (E * P)) :
    Bd (a' * c - b' * d - P * p') ((2 * E + 5) * P) ∧ Bd (a' * d + b' * c - P * q') ((2 * E + 5) * P) := by
  have hPb : Bd P P := ⟨by omega, Int.le_refl _⟩
  have i1 : P * (a' * c - b' * d - P * p') = C * (a * c - b * d - P * p) - S * (a * d + b * c - P * q) + e1 * c - e2 * d - P * f1 := by
    have k1 : (P * a') * c = (a * C - b * S + e1) * c := by rw [h1]
    have k2 : (P * b') * d = (a * S + b * C + e2) * d := by rw [h2]
    have k3 : P * (P * p') = P * (p * C - q * S + f1) := by rw [h3]
    grind
  have i2 : P * (a' * d + b' * c - P * q') = S * (a * c - b * d - P * p) + C * (a * d + b * c - P * q) + e1 * d + e2 * c - P * f2 := by
    have k1 : (P * a') * d = (a * C - b * S + e1) * d := by rw [h1]
    have k2 : (P * b') * c = (a * S + b * C + e2) * c := by rw [h2]
    have k3 : P * (P * q') = P * (p * S + q * C + f2) := by rw [h4]
    grind
  have t1 := ((((hC.mul r1).sub (hS.mul r2)).add (b1.mul hc)).sub (b2.mul hd)).sub (hPb.mul b3)
  have t2 := ((((hS.mul r1).add (hC.mul r2)).add (b1.mul hd)).add (b2.mul hc)).sub (hPb.mul b4)
  rw [← i1] at t1
  rw [← i2] at t2
  have eq : P * (E * P) + P * (E * P) + P * (2 * P) + P * (2 * P) + P * P = P * ((2 * E + 5) * P) := by grind
  rw [eq] at t1 t2
  exact ⟨Bd.div hP t1, Bd.div hP t2⟩
/-- Both turned further: twice half an angle. -/
theorem comp_two {P E D a b c d p q C S C0 S0 a' b' c' d' p2 q2 e1 e2 g1 g2 : Int} (hP : 0 < P) (h1 : P * a' = a * C - b * S + e1) (h2 : P * b' = a * S + b * C + e2) (h3 : P * c' = c * C - d * S + g1) (h4 : P * d' = c * S + d * C + g2)
    (b1 : Bd e1 P) (b2 : Bd e2 P) (b3 : Bd g1 P) (b4 : Bd g2 P) (ha : Bd a (2 * P)) (hb : Bd b (2 * P)) (hc : Bd c (2 * P)) (hd : Bd d (2 * P)) (hp : Bd p (2 * P)) (hq : Bd q (2 * P)) (hC : Bd C P) (hS : Bd S P) (hC0 : Bd C0 P) (hS0 : Bd S0 P)
    (r1 : Bd (a * c - b * d - P * p) (E * P)) (r2 : Bd (a * d + b * c - P * q) (E * P)) (d1 : Bd (C * C - S * S - P * C0) (D * P)) (d2 : Bd (2 * (C * S) - P * S0) (D * P))
    (t1 : Bd (p * C0 - q * S0 - P * p2) (E * P)) (t2 : Bd (p * S0 + q * C0 - P * q2) (E * P)) (hED : 2 * (E * D) + 2 ≤ 2 * P) :
    Bd (a' * c' - b' * d' - P * p2) ((3 * E + 4 * D + 18) * P) ∧ Bd (a' * d' + b' * c' - P * q2) ((3 * E + 4 * D + 18) * P) := by
  have hPb : Bd P P := ⟨by omega, Int.le_refl _⟩
  have i1 : P * (P * (a' * c' - b' * d' - P * p2)) = P * (P * (p * C0 - q * S0 - P * p2)) + P * (p * (C * C - S * S - P * C0) - q * (2 * (C * S) - P * S0)) + P * ((a * c - b * d - P * p) * C0 - (a * d + b * c - P * q) * S0)
      + ((a * c - b * d - P * p) * (C * C - S * S - P * C0) - (a * d + b * c - P * q) * (2 * (C * S) - P * S0)) + (e1 * (c * C - d * S) - e2 * (c * S + d * C)) + (g1 * (a * C - b * S) - g2 * (a * S + b * C)) + (e1 * g1 - e2 * g2) := by
    have k1 : (P * a') * (P * c') = (a * C - b * S + e1) * (c * C - d * S + g1) := by rw [h1, h3]
    have k2 : (P * b') * (P * d') = (a * S + b * C + e2) * (c * S + d * C + g2) := by rw [h2, h4]
    clear h1 h2 h3 h4
    grind
  have i2 : P * (P * (a' * d' + b' * c' - P * q2)) = P * (P * (p * S0 + q * C0 - P * q2)) + P * (p * (2 * (C * S) - P * S0) + q * (C * C - S * S - P * C0)) + P * ((a * c - b * d - P * p) * S0 + (a * d + b * c - P * q) * C0)
      + ((a * c - b * d - P * p) * (2 * (C * S) - P * S0) + (a * d + b * c - P * q) * (C * C - S * S - P * C0)) + (e1 * (c * S + d * C) + e2 * (c * C - d * S)) + (g2 * (a * C - b * S) + g1 * (a * S + b * C)) + (e1 * g2 + e2 * g1) := by
    have k1 : (P * a') * (P * d') = (a * C - b * S + e1) * (c * S + d * C + g2) := by rw [h1, h4]
    have k2 : (P * b') * (P * c') = (a * S + b * C + e2) * (c * C - d * S + g1) := by rw [h2, h3]
    clear h1 h2 h3 h4
    grind
  clear h1 h2 h3 h4
  have u1 := (((((hPb.mul (hPb.mul t1)).add (hPb.mul ((hp.mul d1).sub (hq.mul d2)))).add (hPb.mul ((r1.mul hC0).sub (r2.mul hS0)))).add ((r1.mul d1).sub (r2.mul d2))).add ((b1.mul ((hc.mul hC).sub (hd.mul hS))).sub (b2.mul ((hc.mul hS).add (hd.mul hC))))).add ((b3.mul ((ha.mul hC).sub (hb.mul hS))).sub (b4.mul ((ha.mul hS).add (hb.mul hC)))) |>.add ((b1.mul b3).sub (b2.mul b4))
  have u2 := (((((hPb.mul (hPb.mul t2)).add (hPb.mul ((hp.mul d2).add (hq.mul d1)))).add (hPb.mul ((r1.mul hS0).add (r2.mul hC0)))).add ((r1.mul d2).add (r2.mul d1))).add ((b1.mul ((hc.mul hS).add (hd.mul hC))).add (b2.mul ((hc.mul hC).sub (hd.mul hS))))).add ((b4.mul ((ha.mul hC).sub (hb.mul hS))).add (b3.mul ((ha.mul hS).add (hb.mul hC)))) |>.add ((b1.mul b4).add (b2.mul b3))
  rw [← i1] at u1
  rw [← i2] at u2
  have hPP := Int.mul_nonneg (show 0 ≤ P by omega) (show 0 ≤ P by omega)
  have hm := Int.mul_le_mul_of_nonneg_left hED hPP
  have le : P * (P * (E * P)) + P * (2 * P * (D * P) + 2 * P * (D * P)) + P * (E * P * P + E * P * P) + (E * P * (D * P) + E * P * (D * P)) + (P * (2 * P * P + 2 * P * P) + P * (2 * P * P + 2 * P * P)) + (P * (2 * P * P + 2 * P * P) + P * (2 * P * P + 2 * P * P)) + (P * P + P * P) ≤ P * (P * ((3 * E + 4 * D + 18) * P)) := by grind
  exact ⟨Bd.div hP (Bd.div hP (u1.mono le)), Bd.div hP (Bd.div hP (u2.mono le))⟩
/-- Any way against the way of one. -/
theorem lin_step {P e M w1 w2 z1 z2 u1 u2 C S w1' w2' u1' u2' e1 e2 f1 f2 K : Int} (hP : 0 < P) (h1 : P * w1' = w1 * C - w2 * S + e1) (h2 : P * w2' = w1 * S + w2 * C + e2) (h3 : P * u1' = u1 * C - u2 * S + f1) (h4 : P * u2' = u1 * S + u2 * C + f2)
    (b1 : Bd e1 P) (b2 : Bd e2 P) (b3 : Bd f1 P) (b4 : Bd f2 P) (hC : Bd C P) (hS : Bd S P) (hz1 : Bd z1 M) (hz2 : Bd z2 M)
    (r1 : Bd (P * w1 - (z1 * u1 - z2 * u2)) (e * P)) (r2 : Bd (P * w2 - (z1 * u2 + z2 * u1)) (e * P)) (hK : 2 * (e * P) + P + 2 * M ≤ K * P) :
    Bd (P * w1' - (z1 * u1' - z2 * u2')) (K * P) ∧ Bd (P * w2' - (z1 * u2' + z2 * u1')) (K * P) := by
  have hPb : Bd P P := ⟨by omega, Int.le_refl _⟩
  have i1 : P * (P * w1' - (z1 * u1' - z2 * u2')) = C * (P * w1 - (z1 * u1 - z2 * u2)) - S * (P * w2 - (z1 * u2 + z2 * u1)) + P * e1 - z1 * f1 + z2 * f2 := by
    have k1 : P * (P * w1') = P * (w1 * C - w2 * S + e1) := by rw [h1]
    have k2 : z1 * (P * u1') = z1 * (u1 * C - u2 * S + f1) := by rw [h3]
    have k3 : z2 * (P * u2') = z2 * (u1 * S + u2 * C + f2) := by rw [h4]
    grind
  have i2 : P * (P * w2' - (z1 * u2' + z2 * u1')) = S * (P * w1 - (z1 * u1 - z2 * u2)) + C * (P * w2 - (z1 * u2 + z2 * u1)) + P * e2 - z1 * f2 - z2 * f1 := by
    have k1 : P * (P * w2') = P * (w1 * S + w2 * C + e2) := by rw [h2]
    have k2 : z1 * (P * u2') = z1 * (u1 * S + u2 * C + f2) := by rw [h4]
    have k3 : z2 * (P * u1') = z2 * (u1 * C - u2 * S + f1) := by rw [h3]
    grind
  have t1 := ((((hC.mul r1).sub (hS.mul r2)).add (hPb.mul b1)).sub (hz1.mul b3)).add (hz2.mul b4)
  have t2 := ((((hS.mul r1).add (hC.mul r2)).add (hPb.mul b2)).sub (hz1.mul b4)).sub (hz2.mul b3)
  rw [← i1] at t1
  rw [← i2] at t2
  have hm := Int.mul_le_mul_of_nonneg_left hK (show 0 ≤ P by omega)
  have le : P * (e * P) + P * (e * P) + P * P + M * P + M * P ≤ P * (K * P) := by grind
  exact ⟨Bd.div hP (t1.mono le), Bd.div hP (t2.mono le)⟩
end Go.Proofs.Ytmelipbanbihdaa
namespace Go.Proofs.Ytmelipbanbihdaa
theorem hc_of {x h : Int} {r : Nat} (e : halfr (18446744073709551616 + x) = h) (h1 : r * r ≤ h.toNat * 18446744073709551616) (h2 : h.toNat * 18446744073709551616 < (r + 1) * (r + 1)) : hc x = (r : Int) := by
  unfold hc sqr; rw [e, isq_of h1 h2]
theorem hs_of {x h : Int} {r : Nat} (e : halfr (18446744073709551616 - x) = h) (h1 : r * r ≤ h.toNat * 18446744073709551616) (h2 : h.toNat * 18446744073709551616 < (r + 1) * (r + 1)) : hs x = (r : Int) := by
  unfold hs sqr; rw [e, isq_of h1 h2]
theorem tcos_n0 : tcos 0 = 0 := rfl
theorem tsin_n0 : tsin 0 = 13043817825332782212 := by
  show hs (tcos 0) = _
  rw [tcos_n0]
  exact hs_of (r := 13043817825332782212) (h := 9223372036854775808) (by decide) (by decide) (by decide)
theorem tcos_n1 : tcos 1 = 13043817825332782212 := by
  show hc (tcos 0) = _
  rw [tcos_n0]
  exact hc_of (r := 13043817825332782212) (h := 9223372036854775808) (by decide) (by decide) (by decide)
theorem tsin_n1 : tsin 1 = 7059263338087549766 := by
  show hs (tcos 1) = _
  rw [tcos_n1]
  exact hs_of (r := 7059263338087549766) (h := 2701463124188384702) (by decide) (by decide) (by decide)
theorem tcos_n2 : tcos 2 = 17042569291174129989 := by
  show hc (tcos 1) = _
  rw [tcos_n1]
  exact hc_of (r := 17042569291174129989) (h := 15745280949521166914) (by decide) (by decide) (by decide)
theorem tsin_n2 : tsin 2 = 3598781241489102190 := by
  show hs (tcos 2) = _
  rw [tcos_n2]
  exact hs_of (r := 3598781241489102190) (h := 702087391267710814) (by decide) (by decide) (by decide)
theorem tcos_n3 : tcos 3 = 18092295058859852118 := by
  show hc (tcos 2) = _
  rw [tcos_n2]
  exact hc_of (r := 18092295058859852118) (h := 17744656682441840803) (by decide) (by decide) (by decide)
theorem tsin_n3 : tsin 3 = 1808097102496279522 := by
  show hs (tcos 3) = _
  rw [tcos_n3]
  exact hs_of (r := 1808097102496279522) (h := 177224507424849749) (by decide) (by decide) (by decide)
theorem tcos_n4 : tcos 4 = 18357917958986607856 := by
  show hc (tcos 3) = _
  rw [tcos_n3]
  exact hc_of (r := 18357917958986607856) (h := 18269519566284701867) (by decide) (by decide) (by decide)
theorem tsin_n4 : tsin 4 = 905138830610008564 := by
  show hs (tcos 4) = _
  rw [tcos_n4]
  exact hs_of (r := 905138830610008564) (h := 44413057361471880) (by decide) (by decide) (by decide)
theorem tcos_n5 : tcos 5 = 18424524162600791837 := by
  show hc (tcos 4) = _
  rw [tcos_n4]
  exact hc_of (r := 18424524162600791837) (h := 18402331016348079736) (by decide) (by decide) (by decide)
theorem tsin_n5 : tsin 5 = 452705761816584075 := by
  show hs (tcos 5) = _
  rw [tcos_n5]
  exact hs_of (r := 452705761816584075) (h := 11109955554379890) (by decide) (by decide) (by decide)
theorem tcos_n6 : tcos 6 = 18441188259278644697 := by
  show hc (tcos 5) = _
  rw [tcos_n5]
  exact hc_of (r := 18441188259278644697) (h := 18435634118155171727) (by decide) (by decide) (by decide)
theorem tsin_n6 : tsin 6 = 226369926147403944 := by
  show hs (tcos 6) = _
  rw [tcos_n6]
  exact hs_of (r := 226369926147403944) (h := 2777907215453460) (by decide) (by decide) (by decide)
theorem tcos_n7 : tcos 7 = 18445355067807029947 := by
  show hc (tcos 6) = _
  rw [tcos_n6]
  exact hc_of (r := 18445355067807029947) (h := 18443966166494098157) (by decide) (by decide) (by decide)
theorem tsin_n7 : tsin 7 = 113187093788755799 := by
  show hs (tcos 7) = _
  rw [tcos_n7]
  exact hs_of (r := 113187093788755799) (h := 694502951260835) (by decide) (by decide) (by decide)
theorem tcos_n8 : tcos 8 = 18446396818965434987 := by
  show hc (tcos 7) = _
  rw [tcos_n7]
  exact hc_of (r := 18446396818965434987) (h := 18446049570758290782) (by decide) (by decide) (by decide)
theorem tsin_n8 : tsin 8 = 56593813235639861 := by
  show hs (tcos 8) = _
  rw [tcos_n8]
  exact hs_of (r := 56593813235639861) (h := 173627372058315) (by decide) (by decide) (by decide)
theorem tcos_n9 : tcos 9 = 18446657259819241109 := by
  show hc (tcos 8) = _
  rw [tcos_n8]
  exact hc_of (r := 18446657259819241109) (h := 18446570446337493302) (by decide) (by decide) (by decide)
theorem tsin_n9 : tsin 9 = 28296939910536567 := by
  show hs (tcos 9) = _
  rw [tcos_n9]
  exact hs_of (r := 28296939910536567) (h := 43406945155254) (by decide) (by decide) (by decide)
theorem tcos_n10 : tcos 10 = 18446722370224206390 := by
  show hc (tcos 9) = _
  rw [tcos_n9]
  exact hc_of (r := 18446722370224206390) (h := 18446700666764396363) (by decide) (by decide) (by decide)
theorem tsin_n10 : tsin 10 = 14148474116859560 := by
  show hs (tcos 10) = _
  rw [tcos_n10]
  exact hs_of (r := 14148474116859560) (h := 10851742672613) (by decide) (by decide) (by decide)
theorem tcos_n11 : tcos 11 = 18446738647837417334 := by
  show hc (tcos 10) = _
  rw [tcos_n10]
  exact hc_of (r := 18446738647837417334) (h := 18446733221966879003) (by decide) (by decide) (by decide)
theorem tsin_n11 : tsin 11 = 7074237578628960 := by
  show hs (tcos 11) = _
  rw [tcos_n11]
  exact hs_of (r := 7074237578628960) (h := 2712936067141) (by decide) (by decide) (by decide)
theorem tcos_n12 : tcos 12 = 18446742717241468172 := by
  show hc (tcos 11) = _
  rw [tcos_n11]
  exact hc_of (r := 18446742717241468172) (h := 18446741360773484475) (by decide) (by decide) (by decide)
theorem tsin_n12 : tsin 12 = 3537118854339415 := by
  show hs (tcos 12) = _
  rw [tcos_n12]
  exact hs_of (r := 3537118854339415) (h := 678234041722) (by decide) (by decide) (by decide)
theorem tcos_n13 : tcos 13 = 18446743734592527637 := by
  show hc (tcos 12) = _
  rw [tcos_n12]
  exact hc_of (r := 18446743734592527637) (h := 18446743395475509894) (by decide) (by decide) (by decide)
theorem tsin_n13 : tsin 13 = 1768559435302795 := by
  show hs (tcos 13) = _
  rw [tcos_n13]
  exact hs_of (r := 1768559435302795) (h := 169558511990) (by decide) (by decide) (by decide)
theorem tcos_n14 : tcos 14 = 18446743988930295426 := by
  show hc (tcos 13) = _
  rw [tcos_n13]
  exact hc_of (r := 18446743988930295426) (h := 18446743904151039627) (by decide) (by decide) (by decide)
/-- What the Y of the direction ahead of the first, and of each further one, is. -/
def psin : Nat → Int
  | 0 => 18446744073709551616
  | j + 1 => tsin j
/-- How far a direction twice is from the one ahead; how far two turnings are from one, at most. -/
def dd : Nat → Int
  | 0 => 2
  | 1 => 2
  | 2 => 4
  | 3 => 2
  | 4 => 1
  | 5 => 25
  | 6 => 42
  | 7 => 112
  | 8 => 128
  | 9 => 288
  | 10 => 243
  | 11 => 396
  | 12 => 121
  | 13 => 9957
  | _ + 14 => 0
def ee : Nat → Int
  | 0 => 0
  | 1 => 26
  | 2 => 104
  | 3 => 346
  | 4 => 1064
  | 5 => 3214
  | 6 => 9760
  | 7 => 29466
  | 8 => 88864
  | 9 => 267122
  | 10 => 802536
  | 11 => 2408598
  | 12 => 7227396
  | 13 => 21682690
  | 14 => 65087916
  | _ + 15 => 0
theorem fourteen {j : Nat} (h : j < 14) : j = 0 ∨ j = 1 ∨ j = 2 ∨ j = 3 ∨ j = 4 ∨ j = 5 ∨ j = 6 ∨ j = 7 ∨ j = 8 ∨ j = 9 ∨ j = 10 ∨ j = 11 ∨ j = 12 ∨ j = 13 := by omega
theorem dir_norm (j : Nat) (h : j < 14) : Bd (tcos (j + 1) * tcos (j + 1) + tsin j * tsin j - 18446744073709551616 * 18446744073709551616) (2 * 18446744073709551616) := by
  rcases fourteen h with rfl | rfl | rfl | rfl | rfl | rfl | rfl | rfl | rfl | rfl | rfl | rfl | rfl | rfl
  · rw [tcos_n1, tsin_n0]; unfold Bd; decide
  · rw [tcos_n2, tsin_n1]; unfold Bd; decide
  · rw [tcos_n3, tsin_n2]; unfold Bd; decide
  · rw [tcos_n4, tsin_n3]; unfold Bd; decide
  · rw [tcos_n5, tsin_n4]; unfold Bd; decide
  · rw [tcos_n6, tsin_n5]; unfold Bd; decide
  · rw [tcos_n7, tsin_n6]; unfold Bd; decide
  · rw [tcos_n8, tsin_n7]; unfold Bd; decide
  · rw [tcos_n9, tsin_n8]; unfold Bd; decide
  · rw [tcos_n10, tsin_n9]; unfold Bd; decide
  · rw [tcos_n11, tsin_n10]; unfold Bd; decide
  · rw [tcos_n12, tsin_n11]; unfold Bd; decide
  · rw [tcos_n13, tsin_n12]; unfold Bd; decide
  · rw [tcos_n14, tsin_n13]; unfold Bd; decide
theorem dir_twice (j : Nat) (h : j < 14) : Bd (tcos (j + 1) * tcos (j + 1) - tsin j * tsin j - 18446744073709551616 * tcos j) (dd j * 18446744073709551616) ∧ Bd (2 * (tcos (j + 1) * tsin j) - 18446744073709551616 * psin j) (dd j * 18446744073709551616) := by
  rcases fourteen h with rfl | rfl | rfl | rfl | rfl | rfl | rfl | rfl | rfl | rfl | rfl | rfl | rfl | rfl
  · rw [show psin 0 = 18446744073709551616 from rfl, tcos_n1, tsin_n0, tcos_n0]; unfold Bd dd; decide
  · rw [show psin 1 = tsin 0 from rfl, tsin_n0, tcos_n2, tsin_n1, tcos_n1]; unfold Bd dd; decide
  · rw [show psin 2 = tsin 1 from rfl, tsin_n1, tcos_n3, tsin_n2, tcos_n2]; unfold Bd dd; decide
  · rw [show psin 3 = tsin 2 from rfl, tsin_n2, tcos_n4, tsin_n3, tcos_n3]; unfold Bd dd; decide
  · rw [show psin 4 = tsin 3 from rfl, tsin_n3, tcos_n5, tsin_n4, tcos_n4]; unfold Bd dd; decide
  · rw [show psin 5 = tsin 4 from rfl, tsin_n4, tcos_n6, tsin_n5, tcos_n5]; unfold Bd dd; decide
  · rw [show psin 6 = tsin 5 from rfl, tsin_n5, tcos_n7, tsin_n6, tcos_n6]; unfold Bd dd; decide
  · rw [show psin 7 = tsin 6 from rfl, tsin_n6, tcos_n8, tsin_n7, tcos_n7]; unfold Bd dd; decide
  · rw [show psin 8 = tsin 7 from rfl, tsin_n7, tcos_n9, tsin_n8, tcos_n8]; unfold Bd dd; decide
  · rw [show psin 9 = tsin 8 from rfl, tsin_n8, tcos_n10, tsin_n9, tcos_n9]; unfold Bd dd; decide
  · rw [show psin 10 = tsin 9 from rfl, tsin_n9, tcos_n11, tsin_n10, tcos_n10]; unfold Bd dd; decide
  · rw [show psin 11 = tsin 10 from rfl, tsin_n10, tcos_n12, tsin_n11, tcos_n11]; unfold Bd dd; decide
  · rw [show psin 12 = tsin 11 from rfl, tsin_n11, tcos_n13, tsin_n12, tcos_n12]; unfold Bd dd; decide
  · rw [show psin 13 = tsin 12 from rfl, tsin_n12, tcos_n14, tsin_n13, tcos_n13]; unfold Bd dd; decide
theorem ee_facts (j : Nat) (h : j < 14) : 3 * ee j + 4 * dd j + 18 ≤ ee (j + 1) ∧ 2 * ee j + 5 ≤ ee (j + 1) ∧ ee j ≤ ee (j + 1) ∧ 2 * (ee j * dd j) + 2 ≤ 2 * 18446744073709551616 := by
  rcases fourteen h with rfl | rfl | rfl | rfl | rfl | rfl | rfl | rfl | rfl | rfl | rfl | rfl | rfl | rfl <;> (unfold ee dd; decide)
end Go.Proofs.Ytmelipbanbihdaa
namespace Go.Proofs.Ytmelipbanbihdaa
/-- The lower bits, where no step is beyond the numbers. -/
def rp (A : Nat) : Nat → Int → Int → Int → Int × Int
  | 0, _, x, y => (x, y)
  | k + 1, c, x, y => if A / 2 ^ k % 2 = 1 then rp A k (hc c) (Tx x y (hc c) (hs c)) (Ty x y (hc c) (hs c)) else rp A k (hc c) x y
theorem In1.bd {x : Int} (h : In1 x) : Bd x 18446744073709551616 := by unfold In1 at h; unfold Bd; omega
theorem mulr_bd {x c M : Int} (hx : Bd x M) (hc : In1 c) : Bd (mulr x c) (M + 1) := by
  obtain ⟨r, h, b⟩ := mulr_near x c
  have t := (hx.mul hc.bd).add b
  rw [← h] at t
  refine Bd.div (P := 18446744073709551616) (by decide) (t.mono ?_)
  omega
theorem te_zero {x y c s M : Int} (hx : Bd x M) (hy : Bd y M) (hc : In1 c) (hs : In1 s) (hM : M ≤ 1267650600228229401496703205376) : te x y c s = 0 ∧ tx x y c s = Tx x y c s ∧ ty x y c s = Ty x y c s := by
  have b1 := mulr_bd hx hc; have b2 := mulr_bd hy hs; have b3 := mulr_bd hx hs; have b4 := mulr_bd hy hc
  have m1 : My (mulr x c) := by unfold Bd at b1; unfold My; omega
  have m2 : My (mulr y s) := by unfold Bd at b2; unfold My; omega
  have m3 : My (mulr x s) := by unfold Bd at b3; unfold My; omega
  have m4 : My (mulr y c) := by unfold Bd at b4; unfold My; omega
  have e1 : tp x y c s = Tx x y c s := by unfold tp Tx; rw [ov_in m1, ov_in m2]
  have e2 : tq x y c s = Ty x y c s := by unfold tq Ty; rw [ov_in m3, ov_in m4]
  have m5 : My (tp x y c s) := by rw [e1]; unfold Tx; unfold Bd at b1 b2; unfold My; omega
  have m6 : My (tq x y c s) := by rw [e2]; unfold Ty; unfold Bd at b3 b4; unfold My; omega
  rcases te_cases x y c s with ⟨h, _, g1, g2⟩ | ⟨_, n, _⟩
  · exact ⟨h, g1.trans e1, g2.trans e2⟩
  · exact absurd ⟨oe_in m1, oe_in m2, oe_in m3, oe_in m4, oe_in m5, oe_in m6⟩ n
theorem sq_nn (x : Int) : 0 ≤ x * x := by
  rcases Int.le_total 0 x with h | h
  · exact Int.mul_nonneg h h
  · have := Int.mul_nonneg (show 0 ≤ -x by omega) (show 0 ≤ -x by omega)
    rw [Int.neg_mul_neg] at this; exact this
theorem T_norm {x y M G : Int} (hM0 : 0 ≤ M) (hG : (M * M + M * M) * (2 * 18446744073709551616) + (18446744073709551616 * (M * 18446744073709551616 + M * 18446744073709551616) + 18446744073709551616 * (M * 18446744073709551616 + M * 18446744073709551616)) + (18446744073709551616 * (M * 18446744073709551616 + M * 18446744073709551616) + 18446744073709551616 * (M * 18446744073709551616 + M * 18446744073709551616)) + (18446744073709551616 * 18446744073709551616 + 18446744073709551616 * 18446744073709551616) ≤ 18446744073709551616 * (18446744073709551616 * (G * 18446744073709551616)))
    {j : Nat} (hj : j < 14) (hN : x * x + y * y ≤ M * M) :
    Bd (Tx x y (tcos (j + 1)) (tsin j) * Tx x y (tcos (j + 1)) (tsin j) + Ty x y (tcos (j + 1)) (tsin j) * Ty x y (tcos (j + 1)) (tsin j) - (x * x + y * y)) (G * 18446744073709551616) := by
  obtain ⟨e1, e2, h1, h2, b1, b2⟩ := T_near x y (tcos (j + 1)) (tsin j)
  have px := sq_nn x; have py := sq_nn y
  have hv := dir_norm j hj
  exact norm_step (by decide) h1 h2 b1 b2 (sq_bd (N := x * x + y * y) (by omega) hN hM0) (sq_bd (N := x * x + y * y) (by omega) hN hM0) (tcos_in (j + 1)).bd (tsin_in j).bd
    (v := tcos (j + 1) * tcos (j + 1) + tsin j * tsin j - 18446744073709551616 * 18446744073709551616) (by omega) hv hG
theorem rot_pure {M G : Int} (hM : M ≤ 1267650600228229401496703205376) (hM0 : 0 ≤ M) (hG0 : 0 ≤ G) (hG : (M * M + M * M) * (2 * 18446744073709551616) + (18446744073709551616 * (M * 18446744073709551616 + M * 18446744073709551616) + 18446744073709551616 * (M * 18446744073709551616 + M * 18446744073709551616)) + (18446744073709551616 * (M * 18446744073709551616 + M * 18446744073709551616) + 18446744073709551616 * (M * 18446744073709551616 + M * 18446744073709551616)) + (18446744073709551616 * 18446744073709551616 + 18446744073709551616 * 18446744073709551616) ≤ 18446744073709551616 * (18446744073709551616 * (G * 18446744073709551616))) (A : Nat) :
    ∀ (k j : Nat) (x y : Int), k + j = 14 → x * x + y * y + (k : Int) * (G * 18446744073709551616) ≤ M * M →
      rot A k (tcos j) x y = ((rp A k (tcos j) x y).1, (rp A k (tcos j) x y).2, 0) ∧ Bd ((rp A k (tcos j) x y).1 * (rp A k (tcos j) x y).1 + (rp A k (tcos j) x y).2 * (rp A k (tcos j) x y).2 - (x * x + y * y)) ((k : Int) * (G * 18446744073709551616)) := by
  have hGP : 0 ≤ G * 18446744073709551616 := by omega
  intro k
  induction k with
  | zero =>
    intro j x y _ _
    refine ⟨rfl, ?_⟩
    show Bd (x * x + y * y - (x * x + y * y)) _
    unfold Bd; omega
  | succ k ih =>
    intro j x y hk hN
    have ek : ((k + 1 : Nat) : Int) * (G * 18446744073709551616) = (k : Int) * (G * 18446744073709551616) + G * 18446744073709551616 := by
      rw [Int.natCast_add, Int.add_mul]; omega
    have hk0 := Int.mul_nonneg (Int.natCast_nonneg k) hGP
    rw [ek] at hN ⊢
    have px := sq_nn x; have py := sq_nn y
    by_cases hb : A / 2 ^ k % 2 = 1
    · have T := T_norm hM0 hG (j := j) (by omega) (x := x) (y := y) (by omega)
      have bx : Bd x M := sq_bd (N := x * x + y * y) (by omega) (by omega) hM0
      have b_y : Bd y M := sq_bd (N := x * x + y * y) (by omega) (by omega) hM0
      obtain ⟨z1, z2, z3⟩ := te_zero bx b_y (tcos_in (j + 1)) (tsin_in j) hM
      obtain ⟨i1, i2⟩ := ih (j + 1) (Tx x y (tcos (j + 1)) (tsin j)) (Ty x y (tcos (j + 1)) (tsin j)) (by omega) (by unfold Bd at T; omega)
      have r1 : rot A (k + 1) (tcos j) x y = rot A k (tcos (j + 1)) (Tx x y (tcos (j + 1)) (tsin j)) (Ty x y (tcos (j + 1)) (tsin j)) := by
        have h := rot_on (c := tcos j) (x := x) (y := y) hb z1
        have z2' : tx x y (hc (tcos j)) (hs (tcos j)) = Tx x y (tcos (j + 1)) (tsin j) := z2
        have z3' : ty x y (hc (tcos j)) (hs (tcos j)) = Ty x y (tcos (j + 1)) (tsin j) := z3
        rw [z2', z3'] at h
        exact h
      have r2 : rp A (k + 1) (tcos j) x y = rp A k (tcos (j + 1)) (Tx x y (tcos (j + 1)) (tsin j)) (Ty x y (tcos (j + 1)) (tsin j)) := by
        show (if A / 2 ^ k % 2 = 1 then _ else _) = _
        rw [if_pos hb]; rfl
      rw [r1, r2]
      refine ⟨i1, ?_⟩
      unfold Bd at *; omega
    · obtain ⟨i1, i2⟩ := ih (j + 1) x y (by omega) (by omega)
      have r2 : rp A (k + 1) (tcos j) x y = rp A k (tcos (j + 1)) x y := by
        show (if A / 2 ^ k % 2 = 1 then _ else _) = _
        rw [if_neg hb]; rfl
      rw [rot_off hb, r2]
      refine ⟨i1, ?_⟩
      unfold Bd at *; omega
/-- The way of one at an angle of j bits below the quarters. -/
def up : Nat → Nat → Int × Int
  | 0, m => qt (m % 4) 18446744073709551616 0
  | j + 1, m => if m % 2 = 1 then (Tx (up j (m / 2)).1 (up j (m / 2)).2 (tcos (j + 1)) (tsin j), Ty (up j (m / 2)).1 (up j (m / 2)).2 (tcos (j + 1)) (tsin j)) else up j (m / 2)
theorem up_on {j m : Nat} (h : m % 2 = 1) : up (j + 1) m = (Tx (up j (m / 2)).1 (up j (m / 2)).2 (tcos (j + 1)) (tsin j), Ty (up j (m / 2)).1 (up j (m / 2)).2 (tcos (j + 1)) (tsin j)) := by
  show (if m % 2 = 1 then _ else _) = _
  rw [if_pos h]
theorem up_off {j m : Nat} (h : ¬ m % 2 = 1) : up (j + 1) m = up j (m / 2) := by
  show (if m % 2 = 1 then _ else _) = _
  rw [if_neg h]
theorem four_of (m : Nat) : m % 4 = 0 ∨ m % 4 = 1 ∨ m % 4 = 2 ∨ m % 4 = 3 := by omega
theorem up_norm : ∀ (j m : Nat), j ≤ 14 → Bd ((up j m).1 * (up j m).1 + (up j m).2 * (up j m).2 - 18446744073709551616 * 18446744073709551616) ((j : Int) * (33 * 18446744073709551616)) := by
  intro j
  induction j with
  | zero =>
    intro m _
    show Bd ((qt (m % 4) 18446744073709551616 0).1 * (qt (m % 4) 18446744073709551616 0).1 + (qt (m % 4) 18446744073709551616 0).2 * (qt (m % 4) 18446744073709551616 0).2 - _) _
    rcases four_of m with h | h | h | h <;> rw [h] <;> (unfold Bd; decide)
  | succ j ih =>
    intro m hj
    have ek : ((j + 1 : Nat) : Int) * (33 * 18446744073709551616) = (j : Int) * (33 * 18446744073709551616) + 33 * 18446744073709551616 := by omega
    rw [ek]
    have i := ih (m / 2) (by omega)
    by_cases h : m % 2 = 1
    · rw [up_on h]
      have T := T_norm (M := 36893488147419103232) (G := 33) (by decide) (by decide) (j := j) (by omega) (x := (up j (m / 2)).1) (y := (up j (m / 2)).2) (by unfold Bd at i; omega)
      unfold Bd at *; dsimp only; omega
    · rw [up_off h]
      unfold Bd at *; omega
theorem up_bd {j : Nat} (h : j ≤ 14) (m : Nat) : Bd (up j m).1 (2 * 18446744073709551616) ∧ Bd (up j m).2 (2 * 18446744073709551616) := by
  have n := up_norm j m h
  have px := sq_nn (up j m).1; have py := sq_nn (up j m).2
  constructor
  · exact sq_bd (N := (up j m).1 * (up j m).1 + (up j m).2 * (up j m).2) (by omega) (by unfold Bd at n; omega) (by decide)
  · exact sq_bd (N := (up j m).1 * (up j m).1 + (up j m).2 * (up j m).2) (by omega) (by unfold Bd at n; omega) (by decide)
theorem mulr_one (x : Int) : mulr 18446744073709551616 x = x := by
  obtain ⟨r, h, b⟩ := mulr_near 18446744073709551616 x
  unfold Bd at b; omega
theorem mulr_zero (x : Int) : mulr 0 x = 0 := by
  obtain ⟨r, h, b⟩ := mulr_near 0 x
  rw [Int.zero_mul] at h
  unfold Bd at b; omega
theorem up_zero (j : Nat) : up j 0 = (18446744073709551616, 0) := by
  induction j with
  | zero => rfl
  | succ j ih => rw [up_off (by decide)]; exact ih
theorem up_one (j : Nat) : up j 1 = (tcos j, psin j) := by
  cases j with
  | zero => rfl
  | succ j =>
    rw [up_on (by decide), show 1 / 2 = 0 from rfl, up_zero]
    unfold Tx Ty
    rw [mulr_one, mulr_one, mulr_zero, mulr_zero]
    show (_, _) = (tcos (j + 1), tsin j)
    rw [Int.sub_zero, Int.add_zero]
theorem psin_bd {j : Nat} : Bd (psin j) 18446744073709551616 := by
  cases j with
  | zero => exact ⟨by decide, by decide⟩
  | succ j => exact (tsin_in j).bd
/-- Two turnings are one, nearly. -/
theorem up_comp : ∀ (j : Nat), j ≤ 14 → ∀ m n : Nat,
    Bd ((up j m).1 * (up j n).1 - (up j m).2 * (up j n).2 - 18446744073709551616 * (up j (m + n)).1) (ee j * 18446744073709551616) ∧
    Bd ((up j m).1 * (up j n).2 + (up j m).2 * (up j n).1 - 18446744073709551616 * (up j (m + n)).2) (ee j * 18446744073709551616) := by
  intro j
  induction j with
  | zero =>
    intro _ m n
    show Bd ((qt (m % 4) 18446744073709551616 0).1 * (qt (n % 4) 18446744073709551616 0).1 - (qt (m % 4) 18446744073709551616 0).2 * (qt (n % 4) 18446744073709551616 0).2 - 18446744073709551616 * (qt ((m + n) % 4) 18446744073709551616 0).1) _ ∧
      Bd ((qt (m % 4) 18446744073709551616 0).1 * (qt (n % 4) 18446744073709551616 0).2 + (qt (m % 4) 18446744073709551616 0).2 * (qt (n % 4) 18446744073709551616 0).1 - 18446744073709551616 * (qt ((m + n) % 4) 18446744073709551616 0).2) _
    have e : (m + n) % 4 = (m % 4 + n % 4) % 4 := by omega
    rw [e]
    rcases four_of m with h | h | h | h <;> rcases four_of n with g | g | g | g <;> rw [h, g] <;> (unfold Bd ee; decide)
  | succ j ih =>
    intro hj m n
    obtain ⟨f1, f2, f3, f4⟩ := ee_facts j (by omega)
    obtain ⟨d1, d2⟩ := dir_twice j (by omega)
    have hC := (tcos_in (j + 1)).bd; have hS := (tsin_in j).bd
    have one : ∀ m n : Nat, m % 2 = 1 → ¬ n % 2 = 1 →
        Bd ((up (j + 1) m).1 * (up (j + 1) n).1 - (up (j + 1) m).2 * (up (j + 1) n).2 - 18446744073709551616 * (up (j + 1) (m + n)).1) (ee (j + 1) * 18446744073709551616) ∧
        Bd ((up (j + 1) m).1 * (up (j + 1) n).2 + (up (j + 1) m).2 * (up (j + 1) n).1 - 18446744073709551616 * (up (j + 1) (m + n)).2) (ee (j + 1) * 18446744073709551616) := by
      intro m n hm hn
      rw [up_on hm, up_off hn, up_on (m := m + n) (by omega), show (m + n) / 2 = m / 2 + n / 2 by omega]
      obtain ⟨r1, r2⟩ := ih (by omega) (m / 2) (n / 2)
      obtain ⟨c1, c2⟩ := up_bd (show j ≤ 14 by omega) (n / 2)
      obtain ⟨e1, e2, h1, h2, b1, b2⟩ := T_near (up j (m / 2)).1 (up j (m / 2)).2 (tcos (j + 1)) (tsin j)
      obtain ⟨e3, e4, h3, h4, b3, b4⟩ := T_near (up j (m / 2 + n / 2)).1 (up j (m / 2 + n / 2)).2 (tcos (j + 1)) (tsin j)
      obtain ⟨x1, x2⟩ := comp_one (by decide) h1 h2 h3 h4 b1 b2 b3 b4 c1 c2 hC hS r1 r2
      exact ⟨x1.mono (Int.mul_le_mul_of_nonneg_right f2 (by decide)), x2.mono (Int.mul_le_mul_of_nonneg_right f2 (by decide))⟩
    by_cases hm : m % 2 = 1
    · by_cases hn : n % 2 = 1
      · rw [up_on hm, up_on hn, up_off (m := m + n) (by omega), show (m + n) / 2 = m / 2 + n / 2 + 1 by omega]
        obtain ⟨r1, r2⟩ := ih (by omega) (m / 2) (n / 2)
        obtain ⟨t1, t2⟩ := ih (by omega) (m / 2 + n / 2) 1
        rw [up_one] at t1 t2
        obtain ⟨a1, a2⟩ := up_bd (show j ≤ 14 by omega) (m / 2)
        obtain ⟨c1, c2⟩ := up_bd (show j ≤ 14 by omega) (n / 2)
        obtain ⟨p1, p2⟩ := up_bd (show j ≤ 14 by omega) (m / 2 + n / 2)
        obtain ⟨e1, e2, h1, h2, b1, b2⟩ := T_near (up j (m / 2)).1 (up j (m / 2)).2 (tcos (j + 1)) (tsin j)
        obtain ⟨e3, e4, h3, h4, b3, b4⟩ := T_near (up j (n / 2)).1 (up j (n / 2)).2 (tcos (j + 1)) (tsin j)
        obtain ⟨x1, x2⟩ := comp_two (by decide) h1 h2 h3 h4 b1 b2 b3 b4 a1 a2 c1 c2 p1 p2 hC hS (tcos_in j).bd psin_bd r1 r2 d1 d2 t1 t2 f4
        exact ⟨x1.mono (Int.mul_le_mul_of_nonneg_right f1 (by decide)), x2.mono (Int.mul_le_mul_of_nonneg_right f1 (by decide))⟩
      · exact one m n hm hn
    · by_cases hn : n % 2 = 1
      · have h := one n m hn hm
        rw [Nat.add_comm n m, Int.mul_comm (up (j + 1) n).1 (up (j + 1) m).1, Int.mul_comm (up (j + 1) n).2 (up (j + 1) m).2, Int.mul_comm (up (j + 1) n).1 (up (j + 1) m).2, Int.mul_comm (up (j + 1) n).2 (up (j + 1) m).1, Int.add_comm ((up (j + 1) m).2 * (up (j + 1) n).1)] at h
        exact h
      · rw [up_off hm, up_off hn, up_off (m := m + n) (by omega), show (m + n) / 2 = m / 2 + n / 2 by omega]
        obtain ⟨r1, r2⟩ := ih (by omega) (m / 2) (n / 2)
        exact ⟨r1.mono (Int.mul_le_mul_of_nonneg_right f3 (by decide)), r2.mono (Int.mul_le_mul_of_nonneg_right f3 (by decide))⟩
theorem T_across (x y c s : Int) : Tx (-y) x c s = -Ty x y c s ∧ Ty (-y) x c s = Tx x y c s := by
  unfold Tx Ty
  rw [(mulr_turn y c).1, (mulr_turn y s).1]
  constructor <;> omega
theorem qt_T (c s : Int) : ∀ (q : Nat) (x y : Int), qt q (Tx x y c s) (Ty x y c s) = (Tx (qt q x y).1 (qt q x y).2 c s, Ty (qt q x y).1 (qt q x y).2 c s) := by
  intro q
  induction q with
  | zero => intro x y; rfl
  | succ q ih =>
    intro x y
    show qt q (-Ty x y c s) (Tx x y c s) = (Tx (qt q (-y) x).1 (qt q (-y) x).2 c s, Ty (qt q (-y) x).1 (qt q (-y) x).2 c s)
    rw [← ih, (T_across x y c s).1, (T_across x y c s).2]
theorem rp_up (A q : Nat) : ∀ (k j : Nat) (x y : Int), k + j = 14 → qt q x y = up j (A / 2 ^ k) → qt q (rp A k (tcos j) x y).1 (rp A k (tcos j) x y).2 = up 14 A := by
  intro k
  induction k with
  | zero =>
    intro j x y hk h
    obtain rfl : j = 14 := by omega
    rw [show A / 2 ^ 0 = A by rw [Nat.pow_zero, Nat.div_one]] at h
    exact h
  | succ k ih =>
    intro j x y hk h
    have hd : A / 2 ^ (k + 1) = A / 2 ^ k / 2 := by rw [Nat.pow_succ, Nat.div_div_eq_div_mul]
    rw [hd] at h
    by_cases hb : A / 2 ^ k % 2 = 1
    · have r2 : rp A (k + 1) (tcos j) x y = rp A k (tcos (j + 1)) (Tx x y (tcos (j + 1)) (tsin j)) (Ty x y (tcos (j + 1)) (tsin j)) := by
        show (if A / 2 ^ k % 2 = 1 then _ else _) = _
        rw [if_pos hb]; rfl
      rw [r2]
      refine ih (j + 1) _ _ (by omega) ?_
      rw [qt_T, up_on hb, h]
    · have r2 : rp A (k + 1) (tcos j) x y = rp A k (tcos (j + 1)) x y := by
        show (if A / 2 ^ k % 2 = 1 then _ else _) = _
        rw [if_neg hb]; rfl
      rw [r2]
      refine ih (j + 1) _ _ (by omega) ?_
      rw [up_off hb, h]
/-- How far any way is from the way of one, at most, behind each bit. -/
def ln : Nat → Int
  | 0 => 0
  | j + 1 => 2 * ln j + 131073
theorem ln_nn (j : Nat) : 0 ≤ ln j := by
  induction j with
  | zero => decide
  | succ j ih => show 0 ≤ 2 * ln j + 131073; omega
theorem rp_lin (A : Nat) (z1 z2 : Int) (hz1 : Bd z1 (65536 * 18446744073709551616)) (hz2 : Bd z2 (65536 * 18446744073709551616)) : ∀ (k j : Nat) (w1 w2 u1 u2 : Int), k + j = 14 →
    Bd (18446744073709551616 * w1 - (z1 * u1 - z2 * u2)) (ln j * 18446744073709551616) → Bd (18446744073709551616 * w2 - (z1 * u2 + z2 * u1)) (ln j * 18446744073709551616) →
    Bd (18446744073709551616 * (rp A k (tcos j) w1 w2).1 - (z1 * (rp A k (tcos j) u1 u2).1 - z2 * (rp A k (tcos j) u1 u2).2)) (ln 14 * 18446744073709551616) ∧ Bd (18446744073709551616 * (rp A k (tcos j) w1 w2).2 - (z1 * (rp A k (tcos j) u1 u2).2 + z2 * (rp A k (tcos j) u1 u2).1)) (ln 14 * 18446744073709551616) := by
  intro k
  induction k with
  | zero =>
    intro j w1 w2 u1 u2 hk h g
    obtain rfl : j = 14 := by omega
    exact ⟨h, g⟩
  | succ k ih =>
    intro j w1 w2 u1 u2 hk h g
    have n := ln_nn j
    have rr : ∀ x y, rp A (k + 1) (tcos j) x y = if A / 2 ^ k % 2 = 1 then rp A k (tcos (j + 1)) (Tx x y (tcos (j + 1)) (tsin j)) (Ty x y (tcos (j + 1)) (tsin j)) else rp A k (tcos (j + 1)) x y := fun _ _ => rfl
    rw [rr, rr]
    by_cases hb : A / 2 ^ k % 2 = 1
    · rw [if_pos hb, if_pos hb]
      obtain ⟨e1, e2, h1, h2, b1, b2⟩ := T_near w1 w2 (tcos (j + 1)) (tsin j)
      obtain ⟨e3, e4, h3, h4, b3, b4⟩ := T_near u1 u2 (tcos (j + 1)) (tsin j)
      obtain ⟨x1, x2⟩ := lin_step (K := ln (j + 1)) (by decide) h1 h2 h3 h4 b1 b2 b3 b4 (tcos_in (j + 1)).bd (tsin_in j).bd hz1 hz2 h g (by
        show _ ≤ (2 * ln j + 131073) * 18446744073709551616
        omega)
      exact ih (j + 1) _ _ _ _ (by omega) x1 x2
    · rw [if_neg hb, if_neg hb]
      refine ih (j + 1) _ _ _ _ (by omega) (h.mono ?_) (g.mono ?_)
      · show _ ≤ (2 * ln j + 131073) * 18446744073709551616; omega
      · show _ ≤ (2 * ln j + 131073) * 18446744073709551616; omega
theorem qt_lin (z1 z2 K : Int) : ∀ (q : Nat) (w1 w2 u1 u2 : Int), Bd (18446744073709551616 * w1 - (z1 * u1 - z2 * u2)) K → Bd (18446744073709551616 * w2 - (z1 * u2 + z2 * u1)) K →
    Bd (18446744073709551616 * (qt q w1 w2).1 - (z1 * (qt q u1 u2).1 - z2 * (qt q u1 u2).2)) K ∧ Bd (18446744073709551616 * (qt q w1 w2).2 - (z1 * (qt q u1 u2).2 + z2 * (qt q u1 u2).1)) K := by
  intro q
  induction q with
  | zero => intro w1 w2 u1 u2 h g; exact ⟨h, g⟩
  | succ q ih =>
    intro w1 w2 u1 u2 h g
    refine ih (-w2) w1 (-u2) u1 ?_ ?_
    · have e : 18446744073709551616 * -w2 - (z1 * -u2 - z2 * u1) = -(18446744073709551616 * w2 - (z1 * u2 + z2 * u1)) := by grind
      rw [e]; exact g.neg
    · have e : 18446744073709551616 * w1 - (z1 * u1 + z2 * -u2) = 18446744073709551616 * w1 - (z1 * u1 - z2 * u2) := by grind
      rw [e]; exact h
theorem qt_norm : ∀ (q : Nat) (x y : Int), (qt q x y).1 * (qt q x y).1 + (qt q x y).2 * (qt q x y).2 = x * x + y * y := by
  intro q
  induction q with
  | zero => intro x y; rfl
  | succ q ih => intro x y; show (qt q (-y) x).1 * (qt q (-y) x).1 + (qt q (-y) x).2 * (qt q (-y) x).2 = _; rw [ih, Int.neg_mul_neg, Int.add_comm]
/-- What Rotate tells of any way that is not long. -/
theorem turn_pure {M G : Int} (hM : M ≤ 1267650600228229401496703205376) (hM0 : 0 ≤ M) (hG0 : 0 ≤ G) (hG : (M * M + M * M) * (2 * 18446744073709551616) + (18446744073709551616 * (M * 18446744073709551616 + M * 18446744073709551616) + 18446744073709551616 * (M * 18446744073709551616 + M * 18446744073709551616)) + (18446744073709551616 * (M * 18446744073709551616 + M * 18446744073709551616) + 18446744073709551616 * (M * 18446744073709551616 + M * 18446744073709551616)) + (18446744073709551616 * 18446744073709551616 + 18446744073709551616 * 18446744073709551616) ≤ 18446744073709551616 * (18446744073709551616 * (G * 18446744073709551616)))
    (A : Nat) (x y : Int) (hN : x * x + y * y + 14 * (G * 18446744073709551616) ≤ M * M) :
    re A x y = 0 ∧ rx A x y = (qt (A / 16384) (rp A 14 0 x y).1 (rp A 14 0 x y).2).1 ∧ ry A x y = (qt (A / 16384) (rp A 14 0 x y).1 (rp A 14 0 x y).2).2 ∧ Bd (rx A x y * rx A x y + ry A x y * ry A x y - (x * x + y * y)) (14 * (G * 18446744073709551616)) := by
  obtain ⟨h, b⟩ := rot_pure hM hM0 hG0 hG A 14 0 x y rfl hN
  have h' : rot A 14 0 x y = ((rp A 14 0 x y).1, (rp A 14 0 x y).2, 0) := h
  have e1 : rx A x y = (qt (A / 16384) (rp A 14 0 x y).1 (rp A 14 0 x y).2).1 := by unfold rx; rw [h']
  have e2 : ry A x y = (qt (A / 16384) (rp A 14 0 x y).1 (rp A 14 0 x y).2).2 := by unfold ry; rw [h']
  refine ⟨by unfold re; rw [h'], e1, e2, ?_⟩
  rw [e1, e2, qt_norm]
  exact b
end Go.Proofs.Ytmelipbanbihdaa
namespace Go.Proofs.Ytmelipbanbihdaa
open Go.RowKit
set_option maxRecDepth 20000 in
set_option maxHeartbeats 60000000 in
theorem near40_core (ah al bh bl sh sl m1 m0 : Int)  (w : World)
    (C1 : ∀ W, Calls Try.prog 21 #[.agg #[.int .i64 ah, .int .u64 al], .agg #[.int .i64 bh, .int .u64 bl]] W fun e w' => e = .returned (.agg #[.int .i64 sh, .int .u64 sl, .int .i64 0]) ∧ Below W.heap.size W w')
    (C2 : ∀ W, Calls Try.prog 24 #[.agg #[.int .i64 sh, .int .u64 sl]] W fun e w' => e = .returned (.agg #[.int .u64 m1, .int .u64 m0]) ∧ Below W.heap.size W w')
    (C3 : ∀ W, Calls Try.prog 23 #[.agg #[.int .u64 0, .int .u64 1099511627776], .agg #[.int .u64 m1, .int .u64 m0]] W fun e w' => e = .returned (.bool false) ∧ Below W.heap.size W w') :
    Calls Try.prog 28 #[.agg #[.int .i64 ah, .int .u64 al], .agg #[.int .i64 bh, .int .u64 bl], .int .i64 40] w fun e w' => e = .returned (.bool true) ∧ Below w.heap.size w w' := by
  have K1 := Lib.hid C1; have K2 := Lib.hid C2; have K3 := Lib.hid C3
  clear C1 C2 C3
  have wsh : IntKind.u64.wrap 1099511627776 = 1099511627776 := by decide
  go_enter Try.func28, Try.ntmps28
  go_wp2_with fail
  (with_reducible refine (K1.out _).mono ?_); rintro e w1 ⟨rfl, hb⟩; obtain ⟨hclw1, hfrw1⟩ := bcell hb; have zw1_a : w.heap.size < w1.heap.size := (by first | omega | (have hz := hb.size; (try simp at hz); omega)); have yw1_a : w.heap.size < w1.heap.size + 1 := (by omega); have yyw1_a : w.heap.size < w1.heap.size + 1 + 1 := (by omega); have zw1_b : w.heap.size + 1 < w1.heap.size := (by first | omega | (have hz := hb.size; (try simp at hz); omega)); have yw1_b : w.heap.size + 1 < w1.heap.size + 1 := (by omega); have yyw1_b : w.heap.size + 1 < w1.heap.size + 1 + 1 := (by omega); have sxw1_0 : w.heap.size + 1 + 1 ≤ w1.heap.size := (by first | omega | (have hz := hb.size; (try simp at hz); omega)); have HBw1 : Hid (Below w.heap.size w w1) := (bl_trans (by repeat (first | with_reducible exact Below.refl _ _ | with_reducible exact Hid.out (by assumption) | with_reducible refine Below.setCell ?_ (by first | (simp; done) | omega | (simp <;> omega)) _ | with_reducible refine bl_al ?_ _ | with_reducible apply Below.drew)) hb); clear hb
  go_upto_region 2 with fail
  refine name_world (P := fun W => Code.wp _ _ _ _ W) _ (fun R1 hR1 => ?_)
  have zR1_a : w.heap.size < R1.heap.size := by rw [hR1]; first | omega | (simp <;> omega)
  have yR1_a : w.heap.size < R1.heap.size + 1 := by omega
  have yyR1_a : w.heap.size < R1.heap.size + 1 + 1 := by omega
  have cR1_a_0 : R1.cell? ⟨w.heap.size, 0, none⟩ = some (.int .i64 ah) := by rw [hR1]; first | assumption | (simp [go_sem, *]; done)
  have cR1_a_1 : R1.cell? ⟨w.heap.size, 1, none⟩ = some (.int .u64 al) := by rw [hR1]; first | assumption | (simp [go_sem, *]; done)
  have zR1_b : w.heap.size + 1 < R1.heap.size := by rw [hR1]; first | omega | (simp <;> omega)
  have yR1_b : w.heap.size + 1 < R1.heap.size + 1 := by omega
  have yyR1_b : w.heap.size + 1 < R1.heap.size + 1 + 1 := by omega
  have cR1_b_0 : R1.cell? ⟨w.heap.size + 1, 0, none⟩ = some (.int .i64 bh) := by rw [hR1]; first | assumption | (simp [go_sem, *]; done)
  have cR1_b_1 : R1.cell? ⟨w.heap.size + 1, 1, none⟩ = some (.int .u64 bl) := by rw [hR1]; first | assumption | (simp [go_sem, *]; done)
  have zR1_d : w1.heap.size < R1.heap.size := by rw [hR1]; first | omega | (simp <;> omega)
  have yR1_d : w1.heap.size < R1.heap.size + 1 := by omega
  have yyR1_d : w1.heap.size < R1.heap.size + 1 + 1 := by omega
  have cR1_d_0 : R1.cell? ⟨w1.heap.size, 0, none⟩ = some (.int .i64 sh) := by rw [hR1]; first | assumption | (simp [go_sem, *]; done)
  have cR1_d_1 : R1.cell? ⟨w1.heap.size, 1, none⟩ = some (.int .u64 sl) := by rw [hR1]; first | assumption | (simp [go_sem, *]; done)
  have cR1_d_2 : R1.cell? ⟨w1.heap.size, 2, none⟩ = some (.int .i64 0) := by rw [hR1]; first | assumption | (simp [go_sem, *]; done)
  have HBR1 : Hid (Below w.heap.size w R1) := by rw [hR1]; show Below _ _ _; exact (by repeat (first | with_reducible exact Below.refl _ _ | with_reducible exact Hid.out (by assumption) | with_reducible refine Below.setCell ?_ (by first | (simp; done) | omega | (simp <;> omega)) _ | with_reducible refine bl_al ?_ _ | with_reducible apply Below.drew))
  clear hR1
  clear zw1_a yw1_a yyw1_a zw1_b yw1_b yyw1_b sxw1_0 hclw1 hfrw1 HBw1
  go_region_held3 (fun w' => w'.cell? ⟨w1.heap.size, 0, none⟩ = some (.int .i64 sh) ∧ w'.cell? ⟨w1.heap.size, 1, none⟩ = some (.int .u64 sl) ∧ w'.cell? ⟨w1.heap.size, 2, none⟩ = some (.int .i64 0)) (first | (simp [*, go_sem]; done) | (simp [*, go_sem, World.cell?_alloc_past]; done))
    (first
      | (go_at_call 24; (with_reducible refine (K2.out _).mono ?_); rintro e w2 ⟨rfl, hb⟩; (first | (with_reducible (obtain ⟨hclw2, hfrw2⟩ := bcell_drew hb)) | (obtain ⟨hclw2, hfrw2⟩ := bcell hb)); have zw2_a : w.heap.size < w2.heap.size := (by first | omega | (have hz := hb.size; (try simp at hz); omega)); have yw2_a : w.heap.size < w2.heap.size + 1 := (by omega); have yyw2_a : w.heap.size < w2.heap.size + 1 + 1 := (by omega); have zw2_b : w.heap.size + 1 < w2.heap.size := (by first | omega | (have hz := hb.size; (try simp at hz); omega)); have yw2_b : w.heap.size + 1 < w2.heap.size + 1 := (by omega); have yyw2_b : w.heap.size + 1 < w2.heap.size + 1 + 1 := (by omega); have zw2_d : w1.heap.size < w2.heap.size := (by first | omega | (have hz := hb.size; (try simp at hz); omega)); have yw2_d : w1.heap.size < w2.heap.size + 1 := (by omega); have yyw2_d : w1.heap.size < w2.heap.size + 1 + 1 := (by omega); have sxw2_0 : R1.heap.size ≤ w2.heap.size := (by first | omega | (have hz := hb.size; (try simp at hz); omega)); have HBw2 : Hid (Below w.heap.size w w2) := (bl_trans (by repeat (first | with_reducible exact Below.refl _ _ | with_reducible exact Hid.out (by assumption) | with_reducible refine Below.setCell ?_ (by first | (simp; done) | omega | (simp <;> omega)) _ | with_reducible refine bl_al ?_ _ | with_reducible apply Below.drew)) hb); clear hb; clear K2)
      | (go_at_call 23; (with_reducible refine (K3.out _).mono ?_); rintro e w3 ⟨rfl, hb⟩; obtain ⟨hclw3, hfrw3⟩ := bcell hb; have zw3_a : w.heap.size < w3.heap.size := (by first | omega | (have hz := hb.size; (try simp at hz); omega)); have yw3_a : w.heap.size < w3.heap.size + 1 := (by omega); have yyw3_a : w.heap.size < w3.heap.size + 1 + 1 := (by omega); have zw3_b : w.heap.size + 1 < w3.heap.size := (by first | omega | (have hz := hb.size; (try simp at hz); omega)); have yw3_b : w.heap.size + 1 < w3.heap.size + 1 := (by omega); have yyw3_b : w.heap.size + 1 < w3.heap.size + 1 + 1 := (by omega); have zw3_d : w1.heap.size < w3.heap.size := (by first | omega | (have hz := hb.size; (try simp at hz); omega)); have yw3_d : w1.heap.size < w3.heap.size + 1 := (by omega); have yyw3_d : w1.heap.size < w3.heap.size + 1 + 1 := (by omega); have sxw3_0 : R1.heap.size ≤ w3.heap.size := (by first | omega | (have hz := hb.size; (try simp at hz); omega)); have sxw3_w2 : w2.heap.size ≤ w3.heap.size := (by first | omega | (have hz := hb.size; (try simp at hz); omega)); have HBw3 : Hid (Below w.heap.size w w3) := (bl_trans (by repeat (first | with_reducible exact Below.refl _ _ | with_reducible exact Hid.out (by assumption) | with_reducible refine Below.setCell ?_ (by first | (simp; done) | omega | (simp <;> omega)) _ | with_reducible refine bl_al ?_ _ | with_reducible apply Below.drew)) hb); clear hb; clear K3))
  rename_i hHeld
  clear hHeld
  go_wp2_with fail
  go_returns
  exact ⟨rfl, by repeat (first | with_reducible exact Below.refl _ _ | with_reducible exact Hid.out (by assumption) | with_reducible refine Below.setCell ?_ (by first | (simp; done) | omega | (simp <;> omega)) _ | with_reducible refine bl_al ?_ _ | with_reducible apply Below.drew)⟩
theorem near40_any {a b : Int} (ha : My a) (hb : My b) (h : Bd (a - b) 1099511627776) (w : World) : Calls Try.prog 28 #[.agg #[.int .i64 (fh a), .int .u64 (fl a)], .agg #[.int .i64 (fh b), .int .u64 (fl b)], .int .i64 40] w fun e w' => e = .returned (.bool true) ∧ Below w.heap.size w w' := by
  have A1 := rsub_any a b ha hb
  have m : My (a - b) := by unfold Bd at h; unfold My; omega
  rw [ov_in m, oe_in m] at A1
  have A2 := rmag_any (a - b) m
  have z : Wd 0 := ⟨by omega, by omega⟩
  have q : Wd 1099511627776 := ⟨by omega, by omega⟩
  have A3 := less_any 0 1099511627776 _ _ z q (wd_wd (a - b).natAbs 1) (wd_wd (a - b).natAbs 0)
  rw [v2_wd, show v2 0 1099511627776 = 1099511627776 by unfold v2; omega, decide_eq_false (by unfold Bd at h; omega)] at A3
  exact near40_core _ _ _ _ _ _ _ _ w A1 A2 A3
set_option maxRecDepth 20000 in
set_option maxHeartbeats 60000000 in
theorem near45_core (ah al bh bl sh sl m1 m0 : Int)  (w : World)
    (C1 : ∀ W, Calls Try.prog 21 #[.agg #[.int .i64 ah, .int .u64 al], .agg #[.int .i64 bh, .int .u64 bl]] W fun e w' => e = .returned (.agg #[.int .i64 sh, .int .u64 sl, .int .i64 0]) ∧ Below W.heap.size W w')
    (C2 : ∀ W, Calls Try.prog 24 #[.agg #[.int .i64 sh, .int .u64 sl]] W fun e w' => e = .returned (.agg #[.int .u64 m1, .int .u64 m0]) ∧ Below W.heap.size W w')
    (C3 : ∀ W, Calls Try.prog 23 #[.agg #[.int .u64 0, .int .u64 35184372088832], .agg #[.int .u64 m1, .int .u64 m0]] W fun e w' => e = .returned (.bool false) ∧ Below W.heap.size W w') :
    Calls Try.prog 28 #[.agg #[.int .i64 ah, .int .u64 al], .agg #[.int .i64 bh, .int .u64 bl], .int .i64 45] w fun e w' => e = .returned (.bool true) ∧ Below w.heap.size w w' := by
  have K1 := Lib.hid C1; have K2 := Lib.hid C2; have K3 := Lib.hid C3
  clear C1 C2 C3
  have wsh : IntKind.u64.wrap 35184372088832 = 35184372088832 := by decide
  go_enter Try.func28, Try.ntmps28
  go_wp2_with fail
  (with_reducible refine (K1.out _).mono ?_); rintro e w1 ⟨rfl, hb⟩; obtain ⟨hclw1, hfrw1⟩ := bcell hb; have zw1_a : w.heap.size < w1.heap.size := (by first | omega | (have hz := hb.size; (try simp at hz); omega)); have yw1_a : w.heap.size < w1.heap.size + 1 := (by omega); have yyw1_a : w.heap.size < w1.heap.size + 1 + 1 := (by omega); have zw1_b : w.heap.size + 1 < w1.heap.size := (by first | omega | (have hz := hb.size; (try simp at hz); omega)); have yw1_b : w.heap.size + 1 < w1.heap.size + 1 := (by omega); have yyw1_b : w.heap.size + 1 < w1.heap.size + 1 + 1 := (by omega); have sxw1_0 : w.heap.size + 1 + 1 ≤ w1.heap.size := (by first | omega | (have hz := hb.size; (try simp at hz); omega)); have HBw1 : Hid (Below w.heap.size w w1) := (bl_trans (by repeat (first | with_reducible exact Below.refl _ _ | with_reducible exact Hid.out (by assumption) | with_reducible refine Below.setCell ?_ (by first | (simp; done) | omega | (simp <;> omega)) _ | with_reducible refine bl_al ?_ _ | with_reducible apply Below.drew)) hb); clear hb
  go_upto_region 2 with fail
  refine name_world (P := fun W => Code.wp _ _ _ _ W) _ (fun R1 hR1 => ?_)
  have zR1_a : w.heap.size < R1.heap.size := by rw [hR1]; first | omega | (simp <;> omega)
  have yR1_a : w.heap.size < R1.heap.size + 1 := by omega
  have yyR1_a : w.heap.size < R1.heap.size + 1 + 1 := by omega
  have cR1_a_0 : R1.cell? ⟨w.heap.size, 0, none⟩ = some (.int .i64 ah) := by rw [hR1]; first | assumption | (simp [go_sem, *]; done)
  have cR1_a_1 : R1.cell? ⟨w.heap.size, 1, none⟩ = some (.int .u64 al) := by rw [hR1]; first | assumption | (simp [go_sem, *]; done)
  have zR1_b : w.heap.size + 1 < R1.heap.size := by rw [hR1]; first | omega | (simp <;> omega)
  have yR1_b : w.heap.size + 1 < R1.heap.size + 1 := by omega
  have yyR1_b : w.heap.size + 1 < R1.heap.size + 1 + 1 := by omega
  have cR1_b_0 : R1.cell? ⟨w.heap.size + 1, 0, none⟩ = some (.int .i64 bh) := by rw [hR1]; first | assumption | (simp [go_sem, *]; done)
  have cR1_b_1 : R1.cell? ⟨w.heap.size + 1, 1, none⟩ = some (.int .u64 bl) := by rw [hR1]; first | assumption | (simp [go_sem, *]; done)
  have zR1_d : w1.heap.size < R1.heap.size := by rw [hR1]; first | omega | (simp <;> omega)
  have yR1_d : w1.heap.size < R1.heap.size + 1 := by omega
  have yyR1_d : w1.heap.size < R1.heap.size + 1 + 1 := by omega
  have cR1_d_0 : R1.cell? ⟨w1.heap.size, 0, none⟩ = some (.int .i64 sh) := by rw [hR1]; first | assumption | (simp [go_sem, *]; done)
  have cR1_d_1 : R1.cell? ⟨w1.heap.size, 1, none⟩ = some (.int .u64 sl) := by rw [hR1]; first | assumption | (simp [go_sem, *]; done)
  have cR1_d_2 : R1.cell? ⟨w1.heap.size, 2, none⟩ = some (.int .i64 0) := by rw [hR1]; first | assumption | (simp [go_sem, *]; done)
  have HBR1 : Hid (Below w.heap.size w R1) := by rw [hR1]; show Below _ _ _; exact (by repeat (first | with_reducible exact Below.refl _ _ | with_reducible exact Hid.out (by assumption) | with_reducible refine Below.setCell ?_ (by first | (simp; done) | omega | (simp <;> omega)) _ | with_reducible refine bl_al ?_ _ | with_reducible apply Below.drew))
  clear hR1
  clear zw1_a yw1_a yyw1_a zw1_b yw1_b yyw1_b sxw1_0 hclw1 hfrw1 HBw1
  go_region_held3 (fun w' => w'.cell? ⟨w1.heap.size, 0, none⟩ = some (.int .i64 sh) ∧ w'.cell? ⟨w1.heap.size, 1, none⟩ = some (.int .u64 sl) ∧ w'.cell? ⟨w1.heap.size, 2, none⟩ = some (.int .i64 0)) (first | (simp [*, go_sem]; done) | (simp [*, go_sem, World.cell?_alloc_past]; done))
    (first
      | (go_at_call 24; (with_reducible refine (K2.out _).mono ?_); rintro e w2 ⟨rfl, hb⟩; (first | (with_reducible (obtain ⟨hclw2, hfrw2⟩ := bcell_drew hb)) | (obtain ⟨hclw2, hfrw2⟩ := bcell hb)); have zw2_a : w.heap.size < w2.heap.size := (by first | omega | (have hz := hb.size; (try simp at hz); omega)); have yw2_a : w.heap.size < w2.heap.size + 1 := (by omega); have yyw2_a : w.heap.size < w2.heap.size + 1 + 1 := (by omega); have zw2_b : w.heap.size + 1 < w2.heap.size := (by first | omega | (have hz := hb.size; (try simp at hz); omega)); have yw2_b : w.heap.size + 1 < w2.heap.size + 1 := (by omega); have yyw2_b : w.heap.size + 1 < w2.heap.size + 1 + 1 := (by omega); have zw2_d : w1.heap.size < w2.heap.size := (by first | omega | (have hz := hb.size; (try simp at hz); omega)); have yw2_d : w1.heap.size < w2.heap.size + 1 := (by omega); have yyw2_d : w1.heap.size < w2.heap.size + 1 + 1 := (by omega); have sxw2_0 : R1.heap.size ≤ w2.heap.size := (by first | omega | (have hz := hb.size; (try simp at hz); omega)); have HBw2 : Hid (Below w.heap.size w w2) := (bl_trans (by repeat (first | with_reducible exact Below.refl _ _ | with_reducible exact Hid.out (by assumption) | with_reducible refine Below.setCell ?_ (by first | (simp; done) | omega | (simp <;> omega)) _ | with_reducible refine bl_al ?_ _ | with_reducible apply Below.drew)) hb); clear hb; clear K2)
      | (go_at_call 23; (with_reducible refine (K3.out _).mono ?_); rintro e w3 ⟨rfl, hb⟩; obtain ⟨hclw3, hfrw3⟩ := bcell hb; have zw3_a : w.heap.size < w3.heap.size := (by first | omega | (have hz := hb.size; (try simp at hz); omega)); have yw3_a : w.heap.size < w3.heap.size + 1 := (by omega); have yyw3_a : w.heap.size < w3.heap.size + 1 + 1 := (by omega); have zw3_b : w.heap.size + 1 < w3.heap.size := (by first | omega | (have hz := hb.size; (try simp at hz); omega)); have yw3_b : w.heap.size + 1 < w3.heap.size + 1 := (by omega); have yyw3_b : w.heap.size + 1 < w3.heap.size + 1 + 1 := (by omega); have zw3_d : w1.heap.size < w3.heap.size := (by first | omega | (have hz := hb.size; (try simp at hz); omega)); have yw3_d : w1.heap.size < w3.heap.size + 1 := (by omega); have yyw3_d : w1.heap.size < w3.heap.size + 1 + 1 := (by omega); have sxw3_0 : R1.heap.size ≤ w3.heap.size := (by first | omega | (have hz := hb.size; (try simp at hz); omega)); have sxw3_w2 : w2.heap.size ≤ w3.heap.size := (by first | omega | (have hz := hb.size; (try simp at hz); omega)); have HBw3 : Hid (Below w.heap.size w w3) := (bl_trans (by repeat (first | with_reducible exact Below.refl _ _ | with_reducible exact Hid.out (by assumption) | with_reducible refine Below.setCell ?_ (by first | (simp; done) | omega | (simp <;> omega)) _ | with_reducible refine bl_al ?_ _ | with_reducible apply Below.drew)) hb); clear hb; clear K3))
  rename_i hHeld
  clear hHeld
  go_wp2_with fail
  go_returns
  exact ⟨rfl, by repeat (first | with_reducible exact Below.refl _ _ | with_reducible exact Hid.out (by assumption) | with_reducible refine Below.setCell ?_ (by first | (simp; done) | omega | (simp <;> omega)) _ | with_reducible refine bl_al ?_ _ | with_reducible apply Below.drew)⟩
theorem near45_any {a b : Int} (ha : My a) (hb : My b) (h : Bd (a - b) 35184372088832) (w : World) : Calls Try.prog 28 #[.agg #[.int .i64 (fh a), .int .u64 (fl a)], .agg #[.int .i64 (fh b), .int .u64 (fl b)], .int .i64 45] w fun e w' => e = .returned (.bool true) ∧ Below w.heap.size w w' := by
  have A1 := rsub_any a b ha hb
  have m : My (a - b) := by unfold Bd at h; unfold My; omega
  rw [ov_in m, oe_in m] at A1
  have A2 := rmag_any (a - b) m
  have z : Wd 0 := ⟨by omega, by omega⟩
  have q : Wd 35184372088832 := ⟨by omega, by omega⟩
  have A3 := less_any 0 35184372088832 _ _ z q (wd_wd (a - b).natAbs 1) (wd_wd (a - b).natAbs 0)
  rw [v2_wd, show v2 0 35184372088832 = 35184372088832 by unfold v2; omega, decide_eq_false (by unfold Bd at h; omega)] at A3
  exact near45_core _ _ _ _ _ _ _ _ w A1 A2 A3
end Go.Proofs.Ytmelipbanbihdaa
