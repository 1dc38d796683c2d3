/- SortJoins, from what By and Rising tell. -/
import Derived.Test.YtdaajhfippnciaaSortMake
import Derived.Test.YtdaajhfippnciaaSortIds
import Derived.Test.YtdaajhfippnciaaSortApp
import Derived.Laws.Bits64b
namespace Go.Proofs.Ytdaajhfippnciaa
open Go.RowKit
/-- One of the second list, as the law turns it. -/
def tk (H : Nat) (x : Nat × Int) : Nat × Int := (x.1 ||| H, x.2 + 1000)
/-- The first i of the second list are turned. -/
def Turning (w : World) (g cap i : Nat) (H : Nat) (L : List (Nat × Int)) (W : World) : Prop := Kr W g cap ((L.take i).map (tk H) ++ L.drop i) ∧ Below w.heap.size w W
theorem turn_at {H i : Nat} {L : List (Nat × Int)} {x : Nat × Int} (hx : L[i]? = some x) : ((L.take i).map (tk H) ++ L.drop i)[i]? = some x := by
  have hl := List.getElem?_eq_some_iff.1 hx
  have h1 := hl.1
  rw [List.getElem?_append_right (by simp; omega)]
  simp only [List.length_map, List.length_take, List.getElem?_drop]
  rw [show i + (i - min i L.length) = i by omega]; exact hx
theorem turn_set {H i : Nat} {L : List (Nat × Int)} {x : Nat × Int} (hx : L[i]? = some x) : ((L.take i).map (tk H) ++ L.drop i).set i (tk H x) = (L.take (i + 1)).map (tk H) ++ L.drop (i + 1) := by
  have hl := List.getElem?_eq_some_iff.1 hx
  have h1 := hl.1
  have e : L.drop i = x :: L.drop (i + 1) := by rw [List.drop_eq_getElem_cons hl.1, hl.2]
  rw [take_snoc_at hx, e, List.map_append, List.set_append_right _ _ (by simp; omega)]
  simp only [List.length_map, List.length_take]
  rw [show i - min i L.length = 0 by omega]
  simp
theorem Turning.step {w : World} {g cap i H : Nat} {L : List (Nat × Int)} {W : World} (h : Turning w g cap i H L W) (hg : w.heap.size ≤ g) {x : Nat × Int} (hx : L[i]? = some x) :
    Turning w g cap (i + 1) H L ((W.setCell ⟨g, i * 2 + 1, none⟩ (.int .i64 (x.2 + 1000))).setCell ⟨g, i * 2, none⟩ (.int .u64 ((x.1 ||| H : Nat) : Int))) := by
  obtain ⟨hK, hB⟩ := h
  refine ⟨?_, Below.setCell (Below.setCell hB hg _) hg _⟩
  have hi := turn_at (H := H) hx
  have k1 := hK.putI hi (x.2 + 1000)
  have hl := (List.getElem?_eq_some_iff.1 hi).1
  have h2 : (((L.take i).map (tk H) ++ L.drop i).set i (x.1, x.2 + 1000))[i]? = some (x.1, x.2 + 1000) := by
    rw [List.getElem?_set_self hl]
  have k2 := k1.putK h2 (x.1 ||| H)
  rw [List.set_set] at k2
  rw [← turn_set hx]; exact k2
/-- The second list while it is turned, nil let in. -/
def Mid (w : World) (A : Option Addr) (b c i H : Nat) (L : List (Nat × Int)) (W : World) : Prop :=
  ((A = none ∧ b = 0) ∨ ∃ g, A = some ⟨g, 0, none⟩ ∧ w.heap.size ≤ g ∧ Turning w g c i H L W) ∧ L.length = b ∧ Below w.heap.size w W
theorem Mid.start {w W : World} {A : Option Addr} {b c H : Nat} {L : List (Nat × Int)} (h : W.ownsRow w.heap.size 32 2 (.slice A b c) b (flat L)) (hb : Below w.heap.size w W) : Mid w A b c 0 H L W := by
  have hl : L.length = b := by have := h.1; rw [flat_len] at this; omega
  refine ⟨?_, hl, hb⟩
  by_cases hv : Value.slice A b c = .slice none 0 0
  · simp only [Value.slice.injEq] at hv; exact Or.inl ⟨hv.1, hv.2.1⟩
  · obtain ⟨g, cap, e, hg, _, _, hK⟩ := Kr.of_own h hv
    simp only [Value.slice.injEq, true_and] at e
    obtain ⟨rfl, rfl⟩ := e
    exact Or.inr ⟨g, rfl, hg, by simpa using hK, hb⟩
theorem Mid.drew {w W : World} {A : Option Addr} {b c i H : Nat} {L : List (Nat × Int)} (h : Mid w A b c i H L W) : Mid w A b c i H L W.drew := by
  obtain ⟨h1, h2, h3⟩ := h
  refine ⟨?_, h2, h3.drew⟩
  rcases h1 with h1 | ⟨g, e, hg, hK, hB⟩
  · exact Or.inl h1
  · exact Or.inr ⟨g, e, hg, hK.drew, hB.drew⟩
theorem Mid.done {w W : World} {A : Option Addr} {b c H : Nat} {L : List (Nat × Int)} (h : Mid w A b c b H L W) : Ks W A b (L.map (tk H)) := by
  obtain ⟨h1, h2, h3⟩ := h
  rcases h1 with ⟨rfl, rfl⟩ | ⟨g, rfl, hg, hK, hB⟩
  · rw [List.length_eq_zero_iff.1 h2]; exact ⟨rfl, fun h => by omega⟩
  · rw [List.take_of_length_le (by omega), List.drop_of_length_le (by omega), List.append_nil] at hK
    have := hK.slice
    rw [List.length_map, h2] at this; exact this
theorem tk_64 {H : Nat} (hH : H < 18446744073709551616) {L : List (Nat × Int)} (h : Ok64 L) : Ok64 (L.map (tk H)) := fun x hx => by
  obtain ⟨y, hy, rfl⟩ := List.mem_map.1 hx
  exact Nat.or_lt_two_pow (n := 64) (h y hy) hH
theorem mk_key {l : List Nat} {j : Nat} {x : Nat × Int} (h : (mk_ l)[j]? = some x) : x.1 < 18446744073709551616 ∧ x.2 = (j : Int) := by
  refine ⟨?_, mk_of h⟩
  unfold mk_ at h
  rw [List.getElem?_map, List.getElem?_zipIdx] at h
  cases e : (l.take 100)[j]? with
  | none => rw [e] at h; simp at h
  | some b => rw [e] at h; simp at h; rw [← h]; exact bkey_lt b
set_option maxRecDepth 20000 in
set_option maxHeartbeats 16000000 in
theorem sortJoins_walk (BY : ByT) (RIS : RisT) (A : Option Addr) (n c : Nat) (l : List Nat) (hn : n ≤ maxLen) (B : Option Addr) (n' c' : Nat) (l' : List Nat) (hn' : n' ≤ maxLen) (H : Nat) (hH : H < 18446744073709551616) (w : World) (hl : Bs w A n l) (hl' : Bs w B n' l') :
    Calls Try.prog 5 #[.slice A n c, .slice B n' c', .int .u64 (H : Int)] w fun e w' => e = .returned (.bool true) ∧ Below w.heap.size w w' := by
  have K1 := Lib.hid BY; have K3 := Lib.hid (sawake_any BY RIS)
  have KM := Lib.hid (make_any A n c l hn w hl)
  have KM2 : Hid (∀ W, Below w.heap.size w W → Calls Try.prog 12 #[.slice B n' c'] W (Made W (mk_ l'))) := fun W hW => make_any B n' c' l' hn' W (hl'.below hW)
  have HH := Lib.hid hH
  clear BY RIS hl hl' hn hn' hH
  go_enter Try.func5, Try.ntmps5
  go_wp2_with fail
  refine KM.out.mono ?_
  rintro e w1 ⟨⟨v1, rfl, hown⟩, b1⟩
  obtain ⟨A1, c1, rfl, hA1, q1⟩ := Ks.of_own hown
  have HO1 := Lib.hid hown; have HA1 := Lib.hid hA1; have HQ1 := Lib.hid q1; have HB1 := Lib.hid b1
  clear hown hA1 q1 b1 KM
  go_wp2_with fail
  refine (KM2.out w1 HB1.out).mono ?_
  rintro e w2 ⟨⟨v2, rfl, hown2⟩, b2⟩
  obtain ⟨A2, c2, rfl, hA2, q2⟩ := Ks.of_own hown2
  obtain ⟨a, ha⟩ : ∃ a, a = (mk_ l).length := ⟨_, rfl⟩
  obtain ⟨b, hb⟩ : ∃ b, b = (mk_ l').length := ⟨_, rfl⟩
  have ha1 : a ≤ 100 := by rw [ha, mk_len]; omega
  have hb1 : b ≤ 100 := by rw [hb, mk_len]; omega
  have HO1' : Hid (w1.ownsRow w.heap.size 32 2 (.slice A1 a c1) a (flat (mk_ l))) := by rw [ha]; exact HO1.out
  rw [← ha, ← hb]
  rw [← hb] at hown2 hA2 q2
  rw [← ha] at HA1 HQ1
  have HO2 := Lib.hid hown2; have HA2 := Lib.hid hA2; have HQ2 := Lib.hid q2; have HB2 := Lib.hid b2
  have Ha := Lib.hid ha; have Hb := Lib.hid hb; have Ha1 := Lib.hid ha1; have Hb1 := Lib.hid hb1
  clear hown2 hA2 q2 b2 KM2 HO1 ha hb ha1 hb1
  have HMd : Hid (Mid w1 A2 b c2 0 H (mk_ l') w2) := Mid.start HO2.out HB2.out
  clear HO2 HQ2
  go_wp2_with fail
  go_loopg [9] b (fun k iv wr => ∃ i : Nat, i + k = b ∧ iv = .int .i64 (i : Int) ∧ Mid w1 A2 b c2 i H (mk_ l') wr)
  case atStart => exact ⟨0, by omega, rfl, HMd.out⟩
  case round =>
    obtain ⟨i, hk, rfl, hmd⟩ := hrel
    have HM := Lib.hid hmd
    clear hmd HMd
    by_cases hlt : i < b
    · obtain ⟨k, rfl⟩ : ∃ k, gk = k + 1 := ⟨gk - 1, by omega⟩
      obtain ⟨h1, h2, h3⟩ := HM.out
      rcases h1 with ⟨_, h0⟩ | ⟨g, rfl, hg, hK, hB⟩
      · omega
      have hx : (mk_ l')[i]? = some ((mk_ l')[i]'(by omega)) := List.getElem?_eq_getElem _
      generalize (mk_ l')[i]'(by omega) = x at hx
      obtain ⟨xk, xi⟩ := mk_key hx
      obtain ⟨c0, c1⟩ := hK.cells i x (turn_at hx)
      have zg := hK.lt
      have fg := hK.frz
      have HX := Lib.hid hx; have HG := Lib.hid hg; have HT : Hid (Turning w1 g c2 i H (mk_ l') wr) := ⟨hK, hB⟩
      have HL := Lib.hid h2; have HB3 := Lib.hid h3
      have HK : Hid (i + (k + 1) = b) := hk
      have i1 : (i : Int) < (b : Int) := by omega
      have i0 : (0 : Int) ≤ (i : Int) := by omega
      have wi : IntKind.i64.wrap ((i : Int) + 1) = (i : Int) + 1 := by rw [IntWalk.i64_in _ (by have := Hb1.out; omega)]
      have wx : IntKind.i64.wrap (x.2 + 1000) = x.2 + 1000 := by rw [IntWalk.i64_in _ (by have := Hb1.out; omega)]
      have eo : bits .or .u64 (x.1 : Int) (H : Int) = ((x.1 ||| H : Nat) : Int) := bits_or_u64_nat _ _ xk HH.out
      have e1 : ¬ (i * 2 = i * 2 + 1) := by omega
      have e2 : ¬ (i * 2 + 1 = i * 2) := by omega
      clear hx hg hK hB h2 h3 hk xi xk HM
      go_wp2_with fail
      go_roundg k
      case measure => omega
      case rel =>
        refine ⟨i + 1, by have := HK.out; omega, by simp, Or.inr ⟨g, rfl, HG.out, ?_⟩, HL.out, ?_⟩
        · exact HT.out.step HG.out HX.out
        · exact (HT.out.step HG.out HX.out).2
    · obtain rfl : i = b := by omega
      have i1 : ¬ (i : Int) < (i : Int) := by omega
      have HBa := Lib.hid (bl_trans HB1.out HM.out.2.2)
      have HQa : Hid (Ks wr A1 a (mk_ l)) := HQ1.out.below HM.out.2.2
      have HQb : Hid (Ks wr A2 i ((mk_ l').map (tk H))) := HM.out.done
      have O1 := Lib.hid (mk_64 l); have O2 := Lib.hid (tk_64 HH.out (mk_64 l'))
      generalize (mk_ l').map (tk H) = L2 at *
      generalize mk_ l = L1 at *
      clear hk hlt HM HQ1 HO1'
      go_upto_region 7 with fail
      go_wp2_with (first
        | (at_builtin; refine wpList_append_kd rfl _ _ rfl wr.heap.size _ 0 [] rfl (own_none wr _) A1 a c1 L1 rfl ?d1 HA1.out ?d2 ?d3 ?_)
        | fail)
      case d1 => exact HQa.out.below (bl_al (Below.refl _ _) _)
      case d2 => have := Ha1.out; omega
      try (case d3 => simp)
      intro v3 w3 hown3 hgrow3
      have HB3 : Hid (Below wr.heap.size wr w3) := (bl_al (Below.refl _ _) _).grown hgrow3 (by simp) (fun q hq => by simp [Value.ownBlock] at hq; omega)
      have HO3 : Hid (w3.ownsRow wr.heap.size 32 2 v3 a (flat L1)) := by show World.ownsRow _ _ _ _ _ _ _; simpa using hown3
      have HQb3 := Lib.hid (HQb.out.below HB3.out)
      clear hown3 hgrow3
      go_wp2_with (first
        | (at_builtin; refine wpList_append_kd rfl _ _ rfl wr.heap.size _ a L1 rfl HO3.out A2 i c2 L2 rfl ?d4 HA2.out ?d5 ?d6 ?_)
        | fail)
      case d4 => exact HQb3.out
      case d5 => have := Ha1.out; have := Hb1.out; omega
      case d6 => exact HB3.out.size
      intro v4 w4 hown4 hgrow4
      have HB4 : Hid (Below wr.heap.size wr w4) := HB3.out.grown hgrow4 HB3.out.size (own_block HO3.out)
      obtain ⟨A4, c4, rfl, hA4, q4⟩ := Ks.of_own hown4
      have HA4 := Lib.hid hA4; have HQ4 := Lib.hid q4
      have HBz4 := Lib.hid (bl_trans HBa.out HB4.out)
      have HQa4 := Lib.hid (HQa.out.below HB4.out); have HQb4 := Lib.hid (HQb.out.below HB4.out)
      clear hown4 hgrow4 hA4 q4 HB3 HO3 HQb3 HB4 HQa HQb HBa
      go_wp2_with fail
      refine (K1.out A4 (a + i) c4 (L1 ++ L2) (by have := Ha1.out; have := Hb1.out; omega) HA4.out (O1.out.app O2.out) _ HQ4.out).mono ?_
      intro e w5 h5
      obtain ⟨A5, c5, MA, rfl, _, q5, _, s5, b5⟩ := h5.use
      have HQ5 := Lib.hid q5; have HS5 := Lib.hid s5
      have HBz5 := Lib.hid (bl_trans HBz4.out b5); have HQa5 := Lib.hid (HQa4.out.below b5); have HQb5 := Lib.hid (HQb4.out.below b5)
      clear h5 q5 s5 b5 HBz4 HQa4 HQb4 HQ4
      go_wp2_with fail
      refine (K1.out A1 a c1 L1 (by have := Ha1.out; omega) HA1.out O1.out _ HQa5.out).mono ?_
      intro e w6 h6
      obtain ⟨A6, c6, S1, rfl, _, _, o6, s6, b6⟩ := h6.use
      have HO6 := Lib.hid o6; have HS6 := Lib.hid s6
      have HBz6 := Lib.hid (bl_trans HBz5.out b6); have HQb6 := Lib.hid (HQb5.out.below b6)
      have HB56 := Lib.hid b6
      clear h6 o6 s6 b6 HQb5
      go_wp2_with fail
      refine (K1.out A2 i c2 L2 (by have := Hb1.out; omega) HA2.out O2.out _ HQb6.out).mono ?_
      intro e w7 h7
      obtain ⟨A7, c7, S2, rfl, hA7, q7, _, s7, b7⟩ := h7.use
      have HA7 := Lib.hid hA7; have HQ7 := Lib.hid q7; have HS7 := Lib.hid s7
      have HBz7 := Lib.hid (bl_trans HBz6.out b7)
      have HO7 := Lib.hid (own_kept HO6.out b7)
      have HB57 := Lib.hid (bl_trans HB56.out b7)
      clear h7 hA7 q7 s7 b7 HBz6 HQb6 HO6 HB56
      go_wp2_with (first
        | (at_builtin; refine wpList_append_kd rfl _ _ rfl w5.heap.size _ a S1 rfl HO7.out A7 i c7 S2 rfl ?d7 HA7.out ?d8 ?d9 ?_)
        | fail)
      case d7 => exact HQ7.out
      case d8 => have := Ha1.out; have := Hb1.out; omega
      case d9 => exact HB57.out.size
      intro v8 w8 hown8 hgrow8
      have HB58 : Hid (Below w5.heap.size w5 w8) := HB57.out.grown hgrow8 HB57.out.size (own_block HO7.out)
      obtain ⟨A8, c8, rfl, hA8, q8⟩ := Ks.of_own hown8
      have HA8 := Lib.hid hA8; have HQ8 := Lib.hid q8
      have HBz8 := Lib.hid (bl_trans HBz5.out HB58.out); have HQ58 := Lib.hid (HQ5.out.below HB58.out)
      clear hown8 hgrow8 hA8 q8 HB58 HB57 HO7 HQ7 HA7 HBz7 HQ5 HBz5
      go_wp2_with fail
      refine (K1.out A8 (a + i) c8 (S1 ++ S2) (by have := Ha1.out; have := Hb1.out; omega) HA8.out ((O1.out.std HS6.out).app (O2.out.std HS7.out)) _ HQ8.out).mono ?_
      intro e w9 h9
      obtain ⟨A9, c9, MB, rfl, _, q9, _, s9, b9⟩ := h9.use
      obtain rfl := (std_app s9 HS6.out HS7.out).uniq HS5.out
      have HQ9 := Lib.hid q9; have HQ59 := Lib.hid (HQ58.out.below b9); have HBz9 := Lib.hid (bl_trans HBz8.out b9)
      have ws : IntKind.i64.wrap ((a : Int) + (i : Int)) = (a : Int) + (i : Int) := by rw [IntWalk.i64_in _ (by have := Ha1.out; have := Hb1.out; omega)]
      have HN : Hid (a + i < 9223372036854775807) := by have := Ha1.out; have := Hb1.out; show _ < _; omega
      obtain ⟨u, hu⟩ : ∃ u, u = a + i := ⟨_, rfl⟩
      have hui : (u : Int) = (a : Int) + (i : Int) := by omega
      rw [← hu] at HQ9 HQ59 HN ⊢
      have HU := Lib.hid hu
      clear h9 q9 s9 b9 HQ58 HBz8 hu
      rw [← hui] at ws
      have wu : IntKind.i64.wrap (u : Int) = (u : Int) := by rw [IntWalk.i64_in _ (by have := HN.out; omega)]
      have hiu := hui.symm
      clear hui
      go_wp2_with fail
      refine (samekeyed_any A5 A9 u c5 c9 MB (by exact HN.out) _ HQ59.out HQ9.out).mono ?_
      rintro e w10 ⟨rfl, b10⟩
      have HBz10 := Lib.hid (bl_trans HBz9.out b10)
      clear b10
      go_wp2_with fail
      refine (K3.out _).mono ?_
      rintro e w11 ⟨rfl, b11⟩
      have HBz11 := Lib.hid (bl_trans HBz10.out b11)
      clear b11
      go_wp2_with fail
      go_returns
      exact ⟨rfl, HBz11.out⟩
end Go.Proofs.Ytdaajhfippnciaa
