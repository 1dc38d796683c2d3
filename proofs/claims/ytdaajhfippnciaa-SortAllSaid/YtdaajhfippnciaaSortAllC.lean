/- SortAll, from what By and Rising tell. -/
import Derived.Test.YtdaajhfippnciaaSortLaw
namespace Go.Proofs.Ytdaajhfippnciaa
open Go.RowKit
set_option maxRecDepth 20000 in
set_option maxHeartbeats 8000000 in
theorem sortAll_many (BY : ByT) (RIS : RisT) (A : Option Addr) (n c : Nat) (hn : 200 < n) (w : World) :
    Calls Try.prog 3 #[.slice A n c] w fun e w' => e = .returned (.bool true) ∧ Below w.heap.size w w' := by
  have K := Lib.hid (sawake_any BY RIS)
  have hi : (200 : Int) < (n : Int) := by omega
  clear BY RIS
  go_enter Try.func3, Try.ntmps3
  go_wp2_with fail
  refine (K.out _).mono ?_
  rintro e w1 ⟨rfl, hb⟩
  have HB := Lib.hid hb
  clear hb
  go_wp2_with fail
  go_returns
  exact ⟨rfl, HB.out⟩
set_option maxRecDepth 20000 in
set_option maxHeartbeats 8000000 in
theorem sortAll_walk (BY : ByT) (RIS : RisT) (A : Option Addr) (n c : Nat) (L : List (Nat × Int)) (hn : n ≤ 200) (hc : A = none → n = 0 ∧ c = 0) (ho : Ok64 L) (w : World) (hL : Ks w A n L) :
    Calls Try.prog 3 #[.slice A n c] w fun e w' => e = .returned (.bool true) ∧ Below w.heap.size w w' := by
  have K1 := Lib.hid BY; have K2 := Lib.hid RIS; have K3 := Lib.hid (sawake_any BY RIS)
  have H64 := Lib.hid ho; clear ho
  have HC := Lib.hid hc; have HN := Lib.hid hn; have HL := Lib.hid hL
  have hi : ¬ (200 : Int) < (n : Int) := by omega
  obtain ⟨i0, hi0, hz0, hz1, hz2⟩ := info_parts kd_info
  have HI := Lib.hid hi0; have HZ0 := Lib.hid hz0; have HZ1 := Lib.hid hz1; have HZ2 := Lib.hid hz2
  clear hi0 hz0 hz1 hz2 BY RIS hn hL hc
  have hA : A = none ∨ ∃ a, A = some a := by cases A with | none => exact Or.inl rfl | some a => exact Or.inr ⟨a, rfl⟩
  go_enter Try.func3, Try.ntmps3
  go_upto_region 3 with fail
  go_cut [3] (fun s wz => (∃ B d, s = .slice B n d ∧ (B = none → n = 0 ∧ d = 0) ∧ Ks wz B n L) ∧ Below w.heap.size w wz)
  case first =>
    rcases hA with rfl | ⟨a, rfl⟩
    · obtain ⟨rfl, rfl⟩ := HC.out rfl
      obtain rfl : L = [] := List.length_eq_zero_iff.1 HL.out.1
      go_wp2_with (first
        | (at_builtin; refine wpList_append_own_none rfl _ _ 22 rfl w.heap.size 32 i0 2 Try.underlying22 HI.out _ _ _ rfl (own_none w _) rfl ?_)
        | fail)
      go_wp2_with fail
      go_meet
      exact ⟨⟨_, _, rfl, by simp, rfl, fun h => by omega⟩, bl_al (Below.refl _ _) _⟩
    · go_wp2_with (first
        | (at_builtin; refine wpList_append_own_at _ rfl _ _ 22 rfl w.heap.size 32 i0 _ 2 16 Try.underlying22 HI.out HZ0.out HZ1.out HZ2.out rfl (by decide) _ _ _ rfl (own_none w _) a n c (flat L) rfl ?c0 ?c1 ?c2 ?c3 ?c4 ?c5 ?_)
        | fail)
      case c0 => rw [flat_len, HL.out.1]
      case c1 => intro j u hu; obtain ⟨h1, h2⟩ := HL.out.asFlat j u hu; rw [World.cell?_alloc_lt _ _ _ (by rw [block_of_add]; exact h1)]; exact h2
      case c2 => exact flat_one L
      case c3 => have := HN.out; unfold maxLen; omega
      case c4 => have := HN.out; omega
      try (case c5 => simp)
      intro v1 w1 hown hgrow hnil _
      have hown : w1.ownsRow w.heap.size 32 2 v1 n (flat L) := by simpa using hown
      obtain ⟨B, d, rfl, hd, hK⟩ := Ks.of_own hown
      have HK := Lib.hid hK; have HD := Lib.hid hd
      have HB : Hid (Below w.heap.size w w1) := (bl_al (Below.refl _ _) _).grown hgrow (by simp) (fun q hq => by simp [Value.ownBlock] at hq; omega)
      clear hown hgrow hnil hK hd
      go_wp2_with fail
      go_meet
      exact ⟨⟨B, d, rfl, HD.out, HK.out⟩, HB.out⟩
  case rest =>
  obtain ⟨⟨B, d, rfl, hd, hW⟩, hb⟩ := hcut
  have HW := Lib.hid hW; have HB0 := Lib.hid hb; have HD := Lib.hid hd
  clear hW hb hd HI HZ0 HZ1 HZ2
  go_wp2_with fail
  refine (K1.out A n c L (by have := HN.out; omega) HC.out H64.out _ (HL.out.below HB0.out)).mono ?_
  intro e w1 h1
  obtain ⟨A1, c1, M1, rfl, _, q1, _, s1, b1⟩ := h1.use
  have HQ1 := Lib.hid q1; have HS1 := Lib.hid s1; have HB1 := Lib.hid (bl_trans HB0.out b1)
  have HW1 := Lib.hid (HW.out.below b1)
  clear h1 q1 s1 b1 HB0 HW
  go_wp2_with fail
  refine (rby_any A n c L (by have := HN.out; omega) HC.out _ (HL.out.below HB1.out)).mono ?_
  intro e w2 h2
  obtain ⟨A2, c2, M2, rfl, _, q2, _, s2, b2⟩ := h2.use
  obtain rfl := s2.uniq HS1.out
  have HQ2 := Lib.hid q2; have HQ12 := Lib.hid (HQ1.out.below b2); have HB2 := Lib.hid (bl_trans HB1.out b2)
  have HW2 := Lib.hid (HW1.out.below b2)
  clear h2 q2 s2 b2 HB1 HW1 HQ1
  go_wp2_with fail
  refine (samekeyed_any A1 A2 n c1 c2 M2 (by have := HN.out; omega) _ HQ12.out HQ2.out).mono ?_
  rintro e w3 ⟨rfl, b3⟩
  have HB3 := Lib.hid (bl_trans HB2.out b3); have HW3 := Lib.hid (HW2.out.below b3)
  clear b3 HB2 HW2 HQ12 HQ2
  go_wp2_with fail
  refine (K2.out A n c L (by have := HN.out; omega) _ (HL.out.below HB3.out)).mono ?_
  rintro e w4 ⟨rfl, b4⟩
  have HB4 := Lib.hid (bl_trans HB3.out b4); have HW4 := Lib.hid (HW3.out.below b4)
  clear b4 HB3 HW3
  go_wp2_with fail
  refine (rrising_any A n c L (by have := HN.out; omega) _ (HL.out.below HB4.out)).mono ?_
  rintro e w5 ⟨rfl, b5⟩
  have HB5 := Lib.hid (bl_trans HB4.out b5); have HW5 := Lib.hid (HW4.out.below b5)
  clear b5 HB4 HW4
  generalize rs L = r
  go_wp2_with fail
  refine (samekeyed_any A B n c d L (by have := HN.out; omega) _ (HL.out.below HB5.out) HW5.out).mono ?_
  rintro e w6 ⟨rfl, b6⟩
  have HB6 := Lib.hid (bl_trans HB5.out b6)
  clear b6 HB5 HW5
  go_wp2_with fail
  refine (K3.out _).mono ?_
  rintro e w7 ⟨rfl, b7⟩
  have HB7 := Lib.hid (bl_trans HB6.out b7)
  clear b7 HB6
  go_wp2_with fail
  go_returns
  exact ⟨rfl, HB7.out⟩
end Go.Proofs.Ytdaajhfippnciaa
