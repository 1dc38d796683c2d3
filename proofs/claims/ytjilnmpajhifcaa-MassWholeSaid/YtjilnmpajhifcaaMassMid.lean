/- The middle of bodies of whole masses is among them, in whatever order they stand. -/
import Derived.Test.YtjilnmpajhifcaaMassBds
namespace Go.Proofs.Ytjilnmpajhifcaa
/-- Its mass is whole. -/
def Wh (b : Bod) : Prop := ∃ K : Nat, 0 < K ∧ b.m = (K : Int) * 18446744073709551616
theorem sums_wh {f : Bod → Int} {lo hi : Int} : ∀ {L : List Bod}, (∀ b ∈ L, Wh b ∧ lo ≤ f b ∧ f b ≤ hi) → ∃ K : Nat, (L ≠ [] → 0 < K) ∧ sM L = (K : Int) * 18446744073709551616 ∧ lo * (K : Int) ≤ sD f L ∧ sD f L ≤ hi * (K : Int) := by
  intro L
  induction L with
  | nil => intro _; exact ⟨0, fun h => absurd rfl h, rfl, by show lo * 0 ≤ 0; omega, by show (0 : Int) ≤ hi * 0; omega⟩
  | cons b t ih =>
    intro h
    obtain ⟨K, _, k2, k3, k4⟩ := ih fun c hc => h c (List.mem_cons_of_mem _ hc)
    obtain ⟨⟨k, hk, hb⟩, h1, h2⟩ := h b List.mem_cons_self
    refine ⟨k + K, fun _ => by omega, ?_, ?_, ?_⟩
    · show b.m + sM t = _
      rw [hb, k2]; omega
    · show _ ≤ mulr b.m (f b) + sD f t
      rw [hb, mulr_whole (by omega)]
      have a := Int.mul_le_mul_of_nonneg_left h1 (show (0 : Int) ≤ (k : Int) by omega)
      rw [show ((k + K : Nat) : Int) = (k : Int) + (K : Int) by omega, Int.mul_add, Int.mul_comm lo (k : Int)]
      omega
    · show mulr b.m (f b) + sD f t ≤ _
      rw [hb, mulr_whole (by omega)]
      have a := Int.mul_le_mul_of_nonneg_left h2 (show (0 : Int) ≤ (k : Int) by omega)
      rw [show ((k + K : Nat) : Int) = (k : Int) + (K : Int) by omega, Int.mul_add, Int.mul_comm hi (k : Int)]
      omega
theorem mid_between {f : Bod → Int} {lo hi : Int} {L : List Bod} (h : ∀ b ∈ L, Wh b ∧ lo ≤ f b ∧ f b ≤ hi) (h0 : L ≠ []) : lo ≤ mid f L ∧ mid f L ≤ hi := by
  obtain ⟨K, k1, k2, k3, k4⟩ := sums_wh h
  unfold mid
  rw [k2]
  exact divr_between (k1 h0) k3 k4
theorem sM_back (L : List Bod) : sM L.reverse = sM L := by
  induction L with
  | nil => rfl
  | cons b t ih => rw [List.reverse_cons, sM_app, ih]; show sM t + (b.m + 0) = b.m + sM t; omega
theorem sD_back (f : Bod → Int) (L : List Bod) : sD f L.reverse = sD f L := by
  induction L with
  | nil => rfl
  | cons b t ih => rw [List.reverse_cons, sD_app, ih]; show sD f t + (mulr b.m (f b) + 0) = mulr b.m (f b) + sD f t; omega
theorem mid_back (f : Bod → Int) (L : List Bod) : mid f L.reverse = mid f L := by unfold mid; rw [sM_back, sD_back]
theorem bods_wh {l : List Nat} (m : Nat) : ∀ b ∈ bods l m, Wh b := by
  intro b hb
  unfold bods at hb
  obtain ⟨j, _, rfl⟩ := List.mem_map.1 hb
  refine ⟨1 + (l.getD (4 * j + 2) 0) % 9, by omega, ?_⟩
  unfold bodj bodn fx
  dsimp only
  omega
/-- Bodies turned about, one more. -/
theorem back_snoc {L : List Bod} {i : Nat} {b : Bod} (h : L[i]? = some b) : (L.drop (i + 1)).reverse ++ [b] = (L.drop i).reverse := by
  have hl := List.getElem?_eq_some_iff.1 h
  rw [List.drop_eq_getElem_cons hl.1, hl.2, List.reverse_cons]
theorem got_field (a b e : Int) (W : World) : (Instr.field 38 (.agg #[.int .i64 a, .int .u64 b, .int .i64 e]) 0).run Try.prog W = .ok (.agg #[.int .i64 a, .int .u64 b]) W := by
  have hu := Try.underlying38
  simp [Instr.field, run_underlying hu, go_sem, asAgg]
end Go.Proofs.Ytjilnmpajhifcaa
