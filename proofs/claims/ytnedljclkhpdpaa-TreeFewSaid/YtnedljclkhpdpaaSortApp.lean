/- Bodies appended to a row of one's own, the source nil or not. -/
import Derived.Test.YtnedljclkhpdpaaSortLaw
import Derived.Test.YtnedljclkhpdpaaOwn
namespace Go.Proofs.Ytnedljclkhpdpaa
open Go.RowKit
theorem flat_app (L M : List (Nat × Int)) : flat (L ++ M) = flat L ++ flat M := by unfold flat; rw [List.flatMap_append]
theorem run_append_kd (w : World) (base : Nat) (ty : TypeId) (v : Value) (n : Nat) (L : List (Nat × Int)) (hown : w.ownsRow base 36 2 v n (flat L))
    (A : Option Addr) (m c : Nat) (M : List (Nat × Int)) (hM : Ks w A m M) (hA : A = none → m = 0 ∧ c = 0) (h63 : n + m ≤ 8796093022208) (hbase : base ≤ w.heap.size) :
    ∃ v' w', (Builtin.append_ #[22, 22] ty #[v, .slice A m c]).run Try.prog w = .ok v' w' ∧ w'.ownsRow base 36 2 v' (n + m) (flat (L ++ M)) ∧ w.grownBy w' v.ownBlock := by
  obtain ⟨i0, hi, hz0, hz1, hz2⟩ := info_parts kd_info
  rcases A with _ | a
  · obtain ⟨rfl, rfl⟩ := hA rfl
    obtain rfl : M = [] := List.length_eq_zero_iff.1 hM.1
    have h := run_append_owned_none (P := Try.prog) (w := w) base 22 ty 36 i0 2 Try.underlying22 hi v n (flat L) hown
    exact ⟨v, w, h, by simpa using hown, World.grownBy.refl w _⟩
  · obtain ⟨v', w', hr, h2, h3, _⟩ := run_append_own_at (P := Try.prog) w base 22 ty 36 i0 _ 2 16 Try.underlying22 hi hz0 hz1 hz2 rfl (by decide) v n (flat L) hown a m c (flat M)
      (by rw [flat_len, hM.1]) (fun j u hu => (hM.asFlat j u hu).2) (flat_one M) (by unfold maxLen; omega) (by omega) hbase
    exact ⟨v', w', hr, by rw [flat_app]; exact h2, h3⟩
theorem wpList_append_kd {w : World} {ops : Array Oper} {rest : List Oper} {o : Oper} {a : Act} {Q : Exit → Act → World → Prop} (hgd : o.guard = none) (s x : Operand)
    (ho : o.op = .call { callee := .builtin .append, args := #[s, x], argTypes := #[22, 22] })
    (base : Nat) (v : Value) (n : Nat) (L : List (Nat × Int)) (hs : a.eval s = v) (hown : w.ownsRow base 36 2 v n (flat L))
    (A : Option Addr) (m c : Nat) (M : List (Nat × Int)) (hx : a.eval x = .slice A m c) (hM : Ks w A m M) (hA : A = none → m = 0 ∧ c = 0) (h63 : n + m ≤ 8796093022208) (hbase : base ≤ w.heap.size)
    (h : ∀ v' w', w'.ownsRow base 36 2 v' (n + m) (flat (L ++ M)) → w.grownBy w' v.ownBlock → wpList Try.prog ops Q rest (a.put o.dst v') w') :
    wpList Try.prog ops Q (o :: rest) a w := by
  refine wpList_plain hgd fun K hK => ?_
  obtain ⟨v', w', hr, h2, h3⟩ := run_append_kd w base o.type v n L hown A m c M hM hA h63 hbase
  unfold Oper.wp execOp
  simp only [ho, resolve, invoke, builtin, Sem.run_bind, Sem.run_pure, Result.andThen_ok, List.map_toArray, List.map_cons, List.map_nil, hs, hx, hr]
  exact hK _ _ (h v' w' h2 h3)
/-- Two sorted lists together are, sorted, what both lists together are. -/
theorem std_app {α : Type} {f : α → Nat} {B S1 S2 L1 L2 : List α} (h : Std f B (S1 ++ S2)) (h1 : Std f S1 L1) (h2 : Std f S2 L2) : Std f B (L1 ++ L2) :=
  ⟨h.1, fun c => by rw [h.2 c, List.filter_append, List.filter_append, h1.2 c, h2.2 c]⟩
end Go.Proofs.Ytnedljclkhpdpaa
