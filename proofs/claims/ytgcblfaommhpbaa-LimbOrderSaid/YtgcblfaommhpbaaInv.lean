/- A region that draws its order, by what holds between its operations: one step for each operation, not one for each order. No program here. -/
import Derived.WalkKit
import Derived.Deep.RegionHeld3
import Derived.Test.YtgcblfaommhpbaaLate
namespace Go.Proofs.Ytgcblfaommhpbaa

section
variable {P : Program} {ops : Array Oper} {Q : Exit → Act → World → Prop} {md : Region.Mode}

theorem count_set {l : List Bool} {i : Nat} (h : l[i]? = some false) : (l.set i true).count false + 1 = l.count false := by
  induction l generalizing i with
  | nil => simp at h
  | cons b l ih =>
    cases i with
    | zero => simp at h; subst h; simp
    | succ i =>
      simp only [List.set_cons_succ, List.count_cons]
      simp at h
      have := ih h
      omega
theorem ready_false {l : Array Bool} {i : Nat} (hi : i ∈ Region.ready md ops l) : l.toList[i]? = some false := by
  have h := (mem_ready.1 hi).1
  rcases Nat.lt_or_ge i l.size with g | g
  · simp [g] at h; simp [g, h]
  · simp [Array.getElem?_eq_none g] at h
theorem wpAny_inv (I : Array Bool → Act → World → Prop)
    (hstep : ∀ l a w i, I l a w → i ∈ Region.ready md ops l → wpOp P ops Q i (fun a' w' => I (l.setIfInBounds i true) a' w') a w)
    (hfin : ∀ l a w, I l a w → Region.ready md ops l = [] → Q .normal a w) :
    ∀ (fuel : Nat) (l : Array Bool) (a : Act) (w : World), I l a w → l.toList.count false ≤ fuel → wpAny P md ops Q fuel l a w := by
  intro fuel
  induction fuel with
  | zero =>
    intro l a w h hc
    have hr : Region.ready md ops l = [] := by
      rcases e : Region.ready md ops l with _ | ⟨i, rest⟩
      · rfl
      · have hf := ready_false (md := md) (ops := ops) (l := l) (i := i) (by rw [e]; simp)
        have := List.count_pos_iff.2 (List.mem_of_getElem? hf)
        omega
    exact ⟨hr, hfin l a w h hr⟩
  | succ fuel ih =>
    intro l a w h hc
    refine ⟨hfin l a w h, fun i hi => wpOp_mono (fun a' w' h' => ih _ a' w' h' ?_) (hstep l a w i h hi)⟩
    have hf := ready_false hi
    have := count_set hf
    rw [Array.toList_setIfInBounds]
    omega
theorem wp_region_inv {id : Nat} {a : Act} {w : World} (hm : P.follows .mixedOrders = true) (I : Array Bool → Act → World → Prop)
    (h0 : I (Array.replicate ops.size false) a { w with drawn := w.drawn + 1 })
    (hstep : ∀ l a w i, I l a w → i ∈ Region.ready .any ops l → wpOp P ops Q i (fun a' w' => I (l.setIfInBounds i true) a' w') a w)
    (hfin : ∀ l a w, I l a w → Region.ready .any ops l = [] → Q .normal a w) : (Code.region id ops true).wp P Q a w :=
  wp_region_any hm (wpAny_inv I hstep hfin _ _ _ _ h0 (by simp))
/-- One step, handed over behind a '∀ K'', as the region's tactics do it. -/
theorem inv_step {i : Nat} {o : Oper} {a : Act} {w : World} {K : Act → World → Prop} (ho : ops[i]? = some o)
    (h : ∀ K' : Act → World → Prop, Shut (∀ a w, K a w → K' a w) → if Region.wanted o (yielded ops a.tmps) = true then Oper.wp P o a w K' Q else K' (a.put o.dst undef) w) :
    wpOp P ops Q i K a w :=
  wpOp_step ho (fun K' hK => h K' hK)
/-- What is known of the state at the beginning may be named. -/
theorem wp_region_inv_at {id : Nat} {a : Act} {w : World} (I : Act → Array Bool → Act → World → Prop) (hm : P.follows .mixedOrders = true)
    (h0 : I a (Array.replicate ops.size false) a w.drew)
    (hstep : ∀ l a' w' i, I a l a' w' → i ∈ Region.ready .any ops l → wpOp P ops Q i (fun a'' w'' => I a (l.setIfInBounds i true) a'' w'') a' w')
    (hfin : ∀ l a' w', I a l a' w' → Region.ready .any ops l = [] → Q .normal a' w') : (Code.region id ops true).wp P Q a w :=
  wp_region_inv hm (I a) h0 hstep hfin
theorem ready_dep {l : Array Bool} {i j : Nat} (hi : i ∈ Region.ready md ops l) (hw : waits md ops i j = true) : l.getD j false = true := by
  obtain ⟨o, e, ho, he, hb, heq⟩ := waits_spec hw
  obtain ⟨_, o2, ho2, hall⟩ := mem_ready.1 hi
  rw [ho] at ho2
  cases ho2
  have := hall e he hb
  rwa [heq] at this
theorem ready_off {l : Array Bool} {i : Nat} (hi : i ∈ Region.ready md ops l) : l.getD i true = false := (mem_ready.1 hi).1
/-- Nothing may come up any more: then what waits for nothing that is missing has come. -/
theorem none_left {l : Array Bool} {i : Nat} {o : Oper} (hr : Region.ready md ops l = []) (ho : ops[i]? = some o) (hall : ∀ e ∈ o.after, Region.binds md e = true → l.getD e.on false = true) : l.getD i true = true := by
  rcases h : l.getD i true with _ | _
  · exact absurd (mem_ready.2 ⟨h, o, ho, hall⟩) (by rw [hr]; simp)
  · rfl
end
end Go.Proofs.Ytgcblfaommhpbaa
