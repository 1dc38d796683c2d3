/- The program's tree. -/
import Derived.Test.YtnedljclkhpdpaaTreeBld
import Derived.Test.YtnedljclkhpdpaaTreeCnt
import Derived.Test.YtnedljclkhpdpaaTreeLaw
namespace Go.Proofs.Ytnedljclkhpdpaa
open Go.RowKit
set_option maxRecDepth 20000 in
set_option maxHeartbeats 8000000 in
theorem isleaf_yes (lev key fa ta : Nat) (k0 k1 k2 k3 : Int) (h : ((ta - fa : Nat) : Int) ≤ 4 ∨ (32 : Int) ≤ (lev : Int)) (wd : IntKind.i64.wrap ((ta : Int) - (fa : Int)) = ((ta - fa : Nat) : Int)) (w : World) :
    Calls Try.prog 29 #[.agg #[.int .i64 (lev : Int), .int .u64 (key : Int), .int .i64 (fa : Int), .int .i64 (ta : Int), .int .i64 k0, .int .i64 k1, .int .i64 k2, .int .i64 k3]] w fun e w' => e = .returned (.bool true) ∧ Below w.heap.size w w' := by
  generalize ta - fa = z at *
  by_cases h4 : (z : Int) ≤ 4
  · clear h
    go_enter Try.func29, Try.ntmps29
    go_wp2_with fail
    go_returns
    exact ⟨rfl, bb⟩
  · have h32 : (32 : Int) ≤ (lev : Int) := by omega
    clear h
    go_enter Try.func29, Try.ntmps29
    go_wp2_with fail
    go_returns
    exact ⟨rfl, bb⟩
set_option maxRecDepth 20000 in
set_option maxHeartbeats 8000000 in
theorem isleaf_no (lev key fa ta : Nat) (k0 k1 k2 k3 : Int) (h4 : ¬ ((ta - fa : Nat) : Int) ≤ 4) (h32 : ¬ (32 : Int) ≤ (lev : Int)) (wd : IntKind.i64.wrap ((ta : Int) - (fa : Int)) = ((ta - fa : Nat) : Int)) (w : World) :
    Calls Try.prog 29 #[.agg #[.int .i64 (lev : Int), .int .u64 (key : Int), .int .i64 (fa : Int), .int .i64 (ta : Int), .int .i64 k0, .int .i64 k1, .int .i64 k2, .int .i64 k3]] w fun e w' => e = .returned (.bool false) ∧ Below w.heap.size w w' := by
  generalize ta - fa = z at *
  go_enter Try.func29, Try.ntmps29
  go_wp2_with fail
  go_returns
  exact ⟨rfl, bb⟩
/-- The cells of a node whose kids are none. -/
def nd1 (lev key fa ta : Nat) : Array Value := #[.int .i64 (lev : Int), .int .u64 (key : Int), .int .i64 (fa : Int), .int .i64 (ta : Int), .int .i64 (-1), .int .i64 (-1), .int .i64 (-1), .int .i64 (-1)]
theorem Gs.box8 {b0 lev key fa ta : Nat} {w : World} {vb : Option Nat} {g cap : Nat} {C : List Nd} {W : World} (h : Gs b0 w vb (nd1 lev key fa ta) g cap C W) :
    W.cell? ⟨w.heap.size, 0, none⟩ = some (.int .i64 (lev : Int)) ∧ W.cell? ⟨w.heap.size, 1, none⟩ = some (.int .u64 (key : Int)) ∧ W.cell? ⟨w.heap.size, 2, none⟩ = some (.int .i64 (fa : Int)) ∧ W.cell? ⟨w.heap.size, 3, none⟩ = some (.int .i64 (ta : Int)) ∧
    W.cell? ⟨w.heap.size, 4, none⟩ = some (.int .i64 (-1)) ∧ W.cell? ⟨w.heap.size, 5, none⟩ = some (.int .i64 (-1)) ∧ W.cell? ⟨w.heap.size, 6, none⟩ = some (.int .i64 (-1)) ∧ W.cell? ⟨w.heap.size, 7, none⟩ = some (.int .i64 (-1)) :=
  ⟨h.boxc 0, h.boxc 1, h.boxc 2, h.boxc 3, h.boxc 4, h.boxc 5, h.boxc 6, h.boxc 7⟩
set_option maxRecDepth 20000 in
set_option maxHeartbeats 16000000 in
theorem pgrown_any : ∀ (d lev : Nat), lev + d = 32 → ∀ (w0 : World) (A : Option Addr) (n c : Nat) (L : List (Nat × Int)), Ks w0 A n L → (∀ x ∈ L, x.1 < 18446744073709551616) → n ≤ 68719476736 → n ≤ c → (∀ a b, a ≤ b → b < n → keyAt L a ≤ keyAt L b) →
    ∀ (p key fa ta : Nat), fa < ta → ta ≤ n → key = p * 2 ^ (64 - 2 * lev) → (∀ k, fa ≤ k → k < ta → keyAt L k / 2 ^ (64 - 2 * lev) = p) → ∀ (m : Nat) (O : List Nd), O.length = m → m + (d + 1) * (ta - fa) ≤ 2199023255552 →
    ∀ (v : Value) (w : World), Below w0.heap.size w0 w → w.ownsRow w0.heap.size 40 8 v m (O.map ndc).flatten →
    Calls Try.prog 21 #[v, .slice A n c, .agg (nd0 lev key fa ta)] w (Grown w0.heap.size w v.ownBlock m O (gr d (keyAt L) m lev key fa ta)) := by
  intro d
  induction d with
  | zero =>
    intro lev hd w0 A n c L hL ho hn hnc hmo p key fa ta hft htn hkey hpk m O hO hsz v w hb hown
    obtain ⟨A1, c1, rfl, hA1, hS1⟩ := S0.of_own (Ln.map ndc_len O) (by decide) hown
    have HO := Lib.hid hown; have HN := Lib.hid (And.intro hn hsz); have HB := Lib.hid hb
    have HOl := Lib.hid hO
    have l1 : (32 : Int) ≤ (lev : Int) := by omega
    have wd4 : IntKind.i64.wrap ((ta : Int) - (fa : Int)) = ((ta - fa : Nat) : Int) := by rw [IntWalk.i64_in _ (by omega)]; omega
    have KL := Lib.hid fun w => isleaf_yes lev key fa ta (-1) (-1) (-1) (-1) (Or.inr l1) wd4 w
    have HP : Hid (m + 1 ≤ 2199023255552) := by
      have h1 : 1 * 1 ≤ (0 + 1) * (ta - fa) := Nat.mul_le_mul (by omega) (by omega)
      have := HN.out.2; show _ ≤ _; omega
    clear hown hL ho hn hsz hb hd hA1 hS1 hO hft htn hkey hpk hmo hnc wd4 l1
    unfold nd0
    go_enter Try.func21, Try.ntmps21
    go_wp2_with (first
      | (at_builtin; refine wpList_append_rows nd_row rfl _ _ rfl w0.heap.size _ m (O.map ndc) rfl (own_kept HO.out (bl_al (bl_al (Below.refl _ _) _) _)) _ 1 1 [ndc ⟨lev, key, fa, ta, fun _ => -1⟩] rfl ?d1 ?d2 ?d3 ?d4 ?d5 ?d6 ?_)
      | fail)
    case d1 =>
      have k := (R0.new (s := 8) (w.alloc (.cells (nd1 lev key fa ta) 40)) 40 (C := [ndc ⟨lev, key, fa, ta, fun _ => -1⟩]) (cs := nd1 lev key fa ta) (by intro c hc; simp at hc; subst hc; rfl) rfl).slice
      simpa [nd1] using k
    case d2 => exact ndc_one [⟨lev, key, fa, ta, fun _ => -1⟩]
    case d3 => simp
    case d4 => have := HP.out; unfold maxLen; omega
    case d5 => have := HP.out; omega
    case d6 => have := HB.out.size; simp; omega
    intro v1 w1 hown1 hgrow hnil hat
    have hown1 : w1.ownsRow w0.heap.size 40 8 v1 (m + 1) ((O ++ [(⟨lev, key, fa, ta, fun _ => -1⟩ : Nd)]).map ndc).flatten := by simpa using hown1
    obtain ⟨g, cap, rfl, hgs⟩ := Gs.start (box := nd1 lev key fa ta) (box2 := nd1 lev key fa ta) HO.out hown1 hgrow (by intro e; simp [e] at hnil) hat
    have HG := Lib.hid hgs
    obtain ⟨x0, x1, x2, x3, x4, x5, x6, x7⟩ := hgs.box8
    clear hown1 hgrow hnil hat hgs
    have HR0 : Hid (gr 0 (keyAt L) m lev key fa ta = [⟨lev, key, fa, ta, fun _ => -1⟩]) := rfl
    have HR : Hid (∀ w' : World, Below w1.heap.size w1 w' → Grown w0.heap.size w (Value.slice A1 m c1).ownBlock m O (gr 0 (keyAt L) m lev key fa ta) (.returned (.slice (some ⟨g, 0, none⟩) (m + 1) cap)) w') := fun w' k => by rw [HR0.out]; exact (HG.out.below k).done HOl.out
    clear HG HR0
    go_wp2_with (first
      | (go_at_call 29; (with_reducible refine (KL.out _).mono ?_); rintro e w9 ⟨rfl, hb9⟩)
      | fail)
    go_returns
    exact HR.out _ hb9
  | succ d ih =>
    intro lev hd w0 A n c L hL ho hn hnc hmo p key fa ta hft htn hkey hpk m O hO hsz v w hb hown
    obtain ⟨A1, c1, rfl, hA1, hS1⟩ := S0.of_own (Ln.map ndc_len O) (by decide) hown
    have HO := Lib.hid hown; have HN := Lib.hid (And.intro hn hsz); have HB := Lib.hid hb
    have HOl := Lib.hid hO
    obtain ⟨B, o, rfl, hBl, hcl⟩ := hL.2 (show 0 < n by omega)
    have HL := Lib.hid hL; have H64 := Lib.hid ho; have IH := Lib.hid ih; have HD := Lib.hid hd; have HF := Lib.hid (And.intro hft htn); have HMo := Lib.hid hmo; have HKey := Lib.hid hkey; have HPk := Lib.hid hpk; have HNC := Lib.hid hnc; have HCl := Lib.hid (And.intro hBl hcl)
    have l1 : ¬ (32 : Int) ≤ (lev : Int) := by omega
    have wd4 : IntKind.i64.wrap ((ta : Int) - (fa : Int)) = ((ta - fa : Nat) : Int) := by rw [IntWalk.i64_in _ (by omega)]; omega
    have HW := Lib.hid wd4
    have HP : Hid (m + 1 ≤ 2199023255552) := by
      have h1 : 1 * 1 ≤ (d + 1 + 1) * (ta - fa) := Nat.mul_le_mul (by omega) (by omega)
      have := HN.out.2; show _ ≤ _; omega
    have KL := Lib.hid fun (h : ((ta - fa : Nat) : Int) ≤ 4) w => isleaf_yes lev key fa ta (-1) (-1) (-1) (-1) (Or.inl h) wd4 w
    have KM := Lib.hid fun (h : (4 : Int) < ((ta - fa : Nat) : Int)) w => isleaf_no lev key fa ta (-1) (-1) (-1) (-1) (by omega) l1 wd4 w
    clear hown hL ho hn hsz hb ih hd hA1 hS1 hO hft htn hkey hpk hmo hnc wd4 l1 hBl hcl
    unfold nd0
    go_enter Try.func21, Try.ntmps21
    go_wp2_with (first
      | (at_builtin; refine wpList_append_rows nd_row rfl _ _ rfl w0.heap.size _ m (O.map ndc) rfl (own_kept HO.out (bl_al (bl_al (Below.refl _ _) _) _)) _ 1 1 [ndc ⟨lev, key, fa, ta, fun _ => -1⟩] rfl ?d1 ?d2 ?d3 ?d4 ?d5 ?d6 ?_)
      | fail)
    case d1 =>
      have k := (R0.new (s := 8) (w.alloc (.cells (nd1 lev key fa ta) 40)) 40 (C := [ndc ⟨lev, key, fa, ta, fun _ => -1⟩]) (cs := nd1 lev key fa ta) (by intro c hc; simp at hc; subst hc; rfl) rfl).slice
      simpa [nd1] using k
    case d2 => exact ndc_one [⟨lev, key, fa, ta, fun _ => -1⟩]
    case d3 => simp
    case d4 => have := HP.out; unfold maxLen; omega
    case d5 => have := HP.out; omega
    case d6 => have := HB.out.size; simp; omega
    intro v1 w1 hown1 hgrow hnil hat
    have hown1 : w1.ownsRow w0.heap.size 40 8 v1 (m + 1) ((O ++ [(⟨lev, key, fa, ta, fun _ => -1⟩ : Nd)]).map ndc).flatten := by simpa using hown1
    obtain ⟨g, cap, rfl, hgs⟩ := Gs.start (box := nd1 lev key fa ta) (box2 := nd1 lev key fa ta) HO.out hown1 hgrow (by intro e; simp [e] at hnil) hat
    have HG := Lib.hid hgs
    obtain ⟨x0, x1, x2, x3, x4, x5, x6, x7⟩ := hgs.box8
    clear hown1 hgrow hnil hat hgs
    by_cases h4 : ((ta - fa : Nat) : Int) ≤ 4
    · have KL1 := Lib.hid (KL.out h4)
      have HR0 : Hid (gr (d + 1) (keyAt L) m lev key fa ta = [⟨lev, key, fa, ta, fun _ => -1⟩]) := by show gr _ _ _ _ _ _ _ = _; unfold gr; rw [if_pos (by omega)]
      have HR : Hid (∀ w' : World, Below w1.heap.size w1 w' → Grown w0.heap.size w (Value.slice A1 m c1).ownBlock m O (gr (d + 1) (keyAt L) m lev key fa ta) (.returned (.slice (some ⟨g, 0, none⟩) (m + 1) cap)) w') := fun w' k => by rw [HR0.out]; exact (HG.out.below k).done HOl.out
      clear HG HR0 KL KM h4 HW
      go_wp2_with (first
        | (go_at_call 29; (with_reducible refine (KL1.out _).mono ?_); rintro e w9 ⟨rfl, hb9⟩)
        | fail)
      go_returns
      exact HR.out _ hb9
    · have KM1 := Lib.hid (KM.out (by omega))
      have H4 : Hid (¬ ta - fa ≤ 4) := fun e => h4 (by omega)
      clear KL KM h4
      generalize hvb : (Value.slice A1 m c1).ownBlock = vb at HG
      have HVB := Lib.hid hvb
      clear hvb
      obtain ⟨j2, hj2⟩ : ∃ j2, j2 = 2 * lev := ⟨_, rfl⟩
      obtain ⟨j1, hj1⟩ : ∃ j1, j1 = 62 - 2 * lev := ⟨_, rfl⟩
      have g1 : IntKind.i64.wrap (2 * (lev : Int)) = (j2 : Int) := by rw [IntWalk.i64_in _ (by have := HD.out; omega)]; omega
      have g2 : IntKind.i64.wrap (62 - (j2 : Int)) = (j1 : Int) := by rw [IntWalk.i64_in _ (by have := HD.out; omega)]; have := HD.out; omega
      have HJ1 := Lib.hid hj1
      have s0 : (0 : Int) ≤ (fa : Int) := by omega
      have s1 : (fa : Int) ≤ (ta : Int) := by have := HF.out; omega
      have s2 : (ta : Int) ≤ (c : Int) := by have := HF.out; have := HNC.out; omega
      have s3 : (0 : Int) ≤ (ta : Int) := by omega
      have s4 : ¬ c = fa := by have := HF.out; have := HNC.out; omega
      clear hj1 hj2
      go_wp2_with (first
        | (go_at_call 29; (with_reducible refine (KM1.out _).mono ?_); rintro e w2 ⟨rfl, hb9⟩; have HG2 := Lib.hid (HG.out.below hb9); obtain ⟨y0, y1, y2, y3, _⟩ := HG2.out.box8; clear x0 x1 x2 x3 x4 x5 x6 x7 hb9 KM1)
        | fail)
      clear HG
      go_upto_region 6 with fail
      go_region_held3 (fun w' => w'.cell? ⟨w.heap.size, 0, none⟩ = some (.int .i64 (lev : Int)) ∧ w'.cell? ⟨w.heap.size, 2, none⟩ = some (.int .i64 (fa : Int))) (first | (simp [*, go_sem]; done)) (fail)
      rename_i hHeld
      clear hHeld
      have HU2 := Lib.hid (HG2.out.under HB.out (fun r hr => by rw [← HVB.out] at hr; exact own_block HO.out r hr))
      have HKs := Lib.hid (HL.out.below HU2.out)
      obtain ⟨arr, harr⟩ : ∃ arr, arr = (cl (fun j => keyAt L (fa + j)) lev (ta - fa)).toArray := ⟨_, rfl⟩
      have KC : Hid (Calls Try.prog 30 #[.slice (some ⟨B, o + fa * 2, none⟩) (ta - fa) (c - fa), .int .i64 (j1 : Int)] w2.drew fun e w' => e = .returned (.agg arr) ∧ Below w2.drew.heap.size w2.drew w') := by
        rw [HJ1.out, harr]
        refine counts_any (fun j => keyAt L (fa + j)) lev (by have := HD.out; omega) B (o + fa * 2) (ta - fa) (c - fa) ?_ ?_ w2.drew (Nat.lt_of_lt_of_le HCl.out.1 HU2.out.size) ?_
        · have := HF.out; have := HN.out; omega
        · intro j hj
          have hx : L[fa + j]? = some (L[fa + j]'(by rw [HL.out.1]; have := HF.out; omega)) := List.getElem?_eq_getElem _
          show (L[fa + j]?.getD (0, 0)).1 < _
          rw [hx]; exact H64.out _ (List.mem_of_getElem? hx)
        · intro j hj
          have hx : L[fa + j]? = some (L[fa + j]'(by rw [HL.out.1]; have := HF.out; omega)) := List.getElem?_eq_getElem _
          obtain ⟨c0, c1⟩ := HCl.out.2 (fa + j) _ hx
          have e : o + (fa + j) * 2 = o + fa * 2 + j * 2 := by omega
          rw [e] at c0 c1
          refine ⟨?_, _, (HU2.out.cell (p := ⟨B, o + fa * 2 + j * 2 + 1, none⟩) HCl.out.1).trans c1⟩
          show w2.cell? _ = some (.int .u64 (((L[fa + j]?.getD (0, 0)).1 : Nat) : Int))
          rw [hx]
          exact (HU2.out.cell (p := ⟨B, o + fa * 2 + j * 2, none⟩) HCl.out.1).trans c0
      have HA : Hid (∀ q : Nat, q < 4 → ∀ W : World, (Instr.index 38 (.agg arr) (.int .i64 (q : Int))).run Try.prog W = .ok (.int .i64 (cp (keyAt L) lev q fa (ta - fa) : Int)) W) := fun q hq W => by
        rw [harr, idx4 _ _ _ hq, cp_shift]
      clear harr
      go_wp2_with (first
        | (go_at_call 30; (with_reducible refine KC.out.mono ?_); rintro e w3 ⟨rfl, hb3⟩; have HG3 := Lib.hid (HG2.out.drew.below hb3); clear hb3 y0 y1 y2 y3 KC HU2 HKs)
        | fail)
      clear HG2
      have HR : Hid (∀ W' g' cap', Gs w0.heap.size w vb (nd1 lev key fa ta) g' cap' (O ++ (⟨lev, key, fa, ta, (ku (fun a k f t => gr d (keyAt L) a (lev + 1) k f t) (keyAt L) lev m ta fa 4).2.2⟩ : Nd) :: (ku (fun a k f t => gr d (keyAt L) a (lev + 1) k f t) (keyAt L) lev m ta fa 4).1) W' →
          Grown w0.heap.size w (Value.slice A1 m c1).ownBlock m O (gr (d + 1) (keyAt L) m lev key fa ta) (.returned (.slice (some ⟨g', 0, none⟩) (m + 1 + (ku (fun a k f t => gr d (keyAt L) a (lev + 1) k f t) (keyAt L) lev m ta fa 4).1.length) cap')) W') := fun W' g' cap' h => by
        have e : gr (d + 1) (keyAt L) m lev key fa ta = ⟨lev, key, fa, ta, (ku (fun a k f t => gr d (keyAt L) a (lev + 1) k f t) (keyAt L) lev m ta fa 4).2.2⟩ :: (ku (fun a k f t => gr d (keyAt L) a (lev + 1) k f t) (keyAt L) lev m ta fa 4).1 := by
          show (if ta - fa ≤ 4 then _ else _) = _
          rw [if_neg H4.out]
        have k := h.done HOl.out
        rw [HVB.out, e, show m + 1 + (ku (fun a k f t => gr d (keyAt L) a (lev + 1) k f t) (keyAt L) lev m ta fa 4).1.length = m + (⟨lev, key, fa, ta, (ku (fun a k f t => gr d (keyAt L) a (lev + 1) k f t) (keyAt L) lev m ta fa 4).2.2⟩ :: (ku (fun a k f t => gr d (keyAt L) a (lev + 1) k f t) (keyAt L) lev m ta fa 4).1 : List Nd).length by rw [List.length_cons]; omega]
        exact k
      have HRec : Hid (∀ a k f t, f < t → (gr d (keyAt L) a (lev + 1) k f t).length ≤ (d + 1) * (t - f)) := fun a k f t h => gr_len d (keyAt L) a (lev + 1) k f t h
      have HG2 : Hid (Gs w0.heap.size w vb (nd1 lev key fa ta) g cap (O ++ (⟨lev, key, fa, ta, (ku (fun a k f t => gr d (keyAt L) a (lev + 1) k f t) (keyAt L) lev m ta fa 0).2.2⟩ : Nd) :: (ku (fun a k f t => gr d (keyAt L) a (lev + 1) k f t) (keyAt L) lev m ta fa 0).1) w3) := HG3.out
      generalize hrec : (fun a k f t => gr d (keyAt L) a (lev + 1) k f t) = rec_ at HG2 HR
      have HRE : Hid (∀ a k f t, rec_ a k f t = gr d (keyAt L) a (lev + 1) k f t) := fun a k f t => by rw [← hrec]
      have m0 : (0 : Int) ≤ (m : Int) := by omega
      clear H4 hrec HG3 g1 g2 s0 s1 s2 s3 s4 HW
      go_loopg [0, 9, 38] 4 (fun z ov fv qv wr => ∃ (q g cap f : Nat) (o2 : List Nd) (kk : Nat → Int), q + z = 4 ∧ qv = .int .i64 (q : Int) ∧ fv = .int .i64 (f : Int) ∧ ov = .slice (some ⟨g, 0, none⟩) (m + 1 + o2.length) cap ∧ ku rec_ (keyAt L) lev m ta fa q = (o2, f, kk) ∧ Gs w0.heap.size w vb (nd1 lev key fa ta) g cap (O ++ (⟨lev, key, fa, ta, kk⟩ : Nd) :: o2) wr)
      case atStart => exact ⟨0, g, cap, fa, [], fun _ => -1, rfl, rfl, rfl, rfl, rfl, HG2.out⟩
      case round =>
        obtain ⟨q, g, cap, f, o2, kk, hq, rfl, rfl, rfl, he, hgs⟩ := hrel
        have HE := Lib.hid he; have HGq := Lib.hid hgs
        have HK := Lib.hid (kid_ok (K := keyAt L) (n := n) (p := p) (by have := HD.out; omega : lev ≤ 31) (by have := HF.out; omega : fa ≤ ta) HF.out.2 HMo.out HPk.out he)
        clear he hgs HG2
        by_cases hlt : q < 4
        · obtain ⟨z, rfl⟩ : ∃ z, gk = z + 1 := ⟨gk - 1, by omega⟩
          have HQ : Hid (q < 4 ∧ q + (z + 1) = 4) := ⟨hlt, hq⟩
          have q1 : (q : Int) < 4 := by omega
          have q0 : (0 : Int) ≤ (q : Int) := by omega
          have wq : IntKind.i64.wrap ((q : Int) + 1) = (q : Int) + 1 := by rw [IntWalk.i64_in _ (by omega)]
          have ha := HA.out q hlt
          obtain ⟨ct, hct⟩ : ∃ ct, ct = cp (keyAt L) lev q fa (ta - fa) := ⟨_, rfl⟩
          rw [← hct] at ha
          have HCt := Lib.hid hct
          clear hlt hq HR hct
          by_cases h0 : ct = 0
          · have c0 : (ct : Int) = 0 := by omega
            rw [c0] at ha
            have HT2 : Hid (ku rec_ (keyAt L) lev m ta fa (q + 1) = (o2, f, kk)) := by
              have k := ku_no HE.out HK.out.1 (by rw [← HCt.out, h0]; omega)
              rw [← HCt.out, h0] at k
              exact k
            clear h0 c0
            go_wp2_with fail
            go_roundg z
            case measure => omega
            case rel =>
              refine ⟨q + 1, g, cap, f, o2, kk, by have := HQ.out.2; omega, by simp, rfl, rfl, HT2.out, HGq.out⟩
          · have n0 : ((ct : Int) == 0) = false := by rw [beq_eq_false_iff_ne]; omega
            have n1 : ¬ (ct : Int) = 0 := by omega
            have n2 : (ct == 0) = false := by rw [beq_eq_false_iff_ne]; omega
            obtain ⟨x0, x1, x2, x3, _⟩ := HGq.out.box8
            have xl := HGq.out.boxlt
            obtain ⟨hk1, hk2, hk3⟩ := HK.out
            rw [← HCt.out] at hk1 hk2 hk3
            obtain ⟨hk3, hk4⟩ := hk3 (by omega)
            obtain ⟨l2, hl2⟩ : ∃ l2, l2 = lev + 1 := ⟨_, rfl⟩
            obtain ⟨t2, ht2⟩ : ∃ t2, t2 = f + ct := ⟨_, rfl⟩
            obtain ⟨sq, hsq⟩ : ∃ sq, sq = q * 2 ^ j1 := ⟨_, rfl⟩
            obtain ⟨ck, hck⟩ : ∃ ck, ck = cutk (keyAt L f) lev := ⟨_, rfl⟩
            have kf64 : keyAt L f < 18446744073709551616 := by
              have hx : L[f]? = some (L[f]'(by rw [HL.out.1]; have := HF.out; omega)) := List.getElem?_eq_getElem _
              show (L[f]?.getD (0, 0)).1 < _
              rw [hx]; exact H64.out _ (List.mem_of_getElem? hx)
            have hck64 : ck < 18446744073709551616 := by
              rw [hck]; unfold cutk
              exact Nat.lt_of_le_of_lt (Nat.div_mul_le_self _ _) kf64
            have hcs : ck = key + sq := by rw [hck, hk3, hsq, HKey.out, HJ1.out]
            have g3 : (j1 : Int) < 64 := by have := HJ1.out; omega
            have g4 : ¬ (j1 : Int) < 0 := by omega
            have g5 : IntKind.i64.wrap ((lev : Int) + 1) = (l2 : Int) := by rw [IntWalk.i64_in _ (by have := HD.out; omega)]; omega
            have g6 : IntKind.u64.wrap (q : Int) = (q : Int) := IntWalk.u64_in _ (by omega)
            have g7 : IntKind.u64.wrap ((q : Int) * 2 ^ j1) = (sq : Int) := by
              have e : (q : Int) * 2 ^ j1 = (sq : Int) := by rw [hsq]; simp
              rw [e]; exact IntWalk.u64_in _ (by omega)
            have g8 : bits .or .u64 (key : Int) (sq : Int) = (ck : Int) := by
              have k := or_kid (lev := lev) (p := p) (by have := HD.out; omega) HQ.out.1 (by rw [← hk3, ← hck]; exact hck64)
              rw [← HKey.out, ← HJ1.out, ← hsq, ← hcs] at k
              exact k
            have g9 : IntKind.i64.wrap ((f : Int) + (ct : Int)) = (t2 : Int) := by rw [IntWalk.i64_in _ (by have := HF.out; have := HN.out; omega)]; omega
            have HT2 : Hid (ku rec_ (keyAt L) lev m ta fa (q + 1) = (o2 ++ rec_ (m + 1 + o2.length) ck f t2, t2, fun i => if i = q then ((m + 1 + o2.length : Nat) : Int) else kk i)) := by
              rw [hck, ht2]; exact ku_yes HE.out hk1 (by omega)
            have HX : Hid (f < t2 ∧ t2 ≤ ta ∧ fa ≤ f ∧ l2 = lev + 1 ∧ (ck = (4 * p + q) * 2 ^ (64 - 2 * l2)) ∧ (∀ k, f ≤ k → k < t2 → keyAt L k / 2 ^ (64 - 2 * l2) = 4 * p + q)) := by
              refine ⟨by omega, by omega, by omega, hl2, ?_, by rw [hl2, ht2]; exact hk4⟩
              rw [hck, hk3, hl2]; exact key_kid (by have := HD.out; omega)
            clear hk1 hk2 hk3 hk4 hck hck64 kf64 hcs hsq ht2 hl2 HK
            go_upto_region 11 with fail
            go_region_held3 (fun w' => w'.cell? ⟨w.heap.size, 0, none⟩ = some (.int .i64 (lev : Int)) ∧ w'.cell? ⟨w.heap.size, 1, none⟩ = some (.int .u64 (key : Int))) (first | (simp [*, go_sem]; done)) (fail)
            rename_i hHeld
            clear hHeld
            have HN8 : Hid ([Value.int .i64 (l2 : Int), .int .u64 (ck : Int), .int .i64 (f : Int), .int .i64 (t2 : Int), .int .i64 0, .int .i64 0, .int .i64 0, .int .i64 0] = (nd0 l2 ck f t2).toList) := rfl
            go_upto_region 12 with fail
            refine nw _ fun R hR => ?_
            have HGR : Hid (Gs w0.heap.size w vb (nd1 lev key fa ta) g cap (O ++ (⟨lev, key, fa, ta, kk⟩ : Nd) :: o2) R) := by rw [hR]; exact (HGq.out.alloc _).drew
            have HBx : Hid (Bx 40 R wr.heap.size (nd0 l2 ck f t2).toList) := by rw [hR, ← HN8.out]; exact (Bx.new wr _ _).drew
            have gne : g < wr.heap.size := HGq.out.lt
            generalize wr.heap.size = kb at *
            clear hR x0 x1 x2 x3 xl HGq
            have zg := HGR.out.lt
            have fg := HGR.out.frz
            have hget := ndc_get O o2 ⟨lev, key, fa, ta, kk⟩
            rw [HOl.out] at hget
            have cg : ∃ u, R.cell? ⟨g, m * 8 + (4 + q), none⟩ = some u := by
              rcases (show q = 0 ∨ q = 1 ∨ q = 2 ∨ q = 3 by have := HQ.out; omega) with rfl | rfl | rfl | rfl
              · exact ⟨_, HGR.out.own.cell hget rfl⟩
              · exact ⟨_, HGR.out.own.cell hget rfl⟩
              · exact ⟨_, HGR.out.own.cell hget rfl⟩
              · exact ⟨_, HGR.out.own.cell hget rfl⟩
            obtain ⟨u, cg⟩ := cg
            have cg2 : R.cell? ⟨g, m * 8 + 4 + q, none⟩ = some u := by rw [show m * 8 + 4 + q = m * 8 + (4 + q) by omega]; exact cg
            have ml : (m : Int) < ((m + 1 + o2.length : Nat) : Int) := by omega
            clear hget cg
            go_upto_region 13 with fail
            refine nw _ fun R2 hR2 => ?_
            have HG2 : Hid (Gs w0.heap.size w vb (nd1 lev key fa ta) g cap (O ++ (⟨lev, key, fa, ta, fun i => if i = q then ((m + 1 + o2.length : Nat) : Int) else kk i⟩ : Nd) :: o2) R2) := by
              have k := HGR.out.kid (q := q) HQ.out.1 ((m + 1 + o2.length : Nat) : Int)
              rw [HOl.out] at k
              rw [hR2]; exact k
            have HB2 : Hid (Bx 40 R2 kb (nd0 l2 ck f t2).toList) := by rw [hR2]; exact HBx.out.far (by show kb ≠ g; omega) _
            clear hR2 zg fg cg2 HGR HBx
            have b0 := HB2.out.cell (j := 0) rfl; have b1 := HB2.out.cell (j := 1) rfl; have b2 := HB2.out.cell (j := 2) rfl; have b3 := HB2.out.cell (j := 3) rfl
            have b4 := HB2.out.cell (j := 4) rfl; have b5 := HB2.out.cell (j := 5) rfl; have b6 := HB2.out.cell (j := 6) rfl; have b7 := HB2.out.cell (j := 7) rfl
            have HU2 := Lib.hid (HG2.out.under HB.out (fun r hr => by rw [← HVB.out] at hr; exact own_block HO.out r hr))
            have hlen2 : (O ++ (⟨lev, key, fa, ta, fun i => if i = q then ((m + 1 + o2.length : Nat) : Int) else kk i⟩ : Nd) :: o2).length = m + 1 + o2.length := by
              rw [List.length_append, HOl.out, List.length_cons]; omega
            have KG : Hid (Calls Try.prog 21 #[.slice (some ⟨g, 0, none⟩) (m + 1 + o2.length) cap, .slice (some ⟨B, o, none⟩) n c, .agg #[.int .i64 (l2 : Int), .int .u64 (ck : Int), .int .i64 (f : Int), .int .i64 (t2 : Int), .int .i64 0, .int .i64 0, .int .i64 0, .int .i64 0]] R2
                (Grown w0.heap.size R2 (some g) (m + 1 + o2.length) (O ++ (⟨lev, key, fa, ta, fun i => if i = q then ((m + 1 + o2.length : Nat) : Int) else kk i⟩ : Nd) :: o2) (rec_ (m + 1 + o2.length) ck f t2))) := by
              have own := HG2.out.own.own (base := w0.heap.size) (by decide) HG2.out.gb HG2.out.cm
              rw [List.length_map, hlen2] at own
              have kl := ku_len (rec := rec_) (d := d + 1) (fun a k f t h => by rw [HRE.out]; exact HRec.out a k f t h) (keyAt L) lev m ta fa (by have := HF.out; omega) q
              rw [HE.out] at kl
              obtain ⟨x1, x2, x3, x4, x5, x6⟩ := HX.out
              have s1 : (d + 1) * (f - fa) + (d + 1) * (t2 - f) = (d + 1) * (t2 - fa) := by rw [← Nat.mul_add]; congr 1; omega
              have s2 : (d + 1) * (t2 - fa) ≤ (d + 1) * (ta - fa) := Nat.mul_le_mul_left _ (by omega)
              have s3 : (d + 1 + 1) * (ta - fa) = (d + 1) * (ta - fa) + (ta - fa) := by rw [Nat.add_mul (d + 1) 1]; omega
              have k := IH.out l2 (by have := HD.out; omega) w0 (some ⟨B, o, none⟩) n c L HL.out H64.out HN.out.1 HNC.out HMo.out (4 * p + q) ck f t2 x1 (by have := HF.out; omega) x5 x6 (m + 1 + o2.length) _ hlen2 (by have := HN.out.2; have := HF.out; simp only at kl; omega) _ R2 HU2.out own
              rw [HRE.out, ← x4]
              exact k
            clear hlen2
            go_wp2_with (first
              | (go_at_call 21; (with_reducible refine KG.out.mono ?_); intro e w9 hgrown; have hb9 : Bx 40 w9 kb (nd0 l2 ck f t2).toList := (by obtain ⟨_, _, _, hgr, _⟩ := hgrown; exact HB2.out.block (hgr.block kb HB2.out.lt (fun e => by injection e with e; omega))); obtain ⟨g', cap', rfl, hgs'⟩ := HG2.out.next hgrown (by omega); have HG3 := Lib.hid hgs'; have y3 : w9.cell? ⟨kb, 3, none⟩ = some (.int .i64 (t2 : Int)) := hb9.cell (j := 3) rfl; clear hgrown hgs' hb9 b0 b1 b2 b3 b4 b5 b6 b7 KG HG2 HB2 HU2)
              | fail)
            go_roundg z
            case measure => omega
            case rel =>
              refine ⟨q + 1, g', cap', t2, _, _, by have := HQ.out.2; omega, by simp, rfl, ?_, HT2.out, ?_⟩
              · rw [List.length_append]; congr 1; omega
              · have k := HG3.out
                simp only [List.append_assoc, List.cons_append] at k
                exact k
        · obtain rfl : q = 4 := by omega
          have q1 : ¬ ((4 : Nat) : Int) < 4 := by omega
          have hz := HR.out wr g cap (by rw [HE.out]; exact HGq.out)
          rw [HE.out] at hz
          have HZ := Lib.hid hz
          clear hz HR HE HGq HK hlt
          go_wp2_with fail
          go_returns
          exact HZ.out
set_option maxRecDepth 20000 in
set_option maxHeartbeats 8000000 in
theorem trising_any (A : Option Addr) (n c : Nat) (L : List (Nat × Int)) (hn : n < 9223372036854775807) (w : World) (hL : Ks w A n L) :
    Calls Try.prog 20 #[.slice A n c] w fun e w' => e = .returned (.bool (rs L)) ∧ Below w.heap.size w w' := by
  have HL := Lib.hid hL; clear hL
  have HN := Lib.hid hn; clear hn
  go_enter Try.func20, Try.ntmps20
  go_wp2_with fail
  go_loopg [3] n (fun k iv wr => ∃ i : Nat, 1 ≤ i ∧ n ≤ i + k ∧ i + k ≤ n + 1 ∧ iv = .int .i64 (i : Int) ∧ rs (L.take i) = true ∧ Below w.heap.size w wr)
  case atStart => exact ⟨1, by omega, by omega, by omega, rfl, by cases L <;> rfl, Below.refl _ _⟩
  case round =>
    obtain ⟨i, hi1, hk, hk2, rfl, hr, hbl⟩ := hrel
    obtain ⟨j, hj⟩ : ∃ j, i = j + 1 := ⟨i - 1, by omega⟩
    have HJ := Lib.hid hj
    have HB := Lib.hid hbl
    have HR := Lib.hid hr
    have h9 := HN.out
    clear hbl hr
    by_cases hlt : i < n
    · obtain ⟨G, o, x, rfl, hb, hx, c0, _⟩ := (HL.out.below HB.out).at_ (k := j) (by omega)
      obtain ⟨G', o', y, e, _, hy, d0, _⟩ := (HL.out.below HB.out).at_ (k := i) hlt
      obtain ⟨rfl, rfl⟩ : G = G' ∧ o = o' := by simpa using e
      have hi : (i : Int) < (n : Int) := by omega
      have h0 : (0 : Int) ≤ (i : Int) := by omega
      have h1 : (0 : Int) ≤ (j : Int) := by omega
      have h2 : (j : Int) < (n : Int) := by omega
      have wi : IntKind.i64.wrap ((i : Int) + 1) = (i : Int) + 1 := by rw [IntWalk.i64_in _ (by omega)]
      have wj : IntKind.i64.wrap ((i : Int) - 1) = (j : Int) := by rw [IntWalk.i64_in _ (by omega)]; omega
      have HK : Hid (n ≤ i + gk ∧ i + gk ≤ n + 1) := ⟨hk, hk2⟩
      have HY : Hid (L[j + 1]? = some y) := by show _ = _; rw [← hj]; exact hy
      have HX := Lib.hid hx
      clear e hx hy hk hk2 h9 hj
      go_upto_region 4 with fail
      go_region_held3 (fun w' => w'.cell? ⟨G, o + j * 2, none⟩ = some (.int .u64 (x.1 : Int)) ∧ w'.cell? ⟨G, o + i * 2, none⟩ = some (.int .u64 (y.1 : Int))) (first | (simp [*, go_sem]; done)) (fail)
      rename_i hHeld
      clear hHeld
      by_cases hc : y.1 < x.1
      · have E : Hid (false = rs L) := by show _ = _; rw [rs_false HX.out HY.out (by omega)]
        go_wp2_with fail
        go_returns
        exact ⟨ret_bool E.out, bb⟩
      · go_wp2_with fail
        obtain ⟨g, rfl⟩ : ∃ g, gk = g + 1 := ⟨gk - 1, by have := HK.out; omega⟩
        go_roundg g
        case measure => omega
        case rel =>
          refine ⟨i + 1, by omega, by have := HK.out; omega, by have := HK.out; omega, by simp, ?_, bb⟩
          have q := rs_take L j x y HX.out HY.out
          have r := HR.out
          rw [HJ.out] at r ⊢
          rw [q, r, Bool.true_and, decide_eq_true_eq]; omega
    · have E : Hid (true = rs L) := by
        show _ = _
        have r := HR.out
        rw [List.take_of_length_le (by have := HL.out.1; omega)] at r
        rw [r]
      have hi : ¬ (i : Int) < (n : Int) := by omega
      go_wp2_with fail
      go_returns
      exact ⟨ret_bool E.out, bb⟩
theorem rs_mono {L : List (Nat × Int)} {n : Nat} (hl : L.length = n) (h : rs L = true) : ∀ a b, a ≤ b → b < n → keyAt L a ≤ keyAt L b := by
  intro a b hab hb
  rcases Nat.eq_or_lt_of_le hab with e | e
  · rw [e]; exact Nat.le_refl _
  · have k := List.pairwise_iff_getElem.1 ((rs_pair L).1 h) a b (by omega) (by omega) e
    unfold keyAt
    rw [List.getElem?_eq_getElem (by omega : a < L.length), List.getElem?_eq_getElem (by omega : b < L.length)]
    exact k
set_option maxRecDepth 20000 in
set_option maxHeartbeats 8000000 in
theorem bld_prog : BldT := by
  intro A n c L hn hA ho hnc w hL
  have HL := Lib.hid hL; have HO := Lib.hid ho
  clear hL ho
  by_cases h0 : n = 0
  · subst h0
    have hb : Hid (bld 0 L = []) := rfl
    go_enter Try.func12, Try.ntmps12
    go_wp2_with fail
    go_returns
    rw [hb.out]
    exact Bld.nil _ _ (Below.refl _ _)
  · have n0 : ((n : Int) == 0) = false := by rw [beq_eq_false_iff_ne]; omega
    have n1 : (n == 0) = false := by rw [beq_eq_false_iff_ne]; omega
    have n2 : ¬ (n : Int) = 0 := by omega
    have KR := trising_any A n c L (by omega) w HL.out
    have KG : rs L = true → ∀ w1, Below w.heap.size w w1 → Calls Try.prog 21 #[.slice none 0 0, .slice A n c, .agg #[.int .i64 0, .int .u64 0, .int .i64 0, .int .i64 (n : Int), .int .i64 0, .int .i64 0, .int .i64 0, .int .i64 0]] w1 (Grown w.heap.size w1 none 0 [] (gr 32 (keyAt L) 0 0 0 0 n)) := fun hr w1 hb =>
      pgrown_any 32 0 rfl w A n c L HL.out HO.out (by omega) hnc (rs_mono HL.out.1 hr) 0 0 0 n (by omega) (by omega) rfl (fun k _ h => by
        have hx : L[k]? = some (L[k]'(by rw [HL.out.1]; exact h)) := List.getElem?_eq_getElem _
        have h64 : keyAt L k < 18446744073709551616 := by
          show (L[k]?.getD (0, 0)).1 < _
          rw [hx]; exact HO.out _ (List.mem_of_getElem? hx)
        exact Nat.div_eq_of_lt (by simpa using h64)) 0 [] rfl (by omega) (.slice none 0 0) w1 hb ⟨by simp, Or.inl ⟨rfl, rfl⟩⟩
    clear hn hA hnc
    by_cases hr : rs L = false
    · have HB : Hid (bld n L = []) := by show bld n L = _; unfold bld; rw [if_pos (Or.inr hr)]
      rw [hr] at KR
      clear KG
      go_enter Try.func12, Try.ntmps12
      go_wp2_with (first
        | (go_at_call 20; (with_reducible refine KR.mono ?_); rintro e w9 ⟨rfl, hb9⟩)
        | fail)
      rw [HB.out]
      first
        | (go_returns; exact Bld.nil _ _ hb9)
        | (refine bodyPost_ret (by simp [results, Try.results12, go_sem]; try rfl) rfl ?_; exact Bld.nil _ _ hb9)
    · have HB : Hid (bld n L = gr 32 (keyAt L) 0 0 0 0 n) := by show bld n L = _; unfold bld; rw [if_neg (by simp [h0, hr])]
      have KG := Lib.hid (KG (by simpa using hr))
      rw [show rs L = true by simpa using hr] at KR
      go_enter Try.func12, Try.ntmps12
      go_wp2_with (first
        | (go_at_call 20; (with_reducible refine KR.mono ?_); rintro e w9 ⟨rfl, hb9⟩)
        | (go_at_call 21; (with_reducible refine (KG.out _ hb9).mono ?_); intro e w8 hgr; have hb8 := Bld.of hb9 hgr; obtain ⟨v8, rfl, _⟩ := hgr)
        | fail)
      rw [HB.out]
      first
        | (go_returns; exact hb8)
        | (refine bodyPost_ret (by simp [results, Try.results12, go_sem]; try rfl) rfl ?_; exact hb8)
set_option maxRecDepth 20000 in
set_option maxHeartbeats 8000000 in
theorem width_1 (z n : Int) (j : Nat) (c : z = (j : Int)) (d : j ≤ 32) (e : (4294967296 : Int) / 2 ^ j = n) (w : World) :
    Calls Try.prog 15 #[.int .i64 z] w fun e w' => e = .returned (.agg #[.int .i64 n, .int .u64 0]) ∧ Below w.heap.size w w' := by
  subst c
  have c1 : ¬ (j : Int) < 0 := by omega
  have c2 : (j : Int) ≤ 32 := by omega
  have c3 : (0 : Int) ≤ (j : Int) := by omega
  have c4 : ¬ (32 : Int) < (j : Int) := by omega
  have c5 : (j : Int) < 64 := by omega
  go_enter Try.func15, Try.ntmps15
  go_wp2_with fail
  refine bodyPost_ret (by simp [results, Try.results15, go_sem, *]; try rfl) rfl ?_
  exact ⟨rfl, bb⟩
theorem width_0 (z : Int) (c : z < 0) (w : World) :
    Calls Try.prog 15 #[.int .i64 z] w fun e w' => e = .returned (.agg #[.int .i64 4294967296, .int .u64 0]) ∧ Below w.heap.size w w' := by
  have c2 : ¬ (0 : Int) ≤ z := by omega
  go_enter Try.func15, Try.ntmps15
  go_wp2_with fail
  refine bodyPost_ret (by simp [results, Try.results15, go_sem, *]; try rfl) rfl ?_
  exact ⟨rfl, bb⟩
theorem width_2 (z : Int) (c : 32 < z) (w : World) :
    Calls Try.prog 15 #[.int .i64 z] w fun e w' => e = .returned (.agg #[.int .i64 1, .int .u64 0]) ∧ Below w.heap.size w w' := by
  have c2 : ¬ z ≤ 32 := by omega
  have c3 : ¬ z < 0 := by omega
  have c4 : 0 ≤ z := by omega
  go_enter Try.func15, Try.ntmps15
  go_wp2_with fail
  refine bodyPost_ret (by simp [results, Try.results15, go_sem, *]; try rfl) rfl ?_
  exact ⟨rfl, bb⟩
theorem wid_prog : WidT := by
  intro z W
  rcases (show z < 0 ∨ 32 < z ∨ (0 ≤ z ∧ z ≤ 32) by omega) with c | c | c
  · have e : wid z = .agg #[.int .i64 4294967296, .int .u64 0] := by
      have : wlev z = 0 := by unfold wlev; rw [if_pos c]
      unfold wid; rw [this]; rfl
    rw [e]; exact width_0 z c W
  · have e : wid z = .agg #[.int .i64 1, .int .u64 0] := by
      have : wlev z = 32 := by unfold wlev; rw [if_neg (by omega), if_pos c]
      unfold wid; rw [this]; rfl
    rw [e]; exact width_2 z c W
  · obtain ⟨j, rfl⟩ := Int.eq_ofNat_of_zero_le c.1
    have hl : wlev (j : Int) = j := by unfold wlev; rw [if_neg (by omega), if_neg (by omega)]; omega
    unfold wid
    rw [hl]
    refine width_1 (j : Int) _ j rfl (by omega) ?_ W
    have hj : j ≤ 32 := by omega
    have k : ∀ j : Nat, j < 33 → (4294967296 : Int) / 2 ^ j = ((2 ^ (32 - j) : Nat) : Int) := by decide
    exact k j (by omega)
end Go.Proofs.Ytnedljclkhpdpaa
