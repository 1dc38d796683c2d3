/- MassAll of any bodies, from what Centre, Keyed, Cells come to. -/
import Derived.Test.YtjilnmpajhifcaaGreatMassAllC
import Derived.Test.YtjilnmpajhifcaaGreatMassRef
namespace Go.Proofs.YtjilnmpajhifcaaGreat
open Go.RowKit
theorem rsub_prog : RSubT := fun x y hx hy h W => by
  have k := rsub_any x y hx hy W
  rw [ov_in h, oe_in h] at k; exact k
theorem rcmp_prog : RCmpT := fun x y W => rfcmp_any x y W
theorem rdivg_prog : RDivG := fun x y hx hy h W => rdivf_any x y hx hy h W
set_option maxRecDepth 20000 in
set_option maxHeartbeats 8000000 in
theorem massAll_no (C : CenT) (N0 : Ct 13 #[.int .i64 0] (.int .i64 0)) (A : Option Addr) (n c : Nat) (w : World) (D4 : Calls Tryz.prog 5 #[.slice A n c] w fun e w' => e = .returned (.bool false) ∧ Below w.heap.size w w') :
    Calls Tryz.prog 3 #[.slice A n c] w fun e w' => e = .returned (.bool true) ∧ Below w.heap.size w w' := by
  have KW := Lib.hid (mswake_any C N0); have K4 := Lib.hid D4
  clear C N0 D4
  go_enter Tryz.func3, Tryz.ntmps3
  go_wp2_with fail
  refine K4.out.mono ?_
  rintro e w1 ⟨rfl, hb1⟩
  have B1 := Lib.hid hb1
  clear hb1 K4
  go_wp2_with fail
  refine (KW.out _).mono ?_
  rintro e w2 ⟨rfl, hb2⟩
  have B2 := Lib.hid (bl_trans B1.out hb2)
  clear hb2
  go_wp2_with fail
  go_returns
  exact ⟨rfl, B2.out⟩
theorem massAll_any (C : CenT) (CN : CenNT) (KY : KeyT) (CE : CelT) (A : Option Addr) (n c : Nat) (L : List Bod) (hA : A = none → n = 0 ∧ c = 0) (hf : ∀ b ∈ L, Fb b) (hn : n ≤ maxLen) (w : World) (hL : Bds w A n L) :
    Calls Tryz.prog 3 #[.slice A n c] w fun e w' => e = .returned (.bool true) ∧ Below w.heap.size w w' := by
  have M := fun W hW => lmay_any rcmp_prog rsub_prog rdivg_prog A n c L hf hn W hW
  by_cases h : mayl n L = true
  · rw [h] at M
    unfold mayl at h
    rw [Bool.and_eq_true, decide_eq_true_eq, List.all_eq_true] at h
    have hok : ∀ b ∈ L, Mb b := fun b hb => mayb_Mb (h.2 b hb)
    have hl := hL.len
    by_cases h0 : n = 0
    · subst h0
      have z : fh 0 = 0 := by decide
      have z' : fl 0 = 0 := by decide
      refine massAll_yes C KY CE rcen_prog (num_any 0) A 0 c L hA (by decide) hok w hL M 1 0 0 0 (num_any 1) (fun W _ => ?_) (fun W _ => ?_)
      · rw [z, z']; exact CN A c W
      · rw [z, z']; exact rcentre_none A c W
    · exact massAll_yes C KY CE rcen_prog (num_any 0) A n c L hA h.1 hok w hL M 0 _ _ _ (num_any 0) (fun W hW => C A n c L (by omega) (by omega) hok W hW) (fun W hW => rcen_prog A n c L (by omega) (by omega) hok W hW)
  · rw [show mayl n L = false by simpa using h] at M
    exact massAll_no C (num_any 0) A n c w (M w hL)
end Go.Proofs.YtjilnmpajhifcaaGreat
