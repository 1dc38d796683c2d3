/- Order of numbers of four words; shifts: what each function of the package comes to. -/
import Derived.Test.YtmelipbanbihdaaLimb
namespace Go.Proofs.Ytmelipbanbihdaa
open Go.RowKit

theorem cmp_any (a3 a2 a1 a0 b3 b2 b1 b0 : Int) (ha3 : Wd a3) (ha2 : Wd a2) (ha1 : Wd a1) (ha0 : Wd a0) (hb3 : Wd b3) (hb2 : Wd b2) (hb1 : Wd b1) (hb0 : Wd b0) (w : World) :
    Calls Try.prog 78 #[.agg #[.int .u64 a3, .int .u64 a2, .int .u64 a1, .int .u64 a0], .agg #[.int .u64 b3, .int .u64 b2, .int .u64 b1, .int .u64 b0]] w fun e w' =>
      e = .returned (.int .i64 (icmp ((v4 a3 a2 a1 a0 : Nat) : Int) ((v4 b3 b2 b1 b0 : Nat) : Int))) ∧ Below w.heap.size w w' := by
  have E := Lib.hid (icmp_four (a3 := a3) (a2 := a2) (b3 := b3) (b2 := b2) ha1 ha0 hb1 hb0)
  go_enter Try.func78, Try.ntmps78
  go_wp2
  go_region_held3 (fun w' => w'.cell? ⟨w.heap.size, 0, none⟩ = some (.int .u64 a3) ∧ w'.cell? ⟨w.heap.size, 1, none⟩ = some (.int .u64 a2) ∧ w'.cell? ⟨w.heap.size, 2, none⟩ = some (.int .u64 a1) ∧ w'.cell? ⟨w.heap.size, 3, none⟩ = some (.int .u64 a0) ∧
      w'.cell? ⟨w.heap.size + 1, 0, none⟩ = some (.int .u64 b3) ∧ w'.cell? ⟨w.heap.size + 1, 1, none⟩ = some (.int .u64 b2) ∧ w'.cell? ⟨w.heap.size + 1, 2, none⟩ = some (.int .u64 b1) ∧ w'.cell? ⟨w.heap.size + 1, 3, none⟩ = some (.int .u64 b0)) (simp [*, go_sem, World.cell?_alloc_past])
    (first
      | (go_at_call 90; refine (cmpTwo_any _ _ _ _ (by assumption) (by assumption) (by assumption) (by assumption) _).mono ?_; rintro e w' ⟨rfl, hb⟩; obtain ⟨hcl, hfr⟩ := bcell hb; have hz2 : w.heap.size + 1 < w'.heap.size := (by have hz := hb.size; first | (simp at hz; omega) | omega); have hz1 : w.heap.size < w'.heap.size := (by omega); have HB : Hid (Below w.heap.size w w') := (bl_trans (by repeat (first | exact Below.refl _ _ | exact Hid.out (by assumption) | with_reducible refine bl_al ?_ _ | with_reducible apply Below.drew)) hb); clear hb)
      | (go_at_call 89; refine (or_any _ _ _ _ (by simp [go_sem]; rfl) (by simp [go_sem]; rfl)).mono ?_; rintro e w' ⟨rfl, rfl⟩))
  rename_i hHeld
  clear hHeld
  go_wp2
  go_returns
  exact ⟨ret_int E.out, by repeat (first | exact Below.refl _ _ | exact Hid.out (by assumption) | with_reducible refine bl_al ?_ _ | with_reducible apply Below.drew)⟩
end Go.Proofs.Ytmelipbanbihdaa
