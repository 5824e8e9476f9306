/- The contract of the document's example at the head of the laws. -/
import Derived.Test.YtobnodfkeelhgaaSums
import Derived.Lib.SlBytesConst
import Derived.Lib.SmallJoins
import Derived.Deep.RegionWith
import Derived.Deep.RegionHeld3
namespace Go.Proofs.Ytobnodfkeelhgaa
open Go.RowKit

def digits : List UInt8 := [49, 50, 51, 52, 53, 54, 55, 56, 57]
theorem digits_reads (W : World) (fr : Nat × Nat) : Rd (W.alloc (.cells (rowB digits) 5 fr)) (W.heap.size + 1) (some ⟨W.heap.size, 0, none⟩) 9 digits :=
  ⟨rfl, fun _ => ⟨_, 0, rfl, by omega, fun j u hu => by rw [Nat.zero_add, World.cell?_alloc_mark, rowB_get, hu]; rfl⟩⟩
theorem sum9 : moreN 0 digits = 3421780262 := by decide +kernel
theorem sum0 : moreN 0 [] = 0 := by decide +kernel

set_option maxHeartbeats 400000 in
theorem up_any (w : World) :
    Calls Try.prog 6 #[] w fun e w' => e = .returned (.bool true) ∧ Below w.heap.size w w' := by
  have kc := fun (w : World) (C : Array Value) (n c : Nat) => Lib.run_convert_bytes_const (P := Try.prog) w 22 5 C n c Try.underlying22 Try.underlying5
  go_enter Try.func6, Try.ntmps6
  go_wp2_with fail
  clear kc
  refine (sum_any _ 9 9 _ digits _ (digits_reads w _) (by omega)).mono ?_
  rintro e w1 ⟨rfl, rfl⟩
  rw [sum9]
  go_wp2_with fail
  refine (sum_any none 0 0 0 [] _ Rd.nil_ (by omega)).mono ?_
  rintro e w1 ⟨rfl, rfl⟩
  rw [sum0]
  go_wp2
  go_ret
  exact ⟨rfl, (Below.refl _ _).alloc (Nat.le_refl _) _⟩
end Go.Proofs.Ytobnodfkeelhgaa
