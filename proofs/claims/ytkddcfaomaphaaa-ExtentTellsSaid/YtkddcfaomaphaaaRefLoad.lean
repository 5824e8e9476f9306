/- The contracts of the document's own arena: Load, Store. -/
import Derived.Test.YtkddcfaomaphaaaRef
import Derived.Test.YtkddcfaomaphaaaTail
namespace Go.Proofs.Ytkddcfaomaphaaa
open Go.RowKit

/-- A row of the call's own, and the error's number 0. -/
def RefTold (bs : List UInt8) (w : World) (e : Ending) (w' : World) : Prop :=
  ∃ A' c', e = .returned (.tuple #[.slice A' bs.length c', .int .i64 0]) ∧ w'.ownsRow w.heap.size 5 1 (.slice A' bs.length c') bs.length (bs.map bv) ∧ Below w.heap.size w w'

theorem below_drewN (w : World) (k : Nat) : Below w.heap.size w (w.drewN k) := ⟨rfl, rfl, rfl, Nat.le_refl _, fun _ _ => rfl⟩

section
variable {w : World} {g base cap c : Nat} {A : Option Addr} {bs : List UInt8}
end
end Go.Proofs.Ytkddcfaomaphaaa
