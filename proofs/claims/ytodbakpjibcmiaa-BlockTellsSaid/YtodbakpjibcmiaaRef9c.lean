/- The contracts of the document's own lists: Put, all ways. -/
import Derived.Test.YtodbakpjibcmiaaRef9b
namespace Go.Proofs.Ytodbakpjibcmiaa
open Go.RowKit

/-- What Put, and Take, and Set tell. -/
def SlB (S : Nat → Prop) (n : Nat) (out : List UInt8) (ok : Bool) (w : World) (e : Ending) (w' : World) : Prop :=
  ∃ A' c', e = .returned (.tuple #[.slice A' n c', .bool ok]) ∧ Rd w' w'.heap.size A' n out ∧ n ≤ c' ∧ KO S A' c' ∧ Below w.heap.size w w'

section
variable (w : World)

end
end Go.Proofs.Ytodbakpjibcmiaa
