/- The contract of disk.Of. -/
import Derived.Test.YtkddcfaomaphaaaDisk5
namespace Go.Proofs.Ytkddcfaomaphaaa
open Go.RowKit

/-- A disk of the call's own. -/
def MadeDk (bs : List UInt8) (w : World) (e : Ending) (w' : World) : Prop :=
  ∃ g h c, e = .returned (.pointer (some ⟨g, 0, none⟩)) ∧ Dk (grow (fun _ => False) w w') w' g h c none 0 bs [] (-1) false ∧ Below w.heap.size w w'

end Go.Proofs.Ytkddcfaomaphaaa
