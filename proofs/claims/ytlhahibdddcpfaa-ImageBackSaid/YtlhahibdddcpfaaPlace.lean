/- The contracts of an arena's calls that only read. -/
import Derived.Test.YtlhahibdddcpfaaAr
import Derived.Test.YtlhahibdddcpfaaChecked
import Derived.IntWalk
import Derived.Outline
import Derived.WalkSpells
namespace Go.Proofs.Ytlhahibdddcpfaa
open Go.RowKit

theorem ret_place {a b : Int} (h : a = b) : Ending.returned (.tuple #[.int .u64 a, .bool true]) = .returned (.tuple #[.int .u64 b, .bool true]) := by rw [h]

section
variable {w : World} {g base cap c : Nat} {A : Option Addr} {bs : List UInt8}
end

end Go.Proofs.Ytlhahibdddcpfaa
