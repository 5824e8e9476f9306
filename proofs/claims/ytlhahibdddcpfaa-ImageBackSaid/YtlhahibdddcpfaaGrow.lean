/- The contracts of an arena's calls: New, Grow. -/
import Derived.Test.YtlhahibdddcpfaaPlace
import Derived.Test.YtlhahibdddcpfaaZeros
import Derived.Deep.QuietTactic
import Derived.BigQuiet
namespace Go.Proofs.Ytlhahibdddcpfaa
open Go.RowKit

theorem u8_inf : (Try.prog.info? 5).map (fun i => (i.zero, i.size, i.bytes)) = some (some (.int .u8 0), 1, 1) := by kernel_rfl

section
variable {w : World} {g base cap c : Nat} {A : Option Addr} {bs : List UInt8}
end

end Go.Proofs.Ytlhahibdddcpfaa
