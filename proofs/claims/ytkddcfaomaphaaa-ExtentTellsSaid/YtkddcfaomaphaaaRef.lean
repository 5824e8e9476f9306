/- The contracts of the document's own arena: Grow, There, Load. -/
import Derived.Test.YtkddcfaomaphaaaMore
namespace Go.Proofs.Ytkddcfaomaphaaa
open Go.RowKit

section
variable {w : World} {g base cap c : Nat} {A : Option Addr} {bs : List UInt8}
end

end Go.Proofs.Ytkddcfaomaphaaa
