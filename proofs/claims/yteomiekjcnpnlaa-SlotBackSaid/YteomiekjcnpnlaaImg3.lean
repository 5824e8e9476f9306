/- The program's images: May, the whole. -/
import Derived.Test.YteomiekjcnpnlaaImg2
namespace Go.Proofs.Yteomiekjcnpnlaa
open Go.RowKit

theorem u64N_cast (n : Int) : ((u64N n : Nat) : Int) = n % 18446744073709551616 := by unfold u64N; omega
end Go.Proofs.Yteomiekjcnpnlaa
