/- The walk of the law CrcTells: it returns true and writes nothing that was there. -/
import Derived.Test.YtobnodfkeelhgaaHead
import Derived.Test.YtobnodfkeelhgaaSegs
namespace Go.Proofs.Ytobnodfkeelhgaa
open Go.RowKit

set_option maxHeartbeats 1000000 in
theorem tells_long (A : Option Addr) (n c s : Nat) (w : World) (hl : 30000 < n) (hm : n ≤ maxLen) :
    Calls Try.prog 3 #[.slice A n c, .int .u32 (s : Int)] w fun e w' => e = .returned (.bool true) ∧ Below w.heap.size w w' := by
  unfold maxLen at hm
  go_enter Try.func3, Try.ntmps3
  go_wp2_with fail
  refine (up_any _).mono ?_
  rintro e w1 ⟨rfl, hb⟩
  go_wp2
  go_ret
  exact ⟨rfl, hb⟩

set_option maxRecDepth 100000 in
set_option maxHeartbeats 1000000 in
theorem tells_short (A : Option Addr) (n c s : Nat) (bs : List UInt8) (w : World) (hn : n ≤ 30000) (h : Rd w w.heap.size A n bs) (hs : s < 4294967296) :
    Calls Try.prog 3 #[.slice A n c, .int .u32 (s : Int)] w fun e w' => e = .returned (.bool true) ∧ Below w.heap.size w w' := by
  go_enter Try.func3, Try.ntmps3
  go_wp2_with fail
  refine (up_any _).mono ?_
  rintro e w1 ⟨rfl, hb⟩
  have h1 := h.below hb
  go_wp2_with fail
  refine (sum_any A n c _ bs _ h1 (by omega)).mono ?_
  rintro e w2 ⟨rfl, rfl⟩
  go_wp2_with fail
  refine (refSum_any A n c _ bs _ h1 (by omega)).mono ?_
  rintro e w2 ⟨rfl, rfl⟩
  go_wp2_with fail
  refine (more_any A n c _ s bs _ h1 (by omega) hs).mono ?_
  rintro e w2 ⟨rfl, rfl⟩
  go_wp2_with fail
  refine (refMore_any A n c _ s bs _ h1 (by omega) hs).mono ?_
  rintro e w2 ⟨rfl, rfl⟩
  go_wp2
  go_ret
  exact ⟨by simp, hb⟩
end Go.Proofs.Ytobnodfkeelhgaa
