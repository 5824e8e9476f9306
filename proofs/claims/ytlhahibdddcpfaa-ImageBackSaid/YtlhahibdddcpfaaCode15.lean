/- The law's word Code, where there is no arena. -/
import Derived.Test.YtlhahibdddcpfaaMem
import Derived.Test.YtlhahibdddcpfaaChecked
import Derived.IntWalk
import Derived.Outline
namespace Go.Proofs.Ytlhahibdddcpfaa
open Go.RowKit

set_option maxRecDepth 100000 in
set_option maxHeartbeats 400000 in
theorem code15_nil (w : World) : Calls Try.prog 12 #[.nilIface] w fun e w' => e = .returned (.int .i64 0) ∧ w = w' := by
  go_enter Try.func12, Try.ntmps12
  go_wp2
  go_ret
  exact ⟨rfl, rfl⟩

set_option maxRecDepth 100000 in
theorem code15_eql (W : World) (k j : Int) : (binOp .eql 33 (.iface 52 (.int .i64 k)) (.iface 52 (.int .i64 j))).run Try.prog W = .ok (.bool (k == j)) W := by rfl

set_option maxRecDepth 100000 in
set_option maxHeartbeats 400000 in
theorem code15_err (w : World) (k : Nat) (h1 : 1 ≤ k) (h2 : k ≤ 10) : Calls Try.prog 12 #[.iface 52 (.int .i64 (k : Int))] w fun e w' => e = .returned (.int .i64 (k : Int)) ∧ w = w' := by
  go_enter Try.func12, Try.ntmps12
  go_wp2
  go_loop [3] (fun i => ∃ j : Nat, 1 ≤ j ∧ j ≤ k ∧ i = .int .i64 j) (fun i => k - (intOf i).toNat)
  case atStart => exact ⟨1, by omega, h1, rfl⟩
  case round =>
    obtain ⟨j, hj1, hj2, rfl⟩ := hrel
    by_cases hlt : j < k
    · have q : ((k : Int) == (j : Int)) = false := by rw [beq_eq_false_iff_ne]; omega
      have q2 : ∀ W : World, (binOp .eql 33 (.iface 52 (.int .i64 (k : Int))) (.iface 52 (.int .i64 (j : Int)))).run Try.prog W = .ok (.bool false) W := fun W => by rw [code15_eql, q]
      go_wp2
      go_round
      case rel => exact ⟨j + 1, by omega, by omega, by go_num⟩
      case measure => simp [intOf]; omega
    · obtain rfl : k = j := by omega
      have q2 : ∀ W : World, (binOp .eql 33 (.iface 52 (.int .i64 (k : Int))) (.iface 52 (.int .i64 (k : Int)))).run Try.prog W = .ok (.bool true) W := fun W => by rw [code15_eql, beq_self_eq_true]
      go_wp2
      go_ret
      exact ⟨rfl, rfl⟩
end Go.Proofs.Ytlhahibdddcpfaa
