/- The contracts of SetWord, and of the laws' words: Code, Bytes, Arena, Base. -/
import Derived.Test.YtkddcfaomaphaaaStore
import Derived.Test.YtkddcfaomaphaaaPut
namespace Go.Proofs.Ytkddcfaomaphaaa
open Go.RowKit

section
variable {w w1 w2 : World} {t : TypeId} {g base cap c B : Nat} {A : Option Addr} {bs : List UInt8}
theorem Became.after (h : Became t g base cap A bs w1 w2) (hb : Below w.heap.size w w1) : Became t g base cap A bs w w2 := by
  obtain ⟨A', c', h1, h2, h3⟩ := h
  refine ⟨A', c', h1, (Tch.of_below (S := foot g A) hb).trans h2 (fun _ _ h => h), h3.imp id fun h a ha => Nat.le_trans hb.size (h a ha)⟩
theorem Became.below (h : Became t g base cap A bs w w1) (hg : B ≤ g) (hA : ∀ a, A = some a → B ≤ a.block) (hB : B ≤ w.heap.size) :
    ∃ A' c', Ar w1 t g base cap A' c' bs ∧ Below B w w1 ∧ ∀ a, A' = some a → B ≤ a.block := by
  obtain ⟨A', c', h1, h2, h3⟩ := h
  refine ⟨A', c', h1, h2.below (fun k hk => ?_) hB, fun a ha => ?_⟩
  · rcases hk with rfl | ⟨a, e, rfl⟩
    · exact hg
    · exact hA a e
  · rcases h3 with h3 | h3
    · exact hA a (h3 ▸ ha)
    · exact Nat.le_trans hB (h3 a ha)

end

set_option maxRecDepth 100000 in
set_option maxHeartbeats 400000 in
theorem code_nil (w : World) : Calls Try.prog 10 #[.nilIface] w fun e w' => e = .returned (.int .i64 0) ∧ w = w' := by
  go_enter Try.func10, Try.ntmps10
  go_wp2
  go_ret
  exact ⟨rfl, rfl⟩

set_option maxRecDepth 100000 in
theorem code_eql (W : World) (k j : Int) : (binOp .eql 32 (.iface 54 (.int .i64 k)) (.iface 54 (.int .i64 j))).run Try.prog W = .ok (.bool (k == j)) W := by rfl

set_option maxRecDepth 100000 in
set_option maxHeartbeats 400000 in
theorem code_err (w : World) (k : Nat) (h1 : 1 ≤ k) (h2 : k ≤ 10) : Calls Try.prog 10 #[.iface 54 (.int .i64 (k : Int))] w fun e w' => e = .returned (.int .i64 (k : Int)) ∧ w = w' := by
  go_enter Try.func10, Try.ntmps10
  go_wp2
  go_loop [3] (fun i => ∃ j : Nat, 1 ≤ j ∧ j ≤ k ∧ i = .int .i64 j) (fun i => k - (intOf i).toNat)
  case atStart => exact ⟨1, by omega, h1, rfl⟩
  case round =>
    obtain ⟨j, hj1, hj2, rfl⟩ := hrel
    by_cases hlt : j < k
    · have q : ((k : Int) == (j : Int)) = false := by rw [beq_eq_false_iff_ne]; omega
      have q2 : ∀ W : World, (binOp .eql 32 (.iface 54 (.int .i64 (k : Int))) (.iface 54 (.int .i64 (j : Int)))).run Try.prog W = .ok (.bool false) W := fun W => by rw [code_eql, q]
      go_wp2
      go_round
      case rel => exact ⟨j + 1, by omega, by omega, by go_num⟩
      case measure => simp [intOf]; omega
    · obtain rfl : k = j := by omega
      have q2 : ∀ W : World, (binOp .eql 32 (.iface 54 (.int .i64 (k : Int))) (.iface 54 (.int .i64 (k : Int)))).run Try.prog W = .ok (.bool true) W := fun W => by rw [code_eql, beq_self_eq_true]
      go_wp2
      go_ret
      exact ⟨rfl, rfl⟩

section
variable {w : World} {g base cap c : Nat} {A : Option Addr} {bs : List UInt8}
end

end Go.Proofs.Ytkddcfaomaphaaa
