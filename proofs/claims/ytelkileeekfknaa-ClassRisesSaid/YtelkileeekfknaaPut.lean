/- The contracts of the functions that tell a number's bytes. -/
import Derived.Test.YtelkileeekfknaaMem
import Derived.Test.YtelkileeekfknaaChecked
import Derived.IntWalk
import Derived.Outline
namespace Go.Proofs.Ytelkileeekfknaa
open Go.RowKit

theorem u8_info : (Try.prog.info? 5).map (fun i => (i.zero, i.size, i.bytes)) = some (some (.int .u8 0), 1, 1) := by kernel_rfl

def lowest_at (k n v : Nat) : List UInt8 := lowB k v ++ List.replicate (n - k) 0

theorem lowest_at_length (k n v : Nat) (h : k ≤ n) : (lowest_at k n v).length = n := by
  simp [lowest_at, lowB_length]; omega
theorem lowest_at_get (k n v : Nat) (h : k < n) : (lowest_at k n v)[k]? = some 0 := by
  rw [lowest_at, List.getElem?_append_right (by rw [lowB_length]; omega), lowB_length, Nat.sub_self, List.getElem?_replicate, if_pos (by omega)]
theorem lowest_at_set (k n v : Nat) (h : k < n) : (lowest_at k n v).set k (UInt8.ofNat (v / 256 ^ k % 256)) = lowest_at (k + 1) n v := by
  unfold lowest_at
  rw [lowB_snoc, List.set_append_right _ _ (by rw [lowB_length]; omega), lowB_length, Nat.sub_self, List.append_assoc]
  obtain ⟨m, hm⟩ : ∃ m, n - k = m + 1 := ⟨n - k - 1, by omega⟩
  have hm' : n - (k + 1) = m := by omega
  rw [hm, hm', List.replicate_succ]
  rfl

theorem bv_low (v k : Nat) : Value.int .u8 ((v : Int) / 2 ^ (8 * k) % 256) = bv (UInt8.ofNat (v / 256 ^ k % 256)) := by
  have e : (2 : Int) ^ (8 * k) = ((256 ^ k : Nat) : Int) := by rw [Int.pow_mul]; simp
  rw [bv, toNat_ofNat_mod, e]
  simp

end Go.Proofs.Ytelkileeekfknaa
