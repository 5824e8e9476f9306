/- The contracts of the functions that tell a number's bytes. -/
import Derived.Test.YteomiekjcnpnlaaMem
import Derived.Test.YteomiekjcnpnlaaChecked
import Derived.IntWalk
import Derived.Outline
namespace Go.Proofs.Yteomiekjcnpnlaa
open Go.RowKit

theorem u8_info : (Try.prog.info? 5).map (fun i => (i.zero, i.size, i.bytes)) = some (some (.int .u8 0), 1, 1) := by kernel_rfl

def lowest_at (k n v : Nat) : List UInt8 := lowB k v ++ List.replicate (n - k) 0

theorem lowest_at_length (k n v : Nat) (h : k ≤ n) : (lowest_at k n v).length = n := by
  simp [lowest_at, lowB_length]; omega
theorem lowest_at_get (k n v : Nat) (h : k < n) : (lowest_at k n v)[k]? = some 0 := by
  rw [lowest_at, List.getElem?_append_right (by rw [lowB_length]; omega), lowB_length, Nat.sub_self, List.getElem?_replicate, if_pos (by omega)]
theorem lowest_at_set (k n v : Nat) (h : k < n) : (lowest_at k n v).set k (UInt8.ofNat (v / 256 ^ k % 256)) = lowest_at (k + 1) n v := by
  unfold lowest_at
  rw [lowB_snoc, List.set_append_right _ _ (by rw [lowB_length]; omega), lowB_length, Nat.sub_self, List.append_assoc]
  obtain ⟨m, hm⟩ : ∃ m, n - k = m + 1 := ⟨n - k - 1, by omega⟩
  have hm' : n - (k + 1) = m := by omega
  rw [hm, hm', List.replicate_succ]
  rfl

theorem bv_low (v k : Nat) : Value.int .u8 ((v : Int) / 2 ^ (8 * k) % 256) = bv (UInt8.ofNat (v / 256 ^ k % 256)) := by
  have e : (2 : Int) ^ (8 * k) = ((256 ^ k : Nat) : Int) := by rw [Int.pow_mul]; simp
  rw [bv, toNat_ofNat_mod, e]
  simp

set_option maxRecDepth 100000 in
set_option maxHeartbeats 400000 in
theorem lowest_any (v n : Nat) (w : World) (hn : n ≤ 8) (_hv : v < 18446744073709551616) :
    Calls Try.prog 23 #[.int .u64 (v : Int), .int .i64 (n : Int)] w fun e w' => e = .returned (.slice (some ⟨w.heap.size, 0, none⟩) n n) ∧ Fill w' w.heap.size 5 (lowB n v) ∧ Below w.heap.size w w' := by
  have hmk := fun W => run_make_row' (P := Try.prog) 24 5 (.int .u8 0) 1 Try.underlying24 u8_info rfl .i64 .i64 n (by omega) (by omega) W
  go_enter Try.func23, Try.ntmps23
  go_wp2
  rw [rowB_zeros]
  have hst : Fill (w.alloc (.cells (rowB (List.replicate n 0)) 5)) w.heap.size 5 (lowest_at 0 n v) := Fill.made w 5 _
  have hbl : Below w.heap.size w (w.alloc (.cells (rowB (List.replicate n 0)) 5)) := (Below.refl _ _).alloc (Nat.le_refl _) _
  clear hmk
  generalize w.alloc (.cells (rowB (List.replicate n 0)) 5) = w0 at *
  go_loopw [11] (fun i wr => ∃ k : Nat, k ≤ n ∧ i = .int .i64 k ∧ Fill wr w.heap.size 5 (lowest_at k n v) ∧ Below w.heap.size w wr) (fun i _ => n - (intOf i).toNat)
  case atStart => exact ⟨0, Nat.zero_le _, rfl, hst, hbl⟩
  case round =>
    obtain ⟨k, hk, rfl, hf, hb⟩ := hrel
    by_cases hlt : k < n
    · have hc : wr.cell? ⟨w.heap.size, k, none⟩ = some (.int .u8 0) := by rw [hf.cell, lowest_at_get k n v hlt]; rfl
      have hz := hf.thaw k
      have hput := hf.put k (UInt8.ofNat (v / 256 ^ k % 256))
      rw [lowest_at_set k n v hlt] at hput
      go_wp2
      go_roundw
      case rel => rw [bv_low]; exact ⟨k + 1, by omega, by go_num, hput, hb.setCell (Nat.le_refl _) _⟩
      case measure => simp [intOf]; omega
    · go_wp2
      go_ret
      obtain rfl : k = n := by omega
      exact ⟨rfl, by simpa [lowest_at] using hf, hb⟩

set_option maxRecDepth 100000 in
set_option maxHeartbeats 400000 in
theorem put_any (v : Nat) (w : World) (hv : v < 18446744073709551616) :
    Calls Try.prog 15 #[.int .u64 (v : Int)] w fun e w' => e = .returned (.slice (some ⟨w.heap.size, 0, none⟩) 8 8) ∧ Fill w' w.heap.size 5 (lowB 8 v) ∧ Below w.heap.size w w' := by
  go_enter Try.func15, Try.ntmps15
  go_wp2_with fail
  refine (lowest_any v 8 _ (by omega) hv).mono ?_
  rintro e w' ⟨rfl, hf, hb⟩
  go_wp2
  go_ret
  exact ⟨rfl, hf, hb⟩


end Go.Proofs.Yteomiekjcnpnlaa
