/- The contracts of the functions that tell a number's bytes. -/
import Derived.Test.YtcpipgjljiljnaaMem
import Derived.Test.YtcpipgjljiljnaaChecked
import Derived.IntWalk
import Derived.Outline
namespace Go.Proofs.Ytcpipgjljiljnaa
open Go.RowKit

theorem u8_info : (Try.prog.info? 5).map (fun i => (i.zero, i.size, i.bytes)) = some (some (.int .u8 0), 1, 1) := by kernel_rfl

def lowest_at (k n v : Nat) : List UInt8 := lowB k v ++ List.replicate (n - k) 0

theorem lowest_at_length (k n v : Nat) (h : k ≤ n) : (lowest_at k n v).length = n := by
  simp [lowest_at, lowB_length]; omega
theorem lowest_at_get (k n v : Nat) (h : k < n) : (lowest_at k n v)[k]? = some 0 := by
  rw [lowest_at, List.getElem?_append_right (by rw [lowB_length]; omega), lowB_length, Nat.sub_self, List.getElem?_replicate, if_pos (by omega)]
theorem lowest_at_set (k n v : Nat) (h : k < n) : (lowest_at k n v).set k (UInt8.ofNat (v / 256 ^ k % 256)) = lowest_at (k + 1) n v := by
  unfold lowest_at
  rw [lowB_snoc, List.set_append_right _ _ (by rw [lowB_length]; omega), lowB_length, Nat.sub_self, List.append_assoc]
  obtain ⟨m, hm⟩ : ∃ m, n - k = m + 1 := ⟨n - k - 1, by omega⟩
  have hm' : n - (k + 1) = m := by omega
  rw [hm, hm', List.replicate_succ]
  rfl

theorem bv_low (v k : Nat) : Value.int .u8 ((v : Int) / 2 ^ (8 * k) % 256) = bv (UInt8.ofNat (v / 256 ^ k % 256)) := by
  have e : (2 : Int) ^ (8 * k) = ((256 ^ k : Nat) : Int) := by rw [Int.pow_mul]; simp
  rw [bv, toNat_ofNat_mod, e]
  simp

set_option maxHeartbeats 400000 in
theorem lowest_any (v n : Nat) (w : World) (hn : n ≤ 8) (_hv : v < 18446744073709551616) :
    Calls Try.prog 15 #[.int .u64 (v : Int), .int .i64 (n : Int)] w fun e w' => e = .returned (.slice (some ⟨w.heap.size, 0, none⟩) n n) ∧ Fill w' w.heap.size 5 (lowB n v) ∧ Below w.heap.size w w' := by
  have hmk := fun W => run_make_row' (P := Try.prog) 22 5 (.int .u8 0) 1 Try.underlying22 u8_info rfl .i64 .i64 n (by omega) (by omega) W
  go_enter Try.func15, Try.ntmps15
  go_wp2
  rw [rowB_zeros]
  have hst : Fill (w.alloc (.cells (rowB (List.replicate n 0)) 5)) w.heap.size 5 (lowest_at 0 n v) := Fill.made w 5 _
  have hbl : Below w.heap.size w (w.alloc (.cells (rowB (List.replicate n 0)) 5)) := (Below.refl _ _).alloc (Nat.le_refl _) _
  clear hmk
  generalize w.alloc (.cells (rowB (List.replicate n 0)) 5) = w0 at *
  go_loopw [11] (fun i wr => ∃ k : Nat, k ≤ n ∧ i = .int .i64 k ∧ Fill wr w.heap.size 5 (lowest_at k n v) ∧ Below w.heap.size w wr) (fun i _ => n - (intOf i).toNat)
  case atStart => exact ⟨0, Nat.zero_le _, rfl, hst, hbl⟩
  case round =>
    obtain ⟨k, hk, rfl, hf, hb⟩ := hrel
    by_cases hlt : k < n
    · have hc : wr.cell? ⟨w.heap.size, k, none⟩ = some (.int .u8 0) := by rw [hf.cell, lowest_at_get k n v hlt]; rfl
      have hz := hf.thaw k
      have hput := hf.put k (UInt8.ofNat (v / 256 ^ k % 256))
      rw [lowest_at_set k n v hlt] at hput
      go_wp2
      go_roundw
      case rel => rw [bv_low]; exact ⟨k + 1, by omega, by go_num, hput, hb.setCell (Nat.le_refl _) _⟩
      case measure => simp [intOf]; omega
    · go_wp2
      go_ret
      obtain rfl : k = n := by omega
      exact ⟨rfl, by simpa [lowest_at] using hf, hb⟩

set_option maxHeartbeats 400000 in
theorem put_any (v : Nat) (w : World) (hv : v < 18446744073709551616) :
    Calls Try.prog 9 #[.int .u64 (v : Int)] w fun e w' => e = .returned (.slice (some ⟨w.heap.size, 0, none⟩) 8 8) ∧ Fill w' w.heap.size 5 (lowB 8 v) ∧ Below w.heap.size w w' := by
  go_enter Try.func9, Try.ntmps9
  go_wp2_with fail
  refine (lowest_any v 8 _ (by omega) hv).mono ?_
  rintro e w' ⟨rfl, hf, hb⟩
  go_wp2
  go_ret
  exact ⟨rfl, hf, hb⟩

set_option maxHeartbeats 400000 in
theorem put4_any (v : Nat) (w : World) (hv : v < 4294967296) :
    Calls Try.prog 11 #[.int .u32 (v : Int)] w fun e w' => e = .returned (.slice (some ⟨w.heap.size, 0, none⟩) 4 4) ∧ Fill w' w.heap.size 5 (lowB 4 v) ∧ Below w.heap.size w w' := by
  go_enter Try.func11, Try.ntmps11
  go_wp2_with fail
  refine (lowest_any v 4 _ (by omega) (by omega)).mono ?_
  rintro e w' ⟨rfl, hf, hb⟩
  go_wp2
  go_ret
  exact ⟨rfl, hf, hb⟩
theorem low_div (v k q : Nat) (h : v / 256 ^ k = q) : Value.int .u64 ((q : Int) / 256) = Value.int .u64 ((v / 256 ^ (k + 1) : Nat) : Int) := by
  rw [Nat.pow_succ, ← Nat.div_div_eq_div_mul, h]; simp
theorem low_row (v k q : Nat) (h : v / 256 ^ k = q) : (lowB (k + 1) v).map bv = (lowB k v).map bv ++ [Value.int .u8 ((q : Int) % 256)] := by
  rw [lowB_snoc, List.map_append, h]
  simp only [List.map_cons, List.map_nil, bv, toNat_ofNat_mod]
  simp

set_option maxHeartbeats 400000 in
theorem refLow_any (v n : Nat) (w : World) (hn : n ≤ 8) (hv : v < 18446744073709551616) :
    Calls Try.prog 10 #[.int .u64 (v : Int), .int .i64 (n : Int)] w fun e w' => ∃ x, e = .returned x ∧ w'.ownsRow w.heap.size 5 1 x n ((lowB n v).map bv) ∧ Below w.heap.size w w' := by
  obtain ⟨i0, hi, hz0, hz1, hz2⟩ := info_parts u8_info
  go_enter Try.func10, Try.ntmps10
  go_wp2
  go_loopw [0, 5, 6] (fun q x i wr => ∃ k : Nat, k ≤ n ∧ i = .int .i64 k ∧ q = .int .u64 ((v / 256 ^ k : Nat) : Int) ∧ wr.ownsRow w.heap.size 5 1 x k ((lowB k v).map bv) ∧ Below w.heap.size w wr) (fun _ _ i _ => n - (intOf i).toNat)
  case atStart => exact ⟨0, Nat.zero_le _, rfl, by simp, World.ownsRow_nil _ _ _ _, Below.refl _ _⟩
  case round =>
    obtain ⟨k, hk, rfl, rfl, hown, hb⟩ := hrel
    by_cases hlt : k < n
    · have hq : v / 256 ^ k < 18446744073709551616 := Nat.lt_of_le_of_lt (Nat.div_le_self _ _) hv
      generalize hqq : v / 256 ^ k = q at *
      have HQ := Lib.hid hqq
      clear hqq
      have hm : 0 ≤ (q : Int) % 256 ∧ (q : Int) % 256 ≤ 255 := by omega
      obtain ⟨hm0, hm1⟩ := hm
      go_wp2_with (first
        | (at_builtin; refine wpList_append_own _ rfl _ _ 22 rfl w.heap.size 5 i0 (.int .u8 0) 1 1 Try.underlying22 hi hz0 hz1 hz2 rfl (by decide) _ _ _ rfl (hown.alloc _) ⟨wr.heap.size, 0, none⟩ 1 1 [.int .u8 ((q : Int) % 256)] rfl rfl ?c1 ?c2 ?c3 ?c4 ?c5 ?_))
      case c1 =>
        intro j u hj
        match j, hj with
        | 0, hj => simp at hj; subst hj; simp [Addr.add]
      case c2 => intro u hu; simp at hu; subst hu; rfl
      case c3 => unfold maxLen; omega
      case c4 => omega
      case c5 => have := hb.size; simp; omega
      intro x' w1 hown' hgrow _
      have hb1 : Below w.heap.size w w1 := (hb.alloc hb.size _).grown hgrow (by have := hb.size; simp; omega) (fun j hj => (hown.lt j hj).1)
      have Hown := Lib.hid hown'
      clear hown' hgrow
      go_wp2
      go_roundw
      case rel => exact ⟨k + 1, by omega, by go_num, low_div v k q HQ.out, by rw [low_row v k q HQ.out]; exact Hown.out, hb1⟩
      case measure => simp [intOf]; omega
    · go_wp2
      go_ret
      obtain rfl : k = n := by omega
      exact ⟨_, rfl, hown, hb⟩

end Go.Proofs.Ytcpipgjljiljnaa
