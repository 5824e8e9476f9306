/- The contracts of the functions that tell a number out of bytes. -/
import Derived.Test.YteomiekjcnpnlaaMem
import Derived.Test.YteomiekjcnpnlaaChecked
import Derived.IntWalk
import Derived.Outline
namespace Go.Proofs.Yteomiekjcnpnlaa
open Go.RowKit

theorem ret_u64 {a b : Nat} (h : a = b) : Ending.returned (.int .u64 (a : Int)) = .returned (.int .u64 (b : Int)) := by rw [h]

theorem wrap_u64_id (n : Nat) (h : n < 18446744073709551616) : IntKind.u64.wrap (n : Int) = (n : Int) := by
  rw [IntKind.wrap_u64]; omega

theorem number_step (bs : List UInt8) (k : Nat) (hl : k < bs.length) (h8 : k < 8) :
    bits BinOp.or IntKind.u64 (↑(numB (bs.take k))) (IntKind.u64.wrap (IntKind.u64.wrap ↑bs[k].toNat * 2 ^ (8 * k))) = ((numB (bs.take (k + 1)) : Nat) : Int) := by
  have hx := bs[k].toNat_lt
  have hlen : (bs.take k).length = k := by rw [List.length_take]; omega
  have ha := numB_lt (bs.take k)
  rw [hlen] at ha
  have hk8 := pow256_le k (by omega)
  have hs := numB_lt64 (bs.take (k + 1)) (by rw [List.length_take]; omega)
  rw [numB_take_succ bs k hl] at hs
  have e : (2 : Int) ^ (8 * k) = ((256 ^ k : Nat) : Int) := by
    rw [Int.pow_mul]; simp
  rw [wrap_u64_id _ (by omega), e, ← Int.natCast_mul, wrap_u64_id _ (by rw [Nat.mul_comm]; omega), bits_or_u64_nat _ _ (by omega) (by rw [Nat.mul_comm]; omega), or_shift _ _ _ ha, numB_take_succ bs k hl]

set_option maxRecDepth 100000 in
set_option maxHeartbeats 400000 in
theorem number_any (A : Option Addr) (n c B : Nat) (bs : List UInt8) (w : World) (h : Rd w B A n bs) (hn : n ≤ 8) :
    Calls Try.prog 27 #[.slice A n c] w fun e w' => e = .returned (.int .u64 (numB bs : Int)) ∧ w = w' := by
  go_enter Try.func27, Try.ntmps27
  go_wp2
  go_loop [3, 8] (fun v i => ∃ k : Nat, k ≤ n ∧ i = .int .i64 k ∧ v = .int .u64 (numB (bs.take k) : Int)) (fun _ i => n - (intOf i).toNat)
  case atStart => exact ⟨0, Nat.zero_le _, rfl, rfl⟩
  case round =>
    obtain ⟨k, hk, rfl, rfl⟩ := hrel
    by_cases hlt : k < n
    · obtain ⟨b, off, rfl, hb, hl, hc⟩ := h.at_ hlt
      go_wp2
      go_round
      case rel => exact ⟨k + 1, by omega, by go_num, by rw [number_step bs k hl (by omega)]⟩
      case measure => simp [intOf]; omega
    · go_wp2
      go_ret
      exact ⟨ret_u64 (by rw [List.take_of_length_le (by have := h.1; omega)]), rfl⟩

theorem num_step (bs : List UInt8) (k : Nat) (hl : k < bs.length) (h8 : bs.length ≤ 8) :
    IntKind.u64.wrap (IntKind.u64.wrap (256 * ((numB (bs.drop (k + 1)) : Nat) : Int)) + IntKind.u64.wrap ↑bs[k].toNat) = ((numB (bs.drop k) : Nat) : Int) := by
  have hx := bs[k].toNat_lt
  have hs := numB_lt64 (bs.drop k) (by rw [List.length_drop]; omega)
  rw [numB_drop bs k hl] at hs ⊢
  have e : (256 * ((numB (bs.drop (k + 1)) : Nat) : Int)) = ((256 * numB (bs.drop (k + 1)) : Nat) : Int) := by simp
  rw [e, wrap_u64_id _ (by omega), wrap_u64_id _ (by omega), ← Int.natCast_add, wrap_u64_id _ (by omega)]
  omega

set_option maxRecDepth 100000 in
set_option maxHeartbeats 400000 in
theorem refNum_any (A : Option Addr) (n c B : Nat) (bs : List UInt8) (w : World) (h : Rd w B A n bs) (hn : n ≤ 8) :
    Calls Try.prog 12 #[.slice A n c] w fun e w' => e = .returned (.int .u64 (numB bs : Int)) ∧ w = w' := by
  go_enter Try.func12, Try.ntmps12
  go_wp2
  go_loop [3, 4] (fun v i => ∃ k : Nat, k ≤ n ∧ i = .int .i64 ((k : Int) - 1) ∧ v = .int .u64 (numB (bs.drop k) : Int)) (fun _ i => (intOf i + 1).toNat)
  case atStart => exact ⟨n, Nat.le_refl _, rfl, by rw [List.drop_eq_nil_of_le (by have := h.1; omega)]; rfl⟩
  case round =>
    obtain ⟨k, hk, rfl, rfl⟩ := hrel
    rcases k with _ | k
    · go_wp2
      go_ret
      exact ⟨rfl, rfl⟩
    · obtain ⟨b, off, rfl, hb, hl, hc⟩ := h.at_ (k := k) (by omega)
      have h8 : bs.length ≤ 8 := by have := h.1; omega
      have e1 : ((k + 1 : Nat) : Int) - 1 = (k : Int) := by omega
      rw [e1]
      clear e1
      go_wp2
      go_round
      case rel => exact ⟨k, by omega, by go_num, by rw [num_step bs k hl h8]⟩
      case measure => simp [intOf]

theorem ret_bool {a b : Bool} (h : a = b) : Ending.returned (.bool a) = .returned (.bool b) := by rw [h]

set_option maxRecDepth 100000 in
set_option maxHeartbeats 400000 in
theorem has_yes (A : Option Addr) (len c : Nat) (p n : Nat) (w : World) (hl : len ≤ 1000000) (h2 : p + n ≤ len) :
    Calls Try.prog 26 #[.slice A len c, .int .u64 (p : Int), .int .u64 (n : Int)] w fun e w' => e = .returned (.bool true) ∧ w = w' := by
  have h3 : n ≤ len := by omega
  go_enter Try.func26, Try.ntmps26
  go_wp2
  go_ret
  exact ⟨ret_bool (decide_eq_true (by omega)), rfl⟩

set_option maxRecDepth 100000 in
set_option maxHeartbeats 400000 in
theorem has_no (A : Option Addr) (len c : Nat) (p n : Nat) (w : World) (hl : len ≤ 1000000) (h2 : len < p + n) :
    Calls Try.prog 26 #[.slice A len c, .int .u64 (p : Int), .int .u64 (n : Int)] w fun e w' => e = .returned (.bool false) ∧ w = w' := by
  by_cases h3 : n ≤ len
  · go_enter Try.func26, Try.ntmps26
    go_wp2
    go_ret
    exact ⟨ret_bool (decide_eq_false (by omega)), rfl⟩
  · have h4 : len < n := by omega
    go_enter Try.func26, Try.ntmps26
    go_wp2
    go_ret
    exact ⟨rfl, rfl⟩

theorem Rd.sub {w : World} {B b off n : Nat} {bs : List UInt8} (h : Rd w B (some ⟨b, off, none⟩) n bs) (k m : Nat) (hm : k + m ≤ n) :
    Rd w B (some ⟨b, off + k, none⟩) m ((bs.drop k).take m) := by
  refine ⟨by rw [List.length_take, List.length_drop, h.1]; omega, fun hn => ?_⟩
  obtain ⟨b', off', e, hb, hc⟩ := h.2 (by omega)
  cases e
  refine ⟨b, off + k, rfl, hb, fun j u hu => ?_⟩
  have hj : j < m := by
    rcases Nat.lt_or_ge j m with h1 | h1
    · exact h1
    · rw [List.getElem?_eq_none (by rw [List.length_take]; omega)] at hu
      cases hu
  rw [Nat.add_assoc]
  refine hc _ u ?_
  rw [List.getElem?_take_of_lt hj, List.getElem?_drop] at hu
  exact hu

set_option maxRecDepth 100000 in
set_option maxHeartbeats 400000 in
theorem get_yes (A : Option Addr) (len c B : Nat) (bs : List UInt8) (p : Nat) (w : World) (h : Rd w B A len bs) (hlc : len ≤ c) (hl : len ≤ 1000000) (h2 : p + 8 ≤ len) :
    Calls Try.prog 20 #[.slice A len c, .int .u64 (p : Int)] w fun e w' => e = .returned (.tuple #[.int .u64 (numB ((bs.drop p).take 8) : Int), .bool true]) ∧ w = w' := by
  obtain ⟨b, off, rfl, hb, _, _⟩ := h.at_ (k := 0) (by omega)
  have hs := h.sub p 8 h2
  go_enter Try.func20, Try.ntmps20
  go_wp2_with fail
  refine (has_yes _ _ _ _ 8 _ hl h2).mono ?_
  rintro e w' ⟨rfl, rfl⟩
  go_wp2_with fail
  refine (number_any _ _ _ _ _ _ hs (by omega)).mono ?_
  rintro e w' ⟨rfl, rfl⟩
  go_wp2
  go_ret2
  exact ⟨rfl, rfl⟩

set_option maxRecDepth 100000 in
set_option maxHeartbeats 400000 in
theorem get_no (A : Option Addr) (len c p : Nat) (w : World) (hl : len ≤ 1000000) (h2 : len < p + 8) :
    Calls Try.prog 20 #[.slice A len c, .int .u64 (p : Int)] w fun e w' => e = .returned (.tuple #[.int .u64 0, .bool false]) ∧ w = w' := by
  go_enter Try.func20, Try.ntmps20
  go_wp2_with fail
  refine (has_no _ _ _ _ 8 _ hl h2).mono ?_
  rintro e w' ⟨rfl, rfl⟩
  go_wp2
  go_ret2
  exact ⟨rfl, rfl⟩

end Go.Proofs.Yteomiekjcnpnlaa
