/- The contracts of the functions that tell a number out of bytes. -/
import Derived.Test.YtelkileeekfknaaMem
import Derived.Test.YtelkileeekfknaaChecked
import Derived.IntWalk
import Derived.Outline
namespace Go.Proofs.Ytelkileeekfknaa
open Go.RowKit

theorem ret_u64 {a b : Nat} (h : a = b) : Ending.returned (.int .u64 (a : Int)) = .returned (.int .u64 (b : Int)) := by rw [h]

theorem wrap_u64_id (n : Nat) (h : n < 18446744073709551616) : IntKind.u64.wrap (n : Int) = (n : Int) := by
  rw [IntKind.wrap_u64]; omega

theorem number_step (bs : List UInt8) (k : Nat) (hl : k < bs.length) (h8 : k < 8) :
    bits BinOp.or IntKind.u64 (↑(numB (bs.take k))) (IntKind.u64.wrap (IntKind.u64.wrap ↑bs[k].toNat * 2 ^ (8 * k))) = ((numB (bs.take (k + 1)) : Nat) : Int) := by
  have hx := bs[k].toNat_lt
  have hlen : (bs.take k).length = k := by rw [List.length_take]; omega
  have ha := numB_lt (bs.take k)
  rw [hlen] at ha
  have hk8 := pow256_le k (by omega)
  have hs := numB_lt64 (bs.take (k + 1)) (by rw [List.length_take]; omega)
  rw [numB_take_succ bs k hl] at hs
  have e : (2 : Int) ^ (8 * k) = ((256 ^ k : Nat) : Int) := by
    rw [Int.pow_mul]; simp
  rw [wrap_u64_id _ (by omega), e, ← Int.natCast_mul, wrap_u64_id _ (by rw [Nat.mul_comm]; omega), bits_or_u64_nat _ _ (by omega) (by rw [Nat.mul_comm]; omega), or_shift _ _ _ ha, numB_take_succ bs k hl]

theorem num_step (bs : List UInt8) (k : Nat) (hl : k < bs.length) (h8 : bs.length ≤ 8) :
    IntKind.u64.wrap (IntKind.u64.wrap (256 * ((numB (bs.drop (k + 1)) : Nat) : Int)) + IntKind.u64.wrap ↑bs[k].toNat) = ((numB (bs.drop k) : Nat) : Int) := by
  have hx := bs[k].toNat_lt
  have hs := numB_lt64 (bs.drop k) (by rw [List.length_drop]; omega)
  rw [numB_drop bs k hl] at hs ⊢
  have e : (256 * ((numB (bs.drop (k + 1)) : Nat) : Int)) = ((256 * numB (bs.drop (k + 1)) : Nat) : Int) := by simp
  rw [e, wrap_u64_id _ (by omega), wrap_u64_id _ (by omega), ← Int.natCast_add, wrap_u64_id _ (by omega)]
  omega

theorem ret_bool {a b : Bool} (h : a = b) : Ending.returned (.bool a) = .returned (.bool b) := by rw [h]

theorem Rd.sub {w : World} {B b off n : Nat} {bs : List UInt8} (h : Rd w B (some ⟨b, off, none⟩) n bs) (k m : Nat) (hm : k + m ≤ n) :
    Rd w B (some ⟨b, off + k, none⟩) m ((bs.drop k).take m) := by
  refine ⟨by rw [List.length_take, List.length_drop, h.1]; omega, fun hn => ?_⟩
  obtain ⟨b', off', e, hb, hc⟩ := h.2 (by omega)
  cases e
  refine ⟨b, off + k, rfl, hb, fun j u hu => ?_⟩
  have hj : j < m := by
    rcases Nat.lt_or_ge j m with h1 | h1
    · exact h1
    · rw [List.getElem?_eq_none (by rw [List.length_take]; omega)] at hu
      cases hu
  rw [Nat.add_assoc]
  refine hc _ u ?_
  rw [List.getElem?_take_of_lt hj, List.getElem?_drop] at hu
  exact hu

end Go.Proofs.Ytelkileeekfknaa
