/- A deed of layer 4: all ways together. -/
import Derived.Test.YtbalmacabojbpaaDo4A
import Derived.Test.YtbalmacabojbpaaDo4B
import Derived.Test.YtbalmacabojbpaaDo4C
import Derived.Test.YtbalmacabojbpaaDo4D
namespace Go.Proofs.Ytbalmacabojbpaa
open Go.RowKit

theorem do4_any {Sd Sr : Nat → Prop} {B : Nat} {w : World} {g h c : Nat} {W : Option Addr} {cw gr : Nat} {L : Option Addr} {cl : Nat} {V : Option Addr} {cv : Nat} {bs : List UInt8} {ls ws vs : List Wr} {left : Int} {off : Bool} {n : Nat} (t : Two Sd Sr B w g h c W cw gr L cl V cv bs ls ws vs left off n) (hn : n ≤ 1000) (d : Dd) (hf : d.fit w B) : Does B w g gr n ls.length d := by
  obtain ⟨p, hp⟩ : ∃ p, (d.what % 8).toNat = p := ⟨_, rfl⟩
  have hp8 : p < 8 := by omega
  have hN : ¬ (d.i < 0 ∨ (ls.length : Int) ≤ d.i) → ∃ N : Nat, d.i = (N : Int) ∧ N < ls.length := fun h => ⟨d.i.toNat, by omega, by omega⟩
  by_cases hb0 : d.bn = 0
  · rcases (by omega : p < 3 ∨ p = 3 ∨ p = 4 ∨ p = 5 ∨ p = 6 ∨ p = 7) with hp3 | rfl | rfl | rfl | rfl | rfl
    · by_cases hi : d.i < 0 ∨ (ls.length : Int) ≤ d.i
      · exact do4_write_arg_sec t hn d hf hb0 hp hp3 hi
      · obtain ⟨N, hi1, hi2⟩ := hN hi
        by_cases h0 : left = 0
        · subst h0
          exact do4_write_cut_sec t hn d hf hb0 hp hp3 N hi1 hi2
        · cases off with
          | true => exact do4_write_off_sec t hn d hf hb0 hp hp3 h0 N hi1 hi2
          | false =>
            by_cases h1 : left < 0
            · exact do4_write_neg_sec t hn d hf hb0 hp hp3 h1 N hi1 hi2
            · exact do4_write_pos_sec t hn d hf hb0 hp hp3 (by omega) N hi1 hi2
    · by_cases hi : d.i < 0 ∨ (ls.length : Int) ≤ d.i
      · exact do4_read_arg_sec t hn d hf hb0 hp hi
      · obtain ⟨N, hi1, hi2⟩ := hN hi
        cases off with
        | true => exact do4_read_off_sec t hn d hf hb0 hp N hi1 hi2
        | false => exact do4_read_ok_sec t hn d hf hb0 hp N hi1 hi2
    · cases off with
      | true => exact do4_flush_off_sec t hn d hf hb0 hp
      | false => exact do4_flush_ok_sec t hn d hf hb0 hp
    · exact do4_cut_sec t hn d hf hb0 hp
    · exact do4_boot_sec t hn d hf hb0 hp
    · exact do4_bytes_sec t hn d hf hb0 hp
  · rcases (by omega : p < 3 ∨ p = 3 ∨ p = 4 ∨ p = 5 ∨ p = 6 ∨ p = 7) with hp3 | rfl | rfl | rfl | rfl | rfl
    · by_cases hi : d.i < 0 ∨ (ls.length : Int) ≤ d.i ∨ d.bn ≠ 512
      · exact do4_write_arg_own t hn d hf hb0 hp hp3 hi
      · obtain ⟨N, hi1, hi2⟩ := hN (by omega)
        have h512 : d.bn = 512 := by omega
        by_cases h0 : left = 0
        · subst h0
          exact do4_write_cut_own t hn d hf hb0 hp hp3 N hi1 hi2 h512
        · cases off with
          | true => exact do4_write_off_own t hn d hf hb0 hp hp3 h0 N hi1 hi2 h512
          | false =>
            by_cases h1 : left < 0
            · exact do4_write_neg_own t hn d hf hb0 hp hp3 h1 N hi1 hi2 h512
            · exact do4_write_pos_own t hn d hf hb0 hp hp3 (by omega) N hi1 hi2 h512
    · by_cases hi : d.i < 0 ∨ (ls.length : Int) ≤ d.i
      · exact do4_read_arg_own t hn d hf hb0 hp hi
      · obtain ⟨N, hi1, hi2⟩ := hN hi
        cases off with
        | true => exact do4_read_off_own t hn d hf hb0 hp N hi1 hi2
        | false => exact do4_read_ok_own t hn d hf hb0 hp N hi1 hi2
    · cases off with
      | true => exact do4_flush_off_own t hn d hf hb0 hp
      | false => exact do4_flush_ok_own t hn d hf hb0 hp
    · exact do4_cut_own t hn d hf hb0 hp
    · exact do4_boot_own t hn d hf hb0 hp
    · exact do4_bytes_own t hn d hf hb0 hp
end Go.Proofs.Ytbalmacabojbpaa
