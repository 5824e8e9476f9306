/- The reading and the writing contracts in the one form that the laws want: whatever the place, whatever the length. -/
import Derived.Test.YtcpipgjljiljnaaWalk1
import Derived.Test.YtcpipgjljiljnaaWalk3
namespace Go.Proofs.Ytcpipgjljiljnaa
open Go.RowKit

/-- The number that is told of n bytes from p on, and whether there is one. -/
def gotN (bs : List UInt8) (p n : Nat) : Nat := if p + n ≤ bs.length then numB ((bs.drop p).take n) else 0
def gotB (bs : List UInt8) (p n : Nat) : Bool := decide (p + n ≤ bs.length)

theorem gotN_lt (bs : List UInt8) (p : Nat) : gotN bs p 4 < 4294967296 := by
  unfold gotN
  split
  · have := numB_lt ((bs.drop p).take 4)
    have hl : ((bs.drop p).take 4).length = 4 := by simp; omega
    rw [hl] at this
    exact this
  · omega

section
variable (A : Option Addr) (len c B : Nat) (bs : List UInt8) (p : Nat) (w : World) (h : Rd w B A len bs) (hlc : len ≤ c) (hl : len ≤ 1000000)
include h hlc hl
theorem get_any : Calls Try.prog 6 #[.slice A len c, .int .u64 (p : Int)] w fun e w' => e = .returned (.tuple #[.int .u64 (gotN bs p 8 : Int), .bool (gotB bs p 8)]) ∧ w = w' := by
  unfold gotN gotB
  rw [h.1]
  by_cases h2 : p + 8 ≤ len
  · rw [if_pos h2, decide_eq_true h2]; exact get_yes A len c B bs p w h hlc hl h2
  · rw [if_neg h2, decide_eq_false h2]; exact get_no A len c p w hl (by omega)
theorem get4_any : Calls Try.prog 8 #[.slice A len c, .int .u64 (p : Int)] w fun e w' => e = .returned (.tuple #[.int .u32 (gotN bs p 4 : Int), .bool (gotB bs p 4)]) ∧ w = w' := by
  unfold gotN gotB
  rw [h.1]
  by_cases h2 : p + 4 ≤ len
  · rw [if_pos h2, decide_eq_true h2]; exact get4_yes A len c B bs p w h hlc hl h2
  · rw [if_neg h2, decide_eq_false h2]; exact get4_no A len c p w hl (by omega)
theorem refGet_any (n : Nat) (hn0 : 0 < n) (hn : n ≤ 8) : Calls Try.prog 7 #[.slice A len c, .int .u64 (p : Int), .int .i64 (n : Int)] w fun e w' => e = .returned (.tuple #[.int .u64 (gotN bs p n : Int), .bool (gotB bs p n)]) ∧ w = w' := by
  unfold gotN gotB
  rw [h.1]
  by_cases h2 : p + n ≤ len
  · rw [if_pos h2, decide_eq_true h2]; exact refGet_yes A len c B bs p n w h hlc hl hn0 hn h2
  · rw [if_neg h2, decide_eq_false h2]; exact refGet_no A len c p n w hl hn (by omega)
end

theorem refLow_slice (v n : Nat) (w : World) (hn0 : 0 < n) (hn : n ≤ 8) (hv : v < 18446744073709551616) :
    Calls Try.prog 10 #[.int .u64 (v : Int), .int .i64 (n : Int)] w fun e w' => ∃ g cap, e = .returned (.slice (some ⟨g, 0, none⟩) n cap) ∧ Rd w' w'.heap.size (some ⟨g, 0, none⟩) n (lowB n v) ∧ Below w.heap.size w w' := by
  refine (refLow_any v n w hn hv).mono ?_
  rintro e w' ⟨x, rfl, hown, hb⟩
  have hlen : (lowB n v).length = n := lowB_length n v
  rcases hown.2 with ⟨_, h0⟩ | ⟨g, cap, cur, rfl, hg, hh, hnc, _, _, hcur⟩
  · omega
  · refine ⟨g, cap, rfl, ⟨hlen, fun _ => ⟨g, 0, rfl, (hown.lt g rfl).2, fun j u hu => ?_⟩⟩, hb⟩
    have hj : j < n := by
      rcases Nat.lt_or_ge j n with h1 | h1
      · exact h1
      · rw [List.getElem?_eq_none (by omega)] at hu; cases hu
    rw [Nat.zero_add, hown.cellAt j (by omega), List.getElem?_map, hu]
    rfl

end Go.Proofs.Ytcpipgjljiljnaa
