/- Blocks in bytes: plain definitions and facts. No program in sight. -/
import Derived.Test.YteomiekjcnpnlaaTagM
namespace Go.Proofs.Yteomiekjcnpnlaa

/-- A block. -/
structure Bk where
  off : Nat
  size : Nat
  used : Bool
deriving DecidableEq
/-- The number of the eight bytes from o on. -/
def wordN (bs : List UInt8) (o : Nat) : Nat := numB ((bs.drop o).take 8)
def word? (bs : List UInt8) (o : Int) : Option Nat := if 0 ≤ o ∧ o + 8 ≤ bs.length then some (wordN bs o.toNat) else none
/-- Could a block of a size stand at o, of so many bytes? -/
def could (n : Nat) (o size : Int) : Bool := decide (184 ≤ o) && (o % 16 == 8 && (decide (o ≤ n) && decide (size ≤ n - o)))
theorem could_iff (n : Nat) (o size : Int) : could n o size = true ↔ 184 ≤ o ∧ o % 16 = 8 ∧ o ≤ n ∧ size ≤ n - o := by simp [could]
/-- The block that stands at o. -/
def getB (bs : List UInt8) (o : Int) : Option Bk :=
  if could bs.length o 8 = false then none else
  match unpN (wordN bs o.toNat) with
  | none => none
  | some (s, u) => if could bs.length o s = false then none else if wordN bs (o.toNat + s - 8) = wordN bs o.toNat then some ⟨o.toNat, s, u⟩ else none
/-- The block that ends at o. -/
def aheadB (bs : List UInt8) (o : Int) : Option Bk :=
  if o < 184 ∨ (bs.length : Int) < o then none else
  match unpN (wordN bs (o.toNat - 8)) with
  | none => none
  | some (s, u) => match getB bs (o - s) with
    | none => none
    | some x => if x.size = s ∧ x.used = u then some x else none

/-- All blocks from o on. -/
def walkF (bs : List UInt8) : Nat → Nat → Option (List Bk)
  | 0, _ => none
  | k + 1, o => if o < bs.length then (match getB bs (o : Int) with
    | none => none
    | some x => (walkF bs k (o + x.size)).map (x :: ·)) else some []
def walkB (bs : List UInt8) : Option (List Bk) := if bs.length < 184 then none else walkF bs (bs.length + 1) 184

theorem wordN_lt (bs : List UInt8) (o : Nat) : wordN bs o < 18446744073709551616 := numB_lt64 _ (by rw [List.length_take]; omega)
theorem getB_some {bs : List UInt8} {o : Int} {x : Bk} (h : getB bs o = some x) : o = (x.off : Int) ∧ 184 ≤ x.off ∧ x.off % 16 = 8 ∧ x.off + x.size ≤ bs.length ∧ isSz (x.size : Int) = true ∧ unpN (wordN bs x.off) = some (x.size, x.used) ∧ wordN bs (x.off + x.size - 8) = wordN bs x.off := by
  unfold getB at h
  split at h
  · cases h
  · rename_i hc
    have hc' := (could_iff _ _ _).1 (by simpa using hc)
    split at h
    · cases h
    · rename_i s u hu
      split at h
      · cases h
      · rename_i hc2
        have hc2' := (could_iff _ _ _).1 (by simpa using hc2)
        split at h
        · rename_i hw
          injection h with h
          subst h
          have := unpN_some hu
          refine ⟨by dsimp only; omega, by dsimp only; omega, by dsimp only; omega, by dsimp only; omega, this.1, hu, hw⟩
        · cases h
/-- A block stands at o just so. -/
theorem getB_of {bs : List UInt8} {x : Bk} (h1 : 184 ≤ x.off) (h2 : x.off % 16 = 8) (h3 : x.off + x.size ≤ bs.length) (h4 : unpN (wordN bs x.off) = some (x.size, x.used)) (h5 : wordN bs (x.off + x.size - 8) = wordN bs x.off) : getB bs (x.off : Int) = some x := by
  have hs := (isSz_iff _).1 (unpN_some h4).1
  unfold getB
  rw [if_neg (by rw [(could_iff _ _ _).2 (by omega)]; simp)]
  rw [Int.toNat_natCast, h4]
  dsimp only
  rw [if_neg (by rw [(could_iff _ _ _).2 (by omega)]; simp), if_pos h5]

end Go.Proofs.Yteomiekjcnpnlaa
