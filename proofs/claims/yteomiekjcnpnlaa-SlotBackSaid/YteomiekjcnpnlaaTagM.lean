/- Sizes, tags, classes: plain definitions and facts. No program in sight. -/
import Derived.Test.YteomiekjcnpnlaaMath
namespace Go.Proofs.Yteomiekjcnpnlaa

/-- Is it a size? -/
def isSz (n : Int) : Bool := decide (32 ≤ n) && (decide (n ≤ 16384) && n % 16 == 0)
theorem isSz_iff (n : Int) : isSz n = true ↔ 32 ≤ n ∧ n ≤ 16384 ∧ n % 16 = 0 := by simp [isSz]
theorem isSz_false (n : Int) : isSz n = false ↔ ¬ (32 ≤ n ∧ n ≤ 16384 ∧ n % 16 = 0) := by rw [← isSz_iff]; simp
/-- A tag. -/
def packN (s : Int) (u : Bool) : Nat := if isSz s = true then s.toNat + (if u = true then 1 else 0) else 0
/-- What a number tells as a tag. -/
def unpN (w : Nat) : Option (Nat × Bool) := if w ≤ 20000 ∧ isSz ((w - w % 2 : Nat) : Int) = true then some (w - w % 2, w % 2 == 1) else none
/-- The size that n bytes need. -/
def needN (n : Nat) : Option Nat := if n ≤ 16368 then some (max 32 ((n + 31) / 16 * 16)) else none
/-- The class of a size; -1: it is none. -/
def classI (s : Int) : Int := if isSz s = false then -1 else if s ≤ 256 then s / 16 - 2 else if s < 512 then 15 else if s < 1024 then 16 else if s < 2048 then 17 else if s < 4096 then 18 else if s < 8192 then 19 else if s < 16384 then 20 else 21

theorem packN_lt (s : Int) (u : Bool) : packN s u ≤ 16385 := by
  unfold packN
  split
  · rename_i h
    rw [isSz_iff] at h
    split <;> omega
  · omega
theorem unpN_some {w s : Nat} {u : Bool} (h : unpN w = some (s, u)) : isSz (s : Int) = true ∧ w = s + (if u = true then 1 else 0) := by
  unfold unpN at h
  split at h
  · rename_i hc
    injection h with h
    injection h with h1 h2
    subst h1 h2
    refine ⟨hc.2, ?_⟩
    rcases Nat.mod_two_eq_zero_or_one w with h | h <;> simp [h]
    omega
  · cases h
theorem unpN_pack {s : Nat} (hs : isSz (s : Int) = true) (u : Bool) : unpN (s + (if u = true then 1 else 0)) = some (s, u) := by
  have h := (isSz_iff _).1 hs
  unfold unpN
  cases u
  · have e2 : (s + 0) % 2 = 0 := by omega
    simp only [Bool.false_eq_true, if_false, e2]
    rw [if_pos ⟨by omega, hs⟩]
    rfl
  · have e2 : (s + 1) % 2 = 1 := by omega
    simp only [if_true, e2]
    rw [if_pos ⟨by omega, hs⟩]
    rfl
theorem unpN_packN {s : Int} (hs : isSz s = true) (u : Bool) : unpN (packN s u) = some (s.toNat, u) := by
  have h := (isSz_iff _).1 hs
  obtain ⟨n, rfl⟩ : ∃ n : Nat, s = (n : Int) := ⟨s.toNat, by omega⟩
  unfold packN
  rw [if_pos hs]
  exact unpN_pack hs u
theorem classI_bounds (s : Int) : -1 ≤ classI s ∧ classI s ≤ 21 := by
  unfold classI
  by_cases h : isSz s = false
  · rw [if_pos h]; omega
  · have h' := (isSz_iff s).1 (by simpa using h)
    rw [if_neg h]
    repeat' split
    all_goals omega
theorem classI_neg (s : Int) : classI s < 0 ↔ isSz s = false := by
  unfold classI
  by_cases h : isSz s = false
  · simp [h]
  · have h' := (isSz_iff s).1 (by simpa using h)
    rw [if_neg h]
    refine ⟨fun hh => ?_, fun hh => absurd hh h⟩
    exfalso
    revert hh
    repeat' split
    all_goals omega
theorem needN_some {n s : Nat} (h : needN n = some s) : n ≤ 16368 ∧ isSz (s : Int) = true ∧ n + 16 ≤ s ∧ s < n + 48 ∧ (32 < s → s < n + 32) := by
  unfold needN at h
  split at h
  · rename_i hn
    injection h with h
    subst h
    rw [isSz_iff]
    refine ⟨hn, ⟨?_, ?_, ?_⟩, ?_, ?_, ?_⟩ <;> omega
  · cases h

end Go.Proofs.Yteomiekjcnpnlaa
