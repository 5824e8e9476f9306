/- The document's records, plain: what was put is got; four bytes turned: none. -/
import Derived.Test.YteomiekjcnpnlaaSlt2
import Derived.Test.YteomiekjcnpnlaaCrc
namespace Go.Proofs.Yteomiekjcnpnlaa
open Go.RowKit

theorem sl_xor {r : Nat} (h : r < 4294967296) : r ^^^ (4294967295 - r) = 4294967295 := by
  apply Nat.eq_of_testBit_eq
  intro i
  have e : 4294967295 - r = 2 ^ 32 - (r + 1) := by omega
  rw [Nat.testBit_xor, e, Nat.testBit_two_pow_sub_succ (show r < 2 ^ 32 from h), show (4294967295 : Nat) = 2 ^ 32 - 1 from rfl, Nat.testBit_two_pow_sub_one]
  by_cases hi : i < 32
  · simp [hi]
  · have : r.testBit i = false := Nat.testBit_lt_two_pow (Nat.lt_of_lt_of_le h (Nat.pow_le_pow_right (by omega) (by omega) : 2 ^ 32 ≤ 2 ^ i))
    simp [hi, this]
/-- Bytes with their sum behind have one and the same sum. -/
theorem sl_res (b : List UInt8) : moreN 0 (wSum b 0) = 4294967295 - stepN 32 4294967295 := by
  unfold wSum sum4
  have hl := foldN_lt (r := 4294967295) b (by omega)
  unfold moreN
  rw [List.drop_zero, Nat.sub_zero, foldN_append, foldN_num _ (lowB 4 _), lowB_length, numB_lowB, Nat.mod_eq_of_lt (show 4294967295 - foldN 4294967295 b < 256 ^ 4 by omega), sl_xor hl]
theorem slPut_res (g n s : Nat) : moreN 0 (slPut g n s) = moreN (4294967295 - stepN 32 4294967295) (List.replicate 480 0) := by
  unfold slPut
  rw [← moreN_append 0 (slHead g n s ++ sum4 (slHead g n s)) _]
  have h := sl_res (slHead g n s)
  unfold wSum at h
  rw [List.drop_zero] at h
  rw [h]
/-- Four bytes that stand together, turned: those, or none. -/
theorem slPut_turned {g n s g' n' s' : Nat} {a q q' r : List UInt8} (hq : q.length = 4) (hq' : q'.length = 4) (h : slPut g n s = a ++ q ++ r) (k : slPut g' n' s' = a ++ q' ++ r) : q' = q := by
  have e : moreN 0 (a ++ q' ++ r) = moreN 0 (a ++ q ++ r) := by rw [← h, ← k, slPut_res, slPut_res]
  have low4 : ∀ {x : List UInt8}, x.length = 4 → lowB 4 (numB x) = x := fun {x} hx => by
    have := lowB_numB x
    rw [hx] at this
    exact this
  have lt4 : ∀ {x : List UInt8}, x.length = 4 → numB x < 4294967296 := fun {x} hx => by
    have := numB_lt x
    rw [hx] at this
    exact this
  rw [← low4 hq, ← low4 hq'] at e
  have e3 := moreN_four a r (lt4 hq') (lt4 hq) e
  rw [← low4 hq, ← low4 hq', e3]
/-- What was put is got. -/
theorem slPut_got {g n s : Nat} (hg : g < 18446744073709551616) (hn : n < 18446744073709551616) (hs : s < 4294967296) : slG (slPut g n s) = g ∧ slN (slPut g n s) = n ∧ slS (slPut g n s) = s := by
  have hm : slMark.length = 8 := rfl
  have l8 : ∀ v, (lowB 8 v).length = 8 := fun v => lowB_length 8 v
  have l4 : ∀ v, (lowB 4 v).length = 4 := fun v => lowB_length 4 v
  have e : slPut g n s = slMark ++ (lowB 8 g ++ (lowB 8 n ++ (lowB 4 s ++ (sum4 (slHead g n s) ++ List.replicate 480 0)))) := by
    unfold slPut
    obtain ⟨X, hX⟩ : ∃ X, sum4 (slHead g n s) = X := ⟨_, rfl⟩
    rw [hX]
    unfold slHead
    simp only [List.append_assoc]
  have d8 : (slPut g n s).drop 8 = lowB 8 g ++ (lowB 8 n ++ (lowB 4 s ++ (sum4 (slHead g n s) ++ List.replicate 480 0))) := by rw [e, ← hm, List.drop_left]
  have d16 : (slPut g n s).drop 16 = lowB 8 n ++ (lowB 4 s ++ (sum4 (slHead g n s) ++ List.replicate 480 0)) := by
    rw [show (16 : Nat) = 8 + 8 from rfl, ← List.drop_drop, d8]
    have := List.drop_left (l₁ := lowB 8 g) (l₂ := lowB 8 n ++ (lowB 4 s ++ (sum4 (slHead g n s) ++ List.replicate 480 0)))
    rw [l8] at this
    exact this
  have d24 : (slPut g n s).drop 24 = lowB 4 s ++ (sum4 (slHead g n s) ++ List.replicate 480 0) := by
    rw [show (24 : Nat) = 16 + 8 from rfl, ← List.drop_drop, d16]
    have := List.drop_left (l₁ := lowB 8 n) (l₂ := lowB 4 s ++ (sum4 (slHead g n s) ++ List.replicate 480 0))
    rw [l8] at this
    exact this
  have tk : ∀ (k : Nat) (x y : List UInt8), x.length = k → (x ++ y).take k = x := fun k x y h => by rw [← h, List.take_left]
  refine ⟨?_, ?_, ?_⟩
  · unfold slG
    rw [d8, tk 8 _ _ (l8 g), numB_lowB, Nat.mod_eq_of_lt hg]
  · unfold slN
    rw [d16, tk 8 _ _ (l8 n), numB_lowB, Nat.mod_eq_of_lt hn]
  · unfold slS
    rw [d24, tk 4 _ _ (l4 s), numB_lowB, Nat.mod_eq_of_lt hs]
end Go.Proofs.Yteomiekjcnpnlaa
