/- The program's classes: isSize, bits.Len, Need, Class. -/
import Derived.Test.YtelkileeekfknaaLaw08
import Derived.Lib.Strings
import Derived.Lib.Slices
import Derived.Lib.Small
import Derived.Lib.Walk
import Derived.Lib.BitFns
namespace Go.Proofs.Ytelkileeekfknaa
open Go.RowKit

section
variable (w : World)
set_option maxHeartbeats 400000 in
theorem cissize_any (n : Int) (hn : -9223372036854775808 ≤ n ∧ n ≤ 9223372036854775807) (b : Bool) (hb : isSz n = b) :
    Calls Try.prog 11 #[.int .i64 n] w fun e w' => e = .returned (.bool b) ∧ w = w' := by
  by_cases h1 : 32 ≤ n
  · by_cases h2 : n ≤ 16384
    · have e : (n % 16 == 0) = b := by rw [← hb]; simp [isSz, h1, h2]
      have HE := Lib.hid e
      clear hb e
      go_enter Try.func11, Try.ntmps11
      go_wp2
      go_ret
      exact ⟨rt_b HE.out, rfl⟩
    · obtain rfl : false = b := by rw [← hb]; simp [isSz, h2]
      clear hb
      go_enter Try.func11, Try.ntmps11
      go_wp2
      go_ret
      exact ⟨rfl, rfl⟩
  · obtain rfl : false = b := by rw [← hb]; simp [isSz, h1]
    clear hb
    go_enter Try.func11, Try.ntmps11
    go_wp2
    go_ret
    exact ⟨rfl, rfl⟩

theorem len8_le : ∀ q : Fin 256, 0 ≤ Lib.len8 (q.1 : Int) ∧ Lib.len8 (q.1 : Int) ≤ 8 := by decide +kernel
set_option maxHeartbeats 4000000 in
set_option maxRecDepth 100000 in
theorem blen64_int (x : Int) (h0 : 0 ≤ x) (h1 : x ≤ 255) : Calls Try.prog 14 #[.int .u64 x] w fun e w' => e = .returned (.int .i64 (wrap64 (wrap64 (Lib.len8 x)))) ∧ w = w' := by
  go_enter Try.func14, Try.ntmps14
  go_wp2
  go_ret
  exact ⟨rfl, rfl⟩
theorem blen64_any (q : Nat) (hq : q ≤ 255) : Calls Try.prog 14 #[.int .u64 (q : Int)] w fun e w' => e = .returned (.int .i64 (Lib.len8 (q : Int))) ∧ w = w' := by
  have hl := len8_le ⟨q, by omega⟩
  have h := blen64_int w (q : Int) (by omega) (by omega)
  have e : wrap64 (wrap64 (Lib.len8 (q : Int))) = Lib.len8 (q : Int) := by
    simp only at hl
    unfold wrap64
    omega
  rw [e] at h
  exact h
set_option maxHeartbeats 400000 in
theorem blen_any (q : Nat) (hq : q ≤ 255) : Calls Try.prog 12 #[.int .u64 (q : Int)] w fun e w' => e = .returned (.int .i64 (Lib.len8 (q : Int))) ∧ w = w' := by
  have H := Lib.hid (blen64_any w q hq)
  go_enter Try.func12, Try.ntmps12
  go_wp2_with fail
  refine H.out.mono ?_
  rintro e w1 ⟨rfl, rfl⟩
  go_wp2
  go_ret
  exact ⟨rfl, rfl⟩

theorem class_len : ∀ q : Fin 65, 1 ≤ q.1 → (q.1 < 2 ∧ Lib.len8 (q.1 : Int) = 1) ∨ (2 ≤ q.1 ∧ q.1 < 4 ∧ Lib.len8 (q.1 : Int) = 2) ∨ (4 ≤ q.1 ∧ q.1 < 8 ∧ Lib.len8 (q.1 : Int) = 3) ∨ (8 ≤ q.1 ∧ q.1 < 16 ∧ Lib.len8 (q.1 : Int) = 4) ∨ (16 ≤ q.1 ∧ q.1 < 32 ∧ Lib.len8 (q.1 : Int) = 5) ∨ (32 ≤ q.1 ∧ q.1 < 64 ∧ Lib.len8 (q.1 : Int) = 6) ∨ (q.1 = 64 ∧ Lib.len8 (q.1 : Int) = 7) := by decide +kernel
end

theorem nv_some {x : Int} {s : Nat} (h : x = (s : Int)) : Ending.returned (.tuple #[.int .i64 x, .bool true]) = .returned (needV (some s)) := by rw [h]; rfl

theorem needC : NeedC := by
  intro w n hn
  by_cases h : n ≤ 16368
  · obtain ⟨s, hs⟩ : ∃ s, needN n = some s := ⟨_, if_pos h⟩
    have e : s = max 32 ((n + 31) / 16 * 16) := by
      have h2 : needN n = some (max 32 ((n + 31) / 16 * 16)) := if_pos h
      rw [h2] at hs
      injection hs with hs
      exact hs.symm
    rw [hs]
    have E := Lib.hid (show s = max 32 ((n + 31) / 16 * 16) from e)
    clear hs e
    go_enter Try.func6, Try.ntmps6
    go_wp2
    all_goals (go_ret2; exact ⟨nv_some (by have := E.out; omega), Below.refl _ _⟩)
  · rw [show needN n = none from if_neg h]
    go_enter Try.func6, Try.ntmps6
    go_wp2
    go_ret2
    exact ⟨rfl, Below.refl _ _⟩

theorem classC : ClassC := by
  intro w s hs
  cases hb : isSz s
  · rw [show classI s = -1 by simp [classI, hb]]
    have HI := Lib.hid (cissize_any w s hs false hb)
    clear hb
    go_enter Try.func8, Try.ntmps8
    go_wp2_with fail
    with_reducible refine HI.out.mono ?_
    rintro e w1 ⟨rfl, rfl⟩
    go_wp2
    go_ret
    exact ⟨rfl, Below.refl _ _⟩
  · have h := (isSz_iff s).1 hb
    have HI := Lib.hid (cissize_any w s hs true hb)
    by_cases h0 : s ≤ 256
    · have e : (s - 32) / 16 = classI s := by
        unfold classI
        rw [if_neg (by simp [hb]), if_pos h0]
        omega
      obtain ⟨c, hc⟩ : ∃ c, classI s = c := ⟨_, rfl⟩
      rw [hc] at e ⊢
      have HC := Lib.hid e
      clear e hc hb
      go_enter Try.func8, Try.ntmps8
      go_wp2_with fail
      with_reducible refine HI.out.mono ?_
      rintro e w1 ⟨rfl, rfl⟩
      go_wp2
      go_ret
      exact ⟨rt_i HC.out, Below.refl _ _⟩
    · obtain ⟨q, hq⟩ : ∃ q : Nat, s / 256 = (q : Int) := ⟨(s / 256).toNat, by omega⟩
      have hq1 : 1 ≤ q ∧ q ≤ 64 := by omega
      have cl := class_len ⟨q, by omega⟩ hq1.1
      simp only at cl
      have e : 14 + Lib.len8 (q : Int) = classI s := by
        unfold classI
        rw [if_neg (by simp [hb]), if_neg h0]
        rcases cl with ⟨_, cl⟩ | ⟨_, _, cl⟩ | ⟨_, _, cl⟩ | ⟨_, _, cl⟩ | ⟨_, _, cl⟩ | ⟨_, _, cl⟩ | ⟨_, cl⟩ <;> rw [cl] <;> (repeat' split) <;> omega
      obtain ⟨c, hc⟩ : ∃ c, classI s = c := ⟨_, rfl⟩
      rw [hc] at e ⊢
      have hl := len8_le ⟨q, by omega⟩
      simp only at hl
      have HC := Lib.hid e
      have HL := Lib.hid (fun W => blen_any W q (by omega))
      clear e hc hb cl
      obtain ⟨l, hl8⟩ : ∃ l, Lib.len8 (q : Int) = l := ⟨_, rfl⟩
      rw [hl8] at HC HL hl
      clear hl8
      go_enter Try.func8, Try.ntmps8
      go_wp2_with fail
      with_reducible refine HI.out.mono ?_
      rintro e w1 ⟨rfl, rfl⟩
      go_wp2_with fail
      refine (HL.out _).mono ?_
      rintro e w1 ⟨rfl, rfl⟩
      go_wp2
      go_ret
      exact ⟨rt_i HC.out, Below.refl _ _⟩
end Go.Proofs.Ytelkileeekfknaa
