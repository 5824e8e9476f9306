/- The contracts of the program's tags: isSize, Pack, Unpack; the head of the laws of layer 6. -/
import Derived.Test.YtlhahibdddcpfaaRef1
import Derived.Laws.BitsAllLaws
namespace Go.Proofs.Ytlhahibdddcpfaa
open Go.RowKit

theorem andnot_one (v : Nat) (hv : v ≤ 16385) : wrap64 (bits .andNot .u64 (v : Int) 1) = ((v - v % 2 : Nat) : Int) := by
  have h : bits .andNot .u64 (v : Int) ((1 : Nat) : Int) = ((v &&& (18446744073709551615 - 1) : Nat) : Int) := by
    have hx : v &&& (18446744073709551615 - 1) < 2 ^ 64 := Nat.and_lt_two_pow _ (by omega)
    show IntKind.u64.wrap ((BitVec.ofInt 64 (v : Int) &&& ~~~BitVec.ofInt 64 ((1 : Nat) : Int)).toNat : Int) = _
    rw [BitVec.toNat_and, BitVec.toNat_not, ofInt_u64 v (by omega), ofInt_u64 1 (by omega), IntKind.wrap_u64]
    have e : 2 ^ 64 - 1 - 1 = 18446744073709551615 - 1 := by omega
    rw [e]
    omega
  have h2 : v &&& (18446744073709551615 - 1) = v - v % 2 := by
    rw [nat_hi64_1, Nat.mod_eq_of_lt (by omega)]
    omega
  have h3 : bits .andNot .u64 (v : Int) 1 = ((v - v % 2 : Nat) : Int) := by rw [← h2]; exact h
  rw [h3]
  have h4 := Nat.sub_le v (v % 2)
  unfold wrap64
  omega
theorem and_one (v : Nat) (hv : v < 18446744073709551616) : (bits .and .u64 (v : Int) 1 == 1) = (v % 2 == 1) := by
  have h : bits .and .u64 (v : Int) 1 = ((v &&& 1 : Nat) : Int) := u64_and_nat v 1 hv (by omega)
  rw [h, Nat.and_one_is_mod, Bool.eq_iff_iff, beq_iff_eq, beq_iff_eq]
  omega

section
variable (w : World)
set_option maxHeartbeats 400000 in
theorem tissize_any (n : Int) (hn : -9223372036854775808 ≤ n ∧ n ≤ 9223372036854775807) (b : Bool) (hb : isSz n = b) :
    Calls Try.prog 40 #[.int .i64 n] w fun e w' => e = .returned (.bool b) ∧ w = w' := by
  by_cases h1 : 32 ≤ n
  · by_cases h2 : n ≤ 16384
    · have e : (n % 16 == 0) = b := by rw [← hb]; simp [isSz, h1, h2]
      have HE := Lib.hid e
      clear hb e
      go_enter Try.func40, Try.ntmps40
      go_wp2
      go_ret
      exact ⟨rt_b HE.out, rfl⟩
    · obtain rfl : false = b := by rw [← hb]; simp [isSz, h2]
      clear hb
      go_enter Try.func40, Try.ntmps40
      go_wp2
      go_ret
      exact ⟨rfl, rfl⟩
  · obtain rfl : false = b := by rw [← hb]; simp [isSz, h1]
    clear hb
    go_enter Try.func40, Try.ntmps40
    go_wp2
    go_ret
    exact ⟨rfl, rfl⟩

set_option maxHeartbeats 400000 in
theorem tpack_any (s : Int) (u : Bool) (hs : -9223372036854775808 ≤ s ∧ s ≤ 9223372036854775807) (m : Nat) (hm : packN s u = m) :
    Calls Try.prog 22 #[.int .i64 s, .bool u] w fun e w' => e = .returned (.int .u64 (m : Int)) ∧ w = w' := by
  cases hb : isSz s
  · obtain rfl : 0 = m := by rw [← hm]; simp [packN, hb]
    have HI := Lib.hid (tissize_any w s hs false hb)
    clear hm hb
    go_enter Try.func22, Try.ntmps22
    go_wp2_with fail
    with_reducible refine HI.out.mono ?_
    rintro e w1 ⟨rfl, rfl⟩
    go_wp2
    go_ret
    exact ⟨rfl, rfl⟩
  · have h := (isSz_iff s).1 hb
    have HI := Lib.hid (tissize_any w s hs true hb)
    obtain ⟨n, rfl⟩ : ∃ n : Nat, s = (n : Int) := ⟨s.toNat, by omega⟩
    have hn : n ≤ 16384 := by omega
    have HM : Hid (n + (if u = true then 1 else 0) = m) := (show _ = _ by rw [← hm]; simp [packN, hb])
    clear hm hb h
    cases u
    · go_enter Try.func22, Try.ntmps22
      go_wp2_with fail
      with_reducible refine HI.out.mono ?_
      rintro e w1 ⟨rfl, rfl⟩
      go_wp2
      go_ret
      exact ⟨rt_i (by have := HM.out; simp at this; omega), rfl⟩
    · go_enter Try.func22, Try.ntmps22
      go_wp2_with fail
      with_reducible refine HI.out.mono ?_
      rintro e w1 ⟨rfl, rfl⟩
      go_wp2
      go_ret
      exact ⟨rt_i (by have := HM.out; simp at this; omega), rfl⟩

set_option maxHeartbeats 400000 in
theorem tunpack_any (v : Nat) (hv : v < 18446744073709551616) :
    Calls Try.prog 46 #[.int .u64 (v : Int)] w fun e w' => e = .returned (unpV (unpN v)) ∧ w = w' := by
  by_cases h0 : 16385 < v
  · have e : unpN v = none := by
      unfold unpN
      rw [if_neg]
      rintro ⟨_, h⟩
      have := (isSz_iff _).1 h
      omega
    rw [e]
    clear e
    go_enter Try.func46, Try.ntmps46
    go_wp2
    go_ret3
    exact ⟨rfl, rfl⟩
  · obtain ⟨s, hs⟩ : ∃ s : Nat, v - v % 2 = s := ⟨_, rfl⟩
    have hs2 : wrap64 (bits .andNot .u64 (v : Int) 1) = (s : Int) := by rw [andnot_one v (by omega), hs]
    cases hb : isSz (s : Int)
    · have e : unpN v = none := by unfold unpN; rw [hs, if_neg (by simp [hb])]
      rw [e]
      have HI := Lib.hid (tissize_any w (s : Int) (by have := Nat.sub_le v (v % 2); omega) false hb)
      have HS := Lib.hid hs2
      clear e hs hb hs2
      go_enter Try.func46, Try.ntmps46
      go_wp2_with fail
      rw [HS.out]
      with_reducible refine HI.out.mono ?_
      rintro e w1 ⟨rfl, rfl⟩
      go_wp2
      go_ret3
      exact ⟨rfl, rfl⟩
    · have e : unpN v = some (s, v % 2 == 1) := by unfold unpN; rw [hs, if_pos ⟨by omega, hb⟩]
      rw [e]
      have HI := Lib.hid (tissize_any w (s : Int) (by have := Nat.sub_le v (v % 2); omega) true hb)
      have HS := Lib.hid hs2
      have HB := Lib.hid (and_one v hv)
      clear e hs hb hs2
      go_enter Try.func46, Try.ntmps46
      go_wp2_with fail
      rw [HS.out]
      with_reducible refine HI.out.mono ?_
      rintro e w1 ⟨rfl, rfl⟩
      go_wp2
      go_ret3
      refine ⟨?_, rfl⟩
      rw [← HB.out]
      rfl

end
end Go.Proofs.Ytlhahibdddcpfaa
