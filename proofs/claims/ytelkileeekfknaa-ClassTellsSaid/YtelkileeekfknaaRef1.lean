/- The contracts of the document's own numbers: Get, Low, IsSize, Pack, Unpack, Need, Class. -/
import Derived.Test.YtelkileeekfknaaTagM
import Derived.Test.YtelkileeekfknaaAppend
import Derived.Test.YtelkileeekfknaaNum
import Derived.Test.YtelkileeekfknaaPut
import Derived.Test.YtelkileeekfknaaConv
namespace Go.Proofs.Ytelkileeekfknaa
open Go.RowKit

theorem rt_i {k : IntKind} {a b : Int} (h : a = b) : Ending.returned (.int k a) = .returned (.int k b) := by rw [h]
theorem rt_b {a b : Bool} (h : a = b) : Ending.returned (.bool a) = .returned (.bool b) := by rw [h]

theorem low_div (v k q : Nat) (h : v / 256 ^ k = q) : Value.int .u64 ((q : Int) / 256) = Value.int .u64 ((v / 256 ^ (k + 1) : Nat) : Int) := by
  rw [Nat.pow_succ, ← Nat.div_div_eq_div_mul, h]; simp
theorem low_row (v k q : Nat) (h : v / 256 ^ k = q) : (lowB (k + 1) v).map bv = (lowB k v).map bv ++ [Value.int .u8 ((q : Int) % 256)] := by
  rw [lowB_snoc, List.map_append, h]
  simp only [List.map_cons, List.map_nil, bv, toNat_ofNat_mod]
  simp

section
variable (w : World)
set_option maxHeartbeats 400000 in
theorem rissize_any (n : Int) (hn : -9223372036854775808 ≤ n ∧ n ≤ 9223372036854775807) (b : Bool) (hb : isSz n = b) :
    Calls Try.prog 10 #[.int .i64 n] w fun e w' => e = .returned (.bool b) ∧ w = w' := by
  by_cases h1 : 32 ≤ n
  · by_cases h2 : n ≤ 16384
    · have e : (n % 16 == 0) = b := by rw [← hb]; simp [isSz, h1, h2]
      have HE := Lib.hid e
      clear hb e
      go_enter Try.func10, Try.ntmps10
      go_wp2
      go_ret
      exact ⟨rt_b HE.out, rfl⟩
    · obtain rfl : false = b := by rw [← hb]; simp [isSz, h2]
      clear hb
      go_enter Try.func10, Try.ntmps10
      go_wp2
      go_ret
      exact ⟨rfl, rfl⟩
  · obtain rfl : false = b := by rw [← hb]; simp [isSz, h1]
    clear hb
    go_enter Try.func10, Try.ntmps10
    go_wp2
    go_ret
    exact ⟨rfl, rfl⟩

/-- What Unpack tells. -/
def unpV (o : Option (Nat × Bool)) : Value := match o with
  | some (s, u) => .tuple #[.int .i64 (s : Int), .bool u, .bool true]
  | none => .tuple #[.int .i64 0, .bool false, .bool false]

/-- What Need tells. -/
def needV (o : Option Nat) : Value := match o with
  | some s => .tuple #[.int .i64 (s : Int), .bool true]
  | none => .tuple #[.int .i64 0, .bool false]

set_option maxHeartbeats 1000000 in
theorem rneed_any (n : Nat) (hv : n < 18446744073709551616) :
    Calls Try.prog 7 #[.int .u64 (n : Int)] w fun e w' => e = .returned (needV (needN n)) ∧ w = w' := by
  by_cases h0 : 16384 < n
  · have e : needN n = none := by unfold needN; rw [if_neg (by omega)]
    rw [e]
    clear e
    go_enter Try.func7, Try.ntmps7
    go_wp2
    go_ret2
    exact ⟨rfl, rfl⟩
  · obtain ⟨m, hm⟩ : ∃ m, max 32 ((n + 31) / 16 * 16) = m := ⟨_, rfl⟩
    have hm1 : m ≤ 16400 := by omega
    obtain ⟨V, hV⟩ : ∃ V, needV (needN n) = V := ⟨_, rfl⟩
    rw [hV]
    have HV := Lib.hid hV
    have HM := Lib.hid hm
    clear hm hV
    go_enter Try.func7, Try.ntmps7
    go_wp2
    go_loop [4] (fun t => ∃ k : Nat, t = .int .i64 (k : Int) ∧ 32 ≤ k ∧ k ≤ m ∧ k % 16 = 0) (fun t => m - (intOf t).toNat)
    case atStart => exact ⟨32, rfl, by omega, (by have := HM.out; omega), by omega⟩
    case round =>
      obtain ⟨k, rfl, hk1, hk2, hk3⟩ := hrel
      by_cases hlt : k < n + 16
      · have hlt' : (k : Int) < (n : Int) + 16 := by omega
        go_wp2
        go_round
        case rel => exact ⟨k + 16, by go_num, by omega, (by have := HM.out; omega), by omega⟩
        case measure => have := HM.out; simp [intOf]; omega
      · have hlt' : ¬ (k : Int) < (n : Int) + 16 := by omega
        obtain rfl : k = m := by have := HM.out; omega
        by_cases hn : n ≤ 16368
        · have e : needN n = some k := by unfold needN; rw [if_pos hn, HM.out]
          have HE := Lib.hid e
          have HI := Lib.hid (rissize_any w (k : Int) (by omega) true ((isSz_iff _).2 (by have := HM.out; omega)))
          clear e
          go_wp2_with fail
          with_reducible refine HI.out.mono ?_
          rintro e w1 ⟨rfl, rfl⟩
          go_wp2
          go_ret2
          exact ⟨by rw [← HV.out, HE.out]; rfl, rfl⟩
        · have e : needN n = none := by unfold needN; rw [if_neg hn]
          have HE := Lib.hid e
          have HI := Lib.hid (rissize_any w (k : Int) (by omega) false ((isSz_false _).2 (by have := HM.out; omega)))
          clear e
          go_wp2_with fail
          with_reducible refine HI.out.mono ?_
          rintro e w1 ⟨rfl, rfl⟩
          go_wp2
          go_ret2
          exact ⟨by rw [← HV.out, HE.out]; rfl, rfl⟩

set_option maxHeartbeats 1000000 in
theorem rclass_any (s : Int) (hs : -9223372036854775808 ≤ s ∧ s ≤ 9223372036854775807) (c : Int) (hc : classI s = c) :
    Calls Try.prog 9 #[.int .i64 s] w fun e w' => e = .returned (.int .i64 c) ∧ w = w' := by
  cases hb : isSz s
  · obtain rfl : -1 = c := by rw [← hc]; simp [classI, hb]
    have HI := Lib.hid (rissize_any w s hs false hb)
    clear hc hb
    go_enter Try.func9, Try.ntmps9
    go_wp2_with fail
    with_reducible refine HI.out.mono ?_
    rintro e w1 ⟨rfl, rfl⟩
    go_wp2
    go_ret
    exact ⟨rfl, rfl⟩
  · have h := (isSz_iff s).1 hb
    have HI := Lib.hid (rissize_any w s hs true hb)
    have hc' : classI s = c := hc
    unfold classI at hc
    rw [if_neg (by simp [hb])] at hc
    by_cases h0 : s ≤ 256
    · rw [if_pos h0] at hc
      have HC := Lib.hid hc
      clear hc hc' hb
      go_enter Try.func9, Try.ntmps9
      go_wp2_with fail
      with_reducible refine HI.out.mono ?_
      rintro e w1 ⟨rfl, rfl⟩
      go_wp2
      go_ret
      exact ⟨rt_i HC.out, rfl⟩
    · rw [if_neg h0] at hc
      have HC := Lib.hid hc
      clear hc hc' hb
      go_enter Try.func9, Try.ntmps9
      go_wp2_with fail
      with_reducible refine HI.out.mono ?_
      rintro e w1 ⟨rfl, rfl⟩
      go_wp2
      go_loop [4, 5] (fun a t => ∃ k P : Nat, k ≤ 6 ∧ P = 2 ^ k ∧ a = .int .i64 ((15 + k : Nat) : Int) ∧ t = .int .i64 ((512 * P : Nat) : Int) ∧ (256 * P : Int) ≤ s) (fun a _ => 21 - (intOf a).toNat)
      case atStart => exact ⟨0, 1, by omega, rfl, rfl, rfl, by omega⟩
      case round =>
        obtain ⟨k, P, hk, hP, rfl, rfl, hlo⟩ := hrel
        have hP6 : P ≤ 64 := by rw [hP]; exact Nat.pow_le_pow_right (by omega) hk
        by_cases hge : (512 * P : Int) ≤ s
        · have hk5 : k < 6 := by
            rcases Nat.lt_or_ge k 6 with h | h
            · exact h
            · obtain rfl : k = 6 := by omega
              rw [hP] at hge; omega
          have HP := Lib.hid hP
          have g1 : ((512 * P : Nat) : Int) ≤ s := by omega
          clear hP
          go_wp2
          go_round
          case rel => exact ⟨k + 1, 2 * P, by omega, by rw [Nat.pow_succ, HP.out]; omega, by go_num, by go_num, by omega⟩
          case measure => simp [intOf]; omega
        · have g1 : ¬ ((512 * P : Nat) : Int) ≤ s := by omega
          have HR : Hid (((15 + k : Nat) : Int) = c) := (show _ = _ by
            rw [← HC.out]
            match k, hk, hP with
            | 0, _, hP => simp at hP; subst hP; repeat' split
                          all_goals omega
            | 1, _, hP => simp at hP; subst hP; repeat' split
                          all_goals omega
            | 2, _, hP => simp at hP; subst hP; repeat' split
                          all_goals omega
            | 3, _, hP => simp at hP; subst hP; repeat' split
                          all_goals omega
            | 4, _, hP => simp at hP; subst hP; repeat' split
                          all_goals omega
            | 5, _, hP => simp at hP; subst hP; repeat' split
                          all_goals omega
            | 6, _, hP => simp at hP; subst hP; repeat' split
                          all_goals omega)
          clear hP HC
          go_wp2
          go_ret
          exact ⟨rt_i HR.out, rfl⟩
end
end Go.Proofs.Ytelkileeekfknaa
