/- The contracts of the document's own numbers: Get, Low, IsSize, Pack, Unpack, Need, Class. -/
import Derived.Test.YtlhahibdddcpfaaTagM
import Derived.Test.YtlhahibdddcpfaaAppend
import Derived.Test.YtlhahibdddcpfaaNum
import Derived.Test.YtlhahibdddcpfaaPut
import Derived.Test.YtlhahibdddcpfaaConv
namespace Go.Proofs.Ytlhahibdddcpfaa
open Go.RowKit

theorem rt_i {k : IntKind} {a b : Int} (h : a = b) : Ending.returned (.int k a) = .returned (.int k b) := by rw [h]
theorem rt_b {a b : Bool} (h : a = b) : Ending.returned (.bool a) = .returned (.bool b) := by rw [h]

theorem low_div (v k q : Nat) (h : v / 256 ^ k = q) : Value.int .u64 ((q : Int) / 256) = Value.int .u64 ((v / 256 ^ (k + 1) : Nat) : Int) := by
  rw [Nat.pow_succ, ← Nat.div_div_eq_div_mul, h]; simp
theorem low_row (v k q : Nat) (h : v / 256 ^ k = q) : (lowB (k + 1) v).map bv = (lowB k v).map bv ++ [Value.int .u8 ((q : Int) % 256)] := by
  rw [lowB_snoc, List.map_append, h]
  simp only [List.map_cons, List.map_nil, bv, toNat_ofNat_mod]
  simp

set_option maxHeartbeats 400000 in
theorem rlow_any (v n : Nat) (w : World) (hn : n ≤ 8) (hv : v < 18446744073709551616) :
    Calls Try.prog 27 #[.int .u64 (v : Int), .int .i64 (n : Int)] w fun e w' => ∃ x, e = .returned x ∧ w'.ownsRow w.heap.size 5 1 x n ((lowB n v).map bv) ∧ Below w.heap.size w w' := by
  obtain ⟨i0, hi, hz0, hz1, hz2⟩ := info_parts u8_info
  go_enter Try.func27, Try.ntmps27
  go_wp2
  go_loopw [0, 5, 6] (fun q x i wr => ∃ k : Nat, k ≤ n ∧ i = .int .i64 k ∧ q = .int .u64 ((v / 256 ^ k : Nat) : Int) ∧ wr.ownsRow w.heap.size 5 1 x k ((lowB k v).map bv) ∧ Below w.heap.size w wr) (fun _ _ i _ => n - (intOf i).toNat)
  case atStart => exact ⟨0, Nat.zero_le _, rfl, by simp, World.ownsRow_nil _ _ _ _, Below.refl _ _⟩
  case round =>
    obtain ⟨k, hk, rfl, rfl, hown, hb⟩ := hrel
    by_cases hlt : k < n
    · have hq : v / 256 ^ k < 18446744073709551616 := Nat.lt_of_le_of_lt (Nat.div_le_self _ _) hv
      generalize hqq : v / 256 ^ k = q at *
      have HQ := Lib.hid hqq
      clear hqq
      have hm : 0 ≤ (q : Int) % 256 ∧ (q : Int) % 256 ≤ 255 := by omega
      obtain ⟨hm0, hm1⟩ := hm
      go_wp2_with (first
        | (at_builtin; refine wpList_append_own _ rfl _ _ 31 rfl w.heap.size 5 i0 (.int .u8 0) 1 1 Try.underlying31 hi hz0 hz1 hz2 rfl (by decide) _ _ _ rfl (hown.alloc _) ⟨wr.heap.size, 0, none⟩ 1 1 [.int .u8 ((q : Int) % 256)] rfl rfl ?c1 ?c2 ?c3 ?c4 ?c5 ?_))
      case c1 =>
        intro j u hj
        match j, hj with
        | 0, hj => simp at hj; subst hj; simp [Addr.add]
      case c2 => intro u hu; simp at hu; subst hu; rfl
      case c3 => unfold maxLen; omega
      case c4 => omega
      case c5 => have := hb.size; simp; omega
      intro x' w1 hown' hgrow _
      have hb1 : Below w.heap.size w w1 := (hb.alloc hb.size _).grown hgrow (by have := hb.size; simp; omega) (fun j hj => (hown.lt j hj).1)
      have Hown := Lib.hid hown'
      clear hown' hgrow
      go_wp2
      go_roundw
      case rel => exact ⟨k + 1, by omega, by go_num, low_div v k q HQ.out, by rw [low_row v k q HQ.out]; exact Hown.out, hb1⟩
      case measure => simp [intOf]; omega
    · go_wp2
      go_ret
      obtain rfl : k = n := by omega
      exact ⟨_, rfl, hown, hb⟩

theorem rlow8 (v : Nat) (w : World) (hv : v < 18446744073709551616) :
    Calls Try.prog 27 #[.int .u64 (v : Int), .int .i64 8] w fun e w' => ∃ g cap, e = .returned (.slice (some ⟨g, 0, none⟩) 8 cap) ∧ w.heap.size ≤ g ∧ Rd w' w'.heap.size (some ⟨g, 0, none⟩) 8 (lowB 8 v) ∧ Below w.heap.size w w' := by
  refine (rlow_any v 8 w (by omega) hv).mono ?_
  rintro e w' ⟨x, rfl, hown, hb⟩
  obtain ⟨g, cap, rfl, _, hr⟩ := own_rd hown (by omega)
  exact ⟨g, cap, rfl, (hown.lt g rfl).1, hr, hb⟩

section
variable (w : World)
set_option maxHeartbeats 400000 in
theorem rissize_any (n : Int) (hn : -9223372036854775808 ≤ n ∧ n ≤ 9223372036854775807) (b : Bool) (hb : isSz n = b) :
    Calls Try.prog 18 #[.int .i64 n] w fun e w' => e = .returned (.bool b) ∧ w = w' := by
  by_cases h1 : 32 ≤ n
  · by_cases h2 : n ≤ 16384
    · have e : (n % 16 == 0) = b := by rw [← hb]; simp [isSz, h1, h2]
      have HE := Lib.hid e
      clear hb e
      go_enter Try.func18, Try.ntmps18
      go_wp2
      go_ret
      exact ⟨rt_b HE.out, rfl⟩
    · obtain rfl : false = b := by rw [← hb]; simp [isSz, h2]
      clear hb
      go_enter Try.func18, Try.ntmps18
      go_wp2
      go_ret
      exact ⟨rfl, rfl⟩
  · obtain rfl : false = b := by rw [← hb]; simp [isSz, h1]
    clear hb
    go_enter Try.func18, Try.ntmps18
    go_wp2
    go_ret
    exact ⟨rfl, rfl⟩

set_option maxHeartbeats 400000 in
theorem rpack_any (s : Int) (u : Bool) (hs : -9223372036854775808 ≤ s ∧ s ≤ 9223372036854775807) (m : Nat) (hm : packN s u = m) :
    Calls Try.prog 29 #[.int .i64 s, .bool u] w fun e w' => e = .returned (.int .u64 (m : Int)) ∧ w = w' := by
  cases hb : isSz s
  · obtain rfl : 0 = m := by rw [← hm]; simp [packN, hb]
    have HI := Lib.hid (rissize_any w s hs false hb)
    clear hm hb
    go_enter Try.func29, Try.ntmps29
    go_wp2_with fail
    with_reducible refine HI.out.mono ?_
    rintro e w1 ⟨rfl, rfl⟩
    go_wp2
    go_ret
    exact ⟨rfl, rfl⟩
  · have h := (isSz_iff s).1 hb
    have HI := Lib.hid (rissize_any w s hs true hb)
    obtain ⟨n, rfl⟩ : ∃ n : Nat, s = (n : Int) := ⟨s.toNat, by omega⟩
    have hn : n ≤ 16384 := by omega
    have HM : Hid (n + (if u = true then 1 else 0) = m) := (show _ = _ by rw [← hm]; simp [packN, hb])
    clear hm hb h
    cases u
    · go_enter Try.func29, Try.ntmps29
      go_wp2_with fail
      with_reducible refine HI.out.mono ?_
      rintro e w1 ⟨rfl, rfl⟩
      go_wp2
      go_ret
      exact ⟨rt_i (by have := HM.out; simp at this; omega), rfl⟩
    · go_enter Try.func29, Try.ntmps29
      go_wp2_with fail
      with_reducible refine HI.out.mono ?_
      rintro e w1 ⟨rfl, rfl⟩
      go_wp2
      go_ret
      exact ⟨rt_i (by have := HM.out; simp at this; omega), rfl⟩

/-- What Unpack tells. -/
def unpV (o : Option (Nat × Bool)) : Value := match o with
  | some (s, u) => .tuple #[.int .i64 (s : Int), .bool u, .bool true]
  | none => .tuple #[.int .i64 0, .bool false, .bool false]

set_option maxHeartbeats 400000 in
theorem runpack_any (v : Nat) (hv : v < 18446744073709551616) :
    Calls Try.prog 35 #[.int .u64 (v : Int)] w fun e w' => e = .returned (unpV (unpN v)) ∧ w = w' := by
  by_cases h0 : 20000 < v
  · have e : unpN v = none := by unfold unpN; rw [if_neg (by omega)]
    rw [e]
    clear e
    go_enter Try.func35, Try.ntmps35
    go_wp2
    go_ret3
    exact ⟨rfl, rfl⟩
  · obtain ⟨s, hs⟩ : ∃ s : Nat, v - v % 2 = s := ⟨_, rfl⟩
    have hs2 : (v : Int) - (v : Int) % 2 = (s : Int) := by omega
    cases hb : isSz (s : Int)
    · have e : unpN v = none := by unfold unpN; rw [hs, if_neg (by simp [hb])]
      rw [e]
      have HI := Lib.hid (rissize_any w (s : Int) (by omega) false hb)
      have HS := Lib.hid hs2
      clear e hs hb hs2
      go_enter Try.func35, Try.ntmps35
      go_wp2_with fail
      rw [HS.out]
      with_reducible refine HI.out.mono ?_
      rintro e w1 ⟨rfl, rfl⟩
      go_wp2
      go_ret3
      exact ⟨rfl, rfl⟩
    · have e : unpN v = some (s, v % 2 == 1) := by unfold unpN; rw [hs, if_pos ⟨by omega, hb⟩]
      rw [e]
      have HI := Lib.hid (rissize_any w (s : Int) (by omega) true hb)
      have HS := Lib.hid hs2
      have HB : Hid (((v : Int) % 2 == 1) = (v % 2 == 1)) := (show _ = _ by
        rw [Bool.eq_iff_iff, beq_iff_eq, beq_iff_eq]; omega)
      clear e hs hb hs2
      go_enter Try.func35, Try.ntmps35
      go_wp2_with fail
      rw [HS.out]
      with_reducible refine HI.out.mono ?_
      rintro e w1 ⟨rfl, rfl⟩
      go_wp2
      go_ret3
      refine ⟨?_, rfl⟩
      rw [← HB.out]
      rfl

/-- What Need tells. -/
def needV (o : Option Nat) : Value := match o with
  | some s => .tuple #[.int .i64 (s : Int), .bool true]
  | none => .tuple #[.int .i64 0, .bool false]

end
end Go.Proofs.Ytlhahibdddcpfaa
