/- The walk of ClassRises, one theorem a way. -/
import Derived.Test.YtelkileeekfknaaLaw08
import Derived.Test.YtelkileeekfknaaRebM
namespace Go.Proofs.Ytelkileeekfknaa
open Go.RowKit

theorem needN_le {n m s t : Nat} (h1 : needN n = some s) (h2 : needN m = some t) (h : n ≤ m) : s ≤ t := by
  unfold needN at h1 h2
  split at h1
  · split at h2
    · injection h1 with h1
      injection h2 with h2
      omega
    · cases h2
  · cases h1

set_option maxHeartbeats 2000000 in
theorem clr_nA (HU : Hid (∀ W, Calls Try.prog 5 #[] W fun e w' => e = .returned (.bool true) ∧ Below W.heap.size W w')) (w : World) (n m : Nat) (_hm : m < 18446744073709551616) (a b : Int) (hn : 16368 < n) (HN : Hid (∀ W, Calls Try.prog 6 #[.int .u64 (n : Int)] W fun e w' => e = .returned (.tuple #[.int .i64 0, .bool false]) ∧ Below W.heap.size W w')) (yi : Int) (yb : Bool) (HM : Hid (∀ W, Calls Try.prog 6 #[.int .u64 (m : Int)] W fun e w' => e = .returned (.tuple #[.int .i64 yi, .bool yb]) ∧ Below W.heap.size W w')) (ha : a < 32) (HC : Hid (∀ W, Calls Try.prog 8 #[.int .i64 a] W fun e w' => e = .returned (.int .i64 (-1)) ∧ Below W.heap.size W w')) (d : Int) (hd : -1 ≤ d ∧ d ≤ 21) (HD : Hid (∀ W, Calls Try.prog 8 #[.int .i64 b] W fun e w' => e = .returned (.int .i64 d) ∧ Below W.heap.size W w')) :
    Calls Try.prog 4 #[.int .u64 (n : Int), .int .u64 (m : Int), .int .i64 a, .int .i64 b] w fun e w' => e = .returned (.bool true) ∧ Below w.heap.size w w' := by
  have v1 : decide ((n : Int) ≤ 16368) = false := decide_eq_false (by omega)
  have v2 : decide (n ≤ 16368) = false := decide_eq_false (by omega)
  have e2 : decide ((21 : Int) < d) = false := decide_eq_false (by omega)
  have u1 : decide (a < 32) = true := decide_eq_true ha
  have HB0 := Lib.hid (Below.refl w.heap.size w)
  go_enter Try.func4, Try.ntmps4
  go_wp2_with fail
  refine (HU.out _).mono ?_
  rintro e w1 ⟨rfl, hb⟩
  have HB1 := Lib.hid (HB0.out.trans (hb.mono HB0.out.size))
  clear hb HB0
  go_wp2_with fail
  refine (HN.out _).mono ?_
  rintro e w2 ⟨rfl, hb⟩
  have HB2 := Lib.hid (HB1.out.trans (hb.mono HB1.out.size))
  clear hb HB1
  go_wp2_with fail
  refine (HM.out _).mono ?_
  rintro e w3 ⟨rfl, hb⟩
  have HB3 := Lib.hid (HB2.out.trans (hb.mono HB2.out.size))
  clear hb HB2
  go_wp2_with fail
  refine (HC.out _).mono ?_
  rintro e w4 ⟨rfl, hb⟩
  have HB4 := Lib.hid (HB3.out.trans (hb.mono HB3.out.size))
  clear hb HB3
  go_wp2_with fail
  refine (HD.out _).mono ?_
  rintro e w5 ⟨rfl, hb⟩
  have HB5 := Lib.hid (HB4.out.trans (hb.mono HB4.out.size))
  clear hb HB4
  go_wp2
  go_ret
  exact ⟨rfl, HB5.out⟩

set_option maxHeartbeats 2000000 in
theorem clr_nB (HU : Hid (∀ W, Calls Try.prog 5 #[] W fun e w' => e = .returned (.bool true) ∧ Below W.heap.size W w')) (w : World) (n m : Nat) (_hm : m < 18446744073709551616) (a b : Int) (hn : 16368 < n) (HN : Hid (∀ W, Calls Try.prog 6 #[.int .u64 (n : Int)] W fun e w' => e = .returned (.tuple #[.int .i64 0, .bool false]) ∧ Below W.heap.size W w')) (yi : Int) (yb : Bool) (HM : Hid (∀ W, Calls Try.prog 6 #[.int .u64 (m : Int)] W fun e w' => e = .returned (.tuple #[.int .i64 yi, .bool yb]) ∧ Below W.heap.size W w')) (ha : 16384 < a) (HC : Hid (∀ W, Calls Try.prog 8 #[.int .i64 a] W fun e w' => e = .returned (.int .i64 (-1)) ∧ Below W.heap.size W w')) (d : Int) (hd : -1 ≤ d ∧ d ≤ 21) (HD : Hid (∀ W, Calls Try.prog 8 #[.int .i64 b] W fun e w' => e = .returned (.int .i64 d) ∧ Below W.heap.size W w')) :
    Calls Try.prog 4 #[.int .u64 (n : Int), .int .u64 (m : Int), .int .i64 a, .int .i64 b] w fun e w' => e = .returned (.bool true) ∧ Below w.heap.size w w' := by
  have v1 : decide ((n : Int) ≤ 16368) = false := decide_eq_false (by omega)
  have v2 : decide (n ≤ 16368) = false := decide_eq_false (by omega)
  have e2 : decide ((21 : Int) < d) = false := decide_eq_false (by omega)
  have u1 : decide (a < 32) = false := decide_eq_false (by omega)
  have u2 : decide ((16384 : Int) < a) = true := decide_eq_true ha
  have HB0 := Lib.hid (Below.refl w.heap.size w)
  go_enter Try.func4, Try.ntmps4
  go_wp2_with fail
  refine (HU.out _).mono ?_
  rintro e w1 ⟨rfl, hb⟩
  have HB1 := Lib.hid (HB0.out.trans (hb.mono HB0.out.size))
  clear hb HB0
  go_wp2_with fail
  refine (HN.out _).mono ?_
  rintro e w2 ⟨rfl, hb⟩
  have HB2 := Lib.hid (HB1.out.trans (hb.mono HB1.out.size))
  clear hb HB1
  go_wp2_with fail
  refine (HM.out _).mono ?_
  rintro e w3 ⟨rfl, hb⟩
  have HB3 := Lib.hid (HB2.out.trans (hb.mono HB2.out.size))
  clear hb HB2
  go_wp2_with fail
  refine (HC.out _).mono ?_
  rintro e w4 ⟨rfl, hb⟩
  have HB4 := Lib.hid (HB3.out.trans (hb.mono HB3.out.size))
  clear hb HB3
  go_wp2_with fail
  refine (HD.out _).mono ?_
  rintro e w5 ⟨rfl, hb⟩
  have HB5 := Lib.hid (HB4.out.trans (hb.mono HB4.out.size))
  clear hb HB4
  go_wp2
  go_ret
  exact ⟨rfl, HB5.out⟩

set_option maxHeartbeats 2000000 in
theorem clr_nC (HU : Hid (∀ W, Calls Try.prog 5 #[] W fun e w' => e = .returned (.bool true) ∧ Below W.heap.size W w')) (w : World) (n m : Nat) (_hm : m < 18446744073709551616) (a b : Int) (hn : 16368 < n) (HN : Hid (∀ W, Calls Try.prog 6 #[.int .u64 (n : Int)] W fun e w' => e = .returned (.tuple #[.int .i64 0, .bool false]) ∧ Below W.heap.size W w')) (yi : Int) (yb : Bool) (HM : Hid (∀ W, Calls Try.prog 6 #[.int .u64 (m : Int)] W fun e w' => e = .returned (.tuple #[.int .i64 yi, .bool yb]) ∧ Below W.heap.size W w')) (ha : 32 ≤ a ∧ a ≤ 16384) (ha2 : a % 16 ≠ 0) (HC : Hid (∀ W, Calls Try.prog 8 #[.int .i64 a] W fun e w' => e = .returned (.int .i64 (-1)) ∧ Below W.heap.size W w')) (d : Int) (hd : -1 ≤ d ∧ d ≤ 21) (HD : Hid (∀ W, Calls Try.prog 8 #[.int .i64 b] W fun e w' => e = .returned (.int .i64 d) ∧ Below W.heap.size W w')) :
    Calls Try.prog 4 #[.int .u64 (n : Int), .int .u64 (m : Int), .int .i64 a, .int .i64 b] w fun e w' => e = .returned (.bool true) ∧ Below w.heap.size w w' := by
  have v1 : decide ((n : Int) ≤ 16368) = false := decide_eq_false (by omega)
  have v2 : decide (n ≤ 16368) = false := decide_eq_false (by omega)
  have e2 : decide ((21 : Int) < d) = false := decide_eq_false (by omega)
  have u1 : decide (a < 32) = false := decide_eq_false (by omega)
  have u2 : decide ((16384 : Int) < a) = false := decide_eq_false (by omega)
  have u0 : 0 ≤ a := by omega
  have u3 : (a % 16 != 0) = true := by rw [bne_iff_ne]; exact ha2
  have HB0 := Lib.hid (Below.refl w.heap.size w)
  go_enter Try.func4, Try.ntmps4
  go_wp2_with fail
  refine (HU.out _).mono ?_
  rintro e w1 ⟨rfl, hb⟩
  have HB1 := Lib.hid (HB0.out.trans (hb.mono HB0.out.size))
  clear hb HB0
  go_wp2_with fail
  refine (HN.out _).mono ?_
  rintro e w2 ⟨rfl, hb⟩
  have HB2 := Lib.hid (HB1.out.trans (hb.mono HB1.out.size))
  clear hb HB1
  go_wp2_with fail
  refine (HM.out _).mono ?_
  rintro e w3 ⟨rfl, hb⟩
  have HB3 := Lib.hid (HB2.out.trans (hb.mono HB2.out.size))
  clear hb HB2
  go_wp2_with fail
  refine (HC.out _).mono ?_
  rintro e w4 ⟨rfl, hb⟩
  have HB4 := Lib.hid (HB3.out.trans (hb.mono HB3.out.size))
  clear hb HB3
  go_wp2_with fail
  refine (HD.out _).mono ?_
  rintro e w5 ⟨rfl, hb⟩
  have HB5 := Lib.hid (HB4.out.trans (hb.mono HB4.out.size))
  clear hb HB4
  go_wp2
  go_ret
  exact ⟨rfl, HB5.out⟩

set_option maxHeartbeats 2000000 in
theorem clr_nD (HU : Hid (∀ W, Calls Try.prog 5 #[] W fun e w' => e = .returned (.bool true) ∧ Below W.heap.size W w')) (w : World) (n m : Nat) (_hm : m < 18446744073709551616) (a b : Int) (hn : 16368 < n) (HN : Hid (∀ W, Calls Try.prog 6 #[.int .u64 (n : Int)] W fun e w' => e = .returned (.tuple #[.int .i64 0, .bool false]) ∧ Below W.heap.size W w')) (yi : Int) (yb : Bool) (HM : Hid (∀ W, Calls Try.prog 6 #[.int .u64 (m : Int)] W fun e w' => e = .returned (.tuple #[.int .i64 yi, .bool yb]) ∧ Below W.heap.size W w')) (ha : 32 ≤ a ∧ a ≤ 16384) (ha2 : a % 16 = 0) (c : Nat) (hc : c ≤ 21) (HC : Hid (∀ W, Calls Try.prog 8 #[.int .i64 a] W fun e w' => e = .returned (.int .i64 (c : Int)) ∧ Below W.heap.size W w')) (HD : Hid (∀ W, Calls Try.prog 8 #[.int .i64 b] W fun e w' => e = .returned (.int .i64 (-1)) ∧ Below W.heap.size W w')) :
    Calls Try.prog 4 #[.int .u64 (n : Int), .int .u64 (m : Int), .int .i64 a, .int .i64 b] w fun e w' => e = .returned (.bool true) ∧ Below w.heap.size w w' := by
  have v1 : decide ((n : Int) ≤ 16368) = false := decide_eq_false (by omega)
  have v2 : decide (n ≤ 16368) = false := decide_eq_false (by omega)
  have u1 : decide (a < 32) = false := decide_eq_false (by omega)
  have u2 : decide ((16384 : Int) < a) = false := decide_eq_false (by omega)
  have u0 : 0 ≤ a := by omega
  have u3 : (a % 16 != 0) = false := by rw [bne_eq_false_iff_eq]; exact ha2
  have e1 : decide ((21 : Int) < (c : Int)) = false := decide_eq_false (by omega)
  have e3 : decide ((c : Int) < -1) = false := decide_eq_false (by omega)
  have e4 : ((c : Int) == -1) = false := by rw [beq_eq_false_iff_ne]; omega
  have e5 : decide ((c : Int) < 0) = false := decide_eq_false (by omega)
  have HB0 := Lib.hid (Below.refl w.heap.size w)
  go_enter Try.func4, Try.ntmps4
  go_wp2_with fail
  refine (HU.out _).mono ?_
  rintro e w1 ⟨rfl, hb⟩
  have HB1 := Lib.hid (HB0.out.trans (hb.mono HB0.out.size))
  clear hb HB0
  go_wp2_with fail
  refine (HN.out _).mono ?_
  rintro e w2 ⟨rfl, hb⟩
  have HB2 := Lib.hid (HB1.out.trans (hb.mono HB1.out.size))
  clear hb HB1
  go_wp2_with fail
  refine (HM.out _).mono ?_
  rintro e w3 ⟨rfl, hb⟩
  have HB3 := Lib.hid (HB2.out.trans (hb.mono HB2.out.size))
  clear hb HB2
  go_wp2_with fail
  refine (HC.out _).mono ?_
  rintro e w4 ⟨rfl, hb⟩
  have HB4 := Lib.hid (HB3.out.trans (hb.mono HB3.out.size))
  clear hb HB3
  go_wp2_with fail
  refine (HD.out _).mono ?_
  rintro e w5 ⟨rfl, hb⟩
  have HB5 := Lib.hid (HB4.out.trans (hb.mono HB4.out.size))
  clear hb HB4
  go_wp2
  go_ret
  exact ⟨rfl, HB5.out⟩

set_option maxHeartbeats 2000000 in
theorem clr_nE (HU : Hid (∀ W, Calls Try.prog 5 #[] W fun e w' => e = .returned (.bool true) ∧ Below W.heap.size W w')) (w : World) (n m : Nat) (_hm : m < 18446744073709551616) (a b : Int) (hn : 16368 < n) (HN : Hid (∀ W, Calls Try.prog 6 #[.int .u64 (n : Int)] W fun e w' => e = .returned (.tuple #[.int .i64 0, .bool false]) ∧ Below W.heap.size W w')) (yi : Int) (yb : Bool) (HM : Hid (∀ W, Calls Try.prog 6 #[.int .u64 (m : Int)] W fun e w' => e = .returned (.tuple #[.int .i64 yi, .bool yb]) ∧ Below W.heap.size W w')) (ha : 32 ≤ a ∧ a ≤ 16384) (ha2 : a % 16 = 0) (c : Nat) (hc : c ≤ 21) (HC : Hid (∀ W, Calls Try.prog 8 #[.int .i64 a] W fun e w' => e = .returned (.int .i64 (c : Int)) ∧ Below W.heap.size W w')) (d : Nat) (hd : d ≤ 21) (HD : Hid (∀ W, Calls Try.prog 8 #[.int .i64 b] W fun e w' => e = .returned (.int .i64 (d : Int)) ∧ Below W.heap.size W w')) (hab : b < a) :
    Calls Try.prog 4 #[.int .u64 (n : Int), .int .u64 (m : Int), .int .i64 a, .int .i64 b] w fun e w' => e = .returned (.bool true) ∧ Below w.heap.size w w' := by
  have v1 : decide ((n : Int) ≤ 16368) = false := decide_eq_false (by omega)
  have v2 : decide (n ≤ 16368) = false := decide_eq_false (by omega)
  have u1 : decide (a < 32) = false := decide_eq_false (by omega)
  have u2 : decide ((16384 : Int) < a) = false := decide_eq_false (by omega)
  have u0 : 0 ≤ a := by omega
  have u3 : (a % 16 != 0) = false := by rw [bne_eq_false_iff_eq]; exact ha2
  have e1 : decide ((21 : Int) < (c : Int)) = false := decide_eq_false (by omega)
  have e3 : decide ((c : Int) < -1) = false := decide_eq_false (by omega)
  have e4 : ((c : Int) == -1) = false := by rw [beq_eq_false_iff_ne]; omega
  have e5 : decide ((c : Int) < 0) = false := decide_eq_false (by omega)
  have e2 : decide ((21 : Int) < (d : Int)) = false := decide_eq_false (by omega)
  have e6 : decide ((d : Int) < 0) = false := decide_eq_false (by omega)
  have e7 : decide (b < a) = true := decide_eq_true hab
  have HB0 := Lib.hid (Below.refl w.heap.size w)
  go_enter Try.func4, Try.ntmps4
  go_wp2_with fail
  refine (HU.out _).mono ?_
  rintro e w1 ⟨rfl, hb⟩
  have HB1 := Lib.hid (HB0.out.trans (hb.mono HB0.out.size))
  clear hb HB0
  go_wp2_with fail
  refine (HN.out _).mono ?_
  rintro e w2 ⟨rfl, hb⟩
  have HB2 := Lib.hid (HB1.out.trans (hb.mono HB1.out.size))
  clear hb HB1
  go_wp2_with fail
  refine (HM.out _).mono ?_
  rintro e w3 ⟨rfl, hb⟩
  have HB3 := Lib.hid (HB2.out.trans (hb.mono HB2.out.size))
  clear hb HB2
  go_wp2_with fail
  refine (HC.out _).mono ?_
  rintro e w4 ⟨rfl, hb⟩
  have HB4 := Lib.hid (HB3.out.trans (hb.mono HB3.out.size))
  clear hb HB3
  go_wp2_with fail
  refine (HD.out _).mono ?_
  rintro e w5 ⟨rfl, hb⟩
  have HB5 := Lib.hid (HB4.out.trans (hb.mono HB4.out.size))
  clear hb HB4
  go_wp2
  go_ret
  exact ⟨rfl, HB5.out⟩

set_option maxHeartbeats 2000000 in
theorem clr_nF (HU : Hid (∀ W, Calls Try.prog 5 #[] W fun e w' => e = .returned (.bool true) ∧ Below W.heap.size W w')) (w : World) (n m : Nat) (_hm : m < 18446744073709551616) (a b : Int) (hn : 16368 < n) (HN : Hid (∀ W, Calls Try.prog 6 #[.int .u64 (n : Int)] W fun e w' => e = .returned (.tuple #[.int .i64 0, .bool false]) ∧ Below W.heap.size W w')) (yi : Int) (yb : Bool) (HM : Hid (∀ W, Calls Try.prog 6 #[.int .u64 (m : Int)] W fun e w' => e = .returned (.tuple #[.int .i64 yi, .bool yb]) ∧ Below W.heap.size W w')) (ha : 32 ≤ a ∧ a ≤ 16384) (ha2 : a % 16 = 0) (c : Nat) (hc : c ≤ 21) (HC : Hid (∀ W, Calls Try.prog 8 #[.int .i64 a] W fun e w' => e = .returned (.int .i64 (c : Int)) ∧ Below W.heap.size W w')) (d : Nat) (hd : d ≤ 21) (HD : Hid (∀ W, Calls Try.prog 8 #[.int .i64 b] W fun e w' => e = .returned (.int .i64 (d : Int)) ∧ Below W.heap.size W w')) (hab : a ≤ b) (hcd : c ≤ d) :
    Calls Try.prog 4 #[.int .u64 (n : Int), .int .u64 (m : Int), .int .i64 a, .int .i64 b] w fun e w' => e = .returned (.bool true) ∧ Below w.heap.size w w' := by
  have v1 : decide ((n : Int) ≤ 16368) = false := decide_eq_false (by omega)
  have v2 : decide (n ≤ 16368) = false := decide_eq_false (by omega)
  have u1 : decide (a < 32) = false := decide_eq_false (by omega)
  have u2 : decide ((16384 : Int) < a) = false := decide_eq_false (by omega)
  have u0 : 0 ≤ a := by omega
  have u3 : (a % 16 != 0) = false := by rw [bne_eq_false_iff_eq]; exact ha2
  have e1 : decide ((21 : Int) < (c : Int)) = false := decide_eq_false (by omega)
  have e3 : decide ((c : Int) < -1) = false := decide_eq_false (by omega)
  have e4 : ((c : Int) == -1) = false := by rw [beq_eq_false_iff_ne]; omega
  have e5 : decide ((c : Int) < 0) = false := decide_eq_false (by omega)
  have e2 : decide ((21 : Int) < (d : Int)) = false := decide_eq_false (by omega)
  have e6 : decide ((d : Int) < 0) = false := decide_eq_false (by omega)
  have e7 : decide (b < a) = false := decide_eq_false (by omega)
  have e8 : decide ((c : Int) ≤ (d : Int)) = true := decide_eq_true (by omega)
  have e9 : decide (c ≤ d) = true := decide_eq_true hcd
  have HB0 := Lib.hid (Below.refl w.heap.size w)
  go_enter Try.func4, Try.ntmps4
  go_wp2_with fail
  refine (HU.out _).mono ?_
  rintro e w1 ⟨rfl, hb⟩
  have HB1 := Lib.hid (HB0.out.trans (hb.mono HB0.out.size))
  clear hb HB0
  go_wp2_with fail
  refine (HN.out _).mono ?_
  rintro e w2 ⟨rfl, hb⟩
  have HB2 := Lib.hid (HB1.out.trans (hb.mono HB1.out.size))
  clear hb HB1
  go_wp2_with fail
  refine (HM.out _).mono ?_
  rintro e w3 ⟨rfl, hb⟩
  have HB3 := Lib.hid (HB2.out.trans (hb.mono HB2.out.size))
  clear hb HB2
  go_wp2_with fail
  refine (HC.out _).mono ?_
  rintro e w4 ⟨rfl, hb⟩
  have HB4 := Lib.hid (HB3.out.trans (hb.mono HB3.out.size))
  clear hb HB3
  go_wp2_with fail
  refine (HD.out _).mono ?_
  rintro e w5 ⟨rfl, hb⟩
  have HB5 := Lib.hid (HB4.out.trans (hb.mono HB4.out.size))
  clear hb HB4
  go_wp2
  go_ret
  exact ⟨rfl, HB5.out⟩

set_option maxHeartbeats 2000000 in
theorem clr_pA (HU : Hid (∀ W, Calls Try.prog 5 #[] W fun e w' => e = .returned (.bool true) ∧ Below W.heap.size W w')) (w : World) (n m : Nat) (_hm : m < 18446744073709551616) (a b : Int) (s cs : Nat) (hn : n ≤ 16368) (h1 : n + 16 ≤ s) (h2 : s < n + 48) (h3 : 32 ≤ s) (h4 : s % 16 = 0) (HN : Hid (∀ W, Calls Try.prog 6 #[.int .u64 (n : Int)] W fun e w' => e = .returned (.tuple #[.int .i64 (s : Int), .bool true]) ∧ Below W.heap.size W w')) (HK : Hid (∀ W, Calls Try.prog 8 #[.int .i64 (s : Int)] W fun e w' => e = .returned (.int .i64 (cs : Int)) ∧ Below W.heap.size W w')) (HM : Hid (∀ W, Calls Try.prog 6 #[.int .u64 (m : Int)] W fun e w' => e = .returned (.tuple #[.int .i64 0, .bool false]) ∧ Below W.heap.size W w')) (ha : a < 32) (HC : Hid (∀ W, Calls Try.prog 8 #[.int .i64 a] W fun e w' => e = .returned (.int .i64 (-1)) ∧ Below W.heap.size W w')) (d : Int) (hd : -1 ≤ d ∧ d ≤ 21) (HD : Hid (∀ W, Calls Try.prog 8 #[.int .i64 b] W fun e w' => e = .returned (.int .i64 d) ∧ Below W.heap.size W w')) :
    Calls Try.prog 4 #[.int .u64 (n : Int), .int .u64 (m : Int), .int .i64 a, .int .i64 b] w fun e w' => e = .returned (.bool true) ∧ Below w.heap.size w w' := by
  have v1 : decide ((n : Int) ≤ 16368) = true := decide_eq_true (by omega)
  have v2 : decide (n ≤ 16368) = true := decide_eq_true (by omega)
  have v3 : (s : Int) % 16 = 0 := by omega
  have v4 : decide ((s : Int) < (n : Int) + 16) = false := decide_eq_false (by omega)
  have v5 : decide (s < n + 16) = false := decide_eq_false (by omega)
  have v6 : decide ((n : Int) + 48 ≤ (s : Int)) = false := decide_eq_false (by omega)
  have v6' : decide ((n : Int) + 16 + 32 ≤ (s : Int)) = false := decide_eq_false (by omega)
  have v7 : decide ((s : Int) < 32) = false := decide_eq_false (by omega)
  have v8 : decide ((cs : Int) < 0) = false := decide_eq_false (by omega)
  have e2 : decide ((21 : Int) < d) = false := decide_eq_false (by omega)
  have u1 : decide (a < 32) = true := decide_eq_true ha
  have HB0 := Lib.hid (Below.refl w.heap.size w)
  go_enter Try.func4, Try.ntmps4
  go_wp2_with fail
  refine (HU.out _).mono ?_
  rintro e w1 ⟨rfl, hb⟩
  have HB1 := Lib.hid (HB0.out.trans (hb.mono HB0.out.size))
  clear hb HB0
  go_wp2_with fail
  refine (HN.out _).mono ?_
  rintro e w2 ⟨rfl, hb⟩
  have HB2 := Lib.hid (HB1.out.trans (hb.mono HB1.out.size))
  clear hb HB1
  go_wp2_with fail
  refine (HM.out _).mono ?_
  rintro e w3 ⟨rfl, hb⟩
  have HB3 := Lib.hid (HB2.out.trans (hb.mono HB2.out.size))
  clear hb HB2
  go_wp2_with fail
  refine (HK.out _).mono ?_
  rintro e w4 ⟨rfl, hb⟩
  have HB4 := Lib.hid (HB3.out.trans (hb.mono HB3.out.size))
  clear hb HB3
  go_wp2_with fail
  refine (HC.out _).mono ?_
  rintro e w5 ⟨rfl, hb⟩
  have HB5 := Lib.hid (HB4.out.trans (hb.mono HB4.out.size))
  clear hb HB4
  go_wp2_with fail
  refine (HD.out _).mono ?_
  rintro e w6 ⟨rfl, hb⟩
  have HB6 := Lib.hid (HB5.out.trans (hb.mono HB5.out.size))
  clear hb HB5
  go_wp2
  go_ret
  exact ⟨rfl, HB6.out⟩

set_option maxHeartbeats 2000000 in
theorem clr_pB (HU : Hid (∀ W, Calls Try.prog 5 #[] W fun e w' => e = .returned (.bool true) ∧ Below W.heap.size W w')) (w : World) (n m : Nat) (_hm : m < 18446744073709551616) (a b : Int) (s cs : Nat) (hn : n ≤ 16368) (h1 : n + 16 ≤ s) (h2 : s < n + 48) (h3 : 32 ≤ s) (h4 : s % 16 = 0) (HN : Hid (∀ W, Calls Try.prog 6 #[.int .u64 (n : Int)] W fun e w' => e = .returned (.tuple #[.int .i64 (s : Int), .bool true]) ∧ Below W.heap.size W w')) (HK : Hid (∀ W, Calls Try.prog 8 #[.int .i64 (s : Int)] W fun e w' => e = .returned (.int .i64 (cs : Int)) ∧ Below W.heap.size W w')) (HM : Hid (∀ W, Calls Try.prog 6 #[.int .u64 (m : Int)] W fun e w' => e = .returned (.tuple #[.int .i64 0, .bool false]) ∧ Below W.heap.size W w')) (ha : 16384 < a) (HC : Hid (∀ W, Calls Try.prog 8 #[.int .i64 a] W fun e w' => e = .returned (.int .i64 (-1)) ∧ Below W.heap.size W w')) (d : Int) (hd : -1 ≤ d ∧ d ≤ 21) (HD : Hid (∀ W, Calls Try.prog 8 #[.int .i64 b] W fun e w' => e = .returned (.int .i64 d) ∧ Below W.heap.size W w')) :
    Calls Try.prog 4 #[.int .u64 (n : Int), .int .u64 (m : Int), .int .i64 a, .int .i64 b] w fun e w' => e = .returned (.bool true) ∧ Below w.heap.size w w' := by
  have v1 : decide ((n : Int) ≤ 16368) = true := decide_eq_true (by omega)
  have v2 : decide (n ≤ 16368) = true := decide_eq_true (by omega)
  have v3 : (s : Int) % 16 = 0 := by omega
  have v4 : decide ((s : Int) < (n : Int) + 16) = false := decide_eq_false (by omega)
  have v5 : decide (s < n + 16) = false := decide_eq_false (by omega)
  have v6 : decide ((n : Int) + 48 ≤ (s : Int)) = false := decide_eq_false (by omega)
  have v6' : decide ((n : Int) + 16 + 32 ≤ (s : Int)) = false := decide_eq_false (by omega)
  have v7 : decide ((s : Int) < 32) = false := decide_eq_false (by omega)
  have v8 : decide ((cs : Int) < 0) = false := decide_eq_false (by omega)
  have e2 : decide ((21 : Int) < d) = false := decide_eq_false (by omega)
  have u1 : decide (a < 32) = false := decide_eq_false (by omega)
  have u2 : decide ((16384 : Int) < a) = true := decide_eq_true ha
  have HB0 := Lib.hid (Below.refl w.heap.size w)
  go_enter Try.func4, Try.ntmps4
  go_wp2_with fail
  refine (HU.out _).mono ?_
  rintro e w1 ⟨rfl, hb⟩
  have HB1 := Lib.hid (HB0.out.trans (hb.mono HB0.out.size))
  clear hb HB0
  go_wp2_with fail
  refine (HN.out _).mono ?_
  rintro e w2 ⟨rfl, hb⟩
  have HB2 := Lib.hid (HB1.out.trans (hb.mono HB1.out.size))
  clear hb HB1
  go_wp2_with fail
  refine (HM.out _).mono ?_
  rintro e w3 ⟨rfl, hb⟩
  have HB3 := Lib.hid (HB2.out.trans (hb.mono HB2.out.size))
  clear hb HB2
  go_wp2_with fail
  refine (HK.out _).mono ?_
  rintro e w4 ⟨rfl, hb⟩
  have HB4 := Lib.hid (HB3.out.trans (hb.mono HB3.out.size))
  clear hb HB3
  go_wp2_with fail
  refine (HC.out _).mono ?_
  rintro e w5 ⟨rfl, hb⟩
  have HB5 := Lib.hid (HB4.out.trans (hb.mono HB4.out.size))
  clear hb HB4
  go_wp2_with fail
  refine (HD.out _).mono ?_
  rintro e w6 ⟨rfl, hb⟩
  have HB6 := Lib.hid (HB5.out.trans (hb.mono HB5.out.size))
  clear hb HB5
  go_wp2
  go_ret
  exact ⟨rfl, HB6.out⟩

set_option maxHeartbeats 2000000 in
theorem clr_pC (HU : Hid (∀ W, Calls Try.prog 5 #[] W fun e w' => e = .returned (.bool true) ∧ Below W.heap.size W w')) (w : World) (n m : Nat) (_hm : m < 18446744073709551616) (a b : Int) (s cs : Nat) (hn : n ≤ 16368) (h1 : n + 16 ≤ s) (h2 : s < n + 48) (h3 : 32 ≤ s) (h4 : s % 16 = 0) (HN : Hid (∀ W, Calls Try.prog 6 #[.int .u64 (n : Int)] W fun e w' => e = .returned (.tuple #[.int .i64 (s : Int), .bool true]) ∧ Below W.heap.size W w')) (HK : Hid (∀ W, Calls Try.prog 8 #[.int .i64 (s : Int)] W fun e w' => e = .returned (.int .i64 (cs : Int)) ∧ Below W.heap.size W w')) (HM : Hid (∀ W, Calls Try.prog 6 #[.int .u64 (m : Int)] W fun e w' => e = .returned (.tuple #[.int .i64 0, .bool false]) ∧ Below W.heap.size W w')) (ha : 32 ≤ a ∧ a ≤ 16384) (ha2 : a % 16 ≠ 0) (HC : Hid (∀ W, Calls Try.prog 8 #[.int .i64 a] W fun e w' => e = .returned (.int .i64 (-1)) ∧ Below W.heap.size W w')) (d : Int) (hd : -1 ≤ d ∧ d ≤ 21) (HD : Hid (∀ W, Calls Try.prog 8 #[.int .i64 b] W fun e w' => e = .returned (.int .i64 d) ∧ Below W.heap.size W w')) :
    Calls Try.prog 4 #[.int .u64 (n : Int), .int .u64 (m : Int), .int .i64 a, .int .i64 b] w fun e w' => e = .returned (.bool true) ∧ Below w.heap.size w w' := by
  have v1 : decide ((n : Int) ≤ 16368) = true := decide_eq_true (by omega)
  have v2 : decide (n ≤ 16368) = true := decide_eq_true (by omega)
  have v3 : (s : Int) % 16 = 0 := by omega
  have v4 : decide ((s : Int) < (n : Int) + 16) = false := decide_eq_false (by omega)
  have v5 : decide (s < n + 16) = false := decide_eq_false (by omega)
  have v6 : decide ((n : Int) + 48 ≤ (s : Int)) = false := decide_eq_false (by omega)
  have v6' : decide ((n : Int) + 16 + 32 ≤ (s : Int)) = false := decide_eq_false (by omega)
  have v7 : decide ((s : Int) < 32) = false := decide_eq_false (by omega)
  have v8 : decide ((cs : Int) < 0) = false := decide_eq_false (by omega)
  have e2 : decide ((21 : Int) < d) = false := decide_eq_false (by omega)
  have u1 : decide (a < 32) = false := decide_eq_false (by omega)
  have u2 : decide ((16384 : Int) < a) = false := decide_eq_false (by omega)
  have u0 : 0 ≤ a := by omega
  have u3 : (a % 16 != 0) = true := by rw [bne_iff_ne]; exact ha2
  have HB0 := Lib.hid (Below.refl w.heap.size w)
  go_enter Try.func4, Try.ntmps4
  go_wp2_with fail
  refine (HU.out _).mono ?_
  rintro e w1 ⟨rfl, hb⟩
  have HB1 := Lib.hid (HB0.out.trans (hb.mono HB0.out.size))
  clear hb HB0
  go_wp2_with fail
  refine (HN.out _).mono ?_
  rintro e w2 ⟨rfl, hb⟩
  have HB2 := Lib.hid (HB1.out.trans (hb.mono HB1.out.size))
  clear hb HB1
  go_wp2_with fail
  refine (HM.out _).mono ?_
  rintro e w3 ⟨rfl, hb⟩
  have HB3 := Lib.hid (HB2.out.trans (hb.mono HB2.out.size))
  clear hb HB2
  go_wp2_with fail
  refine (HK.out _).mono ?_
  rintro e w4 ⟨rfl, hb⟩
  have HB4 := Lib.hid (HB3.out.trans (hb.mono HB3.out.size))
  clear hb HB3
  go_wp2_with fail
  refine (HC.out _).mono ?_
  rintro e w5 ⟨rfl, hb⟩
  have HB5 := Lib.hid (HB4.out.trans (hb.mono HB4.out.size))
  clear hb HB4
  go_wp2_with fail
  refine (HD.out _).mono ?_
  rintro e w6 ⟨rfl, hb⟩
  have HB6 := Lib.hid (HB5.out.trans (hb.mono HB5.out.size))
  clear hb HB5
  go_wp2
  go_ret
  exact ⟨rfl, HB6.out⟩

set_option maxHeartbeats 2000000 in
theorem clr_pD (HU : Hid (∀ W, Calls Try.prog 5 #[] W fun e w' => e = .returned (.bool true) ∧ Below W.heap.size W w')) (w : World) (n m : Nat) (_hm : m < 18446744073709551616) (a b : Int) (s cs : Nat) (hn : n ≤ 16368) (h1 : n + 16 ≤ s) (h2 : s < n + 48) (h3 : 32 ≤ s) (h4 : s % 16 = 0) (HN : Hid (∀ W, Calls Try.prog 6 #[.int .u64 (n : Int)] W fun e w' => e = .returned (.tuple #[.int .i64 (s : Int), .bool true]) ∧ Below W.heap.size W w')) (HK : Hid (∀ W, Calls Try.prog 8 #[.int .i64 (s : Int)] W fun e w' => e = .returned (.int .i64 (cs : Int)) ∧ Below W.heap.size W w')) (HM : Hid (∀ W, Calls Try.prog 6 #[.int .u64 (m : Int)] W fun e w' => e = .returned (.tuple #[.int .i64 0, .bool false]) ∧ Below W.heap.size W w')) (ha : 32 ≤ a ∧ a ≤ 16384) (ha2 : a % 16 = 0) (c : Nat) (hc : c ≤ 21) (HC : Hid (∀ W, Calls Try.prog 8 #[.int .i64 a] W fun e w' => e = .returned (.int .i64 (c : Int)) ∧ Below W.heap.size W w')) (HD : Hid (∀ W, Calls Try.prog 8 #[.int .i64 b] W fun e w' => e = .returned (.int .i64 (-1)) ∧ Below W.heap.size W w')) :
    Calls Try.prog 4 #[.int .u64 (n : Int), .int .u64 (m : Int), .int .i64 a, .int .i64 b] w fun e w' => e = .returned (.bool true) ∧ Below w.heap.size w w' := by
  have v1 : decide ((n : Int) ≤ 16368) = true := decide_eq_true (by omega)
  have v2 : decide (n ≤ 16368) = true := decide_eq_true (by omega)
  have v3 : (s : Int) % 16 = 0 := by omega
  have v4 : decide ((s : Int) < (n : Int) + 16) = false := decide_eq_false (by omega)
  have v5 : decide (s < n + 16) = false := decide_eq_false (by omega)
  have v6 : decide ((n : Int) + 48 ≤ (s : Int)) = false := decide_eq_false (by omega)
  have v6' : decide ((n : Int) + 16 + 32 ≤ (s : Int)) = false := decide_eq_false (by omega)
  have v7 : decide ((s : Int) < 32) = false := decide_eq_false (by omega)
  have v8 : decide ((cs : Int) < 0) = false := decide_eq_false (by omega)
  have u1 : decide (a < 32) = false := decide_eq_false (by omega)
  have u2 : decide ((16384 : Int) < a) = false := decide_eq_false (by omega)
  have u0 : 0 ≤ a := by omega
  have u3 : (a % 16 != 0) = false := by rw [bne_eq_false_iff_eq]; exact ha2
  have e1 : decide ((21 : Int) < (c : Int)) = false := decide_eq_false (by omega)
  have e3 : decide ((c : Int) < -1) = false := decide_eq_false (by omega)
  have e4 : ((c : Int) == -1) = false := by rw [beq_eq_false_iff_ne]; omega
  have e5 : decide ((c : Int) < 0) = false := decide_eq_false (by omega)
  have HB0 := Lib.hid (Below.refl w.heap.size w)
  go_enter Try.func4, Try.ntmps4
  go_wp2_with fail
  refine (HU.out _).mono ?_
  rintro e w1 ⟨rfl, hb⟩
  have HB1 := Lib.hid (HB0.out.trans (hb.mono HB0.out.size))
  clear hb HB0
  go_wp2_with fail
  refine (HN.out _).mono ?_
  rintro e w2 ⟨rfl, hb⟩
  have HB2 := Lib.hid (HB1.out.trans (hb.mono HB1.out.size))
  clear hb HB1
  go_wp2_with fail
  refine (HM.out _).mono ?_
  rintro e w3 ⟨rfl, hb⟩
  have HB3 := Lib.hid (HB2.out.trans (hb.mono HB2.out.size))
  clear hb HB2
  go_wp2_with fail
  refine (HK.out _).mono ?_
  rintro e w4 ⟨rfl, hb⟩
  have HB4 := Lib.hid (HB3.out.trans (hb.mono HB3.out.size))
  clear hb HB3
  go_wp2_with fail
  refine (HC.out _).mono ?_
  rintro e w5 ⟨rfl, hb⟩
  have HB5 := Lib.hid (HB4.out.trans (hb.mono HB4.out.size))
  clear hb HB4
  go_wp2_with fail
  refine (HD.out _).mono ?_
  rintro e w6 ⟨rfl, hb⟩
  have HB6 := Lib.hid (HB5.out.trans (hb.mono HB5.out.size))
  clear hb HB5
  go_wp2
  go_ret
  exact ⟨rfl, HB6.out⟩

set_option maxHeartbeats 2000000 in
theorem clr_pE (HU : Hid (∀ W, Calls Try.prog 5 #[] W fun e w' => e = .returned (.bool true) ∧ Below W.heap.size W w')) (w : World) (n m : Nat) (_hm : m < 18446744073709551616) (a b : Int) (s cs : Nat) (hn : n ≤ 16368) (h1 : n + 16 ≤ s) (h2 : s < n + 48) (h3 : 32 ≤ s) (h4 : s % 16 = 0) (HN : Hid (∀ W, Calls Try.prog 6 #[.int .u64 (n : Int)] W fun e w' => e = .returned (.tuple #[.int .i64 (s : Int), .bool true]) ∧ Below W.heap.size W w')) (HK : Hid (∀ W, Calls Try.prog 8 #[.int .i64 (s : Int)] W fun e w' => e = .returned (.int .i64 (cs : Int)) ∧ Below W.heap.size W w')) (HM : Hid (∀ W, Calls Try.prog 6 #[.int .u64 (m : Int)] W fun e w' => e = .returned (.tuple #[.int .i64 0, .bool false]) ∧ Below W.heap.size W w')) (ha : 32 ≤ a ∧ a ≤ 16384) (ha2 : a % 16 = 0) (c : Nat) (hc : c ≤ 21) (HC : Hid (∀ W, Calls Try.prog 8 #[.int .i64 a] W fun e w' => e = .returned (.int .i64 (c : Int)) ∧ Below W.heap.size W w')) (d : Nat) (hd : d ≤ 21) (HD : Hid (∀ W, Calls Try.prog 8 #[.int .i64 b] W fun e w' => e = .returned (.int .i64 (d : Int)) ∧ Below W.heap.size W w')) (hab : b < a) :
    Calls Try.prog 4 #[.int .u64 (n : Int), .int .u64 (m : Int), .int .i64 a, .int .i64 b] w fun e w' => e = .returned (.bool true) ∧ Below w.heap.size w w' := by
  have v1 : decide ((n : Int) ≤ 16368) = true := decide_eq_true (by omega)
  have v2 : decide (n ≤ 16368) = true := decide_eq_true (by omega)
  have v3 : (s : Int) % 16 = 0 := by omega
  have v4 : decide ((s : Int) < (n : Int) + 16) = false := decide_eq_false (by omega)
  have v5 : decide (s < n + 16) = false := decide_eq_false (by omega)
  have v6 : decide ((n : Int) + 48 ≤ (s : Int)) = false := decide_eq_false (by omega)
  have v6' : decide ((n : Int) + 16 + 32 ≤ (s : Int)) = false := decide_eq_false (by omega)
  have v7 : decide ((s : Int) < 32) = false := decide_eq_false (by omega)
  have v8 : decide ((cs : Int) < 0) = false := decide_eq_false (by omega)
  have u1 : decide (a < 32) = false := decide_eq_false (by omega)
  have u2 : decide ((16384 : Int) < a) = false := decide_eq_false (by omega)
  have u0 : 0 ≤ a := by omega
  have u3 : (a % 16 != 0) = false := by rw [bne_eq_false_iff_eq]; exact ha2
  have e1 : decide ((21 : Int) < (c : Int)) = false := decide_eq_false (by omega)
  have e3 : decide ((c : Int) < -1) = false := decide_eq_false (by omega)
  have e4 : ((c : Int) == -1) = false := by rw [beq_eq_false_iff_ne]; omega
  have e5 : decide ((c : Int) < 0) = false := decide_eq_false (by omega)
  have e2 : decide ((21 : Int) < (d : Int)) = false := decide_eq_false (by omega)
  have e6 : decide ((d : Int) < 0) = false := decide_eq_false (by omega)
  have e7 : decide (b < a) = true := decide_eq_true hab
  have HB0 := Lib.hid (Below.refl w.heap.size w)
  go_enter Try.func4, Try.ntmps4
  go_wp2_with fail
  refine (HU.out _).mono ?_
  rintro e w1 ⟨rfl, hb⟩
  have HB1 := Lib.hid (HB0.out.trans (hb.mono HB0.out.size))
  clear hb HB0
  go_wp2_with fail
  refine (HN.out _).mono ?_
  rintro e w2 ⟨rfl, hb⟩
  have HB2 := Lib.hid (HB1.out.trans (hb.mono HB1.out.size))
  clear hb HB1
  go_wp2_with fail
  refine (HM.out _).mono ?_
  rintro e w3 ⟨rfl, hb⟩
  have HB3 := Lib.hid (HB2.out.trans (hb.mono HB2.out.size))
  clear hb HB2
  go_wp2_with fail
  refine (HK.out _).mono ?_
  rintro e w4 ⟨rfl, hb⟩
  have HB4 := Lib.hid (HB3.out.trans (hb.mono HB3.out.size))
  clear hb HB3
  go_wp2_with fail
  refine (HC.out _).mono ?_
  rintro e w5 ⟨rfl, hb⟩
  have HB5 := Lib.hid (HB4.out.trans (hb.mono HB4.out.size))
  clear hb HB4
  go_wp2_with fail
  refine (HD.out _).mono ?_
  rintro e w6 ⟨rfl, hb⟩
  have HB6 := Lib.hid (HB5.out.trans (hb.mono HB5.out.size))
  clear hb HB5
  go_wp2
  go_ret
  exact ⟨rfl, HB6.out⟩

set_option maxHeartbeats 2000000 in
theorem clr_pF (HU : Hid (∀ W, Calls Try.prog 5 #[] W fun e w' => e = .returned (.bool true) ∧ Below W.heap.size W w')) (w : World) (n m : Nat) (_hm : m < 18446744073709551616) (a b : Int) (s cs : Nat) (hn : n ≤ 16368) (h1 : n + 16 ≤ s) (h2 : s < n + 48) (h3 : 32 ≤ s) (h4 : s % 16 = 0) (HN : Hid (∀ W, Calls Try.prog 6 #[.int .u64 (n : Int)] W fun e w' => e = .returned (.tuple #[.int .i64 (s : Int), .bool true]) ∧ Below W.heap.size W w')) (HK : Hid (∀ W, Calls Try.prog 8 #[.int .i64 (s : Int)] W fun e w' => e = .returned (.int .i64 (cs : Int)) ∧ Below W.heap.size W w')) (HM : Hid (∀ W, Calls Try.prog 6 #[.int .u64 (m : Int)] W fun e w' => e = .returned (.tuple #[.int .i64 0, .bool false]) ∧ Below W.heap.size W w')) (ha : 32 ≤ a ∧ a ≤ 16384) (ha2 : a % 16 = 0) (c : Nat) (hc : c ≤ 21) (HC : Hid (∀ W, Calls Try.prog 8 #[.int .i64 a] W fun e w' => e = .returned (.int .i64 (c : Int)) ∧ Below W.heap.size W w')) (d : Nat) (hd : d ≤ 21) (HD : Hid (∀ W, Calls Try.prog 8 #[.int .i64 b] W fun e w' => e = .returned (.int .i64 (d : Int)) ∧ Below W.heap.size W w')) (hab : a ≤ b) (hcd : c ≤ d) :
    Calls Try.prog 4 #[.int .u64 (n : Int), .int .u64 (m : Int), .int .i64 a, .int .i64 b] w fun e w' => e = .returned (.bool true) ∧ Below w.heap.size w w' := by
  have v1 : decide ((n : Int) ≤ 16368) = true := decide_eq_true (by omega)
  have v2 : decide (n ≤ 16368) = true := decide_eq_true (by omega)
  have v3 : (s : Int) % 16 = 0 := by omega
  have v4 : decide ((s : Int) < (n : Int) + 16) = false := decide_eq_false (by omega)
  have v5 : decide (s < n + 16) = false := decide_eq_false (by omega)
  have v6 : decide ((n : Int) + 48 ≤ (s : Int)) = false := decide_eq_false (by omega)
  have v6' : decide ((n : Int) + 16 + 32 ≤ (s : Int)) = false := decide_eq_false (by omega)
  have v7 : decide ((s : Int) < 32) = false := decide_eq_false (by omega)
  have v8 : decide ((cs : Int) < 0) = false := decide_eq_false (by omega)
  have u1 : decide (a < 32) = false := decide_eq_false (by omega)
  have u2 : decide ((16384 : Int) < a) = false := decide_eq_false (by omega)
  have u0 : 0 ≤ a := by omega
  have u3 : (a % 16 != 0) = false := by rw [bne_eq_false_iff_eq]; exact ha2
  have e1 : decide ((21 : Int) < (c : Int)) = false := decide_eq_false (by omega)
  have e3 : decide ((c : Int) < -1) = false := decide_eq_false (by omega)
  have e4 : ((c : Int) == -1) = false := by rw [beq_eq_false_iff_ne]; omega
  have e5 : decide ((c : Int) < 0) = false := decide_eq_false (by omega)
  have e2 : decide ((21 : Int) < (d : Int)) = false := decide_eq_false (by omega)
  have e6 : decide ((d : Int) < 0) = false := decide_eq_false (by omega)
  have e7 : decide (b < a) = false := decide_eq_false (by omega)
  have e8 : decide ((c : Int) ≤ (d : Int)) = true := decide_eq_true (by omega)
  have e9 : decide (c ≤ d) = true := decide_eq_true hcd
  have HB0 := Lib.hid (Below.refl w.heap.size w)
  go_enter Try.func4, Try.ntmps4
  go_wp2_with fail
  refine (HU.out _).mono ?_
  rintro e w1 ⟨rfl, hb⟩
  have HB1 := Lib.hid (HB0.out.trans (hb.mono HB0.out.size))
  clear hb HB0
  go_wp2_with fail
  refine (HN.out _).mono ?_
  rintro e w2 ⟨rfl, hb⟩
  have HB2 := Lib.hid (HB1.out.trans (hb.mono HB1.out.size))
  clear hb HB1
  go_wp2_with fail
  refine (HM.out _).mono ?_
  rintro e w3 ⟨rfl, hb⟩
  have HB3 := Lib.hid (HB2.out.trans (hb.mono HB2.out.size))
  clear hb HB2
  go_wp2_with fail
  refine (HK.out _).mono ?_
  rintro e w4 ⟨rfl, hb⟩
  have HB4 := Lib.hid (HB3.out.trans (hb.mono HB3.out.size))
  clear hb HB3
  go_wp2_with fail
  refine (HC.out _).mono ?_
  rintro e w5 ⟨rfl, hb⟩
  have HB5 := Lib.hid (HB4.out.trans (hb.mono HB4.out.size))
  clear hb HB4
  go_wp2_with fail
  refine (HD.out _).mono ?_
  rintro e w6 ⟨rfl, hb⟩
  have HB6 := Lib.hid (HB5.out.trans (hb.mono HB5.out.size))
  clear hb HB5
  go_wp2
  go_ret
  exact ⟨rfl, HB6.out⟩

set_option maxHeartbeats 2000000 in
theorem clr_qA (HU : Hid (∀ W, Calls Try.prog 5 #[] W fun e w' => e = .returned (.bool true) ∧ Below W.heap.size W w')) (w : World) (n m : Nat) (_hm : m < 18446744073709551616) (a b : Int) (s cs : Nat) (hn : n ≤ 16368) (h1 : n + 16 ≤ s) (h2 : s < n + 48) (h3 : 32 ≤ s) (h4 : s % 16 = 0) (HN : Hid (∀ W, Calls Try.prog 6 #[.int .u64 (n : Int)] W fun e w' => e = .returned (.tuple #[.int .i64 (s : Int), .bool true]) ∧ Below W.heap.size W w')) (HK : Hid (∀ W, Calls Try.prog 8 #[.int .i64 (s : Int)] W fun e w' => e = .returned (.int .i64 (cs : Int)) ∧ Below W.heap.size W w')) (t : Nat) (hnm : n ≤ m) (hst : s ≤ t) (HM : Hid (∀ W, Calls Try.prog 6 #[.int .u64 (m : Int)] W fun e w' => e = .returned (.tuple #[.int .i64 (t : Int), .bool true]) ∧ Below W.heap.size W w')) (ha : a < 32) (HC : Hid (∀ W, Calls Try.prog 8 #[.int .i64 a] W fun e w' => e = .returned (.int .i64 (-1)) ∧ Below W.heap.size W w')) (d : Int) (hd : -1 ≤ d ∧ d ≤ 21) (HD : Hid (∀ W, Calls Try.prog 8 #[.int .i64 b] W fun e w' => e = .returned (.int .i64 d) ∧ Below W.heap.size W w')) :
    Calls Try.prog 4 #[.int .u64 (n : Int), .int .u64 (m : Int), .int .i64 a, .int .i64 b] w fun e w' => e = .returned (.bool true) ∧ Below w.heap.size w w' := by
  have v1 : decide ((n : Int) ≤ 16368) = true := decide_eq_true (by omega)
  have v2 : decide (n ≤ 16368) = true := decide_eq_true (by omega)
  have v3 : (s : Int) % 16 = 0 := by omega
  have v4 : decide ((s : Int) < (n : Int) + 16) = false := decide_eq_false (by omega)
  have v5 : decide (s < n + 16) = false := decide_eq_false (by omega)
  have v6 : decide ((n : Int) + 48 ≤ (s : Int)) = false := decide_eq_false (by omega)
  have v6' : decide ((n : Int) + 16 + 32 ≤ (s : Int)) = false := decide_eq_false (by omega)
  have v7 : decide ((s : Int) < 32) = false := decide_eq_false (by omega)
  have v8 : decide ((cs : Int) < 0) = false := decide_eq_false (by omega)
  have y1 : decide ((n : Int) ≤ (m : Int)) = true := decide_eq_true (by omega)
  have y2 : decide (n ≤ m) = true := decide_eq_true hnm
  have y3 : decide ((t : Int) < (s : Int)) = false := decide_eq_false (by omega)
  have y4 : decide (t < s) = false := decide_eq_false (by omega)
  have e2 : decide ((21 : Int) < d) = false := decide_eq_false (by omega)
  have u1 : decide (a < 32) = true := decide_eq_true ha
  have HB0 := Lib.hid (Below.refl w.heap.size w)
  go_enter Try.func4, Try.ntmps4
  go_wp2_with fail
  refine (HU.out _).mono ?_
  rintro e w1 ⟨rfl, hb⟩
  have HB1 := Lib.hid (HB0.out.trans (hb.mono HB0.out.size))
  clear hb HB0
  go_wp2_with fail
  refine (HN.out _).mono ?_
  rintro e w2 ⟨rfl, hb⟩
  have HB2 := Lib.hid (HB1.out.trans (hb.mono HB1.out.size))
  clear hb HB1
  go_wp2_with fail
  refine (HM.out _).mono ?_
  rintro e w3 ⟨rfl, hb⟩
  have HB3 := Lib.hid (HB2.out.trans (hb.mono HB2.out.size))
  clear hb HB2
  go_wp2_with fail
  refine (HK.out _).mono ?_
  rintro e w4 ⟨rfl, hb⟩
  have HB4 := Lib.hid (HB3.out.trans (hb.mono HB3.out.size))
  clear hb HB3
  go_wp2_with fail
  refine (HC.out _).mono ?_
  rintro e w5 ⟨rfl, hb⟩
  have HB5 := Lib.hid (HB4.out.trans (hb.mono HB4.out.size))
  clear hb HB4
  go_wp2_with fail
  refine (HD.out _).mono ?_
  rintro e w6 ⟨rfl, hb⟩
  have HB6 := Lib.hid (HB5.out.trans (hb.mono HB5.out.size))
  clear hb HB5
  go_wp2
  go_ret
  exact ⟨rfl, HB6.out⟩

set_option maxHeartbeats 2000000 in
theorem clr_qB (HU : Hid (∀ W, Calls Try.prog 5 #[] W fun e w' => e = .returned (.bool true) ∧ Below W.heap.size W w')) (w : World) (n m : Nat) (_hm : m < 18446744073709551616) (a b : Int) (s cs : Nat) (hn : n ≤ 16368) (h1 : n + 16 ≤ s) (h2 : s < n + 48) (h3 : 32 ≤ s) (h4 : s % 16 = 0) (HN : Hid (∀ W, Calls Try.prog 6 #[.int .u64 (n : Int)] W fun e w' => e = .returned (.tuple #[.int .i64 (s : Int), .bool true]) ∧ Below W.heap.size W w')) (HK : Hid (∀ W, Calls Try.prog 8 #[.int .i64 (s : Int)] W fun e w' => e = .returned (.int .i64 (cs : Int)) ∧ Below W.heap.size W w')) (t : Nat) (hnm : n ≤ m) (hst : s ≤ t) (HM : Hid (∀ W, Calls Try.prog 6 #[.int .u64 (m : Int)] W fun e w' => e = .returned (.tuple #[.int .i64 (t : Int), .bool true]) ∧ Below W.heap.size W w')) (ha : 16384 < a) (HC : Hid (∀ W, Calls Try.prog 8 #[.int .i64 a] W fun e w' => e = .returned (.int .i64 (-1)) ∧ Below W.heap.size W w')) (d : Int) (hd : -1 ≤ d ∧ d ≤ 21) (HD : Hid (∀ W, Calls Try.prog 8 #[.int .i64 b] W fun e w' => e = .returned (.int .i64 d) ∧ Below W.heap.size W w')) :
    Calls Try.prog 4 #[.int .u64 (n : Int), .int .u64 (m : Int), .int .i64 a, .int .i64 b] w fun e w' => e = .returned (.bool true) ∧ Below w.heap.size w w' := by
  have v1 : decide ((n : Int) ≤ 16368) = true := decide_eq_true (by omega)
  have v2 : decide (n ≤ 16368) = true := decide_eq_true (by omega)
  have v3 : (s : Int) % 16 = 0 := by omega
  have v4 : decide ((s : Int) < (n : Int) + 16) = false := decide_eq_false (by omega)
  have v5 : decide (s < n + 16) = false := decide_eq_false (by omega)
  have v6 : decide ((n : Int) + 48 ≤ (s : Int)) = false := decide_eq_false (by omega)
  have v6' : decide ((n : Int) + 16 + 32 ≤ (s : Int)) = false := decide_eq_false (by omega)
  have v7 : decide ((s : Int) < 32) = false := decide_eq_false (by omega)
  have v8 : decide ((cs : Int) < 0) = false := decide_eq_false (by omega)
  have y1 : decide ((n : Int) ≤ (m : Int)) = true := decide_eq_true (by omega)
  have y2 : decide (n ≤ m) = true := decide_eq_true hnm
  have y3 : decide ((t : Int) < (s : Int)) = false := decide_eq_false (by omega)
  have y4 : decide (t < s) = false := decide_eq_false (by omega)
  have e2 : decide ((21 : Int) < d) = false := decide_eq_false (by omega)
  have u1 : decide (a < 32) = false := decide_eq_false (by omega)
  have u2 : decide ((16384 : Int) < a) = true := decide_eq_true ha
  have HB0 := Lib.hid (Below.refl w.heap.size w)
  go_enter Try.func4, Try.ntmps4
  go_wp2_with fail
  refine (HU.out _).mono ?_
  rintro e w1 ⟨rfl, hb⟩
  have HB1 := Lib.hid (HB0.out.trans (hb.mono HB0.out.size))
  clear hb HB0
  go_wp2_with fail
  refine (HN.out _).mono ?_
  rintro e w2 ⟨rfl, hb⟩
  have HB2 := Lib.hid (HB1.out.trans (hb.mono HB1.out.size))
  clear hb HB1
  go_wp2_with fail
  refine (HM.out _).mono ?_
  rintro e w3 ⟨rfl, hb⟩
  have HB3 := Lib.hid (HB2.out.trans (hb.mono HB2.out.size))
  clear hb HB2
  go_wp2_with fail
  refine (HK.out _).mono ?_
  rintro e w4 ⟨rfl, hb⟩
  have HB4 := Lib.hid (HB3.out.trans (hb.mono HB3.out.size))
  clear hb HB3
  go_wp2_with fail
  refine (HC.out _).mono ?_
  rintro e w5 ⟨rfl, hb⟩
  have HB5 := Lib.hid (HB4.out.trans (hb.mono HB4.out.size))
  clear hb HB4
  go_wp2_with fail
  refine (HD.out _).mono ?_
  rintro e w6 ⟨rfl, hb⟩
  have HB6 := Lib.hid (HB5.out.trans (hb.mono HB5.out.size))
  clear hb HB5
  go_wp2
  go_ret
  exact ⟨rfl, HB6.out⟩

set_option maxHeartbeats 2000000 in
theorem clr_qC (HU : Hid (∀ W, Calls Try.prog 5 #[] W fun e w' => e = .returned (.bool true) ∧ Below W.heap.size W w')) (w : World) (n m : Nat) (_hm : m < 18446744073709551616) (a b : Int) (s cs : Nat) (hn : n ≤ 16368) (h1 : n + 16 ≤ s) (h2 : s < n + 48) (h3 : 32 ≤ s) (h4 : s % 16 = 0) (HN : Hid (∀ W, Calls Try.prog 6 #[.int .u64 (n : Int)] W fun e w' => e = .returned (.tuple #[.int .i64 (s : Int), .bool true]) ∧ Below W.heap.size W w')) (HK : Hid (∀ W, Calls Try.prog 8 #[.int .i64 (s : Int)] W fun e w' => e = .returned (.int .i64 (cs : Int)) ∧ Below W.heap.size W w')) (t : Nat) (hnm : n ≤ m) (hst : s ≤ t) (HM : Hid (∀ W, Calls Try.prog 6 #[.int .u64 (m : Int)] W fun e w' => e = .returned (.tuple #[.int .i64 (t : Int), .bool true]) ∧ Below W.heap.size W w')) (ha : 32 ≤ a ∧ a ≤ 16384) (ha2 : a % 16 ≠ 0) (HC : Hid (∀ W, Calls Try.prog 8 #[.int .i64 a] W fun e w' => e = .returned (.int .i64 (-1)) ∧ Below W.heap.size W w')) (d : Int) (hd : -1 ≤ d ∧ d ≤ 21) (HD : Hid (∀ W, Calls Try.prog 8 #[.int .i64 b] W fun e w' => e = .returned (.int .i64 d) ∧ Below W.heap.size W w')) :
    Calls Try.prog 4 #[.int .u64 (n : Int), .int .u64 (m : Int), .int .i64 a, .int .i64 b] w fun e w' => e = .returned (.bool true) ∧ Below w.heap.size w w' := by
  have v1 : decide ((n : Int) ≤ 16368) = true := decide_eq_true (by omega)
  have v2 : decide (n ≤ 16368) = true := decide_eq_true (by omega)
  have v3 : (s : Int) % 16 = 0 := by omega
  have v4 : decide ((s : Int) < (n : Int) + 16) = false := decide_eq_false (by omega)
  have v5 : decide (s < n + 16) = false := decide_eq_false (by omega)
  have v6 : decide ((n : Int) + 48 ≤ (s : Int)) = false := decide_eq_false (by omega)
  have v6' : decide ((n : Int) + 16 + 32 ≤ (s : Int)) = false := decide_eq_false (by omega)
  have v7 : decide ((s : Int) < 32) = false := decide_eq_false (by omega)
  have v8 : decide ((cs : Int) < 0) = false := decide_eq_false (by omega)
  have y1 : decide ((n : Int) ≤ (m : Int)) = true := decide_eq_true (by omega)
  have y2 : decide (n ≤ m) = true := decide_eq_true hnm
  have y3 : decide ((t : Int) < (s : Int)) = false := decide_eq_false (by omega)
  have y4 : decide (t < s) = false := decide_eq_false (by omega)
  have e2 : decide ((21 : Int) < d) = false := decide_eq_false (by omega)
  have u1 : decide (a < 32) = false := decide_eq_false (by omega)
  have u2 : decide ((16384 : Int) < a) = false := decide_eq_false (by omega)
  have u0 : 0 ≤ a := by omega
  have u3 : (a % 16 != 0) = true := by rw [bne_iff_ne]; exact ha2
  have HB0 := Lib.hid (Below.refl w.heap.size w)
  go_enter Try.func4, Try.ntmps4
  go_wp2_with fail
  refine (HU.out _).mono ?_
  rintro e w1 ⟨rfl, hb⟩
  have HB1 := Lib.hid (HB0.out.trans (hb.mono HB0.out.size))
  clear hb HB0
  go_wp2_with fail
  refine (HN.out _).mono ?_
  rintro e w2 ⟨rfl, hb⟩
  have HB2 := Lib.hid (HB1.out.trans (hb.mono HB1.out.size))
  clear hb HB1
  go_wp2_with fail
  refine (HM.out _).mono ?_
  rintro e w3 ⟨rfl, hb⟩
  have HB3 := Lib.hid (HB2.out.trans (hb.mono HB2.out.size))
  clear hb HB2
  go_wp2_with fail
  refine (HK.out _).mono ?_
  rintro e w4 ⟨rfl, hb⟩
  have HB4 := Lib.hid (HB3.out.trans (hb.mono HB3.out.size))
  clear hb HB3
  go_wp2_with fail
  refine (HC.out _).mono ?_
  rintro e w5 ⟨rfl, hb⟩
  have HB5 := Lib.hid (HB4.out.trans (hb.mono HB4.out.size))
  clear hb HB4
  go_wp2_with fail
  refine (HD.out _).mono ?_
  rintro e w6 ⟨rfl, hb⟩
  have HB6 := Lib.hid (HB5.out.trans (hb.mono HB5.out.size))
  clear hb HB5
  go_wp2
  go_ret
  exact ⟨rfl, HB6.out⟩

set_option maxHeartbeats 2000000 in
theorem clr_qD (HU : Hid (∀ W, Calls Try.prog 5 #[] W fun e w' => e = .returned (.bool true) ∧ Below W.heap.size W w')) (w : World) (n m : Nat) (_hm : m < 18446744073709551616) (a b : Int) (s cs : Nat) (hn : n ≤ 16368) (h1 : n + 16 ≤ s) (h2 : s < n + 48) (h3 : 32 ≤ s) (h4 : s % 16 = 0) (HN : Hid (∀ W, Calls Try.prog 6 #[.int .u64 (n : Int)] W fun e w' => e = .returned (.tuple #[.int .i64 (s : Int), .bool true]) ∧ Below W.heap.size W w')) (HK : Hid (∀ W, Calls Try.prog 8 #[.int .i64 (s : Int)] W fun e w' => e = .returned (.int .i64 (cs : Int)) ∧ Below W.heap.size W w')) (t : Nat) (hnm : n ≤ m) (hst : s ≤ t) (HM : Hid (∀ W, Calls Try.prog 6 #[.int .u64 (m : Int)] W fun e w' => e = .returned (.tuple #[.int .i64 (t : Int), .bool true]) ∧ Below W.heap.size W w')) (ha : 32 ≤ a ∧ a ≤ 16384) (ha2 : a % 16 = 0) (c : Nat) (hc : c ≤ 21) (HC : Hid (∀ W, Calls Try.prog 8 #[.int .i64 a] W fun e w' => e = .returned (.int .i64 (c : Int)) ∧ Below W.heap.size W w')) (HD : Hid (∀ W, Calls Try.prog 8 #[.int .i64 b] W fun e w' => e = .returned (.int .i64 (-1)) ∧ Below W.heap.size W w')) :
    Calls Try.prog 4 #[.int .u64 (n : Int), .int .u64 (m : Int), .int .i64 a, .int .i64 b] w fun e w' => e = .returned (.bool true) ∧ Below w.heap.size w w' := by
  have v1 : decide ((n : Int) ≤ 16368) = true := decide_eq_true (by omega)
  have v2 : decide (n ≤ 16368) = true := decide_eq_true (by omega)
  have v3 : (s : Int) % 16 = 0 := by omega
  have v4 : decide ((s : Int) < (n : Int) + 16) = false := decide_eq_false (by omega)
  have v5 : decide (s < n + 16) = false := decide_eq_false (by omega)
  have v6 : decide ((n : Int) + 48 ≤ (s : Int)) = false := decide_eq_false (by omega)
  have v6' : decide ((n : Int) + 16 + 32 ≤ (s : Int)) = false := decide_eq_false (by omega)
  have v7 : decide ((s : Int) < 32) = false := decide_eq_false (by omega)
  have v8 : decide ((cs : Int) < 0) = false := decide_eq_false (by omega)
  have y1 : decide ((n : Int) ≤ (m : Int)) = true := decide_eq_true (by omega)
  have y2 : decide (n ≤ m) = true := decide_eq_true hnm
  have y3 : decide ((t : Int) < (s : Int)) = false := decide_eq_false (by omega)
  have y4 : decide (t < s) = false := decide_eq_false (by omega)
  have u1 : decide (a < 32) = false := decide_eq_false (by omega)
  have u2 : decide ((16384 : Int) < a) = false := decide_eq_false (by omega)
  have u0 : 0 ≤ a := by omega
  have u3 : (a % 16 != 0) = false := by rw [bne_eq_false_iff_eq]; exact ha2
  have e1 : decide ((21 : Int) < (c : Int)) = false := decide_eq_false (by omega)
  have e3 : decide ((c : Int) < -1) = false := decide_eq_false (by omega)
  have e4 : ((c : Int) == -1) = false := by rw [beq_eq_false_iff_ne]; omega
  have e5 : decide ((c : Int) < 0) = false := decide_eq_false (by omega)
  have HB0 := Lib.hid (Below.refl w.heap.size w)
  go_enter Try.func4, Try.ntmps4
  go_wp2_with fail
  refine (HU.out _).mono ?_
  rintro e w1 ⟨rfl, hb⟩
  have HB1 := Lib.hid (HB0.out.trans (hb.mono HB0.out.size))
  clear hb HB0
  go_wp2_with fail
  refine (HN.out _).mono ?_
  rintro e w2 ⟨rfl, hb⟩
  have HB2 := Lib.hid (HB1.out.trans (hb.mono HB1.out.size))
  clear hb HB1
  go_wp2_with fail
  refine (HM.out _).mono ?_
  rintro e w3 ⟨rfl, hb⟩
  have HB3 := Lib.hid (HB2.out.trans (hb.mono HB2.out.size))
  clear hb HB2
  go_wp2_with fail
  refine (HK.out _).mono ?_
  rintro e w4 ⟨rfl, hb⟩
  have HB4 := Lib.hid (HB3.out.trans (hb.mono HB3.out.size))
  clear hb HB3
  go_wp2_with fail
  refine (HC.out _).mono ?_
  rintro e w5 ⟨rfl, hb⟩
  have HB5 := Lib.hid (HB4.out.trans (hb.mono HB4.out.size))
  clear hb HB4
  go_wp2_with fail
  refine (HD.out _).mono ?_
  rintro e w6 ⟨rfl, hb⟩
  have HB6 := Lib.hid (HB5.out.trans (hb.mono HB5.out.size))
  clear hb HB5
  go_wp2
  go_ret
  exact ⟨rfl, HB6.out⟩

set_option maxHeartbeats 2000000 in
theorem clr_qE (HU : Hid (∀ W, Calls Try.prog 5 #[] W fun e w' => e = .returned (.bool true) ∧ Below W.heap.size W w')) (w : World) (n m : Nat) (_hm : m < 18446744073709551616) (a b : Int) (s cs : Nat) (hn : n ≤ 16368) (h1 : n + 16 ≤ s) (h2 : s < n + 48) (h3 : 32 ≤ s) (h4 : s % 16 = 0) (HN : Hid (∀ W, Calls Try.prog 6 #[.int .u64 (n : Int)] W fun e w' => e = .returned (.tuple #[.int .i64 (s : Int), .bool true]) ∧ Below W.heap.size W w')) (HK : Hid (∀ W, Calls Try.prog 8 #[.int .i64 (s : Int)] W fun e w' => e = .returned (.int .i64 (cs : Int)) ∧ Below W.heap.size W w')) (t : Nat) (hnm : n ≤ m) (hst : s ≤ t) (HM : Hid (∀ W, Calls Try.prog 6 #[.int .u64 (m : Int)] W fun e w' => e = .returned (.tuple #[.int .i64 (t : Int), .bool true]) ∧ Below W.heap.size W w')) (ha : 32 ≤ a ∧ a ≤ 16384) (ha2 : a % 16 = 0) (c : Nat) (hc : c ≤ 21) (HC : Hid (∀ W, Calls Try.prog 8 #[.int .i64 a] W fun e w' => e = .returned (.int .i64 (c : Int)) ∧ Below W.heap.size W w')) (d : Nat) (hd : d ≤ 21) (HD : Hid (∀ W, Calls Try.prog 8 #[.int .i64 b] W fun e w' => e = .returned (.int .i64 (d : Int)) ∧ Below W.heap.size W w')) (hab : b < a) :
    Calls Try.prog 4 #[.int .u64 (n : Int), .int .u64 (m : Int), .int .i64 a, .int .i64 b] w fun e w' => e = .returned (.bool true) ∧ Below w.heap.size w w' := by
  have v1 : decide ((n : Int) ≤ 16368) = true := decide_eq_true (by omega)
  have v2 : decide (n ≤ 16368) = true := decide_eq_true (by omega)
  have v3 : (s : Int) % 16 = 0 := by omega
  have v4 : decide ((s : Int) < (n : Int) + 16) = false := decide_eq_false (by omega)
  have v5 : decide (s < n + 16) = false := decide_eq_false (by omega)
  have v6 : decide ((n : Int) + 48 ≤ (s : Int)) = false := decide_eq_false (by omega)
  have v6' : decide ((n : Int) + 16 + 32 ≤ (s : Int)) = false := decide_eq_false (by omega)
  have v7 : decide ((s : Int) < 32) = false := decide_eq_false (by omega)
  have v8 : decide ((cs : Int) < 0) = false := decide_eq_false (by omega)
  have y1 : decide ((n : Int) ≤ (m : Int)) = true := decide_eq_true (by omega)
  have y2 : decide (n ≤ m) = true := decide_eq_true hnm
  have y3 : decide ((t : Int) < (s : Int)) = false := decide_eq_false (by omega)
  have y4 : decide (t < s) = false := decide_eq_false (by omega)
  have u1 : decide (a < 32) = false := decide_eq_false (by omega)
  have u2 : decide ((16384 : Int) < a) = false := decide_eq_false (by omega)
  have u0 : 0 ≤ a := by omega
  have u3 : (a % 16 != 0) = false := by rw [bne_eq_false_iff_eq]; exact ha2
  have e1 : decide ((21 : Int) < (c : Int)) = false := decide_eq_false (by omega)
  have e3 : decide ((c : Int) < -1) = false := decide_eq_false (by omega)
  have e4 : ((c : Int) == -1) = false := by rw [beq_eq_false_iff_ne]; omega
  have e5 : decide ((c : Int) < 0) = false := decide_eq_false (by omega)
  have e2 : decide ((21 : Int) < (d : Int)) = false := decide_eq_false (by omega)
  have e6 : decide ((d : Int) < 0) = false := decide_eq_false (by omega)
  have e7 : decide (b < a) = true := decide_eq_true hab
  have HB0 := Lib.hid (Below.refl w.heap.size w)
  go_enter Try.func4, Try.ntmps4
  go_wp2_with fail
  refine (HU.out _).mono ?_
  rintro e w1 ⟨rfl, hb⟩
  have HB1 := Lib.hid (HB0.out.trans (hb.mono HB0.out.size))
  clear hb HB0
  go_wp2_with fail
  refine (HN.out _).mono ?_
  rintro e w2 ⟨rfl, hb⟩
  have HB2 := Lib.hid (HB1.out.trans (hb.mono HB1.out.size))
  clear hb HB1
  go_wp2_with fail
  refine (HM.out _).mono ?_
  rintro e w3 ⟨rfl, hb⟩
  have HB3 := Lib.hid (HB2.out.trans (hb.mono HB2.out.size))
  clear hb HB2
  go_wp2_with fail
  refine (HK.out _).mono ?_
  rintro e w4 ⟨rfl, hb⟩
  have HB4 := Lib.hid (HB3.out.trans (hb.mono HB3.out.size))
  clear hb HB3
  go_wp2_with fail
  refine (HC.out _).mono ?_
  rintro e w5 ⟨rfl, hb⟩
  have HB5 := Lib.hid (HB4.out.trans (hb.mono HB4.out.size))
  clear hb HB4
  go_wp2_with fail
  refine (HD.out _).mono ?_
  rintro e w6 ⟨rfl, hb⟩
  have HB6 := Lib.hid (HB5.out.trans (hb.mono HB5.out.size))
  clear hb HB5
  go_wp2
  go_ret
  exact ⟨rfl, HB6.out⟩

set_option maxHeartbeats 2000000 in
theorem clr_qF (HU : Hid (∀ W, Calls Try.prog 5 #[] W fun e w' => e = .returned (.bool true) ∧ Below W.heap.size W w')) (w : World) (n m : Nat) (_hm : m < 18446744073709551616) (a b : Int) (s cs : Nat) (hn : n ≤ 16368) (h1 : n + 16 ≤ s) (h2 : s < n + 48) (h3 : 32 ≤ s) (h4 : s % 16 = 0) (HN : Hid (∀ W, Calls Try.prog 6 #[.int .u64 (n : Int)] W fun e w' => e = .returned (.tuple #[.int .i64 (s : Int), .bool true]) ∧ Below W.heap.size W w')) (HK : Hid (∀ W, Calls Try.prog 8 #[.int .i64 (s : Int)] W fun e w' => e = .returned (.int .i64 (cs : Int)) ∧ Below W.heap.size W w')) (t : Nat) (hnm : n ≤ m) (hst : s ≤ t) (HM : Hid (∀ W, Calls Try.prog 6 #[.int .u64 (m : Int)] W fun e w' => e = .returned (.tuple #[.int .i64 (t : Int), .bool true]) ∧ Below W.heap.size W w')) (ha : 32 ≤ a ∧ a ≤ 16384) (ha2 : a % 16 = 0) (c : Nat) (hc : c ≤ 21) (HC : Hid (∀ W, Calls Try.prog 8 #[.int .i64 a] W fun e w' => e = .returned (.int .i64 (c : Int)) ∧ Below W.heap.size W w')) (d : Nat) (hd : d ≤ 21) (HD : Hid (∀ W, Calls Try.prog 8 #[.int .i64 b] W fun e w' => e = .returned (.int .i64 (d : Int)) ∧ Below W.heap.size W w')) (hab : a ≤ b) (hcd : c ≤ d) :
    Calls Try.prog 4 #[.int .u64 (n : Int), .int .u64 (m : Int), .int .i64 a, .int .i64 b] w fun e w' => e = .returned (.bool true) ∧ Below w.heap.size w w' := by
  have v1 : decide ((n : Int) ≤ 16368) = true := decide_eq_true (by omega)
  have v2 : decide (n ≤ 16368) = true := decide_eq_true (by omega)
  have v3 : (s : Int) % 16 = 0 := by omega
  have v4 : decide ((s : Int) < (n : Int) + 16) = false := decide_eq_false (by omega)
  have v5 : decide (s < n + 16) = false := decide_eq_false (by omega)
  have v6 : decide ((n : Int) + 48 ≤ (s : Int)) = false := decide_eq_false (by omega)
  have v6' : decide ((n : Int) + 16 + 32 ≤ (s : Int)) = false := decide_eq_false (by omega)
  have v7 : decide ((s : Int) < 32) = false := decide_eq_false (by omega)
  have v8 : decide ((cs : Int) < 0) = false := decide_eq_false (by omega)
  have y1 : decide ((n : Int) ≤ (m : Int)) = true := decide_eq_true (by omega)
  have y2 : decide (n ≤ m) = true := decide_eq_true hnm
  have y3 : decide ((t : Int) < (s : Int)) = false := decide_eq_false (by omega)
  have y4 : decide (t < s) = false := decide_eq_false (by omega)
  have u1 : decide (a < 32) = false := decide_eq_false (by omega)
  have u2 : decide ((16384 : Int) < a) = false := decide_eq_false (by omega)
  have u0 : 0 ≤ a := by omega
  have u3 : (a % 16 != 0) = false := by rw [bne_eq_false_iff_eq]; exact ha2
  have e1 : decide ((21 : Int) < (c : Int)) = false := decide_eq_false (by omega)
  have e3 : decide ((c : Int) < -1) = false := decide_eq_false (by omega)
  have e4 : ((c : Int) == -1) = false := by rw [beq_eq_false_iff_ne]; omega
  have e5 : decide ((c : Int) < 0) = false := decide_eq_false (by omega)
  have e2 : decide ((21 : Int) < (d : Int)) = false := decide_eq_false (by omega)
  have e6 : decide ((d : Int) < 0) = false := decide_eq_false (by omega)
  have e7 : decide (b < a) = false := decide_eq_false (by omega)
  have e8 : decide ((c : Int) ≤ (d : Int)) = true := decide_eq_true (by omega)
  have e9 : decide (c ≤ d) = true := decide_eq_true hcd
  have HB0 := Lib.hid (Below.refl w.heap.size w)
  go_enter Try.func4, Try.ntmps4
  go_wp2_with fail
  refine (HU.out _).mono ?_
  rintro e w1 ⟨rfl, hb⟩
  have HB1 := Lib.hid (HB0.out.trans (hb.mono HB0.out.size))
  clear hb HB0
  go_wp2_with fail
  refine (HN.out _).mono ?_
  rintro e w2 ⟨rfl, hb⟩
  have HB2 := Lib.hid (HB1.out.trans (hb.mono HB1.out.size))
  clear hb HB1
  go_wp2_with fail
  refine (HM.out _).mono ?_
  rintro e w3 ⟨rfl, hb⟩
  have HB3 := Lib.hid (HB2.out.trans (hb.mono HB2.out.size))
  clear hb HB2
  go_wp2_with fail
  refine (HK.out _).mono ?_
  rintro e w4 ⟨rfl, hb⟩
  have HB4 := Lib.hid (HB3.out.trans (hb.mono HB3.out.size))
  clear hb HB3
  go_wp2_with fail
  refine (HC.out _).mono ?_
  rintro e w5 ⟨rfl, hb⟩
  have HB5 := Lib.hid (HB4.out.trans (hb.mono HB4.out.size))
  clear hb HB4
  go_wp2_with fail
  refine (HD.out _).mono ?_
  rintro e w6 ⟨rfl, hb⟩
  have HB6 := Lib.hid (HB5.out.trans (hb.mono HB5.out.size))
  clear hb HB5
  go_wp2
  go_ret
  exact ⟨rfl, HB6.out⟩

set_option maxHeartbeats 2000000 in
theorem clr_rA (HU : Hid (∀ W, Calls Try.prog 5 #[] W fun e w' => e = .returned (.bool true) ∧ Below W.heap.size W w')) (w : World) (n m : Nat) (_hm : m < 18446744073709551616) (a b : Int) (s cs : Nat) (hn : n ≤ 16368) (h1 : n + 16 ≤ s) (h2 : s < n + 48) (h3 : 32 ≤ s) (h4 : s % 16 = 0) (HN : Hid (∀ W, Calls Try.prog 6 #[.int .u64 (n : Int)] W fun e w' => e = .returned (.tuple #[.int .i64 (s : Int), .bool true]) ∧ Below W.heap.size W w')) (HK : Hid (∀ W, Calls Try.prog 8 #[.int .i64 (s : Int)] W fun e w' => e = .returned (.int .i64 (cs : Int)) ∧ Below W.heap.size W w')) (t : Nat) (hnm : m < n) (HM : Hid (∀ W, Calls Try.prog 6 #[.int .u64 (m : Int)] W fun e w' => e = .returned (.tuple #[.int .i64 (t : Int), .bool true]) ∧ Below W.heap.size W w')) (ha : a < 32) (HC : Hid (∀ W, Calls Try.prog 8 #[.int .i64 a] W fun e w' => e = .returned (.int .i64 (-1)) ∧ Below W.heap.size W w')) (d : Int) (hd : -1 ≤ d ∧ d ≤ 21) (HD : Hid (∀ W, Calls Try.prog 8 #[.int .i64 b] W fun e w' => e = .returned (.int .i64 d) ∧ Below W.heap.size W w')) :
    Calls Try.prog 4 #[.int .u64 (n : Int), .int .u64 (m : Int), .int .i64 a, .int .i64 b] w fun e w' => e = .returned (.bool true) ∧ Below w.heap.size w w' := by
  have v1 : decide ((n : Int) ≤ 16368) = true := decide_eq_true (by omega)
  have v2 : decide (n ≤ 16368) = true := decide_eq_true (by omega)
  have v3 : (s : Int) % 16 = 0 := by omega
  have v4 : decide ((s : Int) < (n : Int) + 16) = false := decide_eq_false (by omega)
  have v5 : decide (s < n + 16) = false := decide_eq_false (by omega)
  have v6 : decide ((n : Int) + 48 ≤ (s : Int)) = false := decide_eq_false (by omega)
  have v6' : decide ((n : Int) + 16 + 32 ≤ (s : Int)) = false := decide_eq_false (by omega)
  have v7 : decide ((s : Int) < 32) = false := decide_eq_false (by omega)
  have v8 : decide ((cs : Int) < 0) = false := decide_eq_false (by omega)
  have y1 : decide ((n : Int) ≤ (m : Int)) = false := decide_eq_false (by omega)
  have y2 : decide (n ≤ m) = false := decide_eq_false (by omega)
  have e2 : decide ((21 : Int) < d) = false := decide_eq_false (by omega)
  have u1 : decide (a < 32) = true := decide_eq_true ha
  have HB0 := Lib.hid (Below.refl w.heap.size w)
  go_enter Try.func4, Try.ntmps4
  go_wp2_with fail
  refine (HU.out _).mono ?_
  rintro e w1 ⟨rfl, hb⟩
  have HB1 := Lib.hid (HB0.out.trans (hb.mono HB0.out.size))
  clear hb HB0
  go_wp2_with fail
  refine (HN.out _).mono ?_
  rintro e w2 ⟨rfl, hb⟩
  have HB2 := Lib.hid (HB1.out.trans (hb.mono HB1.out.size))
  clear hb HB1
  go_wp2_with fail
  refine (HM.out _).mono ?_
  rintro e w3 ⟨rfl, hb⟩
  have HB3 := Lib.hid (HB2.out.trans (hb.mono HB2.out.size))
  clear hb HB2
  go_wp2_with fail
  refine (HK.out _).mono ?_
  rintro e w4 ⟨rfl, hb⟩
  have HB4 := Lib.hid (HB3.out.trans (hb.mono HB3.out.size))
  clear hb HB3
  go_wp2_with fail
  refine (HC.out _).mono ?_
  rintro e w5 ⟨rfl, hb⟩
  have HB5 := Lib.hid (HB4.out.trans (hb.mono HB4.out.size))
  clear hb HB4
  go_wp2_with fail
  refine (HD.out _).mono ?_
  rintro e w6 ⟨rfl, hb⟩
  have HB6 := Lib.hid (HB5.out.trans (hb.mono HB5.out.size))
  clear hb HB5
  go_wp2
  go_ret
  exact ⟨rfl, HB6.out⟩

set_option maxHeartbeats 2000000 in
theorem clr_rB (HU : Hid (∀ W, Calls Try.prog 5 #[] W fun e w' => e = .returned (.bool true) ∧ Below W.heap.size W w')) (w : World) (n m : Nat) (_hm : m < 18446744073709551616) (a b : Int) (s cs : Nat) (hn : n ≤ 16368) (h1 : n + 16 ≤ s) (h2 : s < n + 48) (h3 : 32 ≤ s) (h4 : s % 16 = 0) (HN : Hid (∀ W, Calls Try.prog 6 #[.int .u64 (n : Int)] W fun e w' => e = .returned (.tuple #[.int .i64 (s : Int), .bool true]) ∧ Below W.heap.size W w')) (HK : Hid (∀ W, Calls Try.prog 8 #[.int .i64 (s : Int)] W fun e w' => e = .returned (.int .i64 (cs : Int)) ∧ Below W.heap.size W w')) (t : Nat) (hnm : m < n) (HM : Hid (∀ W, Calls Try.prog 6 #[.int .u64 (m : Int)] W fun e w' => e = .returned (.tuple #[.int .i64 (t : Int), .bool true]) ∧ Below W.heap.size W w')) (ha : 16384 < a) (HC : Hid (∀ W, Calls Try.prog 8 #[.int .i64 a] W fun e w' => e = .returned (.int .i64 (-1)) ∧ Below W.heap.size W w')) (d : Int) (hd : -1 ≤ d ∧ d ≤ 21) (HD : Hid (∀ W, Calls Try.prog 8 #[.int .i64 b] W fun e w' => e = .returned (.int .i64 d) ∧ Below W.heap.size W w')) :
    Calls Try.prog 4 #[.int .u64 (n : Int), .int .u64 (m : Int), .int .i64 a, .int .i64 b] w fun e w' => e = .returned (.bool true) ∧ Below w.heap.size w w' := by
  have v1 : decide ((n : Int) ≤ 16368) = true := decide_eq_true (by omega)
  have v2 : decide (n ≤ 16368) = true := decide_eq_true (by omega)
  have v3 : (s : Int) % 16 = 0 := by omega
  have v4 : decide ((s : Int) < (n : Int) + 16) = false := decide_eq_false (by omega)
  have v5 : decide (s < n + 16) = false := decide_eq_false (by omega)
  have v6 : decide ((n : Int) + 48 ≤ (s : Int)) = false := decide_eq_false (by omega)
  have v6' : decide ((n : Int) + 16 + 32 ≤ (s : Int)) = false := decide_eq_false (by omega)
  have v7 : decide ((s : Int) < 32) = false := decide_eq_false (by omega)
  have v8 : decide ((cs : Int) < 0) = false := decide_eq_false (by omega)
  have y1 : decide ((n : Int) ≤ (m : Int)) = false := decide_eq_false (by omega)
  have y2 : decide (n ≤ m) = false := decide_eq_false (by omega)
  have e2 : decide ((21 : Int) < d) = false := decide_eq_false (by omega)
  have u1 : decide (a < 32) = false := decide_eq_false (by omega)
  have u2 : decide ((16384 : Int) < a) = true := decide_eq_true ha
  have HB0 := Lib.hid (Below.refl w.heap.size w)
  go_enter Try.func4, Try.ntmps4
  go_wp2_with fail
  refine (HU.out _).mono ?_
  rintro e w1 ⟨rfl, hb⟩
  have HB1 := Lib.hid (HB0.out.trans (hb.mono HB0.out.size))
  clear hb HB0
  go_wp2_with fail
  refine (HN.out _).mono ?_
  rintro e w2 ⟨rfl, hb⟩
  have HB2 := Lib.hid (HB1.out.trans (hb.mono HB1.out.size))
  clear hb HB1
  go_wp2_with fail
  refine (HM.out _).mono ?_
  rintro e w3 ⟨rfl, hb⟩
  have HB3 := Lib.hid (HB2.out.trans (hb.mono HB2.out.size))
  clear hb HB2
  go_wp2_with fail
  refine (HK.out _).mono ?_
  rintro e w4 ⟨rfl, hb⟩
  have HB4 := Lib.hid (HB3.out.trans (hb.mono HB3.out.size))
  clear hb HB3
  go_wp2_with fail
  refine (HC.out _).mono ?_
  rintro e w5 ⟨rfl, hb⟩
  have HB5 := Lib.hid (HB4.out.trans (hb.mono HB4.out.size))
  clear hb HB4
  go_wp2_with fail
  refine (HD.out _).mono ?_
  rintro e w6 ⟨rfl, hb⟩
  have HB6 := Lib.hid (HB5.out.trans (hb.mono HB5.out.size))
  clear hb HB5
  go_wp2
  go_ret
  exact ⟨rfl, HB6.out⟩

set_option maxHeartbeats 2000000 in
theorem clr_rC (HU : Hid (∀ W, Calls Try.prog 5 #[] W fun e w' => e = .returned (.bool true) ∧ Below W.heap.size W w')) (w : World) (n m : Nat) (_hm : m < 18446744073709551616) (a b : Int) (s cs : Nat) (hn : n ≤ 16368) (h1 : n + 16 ≤ s) (h2 : s < n + 48) (h3 : 32 ≤ s) (h4 : s % 16 = 0) (HN : Hid (∀ W, Calls Try.prog 6 #[.int .u64 (n : Int)] W fun e w' => e = .returned (.tuple #[.int .i64 (s : Int), .bool true]) ∧ Below W.heap.size W w')) (HK : Hid (∀ W, Calls Try.prog 8 #[.int .i64 (s : Int)] W fun e w' => e = .returned (.int .i64 (cs : Int)) ∧ Below W.heap.size W w')) (t : Nat) (hnm : m < n) (HM : Hid (∀ W, Calls Try.prog 6 #[.int .u64 (m : Int)] W fun e w' => e = .returned (.tuple #[.int .i64 (t : Int), .bool true]) ∧ Below W.heap.size W w')) (ha : 32 ≤ a ∧ a ≤ 16384) (ha2 : a % 16 ≠ 0) (HC : Hid (∀ W, Calls Try.prog 8 #[.int .i64 a] W fun e w' => e = .returned (.int .i64 (-1)) ∧ Below W.heap.size W w')) (d : Int) (hd : -1 ≤ d ∧ d ≤ 21) (HD : Hid (∀ W, Calls Try.prog 8 #[.int .i64 b] W fun e w' => e = .returned (.int .i64 d) ∧ Below W.heap.size W w')) :
    Calls Try.prog 4 #[.int .u64 (n : Int), .int .u64 (m : Int), .int .i64 a, .int .i64 b] w fun e w' => e = .returned (.bool true) ∧ Below w.heap.size w w' := by
  have v1 : decide ((n : Int) ≤ 16368) = true := decide_eq_true (by omega)
  have v2 : decide (n ≤ 16368) = true := decide_eq_true (by omega)
  have v3 : (s : Int) % 16 = 0 := by omega
  have v4 : decide ((s : Int) < (n : Int) + 16) = false := decide_eq_false (by omega)
  have v5 : decide (s < n + 16) = false := decide_eq_false (by omega)
  have v6 : decide ((n : Int) + 48 ≤ (s : Int)) = false := decide_eq_false (by omega)
  have v6' : decide ((n : Int) + 16 + 32 ≤ (s : Int)) = false := decide_eq_false (by omega)
  have v7 : decide ((s : Int) < 32) = false := decide_eq_false (by omega)
  have v8 : decide ((cs : Int) < 0) = false := decide_eq_false (by omega)
  have y1 : decide ((n : Int) ≤ (m : Int)) = false := decide_eq_false (by omega)
  have y2 : decide (n ≤ m) = false := decide_eq_false (by omega)
  have e2 : decide ((21 : Int) < d) = false := decide_eq_false (by omega)
  have u1 : decide (a < 32) = false := decide_eq_false (by omega)
  have u2 : decide ((16384 : Int) < a) = false := decide_eq_false (by omega)
  have u0 : 0 ≤ a := by omega
  have u3 : (a % 16 != 0) = true := by rw [bne_iff_ne]; exact ha2
  have HB0 := Lib.hid (Below.refl w.heap.size w)
  go_enter Try.func4, Try.ntmps4
  go_wp2_with fail
  refine (HU.out _).mono ?_
  rintro e w1 ⟨rfl, hb⟩
  have HB1 := Lib.hid (HB0.out.trans (hb.mono HB0.out.size))
  clear hb HB0
  go_wp2_with fail
  refine (HN.out _).mono ?_
  rintro e w2 ⟨rfl, hb⟩
  have HB2 := Lib.hid (HB1.out.trans (hb.mono HB1.out.size))
  clear hb HB1
  go_wp2_with fail
  refine (HM.out _).mono ?_
  rintro e w3 ⟨rfl, hb⟩
  have HB3 := Lib.hid (HB2.out.trans (hb.mono HB2.out.size))
  clear hb HB2
  go_wp2_with fail
  refine (HK.out _).mono ?_
  rintro e w4 ⟨rfl, hb⟩
  have HB4 := Lib.hid (HB3.out.trans (hb.mono HB3.out.size))
  clear hb HB3
  go_wp2_with fail
  refine (HC.out _).mono ?_
  rintro e w5 ⟨rfl, hb⟩
  have HB5 := Lib.hid (HB4.out.trans (hb.mono HB4.out.size))
  clear hb HB4
  go_wp2_with fail
  refine (HD.out _).mono ?_
  rintro e w6 ⟨rfl, hb⟩
  have HB6 := Lib.hid (HB5.out.trans (hb.mono HB5.out.size))
  clear hb HB5
  go_wp2
  go_ret
  exact ⟨rfl, HB6.out⟩

set_option maxHeartbeats 2000000 in
theorem clr_rD (HU : Hid (∀ W, Calls Try.prog 5 #[] W fun e w' => e = .returned (.bool true) ∧ Below W.heap.size W w')) (w : World) (n m : Nat) (_hm : m < 18446744073709551616) (a b : Int) (s cs : Nat) (hn : n ≤ 16368) (h1 : n + 16 ≤ s) (h2 : s < n + 48) (h3 : 32 ≤ s) (h4 : s % 16 = 0) (HN : Hid (∀ W, Calls Try.prog 6 #[.int .u64 (n : Int)] W fun e w' => e = .returned (.tuple #[.int .i64 (s : Int), .bool true]) ∧ Below W.heap.size W w')) (HK : Hid (∀ W, Calls Try.prog 8 #[.int .i64 (s : Int)] W fun e w' => e = .returned (.int .i64 (cs : Int)) ∧ Below W.heap.size W w')) (t : Nat) (hnm : m < n) (HM : Hid (∀ W, Calls Try.prog 6 #[.int .u64 (m : Int)] W fun e w' => e = .returned (.tuple #[.int .i64 (t : Int), .bool true]) ∧ Below W.heap.size W w')) (ha : 32 ≤ a ∧ a ≤ 16384) (ha2 : a % 16 = 0) (c : Nat) (hc : c ≤ 21) (HC : Hid (∀ W, Calls Try.prog 8 #[.int .i64 a] W fun e w' => e = .returned (.int .i64 (c : Int)) ∧ Below W.heap.size W w')) (HD : Hid (∀ W, Calls Try.prog 8 #[.int .i64 b] W fun e w' => e = .returned (.int .i64 (-1)) ∧ Below W.heap.size W w')) :
    Calls Try.prog 4 #[.int .u64 (n : Int), .int .u64 (m : Int), .int .i64 a, .int .i64 b] w fun e w' => e = .returned (.bool true) ∧ Below w.heap.size w w' := by
  have v1 : decide ((n : Int) ≤ 16368) = true := decide_eq_true (by omega)
  have v2 : decide (n ≤ 16368) = true := decide_eq_true (by omega)
  have v3 : (s : Int) % 16 = 0 := by omega
  have v4 : decide ((s : Int) < (n : Int) + 16) = false := decide_eq_false (by omega)
  have v5 : decide (s < n + 16) = false := decide_eq_false (by omega)
  have v6 : decide ((n : Int) + 48 ≤ (s : Int)) = false := decide_eq_false (by omega)
  have v6' : decide ((n : Int) + 16 + 32 ≤ (s : Int)) = false := decide_eq_false (by omega)
  have v7 : decide ((s : Int) < 32) = false := decide_eq_false (by omega)
  have v8 : decide ((cs : Int) < 0) = false := decide_eq_false (by omega)
  have y1 : decide ((n : Int) ≤ (m : Int)) = false := decide_eq_false (by omega)
  have y2 : decide (n ≤ m) = false := decide_eq_false (by omega)
  have u1 : decide (a < 32) = false := decide_eq_false (by omega)
  have u2 : decide ((16384 : Int) < a) = false := decide_eq_false (by omega)
  have u0 : 0 ≤ a := by omega
  have u3 : (a % 16 != 0) = false := by rw [bne_eq_false_iff_eq]; exact ha2
  have e1 : decide ((21 : Int) < (c : Int)) = false := decide_eq_false (by omega)
  have e3 : decide ((c : Int) < -1) = false := decide_eq_false (by omega)
  have e4 : ((c : Int) == -1) = false := by rw [beq_eq_false_iff_ne]; omega
  have e5 : decide ((c : Int) < 0) = false := decide_eq_false (by omega)
  have HB0 := Lib.hid (Below.refl w.heap.size w)
  go_enter Try.func4, Try.ntmps4
  go_wp2_with fail
  refine (HU.out _).mono ?_
  rintro e w1 ⟨rfl, hb⟩
  have HB1 := Lib.hid (HB0.out.trans (hb.mono HB0.out.size))
  clear hb HB0
  go_wp2_with fail
  refine (HN.out _).mono ?_
  rintro e w2 ⟨rfl, hb⟩
  have HB2 := Lib.hid (HB1.out.trans (hb.mono HB1.out.size))
  clear hb HB1
  go_wp2_with fail
  refine (HM.out _).mono ?_
  rintro e w3 ⟨rfl, hb⟩
  have HB3 := Lib.hid (HB2.out.trans (hb.mono HB2.out.size))
  clear hb HB2
  go_wp2_with fail
  refine (HK.out _).mono ?_
  rintro e w4 ⟨rfl, hb⟩
  have HB4 := Lib.hid (HB3.out.trans (hb.mono HB3.out.size))
  clear hb HB3
  go_wp2_with fail
  refine (HC.out _).mono ?_
  rintro e w5 ⟨rfl, hb⟩
  have HB5 := Lib.hid (HB4.out.trans (hb.mono HB4.out.size))
  clear hb HB4
  go_wp2_with fail
  refine (HD.out _).mono ?_
  rintro e w6 ⟨rfl, hb⟩
  have HB6 := Lib.hid (HB5.out.trans (hb.mono HB5.out.size))
  clear hb HB5
  go_wp2
  go_ret
  exact ⟨rfl, HB6.out⟩

set_option maxHeartbeats 2000000 in
theorem clr_rE (HU : Hid (∀ W, Calls Try.prog 5 #[] W fun e w' => e = .returned (.bool true) ∧ Below W.heap.size W w')) (w : World) (n m : Nat) (_hm : m < 18446744073709551616) (a b : Int) (s cs : Nat) (hn : n ≤ 16368) (h1 : n + 16 ≤ s) (h2 : s < n + 48) (h3 : 32 ≤ s) (h4 : s % 16 = 0) (HN : Hid (∀ W, Calls Try.prog 6 #[.int .u64 (n : Int)] W fun e w' => e = .returned (.tuple #[.int .i64 (s : Int), .bool true]) ∧ Below W.heap.size W w')) (HK : Hid (∀ W, Calls Try.prog 8 #[.int .i64 (s : Int)] W fun e w' => e = .returned (.int .i64 (cs : Int)) ∧ Below W.heap.size W w')) (t : Nat) (hnm : m < n) (HM : Hid (∀ W, Calls Try.prog 6 #[.int .u64 (m : Int)] W fun e w' => e = .returned (.tuple #[.int .i64 (t : Int), .bool true]) ∧ Below W.heap.size W w')) (ha : 32 ≤ a ∧ a ≤ 16384) (ha2 : a % 16 = 0) (c : Nat) (hc : c ≤ 21) (HC : Hid (∀ W, Calls Try.prog 8 #[.int .i64 a] W fun e w' => e = .returned (.int .i64 (c : Int)) ∧ Below W.heap.size W w')) (d : Nat) (hd : d ≤ 21) (HD : Hid (∀ W, Calls Try.prog 8 #[.int .i64 b] W fun e w' => e = .returned (.int .i64 (d : Int)) ∧ Below W.heap.size W w')) (hab : b < a) :
    Calls Try.prog 4 #[.int .u64 (n : Int), .int .u64 (m : Int), .int .i64 a, .int .i64 b] w fun e w' => e = .returned (.bool true) ∧ Below w.heap.size w w' := by
  have v1 : decide ((n : Int) ≤ 16368) = true := decide_eq_true (by omega)
  have v2 : decide (n ≤ 16368) = true := decide_eq_true (by omega)
  have v3 : (s : Int) % 16 = 0 := by omega
  have v4 : decide ((s : Int) < (n : Int) + 16) = false := decide_eq_false (by omega)
  have v5 : decide (s < n + 16) = false := decide_eq_false (by omega)
  have v6 : decide ((n : Int) + 48 ≤ (s : Int)) = false := decide_eq_false (by omega)
  have v6' : decide ((n : Int) + 16 + 32 ≤ (s : Int)) = false := decide_eq_false (by omega)
  have v7 : decide ((s : Int) < 32) = false := decide_eq_false (by omega)
  have v8 : decide ((cs : Int) < 0) = false := decide_eq_false (by omega)
  have y1 : decide ((n : Int) ≤ (m : Int)) = false := decide_eq_false (by omega)
  have y2 : decide (n ≤ m) = false := decide_eq_false (by omega)
  have u1 : decide (a < 32) = false := decide_eq_false (by omega)
  have u2 : decide ((16384 : Int) < a) = false := decide_eq_false (by omega)
  have u0 : 0 ≤ a := by omega
  have u3 : (a % 16 != 0) = false := by rw [bne_eq_false_iff_eq]; exact ha2
  have e1 : decide ((21 : Int) < (c : Int)) = false := decide_eq_false (by omega)
  have e3 : decide ((c : Int) < -1) = false := decide_eq_false (by omega)
  have e4 : ((c : Int) == -1) = false := by rw [beq_eq_false_iff_ne]; omega
  have e5 : decide ((c : Int) < 0) = false := decide_eq_false (by omega)
  have e2 : decide ((21 : Int) < (d : Int)) = false := decide_eq_false (by omega)
  have e6 : decide ((d : Int) < 0) = false := decide_eq_false (by omega)
  have e7 : decide (b < a) = true := decide_eq_true hab
  have HB0 := Lib.hid (Below.refl w.heap.size w)
  go_enter Try.func4, Try.ntmps4
  go_wp2_with fail
  refine (HU.out _).mono ?_
  rintro e w1 ⟨rfl, hb⟩
  have HB1 := Lib.hid (HB0.out.trans (hb.mono HB0.out.size))
  clear hb HB0
  go_wp2_with fail
  refine (HN.out _).mono ?_
  rintro e w2 ⟨rfl, hb⟩
  have HB2 := Lib.hid (HB1.out.trans (hb.mono HB1.out.size))
  clear hb HB1
  go_wp2_with fail
  refine (HM.out _).mono ?_
  rintro e w3 ⟨rfl, hb⟩
  have HB3 := Lib.hid (HB2.out.trans (hb.mono HB2.out.size))
  clear hb HB2
  go_wp2_with fail
  refine (HK.out _).mono ?_
  rintro e w4 ⟨rfl, hb⟩
  have HB4 := Lib.hid (HB3.out.trans (hb.mono HB3.out.size))
  clear hb HB3
  go_wp2_with fail
  refine (HC.out _).mono ?_
  rintro e w5 ⟨rfl, hb⟩
  have HB5 := Lib.hid (HB4.out.trans (hb.mono HB4.out.size))
  clear hb HB4
  go_wp2_with fail
  refine (HD.out _).mono ?_
  rintro e w6 ⟨rfl, hb⟩
  have HB6 := Lib.hid (HB5.out.trans (hb.mono HB5.out.size))
  clear hb HB5
  go_wp2
  go_ret
  exact ⟨rfl, HB6.out⟩

set_option maxHeartbeats 2000000 in
theorem clr_rF (HU : Hid (∀ W, Calls Try.prog 5 #[] W fun e w' => e = .returned (.bool true) ∧ Below W.heap.size W w')) (w : World) (n m : Nat) (_hm : m < 18446744073709551616) (a b : Int) (s cs : Nat) (hn : n ≤ 16368) (h1 : n + 16 ≤ s) (h2 : s < n + 48) (h3 : 32 ≤ s) (h4 : s % 16 = 0) (HN : Hid (∀ W, Calls Try.prog 6 #[.int .u64 (n : Int)] W fun e w' => e = .returned (.tuple #[.int .i64 (s : Int), .bool true]) ∧ Below W.heap.size W w')) (HK : Hid (∀ W, Calls Try.prog 8 #[.int .i64 (s : Int)] W fun e w' => e = .returned (.int .i64 (cs : Int)) ∧ Below W.heap.size W w')) (t : Nat) (hnm : m < n) (HM : Hid (∀ W, Calls Try.prog 6 #[.int .u64 (m : Int)] W fun e w' => e = .returned (.tuple #[.int .i64 (t : Int), .bool true]) ∧ Below W.heap.size W w')) (ha : 32 ≤ a ∧ a ≤ 16384) (ha2 : a % 16 = 0) (c : Nat) (hc : c ≤ 21) (HC : Hid (∀ W, Calls Try.prog 8 #[.int .i64 a] W fun e w' => e = .returned (.int .i64 (c : Int)) ∧ Below W.heap.size W w')) (d : Nat) (hd : d ≤ 21) (HD : Hid (∀ W, Calls Try.prog 8 #[.int .i64 b] W fun e w' => e = .returned (.int .i64 (d : Int)) ∧ Below W.heap.size W w')) (hab : a ≤ b) (hcd : c ≤ d) :
    Calls Try.prog 4 #[.int .u64 (n : Int), .int .u64 (m : Int), .int .i64 a, .int .i64 b] w fun e w' => e = .returned (.bool true) ∧ Below w.heap.size w w' := by
  have v1 : decide ((n : Int) ≤ 16368) = true := decide_eq_true (by omega)
  have v2 : decide (n ≤ 16368) = true := decide_eq_true (by omega)
  have v3 : (s : Int) % 16 = 0 := by omega
  have v4 : decide ((s : Int) < (n : Int) + 16) = false := decide_eq_false (by omega)
  have v5 : decide (s < n + 16) = false := decide_eq_false (by omega)
  have v6 : decide ((n : Int) + 48 ≤ (s : Int)) = false := decide_eq_false (by omega)
  have v6' : decide ((n : Int) + 16 + 32 ≤ (s : Int)) = false := decide_eq_false (by omega)
  have v7 : decide ((s : Int) < 32) = false := decide_eq_false (by omega)
  have v8 : decide ((cs : Int) < 0) = false := decide_eq_false (by omega)
  have y1 : decide ((n : Int) ≤ (m : Int)) = false := decide_eq_false (by omega)
  have y2 : decide (n ≤ m) = false := decide_eq_false (by omega)
  have u1 : decide (a < 32) = false := decide_eq_false (by omega)
  have u2 : decide ((16384 : Int) < a) = false := decide_eq_false (by omega)
  have u0 : 0 ≤ a := by omega
  have u3 : (a % 16 != 0) = false := by rw [bne_eq_false_iff_eq]; exact ha2
  have e1 : decide ((21 : Int) < (c : Int)) = false := decide_eq_false (by omega)
  have e3 : decide ((c : Int) < -1) = false := decide_eq_false (by omega)
  have e4 : ((c : Int) == -1) = false := by rw [beq_eq_false_iff_ne]; omega
  have e5 : decide ((c : Int) < 0) = false := decide_eq_false (by omega)
  have e2 : decide ((21 : Int) < (d : Int)) = false := decide_eq_false (by omega)
  have e6 : decide ((d : Int) < 0) = false := decide_eq_false (by omega)
  have e7 : decide (b < a) = false := decide_eq_false (by omega)
  have e8 : decide ((c : Int) ≤ (d : Int)) = true := decide_eq_true (by omega)
  have e9 : decide (c ≤ d) = true := decide_eq_true hcd
  have HB0 := Lib.hid (Below.refl w.heap.size w)
  go_enter Try.func4, Try.ntmps4
  go_wp2_with fail
  refine (HU.out _).mono ?_
  rintro e w1 ⟨rfl, hb⟩
  have HB1 := Lib.hid (HB0.out.trans (hb.mono HB0.out.size))
  clear hb HB0
  go_wp2_with fail
  refine (HN.out _).mono ?_
  rintro e w2 ⟨rfl, hb⟩
  have HB2 := Lib.hid (HB1.out.trans (hb.mono HB1.out.size))
  clear hb HB1
  go_wp2_with fail
  refine (HM.out _).mono ?_
  rintro e w3 ⟨rfl, hb⟩
  have HB3 := Lib.hid (HB2.out.trans (hb.mono HB2.out.size))
  clear hb HB2
  go_wp2_with fail
  refine (HK.out _).mono ?_
  rintro e w4 ⟨rfl, hb⟩
  have HB4 := Lib.hid (HB3.out.trans (hb.mono HB3.out.size))
  clear hb HB3
  go_wp2_with fail
  refine (HC.out _).mono ?_
  rintro e w5 ⟨rfl, hb⟩
  have HB5 := Lib.hid (HB4.out.trans (hb.mono HB4.out.size))
  clear hb HB4
  go_wp2_with fail
  refine (HD.out _).mono ?_
  rintro e w6 ⟨rfl, hb⟩
  have HB6 := Lib.hid (HB5.out.trans (hb.mono HB5.out.size))
  clear hb HB5
  go_wp2
  go_ret
  exact ⟨rfl, HB6.out⟩

end Go.Proofs.Ytelkileeekfknaa
