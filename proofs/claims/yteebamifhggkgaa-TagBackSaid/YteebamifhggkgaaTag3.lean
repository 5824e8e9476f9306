/- The walk of TagBack, one theorem a way. -/
import Derived.Test.YteebamifhggkgaaTag2
namespace Go.Proofs.Yteebamifhggkgaa
open Go.RowKit

set_option maxHeartbeats 2000000 in
theorem tbackAN (w : World) (v : Nat) (a0 : Int) (a1 : Bool) (a2 : Int) (a3 : Bool) (M : Nat)
    (HP : Hid (Calls Try.prog 8 #[.int .i64 a0, .bool a1] w fun e w' => e = .returned (.int .u64 0) ∧ w = w'))
    (HQ : Hid (Calls Try.prog 8 #[.int .i64 a2, .bool a3] w fun e w' => e = .returned (.int .u64 (M : Int)) ∧ w = w'))
    (HU : Hid (Calls Try.prog 6 #[.int .u64 0] w fun e w' => e = .returned (.tuple #[.int .i64 0, .bool false, .bool false]) ∧ w = w'))
    (HV : Hid (Calls Try.prog 6 #[.int .u64 (v : Int)] w fun e w' => e = .returned (.tuple #[.int .i64 0, .bool false, .bool false]) ∧ w = w')) :
    Calls Try.prog 4 #[.int .i64 a0, .bool a1, .int .i64 a2, .bool a3, .int .u64 (v : Int)] w fun e w' => e = .returned (.bool true) ∧ w = w' := by
  have HH := Lib.hid (tup_any w)
  go_enter Try.func4, Try.ntmps4
  go_wp2_with fail
  with_reducible refine HH.out.mono ?_
  rintro e w1 ⟨rfl, rfl⟩
  go_wp2_with fail
  with_reducible refine HP.out.mono ?_
  rintro e w1 ⟨rfl, rfl⟩
  go_wp2_with fail
  with_reducible refine HQ.out.mono ?_
  rintro e w1 ⟨rfl, rfl⟩
  go_wp2_with fail
  with_reducible refine HU.out.mono ?_
  rintro e w1 ⟨rfl, rfl⟩
  go_wp2_with fail
  with_reducible refine HV.out.mono ?_
  rintro e w1 ⟨rfl, rfl⟩
  go_wp2
  go_ret
  exact ⟨rfl, rfl⟩

set_option maxHeartbeats 2000000 in
theorem tbackAS (w : World) (v : Nat) (a0 : Int) (a1 : Bool) (a2 : Int) (a3 : Bool) (M : Nat) (s : Nat) (u : Bool) (hs : isSz (s : Int) = true) (HW : Hid (Calls Try.prog 8 #[.int .i64 (s : Int), .bool u] w fun e w' => e = .returned (.int .u64 (v : Int)) ∧ w = w'))
    (HP : Hid (Calls Try.prog 8 #[.int .i64 a0, .bool a1] w fun e w' => e = .returned (.int .u64 0) ∧ w = w'))
    (HQ : Hid (Calls Try.prog 8 #[.int .i64 a2, .bool a3] w fun e w' => e = .returned (.int .u64 (M : Int)) ∧ w = w'))
    (HU : Hid (Calls Try.prog 6 #[.int .u64 0] w fun e w' => e = .returned (.tuple #[.int .i64 0, .bool false, .bool false]) ∧ w = w'))
    (HV : Hid (Calls Try.prog 6 #[.int .u64 (v : Int)] w fun e w' => e = .returned (.tuple #[.int .i64 (s : Int), .bool u, .bool true]) ∧ w = w')) :
    Calls Try.prog 4 #[.int .i64 a0, .bool a1, .int .i64 a2, .bool a3, .int .u64 (v : Int)] w fun e w' => e = .returned (.bool true) ∧ w = w' := by
  have HH := Lib.hid (tup_any w)
  have hs := (isSz_iff _).1 hs
  have t1 : (s : Int) % 16 = 0 := hs.2.2
  have t2 : (32 : Int) ≤ (s : Int) := hs.1
  have t3 : (s : Int) ≤ 16384 := hs.2.1
  clear hs
  go_enter Try.func4, Try.ntmps4
  go_wp2_with fail
  with_reducible refine HH.out.mono ?_
  rintro e w1 ⟨rfl, rfl⟩
  go_wp2_with fail
  with_reducible refine HP.out.mono ?_
  rintro e w1 ⟨rfl, rfl⟩
  go_wp2_with fail
  with_reducible refine HQ.out.mono ?_
  rintro e w1 ⟨rfl, rfl⟩
  go_wp2_with fail
  with_reducible refine HU.out.mono ?_
  rintro e w1 ⟨rfl, rfl⟩
  go_wp2_with fail
  with_reducible refine HV.out.mono ?_
  rintro e w1 ⟨rfl, rfl⟩
  go_wp2_with fail
  with_reducible refine HW.out.mono ?_
  rintro e w1 ⟨rfl, rfl⟩
  go_wp2
  go_ret
  exact ⟨rfl, rfl⟩

set_option maxHeartbeats 2000000 in
theorem tbackBN (w : World) (v : Nat) (a0 : Int) (a1 : Bool) (a2 : Int) (a3 : Bool) (M : Nat) (f0 : ((M : Int) != 0) = true)
    (HP : Hid (Calls Try.prog 8 #[.int .i64 a0, .bool a1] w fun e w' => e = .returned (.int .u64 (M : Int)) ∧ w = w'))
    (HQ : Hid (Calls Try.prog 8 #[.int .i64 a2, .bool a3] w fun e w' => e = .returned (.int .u64 0) ∧ w = w'))
    (HU : Hid (Calls Try.prog 6 #[.int .u64 (M : Int)] w fun e w' => e = .returned (.tuple #[.int .i64 a0, .bool a1, .bool true]) ∧ w = w'))
    (HV : Hid (Calls Try.prog 6 #[.int .u64 (v : Int)] w fun e w' => e = .returned (.tuple #[.int .i64 0, .bool false, .bool false]) ∧ w = w')) :
    Calls Try.prog 4 #[.int .i64 a0, .bool a1, .int .i64 a2, .bool a3, .int .u64 (v : Int)] w fun e w' => e = .returned (.bool true) ∧ w = w' := by
  have HH := Lib.hid (tup_any w)
  go_enter Try.func4, Try.ntmps4
  go_wp2_with fail
  with_reducible refine HH.out.mono ?_
  rintro e w1 ⟨rfl, rfl⟩
  go_wp2_with fail
  with_reducible refine HP.out.mono ?_
  rintro e w1 ⟨rfl, rfl⟩
  go_wp2_with fail
  with_reducible refine HQ.out.mono ?_
  rintro e w1 ⟨rfl, rfl⟩
  go_wp2_with fail
  with_reducible refine HU.out.mono ?_
  rintro e w1 ⟨rfl, rfl⟩
  go_wp2_with fail
  with_reducible refine HV.out.mono ?_
  rintro e w1 ⟨rfl, rfl⟩
  go_wp2
  go_ret
  exact ⟨rfl, rfl⟩

set_option maxHeartbeats 2000000 in
theorem tbackBS (w : World) (v : Nat) (a0 : Int) (a1 : Bool) (a2 : Int) (a3 : Bool) (M : Nat) (f0 : ((M : Int) != 0) = true) (s : Nat) (u : Bool) (hs : isSz (s : Int) = true) (HW : Hid (Calls Try.prog 8 #[.int .i64 (s : Int), .bool u] w fun e w' => e = .returned (.int .u64 (v : Int)) ∧ w = w'))
    (HP : Hid (Calls Try.prog 8 #[.int .i64 a0, .bool a1] w fun e w' => e = .returned (.int .u64 (M : Int)) ∧ w = w'))
    (HQ : Hid (Calls Try.prog 8 #[.int .i64 a2, .bool a3] w fun e w' => e = .returned (.int .u64 0) ∧ w = w'))
    (HU : Hid (Calls Try.prog 6 #[.int .u64 (M : Int)] w fun e w' => e = .returned (.tuple #[.int .i64 a0, .bool a1, .bool true]) ∧ w = w'))
    (HV : Hid (Calls Try.prog 6 #[.int .u64 (v : Int)] w fun e w' => e = .returned (.tuple #[.int .i64 (s : Int), .bool u, .bool true]) ∧ w = w')) :
    Calls Try.prog 4 #[.int .i64 a0, .bool a1, .int .i64 a2, .bool a3, .int .u64 (v : Int)] w fun e w' => e = .returned (.bool true) ∧ w = w' := by
  have HH := Lib.hid (tup_any w)
  have hs := (isSz_iff _).1 hs
  have t1 : (s : Int) % 16 = 0 := hs.2.2
  have t2 : (32 : Int) ≤ (s : Int) := hs.1
  have t3 : (s : Int) ≤ 16384 := hs.2.1
  clear hs
  go_enter Try.func4, Try.ntmps4
  go_wp2_with fail
  with_reducible refine HH.out.mono ?_
  rintro e w1 ⟨rfl, rfl⟩
  go_wp2_with fail
  with_reducible refine HP.out.mono ?_
  rintro e w1 ⟨rfl, rfl⟩
  go_wp2_with fail
  with_reducible refine HQ.out.mono ?_
  rintro e w1 ⟨rfl, rfl⟩
  go_wp2_with fail
  with_reducible refine HU.out.mono ?_
  rintro e w1 ⟨rfl, rfl⟩
  go_wp2_with fail
  with_reducible refine HV.out.mono ?_
  rintro e w1 ⟨rfl, rfl⟩
  go_wp2_with fail
  with_reducible refine HW.out.mono ?_
  rintro e w1 ⟨rfl, rfl⟩
  go_wp2
  go_ret
  exact ⟨rfl, rfl⟩

set_option maxHeartbeats 2000000 in
theorem tbackCN (w : World) (v : Nat) (a0 : Int) (a1 : Bool) (a2 : Int) (a3 : Bool) (M K : Nat) (f0 : ((M : Int) != 0) = true) (f1 : ((K : Int) != 0) = true) (f2 : ((M : Int) == (K : Int)) = false) (f3 : (a0 == a2) = false)
    (HP : Hid (Calls Try.prog 8 #[.int .i64 a0, .bool a1] w fun e w' => e = .returned (.int .u64 (M : Int)) ∧ w = w'))
    (HQ : Hid (Calls Try.prog 8 #[.int .i64 a2, .bool a3] w fun e w' => e = .returned (.int .u64 (K : Int)) ∧ w = w'))
    (HU : Hid (Calls Try.prog 6 #[.int .u64 (M : Int)] w fun e w' => e = .returned (.tuple #[.int .i64 a0, .bool a1, .bool true]) ∧ w = w'))
    (HV : Hid (Calls Try.prog 6 #[.int .u64 (v : Int)] w fun e w' => e = .returned (.tuple #[.int .i64 0, .bool false, .bool false]) ∧ w = w')) :
    Calls Try.prog 4 #[.int .i64 a0, .bool a1, .int .i64 a2, .bool a3, .int .u64 (v : Int)] w fun e w' => e = .returned (.bool true) ∧ w = w' := by
  have HH := Lib.hid (tup_any w)
  go_enter Try.func4, Try.ntmps4
  go_wp2_with fail
  with_reducible refine HH.out.mono ?_
  rintro e w1 ⟨rfl, rfl⟩
  go_wp2_with fail
  with_reducible refine HP.out.mono ?_
  rintro e w1 ⟨rfl, rfl⟩
  go_wp2_with fail
  with_reducible refine HQ.out.mono ?_
  rintro e w1 ⟨rfl, rfl⟩
  go_wp2_with fail
  with_reducible refine HU.out.mono ?_
  rintro e w1 ⟨rfl, rfl⟩
  go_wp2_with fail
  with_reducible refine HV.out.mono ?_
  rintro e w1 ⟨rfl, rfl⟩
  go_wp2
  go_ret
  exact ⟨rfl, rfl⟩

set_option maxHeartbeats 2000000 in
theorem tbackCS (w : World) (v : Nat) (a0 : Int) (a1 : Bool) (a2 : Int) (a3 : Bool) (M K : Nat) (f0 : ((M : Int) != 0) = true) (f1 : ((K : Int) != 0) = true) (f2 : ((M : Int) == (K : Int)) = false) (f3 : (a0 == a2) = false) (s : Nat) (u : Bool) (hs : isSz (s : Int) = true) (HW : Hid (Calls Try.prog 8 #[.int .i64 (s : Int), .bool u] w fun e w' => e = .returned (.int .u64 (v : Int)) ∧ w = w'))
    (HP : Hid (Calls Try.prog 8 #[.int .i64 a0, .bool a1] w fun e w' => e = .returned (.int .u64 (M : Int)) ∧ w = w'))
    (HQ : Hid (Calls Try.prog 8 #[.int .i64 a2, .bool a3] w fun e w' => e = .returned (.int .u64 (K : Int)) ∧ w = w'))
    (HU : Hid (Calls Try.prog 6 #[.int .u64 (M : Int)] w fun e w' => e = .returned (.tuple #[.int .i64 a0, .bool a1, .bool true]) ∧ w = w'))
    (HV : Hid (Calls Try.prog 6 #[.int .u64 (v : Int)] w fun e w' => e = .returned (.tuple #[.int .i64 (s : Int), .bool u, .bool true]) ∧ w = w')) :
    Calls Try.prog 4 #[.int .i64 a0, .bool a1, .int .i64 a2, .bool a3, .int .u64 (v : Int)] w fun e w' => e = .returned (.bool true) ∧ w = w' := by
  have HH := Lib.hid (tup_any w)
  have hs := (isSz_iff _).1 hs
  have t1 : (s : Int) % 16 = 0 := hs.2.2
  have t2 : (32 : Int) ≤ (s : Int) := hs.1
  have t3 : (s : Int) ≤ 16384 := hs.2.1
  clear hs
  go_enter Try.func4, Try.ntmps4
  go_wp2_with fail
  with_reducible refine HH.out.mono ?_
  rintro e w1 ⟨rfl, rfl⟩
  go_wp2_with fail
  with_reducible refine HP.out.mono ?_
  rintro e w1 ⟨rfl, rfl⟩
  go_wp2_with fail
  with_reducible refine HQ.out.mono ?_
  rintro e w1 ⟨rfl, rfl⟩
  go_wp2_with fail
  with_reducible refine HU.out.mono ?_
  rintro e w1 ⟨rfl, rfl⟩
  go_wp2_with fail
  with_reducible refine HV.out.mono ?_
  rintro e w1 ⟨rfl, rfl⟩
  go_wp2_with fail
  with_reducible refine HW.out.mono ?_
  rintro e w1 ⟨rfl, rfl⟩
  go_wp2
  go_ret
  exact ⟨rfl, rfl⟩

set_option maxHeartbeats 2000000 in
theorem tbackD0N (w : World) (v : Nat) (a0 : Int) (M K : Nat) (f0 : ((M : Int) != 0) = true) (f1 : ((K : Int) != 0) = true) (f2 : ((M : Int) == (K : Int)) = false)
    (HP : Hid (Calls Try.prog 8 #[.int .i64 a0, .bool false] w fun e w' => e = .returned (.int .u64 (M : Int)) ∧ w = w'))
    (HQ : Hid (Calls Try.prog 8 #[.int .i64 a0, .bool true] w fun e w' => e = .returned (.int .u64 (K : Int)) ∧ w = w'))
    (HU : Hid (Calls Try.prog 6 #[.int .u64 (M : Int)] w fun e w' => e = .returned (.tuple #[.int .i64 a0, .bool false, .bool true]) ∧ w = w'))
    (HV : Hid (Calls Try.prog 6 #[.int .u64 (v : Int)] w fun e w' => e = .returned (.tuple #[.int .i64 0, .bool false, .bool false]) ∧ w = w')) :
    Calls Try.prog 4 #[.int .i64 a0, .bool false, .int .i64 a0, .bool true, .int .u64 (v : Int)] w fun e w' => e = .returned (.bool true) ∧ w = w' := by
  have HH := Lib.hid (tup_any w)
  go_enter Try.func4, Try.ntmps4
  go_wp2_with fail
  with_reducible refine HH.out.mono ?_
  rintro e w1 ⟨rfl, rfl⟩
  go_wp2_with fail
  with_reducible refine HP.out.mono ?_
  rintro e w1 ⟨rfl, rfl⟩
  go_wp2_with fail
  with_reducible refine HQ.out.mono ?_
  rintro e w1 ⟨rfl, rfl⟩
  go_wp2_with fail
  with_reducible refine HU.out.mono ?_
  rintro e w1 ⟨rfl, rfl⟩
  go_wp2_with fail
  with_reducible refine HV.out.mono ?_
  rintro e w1 ⟨rfl, rfl⟩
  go_wp2
  go_ret
  exact ⟨rfl, rfl⟩

set_option maxHeartbeats 2000000 in
theorem tbackD0S (w : World) (v : Nat) (a0 : Int) (M K : Nat) (f0 : ((M : Int) != 0) = true) (f1 : ((K : Int) != 0) = true) (f2 : ((M : Int) == (K : Int)) = false) (s : Nat) (u : Bool) (hs : isSz (s : Int) = true) (HW : Hid (Calls Try.prog 8 #[.int .i64 (s : Int), .bool u] w fun e w' => e = .returned (.int .u64 (v : Int)) ∧ w = w'))
    (HP : Hid (Calls Try.prog 8 #[.int .i64 a0, .bool false] w fun e w' => e = .returned (.int .u64 (M : Int)) ∧ w = w'))
    (HQ : Hid (Calls Try.prog 8 #[.int .i64 a0, .bool true] w fun e w' => e = .returned (.int .u64 (K : Int)) ∧ w = w'))
    (HU : Hid (Calls Try.prog 6 #[.int .u64 (M : Int)] w fun e w' => e = .returned (.tuple #[.int .i64 a0, .bool false, .bool true]) ∧ w = w'))
    (HV : Hid (Calls Try.prog 6 #[.int .u64 (v : Int)] w fun e w' => e = .returned (.tuple #[.int .i64 (s : Int), .bool u, .bool true]) ∧ w = w')) :
    Calls Try.prog 4 #[.int .i64 a0, .bool false, .int .i64 a0, .bool true, .int .u64 (v : Int)] w fun e w' => e = .returned (.bool true) ∧ w = w' := by
  have HH := Lib.hid (tup_any w)
  have hs := (isSz_iff _).1 hs
  have t1 : (s : Int) % 16 = 0 := hs.2.2
  have t2 : (32 : Int) ≤ (s : Int) := hs.1
  have t3 : (s : Int) ≤ 16384 := hs.2.1
  clear hs
  go_enter Try.func4, Try.ntmps4
  go_wp2_with fail
  with_reducible refine HH.out.mono ?_
  rintro e w1 ⟨rfl, rfl⟩
  go_wp2_with fail
  with_reducible refine HP.out.mono ?_
  rintro e w1 ⟨rfl, rfl⟩
  go_wp2_with fail
  with_reducible refine HQ.out.mono ?_
  rintro e w1 ⟨rfl, rfl⟩
  go_wp2_with fail
  with_reducible refine HU.out.mono ?_
  rintro e w1 ⟨rfl, rfl⟩
  go_wp2_with fail
  with_reducible refine HV.out.mono ?_
  rintro e w1 ⟨rfl, rfl⟩
  go_wp2_with fail
  with_reducible refine HW.out.mono ?_
  rintro e w1 ⟨rfl, rfl⟩
  go_wp2
  go_ret
  exact ⟨rfl, rfl⟩

set_option maxHeartbeats 2000000 in
theorem tbackD1N (w : World) (v : Nat) (a0 : Int) (M K : Nat) (f0 : ((M : Int) != 0) = true) (f1 : ((K : Int) != 0) = true) (f2 : ((M : Int) == (K : Int)) = false)
    (HP : Hid (Calls Try.prog 8 #[.int .i64 a0, .bool true] w fun e w' => e = .returned (.int .u64 (M : Int)) ∧ w = w'))
    (HQ : Hid (Calls Try.prog 8 #[.int .i64 a0, .bool false] w fun e w' => e = .returned (.int .u64 (K : Int)) ∧ w = w'))
    (HU : Hid (Calls Try.prog 6 #[.int .u64 (M : Int)] w fun e w' => e = .returned (.tuple #[.int .i64 a0, .bool true, .bool true]) ∧ w = w'))
    (HV : Hid (Calls Try.prog 6 #[.int .u64 (v : Int)] w fun e w' => e = .returned (.tuple #[.int .i64 0, .bool false, .bool false]) ∧ w = w')) :
    Calls Try.prog 4 #[.int .i64 a0, .bool true, .int .i64 a0, .bool false, .int .u64 (v : Int)] w fun e w' => e = .returned (.bool true) ∧ w = w' := by
  have HH := Lib.hid (tup_any w)
  go_enter Try.func4, Try.ntmps4
  go_wp2_with fail
  with_reducible refine HH.out.mono ?_
  rintro e w1 ⟨rfl, rfl⟩
  go_wp2_with fail
  with_reducible refine HP.out.mono ?_
  rintro e w1 ⟨rfl, rfl⟩
  go_wp2_with fail
  with_reducible refine HQ.out.mono ?_
  rintro e w1 ⟨rfl, rfl⟩
  go_wp2_with fail
  with_reducible refine HU.out.mono ?_
  rintro e w1 ⟨rfl, rfl⟩
  go_wp2_with fail
  with_reducible refine HV.out.mono ?_
  rintro e w1 ⟨rfl, rfl⟩
  go_wp2
  go_ret
  exact ⟨rfl, rfl⟩

set_option maxHeartbeats 2000000 in
theorem tbackD1S (w : World) (v : Nat) (a0 : Int) (M K : Nat) (f0 : ((M : Int) != 0) = true) (f1 : ((K : Int) != 0) = true) (f2 : ((M : Int) == (K : Int)) = false) (s : Nat) (u : Bool) (hs : isSz (s : Int) = true) (HW : Hid (Calls Try.prog 8 #[.int .i64 (s : Int), .bool u] w fun e w' => e = .returned (.int .u64 (v : Int)) ∧ w = w'))
    (HP : Hid (Calls Try.prog 8 #[.int .i64 a0, .bool true] w fun e w' => e = .returned (.int .u64 (M : Int)) ∧ w = w'))
    (HQ : Hid (Calls Try.prog 8 #[.int .i64 a0, .bool false] w fun e w' => e = .returned (.int .u64 (K : Int)) ∧ w = w'))
    (HU : Hid (Calls Try.prog 6 #[.int .u64 (M : Int)] w fun e w' => e = .returned (.tuple #[.int .i64 a0, .bool true, .bool true]) ∧ w = w'))
    (HV : Hid (Calls Try.prog 6 #[.int .u64 (v : Int)] w fun e w' => e = .returned (.tuple #[.int .i64 (s : Int), .bool u, .bool true]) ∧ w = w')) :
    Calls Try.prog 4 #[.int .i64 a0, .bool true, .int .i64 a0, .bool false, .int .u64 (v : Int)] w fun e w' => e = .returned (.bool true) ∧ w = w' := by
  have HH := Lib.hid (tup_any w)
  have hs := (isSz_iff _).1 hs
  have t1 : (s : Int) % 16 = 0 := hs.2.2
  have t2 : (32 : Int) ≤ (s : Int) := hs.1
  have t3 : (s : Int) ≤ 16384 := hs.2.1
  clear hs
  go_enter Try.func4, Try.ntmps4
  go_wp2_with fail
  with_reducible refine HH.out.mono ?_
  rintro e w1 ⟨rfl, rfl⟩
  go_wp2_with fail
  with_reducible refine HP.out.mono ?_
  rintro e w1 ⟨rfl, rfl⟩
  go_wp2_with fail
  with_reducible refine HQ.out.mono ?_
  rintro e w1 ⟨rfl, rfl⟩
  go_wp2_with fail
  with_reducible refine HU.out.mono ?_
  rintro e w1 ⟨rfl, rfl⟩
  go_wp2_with fail
  with_reducible refine HV.out.mono ?_
  rintro e w1 ⟨rfl, rfl⟩
  go_wp2_with fail
  with_reducible refine HW.out.mono ?_
  rintro e w1 ⟨rfl, rfl⟩
  go_wp2
  go_ret
  exact ⟨rfl, rfl⟩

set_option maxHeartbeats 2000000 in
theorem tbackEN (w : World) (v : Nat) (a0 : Int) (a1 : Bool) (M : Nat) (f0 : ((M : Int) != 0) = true)
    (HP : Hid (Calls Try.prog 8 #[.int .i64 a0, .bool a1] w fun e w' => e = .returned (.int .u64 (M : Int)) ∧ w = w'))
    (HQ : Hid (Calls Try.prog 8 #[.int .i64 a0, .bool a1] w fun e w' => e = .returned (.int .u64 (M : Int)) ∧ w = w'))
    (HU : Hid (Calls Try.prog 6 #[.int .u64 (M : Int)] w fun e w' => e = .returned (.tuple #[.int .i64 a0, .bool a1, .bool true]) ∧ w = w'))
    (HV : Hid (Calls Try.prog 6 #[.int .u64 (v : Int)] w fun e w' => e = .returned (.tuple #[.int .i64 0, .bool false, .bool false]) ∧ w = w')) :
    Calls Try.prog 4 #[.int .i64 a0, .bool a1, .int .i64 a0, .bool a1, .int .u64 (v : Int)] w fun e w' => e = .returned (.bool true) ∧ w = w' := by
  have HH := Lib.hid (tup_any w)
  go_enter Try.func4, Try.ntmps4
  go_wp2_with fail
  with_reducible refine HH.out.mono ?_
  rintro e w1 ⟨rfl, rfl⟩
  go_wp2_with fail
  with_reducible refine HP.out.mono ?_
  rintro e w1 ⟨rfl, rfl⟩
  go_wp2_with fail
  with_reducible refine HQ.out.mono ?_
  rintro e w1 ⟨rfl, rfl⟩
  go_wp2_with fail
  with_reducible refine HU.out.mono ?_
  rintro e w1 ⟨rfl, rfl⟩
  go_wp2_with fail
  with_reducible refine HV.out.mono ?_
  rintro e w1 ⟨rfl, rfl⟩
  go_wp2
  go_ret
  exact ⟨rfl, rfl⟩

set_option maxHeartbeats 2000000 in
theorem tbackES (w : World) (v : Nat) (a0 : Int) (a1 : Bool) (M : Nat) (f0 : ((M : Int) != 0) = true) (s : Nat) (u : Bool) (hs : isSz (s : Int) = true) (HW : Hid (Calls Try.prog 8 #[.int .i64 (s : Int), .bool u] w fun e w' => e = .returned (.int .u64 (v : Int)) ∧ w = w'))
    (HP : Hid (Calls Try.prog 8 #[.int .i64 a0, .bool a1] w fun e w' => e = .returned (.int .u64 (M : Int)) ∧ w = w'))
    (HQ : Hid (Calls Try.prog 8 #[.int .i64 a0, .bool a1] w fun e w' => e = .returned (.int .u64 (M : Int)) ∧ w = w'))
    (HU : Hid (Calls Try.prog 6 #[.int .u64 (M : Int)] w fun e w' => e = .returned (.tuple #[.int .i64 a0, .bool a1, .bool true]) ∧ w = w'))
    (HV : Hid (Calls Try.prog 6 #[.int .u64 (v : Int)] w fun e w' => e = .returned (.tuple #[.int .i64 (s : Int), .bool u, .bool true]) ∧ w = w')) :
    Calls Try.prog 4 #[.int .i64 a0, .bool a1, .int .i64 a0, .bool a1, .int .u64 (v : Int)] w fun e w' => e = .returned (.bool true) ∧ w = w' := by
  have HH := Lib.hid (tup_any w)
  have hs := (isSz_iff _).1 hs
  have t1 : (s : Int) % 16 = 0 := hs.2.2
  have t2 : (32 : Int) ≤ (s : Int) := hs.1
  have t3 : (s : Int) ≤ 16384 := hs.2.1
  clear hs
  go_enter Try.func4, Try.ntmps4
  go_wp2_with fail
  with_reducible refine HH.out.mono ?_
  rintro e w1 ⟨rfl, rfl⟩
  go_wp2_with fail
  with_reducible refine HP.out.mono ?_
  rintro e w1 ⟨rfl, rfl⟩
  go_wp2_with fail
  with_reducible refine HQ.out.mono ?_
  rintro e w1 ⟨rfl, rfl⟩
  go_wp2_with fail
  with_reducible refine HU.out.mono ?_
  rintro e w1 ⟨rfl, rfl⟩
  go_wp2_with fail
  with_reducible refine HV.out.mono ?_
  rintro e w1 ⟨rfl, rfl⟩
  go_wp2_with fail
  with_reducible refine HW.out.mono ?_
  rintro e w1 ⟨rfl, rfl⟩
  go_wp2
  go_ret
  exact ⟨rfl, rfl⟩

theorem tback_any (w : World) (a0 : Int) (a1 : Bool) (a2 : Int) (a3 : Bool) (v : Nat) (w0 : -9223372036854775808 ≤ a0 ∧ a0 ≤ 9223372036854775807) (w2 : -9223372036854775808 ≤ a2 ∧ a2 ≤ 9223372036854775807) (hv : v < 18446744073709551616) :
    Calls Try.prog 4 #[.int .i64 a0, .bool a1, .int .i64 a2, .bool a3, .int .u64 (v : Int)] w fun e w' => e = .returned (.bool true) ∧ w = w' := by
  have HP := Lib.hid (tpack_any w a0 a1 w0 _ rfl)
  have HQ := Lib.hid (tpack_any w a2 a3 w2 _ rfl)
  have HU := Lib.hid (tunpack_any w (packN a0 a1) (by have := packN_lt a0 a1; omega))
  have HV := Lib.hid (tunpack_any w v hv)
  have tag0 : ∀ (s : Int) (u : Bool), isSz s = false → packN s u = 0 := fun s u h => by simp [packN, h]
  have tag1 : ∀ (s : Int) (u : Bool), isSz s = true → packN s u = s.toNat + (if u = true then 1 else 0) := fun s u h => by simp [packN, h]
  have big : ∀ (s : Int) (u : Bool), isSz s = true → ((packN s u : Int) != 0) = true := fun s u h => by
    have h' := (isSz_iff s).1 h
    rw [tag1 s u h, bne_iff_ne]
    omega
  have H0 : unpN 0 = none := by decide
  -- the way of the last part
  have key : ∀ (P : Prop), (∀ (h : unpN v = none), P) → (∀ (s : Nat) (u : Bool), unpN v = some (s, u) → P) → P := fun P h1 h2 => by
    rcases h : unpN v with _ | ⟨s, u⟩
    · exact h1 h
    · exact h2 s u h
  refine key _ (fun hv0 => ?_) (fun s u hv0 => ?_)
  · rw [hv0] at HV
    simp only [unpV] at HV
    cases h0 : isSz a0
    · rw [tag0 a0 a1 h0] at HP HU
      rw [H0] at HU
      simp only [unpV] at HU
      exact tbackAN w v a0 a1 a2 a3 _ HP HQ HU HV
    · have n0 := (isSz_iff a0).1 h0
      have e0 : ((a0.toNat : Nat) : Int) = a0 := by omega
      rw [unpN_packN h0] at HU
      simp only [unpV, e0] at HU
      cases h2 : isSz a2
      · rw [tag0 a2 a3 h2] at HQ
        exact tbackBN w v a0 a1 a2 a3 _ (big a0 a1 h0) HP HQ HU HV
      · have n2 := (isSz_iff a2).1 h2
        by_cases heq : a0 = a2
        · subst heq
          have d0 : ((packN a0 false : Int) == (packN a0 true : Int)) = false := by
            rw [tag1 _ _ h0, tag1 _ _ h0, beq_eq_false_iff_ne]; simp only [Bool.false_eq_true, if_false, if_true]; omega
          have d1 : ((packN a0 true : Int) == (packN a0 false : Int)) = false := by
            rw [tag1 _ _ h0, tag1 _ _ h0, beq_eq_false_iff_ne]; simp only [Bool.false_eq_true, if_false, if_true]; omega
          cases a1 <;> cases a3
          · exact tbackEN w v a0 _ _ (big a0 _ h0) HP HQ HU HV
          · exact tbackD0N w v a0 _ _ (big a0 _ h0) (big a0 _ h0) d0 HP HQ HU HV
          · exact tbackD1N w v a0 _ _ (big a0 _ h0) (big a0 _ h0) d1 HP HQ HU HV
          · exact tbackEN w v a0 _ _ (big a0 _ h0) HP HQ HU HV
        · have d : ((packN a0 a1 : Int) == (packN a2 a3 : Int)) = false := by
            rw [tag1 _ _ h0, tag1 _ _ h2, beq_eq_false_iff_ne]; cases a1 <;> cases a3 <;> simp only [Bool.false_eq_true, if_false, if_true] <;> omega
          exact tbackCN w v a0 a1 a2 a3 _ _ (big a0 _ h0) (big a2 _ h2) d (beq_eq_false_iff_ne.2 heq) HP HQ HU HV
  · rw [hv0] at HV
    simp only [unpV] at HV
    obtain ⟨hs, hvs⟩ := unpN_some hv0
    have hss := (isSz_iff _).1 hs
    have HW := Lib.hid (tpack_any w (s : Int) u (by omega) v (by rw [tag1 _ _ hs, hvs]; simp))
    cases h0 : isSz a0
    · rw [tag0 a0 a1 h0] at HP HU
      rw [H0] at HU
      simp only [unpV] at HU
      exact tbackAS w v a0 a1 a2 a3 _ s u hs HW HP HQ HU HV
    · have n0 := (isSz_iff a0).1 h0
      have e0 : ((a0.toNat : Nat) : Int) = a0 := by omega
      rw [unpN_packN h0] at HU
      simp only [unpV, e0] at HU
      cases h2 : isSz a2
      · rw [tag0 a2 a3 h2] at HQ
        exact tbackBS w v a0 a1 a2 a3 _ (big a0 a1 h0) s u hs HW HP HQ HU HV
      · have n2 := (isSz_iff a2).1 h2
        by_cases heq : a0 = a2
        · subst heq
          have d0 : ((packN a0 false : Int) == (packN a0 true : Int)) = false := by
            rw [tag1 _ _ h0, tag1 _ _ h0, beq_eq_false_iff_ne]; simp only [Bool.false_eq_true, if_false, if_true]; omega
          have d1 : ((packN a0 true : Int) == (packN a0 false : Int)) = false := by
            rw [tag1 _ _ h0, tag1 _ _ h0, beq_eq_false_iff_ne]; simp only [Bool.false_eq_true, if_false, if_true]; omega
          cases a1 <;> cases a3
          · exact tbackES w v a0 _ _ (big a0 _ h0) s u hs HW HP HQ HU HV
          · exact tbackD0S w v a0 _ _ (big a0 _ h0) (big a0 _ h0) d0 s u hs HW HP HQ HU HV
          · exact tbackD1S w v a0 _ _ (big a0 _ h0) (big a0 _ h0) d1 s u hs HW HP HQ HU HV
          · exact tbackES w v a0 _ _ (big a0 _ h0) s u hs HW HP HQ HU HV
        · have d : ((packN a0 a1 : Int) == (packN a2 a3 : Int)) = false := by
            rw [tag1 _ _ h0, tag1 _ _ h2, beq_eq_false_iff_ne]; cases a1 <;> cases a3 <;> simp only [Bool.false_eq_true, if_false, if_true] <;> omega
          exact tbackCS w v a0 a1 a2 a3 _ _ (big a0 _ h0) (big a2 _ h2) d (beq_eq_false_iff_ne.2 heq) s u hs HW HP HQ HU HV
end Go.Proofs.Yteebamifhggkgaa
