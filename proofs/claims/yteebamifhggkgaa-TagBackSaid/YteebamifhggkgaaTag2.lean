/- The walks of the laws of layer 6. -/
import Derived.Test.YteebamifhggkgaaTag1
namespace Go.Proofs.Yteebamifhggkgaa
open Go.RowKit

set_option maxHeartbeats 1000000 in
theorem ttells_any (w : World) (a0 : Int) (a1 : Bool) (v : Nat) (w0 : -9223372036854775808 ≤ a0 ∧ a0 ≤ 9223372036854775807) (hv : v < 18446744073709551616) :
    Calls Try.prog 3 #[.int .i64 a0, .bool a1, .int .u64 (v : Int)] w fun e w' => e = .returned (.bool true) ∧ w = w' := by
  have HU := Lib.hid (tup_any w)
  have HV := Lib.hid (tunpack_any w v hv)
  have HR := Lib.hid (runpack_any w v hv)
  obtain ⟨m, hm⟩ : ∃ m, packN a0 a1 = m := ⟨_, rfl⟩
  have HP := Lib.hid (tpack_any w a0 a1 w0 m hm)
  have HQ := Lib.hid (rpack_any w a0 a1 w0 m hm)
  clear hm
  generalize unpN v = o at HV HR
  match o with
  | none =>
    simp only [unpV] at HV HR
    go_enter Try.func3, Try.ntmps3
    go_wp2_with fail
    with_reducible refine HU.out.mono ?_
    rintro e w1 ⟨rfl, rfl⟩
    go_wp2_with fail
    with_reducible refine HV.out.mono ?_
    rintro e w1 ⟨rfl, rfl⟩
    go_wp2_with fail
    with_reducible refine HR.out.mono ?_
    rintro e w1 ⟨rfl, rfl⟩
    go_wp2_with fail
    with_reducible refine HP.out.mono ?_
    rintro e w1 ⟨rfl, rfl⟩
    go_wp2_with fail
    with_reducible refine HQ.out.mono ?_
    rintro e w1 ⟨rfl, rfl⟩
    go_wp2
    go_ret
    exact ⟨rfl, rfl⟩
  | some (s, u) =>
    simp only [unpV] at HV HR
    go_enter Try.func3, Try.ntmps3
    go_wp2_with fail
    with_reducible refine HU.out.mono ?_
    rintro e w1 ⟨rfl, rfl⟩
    go_wp2_with fail
    with_reducible refine HV.out.mono ?_
    rintro e w1 ⟨rfl, rfl⟩
    go_wp2_with fail
    with_reducible refine HR.out.mono ?_
    rintro e w1 ⟨rfl, rfl⟩
    go_wp2_with fail
    with_reducible refine HP.out.mono ?_
    rintro e w1 ⟨rfl, rfl⟩
    go_wp2_with fail
    with_reducible refine HQ.out.mono ?_
    rintro e w1 ⟨rfl, rfl⟩
    go_wp2
    go_ret
    exact ⟨rfl, rfl⟩
end Go.Proofs.Yteebamifhggkgaa
