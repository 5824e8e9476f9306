/- The walk of BlockTells: all ways. -/
import Derived.Test.YtodbakpjibcmiaaLaw07d
namespace Go.Proofs.Ytodbakpjibcmiaa
open Go.RowKit

set_option maxRecDepth 100000 in
set_option maxHeartbeats 1000000 in
theorem bt_long (HG : GetC) (HA : AheadC) (HS : SetC) (HW : WalkC) (w : World) (n : Nat) (Ab : Option Addr) (k ln : Nat) (hl : 16384 < ln) (o xo xs : Int) (xu : Bool) :
    Calls Try.prog 3 #[.int .u64 (n : Int), .slice Ab ln k, .int .i64 o, .agg #[.int .i64 xo, .int .i64 xs, .bool xu]] w fun e w' => e = .returned (.bool true) ∧ Below w.heap.size w w' := by
  obtain ⟨wx, hwx⟩ : ∃ wx, w.alloc (.cells #[.int .i64 xo, .int .i64 xs, .bool xu] 25) = wx := ⟨_, rfl⟩
  have hbx : Below w.heap.size w wx := by rw [← hwx]; exact (Below.refl _ _).alloc (Nat.le_refl _) _
  have s0 : decide ((16384 : Int) < (ln : Int)) = true := decide_eq_true (by omega)
  have HUP := Lib.hid (up7_any HG HA HS HW)
  have HBX := Lib.hid hbx
  have HWX := Lib.hid hwx
  clear hbx hwx HG HA HS HW
  go_enter Try.func3, Try.ntmps3
  go_wp2_with fail
  rw [HWX.out]
  refine (HUP.out _).mono ?_
  rintro e w1 ⟨rfl, hb⟩
  have HK := Lib.hid (HBX.out.trans (hb.mono HBX.out.size))
  clear hb
  go_wp2
  go_ret
  exact ⟨rfl, HK.out⟩

theorem bt_any (HG : GetC) (HA : AheadC) (HS : SetC) (HW : WalkC) (w : World) (n : Nat) (hn : n < 18446744073709551616) (Ab : Option Addr) (k : Nat) (bs : List UInt8) (hr : Rd w w.heap.size Ab bs.length bs) (hbk : bs.length ≤ k) (hA0 : Ab = none → k = 0) (o : Int) (ho : -9223372036854775808 ≤ o ∧ o ≤ 9223372036854775807)
    (xo xs : Int) (xu : Bool) (hxo : -9223372036854775808 ≤ xo ∧ xo ≤ 9223372036854775807) (hxs : -9223372036854775808 ≤ xs ∧ xs ≤ 9223372036854775807) :
    Calls Try.prog 3 #[.int .u64 (n : Int), .slice Ab bs.length k, .int .i64 o, .agg #[.int .i64 xo, .int .i64 xs, .bool xu]] w fun e w' => e = .returned (.bool true) ∧ Below w.heap.size w w' := by
  by_cases hl0 : 16384 < bs.length
  · exact bt_long HG HA HS HW w n Ab k bs.length hl0 o xo xs xu
  have hl : bs.length ≤ 16384 := by omega
  rcases h1 : (getB bs o).isSome <;> rcases h2 : (aheadB bs o).isSome <;> rcases h3 : (walkB bs).isSome <;> rcases h4 : setB bs xo xs xu with _ | out
  · exact bt_0000 HG HA HS HW w n hn Ab k bs hr hbk hA0 hl o ho xo xs xu hxo hxs _ _ _ rfl rfl rfl h1 h2 h3 h4
  · exact bt_0001 HG HA HS HW w n hn Ab k bs hr hbk hA0 hl o ho xo xs xu hxo hxs _ _ _ rfl rfl rfl h1 h2 h3 _ h4
  · exact bt_0010 HG HA HS HW w n hn Ab k bs hr hbk hA0 hl o ho xo xs xu hxo hxs _ _ _ rfl rfl rfl h1 h2 h3 h4
  · exact bt_0011 HG HA HS HW w n hn Ab k bs hr hbk hA0 hl o ho xo xs xu hxo hxs _ _ _ rfl rfl rfl h1 h2 h3 _ h4
  · exact bt_0100 HG HA HS HW w n hn Ab k bs hr hbk hA0 hl o ho xo xs xu hxo hxs _ _ _ rfl rfl rfl h1 h2 h3 h4
  · exact bt_0101 HG HA HS HW w n hn Ab k bs hr hbk hA0 hl o ho xo xs xu hxo hxs _ _ _ rfl rfl rfl h1 h2 h3 _ h4
  · exact bt_0110 HG HA HS HW w n hn Ab k bs hr hbk hA0 hl o ho xo xs xu hxo hxs _ _ _ rfl rfl rfl h1 h2 h3 h4
  · exact bt_0111 HG HA HS HW w n hn Ab k bs hr hbk hA0 hl o ho xo xs xu hxo hxs _ _ _ rfl rfl rfl h1 h2 h3 _ h4
  · exact bt_1000 HG HA HS HW w n hn Ab k bs hr hbk hA0 hl o ho xo xs xu hxo hxs _ _ _ rfl rfl rfl h1 h2 h3 h4
  · exact bt_1001 HG HA HS HW w n hn Ab k bs hr hbk hA0 hl o ho xo xs xu hxo hxs _ _ _ rfl rfl rfl h1 h2 h3 _ h4
  · exact bt_1010 HG HA HS HW w n hn Ab k bs hr hbk hA0 hl o ho xo xs xu hxo hxs _ _ _ rfl rfl rfl h1 h2 h3 h4
  · exact bt_1011 HG HA HS HW w n hn Ab k bs hr hbk hA0 hl o ho xo xs xu hxo hxs _ _ _ rfl rfl rfl h1 h2 h3 _ h4
  · exact bt_1100 HG HA HS HW w n hn Ab k bs hr hbk hA0 hl o ho xo xs xu hxo hxs _ _ _ rfl rfl rfl h1 h2 h3 h4
  · exact bt_1101 HG HA HS HW w n hn Ab k bs hr hbk hA0 hl o ho xo xs xu hxo hxs _ _ _ rfl rfl rfl h1 h2 h3 _ h4
  · exact bt_1110 HG HA HS HW w n hn Ab k bs hr hbk hA0 hl o ho xo xs xu hxo hxs _ _ _ rfl rfl rfl h1 h2 h3 h4
  · exact bt_1111 HG HA HS HW w n hn Ab k bs hr hbk hA0 hl o ho xo xs xu hxo hxs _ _ _ rfl rfl rfl h1 h2 h3 _ h4
end Go.Proofs.Ytodbakpjibcmiaa
