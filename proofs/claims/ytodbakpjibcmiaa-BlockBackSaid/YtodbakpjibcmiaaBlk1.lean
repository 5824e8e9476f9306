/- The contracts of what the program's blocks are made of: isPlace, address, and an arena's Word at an offset. -/
import Derived.Test.YtodbakpjibcmiaaSpec7
import Derived.Test.YtodbakpjibcmiaaMore
import Derived.Test.YtodbakpjibcmiaaTag1
namespace Go.Proofs.Ytodbakpjibcmiaa
open Go.RowKit

/-- What an offset means. -/
def adr (base : Nat) (o : Int) : Nat := (((base : Int) + o) % 18446744073709551616).toNat
theorem adr_lt (base : Nat) (o : Int) : adr base o < 18446744073709551616 := by unfold adr; omega
theorem adr_pos (base : Nat) (hb : base ≤ 4611686018427387904) (o : Nat) (ho : (o : Int) ≤ 9223372036854775807) : adr base (o : Int) = base + o := by unfold adr; omega
theorem adr_neg (base : Nat) (hb : base ≤ 4611686018427387904) (o : Int) (ho : -9223372036854775900 ≤ o ∧ o ≤ 9223372036854775807) (n k : Nat) (hn : n + k ≤ 1000000) (hk : 1 ≤ k) (h : o < 0 ∨ (n : Int) < o + k) : base ≤ adr base o → n < adr base o - base + k := by unfold adr; omega
/-- The number at an offset, or an error. -/
def wdV (o : Option Nat) : Value := match o with
  | some v => .tuple #[.int .u64 (v : Int), .nilIface]
  | none => .tuple #[.int .u64 0, .iface 56 (.int .i64 2)]
/-- May a block stand at o, as far as o tells? -/
def plc (o : Int) : Bool := decide (184 ≤ o) && (o % 16 == 8)
theorem plc_iff (o : Int) : plc o = true ↔ 184 ≤ o ∧ o % 16 = 8 := by simp [plc]

section
variable {w : World} {g base cap c : Nat} {A : Option Addr} {bs : List UInt8}
theorem word_at (h : Ar w 73 g base cap A c bs) (hb : base ≤ 4611686018427387904) (hl : bs.length ≤ 16384) (o : Int) (ho : -9223372036854775900 ≤ o ∧ o ≤ 9223372036854775807) (x : Option Nat) (hx : word? bs o = x) :
    Calls Try.prog 24 #[.pointer (some ⟨g, 0, none⟩), .int .u64 (adr base o : Int)] w fun e w' => e = .returned (wdV x) ∧ w = w' := by
  subst hx
  by_cases h1 : 0 ≤ o ∧ o + 8 ≤ bs.length
  · obtain ⟨p, rfl⟩ : ∃ p : Nat, o = (p : Int) := ⟨o.toNat, by omega⟩
    have e : word? bs (p : Int) = some (wordN bs p) := by unfold word?; rw [if_pos (by omega)]; rfl
    rw [e, adr_pos base hb p (by omega)]
    exact word_ok h (by omega) (base + p) p (by omega) (by omega) (by omega) (by omega)
  · have e : word? bs o = none := by unfold word?; rw [if_neg h1]
    rw [e]
    exact word_no h (by omega) (adr base o) (adr_lt _ _) (adr_neg base hb o ho bs.length 8 (by omega) (by omega) (by omega))

set_option maxHeartbeats 400000 in
theorem address_any (h : Ar w 73 g base cap A c bs) (o : Int) :
    Calls Try.prog 25 #[.pointer (some ⟨g, 0, none⟩), .int .i64 o] w fun e w' => e = .returned (.int .u64 (adr base o : Int)) ∧ w = w' := by
  have HB := Lib.hid (base_any h)
  go_enter Try.func25, Try.ntmps25
  go_wp2_with fail
  refine HB.out.mono ?_
  rintro e w1 ⟨rfl, rfl⟩
  go_wp2
  go_ret
  exact ⟨rt_i (by simp only [IntKind.wrap_u64]; unfold adr; omega), rfl⟩

set_option maxHeartbeats 400000 in
theorem isplace_any (w : World) (o : Int) (ho : -9223372036854775808 ≤ o ∧ o ≤ 9223372036854775807) (b : Bool) (hb : plc o = b) :
    Calls Try.prog 23 #[.int .i64 o] w fun e w' => e = .returned (.bool b) ∧ w = w' := by
  by_cases h1 : 184 ≤ o
  · have e : ((o - 184) % 16 == 0) = b := by
      rw [← hb]
      unfold plc
      rw [decide_eq_true h1, Bool.true_and, Bool.eq_iff_iff, beq_iff_eq, beq_iff_eq]
      omega
    have HE := Lib.hid e
    clear hb e
    go_enter Try.func23, Try.ntmps23
    go_wp2
    go_ret
    exact ⟨rt_b HE.out, rfl⟩
  · obtain rfl : false = b := by rw [← hb]; simp [plc, h1]
    clear hb
    go_enter Try.func23, Try.ntmps23
    go_wp2
    go_ret
    exact ⟨rfl, rfl⟩
end
end Go.Proofs.Ytodbakpjibcmiaa
