/- Layer 8's laws over the contracts of the program's two functions: the head, ClassTells. -/
import Derived.Test.YtelkileeekfknaaRef1
import Derived.Test.YtelkileeekfknaaMem
namespace Go.Proofs.Ytelkileeekfknaa
open Go.RowKit

def NeedC : Prop := ∀ (w : World) (n : Nat), n < 18446744073709551616 → Calls Try.prog 6 #[.int .u64 (n : Int)] w fun e w' => e = .returned (needV (needN n)) ∧ Below w.heap.size w w'
def ClassC : Prop := ∀ (w : World) (s : Int), (-9223372036854775808 ≤ s ∧ s ≤ 9223372036854775807) → Calls Try.prog 8 #[.int .i64 s] w fun e w' => e = .returned (.int .i64 (classI s)) ∧ Below w.heap.size w w'

set_option maxHeartbeats 1000000 in
theorem up8_any (HN : NeedC) (HC : ClassC) (w : World) : Calls Try.prog 5 #[] w fun e w' => e = .returned (.bool true) ∧ Below w.heap.size w w' := by
  have n0 := fun W => HN W 0 (by omega)
  have n17 := fun W => HN W 17 (by omega)
  have c1 := fun W => HC W 272 (by omega)
  have c2 := fun W => HC W 16384 (by omega)
  rw [show needN 0 = some 32 by decide] at n0
  rw [show needN 17 = some 48 by decide] at n17
  rw [show classI 272 = 15 by decide] at c1
  rw [show classI 16384 = 21 by decide] at c2
  simp only [needV] at n0 n17
  have N0 := Lib.hid n0
  have N17 := Lib.hid n17
  have C1 := Lib.hid c1
  have C2 := Lib.hid c2
  clear n0 n17 c1 c2 HN HC
  go_enter Try.func5, Try.ntmps5
  go_wp2_with fail
  refine (N0.out _).mono ?_
  rintro e w1 ⟨rfl, hb⟩
  have HB1 := Lib.hid hb
  clear hb
  go_wp2_with fail
  refine (N17.out _).mono ?_
  rintro e w2 ⟨rfl, hb⟩
  have HB2 := Lib.hid (HB1.out.trans (hb.mono HB1.out.size))
  clear hb HB1
  go_wp2_with fail
  refine (C1.out _).mono ?_
  rintro e w3 ⟨rfl, hb⟩
  have HB3 := Lib.hid (HB2.out.trans (hb.mono HB2.out.size))
  clear hb HB2
  go_wp2_with fail
  refine (C2.out _).mono ?_
  rintro e w4 ⟨rfl, hb⟩
  have HB4 := Lib.hid (HB3.out.trans (hb.mono HB3.out.size))
  clear hb HB3
  go_wp2
  go_ret
  exact ⟨rfl, HB4.out⟩

theorem needV_is (o : Option Nat) : ∃ (a : Int) (b : Bool), needV o = .tuple #[.int .i64 a, .bool b] := by
  cases o with
  | none => exact ⟨0, false, rfl⟩
  | some s => exact ⟨s, true, rfl⟩

set_option maxHeartbeats 1000000 in
theorem clt_any (HN : NeedC) (HC : ClassC) (w : World) (n : Nat) (hn : n < 18446744073709551616) (s : Int) (hs : -9223372036854775808 ≤ s ∧ s ≤ 9223372036854775807) :
    Calls Try.prog 3 #[.int .u64 (n : Int), .int .i64 s] w fun e w' => e = .returned (.bool true) ∧ Below w.heap.size w w' := by
  have HU := Lib.hid (up8_any HN HC)
  have h1 := fun W => HN W n hn
  have h2 := fun W => rneed_any W n hn
  obtain ⟨a, b, hab⟩ := needV_is (needN n)
  rw [hab] at h1 h2
  obtain ⟨c, hc⟩ : ∃ c, classI s = c := ⟨_, rfl⟩
  have h3 := fun W => HC W s hs
  have h4 := fun W => rclass_any W s hs c hc
  rw [hc] at h3
  have H1 := Lib.hid h1
  have H2 := Lib.hid h2
  have H3 := Lib.hid h3
  have H4 := Lib.hid h4
  clear h1 h2 h3 h4 hc hab HN HC
  go_enter Try.func3, Try.ntmps3
  go_wp2_with fail
  refine (HU.out _).mono ?_
  rintro e w1 ⟨rfl, hb⟩
  have HB1 := Lib.hid hb
  clear hb
  go_wp2_with fail
  refine (H1.out _).mono ?_
  rintro e w2 ⟨rfl, hb⟩
  have HB2 := Lib.hid (HB1.out.trans (hb.mono HB1.out.size))
  clear hb HB1
  go_wp2_with fail
  refine (H2.out _).mono ?_
  rintro e w3 ⟨rfl, rfl⟩
  go_wp2_with fail
  refine (H3.out _).mono ?_
  rintro e w4 ⟨rfl, hb⟩
  have HB4 := Lib.hid (HB2.out.trans (hb.mono HB2.out.size))
  clear hb HB2
  go_wp2_with fail
  refine (H4.out _).mono ?_
  rintro e w5 ⟨rfl, rfl⟩
  go_wp2
  go_ret
  exact ⟨rfl, HB4.out⟩
end Go.Proofs.Ytelkileeekfknaa
