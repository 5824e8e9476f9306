/- The contracts of an arena's calls that only read. -/
import Derived.Test.YtodbakpjibcmiaaAr
import Derived.Test.YtodbakpjibcmiaaChecked
import Derived.IntWalk
import Derived.Outline
import Derived.WalkSpells
namespace Go.Proofs.Ytodbakpjibcmiaa
open Go.RowKit

theorem ret_place {a b : Int} (h : a = b) : Ending.returned (.tuple #[.int .u64 a, .bool true]) = .returned (.tuple #[.int .u64 b, .bool true]) := by rw [h]

section
variable {w : World} {g base cap c : Nat} {A : Option Addr} {bs : List UInt8}
set_option maxRecDepth 100000 in
set_option maxHeartbeats 400000 in
theorem len_any (h : Ar w 73 g base cap A c bs) :
    Calls Try.prog 30 #[.pointer (some ⟨g, 0, none⟩)] w fun e w' => e = .returned (.int .i64 (bs.length : Int)) ∧ w = w' := by
  have c2 := h.c2
  go_enter Try.func30, Try.ntmps30
  go_wp2
  go_ret
  exact ⟨rfl, rfl⟩

set_option maxRecDepth 100000 in
set_option maxHeartbeats 400000 in
theorem base_any (h : Ar w 73 g base cap A c bs) :
    Calls Try.prog 37 #[.pointer (some ⟨g, 0, none⟩)] w fun e w' => e = .returned (.int .u64 (base : Int)) ∧ w = w' := by
  have c0 := h.c0
  go_enter Try.func37, Try.ntmps37
  go_wp2
  go_ret
  exact ⟨rfl, rfl⟩

set_option maxRecDepth 100000 in
set_option maxHeartbeats 400000 in
theorem place_yes (h : Ar w 73 g base cap A c bs) (hl : bs.length ≤ 1000000) (x n : Nat) (hx : x < 18446744073709551616) (h1 : base ≤ x) (h2 : x - base + n ≤ bs.length) :
    Calls Try.prog 38 #[.pointer (some ⟨g, 0, none⟩), .int .u64 (x : Int), .int .u64 (n : Int)] w fun e w' => e = .returned (.tuple #[.int .u64 ((x - base : Nat) : Int), .bool true]) ∧ w = w' := by
  have c0 := h.c0
  have c2 := h.c2
  obtain ⟨d, rfl⟩ : ∃ d, x = base + d := ⟨x - base, by omega⟩
  have e1 : base + d - base = d := by omega
  rw [e1] at h2 ⊢
  clear e1
  have s1 : decide ((d : Int) ≤ (bs.length : Int)) = true := decide_eq_true (by omega)
  have s2 : decide ((n : Int) ≤ (bs.length : Int) - (d : Int)) = true := decide_eq_true (by omega)
  go_enter Try.func38, Try.ntmps38
  go_wp2
  go_ret2
  exact ⟨ret_place (by omega), rfl⟩

set_option maxRecDepth 100000 in
set_option maxHeartbeats 400000 in
theorem place_no (h : Ar w 73 g base cap A c bs) (hl : bs.length ≤ 1000000) (x n : Nat) (hx : x < 18446744073709551616) (h2 : base ≤ x → bs.length < x - base + n) :
    Calls Try.prog 38 #[.pointer (some ⟨g, 0, none⟩), .int .u64 (x : Int), .int .u64 (n : Int)] w fun e w' => e = .returned (.tuple #[.int .u64 0, .bool false]) ∧ w = w' := by
  have c0 := h.c0
  have c2 := h.c2
  by_cases h1 : base ≤ x
  · have h2 := h2 h1
    obtain ⟨d, rfl⟩ : ∃ d, x = base + d := ⟨x - base, by omega⟩
    have e1 : base + d - base = d := by omega
    rw [e1] at h2
    clear e1
    by_cases h3 : bs.length < d
    · go_enter Try.func38, Try.ntmps38
      go_wp2
      go_ret2
      exact ⟨rfl, rfl⟩
    · have s2 : decide ((bs.length : Int) - (d : Int) < (n : Int)) = true := decide_eq_true (by omega)
      go_enter Try.func38, Try.ntmps38
      go_wp2
      go_ret2
      exact ⟨rfl, rfl⟩
  · clear h2
    have h3 : x < base := by omega
    go_enter Try.func38, Try.ntmps38
    go_wp2
    go_ret2
    exact ⟨rfl, rfl⟩
end

end Go.Proofs.Ytodbakpjibcmiaa
