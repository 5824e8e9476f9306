/- The contracts of word: four bytes. -/
import Derived.Test.YteomiekjcnpnlaaNum
import Derived.Test.YteomiekjcnpnlaaPut
namespace Go.Proofs.Yteomiekjcnpnlaa
open Go.RowKit

set_option maxRecDepth 100000 in
set_option maxHeartbeats 400000 in
theorem get4_yes (A : Option Addr) (len c B : Nat) (bs : List UInt8) (p : Nat) (w : World) (h : Rd w B A len bs) (hlc : len ≤ c) (hl : len ≤ 1000000) (h2 : p + 4 ≤ len) :
    Calls Try.prog 21 #[.slice A len c, .int .u64 (p : Int)] w fun e w' => e = .returned (.tuple #[.int .u32 (numB ((bs.drop p).take 4) : Int), .bool true]) ∧ w = w' := by
  obtain ⟨b, off, rfl, hb, _, _⟩ := h.at_ (k := 0) (by omega)
  have hs := h.sub p 4 h2
  have hlt : numB ((bs.drop p).take 4) < 4294967296 := by
    have := numB_lt ((bs.drop p).take 4)
    rw [hs.1] at this
    exact this
  go_enter Try.func21, Try.ntmps21
  go_wp2_with fail
  refine (has_yes _ _ _ _ 4 _ hl h2).mono ?_
  rintro e w' ⟨rfl, rfl⟩
  go_wp2_with fail
  refine (number_any _ _ _ _ _ _ hs (by omega)).mono ?_
  rintro e w' ⟨rfl, rfl⟩
  go_wp2
  go_ret2
  exact ⟨rfl, rfl⟩

set_option maxRecDepth 100000 in
set_option maxHeartbeats 400000 in
theorem get4_no (A : Option Addr) (len c p : Nat) (w : World) (hl : len ≤ 1000000) (h2 : len < p + 4) :
    Calls Try.prog 21 #[.slice A len c, .int .u64 (p : Int)] w fun e w' => e = .returned (.tuple #[.int .u32 0, .bool false]) ∧ w = w' := by
  go_enter Try.func21, Try.ntmps21
  go_wp2_with fail
  refine (has_no _ _ _ _ 4 _ hl h2).mono ?_
  rintro e w' ⟨rfl, rfl⟩
  go_wp2
  go_ret2
  exact ⟨rfl, rfl⟩

set_option maxRecDepth 100000 in
set_option maxHeartbeats 400000 in
theorem put4_any (v : Nat) (w : World) (hv : v < 4294967296) :
    Calls Try.prog 16 #[.int .u32 (v : Int)] w fun e w' => e = .returned (.slice (some ⟨w.heap.size, 0, none⟩) 4 4) ∧ Fill w' w.heap.size 5 (lowB 4 v) ∧ Below w.heap.size w w' := by
  go_enter Try.func16, Try.ntmps16
  go_wp2_with fail
  refine (lowest_any v 4 _ (by omega) (by omega)).mono ?_
  rintro e w' ⟨rfl, hf, hb⟩
  go_wp2
  go_ret
  exact ⟨rfl, hf, hb⟩
end Go.Proofs.Yteomiekjcnpnlaa
