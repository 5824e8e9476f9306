/- The walk of the law CrcParts: it returns true and writes nothing that was there. -/
import Derived.Test.YtobnodfkeelhgaaHead
import Derived.Test.YtobnodfkeelhgaaSegs
import Derived.Test.YtobnodfkeelhgaaLow
import Derived.WalkSpells
namespace Go.Proofs.Ytobnodfkeelhgaa
open Go.RowKit

set_option maxHeartbeats 1000000 in
theorem parts_long (A A' : Option Addr) (n c m c' : Nat) (w : World) (hl : 10000 < n ∨ 10000 < m) (hn : n ≤ maxLen) (hm : m ≤ maxLen) :
    Calls Try.prog 4 #[.slice A n c, .slice A' m c'] w fun e w' => e = .returned (.bool true) ∧ Below w.heap.size w w' := by
  unfold maxLen at hn hm
  by_cases h1 : 10000 < n
  · go_enter Try.func4, Try.ntmps4
    go_wp2_with fail
    refine (up_any _).mono ?_
    rintro e w1 ⟨rfl, hb⟩
    go_wp2
    go_ret
    exact ⟨rfl, hb⟩
  · have h2 : 10000 < m := by omega
    go_enter Try.func4, Try.ntmps4
    go_wp2_with fail
    refine (up_any _).mono ?_
    rintro e w1 ⟨rfl, hb⟩
    go_wp2
    go_ret
    exact ⟨rfl, hb⟩

set_option maxRecDepth 100000 in
set_option maxHeartbeats 1000000 in
theorem parts_short (A A' : Option Addr) (n c m c' : Nat) (bs cs : List UInt8) (w : World) (hn : n ≤ 10000) (hm : m ≤ 10000) (h : Rd w w.heap.size A n bs) (h' : Rd w w.heap.size A' m cs) (hz : A = none → c = 0) (hz' : A' = none → c' = 0) :
    Calls Try.prog 4 #[.slice A n c, .slice A' m c'] w fun e w' => e = .returned (.bool true) ∧ Below w.heap.size w w' := by
  go_enter Try.func4, Try.ntmps4
  go_wp2_with fail
  refine (up_any _).mono ?_
  rintro e w1 ⟨rfl, hb⟩
  have r1 := h.below hb
  have r1' := h'.below hb
  go_wp2_with fail
  refine (sum_any A n c _ bs _ r1 (by omega)).mono ?_
  rintro e w2 ⟨rfl, rfl⟩
  go_wp2_with fail
  refine (more_any A' m c' _ _ cs _ r1' (by omega) (moreN_lt 0 bs)).mono ?_
  rintro e w2 ⟨rfl, rfl⟩
  rw [moreN_append]
  have own1 : (w1.alloc (.cells #[] 5)).ownsRow w1.heap.size 5 1 (.slice (some ⟨w1.heap.size, 0, none⟩) 0 0) 0 (([] : List UInt8).map bv) := World.ownsRow_lit w1 _ 0 (Nat.le_refl _) (by unfold maxLen; omega) rfl
  go_wp2_with (first
    | (at_builtin; refine wpList_wanted rfl (append_bytes rfl (.tmp 22) (.tmp 23) 22 5 rfl Try.underlying22 u8_info w1.heap.size (.slice (some ⟨w1.heap.size, 0, none⟩) 0 0) 0 [] rfl own1 _ A n c bs rfl (r1.keep fun p hp => World.cell?_alloc_lt w1 _ p (by have := hb.size; omega)) hz (by omega) (by simp) ?_); intro x2 w2 own2 hb2 gr2; have own2' : w2.ownsRow w1.heap.size 5 1 x2 n (bs.map bv) := (by simpa using own2); have hb12 : Below w1.heap.size w1 w2 := ((Below.refl _ _).alloc (Nat.le_refl _) _).trans hb2; have r2' := r1'.below (hb12.mono hb.size); clear own1 own2 gr2 hb2)
    | (at_builtin; refine wpList_wanted rfl (append_bytes rfl (.tmp 24) (.tmp 25) 22 5 rfl Try.underlying22 u8_info w1.heap.size x2 n bs rfl own2' _ A' m c' cs rfl r2' hz' (by omega) hb12.size ?_); intro x3 w3 own3 hb3 gr3; have hb13 := hb12.trans hb3; clear own2' gr3 hb3; obtain ⟨A3, cap3, rfl, hcap3, r3⟩ := own_any own3))
  refine (sum_any A3 (n + m) cap3 _ (bs ++ cs) _ r3 (by omega)).mono ?_
  rintro e w4 ⟨rfl, rfl⟩
  go_wp2
  go_ret
  exact ⟨by simp, hb.trans (hb13.mono hb.size)⟩
end Go.Proofs.Ytobnodfkeelhgaa
