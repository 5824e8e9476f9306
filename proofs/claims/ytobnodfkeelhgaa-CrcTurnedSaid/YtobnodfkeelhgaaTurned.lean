/- The walk of the law CrcTurned: it returns true and writes nothing that was there. -/
import Derived.Test.YtobnodfkeelhgaaHead
import Derived.Test.YtobnodfkeelhgaaLow
namespace Go.Proofs.Ytobnodfkeelhgaa
open Go.RowKit

set_option maxHeartbeats 1000000 in
theorem turned_long (A A' : Option Addr) (n c m c' v y s t : Nat) (w : World) (hl : 10000 < n ∨ 10000 < m) (hn : n ≤ maxLen) (hm : m ≤ maxLen) :
    Calls Try.prog 5 #[.slice A n c, .int .u32 (v : Int), .slice A' m c', .int .u32 (y : Int), .int .u32 (s : Int), .int .u32 (t : Int)] w fun e w' => e = .returned (.bool true) ∧ Below w.heap.size w w' := by
  unfold maxLen at hn hm
  by_cases h1 : 10000 < n
  · go_enter Try.func5, Try.ntmps5
    go_wp2_with fail
    refine (up_any _).mono ?_
    rintro e w1 ⟨rfl, hb⟩
    go_wp2
    go_ret
    exact ⟨rfl, hb⟩
  · have h2 : 10000 < m := by omega
    go_enter Try.func5, Try.ntmps5
    go_wp2_with fail
    refine (up_any _).mono ?_
    rintro e w1 ⟨rfl, hb⟩
    go_wp2
    go_ret
    exact ⟨rfl, hb⟩

theorem wrap_u64_id (n : Nat) (h : n < 18446744073709551616) : IntKind.u64.wrap (n : Int) = (n : Int) := by
  have : IntKind.u64.wrap (n : Int) = (n : Int) % 18446744073709551616 := by simp [IntKind.wrap, IntKind.bits, IntKind.signed]
  omega

theorem four_beq (a b : List UInt8) (v y : Nat) (hv : v < 4294967296) (hy : y < 4294967296) :
    (((moreN 0 (a ++ lowB 4 v ++ b) : Nat) : Int) == ((moreN 0 (a ++ lowB 4 (v ^^^ y) ++ b) : Nat) : Int)) = ((y : Int) == 0) := by
  by_cases h : y = 0
  · subst h
    rw [Nat.xor_zero, beq_self_eq_true]
    rfl
  · have h1 : ((y : Int) == 0) = false := by rw [beq_eq_false_iff_ne]; omega
    rw [h1, beq_eq_false_iff_ne]
    intro h2
    have h3 := moreN_four a b (s := 0) hv (xor_lt32 hv hy) (by omega)
    exact h (xor_left_one (r := v) (a := y) (b := 0) (by rw [Nat.xor_zero]; exact h3.symm))

theorem more_beq (b : List UInt8) (s t : Nat) (hs : s < 4294967296) (ht : t < 4294967296) :
    (((moreN s b : Nat) : Int) == ((moreN t b : Nat) : Int)) = ((s : Int) == (t : Int)) := by
  by_cases h : s = t
  · subst h
    rw [beq_self_eq_true, beq_self_eq_true]
  · have h1 : ((s : Int) == (t : Int)) = false := by rw [beq_eq_false_iff_ne]; omega
    rw [h1, beq_eq_false_iff_ne]
    intro h2
    exact h (moreN_one b hs ht (by omega))

set_option maxRecDepth 100000 in
set_option maxHeartbeats 1000000 in
theorem turned_short (A A' : Option Addr) (n c m c' v y s t : Nat) (bs cs : List UInt8) (w : World) (hn : n ≤ 10000) (hm : m ≤ 10000) (h : Rd w w.heap.size A n bs) (h' : Rd w w.heap.size A' m cs) (hz : A = none → c = 0) (hz' : A' = none → c' = 0)
    (hv : v < 4294967296) (hy : y < 4294967296) (hs : s < 4294967296) (ht : t < 4294967296) :
    Calls Try.prog 5 #[.slice A n c, .int .u32 (v : Int), .slice A' m c', .int .u32 (y : Int), .int .u32 (s : Int), .int .u32 (t : Int)] w fun e w' => e = .returned (.bool true) ∧ Below w.heap.size w w' := by
  go_enter Try.func5, Try.ntmps5
  go_wp2_with fail
  refine (up_any _).mono ?_
  rintro e w1 ⟨rfl, hb⟩
  have r1 := h.below hb
  have own1 : (w1.alloc (.cells #[] 5)).ownsRow w1.heap.size 5 1 (.slice (some ⟨w1.heap.size, 0, none⟩) 0 0) 0 (([] : List UInt8).map bv) := World.ownsRow_lit w1 _ 0 (Nat.le_refl _) (by unfold maxLen; omega) rfl
  go_wp2_with (first
    | (at_builtin; go_must (refine append_bytes rfl (.tmp 26) (.tmp 27) 22 5 rfl Try.underlying22 u8_info w1.heap.size (.slice (some ⟨w1.heap.size, 0, none⟩) 0 0) 0 [] rfl own1 _ A n c bs rfl (r1.keep fun p hp => World.cell?_alloc_lt w1 _ p (by have := hb.size; omega)) hz (by omega) (by simp) ?_); intro x2 w2 own2 hb2 gr2))
  have hb12 : Below w1.heap.size w1 w2 := ((Below.refl _ _).alloc (Nat.le_refl _) _).trans hb2
  have own2' : w2.ownsRow w1.heap.size 5 1 x2 n (bs.map bv) := by simpa using own2
  clear own1 own2 gr2 hb2
  refine (refLow_slice v 4 _ (by omega) (by omega) (by omega)).mono ?_
  rintro e w3 ⟨g3, cap3, rfl, r3, hb3⟩
  have own3 := own_below own2' hb3
  have hb13 : Below w1.heap.size w1 w3 := hb12.trans (hb3.mono hb12.size)
  clear own2' hb3 hb12
  go_wp2_with (first
    | (at_builtin; refine append_bytes rfl (.tmp 28) (.tmp 31) 22 5 rfl Try.underlying22 u8_info w1.heap.size x2 n bs rfl own3 _ _ 4 cap3 (lowB 4 v) rfl r3 (by simp) (by omega) hb13.size ?_; intro x4 w4 own4 hb4 gr4; have hb14 := hb13.trans hb4; have r4 := h'.below (hb.trans (hb14.mono hb.size)); clear own3 r3 gr4 hb4)
    | (at_builtin; refine append_bytes rfl (.tmp 32) (.tmp 33) 22 5 rfl Try.underlying22 u8_info w1.heap.size x4 (n + 4) (bs ++ lowB 4 v) rfl own4 _ A' m c' cs rfl r4 hz' (by omega) hb14.size ?_; intro x5 w5 own5 hb5 gr5; have hb15 := hb14.trans hb5; have r5 := h.below (hb.trans (hb15.mono hb.size)); have hb05 : Below w.heap.size w w5 := hb.trans (hb15.mono hb.size); have own51 : (w5.alloc (.cells #[] 5)).ownsRow w5.heap.size 5 1 (.slice (some ⟨w5.heap.size, 0, none⟩) 0 0) 0 (([] : List UInt8).map bv) := World.ownsRow_lit w5 _ 0 (Nat.le_refl _) (by unfold maxLen; omega) rfl; clear own4 gr5 hb5 r4)
    | (at_builtin; go_must (refine append_bytes rfl (.tmp 35) (.tmp 36) 22 5 rfl Try.underlying22 u8_info w5.heap.size (.slice (some ⟨w5.heap.size, 0, none⟩) 0 0) 0 [] rfl own51 _ A n c bs rfl (r5.keep fun p hp => World.cell?_alloc_lt w5 _ p (by have := hb05.size; omega)) hz (by omega) (by simp) ?_); intro x6 w6 own6 hb6 gr6))
  have hb56 : Below w5.heap.size w5 w6 := ((Below.refl _ _).alloc (Nat.le_refl _) _).trans hb6
  have own6' : w6.ownsRow w5.heap.size 5 1 x6 n (bs.map bv) := by simpa using own6
  clear own51 own6 gr6 hb6
  have hvy := xor_lt32 hv hy
  have hX := four_beq bs cs v y hv hy
  rw [bits_xor_u32 v y hv hy, wrap_u64_id _ (by omega)]
  generalize v ^^^ y = z at *
  have HX := Lib.hid hX
  clear hX
  refine (refLow_slice z 4 _ (by omega) (by omega) (by omega)).mono ?_
  rintro e w7 ⟨g7, cap7, rfl, r7, hb7⟩
  have own7 := own_below own6' hb7
  have hb57 : Below w5.heap.size w5 w7 := hb56.trans (hb7.mono hb56.size)
  clear own6' hb7 hb56 r5 r1 hb14 hb13
  go_wp2_with (first
    | (at_builtin; refine append_bytes rfl (.tmp 37) (.tmp 42) 22 5 rfl Try.underlying22 u8_info w5.heap.size x6 n bs rfl own7 _ _ 4 cap7 (lowB 4 z) rfl r7 (by simp) (by omega) hb57.size ?_; intro x8 w8 own8 hb8 gr8; have hb58 := hb57.trans hb8; have r8 := h'.below (hb05.trans (hb58.mono hb05.size)); clear own7 r7 gr8)
    | (at_builtin; go_must (refine append_bytes rfl (.tmp 43) (.tmp 44) 22 5 rfl Try.underlying22 u8_info w5.heap.size x8 (n + 4) (bs ++ lowB 4 z) rfl own8 _ A' m c' cs rfl r8 hz' (by omega) hb58.size ?_); intro x9 w9 own9 hb9 gr9; have hb59 := hb58.trans hb9; clear own8 gr9))
  have hb09 : Below w.heap.size w w9 := hb05.trans (hb59.mono hb05.size)
  obtain ⟨B5, cap5, rfl, _, q5⟩ := own_any (own_below own5 hb59)
  obtain ⟨B9, cap9, rfl, _, q9⟩ := own_any own9
  have q' := h'.below hb09
  clear own5 own9 hb8 hb9 hb15 hb57 hb58 hb59 r8 hb05 h h'
  have c5 := sum_any B5 (n + 4 + m) cap5 _ (bs ++ lowB 4 v ++ cs) _ q5 (by omega)
  have c9 := sum_any B9 (n + 4 + m) cap9 _ (bs ++ lowB 4 z ++ cs) _ q9 (by omega)
  have cs' := more_any A' m c' _ s cs _ q' (by omega) hs
  have ct' := more_any A' m c' _ t cs _ q' (by omega) ht
  have hX := HX.out
  have hM := more_beq cs s t hs ht
  clear HX q5 q9 q'
  generalize moreN 0 (bs ++ lowB 4 v ++ cs) = S1 at *
  generalize moreN 0 (bs ++ lowB 4 z ++ cs) = S2 at *
  generalize moreN s cs = S3 at *
  generalize moreN t cs = S4 at *
  have C9 := Lib.hid c9
  have CS := Lib.hid cs'
  have CT := Lib.hid ct'
  clear c9 cs' ct'
  refine c5.mono ?_
  rintro e w10 ⟨rfl, rfl⟩
  clear c5
  go_wp2_with fail
  refine C9.out.mono ?_
  rintro e w10 ⟨rfl, rfl⟩
  clear C9
  go_wp2_with fail
  refine CS.out.mono ?_
  rintro e w10 ⟨rfl, rfl⟩
  clear CS
  go_wp2_with fail
  refine CT.out.mono ?_
  rintro e w10 ⟨rfl, rfl⟩
  clear CT
  go_wp2
  go_ret
  exact ⟨rfl, hb09⟩
end Go.Proofs.Ytobnodfkeelhgaa
