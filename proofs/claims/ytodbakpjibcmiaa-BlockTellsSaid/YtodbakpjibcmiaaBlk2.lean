/- The contract of the program's Get: the block at an offset, all ways. -/
import Derived.Test.YtodbakpjibcmiaaBlk1
namespace Go.Proofs.Ytodbakpjibcmiaa
open Go.RowKit

section
variable {w : World} {g base cap c : Nat} {A : Option Addr} {bs : List UInt8}
set_option maxHeartbeats 1000000 in
theorem get_1 (h : Ar w 73 g base cap A c bs) (o : Int) (ho : -9223372036854775808 ≤ o ∧ o ≤ 9223372036854775807) (hc : plc o = false) :
    Calls Try.prog 8 #[.pointer (some ⟨g, 0, none⟩), .int .i64 o] w fun e w' => e = .returned (.tuple #[bkV none, errV false 3]) ∧ Below w.heap.size w w' := by
  obtain ⟨w1, hw1⟩ : ∃ w1, w.alloc (.cells #[.int .i64 0, .int .i64 0, .bool false] 25) = w1 := ⟨_, rfl⟩
  have hb1 : Below w.heap.size w w1 := by rw [← hw1]; exact (Below.refl _ _).alloc (Nat.le_refl _) _
  have hn1 : w1.heap[w.heap.size]? = some (.cells #[.int .i64 0, .int .i64 0, .bool false] 25 (0, 0)) := by rw [← hw1]; exact heap_alloc_new w _
  have h1 := h.below hb1
  have HC := Lib.hid (isplace_any w1 o ho false hc)
  have HW1 := Lib.hid hw1
  have HB1 := Lib.hid hb1
  have HN1 := Lib.hid hn1
  clear hc hw1 hb1 hn1 h1 h
  go_enter Try.func8, Try.ntmps8
  go_wp2_with fail
  rw [HW1.out]
  with_reducible refine HC.out.mono ?_
  rintro e w2 ⟨rfl, rfl⟩
  obtain ⟨⟨c0, c1, c2⟩, f0, f1, f2⟩ := blk_cells HN1.out
  go_wp2
  (try simp only [Exit.inBlock, Exit.then])
  refine blk_ret (x := errV false 3) Try.results8 ?_ ?_ ?_ (blk_set HN1.out _ _ _) ?_
  · rfl
  · rfl
  · rfl
  · exact ⟨rfl, ((HB1.out.setCell (Nat.le_refl _) _).setCell (Nat.le_refl _) _).setCell (Nat.le_refl _) _⟩

set_option maxHeartbeats 1000000 in
theorem get_2 (h : Ar w 73 g base cap A c bs) (hb : base ≤ 4611686018427387904) (hl : bs.length ≤ 16384) (o : Int) (ho : -9223372036854775808 ≤ o ∧ o ≤ 9223372036854775807) (hc : plc o = true) (hv : word? bs o = none) :
    Calls Try.prog 8 #[.pointer (some ⟨g, 0, none⟩), .int .i64 o] w fun e w' => e = .returned (.tuple #[bkV none, errV false 3]) ∧ Below w.heap.size w w' := by
  obtain ⟨w1, hw1⟩ : ∃ w1, w.alloc (.cells #[.int .i64 0, .int .i64 0, .bool false] 25) = w1 := ⟨_, rfl⟩
  have hb1 : Below w.heap.size w w1 := by rw [← hw1]; exact (Below.refl _ _).alloc (Nat.le_refl _) _
  have hn1 : w1.heap[w.heap.size]? = some (.cells #[.int .i64 0, .int .i64 0, .bool false] 25 (0, 0)) := by rw [← hw1]; exact heap_alloc_new w _
  have h1 := h.below hb1
  have HC := Lib.hid (isplace_any w1 o ho true hc)
  have HA := Lib.hid (address_any h1 o)
  have hwd := word_at h1 hb hl o (by omega) _ hv
  dsimp only [wdV] at hwd
  have HW := Lib.hid hwd
  have HW1 := Lib.hid hw1
  have HB1 := Lib.hid hb1
  have HN1 := Lib.hid hn1
  clear hc hv hwd hw1 hb1 hn1 h1 h
  go_enter Try.func8, Try.ntmps8
  go_wp2_with fail
  rw [HW1.out]
  with_reducible refine HC.out.mono ?_
  rintro e w2 ⟨rfl, rfl⟩
  go_wp2_with fail
  with_reducible refine HA.out.mono ?_
  rintro e w2 ⟨rfl, rfl⟩
  go_wp2_with fail
  with_reducible refine HW.out.mono ?_
  rintro e w2 ⟨rfl, rfl⟩
  obtain ⟨⟨c0, c1, c2⟩, f0, f1, f2⟩ := blk_cells HN1.out
  go_wp2
  (try simp only [Exit.inBlock, Exit.then])
  refine blk_ret (x := errV false 3) Try.results8 ?_ ?_ ?_ (blk_set HN1.out _ _ _) ?_
  · rfl
  · rfl
  · rfl
  · exact ⟨rfl, ((HB1.out.setCell (Nat.le_refl _) _).setCell (Nat.le_refl _) _).setCell (Nat.le_refl _) _⟩

set_option maxHeartbeats 1000000 in
theorem get_3 (h : Ar w 73 g base cap A c bs) (hb : base ≤ 4611686018427387904) (hl : bs.length ≤ 16384) (o : Int) (ho : -9223372036854775808 ≤ o ∧ o ≤ 9223372036854775807) (hc : plc o = true) (v : Nat) (hvl : v < 18446744073709551616) (hv : word? bs o = some v) (hu : unpN v = none) :
    Calls Try.prog 8 #[.pointer (some ⟨g, 0, none⟩), .int .i64 o] w fun e w' => e = .returned (.tuple #[bkV none, errV false 3]) ∧ Below w.heap.size w w' := by
  obtain ⟨w1, hw1⟩ : ∃ w1, w.alloc (.cells #[.int .i64 0, .int .i64 0, .bool false] 25) = w1 := ⟨_, rfl⟩
  have hb1 : Below w.heap.size w w1 := by rw [← hw1]; exact (Below.refl _ _).alloc (Nat.le_refl _) _
  have hn1 : w1.heap[w.heap.size]? = some (.cells #[.int .i64 0, .int .i64 0, .bool false] 25 (0, 0)) := by rw [← hw1]; exact heap_alloc_new w _
  have h1 := h.below hb1
  have HC := Lib.hid (isplace_any w1 o ho true hc)
  have HA := Lib.hid (address_any h1 o)
  have hwd := word_at h1 hb hl o (by omega) _ hv
  dsimp only [wdV] at hwd
  have HW := Lib.hid hwd
  have hup := tunpack_any w1 v hvl
  rw [hu] at hup
  dsimp only [unpV] at hup
  have HU := Lib.hid hup
  have HW1 := Lib.hid hw1
  have HB1 := Lib.hid hb1
  have HN1 := Lib.hid hn1
  clear hc hv hwd hu hup hw1 hb1 hn1 h1 h
  go_enter Try.func8, Try.ntmps8
  go_wp2_with fail
  rw [HW1.out]
  with_reducible refine HC.out.mono ?_
  rintro e w2 ⟨rfl, rfl⟩
  go_wp2_with fail
  with_reducible refine HA.out.mono ?_
  rintro e w2 ⟨rfl, rfl⟩
  go_wp2_with fail
  with_reducible refine HW.out.mono ?_
  rintro e w2 ⟨rfl, rfl⟩
  go_wp2_with fail
  with_reducible refine HU.out.mono ?_
  rintro e w2 ⟨rfl, rfl⟩
  obtain ⟨⟨c0, c1, c2⟩, f0, f1, f2⟩ := blk_cells HN1.out
  go_wp2
  (try simp only [Exit.inBlock, Exit.then])
  refine blk_ret (x := errV false 3) Try.results8 ?_ ?_ ?_ (blk_set HN1.out _ _ _) ?_
  · rfl
  · rfl
  · rfl
  · exact ⟨rfl, ((HB1.out.setCell (Nat.le_refl _) _).setCell (Nat.le_refl _) _).setCell (Nat.le_refl _) _⟩

set_option maxHeartbeats 1000000 in
theorem get_4 (h : Ar w 73 g base cap A c bs) (hb : base ≤ 4611686018427387904) (hl : bs.length ≤ 16384) (o : Int) (ho : -9223372036854775808 ≤ o ∧ o ≤ 9223372036854775807) (hc : plc o = true) (v : Nat) (hvl : v < 18446744073709551616) (hv : word? bs o = some v) (s : Nat) (u : Bool) (hu : unpN v = some (s, u)) (hs : 32 ≤ s ∧ s ≤ 16384) (hob : 0 ≤ o ∧ o ≤ 16384) (hv2 : word? bs (o + (s : Int) - 8) = none) :
    Calls Try.prog 8 #[.pointer (some ⟨g, 0, none⟩), .int .i64 o] w fun e w' => e = .returned (.tuple #[bkV none, errV false 3]) ∧ Below w.heap.size w w' := by
  obtain ⟨w1, hw1⟩ : ∃ w1, w.alloc (.cells #[.int .i64 0, .int .i64 0, .bool false] 25) = w1 := ⟨_, rfl⟩
  have hb1 : Below w.heap.size w w1 := by rw [← hw1]; exact (Below.refl _ _).alloc (Nat.le_refl _) _
  have hn1 : w1.heap[w.heap.size]? = some (.cells #[.int .i64 0, .int .i64 0, .bool false] 25 (0, 0)) := by rw [← hw1]; exact heap_alloc_new w _
  have h1 := h.below hb1
  have HC := Lib.hid (isplace_any w1 o ho true hc)
  have HA := Lib.hid (address_any h1 o)
  have hwd := word_at h1 hb hl o (by omega) _ hv
  dsimp only [wdV] at hwd
  have HW := Lib.hid hwd
  have hup := tunpack_any w1 v hvl
  rw [hu] at hup
  dsimp only [unpV] at hup
  have HU := Lib.hid hup
  have HA2 := Lib.hid (address_any h1 (o + (s : Int) - 8))
  have hwd2 := word_at h1 hb hl (o + (s : Int) - 8) (by omega) _ hv2
  dsimp only [wdV] at hwd2
  have HW2 := Lib.hid hwd2
  have HW1 := Lib.hid hw1
  have HB1 := Lib.hid hb1
  have HN1 := Lib.hid hn1
  clear hc hv hwd hu hup hv2 hwd2 hw1 hb1 hn1 h1 h
  go_enter Try.func8, Try.ntmps8
  go_wp2_with fail
  rw [HW1.out]
  with_reducible refine HC.out.mono ?_
  rintro e w2 ⟨rfl, rfl⟩
  go_wp2_with fail
  with_reducible refine HA.out.mono ?_
  rintro e w2 ⟨rfl, rfl⟩
  go_wp2_with fail
  with_reducible refine HW.out.mono ?_
  rintro e w2 ⟨rfl, rfl⟩
  go_wp2_with fail
  with_reducible refine HU.out.mono ?_
  rintro e w2 ⟨rfl, rfl⟩
  go_wp2_with fail
  with_reducible refine HA2.out.mono ?_
  rintro e w2 ⟨rfl, rfl⟩
  go_wp2_with fail
  with_reducible refine HW2.out.mono ?_
  rintro e w2 ⟨rfl, rfl⟩
  obtain ⟨⟨c0, c1, c2⟩, f0, f1, f2⟩ := blk_cells HN1.out
  go_wp2
  (try simp only [Exit.inBlock, Exit.then])
  refine blk_ret (x := errV false 3) Try.results8 ?_ ?_ ?_ (blk_set HN1.out _ _ _) ?_
  · rfl
  · rfl
  · rfl
  · exact ⟨rfl, ((HB1.out.setCell (Nat.le_refl _) _).setCell (Nat.le_refl _) _).setCell (Nat.le_refl _) _⟩

set_option maxHeartbeats 1000000 in
theorem get_5 (h : Ar w 73 g base cap A c bs) (hb : base ≤ 4611686018427387904) (hl : bs.length ≤ 16384) (o : Int) (ho : -9223372036854775808 ≤ o ∧ o ≤ 9223372036854775807) (hc : plc o = true) (v : Nat) (hvl : v < 18446744073709551616) (hv : word? bs o = some v) (s : Nat) (u : Bool) (hu : unpN v = some (s, u)) (hs : 32 ≤ s ∧ s ≤ 16384) (hob : 0 ≤ o ∧ o ≤ 16384) (v2 : Nat) (hv2 : word? bs (o + (s : Int) - 8) = some v2) (hne : v2 ≠ v) :
    Calls Try.prog 8 #[.pointer (some ⟨g, 0, none⟩), .int .i64 o] w fun e w' => e = .returned (.tuple #[bkV none, errV false 3]) ∧ Below w.heap.size w w' := by
  obtain ⟨w1, hw1⟩ : ∃ w1, w.alloc (.cells #[.int .i64 0, .int .i64 0, .bool false] 25) = w1 := ⟨_, rfl⟩
  have hb1 : Below w.heap.size w w1 := by rw [← hw1]; exact (Below.refl _ _).alloc (Nat.le_refl _) _
  have hn1 : w1.heap[w.heap.size]? = some (.cells #[.int .i64 0, .int .i64 0, .bool false] 25 (0, 0)) := by rw [← hw1]; exact heap_alloc_new w _
  have h1 := h.below hb1
  have HC := Lib.hid (isplace_any w1 o ho true hc)
  have HA := Lib.hid (address_any h1 o)
  have hwd := word_at h1 hb hl o (by omega) _ hv
  dsimp only [wdV] at hwd
  have HW := Lib.hid hwd
  have hup := tunpack_any w1 v hvl
  rw [hu] at hup
  dsimp only [unpV] at hup
  have HU := Lib.hid hup
  have HA2 := Lib.hid (address_any h1 (o + (s : Int) - 8))
  have hwd2 := word_at h1 hb hl (o + (s : Int) - 8) (by omega) _ hv2
  dsimp only [wdV] at hwd2
  have HW2 := Lib.hid hwd2
  have hq : ((v2 : Int) != (v : Int)) = true := by rw [bne_iff_ne]; omega
  have HW1 := Lib.hid hw1
  have HB1 := Lib.hid hb1
  have HN1 := Lib.hid hn1
  clear hc hv hwd hu hup hv2 hwd2 hne hw1 hb1 hn1 h1 h
  go_enter Try.func8, Try.ntmps8
  go_wp2_with fail
  rw [HW1.out]
  with_reducible refine HC.out.mono ?_
  rintro e w2 ⟨rfl, rfl⟩
  go_wp2_with fail
  with_reducible refine HA.out.mono ?_
  rintro e w2 ⟨rfl, rfl⟩
  go_wp2_with fail
  with_reducible refine HW.out.mono ?_
  rintro e w2 ⟨rfl, rfl⟩
  go_wp2_with fail
  with_reducible refine HU.out.mono ?_
  rintro e w2 ⟨rfl, rfl⟩
  go_wp2_with fail
  with_reducible refine HA2.out.mono ?_
  rintro e w2 ⟨rfl, rfl⟩
  go_wp2_with fail
  with_reducible refine HW2.out.mono ?_
  rintro e w2 ⟨rfl, rfl⟩
  obtain ⟨⟨c0, c1, c2⟩, f0, f1, f2⟩ := blk_cells HN1.out
  go_wp2
  (try simp only [Exit.inBlock, Exit.then])
  refine blk_ret (x := errV false 3) Try.results8 ?_ ?_ ?_ (blk_set HN1.out _ _ _) ?_
  · rfl
  · rfl
  · rfl
  · exact ⟨rfl, ((HB1.out.setCell (Nat.le_refl _) _).setCell (Nat.le_refl _) _).setCell (Nat.le_refl _) _⟩

set_option maxHeartbeats 1000000 in
theorem get_6 (h : Ar w 73 g base cap A c bs) (hb : base ≤ 4611686018427387904) (hl : bs.length ≤ 16384) (o : Nat) (ho : -9223372036854775808 ≤ (o : Int) ∧ (o : Int) ≤ 9223372036854775807) (hc : plc (o : Int) = true) (v : Nat) (hvl : v < 18446744073709551616) (hv : word? bs (o : Int) = some v) (s : Nat) (u : Bool) (hu : unpN v = some (s, u)) (hs : 32 ≤ s ∧ s ≤ 16384) (hob : 0 ≤ (o : Int) ∧ (o : Int) ≤ 16384) (hv2 : word? bs ((o : Int) + (s : Int) - 8) = some v) :
    Calls Try.prog 8 #[.pointer (some ⟨g, 0, none⟩), .int .i64 (o : Int)] w fun e w' => e = .returned (.tuple #[bkV (some ⟨o, s, u⟩), errV true 3]) ∧ Below w.heap.size w w' := by
  obtain ⟨w1, hw1⟩ : ∃ w1, w.alloc (.cells #[.int .i64 0, .int .i64 0, .bool false] 25) = w1 := ⟨_, rfl⟩
  have hb1 : Below w.heap.size w w1 := by rw [← hw1]; exact (Below.refl _ _).alloc (Nat.le_refl _) _
  have hn1 : w1.heap[w.heap.size]? = some (.cells #[.int .i64 0, .int .i64 0, .bool false] 25 (0, 0)) := by rw [← hw1]; exact heap_alloc_new w _
  have h1 := h.below hb1
  have HC := Lib.hid (isplace_any w1 (o : Int) ho true hc)
  have HA := Lib.hid (address_any h1 (o : Int))
  have hwd := word_at h1 hb hl (o : Int) (by omega) _ hv
  dsimp only [wdV] at hwd
  have HW := Lib.hid hwd
  have hup := tunpack_any w1 v hvl
  rw [hu] at hup
  dsimp only [unpV] at hup
  have HU := Lib.hid hup
  have HA2 := Lib.hid (address_any h1 ((o : Int) + (s : Int) - 8))
  have hwd2 := word_at h1 hb hl ((o : Int) + (s : Int) - 8) (by omega) _ hv2
  dsimp only [wdV] at hwd2
  have HW2 := Lib.hid hwd2
  have HW1 := Lib.hid hw1
  have HB1 := Lib.hid hb1
  have HN1 := Lib.hid hn1
  clear hc hv hwd hu hup hv2 hwd2 hw1 hb1 hn1 h1 h
  go_enter Try.func8, Try.ntmps8
  go_wp2_with fail
  rw [HW1.out]
  with_reducible refine HC.out.mono ?_
  rintro e w2 ⟨rfl, rfl⟩
  go_wp2_with fail
  with_reducible refine HA.out.mono ?_
  rintro e w2 ⟨rfl, rfl⟩
  go_wp2_with fail
  with_reducible refine HW.out.mono ?_
  rintro e w2 ⟨rfl, rfl⟩
  go_wp2_with fail
  with_reducible refine HU.out.mono ?_
  rintro e w2 ⟨rfl, rfl⟩
  go_wp2_with fail
  with_reducible refine HA2.out.mono ?_
  rintro e w2 ⟨rfl, rfl⟩
  go_wp2_with fail
  with_reducible refine HW2.out.mono ?_
  rintro e w2 ⟨rfl, rfl⟩
  obtain ⟨⟨c0, c1, c2⟩, f0, f1, f2⟩ := blk_cells HN1.out
  go_wp2
  (try simp only [Exit.inBlock, Exit.then])
  refine blk_ret (x := errV true 3) Try.results8 ?_ ?_ ?_ (blk_set HN1.out _ _ _) ?_
  · rfl
  · rfl
  · rfl
  · exact ⟨rfl, ((HB1.out.setCell (Nat.le_refl _) _).setCell (Nat.le_refl _) _).setCell (Nat.le_refl _) _⟩

end
theorem getC : GetC := by
  intro w g base cap c A bs o x h hb hl ho hx
  subst hx
  unfold BlkTold
  cases hc : plc o with
  | false =>
    have e : getB bs o = none := by
      unfold getB
      rw [if_pos]
      rw [Bool.eq_false_iff]
      intro h2
      have := (could_iff _ _ _).1 h2
      rw [(plc_iff o).2 (by omega)] at hc
      cases hc
    rw [e]
    exact get_1 h o ho hc
  | true =>
    have hp := (plc_iff o).1 hc
    obtain ⟨p, rfl⟩ : ∃ p : Nat, o = (p : Int) := ⟨o.toNat, by omega⟩
    by_cases h8 : p + 8 ≤ bs.length
    · have hcd : could bs.length (p : Int) 8 = true := (could_iff _ _ _).2 (by omega)
      have hv : word? bs (p : Int) = some (wordN bs p) := by unfold word?; rw [if_pos (by omega)]; rfl
      cases hu : unpN (wordN bs p) with
      | none =>
        have e : getB bs (p : Int) = none := by unfold getB; rw [if_neg (by rw [hcd]; simp), Int.toNat_natCast, hu]
        rw [e]
        exact get_3 h hb hl (p : Int) ho hc _ (wordN_lt _ _) hv hu
      | some su =>
        obtain ⟨s, u⟩ := su
        have hss := (isSz_iff _).1 (unpN_some hu).1
        cases hc2 : could bs.length (p : Int) (s : Int) with
        | false =>
          have e : getB bs (p : Int) = none := by unfold getB; rw [if_neg (by rw [hcd]; simp), Int.toNat_natCast, hu]; dsimp only; rw [if_pos hc2]
          rw [e]
          refine get_4 h hb hl (p : Int) ho hc _ (wordN_lt _ _) hv s u hu (by omega) (by omega) ?_
          unfold word?
          rw [if_neg]
          intro h2
          rw [(could_iff _ _ _).2 (by omega)] at hc2
          cases hc2
        | true =>
          have hb2 := (could_iff _ _ _).1 hc2
          have hv2 : word? bs ((p : Int) + (s : Int) - 8) = some (wordN bs (p + s - 8)) := by
            unfold word?
            rw [if_pos (by omega), show ((p : Int) + (s : Int) - 8).toNat = p + s - 8 by omega]
          by_cases hw : wordN bs (p + s - 8) = wordN bs p
          · have e : getB bs (p : Int) = some ⟨p, s, u⟩ := by unfold getB; rw [if_neg (by rw [hcd]; simp), Int.toNat_natCast, hu]; dsimp only; rw [if_neg (by rw [hc2]; simp), if_pos hw]
            rw [e]
            rw [hw] at hv2
            exact get_6 h hb hl p ho hc _ (wordN_lt _ _) hv s u hu (by omega) (by omega) hv2
          · have e : getB bs (p : Int) = none := by unfold getB; rw [if_neg (by rw [hcd]; simp), Int.toNat_natCast, hu]; dsimp only; rw [if_neg (by rw [hc2]; simp), if_neg hw]
            rw [e]
            exact get_5 h hb hl (p : Int) ho hc _ (wordN_lt _ _) hv s u hu (by omega) (by omega) _ hv2 hw
    · have e : getB bs (p : Int) = none := by
        unfold getB
        rw [if_pos]
        rw [Bool.eq_false_iff]
        intro h2
        have := (could_iff _ _ _).1 h2
        omega
      rw [e]
      exact get_2 h hb hl (p : Int) ho hc (by unfold word?; rw [if_neg (by omega)])
end Go.Proofs.Ytodbakpjibcmiaa
