/- The contracts of the document's own blocks: Get, all ways. -/
import Derived.Test.YtodbakpjibcmiaaRef7a
namespace Go.Proofs.Ytodbakpjibcmiaa
open Go.RowKit

section
variable (w : World)

set_option maxHeartbeats 1000000 in
theorem rgetB_1 (A : Option Addr) (c : Nat) (bs : List UInt8) (hl : bs.length ≤ 1000000) (o : Int) (ho : -9223372036854775808 ≤ o ∧ o ≤ 9223372036854775807) (hc : could bs.length o 8 = false) :
    Calls Try.prog 9 #[.slice A bs.length c, .int .i64 o] w fun e w' => e = .returned (.tuple #[bkV none, .bool false]) ∧ Below w.heap.size w w' := by
  obtain ⟨w1, hw1⟩ : ∃ w1, w.alloc (.cells #[.int .i64 0, .int .i64 0, .bool false] 25) = w1 := ⟨_, rfl⟩
  have hb1 : Below w.heap.size w w1 := by rw [← hw1]; exact (Below.refl _ _).alloc (Nat.le_refl _) _
  have hn1 : w1.heap[w.heap.size]? = some (.cells #[.int .i64 0, .int .i64 0, .bool false] 25 (0, 0)) := by rw [← hw1]; exact heap_alloc_new w _
  have HC := Lib.hid (rcould_any w1 A bs.length c hl o 8 ho false hc)
  have HW1 := Lib.hid hw1
  have HB1 := Lib.hid hb1
  have HN1 := Lib.hid hn1
  clear hc hw1 hb1 hn1
  go_enter Try.func9, Try.ntmps9
  go_wp2_with fail
  rw [HW1.out]
  with_reducible refine HC.out.mono ?_
  rintro e w2 ⟨rfl, rfl⟩
  obtain ⟨⟨c0, c1, c2⟩, f0, f1, f2⟩ := blk_cells HN1.out
  go_wp2
  (try simp only [Exit.inBlock, Exit.then])
  refine blk_ret (x := .bool false) Try.results9 ?_ ?_ ?_ (blk_set HN1.out _ _ _) ?_
  · rfl
  · rfl
  · rfl
  · exact ⟨rfl, ((HB1.out.setCell (Nat.le_refl _) _).setCell (Nat.le_refl _) _).setCell (Nat.le_refl _) _⟩

set_option maxHeartbeats 1000000 in
theorem rgetB_2 (A : Option Addr) (c B : Nat) (bs : List UInt8) (hr : Rd w B A bs.length bs) (hlc : bs.length ≤ c) (hl : bs.length ≤ 1000000) (o : Nat) (v : Nat) (hc : could bs.length o 8 = true) (hv : wordN bs o = v) (hu : unpN v = none) :
    Calls Try.prog 9 #[.slice A bs.length c, .int .i64 (o : Int)] w fun e w' => e = .returned (.tuple #[bkV none, .bool false]) ∧ Below w.heap.size w w' := by
  have hb := (could_iff _ _ _).1 hc
  obtain ⟨w1, hw1⟩ : ∃ w1, w.alloc (.cells #[.int .i64 0, .int .i64 0, .bool false] 25) = w1 := ⟨_, rfl⟩
  have hb1 : Below w.heap.size w w1 := by rw [← hw1]; exact (Below.refl _ _).alloc (Nat.le_refl _) _
  have hn1 : w1.heap[w.heap.size]? = some (.cells #[.int .i64 0, .int .i64 0, .bool false] 25 (0, 0)) := by rw [← hw1]; exact heap_alloc_new w _
  have HC := Lib.hid (rcould_any w1 A bs.length c hl (o : Int) 8 (by omega) true hc)
  have hr1 : Rd w1 B A bs.length bs := by rw [← hw1]; exact hr.alloc' _
  have hw := rword_any w1 A c B bs hr1 hlc hl (o : Int) (by omega)
  have e : word? bs (o : Int) = some v := by unfold word?; rw [if_pos (by omega), Int.toNat_natCast, hv]
  rw [e] at hw
  have hup := runpack_any w1 v (by rw [← hv]; exact wordN_lt _ _)
  rw [hu] at hup
  dsimp only [wordV] at hw
  dsimp only [unpV] at hup
  have HW := Lib.hid hw
  have HU := Lib.hid hup
  have HW1 := Lib.hid hw1
  have HB1 := Lib.hid hb1
  have HN1 := Lib.hid hn1
  clear hc hv hu hr hr1 hw e hup hw1 hb1 hn1
  go_enter Try.func9, Try.ntmps9
  go_wp2_with fail
  rw [HW1.out]
  with_reducible refine HC.out.mono ?_
  rintro e w2 ⟨rfl, rfl⟩
  go_wp2_with fail
  with_reducible refine HW.out.mono ?_
  rintro e w2 ⟨rfl, rfl⟩
  go_wp2_with fail
  with_reducible refine HU.out.mono ?_
  rintro e w2 ⟨rfl, rfl⟩
  obtain ⟨⟨c0, c1, c2⟩, f0, f1, f2⟩ := blk_cells HN1.out
  go_wp2
  (try simp only [Exit.inBlock, Exit.then])
  refine blk_ret (x := .bool false) Try.results9 ?_ ?_ ?_ (blk_set HN1.out _ _ _) ?_
  · rfl
  · rfl
  · rfl
  · exact ⟨rfl, ((HB1.out.setCell (Nat.le_refl _) _).setCell (Nat.le_refl _) _).setCell (Nat.le_refl _) _⟩

set_option maxHeartbeats 1000000 in
theorem rgetB_3 (A : Option Addr) (c B : Nat) (bs : List UInt8) (hr : Rd w B A bs.length bs) (hlc : bs.length ≤ c) (hl : bs.length ≤ 1000000) (o : Nat) (v : Nat) (s : Nat) (u : Bool) (hc : could bs.length o 8 = true) (hv : wordN bs o = v) (hu : unpN v = some (s, u)) (hc2 : could bs.length o s = false) :
    Calls Try.prog 9 #[.slice A bs.length c, .int .i64 (o : Int)] w fun e w' => e = .returned (.tuple #[bkV none, .bool false]) ∧ Below w.heap.size w w' := by
  have hb := (could_iff _ _ _).1 hc
  have hss := (isSz_iff _).1 (unpN_some hu).1
  obtain ⟨w1, hw1⟩ : ∃ w1, w.alloc (.cells #[.int .i64 0, .int .i64 0, .bool false] 25) = w1 := ⟨_, rfl⟩
  have hb1 : Below w.heap.size w w1 := by rw [← hw1]; exact (Below.refl _ _).alloc (Nat.le_refl _) _
  have hn1 : w1.heap[w.heap.size]? = some (.cells #[.int .i64 0, .int .i64 0, .bool false] 25 (0, 0)) := by rw [← hw1]; exact heap_alloc_new w _
  have HC := Lib.hid (rcould_any w1 A bs.length c hl (o : Int) 8 (by omega) true hc)
  have hr1 : Rd w1 B A bs.length bs := by rw [← hw1]; exact hr.alloc' _
  have hw := rword_any w1 A c B bs hr1 hlc hl (o : Int) (by omega)
  have e : word? bs (o : Int) = some v := by unfold word?; rw [if_pos (by omega), Int.toNat_natCast, hv]
  rw [e] at hw
  have hup := runpack_any w1 v (by rw [← hv]; exact wordN_lt _ _)
  rw [hu] at hup
  dsimp only [wordV] at hw
  dsimp only [unpV] at hup
  have HW := Lib.hid hw
  have HU := Lib.hid hup
  have HC2 := Lib.hid (rcould_any w1 A bs.length c hl (o : Int) (s : Int) (by omega) false hc2)
  have HW1 := Lib.hid hw1
  have HB1 := Lib.hid hb1
  have HN1 := Lib.hid hn1
  clear hc hv hu hc2 hr hr1 hw e hup hw1 hb1 hn1
  go_enter Try.func9, Try.ntmps9
  go_wp2_with fail
  rw [HW1.out]
  with_reducible refine HC.out.mono ?_
  rintro e w2 ⟨rfl, rfl⟩
  go_wp2_with fail
  with_reducible refine HW.out.mono ?_
  rintro e w2 ⟨rfl, rfl⟩
  go_wp2_with fail
  with_reducible refine HU.out.mono ?_
  rintro e w2 ⟨rfl, rfl⟩
  go_wp2_with fail
  with_reducible refine HC2.out.mono ?_
  rintro e w2 ⟨rfl, rfl⟩
  obtain ⟨⟨c0, c1, c2⟩, f0, f1, f2⟩ := blk_cells HN1.out
  go_wp2
  (try simp only [Exit.inBlock, Exit.then])
  refine blk_ret (x := .bool false) Try.results9 ?_ ?_ ?_ (blk_set HN1.out _ _ _) ?_
  · rfl
  · rfl
  · rfl
  · exact ⟨rfl, ((HB1.out.setCell (Nat.le_refl _) _).setCell (Nat.le_refl _) _).setCell (Nat.le_refl _) _⟩

set_option maxHeartbeats 1000000 in
theorem rgetB_4 (A : Option Addr) (c B : Nat) (bs : List UInt8) (hr : Rd w B A bs.length bs) (hlc : bs.length ≤ c) (hl : bs.length ≤ 1000000) (o : Nat) (v : Nat) (s : Nat) (u : Bool) (hc : could bs.length o 8 = true) (hv : wordN bs o = v) (hu : unpN v = some (s, u)) (hc2 : could bs.length o s = true) (v2 : Nat) (hv2 : wordN bs (o + s - 8) = v2) (hne : v2 ≠ v) :
    Calls Try.prog 9 #[.slice A bs.length c, .int .i64 (o : Int)] w fun e w' => e = .returned (.tuple #[bkV none, .bool false]) ∧ Below w.heap.size w w' := by
  have hb := (could_iff _ _ _).1 hc
  have hb2 := (could_iff _ _ _).1 hc2
  have hss := (isSz_iff _).1 (unpN_some hu).1
  obtain ⟨w1, hw1⟩ : ∃ w1, w.alloc (.cells #[.int .i64 0, .int .i64 0, .bool false] 25) = w1 := ⟨_, rfl⟩
  have hb1 : Below w.heap.size w w1 := by rw [← hw1]; exact (Below.refl _ _).alloc (Nat.le_refl _) _
  have hn1 : w1.heap[w.heap.size]? = some (.cells #[.int .i64 0, .int .i64 0, .bool false] 25 (0, 0)) := by rw [← hw1]; exact heap_alloc_new w _
  have HC := Lib.hid (rcould_any w1 A bs.length c hl (o : Int) 8 (by omega) true hc)
  have hr1 : Rd w1 B A bs.length bs := by rw [← hw1]; exact hr.alloc' _
  have hw := rword_any w1 A c B bs hr1 hlc hl (o : Int) (by omega)
  have e : word? bs (o : Int) = some v := by unfold word?; rw [if_pos (by omega), Int.toNat_natCast, hv]
  rw [e] at hw
  have hup := runpack_any w1 v (by rw [← hv]; exact wordN_lt _ _)
  rw [hu] at hup
  dsimp only [wordV] at hw
  dsimp only [unpV] at hup
  have HW := Lib.hid hw
  have HU := Lib.hid hup
  have HC2 := Lib.hid (rcould_any w1 A bs.length c hl (o : Int) (s : Int) (by omega) true hc2)
  have hwb := rword_any w1 A c B bs hr1 hlc hl ((o : Int) + (s : Int) - 8) (by omega)
  have e2 : word? bs ((o : Int) + (s : Int) - 8) = some v2 := by
    unfold word?
    rw [if_pos (by omega), show ((o : Int) + (s : Int) - 8).toNat = o + s - 8 by omega, hv2]
  rw [e2] at hwb
  dsimp only [wordV] at hwb
  have HWB := Lib.hid hwb
  have hq : ((v2 : Int) != (v : Int)) = true := by rw [bne_iff_ne]; omega
  have HW1 := Lib.hid hw1
  have HB1 := Lib.hid hb1
  have HN1 := Lib.hid hn1
  clear hc hv hu hc2 hv2 hne hr hr1 hw e hup hwb e2 hw1 hb1 hn1
  go_enter Try.func9, Try.ntmps9
  go_wp2_with fail
  rw [HW1.out]
  with_reducible refine HC.out.mono ?_
  rintro e w2 ⟨rfl, rfl⟩
  go_wp2_with fail
  with_reducible refine HW.out.mono ?_
  rintro e w2 ⟨rfl, rfl⟩
  go_wp2_with fail
  with_reducible refine HU.out.mono ?_
  rintro e w2 ⟨rfl, rfl⟩
  go_wp2_with fail
  with_reducible refine HC2.out.mono ?_
  rintro e w2 ⟨rfl, rfl⟩
  go_wp2_with fail
  with_reducible refine HWB.out.mono ?_
  rintro e w2 ⟨rfl, rfl⟩
  obtain ⟨⟨c0, c1, c2⟩, f0, f1, f2⟩ := blk_cells HN1.out
  go_wp2
  (try simp only [Exit.inBlock, Exit.then])
  refine blk_ret (x := .bool false) Try.results9 ?_ ?_ ?_ (blk_set HN1.out _ _ _) ?_
  · rfl
  · rfl
  · rfl
  · exact ⟨rfl, ((HB1.out.setCell (Nat.le_refl _) _).setCell (Nat.le_refl _) _).setCell (Nat.le_refl _) _⟩

set_option maxHeartbeats 1000000 in
theorem rgetB_5 (A : Option Addr) (c B : Nat) (bs : List UInt8) (hr : Rd w B A bs.length bs) (hlc : bs.length ≤ c) (hl : bs.length ≤ 1000000) (o : Nat) (v : Nat) (s : Nat) (u : Bool) (hc : could bs.length o 8 = true) (hv : wordN bs o = v) (hu : unpN v = some (s, u)) (hc2 : could bs.length o s = true) (hv2 : wordN bs (o + s - 8) = v) :
    Calls Try.prog 9 #[.slice A bs.length c, .int .i64 (o : Int)] w fun e w' => e = .returned (.tuple #[bkV (some ⟨o, s, u⟩), .bool true]) ∧ Below w.heap.size w w' := by
  have hb := (could_iff _ _ _).1 hc
  have hb2 := (could_iff _ _ _).1 hc2
  have hss := (isSz_iff _).1 (unpN_some hu).1
  obtain ⟨w1, hw1⟩ : ∃ w1, w.alloc (.cells #[.int .i64 0, .int .i64 0, .bool false] 25) = w1 := ⟨_, rfl⟩
  have hb1 : Below w.heap.size w w1 := by rw [← hw1]; exact (Below.refl _ _).alloc (Nat.le_refl _) _
  have hn1 : w1.heap[w.heap.size]? = some (.cells #[.int .i64 0, .int .i64 0, .bool false] 25 (0, 0)) := by rw [← hw1]; exact heap_alloc_new w _
  have HC := Lib.hid (rcould_any w1 A bs.length c hl (o : Int) 8 (by omega) true hc)
  have hr1 : Rd w1 B A bs.length bs := by rw [← hw1]; exact hr.alloc' _
  have hw := rword_any w1 A c B bs hr1 hlc hl (o : Int) (by omega)
  have e : word? bs (o : Int) = some v := by unfold word?; rw [if_pos (by omega), Int.toNat_natCast, hv]
  rw [e] at hw
  have hup := runpack_any w1 v (by rw [← hv]; exact wordN_lt _ _)
  rw [hu] at hup
  dsimp only [wordV] at hw
  dsimp only [unpV] at hup
  have HW := Lib.hid hw
  have HU := Lib.hid hup
  have HC2 := Lib.hid (rcould_any w1 A bs.length c hl (o : Int) (s : Int) (by omega) true hc2)
  have hwb := rword_any w1 A c B bs hr1 hlc hl ((o : Int) + (s : Int) - 8) (by omega)
  have e2 : word? bs ((o : Int) + (s : Int) - 8) = some v := by
    unfold word?
    rw [if_pos (by omega), show ((o : Int) + (s : Int) - 8).toNat = o + s - 8 by omega, hv2]
  rw [e2] at hwb
  dsimp only [wordV] at hwb
  have HWB := Lib.hid hwb
  have HW1 := Lib.hid hw1
  have HB1 := Lib.hid hb1
  have HN1 := Lib.hid hn1
  clear hc hv hu hc2 hv2 hr hr1 hw e hup hwb e2 hw1 hb1 hn1
  go_enter Try.func9, Try.ntmps9
  go_wp2_with fail
  rw [HW1.out]
  with_reducible refine HC.out.mono ?_
  rintro e w2 ⟨rfl, rfl⟩
  go_wp2_with fail
  with_reducible refine HW.out.mono ?_
  rintro e w2 ⟨rfl, rfl⟩
  go_wp2_with fail
  with_reducible refine HU.out.mono ?_
  rintro e w2 ⟨rfl, rfl⟩
  go_wp2_with fail
  with_reducible refine HC2.out.mono ?_
  rintro e w2 ⟨rfl, rfl⟩
  go_wp2_with fail
  with_reducible refine HWB.out.mono ?_
  rintro e w2 ⟨rfl, rfl⟩
  obtain ⟨⟨c0, c1, c2⟩, f0, f1, f2⟩ := blk_cells HN1.out
  go_wp2
  (try simp only [Exit.inBlock, Exit.then])
  refine blk_ret (x := .bool true) Try.results9 ?_ ?_ ?_ (blk_set HN1.out _ _ _) ?_
  · rfl
  · rfl
  · rfl
  · exact ⟨rfl, ((HB1.out.setCell (Nat.le_refl _) _).setCell (Nat.le_refl _) _).setCell (Nat.le_refl _) _⟩

theorem rgetB_any (A : Option Addr) (c B : Nat) (bs : List UInt8) (hr : Rd w B A bs.length bs) (hlc : bs.length ≤ c) (hl : bs.length ≤ 1000000) (o : Int) (ho : -9223372036854775808 ≤ o ∧ o ≤ 9223372036854775807) (x : Option Bk) (hx : getB bs o = x) :
    Calls Try.prog 9 #[.slice A bs.length c, .int .i64 o] w fun e w' => e = .returned (.tuple #[bkV x, .bool x.isSome]) ∧ Below w.heap.size w w' := by
  subst hx
  cases hc : could bs.length o 8 with
  | false =>
    have e : getB bs o = none := by unfold getB; rw [if_pos hc]
    rw [e]
    exact rgetB_1 w A c bs hl o ho hc
  | true =>
    have hb := (could_iff _ _ _).1 hc
    obtain ⟨p, rfl⟩ : ∃ p : Nat, o = (p : Int) := ⟨o.toNat, by omega⟩
    cases hu : unpN (wordN bs p) with
    | none =>
      have e : getB bs (p : Int) = none := by unfold getB; rw [if_neg (by rw [hc]; simp), Int.toNat_natCast, hu]
      rw [e]
      exact rgetB_2 w A c B bs hr hlc hl p _ hc rfl hu
    | some su =>
      obtain ⟨s, u⟩ := su
      cases hc2 : could bs.length (p : Int) (s : Int) with
      | false =>
        have e : getB bs (p : Int) = none := by unfold getB; rw [if_neg (by rw [hc]; simp), Int.toNat_natCast, hu]; dsimp only; rw [if_pos hc2]
        rw [e]
        exact rgetB_3 w A c B bs hr hlc hl p _ s u hc rfl hu hc2
      | true =>
        by_cases hw : wordN bs (p + s - 8) = wordN bs p
        · have e : getB bs (p : Int) = some ⟨p, s, u⟩ := by unfold getB; rw [if_neg (by rw [hc]; simp), Int.toNat_natCast, hu]; dsimp only; rw [if_neg (by rw [hc2]; simp), if_pos hw]
          rw [e]
          exact rgetB_5 w A c B bs hr hlc hl p _ s u hc rfl hu hc2 hw
        · have e : getB bs (p : Int) = none := by unfold getB; rw [if_neg (by rw [hc]; simp), Int.toNat_natCast, hu]; dsimp only; rw [if_neg (by rw [hc2]; simp), if_neg hw]
          rw [e]
          exact rgetB_4 w A c B bs hr hlc hl p _ s u hc rfl hu hc2 _ rfl hw
end
end Go.Proofs.Ytodbakpjibcmiaa
