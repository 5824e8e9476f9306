/- The contracts of the document's own blocks: Ahead, all ways. -/
import Derived.Test.YtodbakpjibcmiaaRef7b
namespace Go.Proofs.Ytodbakpjibcmiaa
open Go.RowKit

theorem heap_lt' {w : World} {g : Nat} {o : Obj} (h : w.heap[g]? = some o) : g < w.heap.size := by
  rcases Nat.lt_or_ge g w.heap.size with h1 | h1
  · exact h1
  · rw [Array.getElem?_eq_none h1] at h; cases h

section
variable (w : World)

set_option maxHeartbeats 1000000 in
theorem raheadB_1 (A : Option Addr) (c : Nat) (bs : List UInt8) (_hl : bs.length ≤ 1000000) (o : Int) (_ho : -9223372036854775808 ≤ o) (h1 : o < 184) :
    Calls Try.prog 11 #[.slice A bs.length c, .int .i64 o] w fun e w' => e = .returned (.tuple #[bkV none, .bool false]) ∧ Below w.heap.size w w' := by
  have s1 : decide (o < 184) = true := decide_eq_true h1
  obtain ⟨w1, hw1⟩ : ∃ w1, w.alloc (.cells #[.int .i64 0, .int .i64 0, .bool false] 25) = w1 := ⟨_, rfl⟩
  have hb1 : Below w.heap.size w w1 := by rw [← hw1]; exact (Below.refl _ _).alloc (Nat.le_refl _) _
  have hn1 : w1.heap[w.heap.size]? = some (.cells #[.int .i64 0, .int .i64 0, .bool false] 25 (0, 0)) := by rw [← hw1]; exact heap_alloc_new w _
  have HW1 := Lib.hid hw1
  have HB1 := Lib.hid hb1
  have HN1 := Lib.hid hn1
  clear hw1 hb1 hn1
  go_enter Try.func11, Try.ntmps11
  have hn := HN1.out
  rw [← HW1.out] at hn
  obtain ⟨⟨c0, c1, c2⟩, f0, f1, f2⟩ := blk_cells hn
  go_wp2
  (try simp only [Exit.inBlock, Exit.then])
  refine bodyPost_ret (v := .tuple #[.agg #[.int .i64 0, .int .i64 0, .bool false], .bool false]) (by simp [results, Try.results11, go_sem]) rfl ?_
  exact ⟨rfl, (Below.refl _ _).alloc (Nat.le_refl _) _⟩

set_option maxHeartbeats 1000000 in
theorem raheadB_2 (A : Option Addr) (c : Nat) (bs : List UInt8) (_hl : bs.length ≤ 1000000) (o : Int) (_ho : o ≤ 9223372036854775807) (h1 : 184 ≤ o) (h2 : (bs.length : Int) < o) :
    Calls Try.prog 11 #[.slice A bs.length c, .int .i64 o] w fun e w' => e = .returned (.tuple #[bkV none, .bool false]) ∧ Below w.heap.size w w' := by
  have s1 : decide (o < 184) = false := decide_eq_false (by omega)
  have s2 : decide ((bs.length : Int) < o) = true := decide_eq_true h2
  obtain ⟨w1, hw1⟩ : ∃ w1, w.alloc (.cells #[.int .i64 0, .int .i64 0, .bool false] 25) = w1 := ⟨_, rfl⟩
  have hb1 : Below w.heap.size w w1 := by rw [← hw1]; exact (Below.refl _ _).alloc (Nat.le_refl _) _
  have hn1 : w1.heap[w.heap.size]? = some (.cells #[.int .i64 0, .int .i64 0, .bool false] 25 (0, 0)) := by rw [← hw1]; exact heap_alloc_new w _
  have HW1 := Lib.hid hw1
  have HB1 := Lib.hid hb1
  have HN1 := Lib.hid hn1
  clear hw1 hb1 hn1
  go_enter Try.func11, Try.ntmps11
  have hn := HN1.out
  rw [← HW1.out] at hn
  obtain ⟨⟨c0, c1, c2⟩, f0, f1, f2⟩ := blk_cells hn
  go_wp2
  (try simp only [Exit.inBlock, Exit.then])
  refine bodyPost_ret (v := .tuple #[.agg #[.int .i64 0, .int .i64 0, .bool false], .bool false]) (by simp [results, Try.results11, go_sem]) rfl ?_
  exact ⟨rfl, (Below.refl _ _).alloc (Nat.le_refl _) _⟩

set_option maxHeartbeats 1000000 in
theorem raheadB_3 (A : Option Addr) (c B : Nat) (bs : List UInt8) (hr : Rd w B A bs.length bs) (hlc : bs.length ≤ c) (hl : bs.length ≤ 1000000) (o : Nat) (v : Nat) (h1 : 184 ≤ o) (h2 : o ≤ bs.length) (hv : wordN bs (o - 8) = v) (hu : unpN v = none) :
    Calls Try.prog 11 #[.slice A bs.length c, .int .i64 (o : Int)] w fun e w' => e = .returned (.tuple #[bkV none, .bool false]) ∧ Below w.heap.size w w' := by
  obtain ⟨w1, hw1⟩ : ∃ w1, w.alloc (.cells #[.int .i64 0, .int .i64 0, .bool false] 25) = w1 := ⟨_, rfl⟩
  have hb1 : Below w.heap.size w w1 := by rw [← hw1]; exact (Below.refl _ _).alloc (Nat.le_refl _) _
  have hn1 : w1.heap[w.heap.size]? = some (.cells #[.int .i64 0, .int .i64 0, .bool false] 25 (0, 0)) := by rw [← hw1]; exact heap_alloc_new w _
  have hr1 : Rd w1 B A bs.length bs := by rw [← hw1]; exact hr.alloc' _
  have hw := rword_any w1 A c B bs hr1 hlc hl ((o : Int) - 8) (by omega)
  have e : word? bs ((o : Int) - 8) = some v := by
    unfold word?
    rw [if_pos (by omega), show ((o : Int) - 8).toNat = o - 8 by omega, hv]
  rw [e] at hw
  have hup := runpack_any w1 v (by rw [← hv]; exact wordN_lt _ _)
  rw [hu] at hup
  dsimp only [wordV] at hw
  dsimp only [unpV] at hup
  have HW := Lib.hid hw
  have HU := Lib.hid hup
  have HW1 := Lib.hid hw1
  have HB1 := Lib.hid hb1
  have HN1 := Lib.hid hn1
  clear hw1 hb1 hn1 hv hu hr hr1 hw e hup
  go_enter Try.func11, Try.ntmps11
  go_wp2_with fail
  rw [HW1.out]
  with_reducible refine HW.out.mono ?_
  rintro e w2 ⟨rfl, rfl⟩
  go_wp2_with fail
  with_reducible refine HU.out.mono ?_
  rintro e w2 ⟨rfl, rfl⟩
  have hlt := heap_lt' HN1.out
  obtain ⟨⟨c0, c1, c2⟩, f0, f1, f2⟩ := blk_cells HN1.out
  go_wp2
  (try simp only [Exit.inBlock, Exit.then])
  refine blk_ret (x := .bool false) (g := w.heap.size) (o := 0) (s := 0) (b := false) Try.results11 ?_ ?_ ?_ ?_ ?_
  · rfl
  · rfl
  · rfl
  · exact blk_set HN1.out _ _ _
  · exact ⟨rfl, ((HB1.out.setCell (Nat.le_refl _) _).setCell (Nat.le_refl _) _).setCell (Nat.le_refl _) _⟩

set_option maxHeartbeats 1000000 in
theorem raheadB_4 (A : Option Addr) (c B : Nat) (bs : List UInt8) (hr : Rd w B A bs.length bs) (hlc : bs.length ≤ c) (hl : bs.length ≤ 1000000) (o : Nat) (v s : Nat) (u : Bool) (h1 : 184 ≤ o) (h2 : o ≤ bs.length) (hv : wordN bs (o - 8) = v) (hu : unpN v = some (s, u)) (hx : getB bs ((o : Int) - (s : Int)) = none) :
    Calls Try.prog 11 #[.slice A bs.length c, .int .i64 (o : Int)] w fun e w' => e = .returned (.tuple #[bkV none, .bool false]) ∧ Below w.heap.size w w' := by
  have hss := (isSz_iff _).1 (unpN_some hu).1
  obtain ⟨w1, hw1⟩ : ∃ w1, w.alloc (.cells #[.int .i64 0, .int .i64 0, .bool false] 25) = w1 := ⟨_, rfl⟩
  have hb1 : Below w.heap.size w w1 := by rw [← hw1]; exact (Below.refl _ _).alloc (Nat.le_refl _) _
  have hn1 : w1.heap[w.heap.size]? = some (.cells #[.int .i64 0, .int .i64 0, .bool false] 25 (0, 0)) := by rw [← hw1]; exact heap_alloc_new w _
  have hr1 : Rd w1 B A bs.length bs := by rw [← hw1]; exact hr.alloc' _
  have hw := rword_any w1 A c B bs hr1 hlc hl ((o : Int) - 8) (by omega)
  have e : word? bs ((o : Int) - 8) = some v := by
    unfold word?
    rw [if_pos (by omega), show ((o : Int) - 8).toNat = o - 8 by omega, hv]
  rw [e] at hw
  have hup := runpack_any w1 v (by rw [← hv]; exact wordN_lt _ _)
  rw [hu] at hup
  dsimp only [wordV] at hw
  dsimp only [unpV] at hup
  have HW := Lib.hid hw
  have HU := Lib.hid hup
  have hg := rgetB_any w1 A c B bs hr1 hlc hl ((o : Int) - (s : Int)) (by omega) _ hx
  dsimp only [bkV, Bk.val, Option.isSome] at hg
  have HG := Lib.hid hg
  have HW1 := Lib.hid hw1
  have HB1 := Lib.hid hb1
  have HN1 := Lib.hid hn1
  clear hw1 hb1 hn1 hv hu hr hr1 hw e hup hx hg
  go_enter Try.func11, Try.ntmps11
  go_wp2_with fail
  rw [HW1.out]
  with_reducible refine HW.out.mono ?_
  rintro e w2 ⟨rfl, rfl⟩
  go_wp2_with fail
  with_reducible refine HU.out.mono ?_
  rintro e w2 ⟨rfl, rfl⟩
  go_wp2_with fail
  with_reducible refine HG.out.mono ?_
  rintro e w2 ⟨rfl, hb2⟩
  have hlt := Nat.lt_of_lt_of_le (heap_lt' HN1.out) hb2.size
  have hn2 := (hb2.block _ (heap_lt' HN1.out)).trans HN1.out
  have hb02 : Below w.heap.size w w2 := HB1.out.trans (hb2.mono HB1.out.size)
  obtain ⟨⟨c0, c1, c2⟩, f0, f1, f2⟩ := blk_cells hn2
  have HN2 := Lib.hid hn2
  have HB2 := Lib.hid hb02
  clear hn2 hb02 hb2
  go_wp2
  (try simp only [Exit.inBlock, Exit.then])
  refine blk_ret (x := .bool false) (g := w.heap.size) (o := 0) (s := 0) (b := false) Try.results11 ?_ ?_ ?_ ?_ ?_
  · rfl
  · rfl
  · rfl
  · exact (((Below.refl _ _).alloc (Nat.le_refl _) _).block _ (by simp [World.setCell]; omega)).trans (blk_set HN2.out _ _ _)
  · exact ⟨rfl, (((HB2.out.setCell (Nat.le_refl _) _).setCell (Nat.le_refl _) _).setCell (Nat.le_refl _) _).alloc (by simp [World.setCell]; omega) _⟩

set_option maxHeartbeats 1000000 in
theorem raheadB_5 (A : Option Addr) (c B : Nat) (bs : List UInt8) (hr : Rd w B A bs.length bs) (hlc : bs.length ≤ c) (hl : bs.length ≤ 1000000) (o : Nat) (v s : Nat) (u : Bool) (xo xs : Nat) (xu : Bool) (h1 : 184 ≤ o) (h2 : o ≤ bs.length) (hv : wordN bs (o - 8) = v) (hu : unpN v = some (s, u)) (hx : getB bs ((o : Int) - (s : Int)) = some ⟨xo, xs, xu⟩) (hne : xs ≠ s) :
    Calls Try.prog 11 #[.slice A bs.length c, .int .i64 (o : Int)] w fun e w' => e = .returned (.tuple #[bkV none, .bool false]) ∧ Below w.heap.size w w' := by
  have hss := (isSz_iff _).1 (unpN_some hu).1
  have hq : ((xs : Int) != (s : Int)) = true := by rw [bne_iff_ne]; omega
  obtain ⟨w1, hw1⟩ : ∃ w1, w.alloc (.cells #[.int .i64 0, .int .i64 0, .bool false] 25) = w1 := ⟨_, rfl⟩
  have hb1 : Below w.heap.size w w1 := by rw [← hw1]; exact (Below.refl _ _).alloc (Nat.le_refl _) _
  have hn1 : w1.heap[w.heap.size]? = some (.cells #[.int .i64 0, .int .i64 0, .bool false] 25 (0, 0)) := by rw [← hw1]; exact heap_alloc_new w _
  have hr1 : Rd w1 B A bs.length bs := by rw [← hw1]; exact hr.alloc' _
  have hw := rword_any w1 A c B bs hr1 hlc hl ((o : Int) - 8) (by omega)
  have e : word? bs ((o : Int) - 8) = some v := by
    unfold word?
    rw [if_pos (by omega), show ((o : Int) - 8).toNat = o - 8 by omega, hv]
  rw [e] at hw
  have hup := runpack_any w1 v (by rw [← hv]; exact wordN_lt _ _)
  rw [hu] at hup
  dsimp only [wordV] at hw
  dsimp only [unpV] at hup
  have HW := Lib.hid hw
  have HU := Lib.hid hup
  have hg := rgetB_any w1 A c B bs hr1 hlc hl ((o : Int) - (s : Int)) (by omega) _ hx
  dsimp only [bkV, Bk.val, Option.isSome] at hg
  have HG := Lib.hid hg
  have HW1 := Lib.hid hw1
  have HB1 := Lib.hid hb1
  have HN1 := Lib.hid hn1
  clear hw1 hb1 hn1 hv hu hr hr1 hw e hup hx hg hne
  go_enter Try.func11, Try.ntmps11
  go_wp2_with fail
  rw [HW1.out]
  with_reducible refine HW.out.mono ?_
  rintro e w2 ⟨rfl, rfl⟩
  go_wp2_with fail
  with_reducible refine HU.out.mono ?_
  rintro e w2 ⟨rfl, rfl⟩
  go_wp2_with fail
  with_reducible refine HG.out.mono ?_
  rintro e w2 ⟨rfl, hb2⟩
  have hlt := Nat.lt_of_lt_of_le (heap_lt' HN1.out) hb2.size
  have hn2 := (hb2.block _ (heap_lt' HN1.out)).trans HN1.out
  have hb02 : Below w.heap.size w w2 := HB1.out.trans (hb2.mono HB1.out.size)
  obtain ⟨⟨c0, c1, c2⟩, f0, f1, f2⟩ := blk_cells hn2
  have HN2 := Lib.hid hn2
  have HB2 := Lib.hid hb02
  clear hn2 hb02 hb2
  go_wp2
  (try simp only [Exit.inBlock, Exit.then])
  refine blk_ret (x := .bool false) (g := w.heap.size) (o := 0) (s := 0) (b := false) Try.results11 ?_ ?_ ?_ ?_ ?_
  · rfl
  · rfl
  · rfl
  · exact (((Below.refl _ _).alloc (Nat.le_refl _) _).block _ (by simp [World.setCell]; omega)).trans (blk_set HN2.out _ _ _)
  · exact ⟨rfl, (((HB2.out.setCell (Nat.le_refl _) _).setCell (Nat.le_refl _) _).setCell (Nat.le_refl _) _).alloc (by simp [World.setCell]; omega) _⟩

set_option maxHeartbeats 1000000 in
theorem raheadB_6 (A : Option Addr) (c B : Nat) (bs : List UInt8) (hr : Rd w B A bs.length bs) (hlc : bs.length ≤ c) (hl : bs.length ≤ 1000000) (o : Nat) (v s : Nat) (xo : Nat) (h1 : 184 ≤ o) (h2 : o ≤ bs.length) (hv : wordN bs (o - 8) = v) (hu : unpN v = some (s, true)) (hx : getB bs ((o : Int) - (s : Int)) = some ⟨xo, s, false⟩) :
    Calls Try.prog 11 #[.slice A bs.length c, .int .i64 (o : Int)] w fun e w' => e = .returned (.tuple #[bkV none, .bool false]) ∧ Below w.heap.size w w' := by
  have hss := (isSz_iff _).1 (unpN_some hu).1
  obtain ⟨w1, hw1⟩ : ∃ w1, w.alloc (.cells #[.int .i64 0, .int .i64 0, .bool false] 25) = w1 := ⟨_, rfl⟩
  have hb1 : Below w.heap.size w w1 := by rw [← hw1]; exact (Below.refl _ _).alloc (Nat.le_refl _) _
  have hn1 : w1.heap[w.heap.size]? = some (.cells #[.int .i64 0, .int .i64 0, .bool false] 25 (0, 0)) := by rw [← hw1]; exact heap_alloc_new w _
  have hr1 : Rd w1 B A bs.length bs := by rw [← hw1]; exact hr.alloc' _
  have hw := rword_any w1 A c B bs hr1 hlc hl ((o : Int) - 8) (by omega)
  have e : word? bs ((o : Int) - 8) = some v := by
    unfold word?
    rw [if_pos (by omega), show ((o : Int) - 8).toNat = o - 8 by omega, hv]
  rw [e] at hw
  have hup := runpack_any w1 v (by rw [← hv]; exact wordN_lt _ _)
  rw [hu] at hup
  dsimp only [wordV] at hw
  dsimp only [unpV] at hup
  have HW := Lib.hid hw
  have HU := Lib.hid hup
  have hg := rgetB_any w1 A c B bs hr1 hlc hl ((o : Int) - (s : Int)) (by omega) _ hx
  dsimp only [bkV, Bk.val, Option.isSome] at hg
  have HG := Lib.hid hg
  have HW1 := Lib.hid hw1
  have HB1 := Lib.hid hb1
  have HN1 := Lib.hid hn1
  clear hw1 hb1 hn1 hv hu hr hr1 hw e hup hx hg
  go_enter Try.func11, Try.ntmps11
  go_wp2_with fail
  rw [HW1.out]
  with_reducible refine HW.out.mono ?_
  rintro e w2 ⟨rfl, rfl⟩
  go_wp2_with fail
  with_reducible refine HU.out.mono ?_
  rintro e w2 ⟨rfl, rfl⟩
  go_wp2_with fail
  with_reducible refine HG.out.mono ?_
  rintro e w2 ⟨rfl, hb2⟩
  have hlt := Nat.lt_of_lt_of_le (heap_lt' HN1.out) hb2.size
  have hn2 := (hb2.block _ (heap_lt' HN1.out)).trans HN1.out
  have hb02 : Below w.heap.size w w2 := HB1.out.trans (hb2.mono HB1.out.size)
  obtain ⟨⟨c0, c1, c2⟩, f0, f1, f2⟩ := blk_cells hn2
  have HN2 := Lib.hid hn2
  have HB2 := Lib.hid hb02
  clear hn2 hb02 hb2
  go_wp2
  (try simp only [Exit.inBlock, Exit.then])
  refine blk_ret (x := .bool false) (g := w.heap.size) (o := 0) (s := 0) (b := false) Try.results11 ?_ ?_ ?_ ?_ ?_
  · rfl
  · rfl
  · rfl
  · exact (((Below.refl _ _).alloc (Nat.le_refl _) _).block _ (by simp [World.setCell]; omega)).trans (blk_set HN2.out _ _ _)
  · exact ⟨rfl, (((HB2.out.setCell (Nat.le_refl _) _).setCell (Nat.le_refl _) _).setCell (Nat.le_refl _) _).alloc (by simp [World.setCell]; omega) _⟩

set_option maxHeartbeats 1000000 in
theorem raheadB_8 (A : Option Addr) (c B : Nat) (bs : List UInt8) (hr : Rd w B A bs.length bs) (hlc : bs.length ≤ c) (hl : bs.length ≤ 1000000) (o : Nat) (v s : Nat) (xo : Nat) (h1 : 184 ≤ o) (h2 : o ≤ bs.length) (hv : wordN bs (o - 8) = v) (hu : unpN v = some (s, false)) (hx : getB bs ((o : Int) - (s : Int)) = some ⟨xo, s, true⟩) :
    Calls Try.prog 11 #[.slice A bs.length c, .int .i64 (o : Int)] w fun e w' => e = .returned (.tuple #[bkV none, .bool false]) ∧ Below w.heap.size w w' := by
  have hss := (isSz_iff _).1 (unpN_some hu).1
  obtain ⟨w1, hw1⟩ : ∃ w1, w.alloc (.cells #[.int .i64 0, .int .i64 0, .bool false] 25) = w1 := ⟨_, rfl⟩
  have hb1 : Below w.heap.size w w1 := by rw [← hw1]; exact (Below.refl _ _).alloc (Nat.le_refl _) _
  have hn1 : w1.heap[w.heap.size]? = some (.cells #[.int .i64 0, .int .i64 0, .bool false] 25 (0, 0)) := by rw [← hw1]; exact heap_alloc_new w _
  have hr1 : Rd w1 B A bs.length bs := by rw [← hw1]; exact hr.alloc' _
  have hw := rword_any w1 A c B bs hr1 hlc hl ((o : Int) - 8) (by omega)
  have e : word? bs ((o : Int) - 8) = some v := by
    unfold word?
    rw [if_pos (by omega), show ((o : Int) - 8).toNat = o - 8 by omega, hv]
  rw [e] at hw
  have hup := runpack_any w1 v (by rw [← hv]; exact wordN_lt _ _)
  rw [hu] at hup
  dsimp only [wordV] at hw
  dsimp only [unpV] at hup
  have HW := Lib.hid hw
  have HU := Lib.hid hup
  have hg := rgetB_any w1 A c B bs hr1 hlc hl ((o : Int) - (s : Int)) (by omega) _ hx
  dsimp only [bkV, Bk.val, Option.isSome] at hg
  have HG := Lib.hid hg
  have HW1 := Lib.hid hw1
  have HB1 := Lib.hid hb1
  have HN1 := Lib.hid hn1
  clear hw1 hb1 hn1 hv hu hr hr1 hw e hup hx hg
  go_enter Try.func11, Try.ntmps11
  go_wp2_with fail
  rw [HW1.out]
  with_reducible refine HW.out.mono ?_
  rintro e w2 ⟨rfl, rfl⟩
  go_wp2_with fail
  with_reducible refine HU.out.mono ?_
  rintro e w2 ⟨rfl, rfl⟩
  go_wp2_with fail
  with_reducible refine HG.out.mono ?_
  rintro e w2 ⟨rfl, hb2⟩
  have hlt := Nat.lt_of_lt_of_le (heap_lt' HN1.out) hb2.size
  have hn2 := (hb2.block _ (heap_lt' HN1.out)).trans HN1.out
  have hb02 : Below w.heap.size w w2 := HB1.out.trans (hb2.mono HB1.out.size)
  obtain ⟨⟨c0, c1, c2⟩, f0, f1, f2⟩ := blk_cells hn2
  have HN2 := Lib.hid hn2
  have HB2 := Lib.hid hb02
  clear hn2 hb02 hb2
  go_wp2
  (try simp only [Exit.inBlock, Exit.then])
  refine blk_ret (x := .bool false) (g := w.heap.size) (o := 0) (s := 0) (b := false) Try.results11 ?_ ?_ ?_ ?_ ?_
  · rfl
  · rfl
  · rfl
  · exact (((Below.refl _ _).alloc (Nat.le_refl _) _).block _ (by simp [World.setCell]; omega)).trans (blk_set HN2.out _ _ _)
  · exact ⟨rfl, (((HB2.out.setCell (Nat.le_refl _) _).setCell (Nat.le_refl _) _).setCell (Nat.le_refl _) _).alloc (by simp [World.setCell]; omega) _⟩

set_option maxHeartbeats 1000000 in
theorem raheadB_7 (A : Option Addr) (c B : Nat) (bs : List UInt8) (hr : Rd w B A bs.length bs) (hlc : bs.length ≤ c) (hl : bs.length ≤ 1000000) (o : Nat) (v s : Nat) (u : Bool) (xo : Nat) (h1 : 184 ≤ o) (h2 : o ≤ bs.length) (hv : wordN bs (o - 8) = v) (hu : unpN v = some (s, u)) (hx : getB bs ((o : Int) - (s : Int)) = some ⟨xo, s, u⟩) :
    Calls Try.prog 11 #[.slice A bs.length c, .int .i64 (o : Int)] w fun e w' => e = .returned (.tuple #[bkV (some ⟨xo, s, u⟩), .bool true]) ∧ Below w.heap.size w w' := by
  have hss := (isSz_iff _).1 (unpN_some hu).1
  obtain ⟨w1, hw1⟩ : ∃ w1, w.alloc (.cells #[.int .i64 0, .int .i64 0, .bool false] 25) = w1 := ⟨_, rfl⟩
  have hb1 : Below w.heap.size w w1 := by rw [← hw1]; exact (Below.refl _ _).alloc (Nat.le_refl _) _
  have hn1 : w1.heap[w.heap.size]? = some (.cells #[.int .i64 0, .int .i64 0, .bool false] 25 (0, 0)) := by rw [← hw1]; exact heap_alloc_new w _
  have hr1 : Rd w1 B A bs.length bs := by rw [← hw1]; exact hr.alloc' _
  have hw := rword_any w1 A c B bs hr1 hlc hl ((o : Int) - 8) (by omega)
  have e : word? bs ((o : Int) - 8) = some v := by
    unfold word?
    rw [if_pos (by omega), show ((o : Int) - 8).toNat = o - 8 by omega, hv]
  rw [e] at hw
  have hup := runpack_any w1 v (by rw [← hv]; exact wordN_lt _ _)
  rw [hu] at hup
  dsimp only [wordV] at hw
  dsimp only [unpV] at hup
  have HW := Lib.hid hw
  have HU := Lib.hid hup
  have hg := rgetB_any w1 A c B bs hr1 hlc hl ((o : Int) - (s : Int)) (by omega) _ hx
  dsimp only [bkV, Bk.val, Option.isSome] at hg
  have HG := Lib.hid hg
  have HW1 := Lib.hid hw1
  have HB1 := Lib.hid hb1
  have HN1 := Lib.hid hn1
  clear hw1 hb1 hn1 hv hu hr hr1 hw e hup hx hg
  go_enter Try.func11, Try.ntmps11
  go_wp2_with fail
  rw [HW1.out]
  with_reducible refine HW.out.mono ?_
  rintro e w2 ⟨rfl, rfl⟩
  go_wp2_with fail
  with_reducible refine HU.out.mono ?_
  rintro e w2 ⟨rfl, rfl⟩
  go_wp2_with fail
  with_reducible refine HG.out.mono ?_
  rintro e w2 ⟨rfl, hb2⟩
  have hlt := Nat.lt_of_lt_of_le (heap_lt' HN1.out) hb2.size
  have hn2 := (hb2.block _ (heap_lt' HN1.out)).trans HN1.out
  have hb02 : Below w.heap.size w w2 := HB1.out.trans (hb2.mono HB1.out.size)
  obtain ⟨⟨c0, c1, c2⟩, f0, f1, f2⟩ := blk_cells hn2
  have HN2 := Lib.hid hn2
  have HB2 := Lib.hid hb02
  clear hn2 hb02 hb2
  go_wp2
  (try simp only [Exit.inBlock, Exit.then])
  refine blk_ret (x := .bool true) (g := w.heap.size) (o := (xo : Int)) (s := (s : Int)) (b := u) Try.results11 ?_ ?_ ?_ ?_ ?_
  · rfl
  · rfl
  · rfl
  · exact (((Below.refl _ _).alloc (Nat.le_refl _) _).block _ (by simp [World.setCell]; omega)).trans (blk_set HN2.out _ _ _)
  · exact ⟨rfl, (((HB2.out.setCell (Nat.le_refl _) _).setCell (Nat.le_refl _) _).setCell (Nat.le_refl _) _).alloc (by simp [World.setCell]; omega) _⟩

theorem raheadB_any (A : Option Addr) (c B : Nat) (bs : List UInt8) (hr : Rd w B A bs.length bs) (hlc : bs.length ≤ c) (hl : bs.length ≤ 1000000) (o : Int) (ho : -9223372036854775808 ≤ o ∧ o ≤ 9223372036854775807) (x : Option Bk) (hx : aheadB bs o = x) :
    Calls Try.prog 11 #[.slice A bs.length c, .int .i64 o] w fun e w' => e = .returned (.tuple #[bkV x, .bool x.isSome]) ∧ Below w.heap.size w w' := by
  subst hx
  by_cases h1 : o < 184
  · have e : aheadB bs o = none := by unfold aheadB; rw [if_pos (.inl h1)]
    rw [e]
    exact raheadB_1 w A c bs hl o ho.1 h1
  · by_cases h2 : (bs.length : Int) < o
    · have e : aheadB bs o = none := by unfold aheadB; rw [if_pos (.inr h2)]
      rw [e]
      exact raheadB_2 w A c bs hl o ho.2 (by omega) h2
    · obtain ⟨p, rfl⟩ : ∃ p : Nat, o = (p : Int) := ⟨o.toNat, by omega⟩
      have hn : ¬ ((p : Int) < 184 ∨ (bs.length : Int) < (p : Int)) := by omega
      cases hu : unpN (wordN bs (p - 8)) with
      | none =>
        have e : aheadB bs (p : Int) = none := by unfold aheadB; rw [if_neg hn, Int.toNat_natCast, hu]
        rw [e]
        exact raheadB_3 w A c B bs hr hlc hl p _ (by omega) (by omega) rfl hu
      | some su =>
        obtain ⟨s, u⟩ := su
        cases hx : getB bs ((p : Int) - (s : Int)) with
        | none =>
          have e : aheadB bs (p : Int) = none := by unfold aheadB; rw [if_neg hn, Int.toNat_natCast, hu]; dsimp only; rw [hx]
          rw [e]
          exact raheadB_4 w A c B bs hr hlc hl p _ s u (by omega) (by omega) rfl hu hx
        | some x =>
          obtain ⟨xo, xs, xu⟩ := x
          by_cases hs : xs = s
          · subst hs
            by_cases hxu : xu = u
            · subst hxu
              have e : aheadB bs (p : Int) = some ⟨xo, xs, xu⟩ := by unfold aheadB; rw [if_neg hn, Int.toNat_natCast, hu]; dsimp only; rw [hx]; dsimp only; rw [if_pos ⟨rfl, rfl⟩]
              rw [e]
              exact raheadB_7 w A c B bs hr hlc hl p _ xs xu xo (by omega) (by omega) rfl hu hx
            · have e : aheadB bs (p : Int) = none := by unfold aheadB; rw [if_neg hn, Int.toNat_natCast, hu]; dsimp only; rw [hx]; dsimp only; rw [if_neg (fun h => hxu h.2)]
              rw [e]
              cases u <;> cases xu
              · exact absurd rfl hxu
              · exact raheadB_8 w A c B bs hr hlc hl p _ xs xo (by omega) (by omega) rfl hu hx
              · exact raheadB_6 w A c B bs hr hlc hl p _ xs xo (by omega) (by omega) rfl hu hx
              · exact absurd rfl hxu
          · have e : aheadB bs (p : Int) = none := by unfold aheadB; rw [if_neg hn, Int.toNat_natCast, hu]; dsimp only; rw [hx]; dsimp only; rw [if_neg (fun h => hs h.1)]
            rw [e]
            exact raheadB_5 w A c B bs hr hlc hl p _ s u xo xs xu (by omega) (by omega) rfl hu hx hs
end
end Go.Proofs.Ytodbakpjibcmiaa
