/- The contract of the program's Ahead: the block that ends at an offset, all ways. -/
import Derived.Test.YtodbakpjibcmiaaBlk2
namespace Go.Proofs.Ytodbakpjibcmiaa
open Go.RowKit

/-- What Ahead tells, said by what it asks. -/
theorem aheadB_eq (bs : List UInt8) (o : Int) : aheadB bs o = (match word? bs (o - 8) with
  | none => none
  | some v => match unpN v with
    | none => none
    | some (s, _) => match getB bs (o - (s : Int)) with
      | none => none
      | some x => if x.size = s then some x else none) := by
  by_cases h0 : o < 8 ∨ (bs.length : Int) < o
  · have e : word? bs (o - 8) = none := by unfold word?; rw [if_neg (by omega)]
    rw [e]
    unfold aheadB
    rw [if_pos (by omega)]
  · obtain ⟨p, rfl⟩ : ∃ p : Nat, o = (p : Int) := ⟨o.toNat, by omega⟩
    have e : word? bs ((p : Int) - 8) = some (wordN bs (p - 8)) := by
      unfold word?
      rw [if_pos (by omega), show ((p : Int) - 8).toNat = p - 8 by omega]
    rw [e]
    dsimp only
    by_cases h1 : (p : Int) < 184
    · unfold aheadB
      rw [if_pos (by omega)]
      cases hu : unpN (wordN bs (p - 8)) with
      | none => rfl
      | some su =>
        obtain ⟨s, u⟩ := su
        dsimp only
        cases hx : getB bs ((p : Int) - (s : Int)) with
        | none => rfl
        | some x =>
          have := getB_some hx
          omega
    · unfold aheadB
      rw [if_neg (by omega), Int.toNat_natCast]
      cases hu : unpN (wordN bs (p - 8)) with
      | none => rfl
      | some su =>
        obtain ⟨s, u⟩ := su
        dsimp only
        cases hx : getB bs ((p : Int) - (s : Int)) with
        | none => rfl
        | some x =>
          dsimp only
          obtain ⟨q1, q2, q3, q4, q5, q6, q7⟩ := getB_some hx
          by_cases hs : x.size = s
          · have e2 : x.off + x.size - 8 = p - 8 := by omega
            rw [e2] at q7
            rw [← q7, hu] at q6
            injection q6 with q6
            injection q6 with q6 q8
            rw [if_pos ⟨hs, q8.symm⟩, if_pos hs]
          · rw [if_neg (fun h => hs h.1), if_neg hs]

section
variable {w : World} {g base cap c : Nat} {A : Option Addr} {bs : List UInt8}
set_option maxHeartbeats 1000000 in
theorem ahead_1 (h : Ar w 73 g base cap A c bs) (hb : base ≤ 4611686018427387904) (hl : bs.length ≤ 16384) (o : Int) (ho : -9223372036854775808 ≤ o ∧ o ≤ 9223372036854775807) (hv : word? bs (o - 8) = none) :
    Calls Try.prog 10 #[.pointer (some ⟨g, 0, none⟩), .int .i64 o] w fun e w' => e = .returned (.tuple #[bkV none, errV false 3]) ∧ Below w.heap.size w w' := by
  obtain ⟨w1, hw1⟩ : ∃ w1, w.alloc (.cells #[.int .i64 0, .int .i64 0, .bool false] 25) = w1 := ⟨_, rfl⟩
  have hb1 : Below w.heap.size w w1 := by rw [← hw1]; exact (Below.refl _ _).alloc (Nat.le_refl _) _
  have hn1 : w1.heap[w.heap.size]? = some (.cells #[.int .i64 0, .int .i64 0, .bool false] 25 (0, 0)) := by rw [← hw1]; exact heap_alloc_new w _
  have h1 := h.below hb1
  have HA := Lib.hid (address_any h1 o)
  have hs8 : IntKind.u64.wrap ((adr base o : Int) - 8) = (adr base (o - 8) : Int) := by rw [IntKind.wrap_u64]; unfold adr; omega
  have HS8 := Lib.hid hs8
  have hwd := word_at h1 hb hl (o - 8) (by omega) _ hv
  dsimp only [wdV] at hwd
  have HW := Lib.hid hwd
  have HW1 := Lib.hid hw1
  have HB1 := Lib.hid hb1
  have HN1 := Lib.hid hn1
  clear hv hwd hs8 hw1 hb1 hn1 h1 h
  go_enter Try.func10, Try.ntmps10
  go_wp2_with fail
  rw [HW1.out]
  with_reducible refine HA.out.mono ?_
  rintro e w2 ⟨rfl, rfl⟩
  go_wp2_with fail
  rw [HS8.out]
  with_reducible refine HW.out.mono ?_
  rintro e w2 ⟨rfl, rfl⟩
  have hlt := heap_lt' HN1.out
  obtain ⟨⟨c0, c1, c2⟩, f0, f1, f2⟩ := blk_cells HN1.out
  go_wp2
  (try simp only [Exit.inBlock, Exit.then])
  refine blk_ret (x := errV false 3) (g := w.heap.size) (o := 0) (s := 0) (b := false) Try.results10 ?_ ?_ ?_ ?_ ?_
  · rfl
  · rfl
  · rfl
  · exact blk_set HN1.out _ _ _
  · exact ⟨rfl, ((HB1.out.setCell (Nat.le_refl _) _).setCell (Nat.le_refl _) _).setCell (Nat.le_refl _) _⟩

set_option maxHeartbeats 1000000 in
theorem ahead_2 (h : Ar w 73 g base cap A c bs) (hb : base ≤ 4611686018427387904) (hl : bs.length ≤ 16384) (o : Int) (ho : -9223372036854775808 ≤ o ∧ o ≤ 9223372036854775807) (v : Nat) (hvl : v < 18446744073709551616) (hv : word? bs (o - 8) = some v) (hu : unpN v = none) :
    Calls Try.prog 10 #[.pointer (some ⟨g, 0, none⟩), .int .i64 o] w fun e w' => e = .returned (.tuple #[bkV none, errV false 3]) ∧ Below w.heap.size w w' := by
  obtain ⟨w1, hw1⟩ : ∃ w1, w.alloc (.cells #[.int .i64 0, .int .i64 0, .bool false] 25) = w1 := ⟨_, rfl⟩
  have hb1 : Below w.heap.size w w1 := by rw [← hw1]; exact (Below.refl _ _).alloc (Nat.le_refl _) _
  have hn1 : w1.heap[w.heap.size]? = some (.cells #[.int .i64 0, .int .i64 0, .bool false] 25 (0, 0)) := by rw [← hw1]; exact heap_alloc_new w _
  have h1 := h.below hb1
  have HA := Lib.hid (address_any h1 o)
  have hs8 : IntKind.u64.wrap ((adr base o : Int) - 8) = (adr base (o - 8) : Int) := by rw [IntKind.wrap_u64]; unfold adr; omega
  have HS8 := Lib.hid hs8
  have hwd := word_at h1 hb hl (o - 8) (by omega) _ hv
  dsimp only [wdV] at hwd
  have HW := Lib.hid hwd
  have hup := tunpack_any w1 v hvl
  rw [hu] at hup
  dsimp only [unpV] at hup
  have HU := Lib.hid hup
  have HW1 := Lib.hid hw1
  have HB1 := Lib.hid hb1
  have HN1 := Lib.hid hn1
  clear hv hwd hu hup hs8 hw1 hb1 hn1 h1 h
  go_enter Try.func10, Try.ntmps10
  go_wp2_with fail
  rw [HW1.out]
  with_reducible refine HA.out.mono ?_
  rintro e w2 ⟨rfl, rfl⟩
  go_wp2_with fail
  rw [HS8.out]
  with_reducible refine HW.out.mono ?_
  rintro e w2 ⟨rfl, rfl⟩
  go_wp2_with fail
  with_reducible refine HU.out.mono ?_
  rintro e w2 ⟨rfl, rfl⟩
  have hlt := heap_lt' HN1.out
  obtain ⟨⟨c0, c1, c2⟩, f0, f1, f2⟩ := blk_cells HN1.out
  go_wp2
  (try simp only [Exit.inBlock, Exit.then])
  refine blk_ret (x := errV false 3) (g := w.heap.size) (o := 0) (s := 0) (b := false) Try.results10 ?_ ?_ ?_ ?_ ?_
  · rfl
  · rfl
  · rfl
  · exact blk_set HN1.out _ _ _
  · exact ⟨rfl, ((HB1.out.setCell (Nat.le_refl _) _).setCell (Nat.le_refl _) _).setCell (Nat.le_refl _) _⟩

set_option maxHeartbeats 1000000 in
theorem ahead_3 (h : Ar w 73 g base cap A c bs) (hb : base ≤ 4611686018427387904) (hl : bs.length ≤ 16384) (o : Int) (ho : -9223372036854775808 ≤ o ∧ o ≤ 9223372036854775807) (v : Nat) (hvl : v < 18446744073709551616) (hv : word? bs (o - 8) = some v) (s : Nat) (u : Bool) (hu : unpN v = some (s, u)) (hs : 32 ≤ s ∧ s ≤ 16384) (hob : 0 ≤ o ∧ o ≤ 16384) (hx : getB bs (o - (s : Int)) = none) :
    Calls Try.prog 10 #[.pointer (some ⟨g, 0, none⟩), .int .i64 o] w fun e w' => e = .returned (.tuple #[bkV none, errV false 3]) ∧ Below w.heap.size w w' := by
  obtain ⟨w1, hw1⟩ : ∃ w1, w.alloc (.cells #[.int .i64 0, .int .i64 0, .bool false] 25) = w1 := ⟨_, rfl⟩
  have hb1 : Below w.heap.size w w1 := by rw [← hw1]; exact (Below.refl _ _).alloc (Nat.le_refl _) _
  have hn1 : w1.heap[w.heap.size]? = some (.cells #[.int .i64 0, .int .i64 0, .bool false] 25 (0, 0)) := by rw [← hw1]; exact heap_alloc_new w _
  have h1 := h.below hb1
  have HA := Lib.hid (address_any h1 o)
  have hs8 : IntKind.u64.wrap ((adr base o : Int) - 8) = (adr base (o - 8) : Int) := by rw [IntKind.wrap_u64]; unfold adr; omega
  have HS8 := Lib.hid hs8
  have hwd := word_at h1 hb hl (o - 8) (by omega) _ hv
  dsimp only [wdV] at hwd
  have HW := Lib.hid hwd
  have hup := tunpack_any w1 v hvl
  rw [hu] at hup
  dsimp only [unpV] at hup
  have HU := Lib.hid hup
  have hg := getC w1 g base cap c A bs (o - (s : Int)) _ h1 hb hl (by omega) hx
  dsimp only [BlkTold, bkV, Bk.val, Option.isSome, errV] at hg
  have HG := Lib.hid hg
  have HW1 := Lib.hid hw1
  have HB1 := Lib.hid hb1
  have HN1 := Lib.hid hn1
  clear hv hwd hu hup hx hg hs8 hw1 hb1 hn1 h1 h
  go_enter Try.func10, Try.ntmps10
  go_wp2_with fail
  rw [HW1.out]
  with_reducible refine HA.out.mono ?_
  rintro e w2 ⟨rfl, rfl⟩
  go_wp2_with fail
  rw [HS8.out]
  with_reducible refine HW.out.mono ?_
  rintro e w2 ⟨rfl, rfl⟩
  go_wp2_with fail
  with_reducible refine HU.out.mono ?_
  rintro e w2 ⟨rfl, rfl⟩
  go_wp2_with fail
  with_reducible refine HG.out.mono ?_
  rintro e w2 ⟨rfl, hb2⟩
  have hlt := Nat.lt_of_lt_of_le (heap_lt' HN1.out) hb2.size
  have hn2 := (hb2.block _ (heap_lt' HN1.out)).trans HN1.out
  have hb02 : Below w.heap.size w w2 := HB1.out.trans (hb2.mono HB1.out.size)
  obtain ⟨⟨c0, c1, c2⟩, f0, f1, f2⟩ := blk_cells hn2
  have HN2 := Lib.hid hn2
  have HB2 := Lib.hid hb02
  clear hn2 hb02 hb2
  go_wp2
  (try simp only [Exit.inBlock, Exit.then])
  refine blk_ret (x := errV false 3) (g := w.heap.size) (o := 0) (s := 0) (b := false) Try.results10 ?_ ?_ ?_ ?_ ?_
  · rfl
  · rfl
  · rfl
  · exact (((Below.refl _ _).alloc (Nat.le_refl _) _).block _ (by simp [World.setCell]; omega)).trans (blk_set HN2.out _ _ _)
  · exact ⟨rfl, (((HB2.out.setCell (Nat.le_refl _) _).setCell (Nat.le_refl _) _).setCell (Nat.le_refl _) _).alloc (by simp [World.setCell]; omega) _⟩

set_option maxHeartbeats 1000000 in
theorem ahead_4 (h : Ar w 73 g base cap A c bs) (hb : base ≤ 4611686018427387904) (hl : bs.length ≤ 16384) (o : Int) (ho : -9223372036854775808 ≤ o ∧ o ≤ 9223372036854775807) (v : Nat) (hvl : v < 18446744073709551616) (hv : word? bs (o - 8) = some v) (s : Nat) (u : Bool) (hu : unpN v = some (s, u)) (hs : 32 ≤ s ∧ s ≤ 16384) (hob : 0 ≤ o ∧ o ≤ 16384) (xo xs : Nat) (xu : Bool) (hx : getB bs (o - (s : Int)) = some ⟨xo, xs, xu⟩) (hne : xs ≠ s) :
    Calls Try.prog 10 #[.pointer (some ⟨g, 0, none⟩), .int .i64 o] w fun e w' => e = .returned (.tuple #[bkV none, errV false 3]) ∧ Below w.heap.size w w' := by
  obtain ⟨w1, hw1⟩ : ∃ w1, w.alloc (.cells #[.int .i64 0, .int .i64 0, .bool false] 25) = w1 := ⟨_, rfl⟩
  have hb1 : Below w.heap.size w w1 := by rw [← hw1]; exact (Below.refl _ _).alloc (Nat.le_refl _) _
  have hn1 : w1.heap[w.heap.size]? = some (.cells #[.int .i64 0, .int .i64 0, .bool false] 25 (0, 0)) := by rw [← hw1]; exact heap_alloc_new w _
  have h1 := h.below hb1
  have HA := Lib.hid (address_any h1 o)
  have hs8 : IntKind.u64.wrap ((adr base o : Int) - 8) = (adr base (o - 8) : Int) := by rw [IntKind.wrap_u64]; unfold adr; omega
  have HS8 := Lib.hid hs8
  have hwd := word_at h1 hb hl (o - 8) (by omega) _ hv
  dsimp only [wdV] at hwd
  have HW := Lib.hid hwd
  have hup := tunpack_any w1 v hvl
  rw [hu] at hup
  dsimp only [unpV] at hup
  have HU := Lib.hid hup
  have hg := getC w1 g base cap c A bs (o - (s : Int)) _ h1 hb hl (by omega) hx
  dsimp only [BlkTold, bkV, Bk.val, Option.isSome, errV] at hg
  have HG := Lib.hid hg
  have hq : ((xs : Int) != (s : Int)) = true := by rw [bne_iff_ne]; omega
  have HW1 := Lib.hid hw1
  have HB1 := Lib.hid hb1
  have HN1 := Lib.hid hn1
  clear hv hwd hu hup hx hg hne hs8 hw1 hb1 hn1 h1 h
  go_enter Try.func10, Try.ntmps10
  go_wp2_with fail
  rw [HW1.out]
  with_reducible refine HA.out.mono ?_
  rintro e w2 ⟨rfl, rfl⟩
  go_wp2_with fail
  rw [HS8.out]
  with_reducible refine HW.out.mono ?_
  rintro e w2 ⟨rfl, rfl⟩
  go_wp2_with fail
  with_reducible refine HU.out.mono ?_
  rintro e w2 ⟨rfl, rfl⟩
  go_wp2_with fail
  with_reducible refine HG.out.mono ?_
  rintro e w2 ⟨rfl, hb2⟩
  have hlt := Nat.lt_of_lt_of_le (heap_lt' HN1.out) hb2.size
  have hn2 := (hb2.block _ (heap_lt' HN1.out)).trans HN1.out
  have hb02 : Below w.heap.size w w2 := HB1.out.trans (hb2.mono HB1.out.size)
  obtain ⟨⟨c0, c1, c2⟩, f0, f1, f2⟩ := blk_cells hn2
  have HN2 := Lib.hid hn2
  have HB2 := Lib.hid hb02
  clear hn2 hb02 hb2
  go_wp2
  (try simp only [Exit.inBlock, Exit.then])
  refine blk_ret (x := errV false 3) (g := w.heap.size) (o := 0) (s := 0) (b := false) Try.results10 ?_ ?_ ?_ ?_ ?_
  · rfl
  · rfl
  · rfl
  · exact (((Below.refl _ _).alloc (Nat.le_refl _) _).block _ (by simp [World.setCell]; omega)).trans (blk_set HN2.out _ _ _)
  · exact ⟨rfl, (((HB2.out.setCell (Nat.le_refl _) _).setCell (Nat.le_refl _) _).setCell (Nat.le_refl _) _).alloc (by simp [World.setCell]; omega) _⟩

set_option maxHeartbeats 1000000 in
theorem ahead_5 (h : Ar w 73 g base cap A c bs) (hb : base ≤ 4611686018427387904) (hl : bs.length ≤ 16384) (o : Int) (ho : -9223372036854775808 ≤ o ∧ o ≤ 9223372036854775807) (v : Nat) (hvl : v < 18446744073709551616) (hv : word? bs (o - 8) = some v) (s : Nat) (u : Bool) (hu : unpN v = some (s, u)) (hs : 32 ≤ s ∧ s ≤ 16384) (hob : 0 ≤ o ∧ o ≤ 16384) (xo : Nat) (xu : Bool) (hx : getB bs (o - (s : Int)) = some ⟨xo, s, xu⟩) :
    Calls Try.prog 10 #[.pointer (some ⟨g, 0, none⟩), .int .i64 o] w fun e w' => e = .returned (.tuple #[bkV (some ⟨xo, s, xu⟩), errV true 3]) ∧ Below w.heap.size w w' := by
  obtain ⟨w1, hw1⟩ : ∃ w1, w.alloc (.cells #[.int .i64 0, .int .i64 0, .bool false] 25) = w1 := ⟨_, rfl⟩
  have hb1 : Below w.heap.size w w1 := by rw [← hw1]; exact (Below.refl _ _).alloc (Nat.le_refl _) _
  have hn1 : w1.heap[w.heap.size]? = some (.cells #[.int .i64 0, .int .i64 0, .bool false] 25 (0, 0)) := by rw [← hw1]; exact heap_alloc_new w _
  have h1 := h.below hb1
  have HA := Lib.hid (address_any h1 o)
  have hs8 : IntKind.u64.wrap ((adr base o : Int) - 8) = (adr base (o - 8) : Int) := by rw [IntKind.wrap_u64]; unfold adr; omega
  have HS8 := Lib.hid hs8
  have hwd := word_at h1 hb hl (o - 8) (by omega) _ hv
  dsimp only [wdV] at hwd
  have HW := Lib.hid hwd
  have hup := tunpack_any w1 v hvl
  rw [hu] at hup
  dsimp only [unpV] at hup
  have HU := Lib.hid hup
  have hg := getC w1 g base cap c A bs (o - (s : Int)) _ h1 hb hl (by omega) hx
  dsimp only [BlkTold, bkV, Bk.val, Option.isSome, errV] at hg
  have HG := Lib.hid hg
  have HW1 := Lib.hid hw1
  have HB1 := Lib.hid hb1
  have HN1 := Lib.hid hn1
  clear hv hwd hu hup hx hg hs8 hw1 hb1 hn1 h1 h
  go_enter Try.func10, Try.ntmps10
  go_wp2_with fail
  rw [HW1.out]
  with_reducible refine HA.out.mono ?_
  rintro e w2 ⟨rfl, rfl⟩
  go_wp2_with fail
  rw [HS8.out]
  with_reducible refine HW.out.mono ?_
  rintro e w2 ⟨rfl, rfl⟩
  go_wp2_with fail
  with_reducible refine HU.out.mono ?_
  rintro e w2 ⟨rfl, rfl⟩
  go_wp2_with fail
  with_reducible refine HG.out.mono ?_
  rintro e w2 ⟨rfl, hb2⟩
  have hlt := Nat.lt_of_lt_of_le (heap_lt' HN1.out) hb2.size
  have hn2 := (hb2.block _ (heap_lt' HN1.out)).trans HN1.out
  have hb02 : Below w.heap.size w w2 := HB1.out.trans (hb2.mono HB1.out.size)
  obtain ⟨⟨c0, c1, c2⟩, f0, f1, f2⟩ := blk_cells hn2
  have HN2 := Lib.hid hn2
  have HB2 := Lib.hid hb02
  clear hn2 hb02 hb2
  go_wp2
  (try simp only [Exit.inBlock, Exit.then])
  refine blk_ret (x := errV true 3) (g := w.heap.size) (o := (xo : Int)) (s := (s : Int)) (b := xu) Try.results10 ?_ ?_ ?_ ?_ ?_
  · rfl
  · rfl
  · rfl
  · exact (((Below.refl _ _).alloc (Nat.le_refl _) _).block _ (by simp [World.setCell]; omega)).trans (blk_set HN2.out _ _ _)
  · exact ⟨rfl, (((HB2.out.setCell (Nat.le_refl _) _).setCell (Nat.le_refl _) _).setCell (Nat.le_refl _) _).alloc (by simp [World.setCell]; omega) _⟩

end
theorem aheadC : AheadC := by
  intro w g base cap c A bs o x h hb hl ho hx
  subst hx
  unfold BlkTold
  rw [aheadB_eq]
  cases hv : word? bs (o - 8) with
  | none => exact ahead_1 h hb hl o ho hv
  | some v =>
    have h8 : 0 ≤ o - 8 ∧ o - 8 + 8 ≤ bs.length := by
      unfold word? at hv
      split at hv
      · assumption
      · cases hv
    have hvl : v < 18446744073709551616 := by
      have hvi : some (wordN bs (o - 8).toNat) = some v := by rw [← hv]; unfold word?; rw [if_pos h8]
      rw [← Option.some.inj hvi]
      exact wordN_lt _ _
    dsimp only
    cases hu : unpN v with
    | none => exact ahead_2 h hb hl o ho v hvl hv hu
    | some su =>
      obtain ⟨s, u⟩ := su
      have hss := (isSz_iff _).1 (unpN_some hu).1
      dsimp only
      cases hx : getB bs (o - (s : Int)) with
      | none => exact ahead_3 h hb hl o ho v hvl hv s u hu (by omega) (by omega) hx
      | some x =>
        obtain ⟨xo, xs, xu⟩ := x
        dsimp only
        by_cases hs : xs = s
        · subst hs
          rw [if_pos rfl]
          exact ahead_5 h hb hl o ho v hvl hv xs u hu (by omega) (by omega) xo xu hx
        · rw [if_neg hs]
          exact ahead_4 h hb hl o ho v hvl hv s u hu (by omega) (by omega) xo xs xu hx hs
end Go.Proofs.Ytodbakpjibcmiaa
