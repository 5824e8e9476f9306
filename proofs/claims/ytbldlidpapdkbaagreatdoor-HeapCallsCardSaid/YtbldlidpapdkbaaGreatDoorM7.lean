/- Texts of mine, joined: Spec12, Tak1, Tak2, Tak3, Tak4, Tak5, Is, Spec13, Rez1. -/
import Derived.WalkKit
import Derived.LaidEql
import Derived.Stop.Asserts
import Derived.Test.YtbldlidpapdkbaaGreatDoorM6

/- What the program's allocation (layer 12) is to tell. -/
namespace Go.Proofs.YtbldlidpapdkbaaGreatDoor
open Go.RowKit

/-- The arena is another heap, or there is an error, and all is as it was. -/
def Turned (k : Int) (g base cap : Nat) (A : Option Addr) (bs : List UInt8) (H : Hp) (y : Option Hp) (w : World) (e : Ending) (w' : World) : Prop :=
  match y with
  | none => e = .returned (errV false k) ∧ Below w.heap.size w w'
  | some H' => e = .returned (errV true k) ∧ ∃ out, Became 80 g base cap A out w w' ∧ Rt out H' ∧ Held H bs H' out
def TurnedAt (g base cap : Nat) (A : Option Addr) (bs : List UInt8) (H : Hp) (y : Option Nat × Hp) (w : World) (e : Ending) (w' : World) : Prop :=
  match y.1 with
  | none => e = .returned (.tuple #[.int .i64 0, errV false 5]) ∧ Below w.heap.size w w'
  | some o => e = .returned (.tuple #[.int .i64 (o : Int), errV true 5]) ∧ ∃ out, Became 80 g base cap A out w w' ∧ Rt out y.2 ∧ Held H bs y.2 out

def TakeK : Prop := ∀ (w : World) (g base cap c : Nat) (A : Option Addr) (bs : List UInt8) (H : Hp) (s : Int), Ar w 80 g base cap A c bs → base ≤ 4611686018427387904 → cap ≤ 16384 → H.cap = cap → Rt bs H → (-9223372036854775808 ≤ s ∧ s ≤ 9223372036854775807) →
  (isSz s = false → Calls Tryz.prog 85 #[.pointer (some ⟨g, 0, none⟩), .int .i64 s] w fun e w' => e = .returned (.tuple #[.int .i64 0, errV false 1]) ∧ Below w.heap.size w w') ∧
  (isSz s = true → Calls Tryz.prog 85 #[.pointer (some ⟨g, 0, none⟩), .int .i64 s] w fun e w' => TurnedAt g base cap A bs H (H.take s.toNat) w e w')
def GiveK : Prop := ∀ (w : World) (g base cap c : Nat) (A : Option Addr) (bs : List UInt8) (H : Hp) (o : Int), Ar w 80 g base cap A c bs → base ≤ 4611686018427387904 → cap ≤ 16384 → H.cap = cap → Rt bs H → (-9223372036854775808 ≤ o ∧ o ≤ 9223372036854775807) →
  Calls Tryz.prog 55 #[.pointer (some ⟨g, 0, none⟩), .int .i64 o] w fun e w' => Turned 3 g base cap A bs H (H.giveO o) w e w'
def TrimK : Prop := ∀ (w : World) (g base cap c : Nat) (A : Option Addr) (bs : List UInt8) (H : Hp) (o s : Int), Ar w 80 g base cap A c bs → base ≤ 4611686018427387904 → cap ≤ 16384 → H.cap = cap → Rt bs H → (-9223372036854775808 ≤ o ∧ o ≤ 9223372036854775807) → (-9223372036854775808 ≤ s ∧ s ≤ 9223372036854775807) →
  (isSz s = false → Calls Tryz.prog 88 #[.pointer (some ⟨g, 0, none⟩), .int .i64 o, .int .i64 s] w fun e w' => e = .returned (errV false 1) ∧ Below w.heap.size w w') ∧
  (isSz s = true → Calls Tryz.prog 88 #[.pointer (some ⟨g, 0, none⟩), .int .i64 o, .int .i64 s] w fun e w' => Turned 3 g base cap A bs H (H.trimO o s.toNat) w e w')
def UsedK : Prop := ∀ (w : World) (g base cap c : Nat) (A : Option Addr) (bs : List UInt8) (H : Hp) (o : Int), Ar w 80 g base cap A c bs → base ≤ 4611686018427387904 → cap ≤ 16384 → H.cap = cap → Rt bs H → (-9223372036854775808 ≤ o ∧ o ≤ 9223372036854775807) →
  Calls Tryz.prog 86 #[.pointer (some ⟨g, 0, none⟩), .int .i64 o] w fun e w' => BlkTold ((usedB H.blks o).map (bkAt H.blks)) w e w'
end Go.Proofs.YtbldlidpapdkbaaGreatDoor

/- The program's taking (layer 12): the free block that stands at an offset, or ends there; taking one out of its list; these and other calls behind steps that changed the arena (gentak1.py). -/
namespace Go.Proofs.YtbldlidpapdkbaaGreatDoor
open Go.RowKit

/-- A free block's value; one of no bytes, if there is none. -/
def frV (o : Int) : Option Bk → Value
  | none => .agg #[.int .i64 o, .int .i64 0, .bool false]
  | some y => .agg #[.int .i64 (y.off : Int), .int .i64 (y.size : Int), .bool false]
set_option maxRecDepth 100000 in
theorem blk_ret1 {fn : Func} {R : Ending → World → Prop} {a : Act} {w : World} {p : Tmp} {g : Nat} {o s : Int} {b : Bool} (hres : fn.results = #[.cell p 82]) (hp : a.tmps.getD p undef = .pointer (some ⟨g, 0, none⟩)) (hd : a.defers = [])
    (hg : w.heap[g]? = some (.cells #[.int .i64 o, .int .i64 s, .bool b] 82 (0, 0))) (hR : R (.returned (.agg #[.int .i64 o, .int .i64 s, .bool b])) w) : bodyPost Tryz.prog fn R .ret a w := by
  refine bodyPost_ret (v := .agg #[.int .i64 o, .int .i64 s, .bool b]) ?_ hd hR
  exact results_cell_row hres _ _ g _ _ _ _ hp hg rfl rfl rfl

section
variable {w : World} {g base cap c : Nat} {A : Option Addr} {bs : List UInt8}
set_option maxRecDepth 100000 in
set_option maxHeartbeats 1000000 in
theorem freeAt_none (h : Ar w 80 g base cap A c bs) (hb : base ≤ 4611686018427387904) (hl : bs.length ≤ 16384) (o : Int) (ho : -9223372036854775808 ≤ o ∧ o ≤ 9223372036854775807) (hy : getB bs o = none) :
    Calls Tryz.prog 115 #[.pointer (some ⟨g, 0, none⟩), .int .i64 o] w fun e w' => e = .returned (frV o none) ∧ Below w.heap.size w w' := by
  obtain ⟨w1, hw1⟩ : ∃ w1, w.alloc (.cells #[.int .i64 0, .int .i64 0, .bool false] 82) = w1 := ⟨_, rfl⟩
  have hb1 : Below w.heap.size w w1 := by rw [← hw1]; exact (Below.refl _ _).alloc (Nat.le_refl _) _
  have hn1 : w1.heap[w.heap.size]? = some (.cells #[.int .i64 0, .int .i64 0, .bool false] 82 (0, 0)) := by rw [← hw1]; exact heap_alloc_new w _
  have h1 := h.below hb1
  have hG := getC w1 g base cap c A bs o _ h1 hb hl ho hy
  dsimp only [BlkTold, bkV, Bk.val, Option.isSome, errV] at hG
  have HG := Lib.hid hG
  have HW1 := Lib.hid hw1
  have HB1 := Lib.hid hb1
  have HN1 := Lib.hid hn1
  clear hG hy hw1 hb1 hn1 h1 h
  go_enter Tryz.func115, Tryz.ntmps115
  go_wp2_with fail
  rw [HW1.out]
  with_reducible refine HG.out.mono ?_
  rintro e w2 ⟨rfl, hb2⟩
  have hn2 := (hb2.block w.heap.size (heap_lt HN1.out)).trans HN1.out
  have HB2 := Lib.hid (HB1.out.trans (hb2.mono HB1.out.size))
  have HN2 := Lib.hid hn2
  clear hb2 hn2 HG
  obtain ⟨⟨c0, c1, c2⟩, f0, f1, f2⟩ := blk_cells HN2.out
  have hlt := heap_lt' HN2.out
  go_wp2
  (try simp only [Exit.inBlock, Exit.then])
  refine blk_ret1 (g := w.heap.size) (o := o) (s := 0) (b := false) Tryz.results115 ?_ ?_ ((heap_alloc_old _ _ (heap_lt (blk_set HN2.out _ _ _))).trans (blk_set HN2.out _ _ _)) ?_
  · rfl
  · rfl
  · refine ⟨rfl, Below.alloc (((HB2.out.setCell ?_ _).setCell ?_ _).setCell ?_ _) ?_ _⟩
    · exact Nat.le_refl _
    · exact Nat.le_refl _
    · exact Nat.le_refl _
    · simp only [World.setCell]
      have h9 := HB2.out.size
      simpa using h9

set_option maxRecDepth 100000 in
set_option maxHeartbeats 1000000 in
theorem freeAt_used (h : Ar w 80 g base cap A c bs) (hb : base ≤ 4611686018427387904) (hl : bs.length ≤ 16384) (o : Int) (ho : -9223372036854775808 ≤ o ∧ o ≤ 9223372036854775807) (xo xs : Nat) (hy : getB bs o = some ⟨xo, xs, true⟩) :
    Calls Tryz.prog 115 #[.pointer (some ⟨g, 0, none⟩), .int .i64 o] w fun e w' => e = .returned (frV o none) ∧ Below w.heap.size w w' := by
  obtain ⟨w1, hw1⟩ : ∃ w1, w.alloc (.cells #[.int .i64 0, .int .i64 0, .bool false] 82) = w1 := ⟨_, rfl⟩
  have hb1 : Below w.heap.size w w1 := by rw [← hw1]; exact (Below.refl _ _).alloc (Nat.le_refl _) _
  have hn1 : w1.heap[w.heap.size]? = some (.cells #[.int .i64 0, .int .i64 0, .bool false] 82 (0, 0)) := by rw [← hw1]; exact heap_alloc_new w _
  have h1 := h.below hb1
  have hG := getC w1 g base cap c A bs o _ h1 hb hl ho hy
  dsimp only [BlkTold, bkV, Bk.val, Option.isSome, errV] at hG
  have HG := Lib.hid hG
  have HW1 := Lib.hid hw1
  have HB1 := Lib.hid hb1
  have HN1 := Lib.hid hn1
  clear hG hy hw1 hb1 hn1 h1 h
  go_enter Tryz.func115, Tryz.ntmps115
  go_wp2_with fail
  rw [HW1.out]
  with_reducible refine HG.out.mono ?_
  rintro e w2 ⟨rfl, hb2⟩
  have hn2 := (hb2.block w.heap.size (heap_lt HN1.out)).trans HN1.out
  have HB2 := Lib.hid (HB1.out.trans (hb2.mono HB1.out.size))
  have HN2 := Lib.hid hn2
  clear hb2 hn2 HG
  obtain ⟨⟨c0, c1, c2⟩, f0, f1, f2⟩ := blk_cells HN2.out
  have hlt := heap_lt' HN2.out
  go_wp2
  (try simp only [Exit.inBlock, Exit.then])
  refine blk_ret1 (g := w.heap.size) (o := o) (s := 0) (b := false) Tryz.results115 ?_ ?_ ((heap_alloc_old _ _ (heap_lt (blk_set HN2.out _ _ _))).trans (blk_set HN2.out _ _ _)) ?_
  · rfl
  · rfl
  · refine ⟨rfl, Below.alloc (((HB2.out.setCell ?_ _).setCell ?_ _).setCell ?_ _) ?_ _⟩
    · exact Nat.le_refl _
    · exact Nat.le_refl _
    · exact Nat.le_refl _
    · simp only [World.setCell]
      have h9 := HB2.out.size
      simpa using h9

set_option maxRecDepth 100000 in
set_option maxHeartbeats 1000000 in
theorem freeAt_free (h : Ar w 80 g base cap A c bs) (hb : base ≤ 4611686018427387904) (hl : bs.length ≤ 16384) (o : Int) (ho : -9223372036854775808 ≤ o ∧ o ≤ 9223372036854775807) (xo xs : Nat) (hy : getB bs o = some ⟨xo, xs, false⟩) :
    Calls Tryz.prog 115 #[.pointer (some ⟨g, 0, none⟩), .int .i64 o] w fun e w' => e = .returned (frV o (some ⟨xo, xs, false⟩)) ∧ Below w.heap.size w w' := by
  obtain ⟨w1, hw1⟩ : ∃ w1, w.alloc (.cells #[.int .i64 0, .int .i64 0, .bool false] 82) = w1 := ⟨_, rfl⟩
  have hb1 : Below w.heap.size w w1 := by rw [← hw1]; exact (Below.refl _ _).alloc (Nat.le_refl _) _
  have hn1 : w1.heap[w.heap.size]? = some (.cells #[.int .i64 0, .int .i64 0, .bool false] 82 (0, 0)) := by rw [← hw1]; exact heap_alloc_new w _
  have h1 := h.below hb1
  have hG := getC w1 g base cap c A bs o _ h1 hb hl ho hy
  dsimp only [BlkTold, bkV, Bk.val, Option.isSome, errV] at hG
  have HG := Lib.hid hG
  have HW1 := Lib.hid hw1
  have HB1 := Lib.hid hb1
  have HN1 := Lib.hid hn1
  clear hG hy hw1 hb1 hn1 h1 h
  go_enter Tryz.func115, Tryz.ntmps115
  go_wp2_with fail
  rw [HW1.out]
  with_reducible refine HG.out.mono ?_
  rintro e w2 ⟨rfl, hb2⟩
  have hn2 := (hb2.block w.heap.size (heap_lt HN1.out)).trans HN1.out
  have HB2 := Lib.hid (HB1.out.trans (hb2.mono HB1.out.size))
  have HN2 := Lib.hid hn2
  clear hb2 hn2 HG
  obtain ⟨⟨c0, c1, c2⟩, f0, f1, f2⟩ := blk_cells HN2.out
  have hlt := heap_lt' HN2.out
  go_wp2
  (try simp only [Exit.inBlock, Exit.then])
  refine blk_ret1 (g := w.heap.size) (o := (xo : Int)) (s := (xs : Int)) (b := false) Tryz.results115 ?_ ?_ ((heap_alloc_old _ _ (heap_lt (blk_set HN2.out _ _ _))).trans (blk_set HN2.out _ _ _)) ?_
  · rfl
  · rfl
  · refine ⟨rfl, Below.alloc (((HB2.out.setCell ?_ _).setCell ?_ _).setCell ?_ _) ?_ _⟩
    · exact Nat.le_refl _
    · exact Nat.le_refl _
    · exact Nat.le_refl _
    · simp only [World.setCell]
      have h9 := HB2.out.size
      simpa using h9

theorem freeAt_any (h : Ar w 80 g base cap A c bs) (hb : base ≤ 4611686018427387904) (hl : bs.length ≤ 16384) (o : Int) (ho : -9223372036854775808 ≤ o ∧ o ≤ 9223372036854775807) (y : Option Bk) (hy : frO (getB bs o) = y) :
    Calls Tryz.prog 115 #[.pointer (some ⟨g, 0, none⟩), .int .i64 o] w fun e w' => e = .returned (frV o y) ∧ Below w.heap.size w w' := by
  subst hy
  cases hg : getB bs o with
  | none => exact freeAt_none h hb hl o ho hg
  | some x =>
    obtain ⟨xo, xs, xu⟩ := x
    cases xu with
    | true => exact freeAt_used h hb hl o ho xo xs hg
    | false => exact freeAt_free h hb hl o ho xo xs hg
set_option maxRecDepth 100000 in
set_option maxHeartbeats 1000000 in
theorem freeAhead_none (h : Ar w 80 g base cap A c bs) (hb : base ≤ 4611686018427387904) (hl : bs.length ≤ 16384) (o : Int) (ho : -9223372036854775808 ≤ o ∧ o ≤ 9223372036854775807) (hy : aheadB bs o = none) :
    Calls Tryz.prog 116 #[.pointer (some ⟨g, 0, none⟩), .int .i64 o] w fun e w' => e = .returned (frV o none) ∧ Below w.heap.size w w' := by
  obtain ⟨w1, hw1⟩ : ∃ w1, w.alloc (.cells #[.int .i64 0, .int .i64 0, .bool false] 82) = w1 := ⟨_, rfl⟩
  have hb1 : Below w.heap.size w w1 := by rw [← hw1]; exact (Below.refl _ _).alloc (Nat.le_refl _) _
  have hn1 : w1.heap[w.heap.size]? = some (.cells #[.int .i64 0, .int .i64 0, .bool false] 82 (0, 0)) := by rw [← hw1]; exact heap_alloc_new w _
  have h1 := h.below hb1
  have hG := aheadC w1 g base cap c A bs o _ h1 hb hl ho hy
  dsimp only [BlkTold, bkV, Bk.val, Option.isSome, errV] at hG
  have HG := Lib.hid hG
  have HW1 := Lib.hid hw1
  have HB1 := Lib.hid hb1
  have HN1 := Lib.hid hn1
  clear hG hy hw1 hb1 hn1 h1 h
  go_enter Tryz.func116, Tryz.ntmps116
  go_wp2_with fail
  rw [HW1.out]
  with_reducible refine HG.out.mono ?_
  rintro e w2 ⟨rfl, hb2⟩
  have hn2 := (hb2.block w.heap.size (heap_lt HN1.out)).trans HN1.out
  have HB2 := Lib.hid (HB1.out.trans (hb2.mono HB1.out.size))
  have HN2 := Lib.hid hn2
  clear hb2 hn2 HG
  obtain ⟨⟨c0, c1, c2⟩, f0, f1, f2⟩ := blk_cells HN2.out
  have hlt := heap_lt' HN2.out
  go_wp2
  (try simp only [Exit.inBlock, Exit.then])
  refine blk_ret1 (g := w.heap.size) (o := o) (s := 0) (b := false) Tryz.results116 ?_ ?_ ((heap_alloc_old _ _ (heap_lt (blk_set HN2.out _ _ _))).trans (blk_set HN2.out _ _ _)) ?_
  · rfl
  · rfl
  · refine ⟨rfl, Below.alloc (((HB2.out.setCell ?_ _).setCell ?_ _).setCell ?_ _) ?_ _⟩
    · exact Nat.le_refl _
    · exact Nat.le_refl _
    · exact Nat.le_refl _
    · simp only [World.setCell]
      have h9 := HB2.out.size
      simpa using h9

set_option maxRecDepth 100000 in
set_option maxHeartbeats 1000000 in
theorem freeAhead_used (h : Ar w 80 g base cap A c bs) (hb : base ≤ 4611686018427387904) (hl : bs.length ≤ 16384) (o : Int) (ho : -9223372036854775808 ≤ o ∧ o ≤ 9223372036854775807) (xo xs : Nat) (hy : aheadB bs o = some ⟨xo, xs, true⟩) :
    Calls Tryz.prog 116 #[.pointer (some ⟨g, 0, none⟩), .int .i64 o] w fun e w' => e = .returned (frV o none) ∧ Below w.heap.size w w' := by
  obtain ⟨w1, hw1⟩ : ∃ w1, w.alloc (.cells #[.int .i64 0, .int .i64 0, .bool false] 82) = w1 := ⟨_, rfl⟩
  have hb1 : Below w.heap.size w w1 := by rw [← hw1]; exact (Below.refl _ _).alloc (Nat.le_refl _) _
  have hn1 : w1.heap[w.heap.size]? = some (.cells #[.int .i64 0, .int .i64 0, .bool false] 82 (0, 0)) := by rw [← hw1]; exact heap_alloc_new w _
  have h1 := h.below hb1
  have hG := aheadC w1 g base cap c A bs o _ h1 hb hl ho hy
  dsimp only [BlkTold, bkV, Bk.val, Option.isSome, errV] at hG
  have HG := Lib.hid hG
  have HW1 := Lib.hid hw1
  have HB1 := Lib.hid hb1
  have HN1 := Lib.hid hn1
  clear hG hy hw1 hb1 hn1 h1 h
  go_enter Tryz.func116, Tryz.ntmps116
  go_wp2_with fail
  rw [HW1.out]
  with_reducible refine HG.out.mono ?_
  rintro e w2 ⟨rfl, hb2⟩
  have hn2 := (hb2.block w.heap.size (heap_lt HN1.out)).trans HN1.out
  have HB2 := Lib.hid (HB1.out.trans (hb2.mono HB1.out.size))
  have HN2 := Lib.hid hn2
  clear hb2 hn2 HG
  obtain ⟨⟨c0, c1, c2⟩, f0, f1, f2⟩ := blk_cells HN2.out
  have hlt := heap_lt' HN2.out
  go_wp2
  (try simp only [Exit.inBlock, Exit.then])
  refine blk_ret1 (g := w.heap.size) (o := o) (s := 0) (b := false) Tryz.results116 ?_ ?_ ((heap_alloc_old _ _ (heap_lt (blk_set HN2.out _ _ _))).trans (blk_set HN2.out _ _ _)) ?_
  · rfl
  · rfl
  · refine ⟨rfl, Below.alloc (((HB2.out.setCell ?_ _).setCell ?_ _).setCell ?_ _) ?_ _⟩
    · exact Nat.le_refl _
    · exact Nat.le_refl _
    · exact Nat.le_refl _
    · simp only [World.setCell]
      have h9 := HB2.out.size
      simpa using h9

set_option maxRecDepth 100000 in
set_option maxHeartbeats 1000000 in
theorem freeAhead_free (h : Ar w 80 g base cap A c bs) (hb : base ≤ 4611686018427387904) (hl : bs.length ≤ 16384) (o : Int) (ho : -9223372036854775808 ≤ o ∧ o ≤ 9223372036854775807) (xo xs : Nat) (hy : aheadB bs o = some ⟨xo, xs, false⟩) :
    Calls Tryz.prog 116 #[.pointer (some ⟨g, 0, none⟩), .int .i64 o] w fun e w' => e = .returned (frV o (some ⟨xo, xs, false⟩)) ∧ Below w.heap.size w w' := by
  obtain ⟨w1, hw1⟩ : ∃ w1, w.alloc (.cells #[.int .i64 0, .int .i64 0, .bool false] 82) = w1 := ⟨_, rfl⟩
  have hb1 : Below w.heap.size w w1 := by rw [← hw1]; exact (Below.refl _ _).alloc (Nat.le_refl _) _
  have hn1 : w1.heap[w.heap.size]? = some (.cells #[.int .i64 0, .int .i64 0, .bool false] 82 (0, 0)) := by rw [← hw1]; exact heap_alloc_new w _
  have h1 := h.below hb1
  have hG := aheadC w1 g base cap c A bs o _ h1 hb hl ho hy
  dsimp only [BlkTold, bkV, Bk.val, Option.isSome, errV] at hG
  have HG := Lib.hid hG
  have HW1 := Lib.hid hw1
  have HB1 := Lib.hid hb1
  have HN1 := Lib.hid hn1
  clear hG hy hw1 hb1 hn1 h1 h
  go_enter Tryz.func116, Tryz.ntmps116
  go_wp2_with fail
  rw [HW1.out]
  with_reducible refine HG.out.mono ?_
  rintro e w2 ⟨rfl, hb2⟩
  have hn2 := (hb2.block w.heap.size (heap_lt HN1.out)).trans HN1.out
  have HB2 := Lib.hid (HB1.out.trans (hb2.mono HB1.out.size))
  have HN2 := Lib.hid hn2
  clear hb2 hn2 HG
  obtain ⟨⟨c0, c1, c2⟩, f0, f1, f2⟩ := blk_cells HN2.out
  have hlt := heap_lt' HN2.out
  go_wp2
  (try simp only [Exit.inBlock, Exit.then])
  refine blk_ret1 (g := w.heap.size) (o := (xo : Int)) (s := (xs : Int)) (b := false) Tryz.results116 ?_ ?_ ((heap_alloc_old _ _ (heap_lt (blk_set HN2.out _ _ _))).trans (blk_set HN2.out _ _ _)) ?_
  · rfl
  · rfl
  · refine ⟨rfl, Below.alloc (((HB2.out.setCell ?_ _).setCell ?_ _).setCell ?_ _) ?_ _⟩
    · exact Nat.le_refl _
    · exact Nat.le_refl _
    · exact Nat.le_refl _
    · simp only [World.setCell]
      have h9 := HB2.out.size
      simpa using h9

theorem freeAhead_any (h : Ar w 80 g base cap A c bs) (hb : base ≤ 4611686018427387904) (hl : bs.length ≤ 16384) (o : Int) (ho : -9223372036854775808 ≤ o ∧ o ≤ 9223372036854775807) (y : Option Bk) (hy : frO (aheadB bs o) = y) :
    Calls Tryz.prog 116 #[.pointer (some ⟨g, 0, none⟩), .int .i64 o] w fun e w' => e = .returned (frV o y) ∧ Below w.heap.size w w' := by
  subst hy
  cases hg : aheadB bs o with
  | none => exact freeAhead_none h hb hl o ho hg
  | some x =>
    obtain ⟨xo, xs, xu⟩ := x
    cases xu with
    | true => exact freeAhead_used h hb hl o ho xo xs hg
    | false => exact freeAhead_free h hb hl o ho xo xs hg

set_option maxHeartbeats 1000000 in
theorem takeOut_none (o : Int) :
    Calls Tryz.prog 117 #[.pointer (some ⟨g, 0, none⟩), .agg #[.int .i64 o, .int .i64 0, .bool false]] w fun e w' => e = .returned (.tuple #[]) ∧ Below w.heap.size w w' := by
  go_enter Tryz.func117, Tryz.ntmps117
  go_wp2
  go_end0
  exact ⟨rfl, (Below.refl _ _).alloc (Nat.le_refl _) _⟩
set_option maxHeartbeats 1000000 in
theorem takeOut_some (h : Ar w 80 g base cap A c bs) (hb : base ≤ 4611686018427387904) (hl : bs.length ≤ 16384) (o s : Nat) (ho : (o : Int) ≤ 9223372036854775807) (hs : (0 : Int) < (s : Int)) (out : List UInt8) (hy : takeB bs (o : Int) = some out) :
    Calls Tryz.prog 117 #[.pointer (some ⟨g, 0, none⟩), .agg #[.int .i64 (o : Int), .int .i64 (s : Int), .bool false]] w fun e w' => e = .returned (.tuple #[]) ∧ Became 80 g base cap A out w w' := by
  obtain ⟨w1, hw1⟩ : ∃ w1, w.alloc (.cells #[.int .i64 (o : Int), .int .i64 (s : Int), .bool false] 82) = w1 := ⟨_, rfl⟩
  have hb1 : Below w.heap.size w w1 := by rw [← hw1]; exact (Below.refl _ _).alloc (Nat.le_refl _) _
  have hT := takeC w1 g base cap c A bs (o : Int) _ (h.below hb1) hb hl (by omega) hy
  dsimp only [Done, errV] at hT
  have HT := Lib.hid hT
  have HW1 := Lib.hid hw1
  have HB1 := Lib.hid hb1
  clear hT hy hw1 hb1 h
  go_enter Tryz.func117, Tryz.ntmps117
  go_wp2_with fail
  rw [HW1.out]
  with_reducible refine HT.out.mono ?_
  rintro e w2 ⟨rfl, hb2⟩
  have HB2 := Lib.hid (hb2.after HB1.out)
  clear hb2 HT
  go_wp2
  go_end0
  exact ⟨rfl, HB2.out⟩
end

/-- A local block stays as it is. -/
def Loc (w w' : World) : Prop := ∀ (k : Nat) (cs : Array Value), w.heap[k]? = some (.cells cs 82 (0, 0)) → w'.heap[k]? = some (.cells cs 82 (0, 0))
theorem Loc.refl (w : World) : Loc w w := fun _ _ h => h
theorem Loc.trans {w w1 w2 : World} (h : Loc w w1) (k : Loc w1 w2) : Loc w w2 := fun i cs hi => k i cs (h i cs hi)
theorem Loc.below {w w' : World} (h : Below w.heap.size w w') : Loc w w' := fun i _ hi => (h.block i (heap_lt hi)).trans hi
theorem ar_ne {w : World} {g base cap c : Nat} {A : Option Addr} {bs : List UInt8} (h : Ar w 80 g base cap A c bs) {k : Nat} {cs : Array Value} (hk : w.heap[k]? = some (.cells cs 82 (0, 0))) : ¬ foot g A k := by
  rintro (rfl | ⟨a, ea, rfl⟩)
  · have h1 := h.obj
    rw [hk] at h1
    injection h1 with h1
    injection h1 with _ h2 _
    exact absurd h2 (by decide)
  · obtain ⟨h', e, cur, h1, _⟩ := h.row ea
    rw [e] at hk
    have hk : w.heap[h']? = some (.cells cs 82 (0, 0)) := hk
    rw [hk] at h1
    injection h1 with h1
    injection h1 with _ h2 _
    exact absurd h2 (by decide)
theorem Loc.tch {w w' : World} {g base cap c : Nat} {A : Option Addr} {bs : List UInt8} (h : Ar w 80 g base cap A c bs) (ht : Tch (foot g A) w w') : Loc w w' := fun i _ hi => (ht.block i (heap_lt hi) (ar_ne h hi)).trans hi

section
variable {w w1 : World} {g base cap : Nat} {A : Option Addr} {b1 b2 : List UInt8}
/-- A local block is changed. -/
theorem became_loc {k : Nat} {cs : Array Value} (h : Became 80 g base cap A b1 w w1) (hk : w1.heap[k]? = some (.cells cs 82 (0, 0))) (hB : w.heap.size ≤ k) (i : Nat) (v : Value) : Became 80 g base cap A b1 w (w1.setCell ⟨k, i, none⟩ v) := by
  obtain ⟨A', c', a, tc, kk⟩ := h
  have hne := ar_ne a hk
  refine ⟨A', c', a.keep fun q hq => Below.heap_setCell w1 ⟨k, i, none⟩ v q (fun e => by have e : q = k := e; subst e; exact hne hq), ?_, kk⟩
  exact ⟨tc.os, tc.tape, tc.output, by simpa [World.setCell] using tc.size, fun q hq hn => (Below.heap_setCell w1 ⟨k, i, none⟩ v q (fun e => by have e : q = k := e; omega)).trans (tc.block q hq hn)⟩
theorem became_alloc (h : Became 80 g base cap A b1 w w1) (o : Obj) : Became 80 g base cap A b1 w (w1.alloc o) := became_below h ((Below.refl _ _).alloc (Nat.le_refl _) _)
theorem bc_at (h : Became 80 g base cap A b1 w w1) (hb : base ≤ 4611686018427387904) (hl : b1.length ≤ 16384) (o : Int) (ho : -9223372036854775808 ≤ o ∧ o ≤ 9223372036854775807) (y : Option Bk) (hy : frO (getB b1 o) = y) :
    Calls Tryz.prog 115 #[.pointer (some ⟨g, 0, none⟩), .int .i64 o] w1 fun e w2 => e = .returned (frV o y) ∧ Became 80 g base cap A b1 w w2 ∧ Below w1.heap.size w1 w2 := by
  obtain ⟨A', c', a, tc, k⟩ := h
  refine (freeAt_any a hb hl o ho y hy).mono ?_
  rintro e w2 ⟨h1, h2⟩
  exact ⟨h1, became_below ⟨A', c', a, tc, k⟩ h2, h2⟩
theorem bc_ahead (h : Became 80 g base cap A b1 w w1) (hb : base ≤ 4611686018427387904) (hl : b1.length ≤ 16384) (o : Int) (ho : -9223372036854775808 ≤ o ∧ o ≤ 9223372036854775807) (y : Option Bk) (hy : frO (aheadB b1 o) = y) :
    Calls Tryz.prog 116 #[.pointer (some ⟨g, 0, none⟩), .int .i64 o] w1 fun e w2 => e = .returned (frV o y) ∧ Became 80 g base cap A b1 w w2 ∧ Below w1.heap.size w1 w2 := by
  obtain ⟨A', c', a, tc, k⟩ := h
  refine (freeAhead_any a hb hl o ho y hy).mono ?_
  rintro e w2 ⟨h1, h2⟩
  exact ⟨h1, became_below ⟨A', c', a, tc, k⟩ h2, h2⟩
theorem bc_out (h : Became 80 g base cap A b1 w w1) (hb : base ≤ 4611686018427387904) (hl : b1.length ≤ 16384) (o : Int) (y : Option Bk) (hs : ∀ z, y = some z → 0 < z.size ∧ z.off ≤ 16384) (hy : outB b1 y = some b2) :
    Calls Tryz.prog 117 #[.pointer (some ⟨g, 0, none⟩), frV o y] w1 fun e w2 => e = .returned (.tuple #[]) ∧ Became 80 g base cap A b2 w w2 ∧ Loc w1 w2 := by
  cases y with
  | none =>
    injection hy with hy
    subst hy
    refine (takeOut_none o).mono ?_
    rintro e w2 ⟨h1, h2⟩
    exact ⟨h1, became_below h h2, Loc.below h2⟩
  | some z =>
    obtain ⟨A', c', a, tc, k⟩ := h
    have hz := hs z rfl
    refine (takeOut_some a hb hl z.off z.size (by omega) (by omega) b2 hy).mono ?_
    rintro e w2 ⟨h1, h2⟩
    have h2' := h2
    obtain ⟨_, _, _, ht, _⟩ := h2'
    exact ⟨h1, Became.trans a tc k h2, Loc.tch a ht⟩
theorem bc_set (h : Became 80 g base cap A b1 w w1) (hb : base ≤ 4611686018427387904) (hl : b1.length ≤ 16384) (o s : Nat) (u : Bool) (ho : o ≤ 16384) (hs : s ≤ 16384) (hy : setB b1 (o : Int) (s : Int) u = some b2) :
    Calls Tryz.prog 118 #[.pointer (some ⟨g, 0, none⟩), .agg #[.int .i64 (o : Int), .int .i64 (s : Int), .bool u]] w1 fun e w2 => e = .returned .nilIface ∧ Became 80 g base cap A b2 w w2 ∧ Loc w1 w2 := by
  obtain ⟨A', c', a, tc, k⟩ := h
  refine (setC w1 g base cap c' A' b1 (o : Int) (s : Int) u _ a hb hl (by omega) (by omega) hy).mono ?_
  rintro e w2 ⟨h1, h2⟩
  have h2' := h2
  obtain ⟨_, _, _, ht, _⟩ := h2'
  exact ⟨h1, Became.trans a tc k h2, Loc.tch a ht⟩
theorem bc_put (h : Became 80 g base cap A b1 w w1) (hb : base ≤ 4611686018427387904) (hl : b1.length ≤ 16384) (o : Nat) (ho : o ≤ 16384) (hy : putB b1 (o : Int) = some b2) :
    Calls Tryz.prog 83 #[.pointer (some ⟨g, 0, none⟩), .int .i64 (o : Int)] w1 fun e w2 => e = .returned .nilIface ∧ Became 80 g base cap A b2 w w2 ∧ Loc w1 w2 := by
  obtain ⟨A', c', a, tc, k⟩ := h
  refine (putC w1 g base cap c' A' b1 (o : Int) _ a hb hl (by omega) hy).mono ?_
  rintro e w2 ⟨h1, h2⟩
  have h2' := h2
  obtain ⟨_, _, _, ht, _⟩ := h2'
  exact ⟨h1, Became.trans a tc k h2, Loc.tch a ht⟩
theorem bc_grow (h : Became 80 g base cap A b1 w w1) (n : Nat) (hl : b1.length ≤ cap) (hcap : cap ≤ 16384) (hn : b1.length + n ≤ cap) :
    Calls Tryz.prog 32 #[.pointer (some ⟨g, 0, none⟩), .int .i64 (n : Int)] w1 fun e w2 => e = .returned .nilIface ∧ Became 80 g base cap A (b1 ++ List.replicate n 0) w w2 ∧ Loc w1 w2 := by
  obtain ⟨A', c', a, tc, k⟩ := h
  refine (grow_ok a n hl hcap hn).mono ?_
  rintro e w2 ⟨h1, h2⟩
  have h2' := h2
  obtain ⟨_, _, _, ht, _⟩ := h2'
  exact ⟨h1, Became.trans a tc k h2, Loc.tch a ht⟩
end
end Go.Proofs.YtbldlidpapdkbaaGreatDoor

/- The program's giving back (layer 12): a used block becomes free, and one with its free neighbours. -/
namespace Go.Proofs.YtbldlidpapdkbaaGreatDoor
open Go.RowKit

theorem frV_eq (o : Int) (y : Option Bk) : frV o y = .agg #[.int .i64 ((y.map fun z => (z.off : Int)).getD o), .int .i64 (((y.map Bk.size).getD 0 : Nat) : Int), .bool false] := by cases y <;> rfl
theorem setB_range {bs out : List UInt8} {o s : Int} {u : Bool} (h : setB bs o s u = some out) : 184 ≤ o ∧ 32 ≤ s ∧ o + s ≤ bs.length := by
  unfold setB at h
  split at h
  · rename_i hc
    have h1 := (isSz_iff _).1 hc.1
    have h2 := (could_iff _ _ _).1 hc.2
    omega
  · cases h
theorem Rt.bound {bs : List UInt8} {H : Hp} (h : Rt bs H) (hc : H.cap ≤ 16384) : bs.length ≤ 16384 ∧ ∀ y ∈ H.blks, 184 ≤ y.off ∧ 32 ≤ y.size ∧ y.off + y.size ≤ bs.length := by
  have hM := h.md hc
  refine ⟨hM.ls.small, fun y hy => ?_⟩
  have := hM.ls.st.facts hy
  omega

/-- A struct of a block is stored. -/
theorem wpl_blk {ops : Array Oper} {Q : Exit → Act → World → Prop} {o : Oper} {rest : List Oper} {a : Act} {w : World} {x y : Operand} {gx : Nat} {p q : Int} {r : Bool} {v0 v1 v2 : Value} (ho : o.op = .store 82 x y) (hd : o.dst = none)
    (hw : Region.wanted o (yielded ops a.tmps) = true) (hx : a.eval x = .pointer (some ⟨gx, 0, none⟩)) (hy : a.eval y = .agg #[.int .i64 p, .int .i64 q, .bool r]) (h : w.heap[gx]? = some (.cells #[v0, v1, v2] 82 (0, 0)))
    (hk : ∀ w', w'.heap[gx]? = some (.cells #[.int .i64 p, .int .i64 q, .bool r] 82 (0, 0)) → (∀ k, k ≠ gx → w'.heap[k]? = w.heap[k]?) → (∀ B, B ≤ gx → Below B w w') → wpList Tryz.prog ops Q rest a w') : wpList Tryz.prog ops Q (o :: rest) a w := by
  unfold wpList
  rw [if_pos hw]
  refine .inl ?_
  unfold Oper.wp
  rw [store_blk a.eval o x y ho w gx p q r v0 v1 v2 hx hy h]
  show wpList Tryz.prog ops Q rest (a.put o.dst undef) _
  rw [hd]
  refine hk _ (blk_set h _ _ _) (fun k hk => ?_) fun B hB => ?_
  · exact (Below.heap_setCell _ ⟨gx, 2, none⟩ _ k hk).trans ((Below.heap_setCell _ ⟨gx, 1, none⟩ _ k hk).trans (Below.heap_setCell _ ⟨gx, 0, none⟩ _ k hk))
  · exact (((Below.refl _ _).setCell (p := ⟨gx, 0, none⟩) hB _).setCell (p := ⟨gx, 1, none⟩) hB _).setCell (p := ⟨gx, 2, none⟩) hB _

section
variable {w : World} {g base cap c : Nat} {A : Option Addr} {bs : List UInt8} {H : Hp}
set_option maxRecDepth 100000 in
set_option maxHeartbeats 2000000 in
theorem giveBack_any (h : Ar w 80 g base cap A c bs) (hbase : base ≤ 4611686018427387904) (hcap : cap ≤ 16384) (hc : H.cap = cap) (hR : Rt bs H) {A1 B1 : List Bk} {p n : Option Bk} {xo xs : Nat}
    (hb : H.blks = (A1 ++ p.toList) ++ ⟨xo, xs, true⟩ :: (n.toList ++ B1)) (hN : Near A1 p n B1) :
    Calls Tryz.prog 87 #[.pointer (some ⟨g, 0, none⟩), .agg #[.int .i64 (xo : Int), .int .i64 (xs : Int), .bool true]] w fun e w' => e = .returned .nilIface ∧ ∃ out, Became 80 g base cap A out w w' ∧ Rt out (H.give (A1 ++ p.toList).length) ∧
      ∀ z ∈ H.blks, z.used = true → z ≠ ⟨xo, xs, true⟩ → ∀ i, Pay z i → out[i]? = bs[i]? := by
  obtain ⟨b1, b2, out, e1, e2, e3, e4, l1, l2, l3, l4, hRo, hP⟩ := hR.gives (by omega) hb hN rfl
  have hM := hR.md (by omega)
  obtain ⟨hl, hbd⟩ := hR.bound (by omega)
  have y1 := hM.behind hb hN
  have y2 := hM.ahead hb hN
  have hx := hbd ⟨xo, xs, true⟩ (by rw [hb]; simp)
  have hn : ∀ z, n = some z → 0 < z.size ∧ z.off ≤ 16384 := fun z hz => by have := hbd z (by rw [hb, hz]; simp); omega
  have hp : ∀ z, p = some z → 0 < z.size ∧ z.off ≤ 16384 := fun z hz => by have := hbd z (by rw [hb, hz]; simp); omega
  have r3 := setB_range e3
  obtain ⟨s3, hs3⟩ : ∃ s3, setT b2 (whole p ⟨xo, xs, true⟩ n) = s3 := ⟨_, rfl⟩
  rw [hs3] at e3 e4 l3
  obtain ⟨wo, hwo⟩ : ∃ wo, (whole p ⟨xo, xs, true⟩ n).off = wo := ⟨_, rfl⟩
  obtain ⟨ws, hws⟩ : ∃ ws, (whole p ⟨xo, xs, true⟩ n).size = ws := ⟨_, rfl⟩
  rw [hwo, hws] at e3 r3
  rw [hwo] at e4
  have f1 := frV_eq ((xo : Int) + (xs : Int)) n
  have f2 := frV_eq (xo : Int) p
  obtain ⟨no, hno⟩ : ∃ no : Int, (n.map fun z => (z.off : Int)).getD ((xo : Int) + (xs : Int)) = no := ⟨_, rfl⟩
  obtain ⟨nz, hnz⟩ : ∃ nz, (n.map Bk.size).getD 0 = nz := ⟨_, rfl⟩
  obtain ⟨pz, hpz⟩ : ∃ pz, (p.map Bk.size).getD 0 = pz := ⟨_, rfl⟩
  have hpo : (p.map fun z => (z.off : Int)).getD (xo : Int) = (wo : Int) := by rw [← hwo]; cases p <;> rfl
  rw [hno, hnz] at f1
  rw [hpo, hpz] at f2
  have hwe : ws = pz + xs + nz := by rw [← hws, ← hpz, ← hnz]; rfl
  dsimp only at y1 y2 hx
  -- the box
  obtain ⟨w1, hw1⟩ : ∃ w1, w.alloc (.cells #[.int .i64 (xo : Int), .int .i64 (xs : Int), .bool true] 82) = w1 := ⟨_, rfl⟩
  have hb1 : Below w.heap.size w w1 := by rw [← hw1]; exact (Below.refl _ _).alloc (Nat.le_refl _) _
  have n1 : w1.heap[w.heap.size]? = some (.cells #[.int .i64 (xo : Int), .int .i64 (xs : Int), .bool true] 82 (0, 0)) := by rw [← hw1]; exact heap_alloc_new w _
  have N1 := Lib.hid n1
  have BC0 : Became 80 g base cap A bs w w := ⟨A, c, h, Tch.refl _ _, .inl rfl⟩
  have BC1 := Lib.hid (became_below BC0 hb1.drew)
  clear BC0
  obtain ⟨⟨d0, d1, d2⟩, _⟩ := blk_cells n1
  have hlt1 := heap_lt n1
  have HW1 := Lib.hid hw1
  clear hw1 hb1 n1 h
  have HH := Lib.hid (show ∀ w', Became 80 g base cap A out w w' → ((Ending.returned .nilIface : Ending) = .returned .nilIface ∧ ∃ out, Became 80 g base cap A out w w' ∧ Rt out (H.give (A1 ++ p.toList).length) ∧ ∀ z ∈ H.blks, z.used = true → z ≠ ⟨xo, xs, true⟩ → ∀ i, Pay z i → out[i]? = bs[i]?) from fun w' hh => ⟨rfl, out, hh, hRo, hP⟩)
  clear hRo hP hM hbd hb hN hR
  go_enter Tryz.func87, Tryz.ntmps87
  go_wp2_with (first | (rw [HW1.out]) | fail)
  refine wp_region_q w1.heap.size [0, 1, 2, 3, 4, 5, 7, 8, 9] (pairQ 6 10 11 12) [13, 14] (by kernel_rfl) (by kernel_rfl) (by kernel_rfl) (fun _ _ _ _ _ h => h) ?_
  have q0 : ∀ z : LaterB w1.heap.size w1.drew, z.val.cell? ⟨w.heap.size, 0, none⟩ = some (.int .i64 (xo : Int)) := fun z => (z.ext.cell (p := ⟨w.heap.size, 0, none⟩) hlt1).trans d0
  have q1 : ∀ z : LaterB w1.heap.size w1.drew, z.val.cell? ⟨w.heap.size, 1, none⟩ = some (.int .i64 (xs : Int)) := fun z => (z.ext.cell (p := ⟨w.heap.size, 1, none⟩) hlt1).trans d1
  refine q_pick (l := ?seg1) ?hseg1 ?_
  case hseg1 => simp only [pick, List.getElem?_toArray, List.getElem?_cons_succ, List.getElem?_cons_zero]; rfl
  repeat (go_big_quiet_step (fail))
  refine wpQuiet_nil ?_
  clear q0 q1
  refine qpair_any (S := [7, 12, 14, 16]) (d1 := 13) (d2 := 17) (e1 := 5) (e2 := 6) (v1 := frV ((xo : Int) + (xs : Int)) n) (v2 := frV (xo : Int) p) (cs := #[.int .i64 0, .int .i64 0, .bool false]) (ty := 82) (w0 := w1.drew) ⟨?_, ?_, ?_, ?_, by decide, by decide, by decide, by decide, by decide, rfl, ?_⟩
  · refine stp_call (vs := #[.pointer (some ⟨g, 0, none⟩), .int .i64 ((xo : Int) + (xs : Int))]) Tryz.call115 rfl (fun a ha => ?_) fun W hW => ?_
    · show [a.tmps.getD 7 undef, a.tmps.getD 12 undef] = _
      rw [ha 7 (by decide), ha 12 (by decide)]
      rfl
    · refine (bc_at (became_below BC1.out hW) hbase hl _ ⟨by omega, by omega⟩ n y1).mono ?_
      rintro e w' ⟨h1, h2, h3⟩
      exact ⟨h1, h3⟩
  · refine stp_call (vs := #[.pointer (some ⟨g, 0, none⟩), .int .i64 (xo : Int)]) Tryz.call116 rfl (fun a ha => ?_) fun W hW => ?_
    · show [a.tmps.getD 14 undef, a.tmps.getD 16 undef] = _
      rw [ha 14 (by decide), ha 16 (by decide)]
      rfl
    · refine (bc_ahead (became_below BC1.out hW) hbase hl _ ⟨by omega, by omega⟩ p y2).mono ?_
      rintro e w' ⟨h1, h2, h3⟩
      exact ⟨h1, h3⟩
  · exact stp_alloc rfl rfl (fun _ => rfl) fun ρ w => alloc_blk ρ _ rfl w
  · exact stp_alloc rfl rfl (fun _ => rfl) fun ρ w => alloc_blk ρ _ rfl w
  intro p1 p2 w5 k1 k2 kne m1 m2 hb5
  rw [f1, f2]
  unfold ptrV
  refine q_fin (t := ?tl1) ?htl1 ?_
  case htl1 => simp only [pick, List.getElem?_toArray, List.getElem?_cons_succ, List.getElem?_cons_zero]; rfl
  simp only [Act.put, List.setIfInBounds_toArray, List.set_cons_zero, List.set_cons_succ]
  refine wpl_blk (gx := p1) (p := no) (q := (nz : Int)) (r := false) rfl rfl rfl rfl rfl m1 ?_
  intro w6 n6 k6 b6
  refine wpl_blk (gx := p2) (p := (wo : Int)) (q := (pz : Int)) (r := false) rfl rfl rfl rfl rfl ((k6 p2 (Ne.symm kne)).trans m2) ?_
  intro w7 n7 k7 b7
  have hb7 : Below w1.heap.size w1.drew w7 := (hb5.trans (b6 _ k1)).trans (b7 _ k2)
  have n6 := (k7 p1 kne).trans n6
  have nb := (hb7.block w.heap.size hlt1).trans N1.out
  have BC7 := Lib.hid (became_below BC1.out hb7)
  have h1 := bc_out BC7.out hbase hl ((xo : Int) + (xs : Int)) n hn e1
  rw [f1] at h1
  have H1 := Lib.hid h1
  have K1 := Lib.hid k1
  have K2 := Lib.hid k2
  have KN := Lib.hid kne
  clear h1 hb5 hb7 k6 k7 b6 b7 m1 m2 d0 d1 d2 k1 k2 kne
  have NB := Lib.hid nb
  have N6 := Lib.hid n6
  have N7 := Lib.hid n7
  obtain ⟨⟨c0, c1, c2⟩, _⟩ := blk_cells n6
  clear nb n6 n7
  have hlt6 := heap_lt' N6.out
  go_wp2_with fail
  refine H1.out.mono ?_
  clear c0 c1 c2 hlt6
  rintro e w8 ⟨rfl, hB8, hL8⟩
  have n6 := hL8 _ _ N6.out
  have n7 := hL8 _ _ N7.out
  have nb := hL8 _ _ NB.out
  have h2 := bc_out hB8 hbase (by omega) (xo : Int) p hp e2
  rw [f2] at h2
  have H2 := Lib.hid h2
  clear N6 N7 NB BC7 BC1 h2 hL8 hB8 H1
  have NB := Lib.hid nb
  have N6 := Lib.hid n6
  have N7 := Lib.hid n7
  obtain ⟨⟨c0, c1, c2⟩, _⟩ := blk_cells n7
  clear nb n6 n7
  have hlt7 := heap_lt' N7.out
  go_wp2_with fail
  refine H2.out.mono ?_
  clear c0 c1 c2 hlt7
  rintro e w9 ⟨rfl, hB9, hL9⟩
  have n6 := hL9 _ _ N6.out
  have n7 := hL9 _ _ N7.out
  have nb := hL9 _ _ NB.out
  have h3 := bc_set hB9 hbase (by omega) wo ws false (by omega) (by omega) e3
  rw [hwe, Int.natCast_add, Int.natCast_add] at h3
  have H3 := Lib.hid h3
  clear N6 N7 NB h3 hL9 hB9 H2
  have N7 := Lib.hid n7
  obtain ⟨⟨c0, c1, c2⟩, _⟩ := blk_cells n7
  obtain ⟨⟨d0, d1, d2⟩, _⟩ := blk_cells nb
  obtain ⟨⟨g0, g1, g2⟩, _⟩ := blk_cells n6
  have hlt7 := heap_lt' n7
  have hlt6 := heap_lt' n6
  have hltb := heap_lt' nb
  clear nb n6 n7
  go_wp2_with fail
  refine H3.out.mono ?_
  clear c0 c1 c2 d0 d1 d2 g0 g1 g2 hlt7 hlt6 hltb
  rintro e w10 ⟨rfl, hB10, hL10⟩
  have n7 := hL10 _ _ N7.out
  have h4 := bc_put hB10 hbase (by omega) wo (by omega) e4
  have H4 := Lib.hid h4
  clear N7 h4 hL10 hB10 H3
  obtain ⟨⟨c0, c1, c2⟩, _⟩ := blk_cells n7
  have hlt7 := heap_lt' n7
  clear n7
  go_wp2_with fail
  refine H4.out.mono ?_
  clear c0 c1 c2 hlt7
  rintro e w11 ⟨rfl, hB11, hL11⟩
  have HB := Lib.hid hB11
  clear hB11 hL11 H4
  go_wp2
  go_ret
  exact ⟨rfl, (HH.out _ HB.out).2⟩
theorem bc_give {w1 : World} (h : Became 80 g base cap A bs w w1) (hbase : base ≤ 4611686018427387904) (hcap : cap ≤ 16384) (hc : H.cap = cap) (hR : Rt bs H) {A1 B1 : List Bk} {p n : Option Bk} {xo xs : Nat}
    (hb : H.blks = (A1 ++ p.toList) ++ ⟨xo, xs, true⟩ :: (n.toList ++ B1)) (hN : Near A1 p n B1) :
    Calls Tryz.prog 87 #[.pointer (some ⟨g, 0, none⟩), .agg #[.int .i64 (xo : Int), .int .i64 (xs : Int), .bool true]] w1 fun e w2 => e = .returned .nilIface ∧ ∃ out, Became 80 g base cap A out w w2 ∧ Rt out (H.give (A1 ++ p.toList).length) ∧
      ∀ z ∈ H.blks, z.used = true → z ≠ ⟨xo, xs, true⟩ → ∀ i, Pay z i → out[i]? = bs[i]? := by
  obtain ⟨A', c', a, tc, k⟩ := h
  refine (giveBack_any a hbase hcap hc hR hb hN).mono ?_
  rintro e w2 ⟨h1, out, h2, h3⟩
  exact ⟨h1, out, Became.trans a tc k h2, h3⟩
end
end Go.Proofs.YtbldlidpapdkbaaGreatDoor

/- The program's cut (layer 12): what is left of a used block is given back, if it can be a block. -/
namespace Go.Proofs.YtbldlidpapdkbaaGreatDoor
open Go.RowKit

section
variable {w w1 : World} {g base cap : Nat} {A : Option Addr} {bs : List UInt8} {H : Hp}
set_option maxRecDepth 100000 in
set_option maxHeartbeats 2000000 in
theorem cut_small (h : Became 80 g base cap A bs w w1) (hR : Rt bs H) {A0 B0 : List Bk} {xo xs s : Nat} (hb : H.blks = A0 ++ ⟨xo, xs, true⟩ :: B0) (hxo : xo ≤ 16384) (hxs : xs ≤ 16384) (hle : s ≤ xs) (hlt : xs < s + 32) :
    Calls Tryz.prog 119 #[.pointer (some ⟨g, 0, none⟩), .agg #[.int .i64 (xo : Int), .int .i64 (xs : Int), .bool true], .int .i64 (s : Int)] w1 fun e w2 => e = .returned .nilIface ∧ ∃ out, Became 80 g base cap A out w w2 ∧ Rt out (H.cut A0.length s) ∧
      Held H bs (H.cut A0.length s) out ∧ ∀ z ∈ H.blks, z.used = true → z.off ≠ xo → ∀ i, Pay z i → out[i]? = bs[i]? := by
  obtain ⟨hR2, hH⟩ := hR.uncut hb hlt
  have HRH := Lib.hid (show Rt bs (H.cut A0.length s) ∧ Held H bs (H.cut A0.length s) bs ∧ ∀ z ∈ H.blks, z.used = true → z.off ≠ xo → ∀ i, Pay z i → bs[i]? = bs[i]? from ⟨hR2, hH, fun _ _ _ _ _ _ => rfl⟩)
  obtain ⟨wa, hwa⟩ : ∃ wa, w1.alloc (.cells #[.int .i64 (xo : Int), .int .i64 (xs : Int), .bool true] 82) = wa := ⟨_, rfl⟩
  have na : wa.heap[w1.heap.size]? = some (.cells #[.int .i64 (xo : Int), .int .i64 (xs : Int), .bool true] 82 (0, 0)) := by rw [← hwa]; exact heap_alloc_new w1 _
  have BCa := became_alloc h (.cells #[.int .i64 (xo : Int), .int .i64 (xs : Int), .bool true] 82)
  rw [hwa] at BCa
  obtain ⟨wb, hwb⟩ : ∃ wb, wa.alloc (.cells #[.int .i64 ((xo : Int) + (s : Int)), .int .i64 ((xs : Int) - (s : Int)), .bool true] 82) = wb := ⟨_, rfl⟩
  have nb : wb.heap[wa.heap.size]? = some (.cells #[.int .i64 ((xo : Int) + (s : Int)), .int .i64 ((xs : Int) - (s : Int)), .bool true] 82 (0, 0)) := by rw [← hwb]; exact heap_alloc_new wa _
  have BCb := became_alloc BCa (.cells #[.int .i64 ((xo : Int) + (s : Int)), .int .i64 ((xs : Int) - (s : Int)), .bool true] 82)
  rw [hwb] at BCb
  have HB := Lib.hid BCb
  have HWA := Lib.hid hwa
  have HWB := Lib.hid hwb
  obtain ⟨⟨c0, c1, c2⟩, _⟩ := blk_cells na
  obtain ⟨⟨d0, d1, d2⟩, _⟩ := blk_cells nb
  have hlta := heap_lt' na
  have hltb := heap_lt' nb
  clear hR2 hH hR hwa hwb BCa BCb h na nb hb
  go_enter Tryz.func119, Tryz.ntmps119
  go_wp2_with (first | (rw [HWA.out]) | (rw [HWB.out]) | fail)
  go_ret
  exact ⟨rfl, bs, HB.out, HRH.out.1, HRH.out.2.1, fun _ _ _ _ _ _ => rfl⟩
set_option maxRecDepth 100000 in
set_option maxHeartbeats 2000000 in
theorem cut_big (h : Became 80 g base cap A bs w w1) (hbase : base ≤ 4611686018427387904) (hcap : cap ≤ 16384) (hc : H.cap = cap) (hR : Rt bs H) {A0 B0 : List Bk} {xo xs s : Nat} (hb : H.blks = A0 ++ ⟨xo, xs, true⟩ :: B0) (hs : isSz (s : Int) = true) (hle : s + 32 ≤ xs) :
    Calls Tryz.prog 119 #[.pointer (some ⟨g, 0, none⟩), .agg #[.int .i64 (xo : Int), .int .i64 (xs : Int), .bool true], .int .i64 (s : Int)] w1 fun e w2 => e = .returned .nilIface ∧ ∃ out, Became 80 g base cap A out w w2 ∧ Rt out (H.cut A0.length s) ∧
      Held H bs (H.cut A0.length s) out ∧ ∀ z ∈ H.blks, z.used = true → z.off ≠ xo → ∀ i, Pay z i → out[i]? = bs[i]? := by
  obtain ⟨b1, b2, H1, A1, B1, p, n, e1, e2, l1, l2, hc1, hR1, hb1, hN, hcut, hP⟩ := hR.cutting (by omega) hb hs hle
  obtain ⟨hl, hbd⟩ := hR.bound (by omega)
  have hx := hbd ⟨xo, xs, true⟩ (by rw [hb]; simp)
  dsimp only at hx
  have hq := (isSz_iff _).1 hs
  have HG := Lib.hid (fun w3 (h3 : Became 80 g base cap A b2 w w3) => bc_give h3 hbase hcap (by omega) hR1 hb1 hN)
  rw [hcut] at HG
  have HP := Lib.hid hP
  obtain ⟨wa, hwa⟩ : ∃ wa, w1.alloc (.cells #[.int .i64 (xo : Int), .int .i64 (xs : Int), .bool true] 82) = wa := ⟨_, rfl⟩
  have na : wa.heap[w1.heap.size]? = some (.cells #[.int .i64 (xo : Int), .int .i64 (xs : Int), .bool true] 82 (0, 0)) := by rw [← hwa]; exact heap_alloc_new w1 _
  have BCa := became_alloc h (.cells #[.int .i64 (xo : Int), .int .i64 (xs : Int), .bool true] 82)
  rw [hwa] at BCa
  obtain ⟨wb, hwb⟩ : ∃ wb, wa.alloc (.cells #[.int .i64 ((xo : Int) + (s : Int)), .int .i64 ((xs : Int) - (s : Int)), .bool true] 82) = wb := ⟨_, rfl⟩
  have nb : wb.heap[wa.heap.size]? = some (.cells #[.int .i64 ((xo : Int) + (s : Int)), .int .i64 ((xs : Int) - (s : Int)), .bool true] 82 (0, 0)) := by rw [← hwb]; exact heap_alloc_new wa _
  have nab : wb.heap[w1.heap.size]? = some (.cells #[.int .i64 (xo : Int), .int .i64 (xs : Int), .bool true] 82 (0, 0)) := by rw [← hwb]; exact (heap_alloc_old _ _ (heap_lt na)).trans na
  have BCb := became_alloc BCa (.cells #[.int .i64 ((xo : Int) + (s : Int)), .int .i64 ((xs : Int) - (s : Int)), .bool true] 82)
  rw [hwb] at BCb
  have hsz : w.heap.size ≤ w1.heap.size := by obtain ⟨_, _, _, ht, _⟩ := h; exact ht.size
  obtain ⟨wc, hwc⟩ : ∃ wc, wb.setCell ⟨w1.heap.size, 1, none⟩ (.int .i64 (s : Int)) = wc := ⟨_, rfl⟩
  have nac := heap_setCell_same wb w1.heap.size 1 _ _ (.int .i64 (s : Int)) nab
  have nbc := (Below.heap_setCell wb ⟨w1.heap.size, 1, none⟩ (.int .i64 (s : Int)) wa.heap.size (fun e => by have := heap_lt na; have e : wa.heap.size = w1.heap.size := e; omega)).trans nb
  have BCc := became_loc BCb nab hsz 1 (.int .i64 (s : Int))
  rw [hwc] at nac nbc BCc
  have nac : wc.heap[w1.heap.size]? = some (.cells #[.int .i64 (xo : Int), .int .i64 (s : Int), .bool true] 82 (0, 0)) := nac
  have h1 := bc_set BCc hbase hl xo s true (by omega) (by omega) e1
  have H1' := Lib.hid h1
  have E2 := Lib.hid e2
  have NBC := Lib.hid nbc
  have HWA := Lib.hid hwa
  have HWB := Lib.hid hwb
  have HWC := Lib.hid hwc
  have NAC := Lib.hid nac
  obtain ⟨⟨d0, d1, d2⟩, _⟩ := blk_cells nb
  obtain ⟨⟨u0, u1, u2⟩, _⟩ := blk_cells na
  obtain ⟨⟨c0, c1, c2⟩, f0, f1, f2⟩ := blk_cells nab
  obtain ⟨⟨g0, g1, g2⟩, _⟩ := blk_cells nac
  have hlta := heap_lt' na
  have hltb := heap_lt' nb
  have hltc := heap_lt' nab
  clear hR hwa hwb hwc BCa BCb BCc h na nb nab nac nbc hb hR1 hb1 hN hcut hP h1 e1 e2 hbd
  go_enter Tryz.func119, Tryz.ntmps119
  go_wp2_with (first | (rw [HWA.out]) | (rw [HWB.out]) | (rw [HWC.out]) | fail)
  refine H1'.out.mono ?_
  clear d0 d1 d2 u0 u1 u2 c0 c1 c2 f0 f1 f2 g0 g1 g2 hlta hltb hltc
  rintro e wd ⟨rfl, hB1, hL1⟩
  have nb := hL1 _ _ NBC.out
  have h2 := bc_set hB1 hbase (by omega) (xo + s) (xs - s) true (by omega) (by omega) E2.out
  have en : ((xo + s : Nat) : Int) = (xo : Int) + (s : Int) := Int.natCast_add _ _
  have em : ((xs - s : Nat) : Int) = (xs : Int) - (s : Int) := Int.ofNat_sub (by omega)
  rw [en, em] at h2
  have H2 := Lib.hid h2
  have EN := Lib.hid en
  have EM := Lib.hid em
  have NB := Lib.hid nb
  clear hB1 hL1 NBC NAC HWA HWB HWC H1' h2 E2 en em
  obtain ⟨⟨d0, d1, d2⟩, _⟩ := blk_cells nb
  have hltb := heap_lt' nb
  clear nb
  go_wp2_with fail
  refine H2.out.mono ?_
  clear d0 d1 d2 hltb
  rintro e we ⟨rfl, hB2, hL2⟩
  have nb := hL2 _ _ NB.out
  have h3 := HG.out we hB2
  rw [EN.out, EM.out] at h3
  have H3 := Lib.hid h3
  clear hB2 hL2 NB H2 h3 HG
  obtain ⟨⟨d0, d1, d2⟩, _⟩ := blk_cells nb
  have hltb := heap_lt' nb
  clear nb
  go_wp2_with fail
  refine H3.out.mono ?_
  clear d0 d1 d2 hltb
  rintro e wf ⟨rfl, out, hB, hR, hP⟩
  have HB := Lib.hid hB
  have HR := Lib.hid hR
  have HPP := Lib.hid (HP.out out hP)
  clear hB hR hP H3 HP
  go_wp2
  go_ret
  exact ⟨rfl, out, HB.out, HR.out, HPP.out.1, HPP.out.2⟩
theorem cut_any (h : Became 80 g base cap A bs w w1) (hbase : base ≤ 4611686018427387904) (hcap : cap ≤ 16384) (hc : H.cap = cap) (hR : Rt bs H) {A0 B0 : List Bk} {xo xs s : Nat} (hb : H.blks = A0 ++ ⟨xo, xs, true⟩ :: B0) (hs : isSz (s : Int) = true) (hle : s ≤ xs) :
    Calls Tryz.prog 119 #[.pointer (some ⟨g, 0, none⟩), .agg #[.int .i64 (xo : Int), .int .i64 (xs : Int), .bool true], .int .i64 (s : Int)] w1 fun e w2 => e = .returned .nilIface ∧ ∃ out, Became 80 g base cap A out w w2 ∧ Rt out (H.cut A0.length s) ∧
      Held H bs (H.cut A0.length s) out ∧ ∀ z ∈ H.blks, z.used = true → z.off ≠ xo → ∀ i, Pay z i → out[i]? = bs[i]? := by
  obtain ⟨hl, hbd⟩ := hR.bound (by omega)
  have hx := hbd ⟨xo, xs, true⟩ (by rw [hb]; simp)
  dsimp only at hx
  by_cases hlt : xs < s + 32
  · exact cut_small h hR hb (by omega) (by omega) hle hlt
  · exact cut_big h hbase hcap hc hR hb hs (by omega)
end
end Go.Proofs.YtbldlidpapdkbaaGreatDoor

/- The contracts of the program's Used, Give, Trim (layer 12). -/
namespace Go.Proofs.YtbldlidpapdkbaaGreatDoor
open Go.RowKit

theorem used_hit {l : List Bk} {e : Nat} (ht : tile 184 l e) {j : Nat} {x : Bk} {o : Int} (hx : l[j]? = some x) (ho : (x.off : Int) = o) (hu : x.used = true) : (usedB l o).map (bkAt l) = some x := by
  have hxm := List.mem_of_getElem? hx
  obtain ⟨i, h1, h2, h3⟩ := atB_of ht hxm
  unfold usedB
  rw [← ho, h1]
  dsimp only
  rw [h3, hu, if_pos rfl, Option.map_some, h3]
theorem used_miss {l : List Bk} {o : Int} (h : ∀ (i : Nat) (x : Bk), l[i]? = some x → ¬((x.off : Int) = o ∧ x.used = true)) : usedB l o = none := by
  unfold usedB
  cases hi : atB o l with
  | none => rfl
  | some i =>
    obtain ⟨x, h1, h2⟩ := atB_some hi
    dsimp only
    rw [if_neg]
    intro hu
    rw [bkAt_of h1] at hu
    exact h i x h1 ⟨h2, hu⟩
theorem used_at {l : List Bk} {o : Int} {i : Nat} (h : usedB l o = some i) : i < l.length ∧ ((bkAt l i).off : Int) = o ∧ (bkAt l i).used = true := by
  unfold usedB at h
  cases hi : atB o l with
  | none => rw [hi] at h; cases h
  | some k =>
    rw [hi] at h
    dsimp only at h
    split at h
    · rename_i hu
      injection h with h
      subst h
      obtain ⟨x, h1, h2⟩ := atB_some hi
      exact ⟨lst_lt h1, by rw [bkAt_of h1]; exact h2, hu⟩
    · cases h
theorem below_in {B : Nat} {w w' : World} (h : Below B w w') {b j : Nat} {v : Value} (hc : w.cell? ⟨b, j, none⟩ = some v) (hb : b < B) : w'.cell? ⟨b, j, none⟩ = some v :=
  (h.cell (p := ⟨b, j, none⟩) hb).trans hc

set_option maxRecDepth 100000 in
set_option maxHeartbeats 1000000 in
theorem usedK : UsedK := by
  intro w g base cap c A bs H o h hb hcap hc hR ho
  obtain ⟨l, hl⟩ : ∃ l, H.blks = l := ⟨_, rfl⟩
  rw [hl]
  have hwk := hR.walk
  rw [hl] at hwk
  have ht := (walkB_tiles hwk).2.1
  have hbl := (hR.bound (by omega)).1
  have hll := walkB_len hwk
  obtain ⟨y, hy⟩ : ∃ y, (usedB l o).map (bkAt l) = y := ⟨_, rfl⟩
  rw [hy]
  have HHIT : Hid (∀ (j : Nat) (x : Bk), l[j]? = some x → (x.off : Int) = o → x.used = true → some x = y) := fun j x hx ho hu => by rw [← hy]; exact (used_hit ht hx ho hu).symm
  have HMISS : Hid ((∀ (i : Nat) (x : Bk), l[i]? = some x → ¬((x.off : Int) = o ∧ x.used = true)) → none = y) := fun hm => by rw [← hy, used_miss hm]; rfl
  obtain ⟨w1, hw1⟩ : ∃ w1, w.alloc (.cells #[.int .i64 0, .int .i64 0, .bool false] 82) = w1 := ⟨_, rfl⟩
  have hb1 : Below w.heap.size w w1 := by rw [← hw1]; exact (Below.refl _ _).alloc (Nat.le_refl _) _
  have hn1 : w1.heap[w.heap.size]? = some (.cells #[.int .i64 0, .int .i64 0, .bool false] 82 (0, 0)) := by rw [← hw1]; exact heap_alloc_new w _
  have hW := walkC w1 g base cap c A bs _ (h.below hb1) hb hbl hwk
  dsimp only [BlksTold, Option.isSome, Option.getD, errV] at hW
  have HW := Lib.hid hW
  have HW1 := Lib.hid hw1
  have HB1 := Lib.hid hb1
  have HN1 := Lib.hid hn1
  clear hW hw1 hb1 hn1 h hR hwk ht hy hl hb hcap hc
  go_enter Tryz.func86, Tryz.ntmps86
  go_wp2_with fail
  rw [HW1.out]
  with_reducible refine HW.out.mono ?_
  rintro e w2 ⟨A2, c2, rfl, ho2, hb2⟩
  have hcl : l.length ≤ c2 ∧ c2 ≤ 9223372036854775807 := by
    rcases ho2.2 with ⟨h', h0⟩ | ⟨_, _, _, h', _, _, h1, h2, _⟩
    · injection h' with _ _ e; rw [h0, e]; omega
    · injection h' with _ _ e; unfold maxLen at h2; omega
  have HR := Lib.hid (BkRd.of_own ho2)
  have HB2 := Lib.hid (HB1.out.trans (hb2.mono HB1.out.size))
  have HN2 := Lib.hid ((hb2.block w.heap.size (heap_lt HN1.out)).trans HN1.out)
  clear ho2 hb2 HW HN1 HB1
  go_wp2
  go_loopw [21] (fun t wr => ∃ j : Nat, t = .int .i64 (j : Int) ∧ j ≤ l.length ∧ (∀ (i : Nat) (x : Bk), i < j → l[i]? = some x → ¬((x.off : Int) = o ∧ x.used = true)) ∧ Below w2.heap.size w2 wr) (fun t _ => l.length - (intOf t).toNat)
  case atStart => exact ⟨0, rfl, Nat.zero_le _, fun i x hi => absurd hi (Nat.not_lt_zero _), Below.refl _ _⟩
  case round =>
    obtain ⟨j, rfl, hj, hno, hbe⟩ := hrel
    have nl := (hbe.block w.heap.size (heap_lt HN2.out)).trans HN2.out
    have hfin := HB2.out.trans (hbe.mono HB2.out.size)
    by_cases hlt : j < l.length
    · obtain ⟨x, hx⟩ : ∃ x, l[j]? = some x := ⟨l[j], List.getElem?_eq_getElem hlt⟩
      obtain ⟨b2, q, rfl, hbb, hcl2⟩ := HR.out (by omega)
      obtain ⟨p0, p1, p2⟩ := hcl2 j x hx
      have r0 := below_in hbe p0 hbb
      have r1 := below_in hbe p1 hbb
      have r2 := below_in hbe p2 hbb
      have HIT := Lib.hid (HHIT.out j x hx)
      have HNO : Hid (¬((x.off : Int) = o ∧ x.used = true) → ∀ (i : Nat) (z : Bk), i < j + 1 → l[i]? = some z → ¬((z.off : Int) = o ∧ z.used = true)) := fun hx2 i z hi hz => by
        by_cases hij : i < j
        · exact hno i z hij hz
        · obtain rfl : i = j := by omega
          rw [hx] at hz
          injection hz with hz
          rw [← hz]
          exact hx2
      obtain ⟨xo, xs, xu⟩ := x
      dsimp only at p0 p1 p2 r0 r1 r2
      obtain ⟨w4, hw4⟩ : ∃ w4, wr.alloc (.cells #[.int .i64 (xo : Int), .int .i64 (xs : Int), .bool xu] 82) = w4 := ⟨_, rfl⟩
      have hb4 : Below w2.heap.size w2 w4 := by rw [← hw4]; exact hbe.alloc hbe.size _
      have n4 : w4.heap[wr.heap.size]? = some (.cells #[.int .i64 (xo : Int), .int .i64 (xs : Int), .bool xu] 82 (0, 0)) := by rw [← hw4]; exact heap_alloc_new wr _
      have nl4 : w4.heap[w.heap.size]? = some (.cells #[.int .i64 0, .int .i64 0, .bool false] 82 (0, 0)) := by rw [← hw4]; exact (heap_alloc_old _ _ (heap_lt nl)).trans nl
      have hf4 : Below w.heap.size w w4 := by rw [← hw4]; exact hfin.alloc hfin.size _
      obtain ⟨⟨d0, d1, d2⟩, _⟩ := blk_cells n4
      have HW4 := Lib.hid hw4
      have HB4 := Lib.hid hb4
      have HF4 := Lib.hid hf4
      have NL4 := Lib.hid nl4
      have HNEQ := Lib.hid (show wr.heap.size ≠ w.heap.size from fun e => by have := heap_lt nl; omega)
      clear hx hbe p0 p1 p2 hb4 n4 hw4 hcl2 hno nl nl4 hf4 hfin
      by_cases hxo : (xo : Int) = o
      · have e1 : ((xo : Int) == o) = true := by rw [beq_iff_eq]; exact hxo
        cases xu with
        | true =>
          obtain rfl := HIT.out hxo rfl
          obtain ⟨⟨c0, c1, c2⟩, f0, f1, f2⟩ := blk_cells NL4.out
          have hlt4 := heap_lt' NL4.out
          clear hxo HHIT HMISS HIT HNO
          go_wp2_with (first | (rw [HW4.out]) | fail)
          (try simp only [Exit.inBlock, Exit.then])
          refine blk_ret (x := .nilIface) (g := w.heap.size) (o := (xo : Int)) (s := (xs : Int)) (b := true) Tryz.results86 ?_ ?_ ?_ ?_ ?_
          · rfl
          · rfl
          · rfl
          · exact blk_set NL4.out _ _ _
          · exact ⟨rfl, ((HF4.out.setCell (Nat.le_refl _) _).setCell (Nat.le_refl _) _).setCell (Nat.le_refl _) _⟩
        | false =>
          have HNO2 := Lib.hid (HNO.out (fun hh => by cases hh.2))
          clear hxo HHIT HMISS HIT HNO
          go_wp2_with (first | (rw [HW4.out]) | fail)
          go_roundw
          case rel => exact ⟨j + 1, by go_num, by omega, HNO2.out, HB4.out⟩
          case measure => simp only [intOf]; omega
      · have e1 : ((xo : Int) == o) = false := by rw [beq_eq_false_iff_ne]; exact hxo
        have HNO2 := Lib.hid (HNO.out (fun hh => hxo hh.1))
        clear hxo HHIT HMISS HIT HNO
        go_wp2_with (first | (rw [HW4.out]) | fail)
        go_roundw
        case rel => exact ⟨j + 1, by go_num, by omega, HNO2.out, HB4.out⟩
        case measure => simp only [intOf]; omega
    · obtain rfl := HMISS.out (fun i x hx => hno i x (by have := lst_lt hx; omega) hx)
      have NL := Lib.hid nl
      have HF := Lib.hid hfin
      obtain ⟨⟨c0, c1, c2⟩, f0, f1, f2⟩ := blk_cells NL.out
      have hlt4 := heap_lt' NL.out
      clear hno hbe nl hfin HHIT HMISS
      go_wp2
      (try simp only [Exit.inBlock, Exit.then])
      refine blk_ret (x := .iface 68 (.int .i64 3)) (g := w.heap.size) (o := 0) (s := 0) (b := false) Tryz.results86 ?_ ?_ ?_ ?_ ?_
      · rfl
      · rfl
      · rfl
      · exact blk_set NL.out _ _ _
      · exact ⟨rfl, ((HF.out.setCell (Nat.le_refl _) _).setCell (Nat.le_refl _) _).setCell (Nat.le_refl _) _⟩

section
variable {w : World} {g base cap c : Nat} {A : Option Addr} {bs : List UInt8} {H : Hp}
set_option maxRecDepth 100000 in
set_option maxHeartbeats 1000000 in
theorem giveK : GiveK := by
  intro w g base cap c A bs H o h hb hcap hc hR ho
  have hU := usedK w g base cap c A bs H o h hb hcap hc hR ho
  have BC := Lib.hid (show Became 80 g base cap A bs w w from ⟨A, c, h, Tch.refl _ _, .inl rfl⟩)
  cases hi : usedB H.blks o with
  | none =>
    have e : H.giveO o = none := by unfold Hp.giveO; rw [hi]; rfl
    rw [e]
    rw [hi] at hU
    dsimp only [BlkTold, bkV, Bk.val, Option.isSome, errV, Option.map] at hU
    dsimp only [Turned, errV]
    have HU := Lib.hid hU
    clear hU hi e h hR
    go_enter Tryz.func55, Tryz.ntmps55
    go_wp2_with fail
    with_reducible refine HU.out.mono ?_
    rintro e w2 ⟨rfl, hb2⟩
    have HB2 := Lib.hid (hb2.alloc hb2.size (.cells #[.int .i64 0, .int .i64 0, .bool false] 82))
    clear hb2 HU
    go_wp2
    go_ret
    exact ⟨rfl, HB2.out⟩
  | some i =>
    obtain ⟨h1, h2, h3⟩ := used_at hi
    have e : H.giveO o = some (H.give i) := by unfold Hp.giveO; rw [hi]; rfl
    rw [e]
    rw [hi] at hU
    obtain ⟨m1, m2⟩ := mid_split h1
    obtain ⟨A1, p, n, B1, eA, eB, hN⟩ := near_of (H.blks.take i) (H.blks.drop (i + 1))
    obtain ⟨x, hx⟩ : ∃ x, bkAt H.blks i = x := ⟨_, rfl⟩
    rw [hx] at m1 h2 h3
    have hm : Option.map (bkAt H.blks) (some i) = some x := by rw [← hx]; rfl
    rw [hm] at hU
    obtain ⟨xo, xs, xu⟩ := x
    dsimp only at h2 h3
    subst h3
    dsimp only [BlkTold, bkV, Bk.val, Option.isSome, errV] at hU
    dsimp only [Turned, errV]
    have hbk : H.blks = (A1 ++ p.toList) ++ ⟨xo, xs, true⟩ :: (n.toList ++ B1) := by rw [← eA, ← eB]; exact m1
    have hlen : (A1 ++ p.toList).length = i := by rw [← eA]; exact m2
    have HG := Lib.hid (fun w2 (hB : Became 80 g base cap A bs w w2) => bc_give hB hb hcap hc hR hbk hN)
    have HHELD := Lib.hid (fun out hP => hR.gave (by omega) hbk hN (out := out) hP)
    rw [hlen] at HG HHELD
    have HU := Lib.hid hU
    clear hU hi e h hR eA eB hN hbk m1 m2 hm hx h2
    go_enter Tryz.func55, Tryz.ntmps55
    go_wp2_with fail
    with_reducible refine HU.out.mono ?_
    rintro e w2 ⟨rfl, hb2⟩
    obtain ⟨w3, hw3⟩ : ∃ w3, w2.alloc (.cells #[.int .i64 (xo : Int), .int .i64 (xs : Int), .bool true] 82) = w3 := ⟨_, rfl⟩
    have n3 : w3.heap[w2.heap.size]? = some (.cells #[.int .i64 (xo : Int), .int .i64 (xs : Int), .bool true] 82 (0, 0)) := by rw [← hw3]; exact heap_alloc_new w2 _
    have hb3 : Below w.heap.size w w3 := by rw [← hw3]; exact hb2.alloc hb2.size _
    have HG3 := Lib.hid (HG.out w3 (became_below BC.out hb3))
    obtain ⟨⟨d0, d1, d2⟩, _⟩ := blk_cells n3
    have hlt3 := heap_lt' n3
    have HW3 := Lib.hid hw3
    clear hb2 HU HG BC hw3 n3 hb3
    go_wp2_with (first | (rw [HW3.out]) | fail)
    refine HG3.out.mono ?_
    clear d0 d1 d2 hlt3
    rintro e w4 ⟨rfl, out, hB, hR, hP⟩
    have HB := Lib.hid hB
    have HR := Lib.hid hR
    have HH := Lib.hid (HHELD.out out hP)
    clear hB hR hP HG3 HHELD
    go_wp2
    go_ret
    exact ⟨rfl, out, HB.out, HR.out, HH.out⟩

set_option maxRecDepth 100000 in
set_option maxHeartbeats 1000000 in
theorem trimK : TrimK := by
  intro w g base cap c A bs H o s h hb hcap hc hR ho hsr
  have hC := classC w s hsr
  constructor
  · intro hs
    have e : classI s = -1 := by simp [classI, hs]
    rw [e] at hC
    dsimp only [errV]
    have HC := Lib.hid hC
    clear hC e hs h hR
    go_enter Tryz.func88, Tryz.ntmps88
    go_wp2_with fail
    with_reducible refine HC.out.mono ?_
    rintro e w2 ⟨rfl, hb2⟩
    have HB2 := Lib.hid hb2
    clear hb2 HC
    go_wp2
    go_ret
    exact ⟨rfl, HB2.out⟩
  · intro hs
    have hq := (isSz_iff _).1 hs
    obtain ⟨n, rfl⟩ : ∃ n : Nat, s = (n : Int) := ⟨s.toNat, by omega⟩
    rw [Int.toNat_natCast]
    obtain ⟨k, hk, hk2⟩ := class_nat (x := ⟨0, n, false⟩) hs
    have hk : classI (n : Int) = (k : Int) := hk
    rw [hk] at hC
    have HC := Lib.hid hC
    have BC := Lib.hid (show Became 80 g base cap A bs w w from ⟨A, c, h, Tch.refl _ _, .inl rfl⟩)
    have HU := Lib.hid (fun w1 (hB : Below w.heap.size w w1) => usedK w1 g base cap c A bs H o (h.below hB) hb hcap hc hR ho)
    cases hi : usedB H.blks o with
    | none =>
      have e : H.trimO o n = none := by unfold Hp.trimO; rw [hi]
      rw [e]
      rw [hi] at HU
      dsimp only [BlkTold, bkV, Bk.val, Option.isSome, errV, Option.map] at HU
      dsimp only [Turned, errV]
      clear hC hi e h hR hk
      go_enter Tryz.func88, Tryz.ntmps88
      go_wp2_with fail
      with_reducible refine HC.out.mono ?_
      rintro e w1 ⟨rfl, hb1⟩
      have HU1 := Lib.hid (HU.out w1 hb1)
      have HB1 := Lib.hid hb1
      clear hb1 HC HU
      go_wp2_with fail
      with_reducible refine HU1.out.mono ?_
      rintro e w2 ⟨rfl, hb2⟩
      have hb2' := HB1.out.trans (hb2.mono HB1.out.size)
      have HB2 := Lib.hid (hb2'.alloc hb2'.size (.cells #[.int .i64 0, .int .i64 0, .bool false] 82))
      clear hb2 hb2' HU1
      go_wp2
      go_ret
      exact ⟨rfl, HB2.out⟩
    | some i =>
      obtain ⟨h1, h2, h3⟩ := used_at hi
      rw [hi] at HU
      obtain ⟨m1, m2⟩ := mid_split h1
      obtain ⟨x, hx⟩ : ∃ x, bkAt H.blks i = x := ⟨_, rfl⟩
      rw [hx] at m1 h2 h3
      have hm : Option.map (bkAt H.blks) (some i) = some x := by rw [← hx]; rfl
      rw [hm] at HU
      have hxb := (hR.bound (by omega)).2 x (by rw [m1]; simp)
      have hbl := (hR.bound (by omega)).1
      obtain ⟨xo, xs, xu⟩ := x
      dsimp only at h2 h3 hxb
      subst h3
      dsimp only [BlkTold, bkV, Bk.val, Option.isSome, errV] at HU
      by_cases hlt : xs < n
      · have e : H.trimO o n = none := by unfold Hp.trimO; rw [hi]; dsimp only; rw [hx]; dsimp only; rw [if_pos hlt]
        rw [e]
        dsimp only [Turned, errV]
        have e2 : decide ((xs : Int) < (n : Int)) = true := decide_eq_true (by omega)
        clear hC hi e h hR hk m1 m2 hm hx h2
        go_enter Tryz.func88, Tryz.ntmps88
        go_wp2_with fail
        with_reducible refine HC.out.mono ?_
        rintro e w1 ⟨rfl, hb1⟩
        have HU1 := Lib.hid (HU.out w1 hb1)
        have HB1 := Lib.hid hb1
        clear hb1 HC HU
        go_wp2_with fail
        with_reducible refine HU1.out.mono ?_
        rintro e w2 ⟨rfl, hb2⟩
        have hb2' := HB1.out.trans (hb2.mono HB1.out.size)
        have HB2 := Lib.hid (hb2'.alloc hb2'.size (.cells #[.int .i64 (xo : Int), .int .i64 (xs : Int), .bool true] 82))
        clear hb2 hb2' HU1
        go_wp2
        go_ret
        exact ⟨rfl, HB2.out⟩
      · have e : H.trimO o n = some (H.cut i n) := by unfold Hp.trimO; rw [hi]; dsimp only; rw [hx]; dsimp only; rw [if_neg hlt]
        rw [e]
        dsimp only [Turned, errV]
        have HG := Lib.hid (fun w2 (hB : Became 80 g base cap A bs w w2) => cut_any hB hb hcap hc hR m1 hs (Nat.le_of_not_lt hlt))
        rw [m2] at HG
        have e2 : decide ((xs : Int) < (n : Int)) = false := decide_eq_false (by omega)
        clear hC hi e h hR hk m1 m2 hm hx h2
        go_enter Tryz.func88, Tryz.ntmps88
        go_wp2_with fail
        with_reducible refine HC.out.mono ?_
        rintro e w1 ⟨rfl, hb1⟩
        have HU1 := Lib.hid (HU.out w1 hb1)
        have HB1 := Lib.hid hb1
        clear hb1 HC HU
        go_wp2_with fail
        with_reducible refine HU1.out.mono ?_
        rintro e w2 ⟨rfl, hb2⟩
        have hb2' := HB1.out.trans (hb2.mono HB1.out.size)
        obtain ⟨w3, hw3⟩ : ∃ w3, w2.alloc (.cells #[.int .i64 (xo : Int), .int .i64 (xs : Int), .bool true] 82) = w3 := ⟨_, rfl⟩
        have n3 : w3.heap[w2.heap.size]? = some (.cells #[.int .i64 (xo : Int), .int .i64 (xs : Int), .bool true] 82 (0, 0)) := by rw [← hw3]; exact heap_alloc_new w2 _
        have hb3 : Below w.heap.size w w3 := by rw [← hw3]; exact hb2'.alloc hb2'.size _
        have HG3 := Lib.hid (HG.out w3 (became_below BC.out hb3))
        obtain ⟨⟨d0, d1, d2⟩, _⟩ := blk_cells n3
        have hlt3 := heap_lt' n3
        have HW3 := Lib.hid hw3
        clear hb2 hb2' HU1 HG BC hw3 n3 hb3
        go_wp2_with (first | (rw [HW3.out]) | fail)
        refine HG3.out.mono ?_
        clear d0 d1 d2 hlt3
        rintro e w4 ⟨rfl, out, hB, hR, hH, _⟩
        have HB := Lib.hid hB
        have HR := Lib.hid hR
        have HH := Lib.hid hH
        clear hB hR hH HG3
        go_wp2
        go_ret
        exact ⟨rfl, out, HB.out, HR.out, HH.out⟩
end
end Go.Proofs.YtbldlidpapdkbaaGreatDoor

/- The contract of the program's Take (layer 12): a free block that Find tells; else one at the end. -/
namespace Go.Proofs.YtbldlidpapdkbaaGreatDoor
open Go.RowKit

section
variable {w w1 : World} {g base cap c : Nat} {A : Option Addr} {bs : List UInt8} {H : Hp}
set_option maxRecDepth 100000 in
set_option maxHeartbeats 2000000 in
theorem takeFree_any (h : Became 80 g base cap A bs w w1) (hbase : base ≤ 4611686018427387904) (hcap : cap ≤ 16384) (hc : H.cap = cap) (hR : Rt bs H) {A0 B0 : List Bk} {xo xs s : Nat} (hb : H.blks = A0 ++ ⟨xo, xs, false⟩ :: B0) (hs : isSz (s : Int) = true) (hle : s ≤ xs) :
    Calls Tryz.prog 114 #[.pointer (some ⟨g, 0, none⟩), .int .i64 (xo : Int), .int .i64 (s : Int)] w1 fun e w2 => e = .returned .nilIface ∧ ∃ out, Became 80 g base cap A out w w2 ∧ Rt out ((H.out A0.length).cut A0.length s) ∧ Held H bs ((H.out A0.length).cut A0.length s) out := by
  obtain ⟨b1, e1, e2, l1, l2, hblk, hR2, hP⟩ := hR.uses (by omega) hb rfl
  dsimp only at e1 e2 l2 hblk hR2 hP
  obtain ⟨b2, hb2⟩ : ∃ b2, setT b1 ⟨xo, xs, true⟩ = b2 := ⟨_, rfl⟩
  rw [hb2] at e2 l2 hR2 hP
  have hM := hR.md (by omega)
  obtain ⟨hl, hbd⟩ := hR.bound (by omega)
  have hxm : (⟨xo, xs, false⟩ : Bk) ∈ H.blks := by rw [hb]; simp
  have hx := hbd _ hxm
  dsimp only at hx
  have hat : frO (getB bs (xo : Int)) = some ⟨xo, xs, false⟩ := by
    have := hM.ls.st.at_ _ hxm
    dsimp only at this
    rw [this]; rfl
  have hcut : ((H.out A0.length).use A0.length true).cut A0.length s = (H.out A0.length).cut A0.length s := cut_use (by show A0.length < H.blks.length; rw [hb]; simp)
  have h1 := bc_at h hbase hl (xo : Int) (by omega) _ hat
  dsimp only [frV] at h1
  have H1 := Lib.hid h1
  have HSZ := Lib.hid (show w.heap.size ≤ w1.heap.size by obtain ⟨_, _, _, ht, _⟩ := h; exact ht.size)
  have HO := Lib.hid (fun w2 (hB : Became 80 g base cap A bs w w2) => bc_out hB hbase hl (xo : Int) (some ⟨xo, xs, false⟩) (fun z hz => by cases hz; dsimp only; omega) (b2 := b1) e1)
  have HS := Lib.hid (fun w2 (hB : Became 80 g base cap A b1 w w2) => bc_set hB hbase (by omega) xo xs true (by omega) (by omega) e2)
  have HC := Lib.hid (fun w2 (hB : Became 80 g base cap A b2 w w2) => cut_any hB hbase hcap (H := (H.out A0.length).use A0.length true) hc hR2 hblk hs hle)
  rw [hcut] at HC
  have HH := Lib.hid (fun out => hR.usedHeld (by omega) hb (out := out) (H3 := (H.out A0.length).cut A0.length s) hblk hP)
  dsimp only [frV] at HO
  clear h1 hcut hat hx hxm hbd hM hb2 e1 e2 hblk hR2 hP hR hb h
  go_enter Tryz.func114, Tryz.ntmps114
  go_wp2_with fail
  with_reducible refine H1.out.mono ?_
  rintro e w2 ⟨rfl, hB2, hb2⟩
  obtain ⟨w3, hw3⟩ : ∃ w3, w2.alloc (.cells #[.int .i64 (xo : Int), .int .i64 (xs : Int), .bool false] 82) = w3 := ⟨_, rfl⟩
  have n3 : w3.heap[w2.heap.size]? = some (.cells #[.int .i64 (xo : Int), .int .i64 (xs : Int), .bool false] 82 (0, 0)) := by rw [← hw3]; exact heap_alloc_new w2 _
  have B3 := became_alloc hB2 (.cells #[.int .i64 (xo : Int), .int .i64 (xs : Int), .bool false] 82)
  rw [hw3] at B3
  have HO3 := Lib.hid (HO.out w3 B3)
  have HLE := Lib.hid (Nat.le_trans HSZ.out hb2.size)
  obtain ⟨⟨d0, d1, d2⟩, _⟩ := blk_cells n3
  have hlt3 := heap_lt' n3
  have N3 := Lib.hid n3
  have HW3 := Lib.hid hw3
  clear hB2 hb2 H1 HO hw3 n3 B3 HSZ
  go_wp2_with (first | (rw [HW3.out]) | fail)
  refine HO3.out.mono ?_
  clear d0 d1 d2 hlt3
  rintro e w4 ⟨rfl, hB4, hL4⟩
  have n4 := hL4 _ _ N3.out
  obtain ⟨w5, hw5⟩ : ∃ w5, w4.setCell ⟨w2.heap.size, 2, none⟩ (.bool true) = w5 := ⟨_, rfl⟩
  have n5 := heap_setCell_same w4 w2.heap.size 2 _ _ (.bool true) n4
  have B5 := became_loc hB4 n4 HLE.out 2 (.bool true)
  rw [hw5] at n5 B5
  have n5 : w5.heap[w2.heap.size]? = some (.cells #[.int .i64 (xo : Int), .int .i64 (xs : Int), .bool true] 82 (0, 0)) := n5
  have HS5 := Lib.hid (HS.out w5 B5)
  obtain ⟨⟨c0, c1, c2⟩, f0, f1, f2⟩ := blk_cells n4
  have hlt4 := heap_lt' n4
  obtain ⟨⟨d0, d1, d2⟩, _⟩ := blk_cells n5
  have hlt5 := heap_lt' n5
  have N5 := Lib.hid n5
  have HW5 := Lib.hid hw5
  clear hB4 hL4 HO3 HS hw5 n4 n5 B5 N3
  go_wp2_with (first | (rw [HW5.out]) | fail)
  refine HS5.out.mono ?_
  clear c0 c1 c2 f0 f1 f2 hlt4 d0 d1 d2 hlt5
  rintro e w6 ⟨rfl, hB6, hL6⟩
  have n6 := hL6 _ _ N5.out
  have HC6 := Lib.hid (HC.out w6 hB6)
  obtain ⟨⟨d0, d1, d2⟩, _⟩ := blk_cells n6
  have hlt6 := heap_lt' n6
  clear hB6 hL6 HS5 HC n6 N5
  go_wp2_with fail
  refine HC6.out.mono ?_
  clear d0 d1 d2 hlt6
  rintro e w7 ⟨rfl, out, hB, hR, _, hP⟩
  have HB := Lib.hid hB
  have HR := Lib.hid hR
  have HHH := Lib.hid (HH.out out hP)
  clear hB hR hP HC6 HH
  go_wp2
  go_ret
  exact ⟨rfl, out, HB.out, HR.out, HHH.out⟩

set_option maxRecDepth 100000 in
set_option maxHeartbeats 2000000 in
theorem takeAtEnd_no (h : Ar w 80 g base cap A c bs) (hbase : base ≤ 4611686018427387904) (hcap : cap ≤ 16384) (hl : bs.length ≤ cap) (p : Option Bk) (hp : frO (aheadB bs (bs.length : Int)) = p) (s z : Nat) (hz : (p.map Bk.size).getD 0 = z) (hzs : z ≤ s) (hs : s ≤ 16384) (hlt : cap < bs.length + (s - z)) :
    Calls Tryz.prog 113 #[.pointer (some ⟨g, 0, none⟩), .int .i64 (s : Int)] w fun e w' => e = .returned (.tuple #[.int .i64 0, errV false 5]) ∧ Below w.heap.size w w' := by
  have HL := Lib.hid (len_any h)
  have h1 := freeAhead_any h hbase (by omega) (bs.length : Int) (by omega) p hp
  rw [frV_eq, hz] at h1
  obtain ⟨fo, hfo⟩ : ∃ fo : Int, (p.map fun z => (z.off : Int)).getD (bs.length : Int) = fo := ⟨_, rfl⟩
  rw [hfo] at h1
  have H1 := Lib.hid h1
  have HG := Lib.hid (fun w2 (hB : Below w.heap.size w w2) => grow_full (h.below hB) (s - z) hl hcap hlt)
  have e1 : ((s - z : Nat) : Int) = (s : Int) - (z : Int) := Int.ofNat_sub hzs
  rw [e1] at HG
  have hfz : z ≤ 16384 := by omega
  dsimp only [errV]
  clear h1 hfo hz h hp hlt e1
  go_enter Tryz.func113, Tryz.ntmps113
  go_wp2_with fail
  with_reducible refine HL.out.mono ?_
  rintro e w1 ⟨rfl, rfl⟩
  go_wp2_with fail
  with_reducible refine H1.out.mono ?_
  rintro e w2 ⟨rfl, hb2⟩
  obtain ⟨w3, hw3⟩ : ∃ w3, w2.alloc (.cells #[.int .i64 fo, .int .i64 (z : Int), .bool false] 82) = w3 := ⟨_, rfl⟩
  have n3 : w3.heap[w2.heap.size]? = some (.cells #[.int .i64 fo, .int .i64 (z : Int), .bool false] 82 (0, 0)) := by rw [← hw3]; exact heap_alloc_new w2 _
  have hb3 : Below w.heap.size w w3 := by rw [← hw3]; exact hb2.alloc hb2.size _
  have HG3 := Lib.hid (HG.out w3 hb3)
  obtain ⟨⟨d0, d1, d2⟩, _⟩ := blk_cells n3
  have hlt3 := heap_lt' n3
  have HW3 := Lib.hid hw3
  have HB3 := Lib.hid hb3
  clear hb2 H1 HG HL hw3 n3 hb3
  go_wp2_with (first | (rw [HW3.out]) | fail)
  refine HG3.out.mono ?_
  clear d0 d1 d2 hlt3
  rintro e w4 ⟨rfl, k, rfl⟩
  have HB4 : Hid (Below w.heap.size w (w3.drewN k)) := ⟨HB3.out.os, HB3.out.tape, HB3.out.output, HB3.out.size, HB3.out.block⟩
  clear HG3
  go_wp2
  go_ret2
  exact ⟨rfl, HB4.out⟩

set_option maxRecDepth 100000 in
set_option maxHeartbeats 2000000 in
theorem takeAtEnd_yes (h : Ar w 80 g base cap A c bs) (hbase : base ≤ 4611686018427387904) (hcap : cap ≤ 16384) (hl : bs.length ≤ cap) (p : Option Bk) (hp : frO (aheadB bs (bs.length : Int)) = p) (s z o : Nat) (hz : (p.map Bk.size).getD 0 = z) (hzs : z ≤ s) (hs : s ≤ 16384) (ho : o ≤ 16384)
    (hfo : (p.map fun z => (z.off : Int)).getD (bs.length : Int) = (o : Int)) (hpz : ∀ y, p = some y → 0 < y.size ∧ y.off ≤ 16384) (hlt : bs.length + (s - z) ≤ cap) (b1 b2 : List UInt8) (e1 : outB (bs ++ List.replicate (s - z) 0) p = some b1) (hl1 : b1.length = bs.length + (s - z)) (e2 : setB b1 (o : Int) (s : Int) true = some b2) :
    Calls Tryz.prog 113 #[.pointer (some ⟨g, 0, none⟩), .int .i64 (s : Int)] w fun e w' => e = .returned (.tuple #[.int .i64 (o : Int), errV true 5]) ∧ Became 80 g base cap A b2 w w' := by
  have HL := Lib.hid (len_any h)
  have h1 := freeAhead_any h hbase (by omega) (bs.length : Int) (by omega) p hp
  have ef := frV_eq (bs.length : Int) p
  rw [hz, hfo] at ef
  rw [ef] at h1
  have H1 := Lib.hid h1
  have BC := Lib.hid (show Became 80 g base cap A bs w w from ⟨A, c, h, Tch.refl _ _, .inl rfl⟩)
  have HG := Lib.hid (fun w2 (hB : Became 80 g base cap A bs w w2) => bc_grow hB (s - z) hl hcap hlt)
  have HO := Lib.hid (fun w2 (hB : Became 80 g base cap A (bs ++ List.replicate (s - z) 0) w w2) => bc_out hB hbase (by rw [List.length_append, List.length_replicate]; omega) (bs.length : Int) p hpz e1)
  rw [ef] at HO
  have hl1' : b1.length ≤ 16384 := by omega
  have HS := Lib.hid (fun w2 c' A' (a : Ar w2 80 g base cap A' c' b1) => setC w2 g base cap c' A' b1 (o : Int) (s : Int) true _ a hbase hl1' (by omega) (by omega) e2)
  dsimp only [Done, errV] at HS
  obtain ⟨bz, hbz⟩ : ∃ bz, bs ++ List.replicate (s - z) 0 = bz := ⟨_, rfl⟩
  have e3 : ((s - z : Nat) : Int) = (s : Int) - (z : Int) := Int.ofNat_sub hzs
  rw [hbz, e3] at HG
  rw [hbz] at HO
  have hfz : z ≤ 16384 := by omega
  dsimp only [errV]
  clear h1 hfo hz h hp hlt e3 ef e1 e2 hpz hl1 hl1' hbz
  go_enter Tryz.func113, Tryz.ntmps113
  go_wp2_with fail
  with_reducible refine HL.out.mono ?_
  rintro e w1 ⟨rfl, rfl⟩
  go_wp2_with fail
  with_reducible refine H1.out.mono ?_
  rintro e w2 ⟨rfl, hb2⟩
  obtain ⟨w3, hw3⟩ : ∃ w3, w2.alloc (.cells #[.int .i64 (o : Int), .int .i64 (z : Int), .bool false] 82) = w3 := ⟨_, rfl⟩
  have n3 : w3.heap[w2.heap.size]? = some (.cells #[.int .i64 (o : Int), .int .i64 (z : Int), .bool false] 82 (0, 0)) := by rw [← hw3]; exact heap_alloc_new w2 _
  have hb3 : Below w.heap.size w w3 := by rw [← hw3]; exact hb2.alloc hb2.size _
  have HG3 := Lib.hid (HG.out w3 (became_below BC.out hb3))
  obtain ⟨⟨d0, d1, d2⟩, _⟩ := blk_cells n3
  have hlt3 := heap_lt' n3
  have HW3 := Lib.hid hw3
  have N3 := Lib.hid n3
  clear hb2 H1 HG HL hw3 n3 hb3 BC
  go_wp2_with (first | (rw [HW3.out]) | fail)
  refine HG3.out.mono ?_
  clear d0 d1 d2 hlt3
  rintro e w4 ⟨rfl, hB4, hL4⟩
  have n4 := hL4 _ _ N3.out
  have HO4 := Lib.hid (HO.out w4 hB4)
  obtain ⟨⟨d0, d1, d2⟩, _⟩ := blk_cells n4
  have hlt4 := heap_lt' n4
  have N4 := Lib.hid n4
  clear hB4 hL4 HG3 HO n4 N3
  go_wp2_with fail
  refine HO4.out.mono ?_
  clear d0 d1 d2 hlt4
  rintro e w5 ⟨rfl, hB5, hL5⟩
  have n5 := hL5 _ _ N4.out
  obtain ⟨w6, hw6⟩ : ∃ w6, w5.drew = w6 := ⟨_, rfl⟩
  have n6 : w6.heap[w2.heap.size]? = some (.cells #[.int .i64 (o : Int), .int .i64 (z : Int), .bool false] 82 (0, 0)) := by rw [← hw6]; exact n5
  have B6 : Became 80 g base cap A b1 w w6 := by rw [← hw6]; exact became_below hB5 (Below.refl _ _).drew
  obtain ⟨A6, c6, a6, t6, k6⟩ := B6
  have hnf := ar_ne a6 n6
  obtain ⟨⟨d0, d1, d2⟩, _⟩ := blk_cells n6
  have HS6 := Lib.hid (HS.out w6 c6 A6 a6)
  have HFIN := Lib.hid (fun w7 (hB : Became 80 g base cap A6 b2 w6 w7) => Became.trans a6 t6 k6 hB)
  have HNF := Lib.hid hnf
  have HW6 := Lib.hid hw6
  clear hB5 hL5 HO4 HS n5 N4 n6 a6 t6 k6 hw6 hnf
  go_wp2_with fail
  refine wp_region_set (foot g A6) [([0, 1, 2, 3, 4, 5, 6], 7)] [8, 9] [] (by kernel_rfl) (by kernel_rfl) (by kernel_rfl) (fun _ _ _ _ _ h => h) ?_
  rw [HW6.out]
  clear HW6
  have z0 : ∀ z : LaterS (foot g A6) w6, z.val.cell? ⟨w2.heap.size, 0, none⟩ = some (.int .i64 (o : Int)) := fun z => z.ext.cell d0 HNF.out
  clear d0 d1 d2
  refine set_cons (l := ?seg1) ?hseg1 ?_
  case hseg1 => simp only [pick, List.getElem?_toArray, List.getElem?_cons_succ, List.getElem?_cons_zero]; rfl
  repeat (go_big_quiet_step (fail))
  refine wpQuiet_nil ?_
  clear z0
  refine set_call (vs := #[.pointer (some ⟨g, 0, none⟩), .agg #[.int .i64 (o : Int), .int .i64 (s : Int), .bool true]]) Tryz.call118 rfl rfl rfl (R := fun r w' => r = .nilIface ∧ Became 80 g base cap A6 b2 w6 w') (HS6.out.mono ?_) ?_
  · rintro e w' ⟨rfl, hB⟩
    have hB' := hB
    obtain ⟨_, _, _, ht, _⟩ := hB'
    exact ⟨_, rfl, ht, rfl, hB⟩
  rintro r w7 _ ⟨rfl, hB7⟩
  refine ⟨foot g A6, fun _ _ h => h, ?_⟩
  refine set_last (l := ?la4) (t := []) ?hla4 ?htl4 ?_
  case hla4 => simp only [pick, List.getElem?_toArray, List.getElem?_cons_succ, List.getElem?_cons_zero]; rfl
  case htl4 => rfl
  simp only [Act.put, List.setIfInBounds_toArray, List.set_cons_zero, List.set_cons_succ]
  repeat (go_big_quiet_step (fail))
  refine wpQuiet_nil ?_
  have HB7 := Lib.hid (HFIN.out w7 hB7)
  clear hB7 HFIN HS6
  go_wp2
  go_ret2
  exact ⟨rfl, HB7.out⟩
end

set_option maxRecDepth 100000 in
set_option maxHeartbeats 2000000 in
theorem takeK : TakeK := by
  intro w g base cap c A bs H s h hb hcap hc hR hsr
  obtain ⟨hbl, hbd⟩ := hR.bound (by omega)
  have hF := findC w g base cap c A bs s h hb hbl hsr
  constructor
  · intro hs
    unfold findV at hF
    rw [if_neg (by rw [hs]; simp)] at hF
    dsimp only [errV] at hF ⊢
    have HF := Lib.hid hF
    clear hF hs h hR hbd
    go_enter Tryz.func85, Tryz.ntmps85
    go_wp2_with fail
    with_reducible refine HF.out.mono ?_
    rintro e w2 ⟨rfl, hb2⟩
    have HB2 := Lib.hid hb2
    clear hb2 HF
    go_wp2
    go_ret2
    exact ⟨rfl, HB2.out⟩
  · intro hs
    have hq := (isSz_iff _).1 hs
    unfold findV at hF
    rw [if_pos hs] at hF
    obtain ⟨n, rfl⟩ : ∃ n : Nat, s = (n : Int) := ⟨s.toNat, by omega⟩
    rw [Int.toNat_natCast]
    have hfi := hR.finds hs
    rw [hfi] at hF
    dsimp only [Option.getD, Option.isSome, errV] at hF
    have BC := Lib.hid (show Became 80 g base cap A bs w w from ⟨A, c, h, Tch.refl _ _, .inl rfl⟩)
    cases hi : H.find n with
    | some i =>
      obtain ⟨i1, i2, i3⟩ := hR.found hs hi
      obtain ⟨m1, m2⟩ := mid_split i1
      have et := take_fnd hi
      obtain ⟨x, hx⟩ : ∃ x, bkAt H.blks i = x := ⟨_, rfl⟩
      rw [hi] at hF
      dsimp only [Option.map] at hF
      rw [hx] at m1 i2 i3 et hF
      have hxb := hbd x (by rw [m1]; simp)
      obtain ⟨xo, xs, xu⟩ := x
      dsimp only at i2 i3 hxb et hF
      subst i3
      rw [et]
      dsimp only [TurnedAt, errV]
      have HT := Lib.hid (fun w2 (hB : Became 80 g base cap A bs w w2) => takeFree_any hB hb hcap hc hR m1 hs i2)
      rw [m2] at HT
      have HF := Lib.hid hF
      have e0 : ((xo : Int) == 0) = false := by rw [beq_eq_false_iff_ne]; omega
      clear hF hfi hi et m1 m2 hx hR h hbd hs
      go_enter Tryz.func85, Tryz.ntmps85
      go_wp2_with fail
      with_reducible refine HF.out.mono ?_
      rintro e w2 ⟨rfl, hb2⟩
      have HT2 := Lib.hid (HT.out w2 (became_below BC.out hb2))
      clear hb2 HF HT BC
      go_wp2_with fail
      refine HT2.out.mono ?_
      rintro e w4 ⟨rfl, out, hB, hR, hH⟩
      have HB := Lib.hid hB
      have HR := Lib.hid hR
      have HH := Lib.hid hH
      clear hB hR hH HT2
      go_wp2
      go_ret2
      exact ⟨rfl, out, HB.out, HR.out, HH.out⟩
    | none =>
      obtain ⟨A0, p, b1, hpu, hfr, htl⟩ := hR.tail (by omega)
      have hlo := hR.lost hs hi
      have hlen := hR.lenE
      have hle := hR.len
      have hM := hR.md (by omega)
      have ht := hM.tl
      rw [b1, tile_app] at ht
      obtain ⟨t1, t2⟩ := ht
      obtain ⟨o, ho⟩ : ∃ o, 184 + sumB A0 = o := ⟨_, rfl⟩
      have hlen2 : bs.length = o + sumB p.toList := by
        rw [← hlen, b1, ← ho]; unfold lenB; rw [sumB_app]; omega
      obtain ⟨z, hz⟩ : ∃ z, sumB p.toList = z := ⟨_, rfl⟩
      have hpz : (p.map Bk.size).getD 0 = z := by rw [← hz]; cases p <;> simp [sumB]
      have hpo : ∀ y, p = some y → y.off = 184 + sumB A0 ∧ 0 < y.size := fun y hy => by
        have hyb := hbd y (by rw [b1, hy]; simp)
        rw [hy] at t2
        obtain ⟨t3, _⟩ := t2
        exact ⟨t3, by omega⟩
      have hfo : (p.map fun z => (z.off : Int)).getD (bs.length : Int) = (o : Int) := by
        cases p with
        | none =>
          show (bs.length : Int) = (o : Int)
          rw [hlen2]; simp [sumB]
        | some y =>
          show (y.off : Int) = (o : Int)
          rw [(hpo y rfl).1, ho]
      have hzn : z ≤ n := by
        rw [← hz]
        cases p with
        | none => simp [sumB]
        | some y =>
          have := hlo y (by rw [b1]; simp) (hpu y rfl)
          simp [sumB]; omega
      rw [hi] at hF
      dsimp only [Option.map] at hF
      have htz : tailF H.blks = z := htl.trans hz
      by_cases hroom : cap < bs.length + (n - z)
      · have et := take_full hi (by rw [htz, hlen, hc]; omega)
        rw [et]
        dsimp only [TurnedAt]
        have HT := Lib.hid (fun w2 (hB : Below w.heap.size w w2) => takeAtEnd_no (h.below hB) hb hcap (by omega) p hfr n z hpz hzn (by omega) hroom)
        dsimp only [errV] at HT ⊢
        have HF := Lib.hid hF
        clear hF hfi hi et hR h hbd hs b1 hpu hfr htl htz hlo hlen hle hM t1 t2 ho hlen2 hz hpz hpo hfo hroom
        go_enter Tryz.func85, Tryz.ntmps85
        go_wp2_with fail
        with_reducible refine HF.out.mono ?_
        rintro e w2 ⟨rfl, hb2⟩
        have HT2 := Lib.hid (HT.out w2 hb2)
        have HB2 := Lib.hid hb2
        clear hb2 HF HT BC
        go_wp2_with fail
        refine HT2.out.mono ?_
        rintro e w4 ⟨rfl, hb4⟩
        have HB4 := Lib.hid (HB2.out.trans (hb4.mono HB2.out.size))
        clear hb4 HT2 HB2
        go_wp2
        go_ret2
        exact ⟨rfl, HB4.out⟩
      · obtain ⟨H', et, hb', hl', hc'⟩ := take_end hi (by rw [htz, hlen, hc]; omega) b1 htl hpo
        rw [et]
        dsimp only [TurnedAt]
        obtain ⟨q1, e1, e2, l1, l2, hRt, hP⟩ := hR.adds (by omega) b1 hpu (o := o) (s := n) (n := n - z) ho.symm hs (by omega) (by omega)
        have hRR := hRt H' (by rw [hb', ho]) hl' hc'
        have hHD : Held H bs H' (setT q1 ⟨o, n, true⟩) := fun z hz hzu y _ _ _ i i1 i2 _ => hP z hz hzu i ⟨i1, i2⟩
        rw [ho]
        obtain ⟨b2, hb2⟩ : ∃ b2, setT q1 ⟨o, n, true⟩ = b2 := ⟨_, rfl⟩
        rw [hb2] at e2 hRR hHD
        have HT := Lib.hid (fun w2 (hB : Below w.heap.size w w2) => takeAtEnd_yes (h.below hB) hb hcap (by omega) p hfr n z o hpz hzn (by omega) (by omega) hfo (fun y hy => ⟨(hpo y hy).2, by have := (hpo y hy).1; omega⟩) (by omega) q1 b2 e1 l1 e2)
        dsimp only [errV] at HT ⊢
        have HF := Lib.hid hF
        have HRR := Lib.hid hRR
        have HHD := Lib.hid hHD
        clear hF hfi hi et hR h hbd hs b1 hpu hfr htl htz hlo hlen hle hM t1 t2 ho hlen2 hz hpz hpo hfo hroom hb' hl' hc' e1 e2 l1 l2 hRt hP hRR hHD hb2
        go_enter Tryz.func85, Tryz.ntmps85
        go_wp2_with fail
        with_reducible refine HF.out.mono ?_
        rintro e w2 ⟨rfl, hb2⟩
        have HT2 := Lib.hid (HT.out w2 hb2)
        have HB2 := Lib.hid hb2
        clear hb2 HF HT BC
        go_wp2_with fail
        refine HT2.out.mono ?_
        rintro e w4 ⟨rfl, hb4⟩
        have HB4 := Lib.hid (hb4.after HB2.out)
        clear hb4 HT2 HB2
        go_wp2
        go_ret2
        exact ⟨rfl, b2, HB4.out, HRR.out, HHD.out⟩
end Go.Proofs.YtbldlidpapdkbaaGreatDoor

/- errors.Is of two of the program's own errors: Go's own text, walked. -/
namespace Go.Proofs.YtbldlidpapdkbaaGreatDoor
open Go.RowKit Go.Extern.Stop Go.Stop Go.Extern

theorem code_typeOf (v : Value) (w : World) : (Extern.ReflectliteType.typeOf #[.iface 68 v]).run Tryz.prog w = .ok (.iface 164 (.agg #[.pointer (some ⟨1, 68, none⟩)])) w := by kernel_rfl
def cmpRow : Array Value → Sem Value := Extern.ReflectliteType.method fun t => do Extern.Rtype.noPackHeld "Comparable" t; pure (.bool (← typeInfo t).comparable)
theorem code_comparable (w : World) : (cmpRow #[.agg #[.pointer (some ⟨1, 68, none⟩)]]).run Tryz.prog w = .ok (.bool true) w := by kernel_rfl
theorem rtype_method (v : Value) (w : World) : (Go.method 319 164 v "Comparable").run Tryz.prog w = .ok (168, v) w := by kernel_rfl
theorem code_noIs (v : Value) (xT : TypeId) (w : World) : (Instr.typeAssert (.iface 68 v) xT 181 true).run Tryz.prog w = .ok (.tuple #[.nilIface, .bool false]) w := run_typeAssert_lacksB Tryz.underlying181 (by kernel_rfl) (by kernel_rfl) v xT w
theorem code_noUnwrap (v : Value) (xT : TypeId) (w : World) : (Instr.typeAssert (.iface 68 v) xT 171 true).run Tryz.prog w = .ok (.tuple #[.nilIface, .bool false]) w := run_typeAssert_lacksB Tryz.underlying171 (by kernel_rfl) (by kernel_rfl) v xT w
theorem code_noUnwraps (v : Value) (xT : TypeId) (w : World) : (Instr.typeAssert (.iface 68 v) xT 173 true).run Tryz.prog w = .ok (.tuple #[.nilIface, .bool false]) w := run_typeAssert_lacksB Tryz.underlying173 (by kernel_rfl) (by kernel_rfl) v xT w
theorem code_eql11 (w : World) : (binOp .eql 27 (.iface 68 (.int .i64 1)) (.iface 68 (.int .i64 1))).run Tryz.prog w = .ok (.bool true) w := by kernel_rfl
theorem code_eql31 (w : World) : (binOp .eql 27 (.iface 68 (.int .i64 3)) (.iface 68 (.int .i64 1))).run Tryz.prog w = .ok (.bool false) w := by kernel_rfl

/-- The same error. -/
theorem is_11 (w : World) :
    Calls Tryz.prog 89 #[.iface 68 (.int .i64 1), .iface 68 (.int .i64 1)] w fun e w' => e = .returned (.bool true) ∧ w' = w := by
  have h8 := @run_callFunc_extern Tryz.prog 120 _ Extern.ReflectliteType.typeOf Tryz.func120 (by kernel_rfl) (by kernel_rfl) (by kernel_rfl) (by kernel_rfl)
  have h32 := @run_callFunc_extern Tryz.prog 168 _ cmpRow Tryz.func168 (by kernel_rfl) (by kernel_rfl) (by kernel_rfl) (by kernel_rfl)
  have tT := code_typeOf
  have cT := code_comparable
  have mR := rtype_method
  have heq := code_eql11
  go_enter Tryz.func89, Tryz.ntmps89
  go_wp2
  refine wp_loop_rounds 1 ?_
  rw [rounds_succ]
  go_wp2
  go_ret
  exact ⟨rfl, rfl⟩

/-- Another one. -/
theorem is_31 (w : World) :
    Calls Tryz.prog 89 #[.iface 68 (.int .i64 3), .iface 68 (.int .i64 1)] w fun e w' => e = .returned (.bool false) ∧ w' = w := by
  have h8 := @run_callFunc_extern Tryz.prog 120 _ Extern.ReflectliteType.typeOf Tryz.func120 (by kernel_rfl) (by kernel_rfl) (by kernel_rfl) (by kernel_rfl)
  have h32 := @run_callFunc_extern Tryz.prog 168 _ cmpRow Tryz.func168 (by kernel_rfl) (by kernel_rfl) (by kernel_rfl) (by kernel_rfl)
  have tT := code_typeOf
  have cT := code_comparable
  have mR := rtype_method
  have nE := code_noIs
  have uE := code_noUnwrap
  have vE := code_noUnwraps
  have heq := code_eql31
  go_enter Tryz.func89, Tryz.ntmps89
  go_wp2
  refine wp_loop_rounds 1 ?_
  rw [rounds_succ]
  go_wp2
  go_ret
  exact ⟨rfl, rfl⟩
end Go.Proofs.YtbldlidpapdkbaaGreatDoor

/- What the program's resize (layer 13) is to tell. -/
namespace Go.Proofs.YtbldlidpapdkbaaGreatDoor
open Go.RowKit

def RezTold (g base cap : Nat) (A : Option Addr) (bs : List UInt8) (H : Hp) (o : Int) (r : (Nat × Int) × Hp) (w : World) (e : Ending) (w' : World) : Prop :=
  (r.1.2 = 0 → e = .returned (.tuple #[.int .i64 (r.1.1 : Int), errV true 0]) ∧ ∃ out, Became 80 g base cap A out w w' ∧ Rt out r.2 ∧ Held H bs r.2 out ∧ Moved H bs o r.2 out r.1.1) ∧
  (r.1.2 ≠ 0 → e = .returned (.tuple #[.int .i64 0, errV false r.1.2]) ∧ Below w.heap.size w w')
def ResizeK : Prop := ∀ (w : World) (g base cap c : Nat) (A : Option Addr) (bs : List UInt8) (H : Hp) (o s : Int), Ar w 80 g base cap A c bs → base ≤ 4611686018427387904 → cap ≤ 16384 → H.cap = cap → Rt bs H → (-9223372036854775808 ≤ o ∧ o ≤ 9223372036854775807) → (-9223372036854775808 ≤ s ∧ s ≤ 9223372036854775807) →
  (isSz s = false → Calls Tryz.prog 57 #[.pointer (some ⟨g, 0, none⟩), .int .i64 o, .int .i64 s] w fun e w' => e = .returned (.tuple #[.int .i64 0, errV false 1]) ∧ Below w.heap.size w w') ∧
  (isSz s = true → Calls Tryz.prog 57 #[.pointer (some ⟨g, 0, none⟩), .int .i64 o, .int .i64 s] w fun e w' => RezTold g base cap A bs H o (H.resize o s.toNat) w e w')
end Go.Proofs.YtbldlidpapdkbaaGreatDoor

/- The program's resize (layer 13), its small parts: the free block behind one; a block that gets the bytes of both; where a held stretch begins; an offset beside an error. -/
namespace Go.Proofs.YtbldlidpapdkbaaGreatDoor
open Go.RowKit

section
variable {w w1 : World} {g base cap c : Nat} {A : Option Addr} {bs b1 b2 : List UInt8}
set_option maxHeartbeats 1000000 in
theorem settled_ok (o : Int) :
    Calls Tryz.prog 124 #[.int .i64 o, .nilIface] w fun e w' => e = .returned (.tuple #[.int .i64 o, .nilIface]) ∧ w' = w := by
  go_enter Tryz.func124, Tryz.ntmps124
  go_wp2
  go_ret2
  exact ⟨rfl, rfl⟩

set_option maxRecDepth 100000 in
set_option maxHeartbeats 1000000 in
theorem heldAt_any (h : Ar w 80 g base cap A c bs) (hb : base ≤ 4611686018427387904) (o : Nat) (ho : o ≤ 16384) :
    Calls Tryz.prog 138 #[.pointer (some ⟨g, 0, none⟩), .int .i64 (o : Int)] w fun e w' => e = .returned (.int .u64 ((base + o + 8 : Nat) : Int)) ∧ w = w' := by
  have HB := Lib.hid (base_any h)
  have e1 : IntKind.u64.wrap (o : Int) = (o : Int) := IntWalk.u64_in _ (by omega)
  have e2 : IntKind.u64.wrap ((base : Int) + (o : Int)) = (base : Int) + (o : Int) := IntWalk.u64_in _ (by omega)
  have e3 : IntKind.u64.wrap ((base : Int) + (o : Int) + 8) = (base : Int) + (o : Int) + 8 := IntWalk.u64_in _ (by omega)
  clear h
  go_enter Tryz.func138, Tryz.ntmps138
  go_wp2_with fail
  with_reducible refine HB.out.mono ?_
  rintro e w' ⟨rfl, rfl⟩
  go_wp2
  go_ret
  exact ⟨by push_cast; rfl, rfl⟩

set_option maxRecDepth 100000 in
set_option maxHeartbeats 1000000 in
theorem behind_none (h : Ar w 80 g base cap A c bs) (hb : base ≤ 4611686018427387904) (hl : bs.length ≤ 16384) (xo xs : Nat) (hxo : xo ≤ 16384) (hxs : xs ≤ 16384) (hy : getB bs ((xo : Int) + (xs : Int)) = none) :
    Calls Tryz.prog 122 #[.pointer (some ⟨g, 0, none⟩), .agg #[.int .i64 (xo : Int), .int .i64 (xs : Int), .bool true]] w fun e w' => e = .returned (frV 0 none) ∧ Below w.heap.size w w' := by
  obtain ⟨w0, hw0⟩ : ∃ w0, w.alloc (.cells #[.int .i64 (xo : Int), .int .i64 (xs : Int), .bool true] 82) = w0 := ⟨_, rfl⟩
  have hb0 : Below w.heap.size w w0 := by rw [← hw0]; exact (Below.refl _ _).alloc (Nat.le_refl _) _
  have n0 : w0.heap[w.heap.size]? = some (.cells #[.int .i64 (xo : Int), .int .i64 (xs : Int), .bool true] 82 (0, 0)) := by rw [← hw0]; exact heap_alloc_new w _
  have z0 : w0.heap.size = w.heap.size + 1 := by rw [← hw0]; simp only [World.alloc, Array.size_push]
  obtain ⟨w1, hw1⟩ : ∃ w1, w0.alloc (.cells #[.int .i64 0, .int .i64 0, .bool false] 82) = w1 := ⟨_, rfl⟩
  have hb1 : Below w.heap.size w w1 := by rw [← hw1]; exact hb0.alloc hb0.size _
  have hn1 : w1.heap[w.heap.size + 1]? = some (.cells #[.int .i64 0, .int .i64 0, .bool false] 82 (0, 0)) := by rw [← hw1, ← z0]; exact heap_alloc_new w0 _
  have n1 : w1.heap[w.heap.size]? = some (.cells #[.int .i64 (xo : Int), .int .i64 (xs : Int), .bool true] 82 (0, 0)) := by rw [← hw1]; exact (heap_alloc_old _ _ (heap_lt n0)).trans n0
  have h1 := h.below hb1
  have hG := getC w1 g base cap c A bs ((xo : Int) + (xs : Int)) _ h1 hb hl ⟨by omega, by omega⟩ hy
  dsimp only [BlkTold, bkV, Bk.val, Option.isSome, errV] at hG
  have HG := Lib.hid hG
  have HW0 := Lib.hid hw0
  have HW1 := Lib.hid hw1
  have HB1 := Lib.hid hb1
  have HN1 := Lib.hid hn1
  obtain ⟨⟨d0, d1, d2⟩, _⟩ := blk_cells n1
  have hlt1 := heap_lt' n1
  clear hG hy hw0 hw1 hb0 hb1 n0 n1 hn1 h1 h z0
  go_enter Tryz.func122, Tryz.ntmps122
  go_wp2_with (first | (rw [HW0.out, HW1.out]) | fail)
  clear d0 d1 d2 hlt1
  with_reducible refine HG.out.mono ?_
  rintro e w2 ⟨rfl, hb2⟩
  have hn2 := (hb2.block _ (heap_lt HN1.out)).trans HN1.out
  have HB2 := Lib.hid (HB1.out.trans (hb2.mono HB1.out.size))
  have HN2 := Lib.hid hn2
  clear hb2 hn2 HG
  obtain ⟨⟨c0, c1, c2⟩, f0, f1, f2⟩ := blk_cells HN2.out
  have hlt := heap_lt' HN2.out
  go_wp2
  (try simp only [Exit.inBlock, Exit.then])
  refine blk_ret1 (g := w.heap.size + 1) (o := 0) (s := 0) (b := false) Tryz.results122 ?_ ?_ ((heap_alloc_old _ _ (heap_lt (blk_set HN2.out _ _ _))).trans (blk_set HN2.out _ _ _)) ?_
  · rfl
  · rfl
  · refine ⟨rfl, Below.alloc (((HB2.out.setCell ?_ _).setCell ?_ _).setCell ?_ _) ?_ _⟩
    · exact Nat.le_succ _
    · exact Nat.le_succ _
    · exact Nat.le_succ _
    · simp only [World.setCell]
      have h9 := HB2.out.size
      simpa using h9

set_option maxRecDepth 100000 in
set_option maxHeartbeats 1000000 in
theorem behind_used (h : Ar w 80 g base cap A c bs) (hb : base ≤ 4611686018427387904) (hl : bs.length ≤ 16384) (xo xs : Nat) (hxo : xo ≤ 16384) (hxs : xs ≤ 16384) (yo ys : Nat) (hy : getB bs ((xo : Int) + (xs : Int)) = some ⟨yo, ys, true⟩) :
    Calls Tryz.prog 122 #[.pointer (some ⟨g, 0, none⟩), .agg #[.int .i64 (xo : Int), .int .i64 (xs : Int), .bool true]] w fun e w' => e = .returned (frV 0 none) ∧ Below w.heap.size w w' := by
  obtain ⟨w0, hw0⟩ : ∃ w0, w.alloc (.cells #[.int .i64 (xo : Int), .int .i64 (xs : Int), .bool true] 82) = w0 := ⟨_, rfl⟩
  have hb0 : Below w.heap.size w w0 := by rw [← hw0]; exact (Below.refl _ _).alloc (Nat.le_refl _) _
  have n0 : w0.heap[w.heap.size]? = some (.cells #[.int .i64 (xo : Int), .int .i64 (xs : Int), .bool true] 82 (0, 0)) := by rw [← hw0]; exact heap_alloc_new w _
  have z0 : w0.heap.size = w.heap.size + 1 := by rw [← hw0]; simp only [World.alloc, Array.size_push]
  obtain ⟨w1, hw1⟩ : ∃ w1, w0.alloc (.cells #[.int .i64 0, .int .i64 0, .bool false] 82) = w1 := ⟨_, rfl⟩
  have hb1 : Below w.heap.size w w1 := by rw [← hw1]; exact hb0.alloc hb0.size _
  have hn1 : w1.heap[w.heap.size + 1]? = some (.cells #[.int .i64 0, .int .i64 0, .bool false] 82 (0, 0)) := by rw [← hw1, ← z0]; exact heap_alloc_new w0 _
  have n1 : w1.heap[w.heap.size]? = some (.cells #[.int .i64 (xo : Int), .int .i64 (xs : Int), .bool true] 82 (0, 0)) := by rw [← hw1]; exact (heap_alloc_old _ _ (heap_lt n0)).trans n0
  have h1 := h.below hb1
  have hG := getC w1 g base cap c A bs ((xo : Int) + (xs : Int)) _ h1 hb hl ⟨by omega, by omega⟩ hy
  dsimp only [BlkTold, bkV, Bk.val, Option.isSome, errV] at hG
  have HG := Lib.hid hG
  have HW0 := Lib.hid hw0
  have HW1 := Lib.hid hw1
  have HB1 := Lib.hid hb1
  have HN1 := Lib.hid hn1
  obtain ⟨⟨d0, d1, d2⟩, _⟩ := blk_cells n1
  have hlt1 := heap_lt' n1
  clear hG hy hw0 hw1 hb0 hb1 n0 n1 hn1 h1 h z0
  go_enter Tryz.func122, Tryz.ntmps122
  go_wp2_with (first | (rw [HW0.out, HW1.out]) | fail)
  clear d0 d1 d2 hlt1
  with_reducible refine HG.out.mono ?_
  rintro e w2 ⟨rfl, hb2⟩
  have hn2 := (hb2.block _ (heap_lt HN1.out)).trans HN1.out
  have HB2 := Lib.hid (HB1.out.trans (hb2.mono HB1.out.size))
  have HN2 := Lib.hid hn2
  clear hb2 hn2 HG
  obtain ⟨⟨c0, c1, c2⟩, f0, f1, f2⟩ := blk_cells HN2.out
  have hlt := heap_lt' HN2.out
  go_wp2
  (try simp only [Exit.inBlock, Exit.then])
  refine blk_ret1 (g := w.heap.size + 1) (o := 0) (s := 0) (b := false) Tryz.results122 ?_ ?_ ((heap_alloc_old _ _ (heap_lt (blk_set HN2.out _ _ _))).trans (blk_set HN2.out _ _ _)) ?_
  · rfl
  · rfl
  · refine ⟨rfl, Below.alloc (((HB2.out.setCell ?_ _).setCell ?_ _).setCell ?_ _) ?_ _⟩
    · exact Nat.le_succ _
    · exact Nat.le_succ _
    · exact Nat.le_succ _
    · simp only [World.setCell]
      have h9 := HB2.out.size
      simpa using h9

set_option maxRecDepth 100000 in
set_option maxHeartbeats 1000000 in
theorem behind_free (h : Ar w 80 g base cap A c bs) (hb : base ≤ 4611686018427387904) (hl : bs.length ≤ 16384) (xo xs : Nat) (hxo : xo ≤ 16384) (hxs : xs ≤ 16384) (yo ys : Nat) (hy : getB bs ((xo : Int) + (xs : Int)) = some ⟨yo, ys, false⟩) :
    Calls Tryz.prog 122 #[.pointer (some ⟨g, 0, none⟩), .agg #[.int .i64 (xo : Int), .int .i64 (xs : Int), .bool true]] w fun e w' => e = .returned (frV 0 (some ⟨yo, ys, false⟩)) ∧ Below w.heap.size w w' := by
  obtain ⟨w0, hw0⟩ : ∃ w0, w.alloc (.cells #[.int .i64 (xo : Int), .int .i64 (xs : Int), .bool true] 82) = w0 := ⟨_, rfl⟩
  have hb0 : Below w.heap.size w w0 := by rw [← hw0]; exact (Below.refl _ _).alloc (Nat.le_refl _) _
  have n0 : w0.heap[w.heap.size]? = some (.cells #[.int .i64 (xo : Int), .int .i64 (xs : Int), .bool true] 82 (0, 0)) := by rw [← hw0]; exact heap_alloc_new w _
  have z0 : w0.heap.size = w.heap.size + 1 := by rw [← hw0]; simp only [World.alloc, Array.size_push]
  obtain ⟨w1, hw1⟩ : ∃ w1, w0.alloc (.cells #[.int .i64 0, .int .i64 0, .bool false] 82) = w1 := ⟨_, rfl⟩
  have hb1 : Below w.heap.size w w1 := by rw [← hw1]; exact hb0.alloc hb0.size _
  have hn1 : w1.heap[w.heap.size + 1]? = some (.cells #[.int .i64 0, .int .i64 0, .bool false] 82 (0, 0)) := by rw [← hw1, ← z0]; exact heap_alloc_new w0 _
  have n1 : w1.heap[w.heap.size]? = some (.cells #[.int .i64 (xo : Int), .int .i64 (xs : Int), .bool true] 82 (0, 0)) := by rw [← hw1]; exact (heap_alloc_old _ _ (heap_lt n0)).trans n0
  have h1 := h.below hb1
  have hG := getC w1 g base cap c A bs ((xo : Int) + (xs : Int)) _ h1 hb hl ⟨by omega, by omega⟩ hy
  dsimp only [BlkTold, bkV, Bk.val, Option.isSome, errV] at hG
  have HG := Lib.hid hG
  have HW0 := Lib.hid hw0
  have HW1 := Lib.hid hw1
  have HB1 := Lib.hid hb1
  have HN1 := Lib.hid hn1
  obtain ⟨⟨d0, d1, d2⟩, _⟩ := blk_cells n1
  have hlt1 := heap_lt' n1
  clear hG hy hw0 hw1 hb0 hb1 n0 n1 hn1 h1 h z0
  go_enter Tryz.func122, Tryz.ntmps122
  go_wp2_with (first | (rw [HW0.out, HW1.out]) | fail)
  clear d0 d1 d2 hlt1
  with_reducible refine HG.out.mono ?_
  rintro e w2 ⟨rfl, hb2⟩
  have hn2 := (hb2.block _ (heap_lt HN1.out)).trans HN1.out
  have HB2 := Lib.hid (HB1.out.trans (hb2.mono HB1.out.size))
  have HN2 := Lib.hid hn2
  clear hb2 hn2 HG
  obtain ⟨⟨c0, c1, c2⟩, f0, f1, f2⟩ := blk_cells HN2.out
  have hlt := heap_lt' HN2.out
  go_wp2
  (try simp only [Exit.inBlock, Exit.then])
  refine blk_ret1 (g := w.heap.size + 1) (o := (yo : Int)) (s := (ys : Int)) (b := false) Tryz.results122 ?_ ?_ ((heap_alloc_old _ _ (heap_lt (blk_set HN2.out _ _ _))).trans (blk_set HN2.out _ _ _)) ?_
  · rfl
  · rfl
  · refine ⟨rfl, Below.alloc (((HB2.out.setCell ?_ _).setCell ?_ _).setCell ?_ _) ?_ _⟩
    · exact Nat.le_succ _
    · exact Nat.le_succ _
    · exact Nat.le_succ _
    · simp only [World.setCell]
      have h9 := HB2.out.size
      simpa using h9

theorem behind_any (h : Ar w 80 g base cap A c bs) (hb : base ≤ 4611686018427387904) (hl : bs.length ≤ 16384) (xo xs : Nat) (hxo : xo ≤ 16384) (hxs : xs ≤ 16384) (y : Option Bk) (hy : frO (getB bs ((xo : Int) + (xs : Int))) = y) :
    Calls Tryz.prog 122 #[.pointer (some ⟨g, 0, none⟩), .agg #[.int .i64 (xo : Int), .int .i64 (xs : Int), .bool true]] w fun e w' => e = .returned (frV 0 y) ∧ Below w.heap.size w w' := by
  subst hy
  cases hg : getB bs ((xo : Int) + (xs : Int)) with
  | none => exact behind_none h hb hl xo xs hxo hxs hg
  | some x =>
    obtain ⟨yo, ys, yu⟩ := x
    cases yu with
    | true => exact behind_used h hb hl xo xs hxo hxs yo ys hg
    | false => exact behind_free h hb hl xo xs hxo hxs yo ys hg

theorem bc_take (h : Became 80 g base cap A b1 w w1) (hb : base ≤ 4611686018427387904) (hl : b1.length ≤ 16384) (o : Nat) (ho : o ≤ 16384) (hy : takeB b1 (o : Int) = some b2) :
    Calls Tryz.prog 135 #[.pointer (some ⟨g, 0, none⟩), .int .i64 (o : Int)] w1 fun e w2 => e = .returned .nilIface ∧ Became 80 g base cap A b2 w w2 ∧ Loc w1 w2 := by
  obtain ⟨A', c', a, tc, k⟩ := h
  refine (takeC w1 g base cap c' A' b1 (o : Int) _ a hb hl (by omega) hy).mono ?_
  rintro e w2 ⟨h1, h2⟩
  have h2' := h2
  obtain ⟨_, _, _, ht, _⟩ := h2'
  exact ⟨h1, Became.trans a tc k h2, Loc.tch a ht⟩
end

section
variable {w w1 : World} {g base cap c : Nat} {A : Option Addr} {bs b1 b2 : List UInt8}
set_option maxRecDepth 100000 in
set_option maxHeartbeats 2000000 in
theorem join_none (h : Became 80 g base cap A bs w w1) (hb : base ≤ 4611686018427387904) (hl : bs.length ≤ 16384) (xo xs n : Nat) (ho : xo ≤ 16384) (hn : n ≤ 16384) (hy : setB bs (xo : Int) (n : Int) true = some b2) :
    Calls Tryz.prog 123 #[.pointer (some ⟨g, 0, none⟩), .agg #[.int .i64 (xo : Int), .int .i64 (xs : Int), .bool true], .agg #[.int .i64 0, .int .i64 0, .bool false], .int .i64 (n : Int)] w1 fun e w2 => e = .returned (.tuple #[]) ∧ Became 80 g base cap A b2 w w2 := by
  obtain ⟨w0, hw0⟩ : ∃ w0, w1.alloc (.cells #[.int .i64 (xo : Int), .int .i64 (xs : Int), .bool true] 82) = w0 := ⟨_, rfl⟩
  have B0 := became_alloc h (.cells #[.int .i64 (xo : Int), .int .i64 (xs : Int), .bool true] 82)
  rw [hw0] at B0
  have n0 : w0.heap[w1.heap.size]? = some (.cells #[.int .i64 (xo : Int), .int .i64 (xs : Int), .bool true] 82 (0, 0)) := by rw [← hw0]; exact heap_alloc_new w1 _
  have z0 : w0.heap.size = w1.heap.size + 1 := by rw [← hw0]; simp only [World.alloc, Array.size_push]
  obtain ⟨w2, hw2⟩ : ∃ w2, w0.alloc (.cells #[.int .i64 0, .int .i64 0, .bool false] 82) = w2 := ⟨_, rfl⟩
  have B2 := became_alloc B0 (.cells #[.int .i64 0, .int .i64 0, .bool false] 82)
  rw [hw2] at B2
  have m2 : w2.heap[w1.heap.size + 1]? = some (.cells #[.int .i64 0, .int .i64 0, .bool false] 82 (0, 0)) := by rw [← hw2, ← z0]; exact heap_alloc_new w0 _
  have n2 : w2.heap[w1.heap.size]? = some (.cells #[.int .i64 (xo : Int), .int .i64 (xs : Int), .bool true] 82 (0, 0)) := by rw [← hw2]; exact (heap_alloc_old _ _ (heap_lt n0)).trans n0
  have HS := Lib.hid (bc_set B2 hb hl xo n true ho hn hy)
  have HW0 := Lib.hid hw0
  have HW2 := Lib.hid hw2
  obtain ⟨⟨d0, d1, d2⟩, _⟩ := blk_cells n2
  have hlt1 := heap_lt' n2
  obtain ⟨⟨c0, c1, c2⟩, _⟩ := blk_cells m2
  have hlt2 := heap_lt' m2
  clear hw0 hw2 B0 B2 n0 n2 m2 z0 hy h
  go_enter Tryz.func123, Tryz.ntmps123
  go_wp2_with (first | (rw [HW0.out, HW2.out]) | fail)
  refine HS.out.mono ?_
  rintro e w3 ⟨rfl, hB3, _⟩
  have HB3 := Lib.hid hB3
  clear hB3 HS d0 d1 d2 c0 c1 c2 hlt1 hlt2
  go_wp2
  go_end0
  exact ⟨rfl, HB3.out⟩

set_option maxRecDepth 100000 in
set_option maxHeartbeats 2000000 in
theorem join_some (h : Became 80 g base cap A bs w w1) (hb : base ≤ 4611686018427387904) (hl : bs.length ≤ 16384) (xo xs yo ys n : Nat) (ho : xo ≤ 16384) (hyo : yo ≤ 16384) (hys : (0 : Int) < (ys : Int)) (hn : n ≤ 16384) (hl1 : b1.length ≤ 16384) (ht : takeB bs (yo : Int) = some b1) (hy : setB b1 (xo : Int) (n : Int) true = some b2) :
    Calls Tryz.prog 123 #[.pointer (some ⟨g, 0, none⟩), .agg #[.int .i64 (xo : Int), .int .i64 (xs : Int), .bool true], .agg #[.int .i64 (yo : Int), .int .i64 (ys : Int), .bool false], .int .i64 (n : Int)] w1 fun e w2 => e = .returned (.tuple #[]) ∧ Became 80 g base cap A b2 w w2 := by
  obtain ⟨w0, hw0⟩ : ∃ w0, w1.alloc (.cells #[.int .i64 (xo : Int), .int .i64 (xs : Int), .bool true] 82) = w0 := ⟨_, rfl⟩
  have B0 := became_alloc h (.cells #[.int .i64 (xo : Int), .int .i64 (xs : Int), .bool true] 82)
  rw [hw0] at B0
  have n0 : w0.heap[w1.heap.size]? = some (.cells #[.int .i64 (xo : Int), .int .i64 (xs : Int), .bool true] 82 (0, 0)) := by rw [← hw0]; exact heap_alloc_new w1 _
  have z0 : w0.heap.size = w1.heap.size + 1 := by rw [← hw0]; simp only [World.alloc, Array.size_push]
  obtain ⟨w2, hw2⟩ : ∃ w2, w0.alloc (.cells #[.int .i64 (yo : Int), .int .i64 (ys : Int), .bool false] 82) = w2 := ⟨_, rfl⟩
  have B2 := became_alloc B0 (.cells #[.int .i64 (yo : Int), .int .i64 (ys : Int), .bool false] 82)
  rw [hw2] at B2
  have m2 : w2.heap[w1.heap.size + 1]? = some (.cells #[.int .i64 (yo : Int), .int .i64 (ys : Int), .bool false] 82 (0, 0)) := by rw [← hw2, ← z0]; exact heap_alloc_new w0 _
  have n2 : w2.heap[w1.heap.size]? = some (.cells #[.int .i64 (xo : Int), .int .i64 (xs : Int), .bool true] 82 (0, 0)) := by rw [← hw2]; exact (heap_alloc_old _ _ (heap_lt n0)).trans n0
  have HT := Lib.hid (bc_take B2 hb hl yo hyo ht)
  have HS := Lib.hid (fun w3 (B3 : Became 80 g base cap A b1 w w3) => bc_set B3 hb hl1 xo n true ho hn hy)
  have HW0 := Lib.hid hw0
  have HW2 := Lib.hid hw2
  have HN2 := Lib.hid n2
  obtain ⟨⟨d0, d1, d2⟩, _⟩ := blk_cells n2
  have hlt1 := heap_lt' n2
  obtain ⟨⟨c0, c1, c2⟩, _⟩ := blk_cells m2
  have hlt2 := heap_lt' m2
  clear hw0 hw2 B0 B2 n0 n2 m2 z0 hy ht h
  go_enter Tryz.func123, Tryz.ntmps123
  go_wp2_with (first | (rw [HW0.out, HW2.out]) | fail)
  refine HT.out.mono ?_
  clear d0 d1 d2 c0 c1 c2 hlt1 hlt2
  rintro e w3 ⟨rfl, hB3, hL3⟩
  have n3 := hL3 _ _ HN2.out
  have HS3 := Lib.hid (HS.out w3 hB3)
  obtain ⟨⟨d0, d1, d2⟩, _⟩ := blk_cells n3
  have hlt1 := heap_lt' n3
  clear hB3 hL3 n3 HT HS HN2
  go_wp2_with fail
  refine HS3.out.mono ?_
  clear d0 d1 d2 hlt1
  rintro e w4 ⟨rfl, hB4, _⟩
  have HB4 := Lib.hid hB4
  clear hB4 HS3
  go_wp2
  go_end0
  exact ⟨rfl, HB4.out⟩

/-- A block gets so many bytes, the free one behind it taken out. -/
theorem join_any (h : Became 80 g base cap A bs w w1) (hb : base ≤ 4611686018427387904) (hl : bs.length ≤ 16384) (xo xs n : Nat) (y : Option Bk) (ho : xo ≤ 16384) (hs : ∀ z, y = some z → 0 < z.size ∧ z.off ≤ 16384) (hn : n ≤ 16384) (hl1 : b1.length ≤ 16384) (ht : outB bs y = some b1) (hy : setB b1 (xo : Int) (n : Int) true = some b2) :
    Calls Tryz.prog 123 #[.pointer (some ⟨g, 0, none⟩), .agg #[.int .i64 (xo : Int), .int .i64 (xs : Int), .bool true], frV 0 y, .int .i64 (n : Int)] w1 fun e w2 => e = .returned (.tuple #[]) ∧ Became 80 g base cap A b2 w w2 := by
  cases y with
  | none =>
    injection ht with ht
    subst ht
    exact join_none h hb hl xo xs n ho hn hy
  | some z =>
    have hz := hs z rfl
    exact join_some h hb hl xo xs z.off z.size n ho hz.2 (by omega) hn hl1 ht hy
end
end Go.Proofs.YtbldlidpapdkbaaGreatDoor
