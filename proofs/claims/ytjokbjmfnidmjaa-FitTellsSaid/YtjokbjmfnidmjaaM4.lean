/- Texts of mine, joined: Ref7a, Ref7b, Ref7c, Ref7d, Ref7e, Ref7f, Law00, OpenB, Ref9a. -/
import Derived.Laws.ResultCell
import Derived.Test.YtjokbjmfnidmjaaChecked
import Derived.Deep.QuietTactic
import Derived.BigQuiet
import Derived.WalkSpells
import Derived.IntWalk
import Derived.Deep.Grids
import Derived.Deep.Fields
import Derived.Lib.SmallJoins
import Derived.Test.YtjokbjmfnidmjaaM3

/- The contracts of the document's own blocks: Word, Could, Get. -/
namespace Go.Proofs.Ytjokbjmfnidmjaa
open Go.RowKit

/-- A block's value; what Get tells. -/
def Bk.val (x : Bk) : Value := .agg #[.int .i64 (x.off : Int), .int .i64 (x.size : Int), .bool x.used]
def bkV (o : Option Bk) : Value := match o with
  | some x => x.val
  | none => .agg #[.int .i64 0, .int .i64 0, .bool false]
def wordV (o : Option Nat) : Value := match o with
  | some v => .tuple #[.int .u64 (v : Int), .bool true]
  | none => .tuple #[.int .u64 0, .bool false]

theorem blk_set {w : World} {g : Nat} {t : TypeId} {a b c : Value} (h : w.heap[g]? = some (.cells #[a, b, c] t (0, 0))) (x y z : Value) :
    (((w.setCell ⟨g, 0, none⟩ x).setCell ⟨g, 1, none⟩ y).setCell ⟨g, 2, none⟩ z).heap[g]? = some (.cells #[x, y, z] t (0, 0)) := by
  have h1 := heap_setCell_same w g 0 _ _ x h
  have h2 := heap_setCell_same (w.setCell ⟨g, 0, none⟩ x) g 1 _ _ y h1
  have h3 := heap_setCell_same ((w.setCell ⟨g, 0, none⟩ x).setCell ⟨g, 1, none⟩ y) g 2 _ _ z h2
  rw [h3]
  rfl
theorem blk_cells {w : World} {g : Nat} {t : TypeId} {a b c : Value} (h : w.heap[g]? = some (.cells #[a, b, c] t (0, 0))) : (w.cell? ⟨g, 0, none⟩ = some a ∧ w.cell? ⟨g, 1, none⟩ = some b ∧ w.cell? ⟨g, 2, none⟩ = some c) ∧ (w.frozen? ⟨g, 0, none⟩ = false ∧ w.frozen? ⟨g, 1, none⟩ = false ∧ w.frozen? ⟨g, 2, none⟩ = false) := by
  refine ⟨⟨?_, ?_, ?_⟩, frozen_of_row w g 0 _ _ h, frozen_of_row w g 1 _ _ h, frozen_of_row w g 2 _ _ h⟩
  · rw [cell_of_row w g 0 _ _ (0, 0) h]; rfl
  · rw [cell_of_row w g 1 _ _ (0, 0) h]; rfl
  · rw [cell_of_row w g 2 _ _ (0, 0) h]; rfl
theorem blk_ret {fn : Func} {R : Ending → World → Prop} {a : Act} {w : World} {p u : Tmp} {g : Nat} {o s : Int} {b : Bool} {x : Value} (hres : fn.results = #[.cell p 47, .tmp u]) (hp : a.tmps.getD p undef = .pointer (some ⟨g, 0, none⟩)) (hx : a.tmps.getD u undef = x) (hd : a.defers = [])
    (hg : w.heap[g]? = some (.cells #[.int .i64 o, .int .i64 s, .bool b] 47 (0, 0))) (hR : R (.returned (.tuple #[.agg #[.int .i64 o, .int .i64 s, .bool b], x])) w) : bodyPost Try.prog fn R .ret a w := by
  have c0 := cell_of_row w g 0 _ _ (0, 0) hg
  have c1 := cell_of_row w g 1 _ _ (0, 0) hg
  have c2 := cell_of_row w g 2 _ _ (0, 0) hg
  simp only [List.getElem?_toArray, List.getElem?_cons_zero, List.getElem?_cons_succ] at c0 c1 c2
  refine bodyPost_ret (v := .tuple #[.agg #[.int .i64 o, .int .i64 s, .bool b], x]) ?_ hd hR
  rw [results_cell_tmp hres, hp, hx]
  simp [go_sem, c0, c1, c2]

theorem Rd.alloc' {w : World} {B n : Nat} {A : Option Addr} {bs : List UInt8} (h : Rd w B A n bs) (o : Obj) : Rd (w.alloc o) B A n bs := by
  refine ⟨h.1, fun hn => ?_⟩
  obtain ⟨b, off, e, hb, hc⟩ := h.2 hn
  refine ⟨b, off, e, hb, fun j u hu => ?_⟩
  have h1 := hc j u hu
  rw [← h1]
  exact (World.cell?_of_block (a := ⟨b, off + j, none⟩) (((Below.refl _ _).alloc (Nat.le_refl _) o).block b (cell_lt' h1)))
where cell_lt' {w : World} {a : Addr} {v : Value} (h : w.cell? a = some v) : a.block < w.heap.size := by
        unfold World.cell? at h
        rcases Nat.lt_or_ge a.block w.heap.size with h1 | h1
        · exact h1
        · rw [Array.getElem?_eq_none h1] at h; simp at h

section
variable (w : World)
set_option maxHeartbeats 400000 in
theorem rword_any (A : Option Addr) (c B : Nat) (bs : List UInt8) (h : Rd w B A bs.length bs) (hlc : bs.length ≤ c) (hl : bs.length ≤ 1000000) (o : Int) (ho : o ≤ 9223372036854775807) :
    Calls Try.prog 55 #[.slice A bs.length c, .int .i64 o] w fun e w' => e = .returned (wordV (word? bs o)) ∧ w = w' := by
  by_cases h0 : o < 0
  · have e : word? bs o = none := by unfold word?; rw [if_neg (by omega)]
    rw [e]
    clear e
    go_enter Try.func55, Try.ntmps55
    go_wp2
    go_ret2
    exact ⟨rfl, rfl⟩
  · obtain ⟨p, rfl⟩ : ∃ p : Nat, o = (p : Int) := ⟨o.toNat, by omega⟩
    by_cases h1 : bs.length < p
    · have e : word? bs (p : Int) = none := by unfold word?; rw [if_neg (by omega)]
      rw [e]
      clear e
      go_enter Try.func55, Try.ntmps55
      go_wp2
      go_ret2
      exact ⟨rfl, rfl⟩
    · by_cases h2 : p + 8 ≤ bs.length
      · have e : word? bs (p : Int) = some (wordN bs p) := by unfold word?; rw [if_pos (by omega)]; rfl
        rw [e]
        have HG := Lib.hid (rget_yes A bs.length c B bs p 8 w h hlc hl (by omega) (by omega) h2)
        clear e h
        go_enter Try.func55, Try.ntmps55
        go_wp2_with fail
        refine HG.out.mono ?_
        rintro e w' ⟨rfl, rfl⟩
        go_wp2
        go_ret2
        exact ⟨rfl, rfl⟩
      · have e : word? bs (p : Int) = none := by unfold word?; rw [if_neg (by omega)]
        rw [e]
        have HG := Lib.hid (rget_no A bs.length c p 8 w hl (by omega) (by omega))
        clear e h
        go_enter Try.func55, Try.ntmps55
        go_wp2_with fail
        refine HG.out.mono ?_
        rintro e w' ⟨rfl, rfl⟩
        go_wp2
        go_ret2
        exact ⟨rfl, rfl⟩

set_option maxHeartbeats 400000 in
theorem rcould_any (A : Option Addr) (n c : Nat) (hl : n ≤ 1000000) (o s : Int) (ho : -9223372036854775808 ≤ o ∧ o ≤ 9223372036854775807) (b : Bool) (hb : could n o s = b) :
    Calls Try.prog 46 #[.slice A n c, .int .i64 o, .int .i64 s] w fun e w' => e = .returned (.bool b) ∧ w = w' := by
  by_cases h1 : 184 ≤ o
  · by_cases h2 : o % 16 = 8
    · have s2 : (o % 16 == 8) = true := by rw [beq_iff_eq]; exact h2
      by_cases h3 : o ≤ (n : Int)
      · have e : decide (s ≤ (n : Int) - o) = b := by rw [← hb]; simp [could, h1, h2, h3]
        have HE := Lib.hid e
        clear hb e h2
        go_enter Try.func46, Try.ntmps46
        go_wp2
        go_ret
        exact ⟨rt_b HE.out, rfl⟩
      · obtain rfl : false = b := by rw [← hb]; simp [could, h3]
        clear hb h2
        go_enter Try.func46, Try.ntmps46
        go_wp2
        go_ret
        exact ⟨rfl, rfl⟩
    · have s2 : (o % 16 == 8) = false := by rw [beq_eq_false_iff_ne]; exact h2
      obtain rfl : false = b := by rw [← hb]; simp [could, h2]
      clear hb h2
      go_enter Try.func46, Try.ntmps46
      go_wp2
      go_ret
      exact ⟨rfl, rfl⟩
  · obtain rfl : false = b := by rw [← hb]; simp [could, h1]
    clear hb
    go_enter Try.func46, Try.ntmps46
    go_wp2
    go_ret
    exact ⟨rfl, rfl⟩
end
end Go.Proofs.Ytjokbjmfnidmjaa

/- The contracts of the document's own blocks: Get, all ways. -/
namespace Go.Proofs.Ytjokbjmfnidmjaa
open Go.RowKit

section
variable (w : World)

set_option maxHeartbeats 1000000 in
theorem rgetB_1 (A : Option Addr) (c : Nat) (bs : List UInt8) (hl : bs.length ≤ 1000000) (o : Int) (ho : -9223372036854775808 ≤ o ∧ o ≤ 9223372036854775807) (hc : could bs.length o 8 = false) :
    Calls Try.prog 28 #[.slice A bs.length c, .int .i64 o] w fun e w' => e = .returned (.tuple #[bkV none, .bool false]) ∧ Below w.heap.size w w' := by
  obtain ⟨w1, hw1⟩ : ∃ w1, w.alloc (.cells #[.int .i64 0, .int .i64 0, .bool false] 47) = w1 := ⟨_, rfl⟩
  have hb1 : Below w.heap.size w w1 := by rw [← hw1]; exact (Below.refl _ _).alloc (Nat.le_refl _) _
  have hn1 : w1.heap[w.heap.size]? = some (.cells #[.int .i64 0, .int .i64 0, .bool false] 47 (0, 0)) := by rw [← hw1]; exact heap_alloc_new w _
  have HC := Lib.hid (rcould_any w1 A bs.length c hl o 8 ho false hc)
  have HW1 := Lib.hid hw1
  have HB1 := Lib.hid hb1
  have HN1 := Lib.hid hn1
  clear hc hw1 hb1 hn1
  go_enter Try.func28, Try.ntmps28
  go_wp2_with fail
  rw [HW1.out]
  with_reducible refine HC.out.mono ?_
  rintro e w2 ⟨rfl, rfl⟩
  obtain ⟨⟨c0, c1, c2⟩, f0, f1, f2⟩ := blk_cells HN1.out
  go_wp2
  (try simp only [Exit.inBlock, Exit.then])
  refine blk_ret (x := .bool false) Try.results28 ?_ ?_ ?_ (blk_set HN1.out _ _ _) ?_
  · rfl
  · rfl
  · rfl
  · exact ⟨rfl, ((HB1.out.setCell (Nat.le_refl _) _).setCell (Nat.le_refl _) _).setCell (Nat.le_refl _) _⟩

set_option maxHeartbeats 1000000 in
theorem rgetB_2 (A : Option Addr) (c B : Nat) (bs : List UInt8) (hr : Rd w B A bs.length bs) (hlc : bs.length ≤ c) (hl : bs.length ≤ 1000000) (o : Nat) (v : Nat) (hc : could bs.length o 8 = true) (hv : wordN bs o = v) (hu : unpN v = none) :
    Calls Try.prog 28 #[.slice A bs.length c, .int .i64 (o : Int)] w fun e w' => e = .returned (.tuple #[bkV none, .bool false]) ∧ Below w.heap.size w w' := by
  have hb := (could_iff _ _ _).1 hc
  obtain ⟨w1, hw1⟩ : ∃ w1, w.alloc (.cells #[.int .i64 0, .int .i64 0, .bool false] 47) = w1 := ⟨_, rfl⟩
  have hb1 : Below w.heap.size w w1 := by rw [← hw1]; exact (Below.refl _ _).alloc (Nat.le_refl _) _
  have hn1 : w1.heap[w.heap.size]? = some (.cells #[.int .i64 0, .int .i64 0, .bool false] 47 (0, 0)) := by rw [← hw1]; exact heap_alloc_new w _
  have HC := Lib.hid (rcould_any w1 A bs.length c hl (o : Int) 8 (by omega) true hc)
  have hr1 : Rd w1 B A bs.length bs := by rw [← hw1]; exact hr.alloc' _
  have hw := rword_any w1 A c B bs hr1 hlc hl (o : Int) (by omega)
  have e : word? bs (o : Int) = some v := by unfold word?; rw [if_pos (by omega), Int.toNat_natCast, hv]
  rw [e] at hw
  have hup := runpack_any w1 v (by rw [← hv]; exact wordN_lt _ _)
  rw [hu] at hup
  dsimp only [wordV] at hw
  dsimp only [unpV] at hup
  have HW := Lib.hid hw
  have HU := Lib.hid hup
  have HW1 := Lib.hid hw1
  have HB1 := Lib.hid hb1
  have HN1 := Lib.hid hn1
  clear hc hv hu hr hr1 hw e hup hw1 hb1 hn1
  go_enter Try.func28, Try.ntmps28
  go_wp2_with fail
  rw [HW1.out]
  with_reducible refine HC.out.mono ?_
  rintro e w2 ⟨rfl, rfl⟩
  go_wp2_with fail
  with_reducible refine HW.out.mono ?_
  rintro e w2 ⟨rfl, rfl⟩
  go_wp2_with fail
  with_reducible refine HU.out.mono ?_
  rintro e w2 ⟨rfl, rfl⟩
  obtain ⟨⟨c0, c1, c2⟩, f0, f1, f2⟩ := blk_cells HN1.out
  go_wp2
  (try simp only [Exit.inBlock, Exit.then])
  refine blk_ret (x := .bool false) Try.results28 ?_ ?_ ?_ (blk_set HN1.out _ _ _) ?_
  · rfl
  · rfl
  · rfl
  · exact ⟨rfl, ((HB1.out.setCell (Nat.le_refl _) _).setCell (Nat.le_refl _) _).setCell (Nat.le_refl _) _⟩

set_option maxHeartbeats 1000000 in
theorem rgetB_3 (A : Option Addr) (c B : Nat) (bs : List UInt8) (hr : Rd w B A bs.length bs) (hlc : bs.length ≤ c) (hl : bs.length ≤ 1000000) (o : Nat) (v : Nat) (s : Nat) (u : Bool) (hc : could bs.length o 8 = true) (hv : wordN bs o = v) (hu : unpN v = some (s, u)) (hc2 : could bs.length o s = false) :
    Calls Try.prog 28 #[.slice A bs.length c, .int .i64 (o : Int)] w fun e w' => e = .returned (.tuple #[bkV none, .bool false]) ∧ Below w.heap.size w w' := by
  have hb := (could_iff _ _ _).1 hc
  have hss := (isSz_iff _).1 (unpN_some hu).1
  obtain ⟨w1, hw1⟩ : ∃ w1, w.alloc (.cells #[.int .i64 0, .int .i64 0, .bool false] 47) = w1 := ⟨_, rfl⟩
  have hb1 : Below w.heap.size w w1 := by rw [← hw1]; exact (Below.refl _ _).alloc (Nat.le_refl _) _
  have hn1 : w1.heap[w.heap.size]? = some (.cells #[.int .i64 0, .int .i64 0, .bool false] 47 (0, 0)) := by rw [← hw1]; exact heap_alloc_new w _
  have HC := Lib.hid (rcould_any w1 A bs.length c hl (o : Int) 8 (by omega) true hc)
  have hr1 : Rd w1 B A bs.length bs := by rw [← hw1]; exact hr.alloc' _
  have hw := rword_any w1 A c B bs hr1 hlc hl (o : Int) (by omega)
  have e : word? bs (o : Int) = some v := by unfold word?; rw [if_pos (by omega), Int.toNat_natCast, hv]
  rw [e] at hw
  have hup := runpack_any w1 v (by rw [← hv]; exact wordN_lt _ _)
  rw [hu] at hup
  dsimp only [wordV] at hw
  dsimp only [unpV] at hup
  have HW := Lib.hid hw
  have HU := Lib.hid hup
  have HC2 := Lib.hid (rcould_any w1 A bs.length c hl (o : Int) (s : Int) (by omega) false hc2)
  have HW1 := Lib.hid hw1
  have HB1 := Lib.hid hb1
  have HN1 := Lib.hid hn1
  clear hc hv hu hc2 hr hr1 hw e hup hw1 hb1 hn1
  go_enter Try.func28, Try.ntmps28
  go_wp2_with fail
  rw [HW1.out]
  with_reducible refine HC.out.mono ?_
  rintro e w2 ⟨rfl, rfl⟩
  go_wp2_with fail
  with_reducible refine HW.out.mono ?_
  rintro e w2 ⟨rfl, rfl⟩
  go_wp2_with fail
  with_reducible refine HU.out.mono ?_
  rintro e w2 ⟨rfl, rfl⟩
  go_wp2_with fail
  with_reducible refine HC2.out.mono ?_
  rintro e w2 ⟨rfl, rfl⟩
  obtain ⟨⟨c0, c1, c2⟩, f0, f1, f2⟩ := blk_cells HN1.out
  go_wp2
  (try simp only [Exit.inBlock, Exit.then])
  refine blk_ret (x := .bool false) Try.results28 ?_ ?_ ?_ (blk_set HN1.out _ _ _) ?_
  · rfl
  · rfl
  · rfl
  · exact ⟨rfl, ((HB1.out.setCell (Nat.le_refl _) _).setCell (Nat.le_refl _) _).setCell (Nat.le_refl _) _⟩

set_option maxHeartbeats 1000000 in
theorem rgetB_4 (A : Option Addr) (c B : Nat) (bs : List UInt8) (hr : Rd w B A bs.length bs) (hlc : bs.length ≤ c) (hl : bs.length ≤ 1000000) (o : Nat) (v : Nat) (s : Nat) (u : Bool) (hc : could bs.length o 8 = true) (hv : wordN bs o = v) (hu : unpN v = some (s, u)) (hc2 : could bs.length o s = true) (v2 : Nat) (hv2 : wordN bs (o + s - 8) = v2) (hne : v2 ≠ v) :
    Calls Try.prog 28 #[.slice A bs.length c, .int .i64 (o : Int)] w fun e w' => e = .returned (.tuple #[bkV none, .bool false]) ∧ Below w.heap.size w w' := by
  have hb := (could_iff _ _ _).1 hc
  have hb2 := (could_iff _ _ _).1 hc2
  have hss := (isSz_iff _).1 (unpN_some hu).1
  obtain ⟨w1, hw1⟩ : ∃ w1, w.alloc (.cells #[.int .i64 0, .int .i64 0, .bool false] 47) = w1 := ⟨_, rfl⟩
  have hb1 : Below w.heap.size w w1 := by rw [← hw1]; exact (Below.refl _ _).alloc (Nat.le_refl _) _
  have hn1 : w1.heap[w.heap.size]? = some (.cells #[.int .i64 0, .int .i64 0, .bool false] 47 (0, 0)) := by rw [← hw1]; exact heap_alloc_new w _
  have HC := Lib.hid (rcould_any w1 A bs.length c hl (o : Int) 8 (by omega) true hc)
  have hr1 : Rd w1 B A bs.length bs := by rw [← hw1]; exact hr.alloc' _
  have hw := rword_any w1 A c B bs hr1 hlc hl (o : Int) (by omega)
  have e : word? bs (o : Int) = some v := by unfold word?; rw [if_pos (by omega), Int.toNat_natCast, hv]
  rw [e] at hw
  have hup := runpack_any w1 v (by rw [← hv]; exact wordN_lt _ _)
  rw [hu] at hup
  dsimp only [wordV] at hw
  dsimp only [unpV] at hup
  have HW := Lib.hid hw
  have HU := Lib.hid hup
  have HC2 := Lib.hid (rcould_any w1 A bs.length c hl (o : Int) (s : Int) (by omega) true hc2)
  have hwb := rword_any w1 A c B bs hr1 hlc hl ((o : Int) + (s : Int) - 8) (by omega)
  have e2 : word? bs ((o : Int) + (s : Int) - 8) = some v2 := by
    unfold word?
    rw [if_pos (by omega), show ((o : Int) + (s : Int) - 8).toNat = o + s - 8 by omega, hv2]
  rw [e2] at hwb
  dsimp only [wordV] at hwb
  have HWB := Lib.hid hwb
  have hq : ((v2 : Int) != (v : Int)) = true := by rw [bne_iff_ne]; omega
  have HW1 := Lib.hid hw1
  have HB1 := Lib.hid hb1
  have HN1 := Lib.hid hn1
  clear hc hv hu hc2 hv2 hne hr hr1 hw e hup hwb e2 hw1 hb1 hn1
  go_enter Try.func28, Try.ntmps28
  go_wp2_with fail
  rw [HW1.out]
  with_reducible refine HC.out.mono ?_
  rintro e w2 ⟨rfl, rfl⟩
  go_wp2_with fail
  with_reducible refine HW.out.mono ?_
  rintro e w2 ⟨rfl, rfl⟩
  go_wp2_with fail
  with_reducible refine HU.out.mono ?_
  rintro e w2 ⟨rfl, rfl⟩
  go_wp2_with fail
  with_reducible refine HC2.out.mono ?_
  rintro e w2 ⟨rfl, rfl⟩
  go_wp2_with fail
  with_reducible refine HWB.out.mono ?_
  rintro e w2 ⟨rfl, rfl⟩
  obtain ⟨⟨c0, c1, c2⟩, f0, f1, f2⟩ := blk_cells HN1.out
  go_wp2
  (try simp only [Exit.inBlock, Exit.then])
  refine blk_ret (x := .bool false) Try.results28 ?_ ?_ ?_ (blk_set HN1.out _ _ _) ?_
  · rfl
  · rfl
  · rfl
  · exact ⟨rfl, ((HB1.out.setCell (Nat.le_refl _) _).setCell (Nat.le_refl _) _).setCell (Nat.le_refl _) _⟩

set_option maxHeartbeats 1000000 in
theorem rgetB_5 (A : Option Addr) (c B : Nat) (bs : List UInt8) (hr : Rd w B A bs.length bs) (hlc : bs.length ≤ c) (hl : bs.length ≤ 1000000) (o : Nat) (v : Nat) (s : Nat) (u : Bool) (hc : could bs.length o 8 = true) (hv : wordN bs o = v) (hu : unpN v = some (s, u)) (hc2 : could bs.length o s = true) (hv2 : wordN bs (o + s - 8) = v) :
    Calls Try.prog 28 #[.slice A bs.length c, .int .i64 (o : Int)] w fun e w' => e = .returned (.tuple #[bkV (some ⟨o, s, u⟩), .bool true]) ∧ Below w.heap.size w w' := by
  have hb := (could_iff _ _ _).1 hc
  have hb2 := (could_iff _ _ _).1 hc2
  have hss := (isSz_iff _).1 (unpN_some hu).1
  obtain ⟨w1, hw1⟩ : ∃ w1, w.alloc (.cells #[.int .i64 0, .int .i64 0, .bool false] 47) = w1 := ⟨_, rfl⟩
  have hb1 : Below w.heap.size w w1 := by rw [← hw1]; exact (Below.refl _ _).alloc (Nat.le_refl _) _
  have hn1 : w1.heap[w.heap.size]? = some (.cells #[.int .i64 0, .int .i64 0, .bool false] 47 (0, 0)) := by rw [← hw1]; exact heap_alloc_new w _
  have HC := Lib.hid (rcould_any w1 A bs.length c hl (o : Int) 8 (by omega) true hc)
  have hr1 : Rd w1 B A bs.length bs := by rw [← hw1]; exact hr.alloc' _
  have hw := rword_any w1 A c B bs hr1 hlc hl (o : Int) (by omega)
  have e : word? bs (o : Int) = some v := by unfold word?; rw [if_pos (by omega), Int.toNat_natCast, hv]
  rw [e] at hw
  have hup := runpack_any w1 v (by rw [← hv]; exact wordN_lt _ _)
  rw [hu] at hup
  dsimp only [wordV] at hw
  dsimp only [unpV] at hup
  have HW := Lib.hid hw
  have HU := Lib.hid hup
  have HC2 := Lib.hid (rcould_any w1 A bs.length c hl (o : Int) (s : Int) (by omega) true hc2)
  have hwb := rword_any w1 A c B bs hr1 hlc hl ((o : Int) + (s : Int) - 8) (by omega)
  have e2 : word? bs ((o : Int) + (s : Int) - 8) = some v := by
    unfold word?
    rw [if_pos (by omega), show ((o : Int) + (s : Int) - 8).toNat = o + s - 8 by omega, hv2]
  rw [e2] at hwb
  dsimp only [wordV] at hwb
  have HWB := Lib.hid hwb
  have HW1 := Lib.hid hw1
  have HB1 := Lib.hid hb1
  have HN1 := Lib.hid hn1
  clear hc hv hu hc2 hv2 hr hr1 hw e hup hwb e2 hw1 hb1 hn1
  go_enter Try.func28, Try.ntmps28
  go_wp2_with fail
  rw [HW1.out]
  with_reducible refine HC.out.mono ?_
  rintro e w2 ⟨rfl, rfl⟩
  go_wp2_with fail
  with_reducible refine HW.out.mono ?_
  rintro e w2 ⟨rfl, rfl⟩
  go_wp2_with fail
  with_reducible refine HU.out.mono ?_
  rintro e w2 ⟨rfl, rfl⟩
  go_wp2_with fail
  with_reducible refine HC2.out.mono ?_
  rintro e w2 ⟨rfl, rfl⟩
  go_wp2_with fail
  with_reducible refine HWB.out.mono ?_
  rintro e w2 ⟨rfl, rfl⟩
  obtain ⟨⟨c0, c1, c2⟩, f0, f1, f2⟩ := blk_cells HN1.out
  go_wp2
  (try simp only [Exit.inBlock, Exit.then])
  refine blk_ret (x := .bool true) Try.results28 ?_ ?_ ?_ (blk_set HN1.out _ _ _) ?_
  · rfl
  · rfl
  · rfl
  · exact ⟨rfl, ((HB1.out.setCell (Nat.le_refl _) _).setCell (Nat.le_refl _) _).setCell (Nat.le_refl _) _⟩

theorem rgetB_any (A : Option Addr) (c B : Nat) (bs : List UInt8) (hr : Rd w B A bs.length bs) (hlc : bs.length ≤ c) (hl : bs.length ≤ 1000000) (o : Int) (ho : -9223372036854775808 ≤ o ∧ o ≤ 9223372036854775807) (x : Option Bk) (hx : getB bs o = x) :
    Calls Try.prog 28 #[.slice A bs.length c, .int .i64 o] w fun e w' => e = .returned (.tuple #[bkV x, .bool x.isSome]) ∧ Below w.heap.size w w' := by
  subst hx
  cases hc : could bs.length o 8 with
  | false =>
    have e : getB bs o = none := by unfold getB; rw [if_pos hc]
    rw [e]
    exact rgetB_1 w A c bs hl o ho hc
  | true =>
    have hb := (could_iff _ _ _).1 hc
    obtain ⟨p, rfl⟩ : ∃ p : Nat, o = (p : Int) := ⟨o.toNat, by omega⟩
    cases hu : unpN (wordN bs p) with
    | none =>
      have e : getB bs (p : Int) = none := by unfold getB; rw [if_neg (by rw [hc]; simp), Int.toNat_natCast, hu]
      rw [e]
      exact rgetB_2 w A c B bs hr hlc hl p _ hc rfl hu
    | some su =>
      obtain ⟨s, u⟩ := su
      cases hc2 : could bs.length (p : Int) (s : Int) with
      | false =>
        have e : getB bs (p : Int) = none := by unfold getB; rw [if_neg (by rw [hc]; simp), Int.toNat_natCast, hu]; dsimp only; rw [if_pos hc2]
        rw [e]
        exact rgetB_3 w A c B bs hr hlc hl p _ s u hc rfl hu hc2
      | true =>
        by_cases hw : wordN bs (p + s - 8) = wordN bs p
        · have e : getB bs (p : Int) = some ⟨p, s, u⟩ := by unfold getB; rw [if_neg (by rw [hc]; simp), Int.toNat_natCast, hu]; dsimp only; rw [if_neg (by rw [hc2]; simp), if_pos hw]
          rw [e]
          exact rgetB_5 w A c B bs hr hlc hl p _ s u hc rfl hu hc2 hw
        · have e : getB bs (p : Int) = none := by unfold getB; rw [if_neg (by rw [hc]; simp), Int.toNat_natCast, hu]; dsimp only; rw [if_neg (by rw [hc2]; simp), if_neg hw]
          rw [e]
          exact rgetB_4 w A c B bs hr hlc hl p _ s u hc rfl hu hc2 _ rfl hw
end
end Go.Proofs.Ytjokbjmfnidmjaa

/- The contracts of the document's own blocks: Ahead, all ways. -/
namespace Go.Proofs.Ytjokbjmfnidmjaa
open Go.RowKit

theorem heap_lt' {w : World} {g : Nat} {o : Obj} (h : w.heap[g]? = some o) : g < w.heap.size := by
  rcases Nat.lt_or_ge g w.heap.size with h1 | h1
  · exact h1
  · rw [Array.getElem?_eq_none h1] at h; cases h

section
variable (w : World)

end
end Go.Proofs.Ytjokbjmfnidmjaa

/- The contracts of the document's own blocks: Lay, Set. -/
namespace Go.Proofs.Ytjokbjmfnidmjaa
open Go.RowKit

theorem u8_infb : (Try.prog.info? 5).map (fun i => (i.zero, i.size, i.bytes)) = some (some (.int .u8 0), 1, 1) := by kernel_rfl
/-- A number laid at an offset. -/
def layN (bs : List UInt8) (o v : Nat) : List UInt8 := lay bs o (lowB 8 v)
theorem layN_length (bs : List UInt8) (o v : Nat) (h : o + 8 ≤ bs.length) : (layN bs o v).length = bs.length := lay_length _ _ _ (by rw [lowB_length]; exact h)
theorem lay_snoc (bs cs : List UInt8) (d : Nat) (u : UInt8) (h : d + cs.length < bs.length) : (lay bs d cs).set (d + cs.length) u = lay bs d (cs ++ [u]) := by
  unfold lay
  have e1 : (bs.take d).length = d := by rw [List.length_take]; omega
  rw [List.set_append_right _ _ (by omega), List.set_append_right _ _ (by omega), e1, show d + cs.length - d - cs.length = 0 by omega, List.drop_eq_getElem_cons h, List.set_cons_zero, List.append_assoc, List.length_append]
  rfl
/-- A slice of bytes. -/
def RowTold (bs : List UInt8) (w : World) (e : Ending) (w' : World) : Prop :=
  ∃ A' c', e = .returned (.slice A' bs.length c') ∧ w'.ownsRow w.heap.size 5 1 (.slice A' bs.length c') bs.length (bs.map bv) ∧ Below w.heap.size w w'

section
variable (w : World)
set_option maxHeartbeats 1000000 in
theorem rlay_any (A : Option Addr) (c B : Nat) (bs : List UInt8) (hr : Rd w B A bs.length bs) (hB : B ≤ w.heap.size) (hA0 : A = none → c = 0) (hl : bs.length ≤ 100000) (o v : Nat) (hv : v < 18446744073709551616) (ho : o + 8 ≤ bs.length) :
    Calls Try.prog 19 #[.slice A bs.length c, .int .i64 (o : Int), .int .u64 (v : Int)] w fun e w' => RowTold (layN bs o v) w e w' := by
  have OWN1 : Hid ((w.alloc (.cells #[] 5)).ownsRow w.heap.size 5 1 (.slice (some ⟨w.heap.size, 0, none⟩) 0 0) 0 (([] : List UInt8).map bv)) := World.ownsRow_lit w _ 0 (Nat.le_refl _) (by unfold maxLen; omega) rfl
  have HRA := Lib.hid (hr.alloc hB (.cells #[] 5))
  have HV := Lib.hid hv
  obtain ⟨B0, hB0⟩ : ∃ B0, w.heap.size = B0 := ⟨_, rfl⟩
  rw [hB0] at OWN1
  have HB0 := Lib.hid hB0
  have hBB : B0 ≤ (w.alloc (.cells #[] 5)).heap.size := by simp; omega
  clear hr hv
  go_enter Try.func19, Try.ntmps19
  go_wp2_with (first
    | (at_builtin; go_must (refine append_bytes rfl (.tmp 10) (.tmp 11) 24 5 rfl Try.underlying24 u8_infb B0 (.slice (some ⟨B0, 0, none⟩) 0 0) 0 [] rfl OWN1.out B A bs.length c bs rfl HRA.out hA0 (by omega) hBB ?_); intro x3 w3 own3 hb3 gr3; have own4 : w3.ownsRow B0 5 1 x3 bs.length (bs.map bv) := (by simpa using own3); have OWN3 := Lib.hid own4; have HB3 : Hid (Below B0 w w3) := (((Below.refl _ _).alloc (Nat.le_of_eq hB0.symm) _).trans hb3); clear own3 own4 gr3 hb3)
    | fail)
  obtain ⟨ga, ca, rfl, hca, _⟩ := own_rd OWN3.out (by omega)
  go_wp2_with fail
  refine (rlow8 v w3 HV.out).mono ?_
  rintro e w4 ⟨gl, cl, rfl, hgl, rl, hb4⟩
  have own4 := own_below OWN3.out hb4
  have hga := (OWN3.out.lt ga rfl)
  have e0 : layN bs o v = lay bs o (lowB 8 v) := rfl
  have OWN4 : Hid (w4.ownsRow B0 5 1 (.slice (some ⟨ga, 0, none⟩) bs.length ca) bs.length ((lay bs o (lowB 0 v)).map bv)) := (show World.ownsRow _ _ _ _ _ _ _ by
    have : lay bs o (lowB 0 v) = bs := lay_nil bs o
    rw [this]; exact own4)
  have RL := Lib.hid rl
  have HB4 := Lib.hid (HB3.out.trans (hb4.mono (by have := HB3.out.size; omega)))
  have HSZ := Lib.hid hb4.size
  clear own4 rl hb4 OWN1 HRA OWN3 HB3 hBB e0
  go_wp2
  go_loopw [9] (fun i wr => ∃ j : Nat, j ≤ 8 ∧ i = .int .i64 j ∧ wr.ownsRow B0 5 1 (.slice (some ⟨ga, 0, none⟩) bs.length ca) bs.length ((lay bs o (lowB j v)).map bv) ∧ Rd wr wr.heap.size (some ⟨gl, 0, none⟩) 8 (lowB 8 v) ∧ Below B0 w wr) (fun i _ => 8 - (intOf i).toNat)
  case atStart => exact ⟨0, Nat.zero_le _, rfl, OWN4.out, RL.out, HB4.out⟩
  case round =>
    obtain ⟨j, hj, rfl, hown, hrl, hb⟩ := hrel
    by_cases hlt : j < 8
    · obtain ⟨_, _, e, _, hlen, hcell⟩ := hrl.at_ hlt
      injection e with e
      injection e with e1 e2
      subst e1 e2
      rw [Nat.zero_add] at hcell
      have hget := lowB_getElem 8 v j hlt
      rw [List.getElem?_eq_getElem hlen] at hget
      injection hget with hget
      rw [hget] at hcell
      have hst := (hown.stored (o + j) (bv (UInt8.ofNat (v / 256 ^ j % 256)))).1
      rw [← List.map_set] at hst
      have hsn := lay_snoc bs (lowB j v) o (UInt8.ofNat (v / 256 ^ j % 256)) (by rw [lowB_length]; omega)
      rw [lowB_length] at hsn
      rw [hsn, ← lowB_snoc] at hst
      have hfz := hown.frozenAt (o + j)
      have hc : ∃ u, wr.cell? ⟨ga, o + j, none⟩ = some u := by
        have hll : (lay bs o (lowB j v)).length = bs.length := lay_length _ _ _ (by rw [lowB_length]; omega)
        refine ⟨_, (hown.cellAt (o + j) (by omega)).trans (List.getElem?_eq_getElem (by rw [List.length_map, hll]; omega))⟩
      obtain ⟨u, hcu⟩ := hc
      have hne : gl ≠ ga := by omega
      have hrl' : Rd (wr.setCell ⟨ga, o + j, none⟩ (bv (UInt8.ofNat (v / 256 ^ j % 256)))) (wr.setCell ⟨ga, o + j, none⟩ (bv (UInt8.ofNat (v / 256 ^ j % 256)))).heap.size (some ⟨gl, 0, none⟩) 8 (lowB 8 v) :=
        hrl.tch (S := fun k => k = ga) (Tch.set (S := fun k => k = ga) wr ⟨ga, o + j, none⟩ _ rfl) (fun a e h => by injection e with e; subst e; exact hne h)
      have hb' : Below B0 w (wr.setCell ⟨ga, o + j, none⟩ (bv (UInt8.ofNat (v / 256 ^ j % 256)))) := hb.setCell hga.1 _
      obtain ⟨q, hq⟩ : ∃ q, UInt8.ofNat (v / 256 ^ j % 256) = q := ⟨_, rfl⟩
      rw [hq] at hcell hst hrl' hb'
      have hcell' : wr.cell? ⟨gl, j, none⟩ = some (.int .u8 (q.toNat : Int)) := hcell
      have HST : Hid ((wr.setCell ⟨ga, o + j, none⟩ (.int .u8 (q.toNat : Int))).ownsRow B0 5 1 (.slice (some ⟨ga, 0, none⟩) bs.length ca) bs.length ((lay bs o (lowB (j + 1) v)).map bv)) := hst
      have HRL : Hid (Rd (wr.setCell ⟨ga, o + j, none⟩ (.int .u8 (q.toNat : Int))) (wr.setCell ⟨ga, o + j, none⟩ (.int .u8 (q.toNat : Int))).heap.size (some ⟨gl, 0, none⟩) 8 (lowB 8 v)) := hrl'
      have HBE : Hid (Below B0 w (wr.setCell ⟨ga, o + j, none⟩ (.int .u8 (q.toNat : Int)))) := hb'
      clear hst hrl' hb' hq hcell hget hsn hown hrl hb OWN4 RL
      go_wp2
      go_roundw
      case rel => exact ⟨j + 1, by omega, by go_num, HST.out, HRL.out, HBE.out⟩
      case measure => simp [intOf]; omega
    · have HO := Lib.hid hown
      have HB := Lib.hid hb
      clear hown hb hrl OWN4 RL
      go_wp2
      go_ret
      obtain rfl : j = 8 := by omega
      have e := layN_length bs o v ho
      refine ⟨some ⟨ga, 0, none⟩, ca, by rw [e]; rfl, ?_, ?_⟩
      · rw [e, HB0.out]; exact HO.out
      · rw [HB0.out]; exact HB.out
end
end Go.Proofs.Ytjokbjmfnidmjaa

/- The contracts of the document's own blocks: Set. -/
namespace Go.Proofs.Ytjokbjmfnidmjaa
open Go.RowKit

/-- Both tags of a block laid; none: it can't be. -/
def setB (bs : List UInt8) (o s : Int) (u : Bool) : Option (List UInt8) :=
  if isSz s = true ∧ could bs.length o s = true then some (layN (layN bs o.toNat (packN s u)) (o + s - 8).toNat (packN s u)) else none
theorem setB_length {bs out : List UInt8} {o s : Int} {u : Bool} (h : setB bs o s u = some out) : out.length = bs.length := by
  unfold setB at h
  split at h
  · rename_i hc
    injection h with h
    have h1 := (isSz_iff _).1 hc.1
    have h2 := (could_iff _ _ _).1 hc.2
    have e := layN_length bs o.toNat (packN s u) (by omega)
    rw [← h, layN_length _ _ _ (by omega), e]
  · cases h
/-- A slice of bytes, and whether. -/
def SlTold (bs : List UInt8) (ok : Bool) (w : World) (e : Ending) (w' : World) : Prop :=
  ∃ A' c', e = .returned (.tuple #[.slice A' bs.length c', .bool ok]) ∧ Rd w' w'.heap.size A' bs.length bs ∧ bs.length ≤ c' ∧ (A' = none → c' = 0) ∧ Below w.heap.size w w'
theorem own_facts {w : World} {base n c : Nat} {A : Option Addr} {bs : List UInt8} (h : w.ownsRow base 5 1 (.slice A n c) n (bs.map bv)) : Rd w w.heap.size A n bs ∧ n ≤ c ∧ (A = none → c = 0) := by
  obtain ⟨A', c', e, h1, h2⟩ := own_any h
  injection e with e1 _ e3
  subst e1 e3
  refine ⟨h2, h1, fun e => ?_⟩
  subst e
  rcases h.2 with ⟨h', _⟩ | ⟨_, _, _, h', _⟩
  · injection h' with _ _ e
  · injection h' with e; cases e

section
variable (w : World)
set_option maxHeartbeats 1000000 in
theorem rsetB_no (A : Option Addr) (c : Nat) (bs : List UInt8) (hr : Rd w w.heap.size A bs.length bs) (hlc : bs.length ≤ c) (hA0 : A = none → c = 0) (hl : bs.length ≤ 100000) (o s : Int) (u : Bool) (ho : -9223372036854775808 ≤ o ∧ o ≤ 9223372036854775807) (hs : -9223372036854775808 ≤ s ∧ s ≤ 9223372036854775807) (b1 b2 : Bool) (hb1 : isSz s = b1) (hb2 : could bs.length o s = b2) (hno : b1 = false ∨ (b1 = true ∧ b2 = false)) :
    Calls Try.prog 20 #[.slice A bs.length c, .agg #[.int .i64 o, .int .i64 s, .bool u]] w fun e w' => SlTold bs false w e w' := by
  have HI := Lib.hid (fun w => rissize_any w s hs b1 hb1)
  have HC := Lib.hid (fun w => rcould_any w A bs.length c (by omega) o s ho b2 hb2)
  have hbl : Below w.heap.size w (w.alloc (.cells #[.int .i64 o, .int .i64 s, .bool u] 47)) := (Below.refl _ _).alloc (Nat.le_refl _) _
  have HR := Lib.hid ((hr.below hbl).more hbl.size)
  have HB := Lib.hid hbl
  have HA0 := Lib.hid hA0
  clear hb1 hb2 hr hbl hA0
  rcases hno with rfl | ⟨rfl, rfl⟩
  · go_enter Try.func20, Try.ntmps20
    go_wp2_with fail
    with_reducible refine (HI.out _).mono ?_
    rintro e w1 ⟨rfl, rfl⟩
    go_wp2_with fail
    with_reducible refine (HC.out _).mono ?_
    rintro e w1 ⟨rfl, rfl⟩
    go_wp2
    go_ret2
    exact ⟨A, c, rfl, HR.out, hlc, HA0.out, HB.out⟩
  · go_enter Try.func20, Try.ntmps20
    go_wp2_with fail
    with_reducible refine (HI.out _).mono ?_
    rintro e w1 ⟨rfl, rfl⟩
    go_wp2_with fail
    with_reducible refine (HC.out _).mono ?_
    rintro e w1 ⟨rfl, rfl⟩
    go_wp2
    go_ret2
    exact ⟨A, c, rfl, HR.out, hlc, HA0.out, HB.out⟩

set_option maxHeartbeats 1000000 in
theorem rsetB_yes (A : Option Addr) (c : Nat) (bs : List UInt8) (hr : Rd w w.heap.size A bs.length bs) (hA0 : A = none → c = 0) (hl : bs.length ≤ 100000) (o s : Nat) (u : Bool) (hs : isSz (s : Int) = true) (hc : could bs.length (o : Int) (s : Int) = true) (v : Nat) (hv : packN (s : Int) u = v) :
    Calls Try.prog 20 #[.slice A bs.length c, .agg #[.int .i64 (o : Int), .int .i64 (s : Int), .bool u]] w fun e w' => SlTold (layN (layN bs o v) (o + s - 8) v) true w e w' := by
  have h1 := (isSz_iff _).1 hs
  have h2 := (could_iff _ _ _).1 hc
  have hv2 : v < 18446744073709551616 := by rw [← hv]; have := packN_lt (s : Int) u; omega
  have HI := Lib.hid (fun w => rissize_any w (s : Int) (by omega) true hs)
  have HC := Lib.hid (fun w => rcould_any w A bs.length c (by omega) (o : Int) (s : Int) (by omega) true hc)
  have HP := Lib.hid (fun w => rpack_any w (s : Int) u (by omega) v hv)
  obtain ⟨w1, hw1⟩ : ∃ w1, (w.alloc (.cells #[.int .i64 (o : Int), .int .i64 (s : Int), .bool u] 47)) = w1 := ⟨_, rfl⟩
  obtain ⟨w0, hw0⟩ : ∃ w0, w1.drew = w0 := ⟨_, rfl⟩
  have hbl : Below w.heap.size w w0 := by rw [← hw0, ← hw1]; exact ((Below.refl _ _).alloc (Nat.le_refl _) _).drew
  have hn1 : w1.heap[w.heap.size]? = some (.cells #[.int .i64 (o : Int), .int .i64 (s : Int), .bool u] 47 (0, 0)) := by rw [← hw1]; exact heap_alloc_new w _
  have hn0 : w0.heap[w.heap.size]? = some (.cells #[.int .i64 (o : Int), .int .i64 (s : Int), .bool u] 47 (0, 0)) := by rw [← hw0]; exact hn1
  have r0 := (hr.below hbl).more hbl.size
  have hL1 := rlay_any w0 A c w0.heap.size bs r0 (Nat.le_refl _) hA0 hl o v hv2 (by omega)
  have e1 := layN_length bs o v (by omega)
  have hlt0 := heap_lt' hn0
  obtain ⟨⟨c0, c1, c2⟩, _⟩ := blk_cells hn0
  obtain ⟨⟨d0, d1, d2⟩, _⟩ := blk_cells hn1
  have HL1 := Lib.hid hL1
  have HE1 := Lib.hid e1
  have HW1 := Lib.hid hw1
  have HW0 := Lib.hid hw0
  have HB := Lib.hid hbl
  have HA0 := Lib.hid hA0
  clear hr hA0 hs hc hv hw1 hw0 hbl hn1 hn0 r0 hL1 e1
  go_enter Try.func20, Try.ntmps20
  go_wp2_with fail
  rw [HW1.out]
  with_reducible refine (HI.out _).mono ?_
  rintro e w2 ⟨rfl, rfl⟩
  go_wp2_with fail
  with_reducible refine (HC.out _).mono ?_
  rintro e w2 ⟨rfl, rfl⟩
  go_wp2_with fail
  with_reducible refine (HP.out _).mono ?_
  rintro e w2 ⟨rfl, rfl⟩
  go_wp2_with fail
  refine wp_region_tail w0.heap.size [([0, 1, 2, 3, 5, 6, 7, 8, 9, 10, 11], 4), ([], 12)] [13, 14] [] (by kernel_rfl) (by kernel_rfl) (by kernel_rfl) (fun _ _ _ _ _ h => h) ?_
  rw [HW0.out]
  clear d0 d1 d2 HW1 HI HC HP
  have z0 : ∀ x : LaterB w0.heap.size w0, x.val.cell? ⟨w.heap.size, 0, none⟩ = some (.int .i64 (o : Int)) := fun x => (x.ext.cell (p := ⟨w.heap.size, 0, none⟩) hlt0).trans c0
  have z1 : ∀ x : LaterB w0.heap.size w0, x.val.cell? ⟨w.heap.size, 1, none⟩ = some (.int .i64 (s : Int)) := fun x => (x.ext.cell (p := ⟨w.heap.size, 1, none⟩) hlt0).trans c1
  refine tail_cons (l := ?seg1) ?hseg1 ?_
  case hseg1 => simp only [pick, List.getElem?_toArray, List.getElem?_cons_succ, List.getElem?_cons_zero]; rfl
  repeat (go_big_quiet_step (fail))
  refine wpQuiet_nil ?_
  clear z0 z1 c0 c1 c2
  refine tail_call2 (vs := #[.slice A bs.length c, .int .i64 (o : Int), .int .u64 (v : Int)]) Try.call19 rfl rfl rfl (R := fun r w' => ∃ A1 c1, r = .slice A1 bs.length c1 ∧ Rd w' w'.heap.size A1 bs.length (layN bs o v) ∧ (A1 = none → c1 = 0) ∧ Below w0.heap.size w0 w') (HL1.out.mono ?_) ?_
  · rintro e w' ⟨A1, c1, rfl, ho, hb⟩
    rw [HE1.out] at ho ⊢
    obtain ⟨hr, _, hn⟩ := own_facts ho
    exact ⟨_, rfl, hb, A1, c1, rfl, hr, hn, hb⟩
  rintro r w3 _ ⟨A1, c1, rfl, r3, hn3, hb3⟩
  refine ⟨w3.heap.size, hb3.size, ?_⟩
  have hL2 := rlay_any w3 A1 c1 w3.heap.size (layN bs o v) (by rw [HE1.out]; exact r3) (Nat.le_refl _) hn3 (by rw [HE1.out]; exact hl) (o + s - 8) v hv2 (by rw [HE1.out]; omega)
  have e2 := layN_length (layN bs o v) (o + s - 8) v (by rw [HE1.out]; omega)
  rw [HE1.out, show ((o + s - 8 : Nat) : Int) = (o : Int) + (s : Int) - 8 by omega] at hL2
  rw [HE1.out] at e2
  have HL2 := Lib.hid hL2
  have HE2 := Lib.hid e2
  clear hL2 e2
  refine tail_cons (l := ?seg2) ?hseg2 ?_
  case hseg2 => rfl
  simp only [Act.put, List.setIfInBounds_toArray, List.set_cons_zero, List.set_cons_succ]
  refine wpQuiet_nil ?_
  refine tail_call2 (vs := #[.slice A1 bs.length c1, .int .i64 ((o : Int) + (s : Int) - 8), .int .u64 (v : Int)]) Try.call19 rfl rfl rfl (R := fun r w' => ∃ A2 c2, r = .slice A2 bs.length c2 ∧ w'.ownsRow w3.heap.size 5 1 (.slice A2 bs.length c2) bs.length ((layN (layN bs o v) (o + s - 8) v).map bv) ∧ Below w3.heap.size w3 w') (HL2.out.mono ?_) ?_
  · rintro e w' ⟨A1, c1, rfl, ho, hb⟩
    rw [HE2.out] at ho ⊢
    exact ⟨_, rfl, hb, A1, c1, rfl, ho, hb⟩
  rintro r w4 _ ⟨A2, c2, rfl, ho4, hb4⟩
  refine ⟨w4.heap.size, hb4.size, ?_⟩
  refine tail_last (l := ?la3) (t := []) ?hla3 ?htl3 ?_
  case hla3 => simp only [pick, List.getElem?_toArray, List.getElem?_cons_succ, List.getElem?_cons_zero]; rfl
  case htl3 => rfl
  simp only [Act.put, List.setIfInBounds_toArray, List.set_cons_zero, List.set_cons_succ]
  repeat (go_big_quiet_step (fail))
  refine wpQuiet_nil ?_
  have HO4 := Lib.hid ho4
  have HB4 : Hid (Below w.heap.size w w4) := HB.out.trans ((hb3.trans (hb4.mono hb3.size)).mono HB.out.size)
  clear ho4 hb4 hb3 r3 hn3 HL1 HL2
  go_wp2
  go_ret2
  obtain ⟨hr, hc, hn⟩ := own_facts HO4.out
  refine ⟨A2, c2, by rw [HE2.out]; rfl, ?_, ?_, hn, HB4.out⟩
  · rw [HE2.out]; exact hr
  · rw [HE2.out]; exact hc

theorem rsetB_any (A : Option Addr) (c : Nat) (bs : List UInt8) (hr : Rd w w.heap.size A bs.length bs) (hlc : bs.length ≤ c) (hA0 : A = none → c = 0) (hl : bs.length ≤ 100000) (o s : Int) (u : Bool) (ho : -9223372036854775808 ≤ o ∧ o ≤ 9223372036854775807) (hs : -9223372036854775808 ≤ s ∧ s ≤ 9223372036854775807) (x : Option (List UInt8)) (hx : setB bs o s u = x) :
    Calls Try.prog 20 #[.slice A bs.length c, .agg #[.int .i64 o, .int .i64 s, .bool u]] w fun e w' => SlTold (x.getD bs) x.isSome w e w' := by
  subst hx
  cases h1 : isSz s with
  | false =>
    have e : setB bs o s u = none := by unfold setB; rw [if_neg (by rw [h1]; simp)]
    rw [e]
    exact rsetB_no w A c bs hr hlc hA0 hl o s u ho hs false _ h1 rfl (.inl rfl)
  | true =>
    cases h2 : could bs.length o s with
    | false =>
      have e : setB bs o s u = none := by unfold setB; rw [if_neg (by rw [h2]; simp)]
      rw [e]
      exact rsetB_no w A c bs hr hlc hA0 hl o s u ho hs true false h1 h2 (.inr ⟨rfl, rfl⟩)
    | true =>
      have g1 := (isSz_iff _).1 h1
      have g2 := (could_iff _ _ _).1 h2
      obtain ⟨p, rfl⟩ : ∃ p : Nat, o = (p : Int) := ⟨o.toNat, by omega⟩
      obtain ⟨q, rfl⟩ : ∃ q : Nat, s = (q : Int) := ⟨s.toNat, by omega⟩
      have e : setB bs (p : Int) (q : Int) u = some (layN (layN bs p (packN (q : Int) u)) (p + q - 8) (packN (q : Int) u)) := by
        unfold setB
        rw [if_pos ⟨h1, h2⟩, Int.toNat_natCast, show ((p : Int) + (q : Int) - 8).toNat = p + q - 8 by omega]
      rw [e]
      exact rsetB_yes w A c bs hr hA0 hl p q u h1 h2 _ rfl
end
end Go.Proofs.Ytjokbjmfnidmjaa

/- The contracts of the document's own blocks: Walk. -/
namespace Go.Proofs.Ytjokbjmfnidmjaa
open Go.RowKit

/-- Blocks as cells. -/
def flatK : List Bk → List Value
  | [] => []
  | x :: r => .int .i64 (x.off : Int) :: .int .i64 (x.size : Int) :: .bool x.used :: flatK r
theorem flatK_length : ∀ l : List Bk, (flatK l).length = l.length * 3
  | [] => rfl
  | x :: r => by simp [flatK, flatK_length r]; omega
theorem flatK_append (a b : List Bk) : flatK (a ++ b) = flatK a ++ flatK b := by
  induction a with
  | nil => rfl
  | cons x r ih => simp [flatK, ih]
theorem flatK_get : ∀ (l : List Bk) (i : Nat) (x : Bk), l[i]? = some x → (flatK l)[i * 3]? = some (.int .i64 (x.off : Int)) ∧ (flatK l)[i * 3 + 1]? = some (.int .i64 (x.size : Int)) ∧ (flatK l)[i * 3 + 2]? = some (.bool x.used)
  | [], _, _, h => by simp at h
  | y :: r, 0, x, h => by
    simp at h; subst h
    exact ⟨rfl, rfl, rfl⟩
  | y :: r, i + 1, x, h => by
    have := flatK_get r i x (by simpa using h)
    have e : (i + 1) * 3 = i * 3 + 1 + 1 + 1 := by omega
    rw [e]
    exact ⟨by simpa [flatK] using this.1, by simpa [flatK] using this.2.1, by simpa [flatK] using this.2.2⟩
theorem bk_inf : (Try.prog.info? 47).map (fun i => (i.zero, i.size, i.bytes)) = some (some (.agg #[.int .i64 0, .int .i64 0, .bool false]), 3, 24) := by kernel_rfl
/-- A slice of blocks. -/
def BksTold (x : Option (List Bk)) (w : World) (e : Ending) (w' : World) : Prop :=
  ∃ A' c', e = .returned (.tuple #[.slice A' (x.getD []).length c', .bool x.isSome]) ∧ w'.ownsRow w.heap.size 47 3 (.slice A' (x.getD []).length c') (x.getD []).length (flatK (x.getD [])) ∧ Below w.heap.size w w'
theorem own_sl {w : World} {base n size : Nat} {t : TypeId} {v : Value} {xs : List Value} (h : w.ownsRow base t size v n xs) : ∃ A c, v = .slice A n c := by
  rcases h.2 with ⟨rfl, h0⟩ | ⟨g, cap, cur, rfl, _⟩
  · rw [h0]; exact ⟨none, 0, rfl⟩
  · exact ⟨_, _, rfl⟩
theorem own_below' {w w' : World} {base n size : Nat} {t : TypeId} {v : Value} {xs : List Value} (h : w.ownsRow base t size v n xs) (hb : Below w.heap.size w w') : w'.ownsRow base t size v n xs := by
  refine ⟨h.1, ?_⟩
  rcases h.2 with h2 | ⟨g, cap, cur, hv, hg, hh, r⟩
  · exact .inl h2
  · refine .inr ⟨g, cap, cur, hv, hg, ?_, r⟩
    have := (h.lt g (by rw [hv]; rfl)).2
    rw [hb.block g this]; exact hh

section
variable (w : World)
set_option maxRecDepth 100000 in
set_option maxHeartbeats 2000000 in
theorem rwalkB_any (A : Option Addr) (c B : Nat) (bs : List UInt8) (hr : Rd w B A bs.length bs) (hB : B ≤ w.heap.size) (hlc : bs.length ≤ c) (hl : bs.length ≤ 100000) (x : Option (List Bk)) (hx : walkB bs = x) :
    Calls Try.prog 32 #[.slice A bs.length c] w fun e w' => BksTold x w e w' := by
  by_cases h0 : bs.length < 184
  · obtain rfl : none = x := by rw [← hx]; unfold walkB; rw [if_pos h0]
    clear hx hr
    go_enter Try.func32, Try.ntmps32
    go_wp2
    go_ret2
    exact ⟨none, 0, rfl, World.ownsRow_nil _ _ _ _, Below.refl _ _⟩
  · have hx' : walkF bs (bs.length + 1) 184 = x := by rw [← hx]; unfold walkB; rw [if_neg h0]
    obtain ⟨i0, hi, hz0, hz1, hz2⟩ := info_parts bk_inf
    have HX := Lib.hid hx'
    have HR := Lib.hid hr
    obtain ⟨B0, hB0⟩ : ∃ B0, w.heap.size = B0 := ⟨_, rfl⟩
    have HB0 := Lib.hid hB0
    clear hx hx' hr hB0
    go_enter Try.func32, Try.ntmps32
    go_wp2
    go_loopw [4, 5] (fun q t wr => ∃ (l : List Bk) (o k : Nat), t = .int .i64 (o : Int) ∧ 184 ≤ o ∧ o ≤ bs.length ∧ bs.length < o + k ∧ l.length * 32 ≤ o ∧ x = (walkF bs k o).map (l ++ ·) ∧ wr.ownsRow B0 47 3 q l.length (flatK l) ∧ Below B0 w wr) (fun _ t _ => bs.length - (intOf t).toNat)
    case atStart => exact ⟨[], 184, bs.length + 1, rfl, Nat.le_refl _, by omega, by omega, by simp, by rw [HX.out]; simp, World.ownsRow_nil _ _ _ _, Below.refl _ _⟩
    case round =>
      obtain ⟨l, o, k, rfl, ho1, ho2, hk, hll, hxl, hown, hb⟩ := hrel
      obtain ⟨A7, c7, rfl⟩ := own_sl hown
      obtain ⟨k, rfl⟩ : ∃ k', k = k' + 1 := ⟨k - 1, by omega⟩
      have hBw : B0 ≤ wr.heap.size := by have := hb.size; have := HB0.out; omega
      by_cases hlt : o < bs.length
      · have hrw : Rd wr B A bs.length bs := HR.out.keep (fun q hq => hb.cell (p := q) (by have := HB0.out; omega))
        cases hg : getB bs (o : Int) with
        | none =>
          have hG := rgetB_any wr A c B bs hrw hlc (by omega) (o : Int) (by omega) _ hg
          dsimp only [bkV, Option.isSome] at hG
          obtain rfl : x = none := by rw [hxl]; simp [walkF, hlt, hg]
          have HG := Lib.hid hG
          have HB := Lib.hid hb
          clear hG hown hb hg hxl hrw HX
          go_wp2_with fail
          with_reducible refine HG.out.mono ?_
          rintro e w2 ⟨rfl, hb2⟩
          have HB2 := Lib.hid (HB.out.trans (hb2.mono hBw))
          clear hb2
          go_wp2
          go_ret2
          exact ⟨none, 0, rfl, World.ownsRow_nil _ _ _ _, by rw [HB0.out]; exact HB2.out.alloc (by have := HB2.out.size; have := HB0.out; omega) _⟩
        | some y =>
          obtain ⟨yo, ys, yu⟩ := y
          obtain ⟨q1, _, _, q2, q3, _⟩ := getB_some hg
          dsimp only at q1 q2 q3
          obtain rfl : o = yo := by omega
          have q4 := (isSz_iff _).1 q3
          have hG := rgetB_any wr A c B bs hrw hlc (by omega) (o : Int) (by omega) _ hg
          dsimp only [bkV, Bk.val, Option.isSome] at hG
          have hxl' : x = (walkF bs k (o + ys)).map ((l ++ [⟨o, ys, yu⟩]) ++ ·) := by
            rw [hxl]
            simp [walkF, hlt, hg, Option.map_map, Function.comp_def]
          have HG := Lib.hid hG
          have HB := Lib.hid hb
          have HXL := Lib.hid hxl'
          have HOWN := Lib.hid hown
          have HALT : Hid (∀ k, (Value.slice A7 l.length c7).ownBlock = some k → B0 ≤ k ∧ k < wr.heap.size) := hown.lt
          clear hG hown hb hg hxl hxl' hrw q1 q3 HX
          go_wp2_with fail
          with_reducible refine HG.out.mono ?_
          rintro e w2 ⟨rfl, hb2⟩
          have own2 := own_below' HOWN.out hb2
          have HB2 := Lib.hid (HB.out.trans (hb2.mono hBw))
          have hw2 : B0 ≤ w2.heap.size := Nat.le_trans hBw hb2.size
          have hwr := hb2.size
          obtain ⟨w3, hw3⟩ : ∃ w3, w2.alloc (.cells #[.int .i64 (o : Int), .int .i64 (ys : Int), .bool yu] 47) = w3 := ⟨_, rfl⟩
          obtain ⟨w4, hw4⟩ : ∃ w4, w3.alloc (.cells #[.int .i64 (o : Int), .int .i64 (ys : Int), .bool yu] 47) = w4 := ⟨_, rfl⟩
          have b3 : Below w2.heap.size w2 w3 := by rw [← hw3]; exact (Below.refl _ _).alloc (Nat.le_refl _) _
          have b4 : Below w3.heap.size w3 w4 := by rw [← hw4]; exact (Below.refl _ _).alloc (Nat.le_refl _) _
          have own4 := own_below' (own_below' own2 b3) b4
          have n4 : w4.heap[w3.heap.size]? = some (.cells #[.int .i64 (o : Int), .int .i64 (ys : Int), .bool yu] 47 (0, 0)) := by rw [← hw4]; exact heap_alloc_new w3 _
          have s3 : w3.heap.size = w2.heap.size + 1 := by rw [← hw3]; simp
          have n3 : w3.heap[w2.heap.size]? = some (.cells #[.int .i64 (o : Int), .int .i64 (ys : Int), .bool yu] 47 (0, 0)) := by rw [← hw3]; exact heap_alloc_new w2 _
          obtain ⟨⟨d0, d1, d2⟩, _⟩ := blk_cells n3
          have n4' := (b4.block _ (heap_lt' n3)).trans n3
          have HNEW : Hid (∀ j u, [Value.int .i64 (o : Int), .int .i64 (ys : Int), .bool yu][j]? = some u → w4.cell? ((⟨w3.heap.size, 0, none⟩ : Addr).add j) = some u) := fun j u hu => by
            have e : (⟨w3.heap.size, 0, none⟩ : Addr).add j = ⟨w3.heap.size, j, none⟩ := by unfold Addr.add; split <;> simp_all
            rw [e, cell_of_row w4 _ j _ _ (0, 0) n4]
            simpa using hu
          have HONE : Hid (∀ u ∈ [Value.int .i64 (o : Int), .int .i64 (ys : Int), .bool yu], u.oneCell' = true) := fun u hu => by
            simp at hu
            rcases hu with rfl | rfl | rfl <;> rfl
          have hB4 : B0 ≤ w4.heap.size := by have := b4.size; omega
          have HB4 := Lib.hid (HB2.out.trans ((b3.trans (b4.mono b3.size)).mono hw2))
          have OWN4 := Lib.hid own4
          have HN4 := Lib.hid n4'
          have hs4 : w3.heap.size < w4.heap.size := heap_lt' n4
          have HS3 := Lib.hid s3
          have HFL : Hid (flatK (l ++ [⟨o, ys, yu⟩]) = flatK l ++ [.int .i64 (o : Int), .int .i64 (ys : Int), .bool yu]) := flatK_append _ _
          have hg2 : w2.heap.size < w4.heap.size := heap_lt' n4'
          clear own2 own4 n3 n4 n4' b3 b4 hb2 HOWN HG s3
          go_wp2_with (first
            | (at_builtin; go_must (refine wpList_append_own _ rfl _ _ 44 rfl B0 47 i0 _ 3 24 Try.underlying44 hi hz0 hz1 hz2 rfl (by decide) _ l.length (flatK l) rfl OWN4.out ⟨w3.heap.size, 0, none⟩ 1 1 [.int .i64 (o : Int), .int .i64 (ys : Int), .bool yu] rfl rfl HNEW.out HONE.out (by unfold maxLen; omega) (by omega) hB4 ?_); intro x5 w5 own5 gr5 at5;
               have gr5' : w4.grownBy w5 (Value.slice A7 l.length c7).ownBlock := gr5; have e5 := (gr5'.block _ hg2 (fun e => by have := (HALT.out _ e.symm).2; omega)).trans HN4.out; obtain ⟨⟨c0, c1, c2⟩, _⟩ := blk_cells e5; have HB5 : Hid (Below B0 w w5) := HB4.out.grown gr5' hB4 (fun k hk => (HALT.out k hk).1); have OWN5 : Hid (w5.ownsRow B0 47 3 x5 (l.length + 1) (flatK (l ++ [⟨o, ys, yu⟩]))) := (show World.ownsRow _ _ _ _ _ _ _ by rw [HFL.out]; exact own5); clear own5 gr5 gr5' at5 e5)
            | fail)
          go_roundw
          case rel => exact ⟨l ++ [⟨o, ys, yu⟩], o + ys, k, by go_num, by omega, by omega, by omega, by rw [List.length_append, List.length_singleton]; omega, HXL.out, by rw [List.length_append, List.length_singleton]; exact OWN5.out, HB5.out⟩
          case measure => simp [intOf]; omega
      · obtain rfl : o = bs.length := by omega
        obtain rfl : x = some l := by rw [hxl]; simp [walkF]
        have HB := Lib.hid hb
        have HO := Lib.hid hown
        clear hxl hown hb HX
        go_wp2
        go_ret2
        exact ⟨A7, c7, rfl, by rw [HB0.out]; exact HO.out, by rw [HB0.out]; exact HB.out⟩
end
end Go.Proofs.Ytjokbjmfnidmjaa

/- The contracts of the laws' words: Pick, Blocks and Ints of lists that are the same. -/
namespace Go.Proofs.Ytjokbjmfnidmjaa
open Go.RowKit

/-- A slice of blocks reads so; a slice of numbers. -/
def BkRd (w : World) (B : Nat) (A : Option Addr) (l : List Bk) : Prop := 0 < l.length → ∃ b o, A = some ⟨b, o, none⟩ ∧ b < B ∧ ∀ j x, l[j]? = some x →
  w.cell? ⟨b, o + j * 3, none⟩ = some (.int .i64 (x.off : Int)) ∧ w.cell? ⟨b, o + j * 3 + 1, none⟩ = some (.int .i64 (x.size : Int)) ∧ w.cell? ⟨b, o + j * 3 + 2, none⟩ = some (.bool x.used)
def IRd (w : World) (B : Nat) (A : Option Addr) (l : List Int) : Prop := 0 < l.length → ∃ b o, A = some ⟨b, o, none⟩ ∧ b < B ∧ ∀ j x, l[j]? = some x → w.cell? ⟨b, o + j, none⟩ = some (.int .i64 x)
/-- A number, or a block, that is laid. -/
structure La where
  what : Int
  at_ : Int
  v : Nat
/-- A slice of such. -/
def LaRd (w : World) (B : Nat) (A : Option Addr) (l : List La) : Prop := 0 < l.length → ∃ b o, A = some ⟨b, o, none⟩ ∧ b < B ∧ ∀ j x, l[j]? = some x →
  w.cell? ⟨b, o + j * 3, none⟩ = some (.int .i64 x.what) ∧ w.cell? ⟨b, o + j * 3 + 1, none⟩ = some (.int .i64 x.at_) ∧ w.cell? ⟨b, o + j * 3 + 2, none⟩ = some (.int .u64 (x.v : Int)) ∧
  (-9223372036854775808 ≤ x.what ∧ x.what ≤ 9223372036854775807) ∧ (-9223372036854775808 ≤ x.at_ ∧ x.at_ ≤ 9223372036854775807) ∧ x.v < 18446744073709551616
theorem LaRd.below {w w' : World} {B : Nat} {A : Option Addr} {l : List La} (h : LaRd w B A l) (hb : Below B w w') : LaRd w' B A l := fun hn => by
  obtain ⟨b, o, e, hB, hc⟩ := h hn
  refine ⟨b, o, e, hB, fun j x hx => ?_⟩
  obtain ⟨h0, h1, h2, h3⟩ := hc j x hx
  exact ⟨(hb.cell (p := ⟨b, _, none⟩) hB).trans h0, (hb.cell (p := ⟨b, _, none⟩) hB).trans h1, (hb.cell (p := ⟨b, _, none⟩) hB).trans h2, h3⟩

theorem BkRd.below {w w' : World} {B : Nat} {A : Option Addr} {l : List Bk} (h : BkRd w B A l) (hb : Below B w w') : BkRd w' B A l := fun hn => by
  obtain ⟨b, o, e, hB, hc⟩ := h hn
  refine ⟨b, o, e, hB, fun j x hx => ?_⟩
  obtain ⟨h0, h1, h2⟩ := hc j x hx
  exact ⟨(hb.cell (p := ⟨b, _, none⟩) hB).trans h0, (hb.cell (p := ⟨b, _, none⟩) hB).trans h1, (hb.cell (p := ⟨b, _, none⟩) hB).trans h2⟩
theorem BkRd.more {w : World} {B B' : Nat} {A : Option Addr} {l : List Bk} (h : BkRd w B A l) (hB : B ≤ B') : BkRd w B' A l := fun hn => by
  obtain ⟨b, o, e, h1, hc⟩ := h hn
  exact ⟨b, o, e, Nat.lt_of_lt_of_le h1 hB, hc⟩
theorem IRd.below {w w' : World} {B : Nat} {A : Option Addr} {l : List Int} (h : IRd w B A l) (hb : Below B w w') : IRd w' B A l := fun hn => by
  obtain ⟨b, o, e, hB, hc⟩ := h hn
  exact ⟨b, o, e, hB, fun j x hx => (hb.cell (p := ⟨b, _, none⟩) hB).trans (hc j x hx)⟩
theorem IRd.more {w : World} {B B' : Nat} {A : Option Addr} {l : List Int} (h : IRd w B A l) (hB : B ≤ B') : IRd w B' A l := fun hn => by
  obtain ⟨b, o, e, h1, hc⟩ := h hn
  exact ⟨b, o, e, Nat.lt_of_lt_of_le h1 hB, hc⟩
theorem pk_i {k : IntKind} {a b : Int} (h : a = b) : Ending.returned (.int k a) = .returned (.int k b) := by rw [h]

set_option maxRecDepth 100000 in
set_option maxHeartbeats 400000 in
theorem lpick_any (n : Int) (m : Nat) (w : World) (hm : 0 < m) (hm2 : m ≤ 1000000) (p : Nat) (hp : (n % (m : Int)).toNat = p) :
    Calls Try.prog 15 #[.int .i64 n, .int .i64 (m : Int)] w fun e w' => e = .returned (.int .i64 (p : Int)) ∧ w = w' := by
  have h1 := Int.emod_nonneg n (b := (m : Int)) (by omega)
  have h2 := Int.emod_lt_of_pos n (b := (m : Int)) (by omega)
  obtain ⟨e, he⟩ : ∃ e, n % (m : Int) = e := ⟨_, rfl⟩
  rw [he] at h1 h2 hp
  have h3 : (n.tmod (m : Int) = e) ∨ (n.tmod (m : Int) = e - m) := by
    have := Int.tmod_eq_emod (a := n) (b := (m : Int))
    rw [he] at this
    rw [this]
    split
    · left; simp
    · right; simp
  obtain ⟨r, hr⟩ : ∃ r, n.tmod (m : Int) = r := ⟨_, rfl⟩
  rw [hr] at h3
  clear he
  have hm0 : ((m : Int) == 0) = false := by rw [beq_eq_false_iff_ne]; omega
  by_cases h4 : r < 0
  · have h6 : -1000000 ≤ r := by omega
    have h5 : r + (m : Int) = (p : Int) := by omega
    have H5 := Lib.hid h5
    clear h3 h5 hp
    go_enter Try.func15, Try.ntmps15
    go_wp2
    go_ret
    exact ⟨pk_i H5.out, rfl⟩
  · have h5 : r = (p : Int) := by omega
    have H5 := Lib.hid h5
    clear h3 h5 hp
    go_enter Try.func15, Try.ntmps15
    go_wp2
    go_ret
    exact ⟨pk_i H5.out, rfl⟩

set_option maxRecDepth 100000 in
set_option maxHeartbeats 1000000 in
theorem ints_same (w : World) (A1 A2 : Option Addr) (c1 c2 : Nat) (l : List Int) (h1 : IRd w w.heap.size A1 l) (h2 : IRd w w.heap.size A2 l) (hl : l.length ≤ 1000000) :
    Calls Try.prog 18 #[.slice A1 l.length c1, .slice A2 l.length c2] w fun e w' => e = .returned (.int .i64 1) ∧ Below w.heap.size w w' := by
  go_enter Try.func18, Try.ntmps18
  go_wp2
  go_loopw [5] (fun i wr => ∃ j : Nat, j ≤ l.length ∧ i = .int .i64 j ∧ Below w.heap.size w wr) (fun i _ => l.length - (intOf i).toNat)
  case atStart => exact ⟨0, Nat.zero_le _, rfl, Below.refl _ _⟩
  case round =>
    obtain ⟨j, hj, rfl, hb⟩ := hrel
    by_cases hlt : j < l.length
    · obtain ⟨x, hx⟩ : ∃ x, l[j]? = some x := ⟨l[j], List.getElem?_eq_getElem hlt⟩
      obtain ⟨b1, o1, rfl, _, hc1⟩ := (h1.below hb) (by omega)
      obtain ⟨b2, o2, rfl, _, hc2⟩ := (h2.below hb) (by omega)
      have p0 := hc1 j x hx
      have q0 := hc2 j x hx
      have hji : (j : Int) < (l.length : Int) := by omega
      clear hc1 hc2 hx
      go_wp2_with fail
      go_quiet (fail)
      have HB : Hid (Below w.heap.size w (wr.drewN nq)) := ⟨hb.os, hb.tape, hb.output, hb.size, hb.block⟩
      clear hb p0 q0
      generalize wr.drewN nq = w2 at HB ⊢
      go_wp2
      go_roundw
      case rel => exact ⟨j + 1, by omega, by go_num, HB.out⟩
      case measure => simp [intOf]; omega
    · go_wp2
      go_ret
      exact ⟨rfl, hb⟩
end Go.Proofs.Ytjokbjmfnidmjaa

/- Slices and structs that came in, in the words of the contracts: bytes, bools, numbers, what is laid, a block. -/
namespace Go.Proofs.Ytjokbjmfnidmjaa
open Go.RowKit Go.ChangeShapes Go.WideShapes Go.Deep

theorem list_of {α : Type} {p : Nat → α → Prop} : ∀ (n : Nat), (∀ i, i < n → ∃ x, p i x) → ∃ l : List α, l.length = n ∧ ∀ i x, l[i]? = some x → p i x
  | 0, _ => ⟨[], rfl, fun i x h => by simp at h⟩
  | n + 1, h => by
    obtain ⟨l, hl, hp⟩ := list_of n (fun i hi => h i (by omega))
    obtain ⟨x, hx⟩ := h n (by omega)
    refine ⟨l ++ [x], by simp [hl], fun i y hy => ?_⟩
    rcases Nat.lt_or_ge i l.length with h1 | h1
    · rw [List.getElem?_append_left h1] at hy
      exact hp i y hy
    · rw [List.getElem?_append_right h1] at hy
      have e : i - l.length = 0 := by
        rcases Nat.eq_zero_or_pos (i - l.length) with h2 | h2
        · exact h2
        · rw [List.getElem?_eq_none (by simp; omega)] at hy; cases hy
      rw [e] at hy
      obtain rfl : x = y := by simpa using hy
      obtain rfl : i = n := by omega
      exact hx

theorem add_plain {w : World} {a : Addr} {v : Value} (h : w.cell? (a.add 0) = some v) : ∃ b o, a = ⟨b, o, none⟩ ∧ b < w.heap.size ∧ ∀ j, a.add j = ⟨b, o + j, none⟩ := by
  obtain ⟨b, o, sp⟩ := a
  obtain rfl : sp = none := by simpa [Addr.add] using World.cell?_spot h
  have e : ∀ j, (⟨b, o, none⟩ : Addr).add j = ⟨b, o + j, none⟩ := fun j => by unfold Addr.add; split <;> simp_all
  refine ⟨b, o, rfl, ?_, e⟩
  rw [e] at h
  exact cell_lt h

/-- A slice of bools that came in. -/
def Boo (w : World) (A : Option Addr) (kb : List Bool) : Prop := 0 < kb.length → ∃ b o, A = some ⟨b, o, none⟩ ∧ b < w.heap.size ∧ ∀ j u, kb[j]? = some u → w.cell? ⟨b, o + j, none⟩ = some (.bool u)

section
variable {H : Type} {enc : TypeId × Value → H} {w : World} {base : Nat} {held : Bool} {fuel : Nat} {A : Option Addr} {len cap : Nat} {x : DataW H × List MemPlace}
theorem open_boo (h : DataW.trod enc Try.prog w base (fun _ => true) held fuel 43 [.slice A len cap] = some x) : ∃ kb : List Bool, kb.length = len ∧ Boo w A kb ∧ len ≤ maxLen := by
  rcases open_bools Try.underlying43 Try.underlying4 (by kernel_rfl) h with ⟨hcs, _⟩ | ⟨a, l, c, B, hcs, _, hl, hm, _, hc⟩
  · simp at hcs
    obtain ⟨rfl, rfl, rfl⟩ := hcs
    exact ⟨[], rfl, fun hn => absurd hn (by simp), Nat.zero_le _⟩
  · simp at hcs
    obtain ⟨rfl, rfl, rfl⟩ := hcs
    obtain ⟨kb, hk, hp⟩ := list_of (p := fun i b => w.cell? (a.add i) = some (.bool b)) len (fun i hi => ⟨B i, hc i (by omega)⟩)
    refine ⟨kb, hk, fun hn => ?_, by omega⟩
    obtain ⟨b, o, rfl, hlt, e⟩ := add_plain (hc 0 (by omega))
    refine ⟨b, o, rfl, hlt, fun j u hu => ?_⟩
    rw [← e]
    exact hp j u hu

theorem open_byt {fuel : Nat} {A : Option Addr} {len cap : Nat} {x : DataW H × List MemPlace} (h : DataW.trod enc Try.prog w base (fun _ => true) held fuel 24 [.slice A len cap] = some x) : ∃ bs : List UInt8, Rd w w.heap.size A len bs ∧ len ≤ cap ∧ cap ≤ maxLen ∧ (A = none → cap = 0) := by
  rcases open_ints Try.underlying24 Try.underlying5 (by kernel_rfl) h with ⟨hcs, _⟩ | ⟨y, l, c, zs, hcs, _, hl, hm, hz, _, hcell, hwz⟩
  · simp at hcs
    obtain ⟨rfl, rfl, rfl⟩ := hcs
    exact rd_of_row (zs := []) (.inl ⟨rfl, rfl, rfl, rfl⟩)
  · simp at hcs
    obtain ⟨rfl, rfl, rfl⟩ := hcs
    exact rd_of_row (zs := zs) (.inr ⟨_, rfl, hl, hm, by simpa using hz, hcell, hwz⟩)

theorem open_ns (h : DataW.trod enc Try.prog w base (fun _ => true) held fuel 42 [.slice A len cap] = some x) : ∃ l : List Int, l.length = len ∧ IRd w w.heap.size A l ∧ (∀ z ∈ l, -9223372036854775808 ≤ z ∧ z ≤ 9223372036854775807) ∧ len ≤ maxLen := by
  rcases open_ints Try.underlying42 Try.underlying3 (by kernel_rfl) h with ⟨hcs, _⟩ | ⟨y, l, c, zs, hcs, _, hl, hm, hz, _, hcell, hwz⟩
  · simp at hcs
    obtain ⟨rfl, rfl, rfl⟩ := hcs
    exact ⟨[], rfl, fun hn => absurd hn (by simp), (fun z hz => by cases hz), Nat.zero_le _⟩
  · simp at hcs
    obtain ⟨rfl, rfl, rfl⟩ := hcs
    have hz : zs.length = cap := by simpa using hz
    refine ⟨zs.take len, by rw [List.length_take]; omega, fun hn => ?_, fun z hz' => ?_, by omega⟩
    · rw [List.length_take] at hn
      obtain ⟨b, o, rfl, hlt, e⟩ := add_plain (hcell 0 (by omega))
      refine ⟨b, o, rfl, hlt, fun j u hu => ?_⟩
      rw [List.getElem?_take] at hu
      split at hu
      · have hc := hcell j (by omega)
        rw [e, List.getD_eq_getElem?_getD, hu] at hc
        exact hc
      · cases hu
    · have := bounds_i64 (hwz z (List.mem_of_mem_take hz'))
      omega

set_option maxRecDepth 100000 in
theorem open_blk {r : Reach} {b0 : Nat} {v : Value} {d : DataW H} {p : List MemPlace} (hval : Value.okWide Try.prog w r b0 47 v) (h : DataW.Trod enc Try.prog w base (fun _ => true) held 47 v d p) :
    ∃ (o s : Int) (u : Bool), v = .agg #[.int .i64 o, .int .i64 s, .bool u] ∧ (-9223372036854775808 ≤ o ∧ o ≤ 9223372036854775807) ∧ (-9223372036854775808 ≤ s ∧ s ≤ 9223372036854775807) := by
  obtain ⟨v0, v1, v2, y0, y1, y2, n, rfl, _, _, g0, g1, g2⟩ := Go.Joins.open_agg3 Try.underlying47 (by kernel_rfl) (by kernel_rfl) hval h
  obtain ⟨n0, h0, _, w0⟩ := DataW.trod_int Try.underlying3 g0
  obtain ⟨n1, h1, _, w1⟩ := DataW.trod_int Try.underlying3 g1
  obtain ⟨u, h2, _⟩ := DataW.trod_bool Try.underlying4 g2
  simp at h0 h1 h2
  subst h0 h1 h2
  have b0 := bounds_i64 w0
  have b1 := bounds_i64 w1
  exact ⟨n0, n1, u, rfl, by omega, by omega⟩

set_option maxRecDepth 100000 in
theorem open_lays (h : DataW.trod enc Try.prog w base (fun _ => true) held fuel 22 [.slice A len cap] = some x) : ∃ l : List La, l.length = len ∧ LaRd w w.heap.size A l ∧ len ≤ maxLen := by
  have hC : Try.prog.cellsOf 54 = 3 := by kernel_rfl
  have hone : oneCellFields Try.prog (match Try.prog.underlying 54 with
    | some (.struct fs) => fs
    | _ => #[]) = true := by kernel_rfl
  rw [Try.underlying54] at hone
  dsimp only at hone
  rcases open_slice Try.underlying22 h with ⟨hcs, _⟩ | ⟨a, l, c, m, n, D, Pl, hcs, _, hl, hm, hmm, _, hi⟩
  · simp at hcs
    obtain ⟨rfl, rfl, rfl⟩ := hcs
    exact ⟨[], rfl, fun hn => absurd hn (by simp), Nat.zero_le _⟩
  · simp at hcs
    obtain ⟨rfl, rfl, rfl⟩ := hcs
    simp only [if_true] at hmm
    subst hmm
    rw [hC] at hi
    obtain ⟨ds, hd, hp⟩ := list_of (p := fun i (d : La) => w.cell? (a.add (i * 3)) = some (.int .i64 d.what) ∧ w.cell? (a.add (i * 3 + 1)) = some (.int .i64 d.at_) ∧ w.cell? (a.add (i * 3 + 2)) = some (.int .u64 (d.v : Int)) ∧
        (-9223372036854775808 ≤ d.what ∧ d.what ≤ 9223372036854775807) ∧ (-9223372036854775808 ≤ d.at_ ∧ d.at_ ≤ 9223372036854775807) ∧ d.v < 18446744073709551616) len (fun i hil => by
      obtain ⟨cs', hc, ht⟩ := hi i (by omega)
      obtain ⟨_, hcl, hat⟩ := World.cells?_some hc
      obtain ⟨xs, n', _, _, _, hlen, hf⟩ := DataW.trod_struct Try.underlying54 ht
      match cs', hcl, xs, hlen with
      | [v0, v1, v2], _, [y0, y1, y2], _ =>
        have g0 := hf 0 _ rfl
        have g1 := hf 1 _ rfl
        have g2 := hf 2 _ rfl
        rw [(hone_of hone 0 _ rfl).1, (hone_of hone 0 _ rfl).2] at g0
        rw [(hone_of hone 1 _ rfl).1, (hone_of hone 1 _ rfl).2] at g1
        rw [(hone_of hone 2 _ rfl).1, (hone_of hone 2 _ rfl).2] at g2
        simp only [List.drop_zero, List.drop_succ_cons, List.take_succ_cons, List.take_zero, List.getElem?_cons_zero, List.getElem?_cons_succ] at g0 g1 g2
        obtain ⟨n0, h0, _, w0⟩ := DataW.trod_int Try.underlying3 g0
        obtain ⟨n1, h1, _, w1⟩ := DataW.trod_int Try.underlying3 g1
        obtain ⟨n2, h2, _, w2⟩ := DataW.trod_int Try.underlying28 g2
        simp at h0 h1 h2
        subst h0 h1 h2
        have b0 := bounds_i64 w0
        have b1 := bounds_i64 w1
        have b2 := bounds_u64 w2
        obtain ⟨v, rfl⟩ : ∃ v : Nat, n2 = (v : Int) := ⟨n2.toNat, by omega⟩
        have a0 := hat 0 (by omega)
        have a1 := hat 1 (by omega)
        have a2 := hat 2 (by omega)
        rw [Go.Deep.add_add] at a0 a1 a2
        exact ⟨⟨n0, n1, v⟩, a0, a1, a2, by dsimp only; omega, by dsimp only; omega, by dsimp only; omega⟩)
    refine ⟨ds, hd, fun hn => ?_, by omega⟩
    obtain ⟨d, hd0⟩ : ∃ d, ds[0]? = some d := ⟨ds[0], List.getElem?_eq_getElem hn⟩
    obtain ⟨h0, _⟩ := hp 0 d hd0
    rw [Nat.zero_mul] at h0
    obtain ⟨b, o, rfl, hlt, e⟩ := add_plain h0
    refine ⟨b, o, rfl, hlt, fun j d hj => ?_⟩
    obtain ⟨h0, h1, h2, h3⟩ := hp j d hj
    rw [e] at h0 h1 h2
    exact ⟨h0, h1, h2, h3⟩
end
end Go.Proofs.Ytjokbjmfnidmjaa

/- The contracts of the document's own lists: num, bit, one, Free, Member. -/
namespace Go.Proofs.Ytjokbjmfnidmjaa
open Go.RowKit

theorem layN_eq (bs : List UInt8) (o v : Nat) : layN bs o v = lyN bs o v := by
  unfold layN lay lyN
  rw [lowB_length]

section
variable (w : World)
set_option maxHeartbeats 400000 in
theorem rnum_any (A : Option Addr) (c B : Nat) (bs : List UInt8) (h : Rd w B A bs.length bs) (hlc : bs.length ≤ c) (hl : bs.length ≤ 1000000) (o : Int) (ho : o ≤ 9223372036854775807) (v : Nat) (hv : numO bs o = v) :
    Calls Try.prog 52 #[.slice A bs.length c, .int .i64 o] w fun e w' => e = .returned (.int .u64 (v : Int)) ∧ w = w' := by
  have hw := rword_any w A c B bs h hlc hl o ho
  unfold numO at hv
  cases he : word? bs o with
  | none =>
    rw [he] at hw hv
    obtain rfl : 0 = v := hv
    dsimp only [wordV] at hw
    have HW := Lib.hid hw
    clear hw he h
    go_enter Try.func52, Try.ntmps52
    go_wp2_with fail
    with_reducible refine HW.out.mono ?_
    rintro e w1 ⟨rfl, rfl⟩
    go_wp2
    go_ret
    exact ⟨rfl, rfl⟩
  | some x =>
    rw [he] at hw hv
    obtain rfl : x = v := hv
    dsimp only [wordV] at hw
    have HW := Lib.hid hw
    clear hw he h
    go_enter Try.func52, Try.ntmps52
    go_wp2_with fail
    with_reducible refine HW.out.mono ?_
    rintro e w1 ⟨rfl, rfl⟩
    go_wp2
    go_ret
    exact ⟨rfl, rfl⟩

theorem numO_at (bs : List UInt8) (o : Nat) (h : o + 8 ≤ bs.length) : numO bs (o : Int) = wordN bs o := by
  unfold numO word?
  rw [if_pos (by omega)]
  rfl
theorem div_pow_succ (v k q : Nat) (h : v / 2 ^ k = q) : Value.int .u64 ((q : Int) / 2) = Value.int .u64 ((v / 2 ^ (k + 1) : Nat) : Int) := by
  rw [Nat.pow_succ, ← Nat.div_div_eq_div_mul, h]; simp

set_option maxRecDepth 100000 in
set_option maxHeartbeats 1000000 in
theorem rbit_any (v c : Nat) (hv : v < 18446744073709551616) (hc : c ≤ 1000) (b : Bool) (hb : bitN v c = b) :
    Calls Try.prog 53 #[.int .u64 (v : Int), .int .i64 (c : Int)] w fun e w' => e = .returned (.bool b) ∧ w = w' := by
  have HB := Lib.hid hb
  clear hb
  go_enter Try.func53, Try.ntmps53
  go_wp2
  go_loop [0, 5] (fun q i => ∃ k : Nat, k ≤ c ∧ i = .int .i64 (k : Int) ∧ q = .int .u64 ((v / 2 ^ k : Nat) : Int)) (fun _ i => c - (intOf i).toNat)
  case atStart => exact ⟨0, Nat.zero_le _, rfl, by simp⟩
  case round =>
    obtain ⟨k, hk, rfl, rfl⟩ := hrel
    have hq : v / 2 ^ k < 18446744073709551616 := Nat.lt_of_le_of_lt (Nat.div_le_self _ _) hv
    by_cases hlt : k < c
    · generalize hqq : v / 2 ^ k = q at *
      have HQ := Lib.hid hqq
      clear hqq
      go_wp2
      go_round
      case rel => exact ⟨k + 1, by omega, by go_num, div_pow_succ v k q HQ.out⟩
      case measure => simp [intOf]; omega
    · obtain rfl : k = c := by omega
      have HR : Hid (((((v / 2 ^ k : Nat) : Int) % 2) == 1) = b) := (show _ = _ by
        rw [← HB.out]
        unfold bitN
        rw [Bool.eq_iff_iff, beq_iff_eq, beq_iff_eq]
        omega)
      generalize v / 2 ^ k = q at *
      go_wp2
      go_ret
      exact ⟨rt_b HR.out, rfl⟩

set_option maxRecDepth 100000 in
set_option maxHeartbeats 1000000 in
theorem rone_any (c : Nat) (hc : c < 63) (v : Nat) (hv : 2 ^ c = v) :
    Calls Try.prog 73 #[.int .i64 (c : Int)] w fun e w' => e = .returned (.int .u64 (v : Int)) ∧ w = w' := by
  have HV := Lib.hid hv
  clear hv
  go_enter Try.func73, Try.ntmps73
  go_wp2
  go_loop [3, 4] (fun q i => ∃ k : Nat, k ≤ c ∧ i = .int .i64 (k : Int) ∧ q = .int .u64 ((2 ^ k : Nat) : Int)) (fun _ i => c - (intOf i).toNat)
  case atStart => exact ⟨0, Nat.zero_le _, rfl, rfl⟩
  case round =>
    obtain ⟨k, hk, rfl, rfl⟩ := hrel
    have hq : 2 ^ k ≤ 2 ^ 62 := Nat.pow_le_pow_right (by omega) (by omega)
    have hs : 2 ^ (k + 1) = 2 * 2 ^ k := by rw [Nat.pow_succ, Nat.mul_comm]
    have HS := Lib.hid hs
    clear hs
    by_cases hlt : k < c
    · generalize 2 ^ k = q at *
      have hq' : q ≤ 4611686018427387904 := hq
      clear hq
      go_wp2
      go_round
      case rel => exact ⟨k + 1, by omega, by go_num, by rw [HS.out]; go_num⟩
      case measure => simp [intOf]; omega
    · obtain rfl : k = c := by omega
      have HR : Hid (((2 ^ k : Nat) : Int) = (v : Int)) := (show _ = _ by rw [HV.out])
      generalize 2 ^ k = q at *
      clear hq
      go_wp2
      go_ret
      exact ⟨rt_i HR.out, rfl⟩

set_option maxRecDepth 100000 in
set_option maxHeartbeats 1000000 in
theorem rfree_any (A : Option Addr) (c B : Nat) (bs : List UInt8) (hr : Rd w B A bs.length bs) (hlc : bs.length ≤ c) (hl : bs.length ≤ 1000000) (o : Int) (ho : -9223372036854775808 ≤ o ∧ o ≤ 9223372036854775807) (k : Int) (hk : freeI bs o = k) :
    Calls Try.prog 62 #[.slice A bs.length c, .int .i64 o] w fun e w' => e = .returned (.int .i64 k) ∧ Below w.heap.size w w' := by
  cases hg : getB bs o with
  | none =>
    have hG := rgetB_any w A c B bs hr hlc hl o ho _ hg
    dsimp only [bkV, Option.isSome] at hG
    obtain rfl : -1 = k := by rw [← hk]; unfold freeI; rw [hg]
    have HG := Lib.hid hG
    clear hG hr hk hg
    go_enter Try.func62, Try.ntmps62
    go_wp2_with fail
    with_reducible refine HG.out.mono ?_
    rintro e w1 ⟨rfl, hb⟩
    go_wp2
    go_ret
    exact ⟨rfl, hb.alloc hb.size _⟩
  | some x =>
    obtain ⟨xo, xs, xu⟩ := x
    have hG := rgetB_any w A c B bs hr hlc hl o ho _ hg
    dsimp only [bkV, Bk.val, Option.isSome] at hG
    have q := (isSz_iff _).1 (getB_some hg).2.2.2.2.1
    dsimp only at q
    cases xu with
    | true =>
      obtain rfl : -1 = k := by rw [← hk]; unfold freeI; rw [hg]; rfl
      have HG := Lib.hid hG
      clear hG hr hk hg
      go_enter Try.func62, Try.ntmps62
      go_wp2_with fail
      with_reducible refine HG.out.mono ?_
      rintro e w1 ⟨rfl, hb⟩
      go_wp2
      go_ret
      exact ⟨rfl, hb.alloc hb.size _⟩
    | false =>
      have hk' : classI (xs : Int) = k := by rw [← hk]; unfold freeI; rw [hg]; rfl
      have HC := Lib.hid (fun w => rclass_any w (xs : Int) (by omega) k hk')
      have HG := Lib.hid hG
      clear hG hr hk hg hk'
      go_enter Try.func62, Try.ntmps62
      go_wp2_with fail
      with_reducible refine HG.out.mono ?_
      rintro e w1 ⟨rfl, hb⟩
      go_wp2_with fail
      with_reducible refine (HC.out _).mono ?_
      rintro e w2 ⟨rfl, rfl⟩
      go_wp2
      go_ret
      exact ⟨rfl, hb.alloc hb.size _⟩

set_option maxRecDepth 100000 in
set_option maxHeartbeats 1000000 in
theorem rmember_any (A : Option Addr) (c B : Nat) (bs : List UInt8) (hr : Rd w B A bs.length bs) (hlc : bs.length ≤ c) (hl : bs.length ≤ 1000000) (p : Nat) (hp : p < 18446744073709551616) (k : Int) (b : Bool) (hb : memberB bs p k = b) :
    Calls Try.prog 54 #[.slice A bs.length c, .int .u64 (p : Int), .int .i64 k] w fun e w' => e = .returned (.bool b) ∧ Below w.heap.size w w' := by
  by_cases h0 : 20000 < p
  · obtain rfl : false = b := by rw [← hb]; unfold memberB; rw [decide_eq_false (by omega)]; rfl
    clear hr hb
    go_enter Try.func54, Try.ntmps54
    go_wp2
    go_ret
    exact ⟨rfl, Below.refl _ _⟩
  · have hb' : (match getB bs (p : Int) with
      | some x => !x.used && classI x.size == k
      | none => false) = b := by rw [← hb]; unfold memberB; rw [decide_eq_true (by omega), Bool.true_and]; cases getB bs (p : Int) <;> rfl
    cases hg : getB bs (p : Int) with
    | none =>
      have hG := rgetB_any w A c B bs hr hlc hl (p : Int) (by omega) _ hg
      dsimp only [bkV, Option.isSome] at hG
      rw [hg] at hb'
      obtain rfl : false = b := hb'
      have HG := Lib.hid hG
      clear hG hr hb hg
      go_enter Try.func54, Try.ntmps54
      go_wp2_with fail
      with_reducible refine HG.out.mono ?_
      rintro e w1 ⟨rfl, hb⟩
      go_wp2
      go_ret
      exact ⟨rfl, hb.alloc hb.size _⟩
    | some x =>
      obtain ⟨xo, xs, xu⟩ := x
      have hG := rgetB_any w A c B bs hr hlc hl (p : Int) (by omega) _ hg
      dsimp only [bkV, Bk.val, Option.isSome] at hG
      have q := (isSz_iff _).1 (getB_some hg).2.2.2.2.1
      dsimp only at q
      rw [hg] at hb'
      cases xu with
      | true =>
        obtain rfl : false = b := hb'
        have HG := Lib.hid hG
        clear hG hr hb hg
        go_enter Try.func54, Try.ntmps54
        go_wp2_with fail
        with_reducible refine HG.out.mono ?_
        rintro e w1 ⟨rfl, hb⟩
        go_wp2
        go_ret
        exact ⟨rfl, hb.alloc hb.size _⟩
      | false =>
        obtain ⟨d, hd⟩ : ∃ d, classI (xs : Int) = d := ⟨_, rfl⟩
        have hb2 : (d == k) = b := by rw [← hd]; simpa using hb'
        have HC := Lib.hid (fun w => rclass_any w (xs : Int) (by omega) d hd)
        have HG := Lib.hid hG
        have HBB := Lib.hid hb2
        clear hG hr hb hb' hg hd hb2
        go_enter Try.func54, Try.ntmps54
        go_wp2_with fail
        with_reducible refine HG.out.mono ?_
        rintro e w1 ⟨rfl, hb⟩
        go_wp2_with fail
        with_reducible refine (HC.out _).mono ?_
        rintro e w2 ⟨rfl, rfl⟩
        go_wp2
        go_ret
        exact ⟨rt_b HBB.out, hb.alloc hb.size _⟩
end
end Go.Proofs.Ytjokbjmfnidmjaa
