/- The contracts of the document's own blocks: Word, Could, Get. -/
import Derived.Test.YtodbakpjibcmiaaBlkM
import Derived.Test.YtodbakpjibcmiaaRef1
import Derived.Laws.ResultCell
namespace Go.Proofs.Ytodbakpjibcmiaa
open Go.RowKit

/-- A block's value; what Get tells. -/
def Bk.val (x : Bk) : Value := .agg #[.int .i64 (x.off : Int), .int .i64 (x.size : Int), .bool x.used]
def bkV (o : Option Bk) : Value := match o with
  | some x => x.val
  | none => .agg #[.int .i64 0, .int .i64 0, .bool false]
def wordV (o : Option Nat) : Value := match o with
  | some v => .tuple #[.int .u64 (v : Int), .bool true]
  | none => .tuple #[.int .u64 0, .bool false]

theorem blk_set {w : World} {g : Nat} {t : TypeId} {a b c : Value} (h : w.heap[g]? = some (.cells #[a, b, c] t (0, 0))) (x y z : Value) :
    (((w.setCell ⟨g, 0, none⟩ x).setCell ⟨g, 1, none⟩ y).setCell ⟨g, 2, none⟩ z).heap[g]? = some (.cells #[x, y, z] t (0, 0)) := by
  have h1 := heap_setCell_same w g 0 _ _ x h
  have h2 := heap_setCell_same (w.setCell ⟨g, 0, none⟩ x) g 1 _ _ y h1
  have h3 := heap_setCell_same ((w.setCell ⟨g, 0, none⟩ x).setCell ⟨g, 1, none⟩ y) g 2 _ _ z h2
  rw [h3]
  rfl
theorem blk_cells {w : World} {g : Nat} {t : TypeId} {a b c : Value} (h : w.heap[g]? = some (.cells #[a, b, c] t (0, 0))) : (w.cell? ⟨g, 0, none⟩ = some a ∧ w.cell? ⟨g, 1, none⟩ = some b ∧ w.cell? ⟨g, 2, none⟩ = some c) ∧ (w.frozen? ⟨g, 0, none⟩ = false ∧ w.frozen? ⟨g, 1, none⟩ = false ∧ w.frozen? ⟨g, 2, none⟩ = false) := by
  refine ⟨⟨?_, ?_, ?_⟩, frozen_of_row w g 0 _ _ h, frozen_of_row w g 1 _ _ h, frozen_of_row w g 2 _ _ h⟩
  · rw [cell_of_row w g 0 _ _ (0, 0) h]; rfl
  · rw [cell_of_row w g 1 _ _ (0, 0) h]; rfl
  · rw [cell_of_row w g 2 _ _ (0, 0) h]; rfl
theorem blk_ret {fn : Func} {R : Ending → World → Prop} {a : Act} {w : World} {p u : Tmp} {g : Nat} {o s : Int} {b : Bool} {x : Value} (hres : fn.results = #[.cell p 25, .tmp u]) (hp : a.tmps.getD p undef = .pointer (some ⟨g, 0, none⟩)) (hx : a.tmps.getD u undef = x) (hd : a.defers = [])
    (hg : w.heap[g]? = some (.cells #[.int .i64 o, .int .i64 s, .bool b] 25 (0, 0))) (hR : R (.returned (.tuple #[.agg #[.int .i64 o, .int .i64 s, .bool b], x])) w) : bodyPost Try.prog fn R .ret a w := by
  have c0 := cell_of_row w g 0 _ _ (0, 0) hg
  have c1 := cell_of_row w g 1 _ _ (0, 0) hg
  have c2 := cell_of_row w g 2 _ _ (0, 0) hg
  simp only [List.getElem?_toArray, List.getElem?_cons_zero, List.getElem?_cons_succ] at c0 c1 c2
  refine bodyPost_ret (v := .tuple #[.agg #[.int .i64 o, .int .i64 s, .bool b], x]) ?_ hd hR
  rw [results_cell_tmp hres, hp, hx]
  simp [go_sem, c0, c1, c2]

theorem Rd.alloc' {w : World} {B n : Nat} {A : Option Addr} {bs : List UInt8} (h : Rd w B A n bs) (o : Obj) : Rd (w.alloc o) B A n bs := by
  refine ⟨h.1, fun hn => ?_⟩
  obtain ⟨b, off, e, hb, hc⟩ := h.2 hn
  refine ⟨b, off, e, hb, fun j u hu => ?_⟩
  have h1 := hc j u hu
  rw [← h1]
  exact (World.cell?_of_block (a := ⟨b, off + j, none⟩) (((Below.refl _ _).alloc (Nat.le_refl _) o).block b (cell_lt' h1)))
where cell_lt' {w : World} {a : Addr} {v : Value} (h : w.cell? a = some v) : a.block < w.heap.size := by
        unfold World.cell? at h
        rcases Nat.lt_or_ge a.block w.heap.size with h1 | h1
        · exact h1
        · rw [Array.getElem?_eq_none h1] at h; simp at h

section
variable (w : World)
set_option maxHeartbeats 400000 in
theorem rword_any (A : Option Addr) (c B : Nat) (bs : List UInt8) (h : Rd w B A bs.length bs) (hlc : bs.length ≤ c) (hl : bs.length ≤ 1000000) (o : Int) (ho : o ≤ 9223372036854775807) :
    Calls Try.prog 28 #[.slice A bs.length c, .int .i64 o] w fun e w' => e = .returned (wordV (word? bs o)) ∧ w = w' := by
  by_cases h0 : o < 0
  · have e : word? bs o = none := by unfold word?; rw [if_neg (by omega)]
    rw [e]
    clear e
    go_enter Try.func28, Try.ntmps28
    go_wp2
    go_ret2
    exact ⟨rfl, rfl⟩
  · obtain ⟨p, rfl⟩ : ∃ p : Nat, o = (p : Int) := ⟨o.toNat, by omega⟩
    by_cases h1 : bs.length < p
    · have e : word? bs (p : Int) = none := by unfold word?; rw [if_neg (by omega)]
      rw [e]
      clear e
      go_enter Try.func28, Try.ntmps28
      go_wp2
      go_ret2
      exact ⟨rfl, rfl⟩
    · by_cases h2 : p + 8 ≤ bs.length
      · have e : word? bs (p : Int) = some (wordN bs p) := by unfold word?; rw [if_pos (by omega)]; rfl
        rw [e]
        have HG := Lib.hid (rget_yes A bs.length c B bs p 8 w h hlc hl (by omega) (by omega) h2)
        clear e h
        go_enter Try.func28, Try.ntmps28
        go_wp2_with fail
        refine HG.out.mono ?_
        rintro e w' ⟨rfl, rfl⟩
        go_wp2
        go_ret2
        exact ⟨rfl, rfl⟩
      · have e : word? bs (p : Int) = none := by unfold word?; rw [if_neg (by omega)]
        rw [e]
        have HG := Lib.hid (rget_no A bs.length c p 8 w hl (by omega) (by omega))
        clear e h
        go_enter Try.func28, Try.ntmps28
        go_wp2_with fail
        refine HG.out.mono ?_
        rintro e w' ⟨rfl, rfl⟩
        go_wp2
        go_ret2
        exact ⟨rfl, rfl⟩

set_option maxHeartbeats 400000 in
theorem rcould_any (A : Option Addr) (n c : Nat) (hl : n ≤ 1000000) (o s : Int) (ho : -9223372036854775808 ≤ o ∧ o ≤ 9223372036854775807) (b : Bool) (hb : could n o s = b) :
    Calls Try.prog 27 #[.slice A n c, .int .i64 o, .int .i64 s] w fun e w' => e = .returned (.bool b) ∧ w = w' := by
  by_cases h1 : 184 ≤ o
  · by_cases h2 : o % 16 = 8
    · have s2 : (o % 16 == 8) = true := by rw [beq_iff_eq]; exact h2
      by_cases h3 : o ≤ (n : Int)
      · have e : decide (s ≤ (n : Int) - o) = b := by rw [← hb]; simp [could, h1, h2, h3]
        have HE := Lib.hid e
        clear hb e h2
        go_enter Try.func27, Try.ntmps27
        go_wp2
        go_ret
        exact ⟨rt_b HE.out, rfl⟩
      · obtain rfl : false = b := by rw [← hb]; simp [could, h3]
        clear hb h2
        go_enter Try.func27, Try.ntmps27
        go_wp2
        go_ret
        exact ⟨rfl, rfl⟩
    · have s2 : (o % 16 == 8) = false := by rw [beq_eq_false_iff_ne]; exact h2
      obtain rfl : false = b := by rw [← hb]; simp [could, h2]
      clear hb h2
      go_enter Try.func27, Try.ntmps27
      go_wp2
      go_ret
      exact ⟨rfl, rfl⟩
  · obtain rfl : false = b := by rw [← hb]; simp [could, h1]
    clear hb
    go_enter Try.func27, Try.ntmps27
    go_wp2
    go_ret
    exact ⟨rfl, rfl⟩
end
end Go.Proofs.Ytodbakpjibcmiaa
