/- The program's blocks of an image. -/
import Derived.Test.YtlhahibdddcpfaaImg9
import Derived.Test.YtlhahibdddcpfaaTag1
namespace Go.Proofs.Ytlhahibdddcpfaa
open Go.RowKit

/-- What a row of cells tells of blocks. -/
def RkC (cs : Array Value) (l : List Rk) : Prop := ∀ j x, l[j]? = some x → cs[j * 3]? = some (.int .i64 x.o) ∧ cs[j * 3 + 1]? = some (.int .i64 x.s) ∧ cs[j * 3 + 2]? = some (.bool x.u) ∧
  (-9223372036854775808 ≤ x.o ∧ x.o ≤ 9223372036854775807) ∧ (-9223372036854775808 ≤ x.s ∧ x.s ≤ 9223372036854775807)
theorem RkC.rd {w : World} {g : Nat} {cs : Array Value} {t : TypeId} {l : List Rk} (h : RkC cs l) (hg : w.heap[g]? = some (.cells cs t (0, 0))) : RkRd w w.heap.size (some ⟨g, 0, none⟩) l := fun _ => by
  refine ⟨g, 0, rfl, heap_lt1 hg, fun j x hx => ?_⟩
  obtain ⟨h0, h1, h2, h3⟩ := h j x hx
  simp only [Nat.zero_add]
  exact ⟨(cell_of_row _ _ _ _ _ _ hg).trans h0, (cell_of_row _ _ _ _ _ _ hg).trans h1, (cell_of_row _ _ _ _ _ _ hg).trans h2, h3⟩
theorem RkC.snoc {cs : Array Value} {l : List Rk} {k : Nat} (h : RkC cs l) (hs : cs.size = 3 * k) (hl : l.length < k) (o s : Int) (u : Bool) (ho : -9223372036854775808 ≤ o ∧ o ≤ 9223372036854775807) (hsb : -9223372036854775808 ≤ s ∧ s ≤ 9223372036854775807) :
    RkC (((cs.setIfInBounds (l.length * 3) (.int .i64 o)).setIfInBounds (l.length * 3 + 1) (.int .i64 s)).setIfInBounds (l.length * 3 + 2) (.bool u)) (l ++ [⟨o, s, u⟩]) := by
  intro j x hx
  by_cases hj : j < l.length
  · rw [List.getElem?_append_left hj] at hx
    obtain ⟨h0, h1, h2, h3⟩ := h j x hx
    simp only [Array.getElem?_setIfInBounds]
    rw [if_neg (by omega), if_neg (by omega), if_neg (by omega), if_neg (by omega), if_neg (by omega), if_neg (by omega), if_neg (by omega), if_neg (by omega), if_neg (by omega)]
    exact ⟨h0, h1, h2, h3⟩
  · rw [List.getElem?_append_right (by omega)] at hx
    have e : j = l.length := by
      have := (List.getElem?_eq_some_iff.1 hx).1
      simp at this
      omega
    subst e
    simp at hx
    subst hx
    simp only [Array.getElem?_setIfInBounds]
    simp [hs]
    refine ⟨?_, ?_, ?_, ho, hsb⟩ <;> omega
theorem mk_blkN (W : World) (k : Nat) (hk : k ≤ 1024) : ∃ cs, cs.size = 3 * k ∧ (Instr.makeSlice 22 (.int .i64 (k : Int)) (.int .i64 (k : Int))).run Try.prog W = .ok (.slice (some ⟨W.heap.size, 0, none⟩) k k) (W.alloc (.cells cs 50)) := by
  obtain ⟨i0, hi, hz0, hz1, hz2⟩ := info_parts bk_inf8
  have h := run_makeSlice (P := Try.prog) W 22 50 i0 _ Try.underlying22 hi hz0 .i64 .i64 k k (by omega) (by omega) (by rw [hz1]; omega) (by rw [hz2]; omega) (by omega)
  refine ⟨_, ?_, h⟩
  rw [size_madeCells, hz1]
  omega
end Go.Proofs.Ytlhahibdddcpfaa
