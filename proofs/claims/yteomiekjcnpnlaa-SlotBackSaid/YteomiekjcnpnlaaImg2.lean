/- The program's images: May (layer 15). -/
import Derived.Test.YteomiekjcnpnlaaImg1
import Derived.Test.YteomiekjcnpnlaaNum
import Derived.Test.YteomiekjcnpnlaaTail
import Derived.Deep.QuietTactic
import Derived.BigQuiet
namespace Go.Proofs.Yteomiekjcnpnlaa
open Go.RowKit

theorem rk_cells {w : World} {x0 x1 x2 : Value} {g : Nat} {t : TypeId} (h : w.heap[g]? = some (.cells #[x0, x1, x2] t (0, 0))) :
    w.cell? ⟨g, 0, none⟩ = some x0 ∧ w.cell? ⟨g, 1, none⟩ = some x1 ∧ w.cell? ⟨g, 2, none⟩ = some x2 := by
  refine ⟨?_, ?_, ?_⟩
  · rw [cell_of_row w g 0 _ _ (0, 0) h]; rfl
  · rw [cell_of_row w g 1 _ _ (0, 0) h]; rfl
  · rw [cell_of_row w g 2 _ _ (0, 0) h]; rfl
theorem heap_lt1 {w : World} {g : Nat} {cs : Array Value} {t : TypeId} (h : w.heap[g]? = some (.cells cs t (0, 0))) : g < w.heap.size := by
  rcases Nat.lt_or_ge g w.heap.size with h' | h'
  · exact h'
  · rw [Array.getElem?_eq_none h'] at h; cases h
/-- Len, as a number of 64 bits. -/
def u64N (n : Int) : Nat := (n % 18446744073709551616).toNat
theorem lenOk_u64 (n : Int) (hn : -9223372036854775808 ≤ n ∧ n ≤ 9223372036854775807) : lenOk ((u64N n : Nat) : Int) = lenOk n := by
  unfold u64N
  rcases Int.lt_or_le n 0 with h | h
  · have e1 : lenOk n = false := (lenOk_false n).2 (by omega)
    rw [e1]
    exact (lenOk_false _).2 (by omega)
  · rw [Int.emod_eq_of_lt h (by omega), Int.toNat_of_nonneg h]
theorem datOk_nil {l : List Rk} (h : ∀ x ∈ l, x.u = false) : datOk l [] = true := by
  induction l with
  | nil => rfl
  | cons x r ih =>
    unfold datOk
    rw [if_neg (by rw [h x List.mem_cons_self]; decide)]
    exact ih fun y hy => h y (List.mem_cons_of_mem _ hy)
end Go.Proofs.Yteomiekjcnpnlaa
