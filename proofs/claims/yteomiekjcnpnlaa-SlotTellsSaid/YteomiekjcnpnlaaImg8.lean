/- The program's images: a sum behind its bytes; the head; Get of the document's example, and of nothing. -/
import Derived.Test.YteomiekjcnpnlaaImg3
import Derived.Test.YteomiekjcnpnlaaW4
import Derived.Test.YteomiekjcnpnlaaSums
import Derived.Test.YteomiekjcnpnlaaConv
namespace Go.Proofs.Yteomiekjcnpnlaa
open Go.RowKit

theorem markStr : strB imMarkB = ⟨#[67, 78, 84, 76, 1, 0, 0, 0]⟩ := by rfl
theorem im_set {y0 y1 y2 : Value} {w : World} {g : Nat} {t : TypeId} (h : w.heap[g]? = some (.cells #[y0, y1, y2] t (0, 0))) (x0 x1 x2 : Value) :
    (((w.setCell ⟨g, 0, none⟩ x0).setCell ⟨g, 1, none⟩ x1).setCell ⟨g, 2, none⟩ x2).heap[g]? = some (.cells #[x0, x1, x2] t (0, 0)) := by
  have h1 := heap_setCell_same w g 0 _ _ x0 h
  have h2 := heap_setCell_same _ g 1 _ _ x1 h1
  have h3 := heap_setCell_same _ g 2 _ _ x2 h2
  rw [h3]
  rfl
theorem im_thaw {w : World} {g : Nat} {cs : Array Value} {t : TypeId} (h : w.heap[g]? = some (.cells cs t (0, 0))) : w.frozen? ⟨g, 0, none⟩ = false ∧ w.frozen? ⟨g, 1, none⟩ = false ∧ w.frozen? ⟨g, 2, none⟩ = false :=
  ⟨frozen_of_row w g 0 _ _ h, frozen_of_row w g 1 _ _ h, frozen_of_row w g 2 _ _ h⟩
/-- The document's example: no blocks. -/
def b40 : List UInt8 := imPutB 184 [] []
theorem b40_len : b40.length = 40 := by kernel_rfl
theorem b40_mark : b40.take 8 = imMarkB := by kernel_rfl
theorem b40_s1 : (numB ((b40.drop 24).take 4) == moreN 0 ((b40.drop 0).take (24 - 0))) = true := by kernel_rfl
theorem b40_n : numB ((b40.drop 8).take 8) = 184 := by kernel_rfl
theorem b40_k : numB ((b40.drop 16).take 8) = 0 := by kernel_rfl
theorem b40_s2 : (numB ((b40.drop 28).take 4) == moreN 0 ((b40.drop 28).take (28 - 28))) = true := by kernel_rfl
theorem b40_s3 : (numB ((b40.drop 32).take 4) == moreN 0 ((b40.drop 32).take (32 - 32))) = true := by kernel_rfl
theorem b40_s4 : (numB ((b40.drop 36).take 4) == moreN 0 ((b40.drop 0).take (36 - 0))) = true := by kernel_rfl
end Go.Proofs.Yteomiekjcnpnlaa
