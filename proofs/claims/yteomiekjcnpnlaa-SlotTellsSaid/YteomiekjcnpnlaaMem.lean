/- Words for a slice of bytes in memory: what it reads as, nil let in, and what keeps it. No program in sight. -/
import Derived.Test.YteomiekjcnpnlaaMath
import Derived.WalkKit
import Derived.Below
import Derived.Laws.OwnMore
import Derived.Laws.BytesArg
import Derived.Deep.Draws
import Derived.Lib.Hide
import Derived.Laws.Rows
import Derived.Deep.OwnRows
namespace Go.Proofs.Yteomiekjcnpnlaa
open Go.RowKit

/-- The slice at A of n bytes holds bs, and lies below block B. -/
def Rd (w : World) (B : Nat) (A : Option Addr) (n : Nat) (bs : List UInt8) : Prop :=
  bs.length = n ∧ (0 < n → ∃ b off, A = some ⟨b, off, none⟩ ∧ b < B ∧ ∀ j u, bs[j]? = some u → w.cell? ⟨b, off + j, none⟩ = some (.int .u8 (u.toNat : Int)))

section
variable {w w' : World} {B B' n : Nat} {A : Option Addr} {bs : List UInt8}
theorem Rd.nil_ : Rd w B A 0 [] := ⟨rfl, fun h => absurd h (by omega)⟩
theorem Rd.keep (h : Rd w B A n bs) (hk : ∀ p : Addr, p.block < B → w'.cell? p = w.cell? p) : Rd w' B A n bs :=
  ⟨h.1, fun hn => by
    obtain ⟨b, off, e, hb, hc⟩ := h.2 hn
    exact ⟨b, off, e, hb, fun j u hu => (hk ⟨b, off + j, none⟩ hb).trans (hc j u hu)⟩⟩
theorem Rd.more (h : Rd w B A n bs) (hB : B ≤ B') : Rd w B' A n bs :=
  ⟨h.1, fun hn => by
    obtain ⟨b, off, e, hb, hc⟩ := h.2 hn
    exact ⟨b, off, e, by omega, hc⟩⟩
theorem Rd.below (h : Rd w B A n bs) (hb : Below B w w') : Rd w' B A n bs := h.keep fun _ hp => hb.cell hp
theorem Rd.drew (h : Rd w B A n bs) : Rd w.drew B A n bs := h
theorem Rd.drewN (h : Rd w B A n bs) (k : Nat) : Rd (w.drewN k) B A n bs := h
theorem Rd.at_ {k : Nat} (h : Rd w B A n bs) (hk : k < n) :
    ∃ b off, A = some ⟨b, off, none⟩ ∧ b < B ∧ ∃ hl : k < bs.length, w.cell? ⟨b, off + k, none⟩ = some (.int .u8 ((bs[k]'hl).toNat : Int)) := by
  obtain ⟨b, off, e, hb, hc⟩ := h.2 (by omega)
  have hl : k < bs.length := by have := h.1; omega
  exact ⟨b, off, e, hb, hl, hc k _ (List.getElem?_eq_getElem hl)⟩
end

/-- A byte as a cell's value; bytes as a row of cells. -/
def bv (u : UInt8) : Value := .int .u8 (u.toNat : Int)
def rowB (bs : List UInt8) : Array Value := (bs.map bv).toArray

theorem rowB_get (bs : List UInt8) (i : Nat) : (rowB bs)[i]? = (bs[i]?).map bv := by
  simp [rowB]
theorem rowB_size (bs : List UInt8) : (rowB bs).size = bs.length := by simp [rowB]
theorem rowB_set (bs : List UInt8) (i : Nat) (u : UInt8) : (rowB bs).setIfInBounds i (bv u) = rowB (bs.set i u) := by
  simp [rowB, List.map_set]
theorem rowB_zeros (n : Nat) : madeCells #[Value.int .u8 0] n = rowB (List.replicate n 0) := by
  apply Array.ext
  · simp [madeCells, rowB]
  · intro i h1 h2
    simp [madeCells, rowB, bv, Nat.mod_one]

/-- Block g is just the bytes bs, none frozen. -/
def Fill (w : World) (g : Nat) (t : TypeId) (bs : List UInt8) : Prop := w.heap[g]? = some (.cells (rowB bs) t (0, 0))

section
variable {w w' : World} {g : Nat} {t : TypeId} {bs : List UInt8}
theorem Fill.lt (h : Fill w g t bs) : g < w.heap.size := by
  unfold Fill at h
  rcases Nat.lt_or_ge g w.heap.size with h1 | h1
  · exact h1
  · rw [Array.getElem?_eq_none h1] at h; cases h
theorem Fill.cell (h : Fill w g t bs) (i : Nat) : w.cell? ⟨g, i, none⟩ = (bs[i]?).map bv := by
  rw [cell_of_row w g i _ t (0, 0) h, rowB_get]
theorem Fill.thaw (h : Fill w g t bs) (i : Nat) : w.frozen? ⟨g, i, none⟩ = false := by
  unfold Fill at h
  simp [World.frozen?, h]
theorem Fill.made (w : World) (t : TypeId) (bs : List UInt8) : Fill (w.alloc (.cells (rowB bs) t)) w.heap.size t bs := heap_alloc_new w _
theorem Fill.put (h : Fill w g t bs) (i : Nat) (u : UInt8) : Fill (w.setCell ⟨g, i, none⟩ (bv u)) g t (bs.set i u) := by
  unfold Fill at h ⊢
  simp only [World.setCell, Array.getElem?_modify, h]
  simp [rowB_set]
theorem Fill.below {B : Nat} (h : Fill w g t bs) (hb : Below B w w') (hg : g < B) : Fill w' g t bs := (hb.block g hg).trans h
theorem Fill.reads (h : Fill w g t bs) : Rd w w.heap.size (some ⟨g, 0, none⟩) bs.length bs :=
  ⟨rfl, fun _ => ⟨g, 0, rfl, h.lt, fun j u hu => by rw [Nat.zero_add, h.cell, hu]; rfl⟩⟩
end

end Go.Proofs.Yteomiekjcnpnlaa
