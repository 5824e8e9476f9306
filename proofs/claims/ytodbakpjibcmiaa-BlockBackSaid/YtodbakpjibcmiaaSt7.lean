/- How a world stands in the walks of the laws of layers 7 to 11: an arena of the law's own, blocks behind a bound, what was there below it. -/
import Derived.Test.YtodbakpjibcmiaaSpec7
namespace Go.Proofs.Ytodbakpjibcmiaa
open Go.RowKit

/-- Since wB nothing below has changed; an arena lies above; these objects, too. -/
structure St (wB W : World) (g base cap : Nat) (A : Option Addr) (c : Nat) (bs : List UInt8) (L : List (Nat × Obj)) : Prop where
  bel : Below wB.heap.size wB W
  ar : Ar W 73 g base cap A c bs
  gB : wB.heap.size ≤ g
  aB : ∀ a, A = some a → wB.heap.size ≤ a.block
  has : ∀ p ∈ L, W.heap[p.1]? = some p.2

section
variable {wB W W' : World} {g base cap c : Nat} {A : Option Addr} {bs : List UInt8} {L : List (Nat × Obj)}
theorem St.size (h : St wB W g base cap A c bs L) : wB.heap.size ≤ W.heap.size := h.bel.size
theorem St.below (h : St wB W g base cap A c bs L) (hb : Below W.heap.size W W') : St wB W' g base cap A c bs L :=
  ⟨h.bel.trans (hb.mono h.size), h.ar.below hb, h.gB, h.aB, fun p hp => (hb.block p.1 (heap_lt (h.has p hp))).trans (h.has p hp)⟩
theorem St.alloc (h : St wB W g base cap A c bs L) (o : Obj) : St wB (W.alloc o) g base cap A c bs ((W.heap.size, o) :: L) := by
  have hb : Below W.heap.size W (W.alloc o) := (Below.refl _ _).alloc (Nat.le_refl _) o
  have h' := h.below hb
  refine ⟨h'.bel, h'.ar, h'.gB, h'.aB, fun p hp => ?_⟩
  rcases List.mem_cons.1 hp with rfl | hp
  · exact heap_alloc_new W o
  · exact h'.has p hp
theorem St.drewN (h : St wB W g base cap A c bs L) (k : Nat) : St wB (W.drewN k) g base cap A c bs L :=
  ⟨⟨h.bel.os, h.bel.tape, h.bel.output, h.bel.size, h.bel.block⟩, h.ar.drewN k, h.gB, h.aB, h.has⟩
theorem St.became {out : List UInt8} (h : St wB W g base cap A c bs L) (hb : Became 73 g base cap A out W W') : ∃ A' c', St wB W' g base cap A' c' out [] := by
  obtain ⟨A', c', har, hbl, hA⟩ := hb.below (B := wB.heap.size) h.gB h.aB h.size
  exact ⟨A', c', h.bel.trans hbl, har, h.gB, hA, fun p hp => by cases hp⟩
theorem St.made {w : World} {e : Ending} {w' : World} (h : MadeAr base cap bs w e w') : ∃ g A c, e = .returned (.pointer (some ⟨g, 0, none⟩)) ∧ St w w' g base cap A c bs [] := by
  obtain ⟨g, A, c, he, har, hb, hg, hA⟩ := h
  exact ⟨g, A, c, he, hb, har, hg, hA, fun p hp => by cases hp⟩
theorem St.rd (h : St wB W g base cap A c bs L) {n : Nat} {A' : Option Addr} {cs : List UInt8} (r : Rd wB wB.heap.size A' n cs) : Rd W W.heap.size A' n cs := (r.below h.bel).more h.size
theorem St.obj (h : St wB W g base cap A c bs L) {p : Nat} {o : Obj} (hp : (p, o) ∈ L) : W.heap[p]? = some o := h.has (p, o) hp
end
/-- A block's value, whatever it is. -/
theorem bkV_is (x : Option Bk) : ∃ (a b : Int) (u : Bool), bkV x = .agg #[.int .i64 a, .int .i64 b, .bool u] := by
  cases x with
  | none => exact ⟨0, 0, false, rfl⟩
  | some x => exact ⟨_, _, _, rfl⟩
theorem up7_ {w : World} {a b : Int} {u : Bool} {t : TypeId} {g : Nat} (h : w.heap[g]? = some (.cells #[.int .i64 a, .int .i64 b, .bool u] t (0, 0))) : w.cell? ⟨g, 0, none⟩ = some (.int .i64 a) ∧ w.cell? ⟨g, 1, none⟩ = some (.int .i64 b) ∧ w.cell? ⟨g, 2, none⟩ = some (.bool u) := (blk_cells h).1

end Go.Proofs.Ytodbakpjibcmiaa
