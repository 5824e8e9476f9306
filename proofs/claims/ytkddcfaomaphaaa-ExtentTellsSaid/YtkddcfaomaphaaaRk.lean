/- Words for the document's own disk in memory, and its contracts: Cut, Flush, Boot. -/
import Derived.Test.YtkddcfaomaphaaaDisk6
namespace Go.Proofs.Ytkddcfaomaphaaa
open Go.RowKit

/-- A sector's cell. -/
def Wr.one (x : Wr) : Value := .slice (some ⟨x.b, 0, none⟩) 512 x.c

/-- At block g lies the document's disk: ls stands, ws waits; all its blocks are of S. -/
structure Rk (S : Nat → Prop) (w : World) (g : Nat) (L : Option Addr) (cl : Nat) (W : Option Addr) (cw : Nat) (ls ws : List Wr) (left : Int) (off : Bool) : Prop where
  obj : w.heap[g]? = some (.cells #[.slice L ls.length cl, .slice W ws.length cw, .bool off, .int .i64 left] 43 (0, 0))
  lrow : w.ownsRow 0 22 1 (.slice L ls.length cl) ls.length (ls.map Wr.one)
  wrow : w.ownsRow 0 64 2 (.slice W ws.length cw) ws.length (flat ws)
  lf : ∀ x ∈ ls, x.d.length = 512 ∧ Fil w x.b x.d
  wf : ∀ x ∈ ws, x.s < ls.length ∧ x.d.length = 512 ∧ Fil w x.b x.d
  sg : S g
  sl : ∀ a, L = some a → S a.block
  sw : ∀ a, W = some a → S a.block
  sx : ∀ x ∈ ls, S x.b
  sy : ∀ x ∈ ws, S x.b

section
variable {S S' : Nat → Prop} {w w' : World} {g : Nat} {L : Option Addr} {cl : Nat} {W : Option Addr} {cw : Nat} {ls ws : List Wr} {left : Int} {off : Bool}
theorem Rk.c0 (k : Rk S w g L cl W cw ls ws left off) : w.cell? ⟨g, 0, none⟩ = some (.slice L ls.length cl) := by rw [cell_of_row w g 0 _ _ (0, 0) k.obj]; rfl
theorem Rk.c1 (k : Rk S w g L cl W cw ls ws left off) : w.cell? ⟨g, 1, none⟩ = some (.slice W ws.length cw) := by rw [cell_of_row w g 1 _ _ (0, 0) k.obj]; rfl
theorem Rk.c2 (k : Rk S w g L cl W cw ls ws left off) : w.cell? ⟨g, 2, none⟩ = some (.bool off) := by rw [cell_of_row w g 2 _ _ (0, 0) k.obj]; rfl
theorem Rk.c3 (k : Rk S w g L cl W cw ls ws left off) : w.cell? ⟨g, 3, none⟩ = some (.int .i64 left) := by rw [cell_of_row w g 3 _ _ (0, 0) k.obj]; rfl
theorem Rk.thaw (k : Rk S w g L cl W cw ls ws left off) (i : Nat) : w.frozen? ⟨g, i, none⟩ = false := frozen_of_row w g i _ _ k.obj
theorem Rk.lt (k : Rk S w g L cl W cw ls ws left off) : g < w.heap.size := heap_lt k.obj
theorem Rk.llt (k : Rk S w g L cl W cw ls ws left off) {a : Addr} (e : L = some a) : a.block < w.heap.size := by subst e; exact (k.lrow.lt a.block rfl).2
theorem Rk.wlt (k : Rk S w g L cl W cw ls ws left off) {a : Addr} (e : W = some a) : a.block < w.heap.size := by subst e; exact (k.wrow.lt a.block rfl).2
theorem Rk.lg (k : Rk S w g L cl W cw ls ws left off) {a : Addr} (e : L = some a) : a.block ≠ g ∧ (∀ x ∈ ls, x.b ≠ a.block) ∧ (∀ x ∈ ws, x.b ≠ a.block) ∧ ∀ y, W = some y → y.block ≠ a.block := by
  subst e
  obtain ⟨b, e, cur, hc⟩ := own_type k.lrow
  subst e
  refine ⟨type_ne hc k.obj (by decide), fun x hx => ?_, fun x hx => ?_, fun y ey => ?_⟩
  · obtain ⟨c3, h3, _⟩ := (k.lf x hx).2
    exact type_ne h3 hc (by decide)
  · obtain ⟨c3, h3, _⟩ := (k.wf x hx).2.2
    exact type_ne h3 hc (by decide)
  · subst ey
    obtain ⟨b2, e2, cur2, hc2⟩ := own_type k.wrow
    subst e2
    exact type_ne hc2 hc (by decide)
theorem Rk.wg (k : Rk S w g L cl W cw ls ws left off) {a : Addr} (e : W = some a) : a.block ≠ g ∧ (∀ x ∈ ls, x.b ≠ a.block) ∧ ∀ x ∈ ws, x.b ≠ a.block := by
  subst e
  obtain ⟨b, e, cur, hc⟩ := own_type k.wrow
  subst e
  refine ⟨type_ne hc k.obj (by decide), fun x hx => ?_, fun x hx => ?_⟩
  · obtain ⟨c3, h3, _⟩ := (k.lf x hx).2
    exact type_ne h3 hc (by decide)
  · obtain ⟨c3, h3, _⟩ := (k.wf x hx).2.2
    exact type_ne h3 hc (by decide)
theorem Rk.xg (k : Rk S w g L cl W cw ls ws left off) : (∀ x ∈ ls, x.b ≠ g) ∧ ∀ x ∈ ws, x.b ≠ g := by
  refine ⟨fun x hx => ?_, fun x hx => ?_⟩
  · obtain ⟨c3, h3, _⟩ := (k.lf x hx).2
    exact type_ne h3 k.obj (by decide)
  · obtain ⟨c3, h3, _⟩ := (k.wf x hx).2.2
    exact type_ne h3 k.obj (by decide)

/-- Its blocks. -/
def footR (g : Nat) (L W : Option Addr) (ls ws : List Wr) (k : Nat) : Prop := k = g ∨ (∃ a, L = some a ∧ k = a.block) ∨ (∃ a, W = some a ∧ k = a.block) ∨ (∃ x ∈ ls, k = x.b) ∨ ∃ x ∈ ws, k = x.b
theorem Rk.foot (k : Rk S w g L cl W cw ls ws left off) {j : Nat} (hj : footR g L W ls ws j) : S j ∧ j < w.heap.size := by
  rcases hj with rfl | ⟨a, e, rfl⟩ | ⟨a, e, rfl⟩ | ⟨x, hx, rfl⟩ | ⟨x, hx, rfl⟩
  · exact ⟨k.sg, k.lt⟩
  · exact ⟨k.sl a e, k.llt e⟩
  · exact ⟨k.sw a e, k.wlt e⟩
  · exact ⟨k.sx x hx, (k.lf x hx).2.lt⟩
  · exact ⟨k.sy x hx, (k.wf x hx).2.2.lt⟩
theorem Rk.keep (k : Rk S w g L cl W cw ls ws left off) (hk : ∀ j, footR g L W ls ws j → w'.heap[j]? = w.heap[j]?) : Rk S w' g L cl W cw ls ws left off := by
  refine ⟨(hk g (.inl rfl)).trans k.obj, own_keep k.lrow fun j hj => ?_, own_keep k.wrow fun j hj => ?_, fun x hx => ⟨(k.lf x hx).1, (k.lf x hx).2.keep (hk _ (.inr (.inr (.inr (.inl ⟨x, hx, rfl⟩)))))⟩, fun x hx => ⟨(k.wf x hx).1, (k.wf x hx).2.1, (k.wf x hx).2.2.keep (hk _ (.inr (.inr (.inr (.inr ⟨x, hx, rfl⟩)))))⟩, k.sg, k.sl, k.sw, k.sx, k.sy⟩
  · rcases L with _ | a
    · cases hj
    · injection hj with hj
      subst hj
      exact hk _ (.inr (.inl ⟨a, rfl, rfl⟩))
  · rcases W with _ | a
    · cases hj
    · injection hj with hj
      subst hj
      exact hk _ (.inr (.inr (.inl ⟨a, rfl, rfl⟩)))
theorem Rk.below (k : Rk S w g L cl W cw ls ws left off) (hb : Below w.heap.size w w') : Rk S w' g L cl W cw ls ws left off := k.keep fun j hj => hb.block j (k.foot hj).2
theorem Rk.tch {R : Nat → Prop} (k : Rk S w g L cl W cw ls ws left off) (ht : Tch R w w') (hd : ∀ j, S j → ¬ R j) : Rk S w' g L cl W cw ls ws left off := k.keep fun j hj => ht.block j (k.foot hj).2 (hd j (k.foot hj).1)
theorem Rk.more (k : Rk S w g L cl W cw ls ws left off) (hS : ∀ j, footR g L W ls ws j → S' j) : Rk S' w g L cl W cw ls ws left off :=
  ⟨k.obj, k.lrow, k.wrow, k.lf, k.wf, hS _ (.inl rfl), fun a e => hS _ (.inr (.inl ⟨a, e, rfl⟩)), fun a e => hS _ (.inr (.inr (.inl ⟨a, e, rfl⟩))), fun x hx => hS _ (.inr (.inr (.inr (.inl ⟨x, hx, rfl⟩)))), fun x hx => hS _ (.inr (.inr (.inr (.inr ⟨x, hx, rfl⟩))))⟩
theorem Rk.drew (k : Rk S w g L cl W cw ls ws left off) : Rk S w.drew g L cl W cw ls ws left off := ⟨k.obj, k.lrow, k.wrow, k.lf, k.wf, k.sg, k.sl, k.sw, k.sx, k.sy⟩

/-- The object's cells are others; the rows stay. -/
theorem Rk.obj_ {left' : Int} {off' : Bool} (k : Rk S w g L cl W cw ls ws left off) (ho : w'.heap[g]? = some (.cells #[.slice L ls.length cl, .slice W ws.length cw, .bool off', .int .i64 left'] 43 (0, 0)))
    (hk : ∀ j, j ≠ g → w'.heap[j]? = w.heap[j]?) : Rk S w' g L cl W cw ls ws left' off' := by
  refine ⟨ho, own_keep k.lrow fun j hj => ?_, own_keep k.wrow fun j hj => ?_, fun x hx => ⟨(k.lf x hx).1, (k.lf x hx).2.keep (hk _ (k.xg.1 x hx))⟩, fun x hx => ⟨(k.wf x hx).1, (k.wf x hx).2.1, (k.wf x hx).2.2.keep (hk _ (k.xg.2 x hx))⟩, k.sg, k.sl, k.sw, k.sx, k.sy⟩
  · rcases L with _ | a
    · cases hj
    · injection hj with hj
      subst hj
      exact hk _ (k.lg rfl).1
  · rcases W with _ | a
    · cases hj
    · injection hj with hj
      subst hj
      exact hk _ (k.wg rfl).1
theorem Rk.set2 (k : Rk S w g L cl W cw ls ws left off) (b : Bool) : Rk S (w.setCell ⟨g, 2, none⟩ (.bool b)) g L cl W cw ls ws left b :=
  k.obj_ (by rw [heap_setCell_same w g 2 _ _ _ k.obj]; rfl) fun j hj => Below.heap_setCell _ _ _ _ hj
theorem Rk.set3 (k : Rk S w g L cl W cw ls ws left off) (n : Int) : Rk S (w.setCell ⟨g, 3, none⟩ (.int .i64 n)) g L cl W cw ls ws n off :=
  k.obj_ (by rw [heap_setCell_same w g 3 _ _ _ k.obj]; rfl) fun j hj => Below.heap_setCell _ _ _ _ hj
/-- Nothing waits any more. -/
theorem Rk.none_ (k : Rk S w g L cl W cw ls ws left off) : Rk S (w.setCell ⟨g, 1, none⟩ (.slice none 0 0)) g L cl none 0 ls [] left off := by
  have hk : ∀ j, j ≠ g → (w.setCell ⟨g, 1, none⟩ (.slice none 0 0)).heap[j]? = w.heap[j]? := fun j hj => Below.heap_setCell _ _ _ _ hj
  refine ⟨by rw [heap_setCell_same w g 1 _ _ _ k.obj]; rfl, own_keep k.lrow fun j hj => ?_, World.ownsRow_nil _ _ _ _, fun x hx => ⟨(k.lf x hx).1, (k.lf x hx).2.keep (hk _ (k.xg.1 x hx))⟩, (fun x hx => by cases hx), k.sg, k.sl, (fun a e => by cases e), k.sx, (fun x hx => by cases hx)⟩
  rcases L with _ | a
  · cases hj
  · injection hj with hj
    subst hj
    exact hk _ (k.lg rfl).1
/-- A sector stands anew: its cell of L is another slice. -/
theorem Rk.over (k : Rk S w g L cl W cw ls ws left off) {x : Wr} (hx : x ∈ ws) {gl : Nat} (hL : L = some ⟨gl, 0, none⟩) : Rk S (w.setCell ⟨gl, x.s, none⟩ x.one) g L cl W cw (ls.set x.s x) ws left off ∧ Tch S w (w.setCell ⟨gl, x.s, none⟩ x.one) := by
  subst hL
  have hlg := k.lg rfl
  have hk : ∀ j, j ≠ gl → (w.setCell ⟨gl, x.s, none⟩ x.one).heap[j]? = w.heap[j]? := fun j hj => Below.heap_setCell _ _ _ _ hj
  refine ⟨⟨?_, ?_, own_keep k.wrow fun j hj => ?_, fun y hy => ?_, fun y hy => ?_, k.sg, k.sl, k.sw, fun y hy => ?_, k.sy⟩, Tch.set w ⟨gl, x.s, none⟩ _ (k.sl ⟨gl, 0, none⟩ rfl)⟩
  · rw [hk g (Ne.symm hlg.1), List.length_set]
    exact k.obj
  · rw [List.length_set, List.map_set]
    exact (k.lrow.stored x.s x.one).1
  · rcases W with _ | a
    · cases hj
    · injection hj with hj
      subst hj
      exact hk _ (hlg.2.2.2 a rfl)
  · rcases List.mem_or_eq_of_mem_set hy with hy | rfl
    · exact ⟨(k.lf y hy).1, (k.lf y hy).2.keep (hk _ (hlg.2.1 y hy))⟩
    · exact ⟨(k.wf y hx).2.1, (k.wf y hx).2.2.keep (hk _ (hlg.2.2.1 y hx))⟩
  · rw [List.length_set]
    exact ⟨(k.wf y hy).1, (k.wf y hy).2.1, (k.wf y hy).2.2.keep (hk _ (hlg.2.2.1 y hy))⟩
  · rcases List.mem_or_eq_of_mem_set hy with hy | rfl
    · exact k.sx y hy
    · exact k.sy y hx
/-- What waits at place i; what stands at place i. -/
theorem Rk.at_ (k : Rk S w g L cl W cw ls ws left off) {i : Nat} {x : Wr} (hx : ws[i]? = some x) : ∃ gw, W = some ⟨gw, 0, none⟩ ∧ w.cell? ⟨gw, i * 2, none⟩ = some (.int .i64 (x.s : Int)) ∧ w.cell? ⟨gw, i * 2 + 1, none⟩ = some (.slice (some ⟨x.b, 0, none⟩) 512 x.c) := by
  have hi : i < ws.length := by
    rcases Nat.lt_or_ge i ws.length with h | h
    · exact h
    · rw [List.getElem?_eq_none h] at hx; cases hx
  obtain ⟨f1, f2⟩ := flat_get ws i x hx
  have hw := k.wrow
  rcases W with _ | a
  · rcases hw.2 with ⟨_, h0⟩ | ⟨_, _, _, h', _⟩
    · omega
    · injection h' with e; cases e
  · obtain ⟨gw, rfl, _⟩ := own_type hw
    exact ⟨gw, rfl, by rw [hw.cellAt _ (by omega)]; exact f1, by rw [hw.cellAt _ (by omega)]; exact f2⟩
theorem Rk.lat (k : Rk S w g L cl W cw ls ws left off) {i : Nat} {x : Wr} (hx : ls[i]? = some x) : ∃ gl, L = some ⟨gl, 0, none⟩ ∧ w.cell? ⟨gl, i, none⟩ = some (.slice (some ⟨x.b, 0, none⟩) 512 x.c) ∧ w.frozen? ⟨gl, i, none⟩ = false := by
  have hi : i < ls.length := by
    rcases Nat.lt_or_ge i ls.length with h | h
    · exact h
    · rw [List.getElem?_eq_none h] at hx; cases hx
  have hw := k.lrow
  rcases L with _ | a
  · rcases hw.2 with ⟨_, h0⟩ | ⟨_, _, _, h', _⟩
    · omega
    · injection h' with e; cases e
  · obtain ⟨gl, rfl, _⟩ := own_type hw
    refine ⟨gl, rfl, ?_, hw.frozenAt i⟩
    rw [hw.cellAt _ (by omega), List.getElem?_map, hx]
    rfl
theorem Rk.caps (k : Rk S w g L cl W cw ls ws left off) : ls.length ≤ cl ∧ cl ≤ maxLen ∧ ws.length ≤ cw ∧ cw ≤ maxLen := by
  refine ⟨?_, ?_, ?_, ?_⟩
  · rcases k.lrow.2 with ⟨h', h0⟩ | ⟨_, _, _, h', _, _, h1, h2, _⟩
    · rw [h0]; exact Nat.zero_le _
    · injection h' with _ _ e; subst e; exact h1
  · rcases k.lrow.2 with ⟨h', h0⟩ | ⟨_, _, _, h', _, _, h1, h2, _⟩
    · injection h' with _ _ e; subst e; exact Nat.zero_le _
    · injection h' with _ _ e; subst e; exact h2
  · rcases k.wrow.2 with ⟨h', h0⟩ | ⟨_, _, _, h', _, _, h1, h2, _⟩
    · rw [h0]; exact Nat.zero_le _
    · injection h' with _ _ e; subst e; exact h1
  · rcases k.wrow.2 with ⟨h', h0⟩ | ⟨_, _, _, h', _, _, h1, h2, _⟩
    · injection h' with _ _ e; subst e; exact Nat.zero_le _
    · injection h' with _ _ e; subst e; exact h2
end
end Go.Proofs.Ytkddcfaomaphaaa
