/- An image of the document's in the making: its object, its row of blocks, its row of data. -/
import Derived.Test.YtlhahibdddcpfaaImg18
import Derived.Laws.OwnMore
namespace Go.Proofs.Ytlhahibdddcpfaa
open Go.RowKit

/-- Blocks as cells. -/
def flatR : List Rk → List Value
  | [] => []
  | x :: r => .int .i64 x.o :: .int .i64 x.s :: .bool x.u :: flatR r
theorem flatR_length : ∀ l : List Rk, (flatR l).length = l.length * 3
  | [] => rfl
  | x :: r => by simp [flatR, flatR_length r]; omega
theorem flatR_append (a b : List Rk) : flatR (a ++ b) = flatR a ++ flatR b := by
  induction a with
  | nil => rfl
  | cons x r ih => simp [flatR, ih]
theorem flatR_get : ∀ (l : List Rk) (i : Nat) (x : Rk), l[i]? = some x → (flatR l)[i * 3]? = some (.int .i64 x.o) ∧ (flatR l)[i * 3 + 1]? = some (.int .i64 x.s) ∧ (flatR l)[i * 3 + 2]? = some (.bool x.u)
  | [], _, _, h => by simp at h
  | y :: r, 0, x, h => by
    simp at h; subst h
    exact ⟨rfl, rfl, rfl⟩
  | y :: r, i + 1, x, h => by
    have := flatR_get r i x (by simpa using h)
    have e : (i + 1) * 3 = i * 3 + 1 + 1 + 1 := by omega
    rw [e]
    exact ⟨by simpa [flatR] using this.1, by simpa [flatR] using this.2.1, by simpa [flatR] using this.2.2⟩
/-- A block's numbers are within what an int holds. -/
def rkIn (l : List Rk) : Prop := ∀ x ∈ l, (0 ≤ x.o ∧ x.o ≤ 1000000000) ∧ (0 ≤ x.s ∧ x.s ≤ 20000)
structure ImB (B g : Nat) (N : Int) (A1 : Option Addr) (c1 : Nat) (l : List Rk) (A2 : Option Addr) (c2 : Nat) (d : List (List UInt8)) (xs : List Value) (w : World) : Prop where
  obj : w.heap[g]? = some (.cells #[.int .i64 N, .slice A1 l.length c1, .slice A2 d.length c2] 29 (0, 0))
  rl : w.ownsRow B 50 3 (.slice A1 l.length c1) l.length (flatR l)
  rd : w.ownsRow B 31 1 (.slice A2 d.length c2) d.length xs
  dt : DtO w d xs
  hB : B ≤ g
  hl : rkIn l
section
variable {B g n : Nat} {N : Int} {A1 A2 : Option Addr} {c1 c2 : Nat} {l : List Rk} {d : List (List UInt8)} {xs : List Value} {w w3 w4 w' : World}
theorem ImB.stay (h : ImB B g N A1 c1 l A2 c2 d xs w) (hb : Below w.heap.size w w') : ImB B g N A1 c1 l A2 c2 d xs w' :=
  ⟨(hb.block _ (heap_lt1 h.obj)).trans h.obj, own_stay h.rl hb (own_lt h.rl), own_stay h.rd hb (own_lt h.rd), h.dt.stay hb, h.hB, h.hl⟩
theorem ImB.lt (h : ImB B g N A1 c1 l A2 c2 d xs w) : g < w.heap.size := heap_lt1 h.obj
theorem rk_of_row {w : World} {B c : Nat} {A : Option Addr} {l : List Rk} (h : w.ownsRow B 50 3 (.slice A l.length c) l.length (flatR l)) (hl : rkIn l) : RkRd w w.heap.size A l := fun hn => by
  rcases h.2 with ⟨hv, h0⟩ | ⟨b, cap, cur, hv, hbg, hg, hnc, hcm, hsz, htk⟩
  · omega
  · injection hv with e1 e2 e3
    subst e1
    refine ⟨b, 0, rfl, heap_lt1 hg, fun j x hx => ?_⟩
    have hj : j < l.length := (List.getElem?_eq_some_iff.1 hx).1
    obtain ⟨q0, q1, q2⟩ := flatR_get l j x hx
    have hb := hl x (List.mem_of_getElem? hx)
    have hc : ∀ (i : Nat) (v : Value), i < l.length * 3 → (flatR l)[i]? = some v → w.cell? ⟨b, i, none⟩ = some v := fun i v hi hv => by
      rw [cell_of_row _ _ _ _ _ _ hg]
      rw [← htk, List.getElem?_take, if_pos hi] at hv
      rw [← hv]; simp
    simp only [Nat.zero_add]
    exact ⟨hc _ _ (by omega) q0, hc _ _ (by omega) q1, hc _ _ (by omega) q2, by omega, by omega⟩
theorem ImB.rkrd (h : ImB B g N A1 c1 l A2 c2 d xs w) : RkRd w w.heap.size A1 l := rk_of_row h.rl h.hl
theorem ImB.dtrd (h : ImB B g N A1 c1 l A2 c2 d xs w) : DtRd w w.heap.size A2 d := h.dt.rd h.rd
theorem ImB.off (h : ImB B g N A1 c1 l A2 c2 d xs w) {k : Nat} {cs : Array Value} {fz : Nat × Nat} {t : TypeId} (hk : w.heap[k]? = some (.cells cs t fz)) (ht : t ≠ 29) : g ≠ k := fun e => by
  subst e
  have h2 := h.obj
  rw [hk] at h2
  injection h2 with h2
  injection h2 with _ h2 _
  exact ht h2
/-- One block more. -/
theorem ImB.pushB (h : ImB B g N A1 c1 l A2 c2 d xs w3) {x : Rk} {v : Value} (own : w4.ownsRow B 50 3 v (l.length + 1) (flatR (l ++ [x]))) (gr : w3.grownBy w4 (Value.slice A1 l.length c1).ownBlock) (hx : (0 ≤ x.o ∧ x.o ≤ 1000000000) ∧ (0 ≤ x.s ∧ x.s ≤ 20000)) {B0 : Nat} {w0 : World} (hb : Below B0 w0 w3) (hB0 : B0 ≤ B) (hw0 : B0 ≤ w3.heap.size) :
    ∃ A1' c1', v = .slice A1' (l.length + 1) c1' ∧ w4.heap[g]? = w3.heap[g]? ∧ ImB B g N A1' c1' (l ++ [x]) A2 c2 d xs (w4.setCell ⟨g, 1, none⟩ v) ∧ Below B0 w0 (w4.setCell ⟨g, 1, none⟩ v) := by
  have hrow := own_row h.rl
  have hg4 : w4.heap[g]? = w3.heap[g]? := gr.block g h.lt fun e => by
    obtain ⟨cs, fz, hc⟩ := hrow g e.symm
    exact h.off hc (by decide) rfl
  have obj4 := hg4.trans h.obj
  obtain ⟨A, c, rfl, _⟩ := own_slc own
  have hrd4 : w4.ownsRow B 31 1 (.slice A2 d.length c2) d.length xs := own_off h.rd gr fun k hk hrk => by
    obtain ⟨cs, fz, hc⟩ := hrow k hrk
    exact own_typ h.rd hk hc (by decide)
  have hdt4 : DtO w4 d xs := h.dt.grown gr fun k hk => by
    obtain ⟨cs, fz, hc⟩ := hrow k hk
    exact ⟨cs, _, fz, by decide, hc⟩
  have gs := grown_set w4 g 1 (.slice A (l.length + 1) c)
  have ge : ∀ k, (Value.slice A1 l.length c1).ownBlock = some k → B0 ≤ k := fun k hk => Nat.le_trans hB0 (own_ge h.rl k hk)
  refine ⟨A, c, rfl, hg4, ⟨?_, ?_, ?_, ?_, h.hB, ?_⟩, ?_⟩
  · rw [List.length_append, List.length_singleton]
    exact heap_setCell_same w4 g 1 _ _ _ obj4
  · rw [List.length_append, List.length_singleton]
    exact own_off own gs fun k hk hrk => by injection hrk with hrk; subst hrk; exact own_typ own hk obj4 (by decide)
  · exact own_off hrd4 gs fun k hk hrk => by injection hrk with hrk; subst hrk; exact own_typ hrd4 hk obj4 (by decide)
  · exact hdt4.grown gs fun k hrk => by injection hrk with hrk; subst hrk; exact ⟨_, _, _, by decide, obj4⟩
  · intro y hy
    rcases List.mem_append.1 hy with hy | hy
    · exact h.hl y hy
    · simp at hy; subst hy; exact hx
  · exact (hb.grown gr hw0 ge).setCell (p := ⟨g, 1, none⟩) (Nat.le_trans hB0 h.hB) _
/-- One more that holds something. -/
theorem ImB.pushD (h : ImB B g N A1 c1 l A2 c2 d xs w3) {y : List UInt8} {A : Option Addr} {k : Nat} {v : Value} (hy : y.length ≤ 100000) (oy : w3.ownsRow 0 5 1 (.slice A y.length k) y.length (y.map bv)) (own : w4.ownsRow B 31 1 v (d.length + 1) (xs ++ [.slice A y.length k])) (gr : w3.grownBy w4 (Value.slice A2 d.length c2).ownBlock) {B0 : Nat} {w0 : World} (hb : Below B0 w0 w3) (hB0 : B0 ≤ B) (hw0 : B0 ≤ w3.heap.size) :
    ∃ A2' c2', v = .slice A2' (d.length + 1) c2' ∧ w4.heap[g]? = w3.heap[g]? ∧ ImB B g N A1 c1 l A2' c2' (d ++ [y]) (xs ++ [.slice A y.length k]) (w4.setCell ⟨g, 2, none⟩ v) ∧ Below B0 w0 (w4.setCell ⟨g, 2, none⟩ v) := by
  have hrow := own_row h.rd
  have hg4 : w4.heap[g]? = w3.heap[g]? := gr.block g h.lt fun e => by
    obtain ⟨cs, fz, hc⟩ := hrow g e.symm
    exact h.off hc (by decide) rfl
  have obj4 := hg4.trans h.obj
  obtain ⟨A', c, rfl, _⟩ := own_slc own
  have hrl4 : w4.ownsRow B 50 3 (.slice A1 l.length c1) l.length (flatR l) := own_off h.rl gr fun k hk hrk => by
    obtain ⟨cs, fz, hc⟩ := hrow k hrk
    exact own_typ h.rl hk hc (by decide)
  have hlx : xs.length = d.length := by have := h.rd.1; omega
  have hdt4 : DtO w4 (d ++ [y]) (xs ++ [.slice A y.length k]) := (h.dt.grown gr fun k hk => by
    obtain ⟨cs, fz, hc⟩ := hrow k hk
    exact ⟨cs, _, fz, by decide, hc⟩).snoc hlx hy (own_off oy gr fun k hk hrk => by
      obtain ⟨cs, fz, hc⟩ := hrow k hrk
      exact own_typ oy hk hc (by decide))
  have gs := grown_set w4 g 2 (.slice A' (d.length + 1) c)
  have ge : ∀ k, (Value.slice A2 d.length c2).ownBlock = some k → B0 ≤ k := fun k hk => Nat.le_trans hB0 (own_ge h.rd k hk)
  refine ⟨A', c, rfl, hg4, ⟨?_, ?_, ?_, ?_, h.hB, h.hl⟩, ?_⟩
  · rw [List.length_append, List.length_singleton]
    exact heap_setCell_same w4 g 2 _ _ _ obj4
  · exact own_off hrl4 gs fun k hk hrk => by injection hrk with hrk; subst hrk; exact own_typ hrl4 hk obj4 (by decide)
  · rw [List.length_append, List.length_singleton]
    exact own_off own gs fun k hk hrk => by injection hrk with hrk; subst hrk; exact own_typ own hk obj4 (by decide)
  · exact hdt4.grown gs fun k hrk => by injection hrk with hrk; subst hrk; exact ⟨_, _, _, by decide, obj4⟩
  · exact (hb.grown gr hw0 ge).setCell (p := ⟨g, 2, none⟩) (Nat.le_trans hB0 h.hB) _
/-- Another one in its place. -/
theorem ImB.setD (h : ImB B g N A1 c1 l A2 c2 d xs w) {j : Nat} (hj : j < d.length) {y : List UInt8} {A : Option Addr} {k : Nat} (hy : y.length ≤ 100000) (oy : w.ownsRow 0 5 1 (.slice A y.length k) y.length (y.map bv)) {B0 : Nat} {w0 : World} (hb : Below B0 w0 w) (hB0 : B0 ≤ B) :
    ∃ q, A2 = some ⟨q, 0, none⟩ ∧ (∃ u, w.cell? ⟨q, j, none⟩ = some u) ∧ w.frozen? ⟨q, j, none⟩ = false ∧ q ≠ g ∧ ImB B g N A1 c1 l A2 c2 (d.set j y) (xs.set j (.slice A y.length k)) (w.setCell ⟨q, j, none⟩ (.slice A y.length k)) ∧ Below B0 w0 (w.setCell ⟨q, j, none⟩ (.slice A y.length k)) := by
  obtain ⟨q, rfl, hq⟩ : ∃ q, A2 = some ⟨q, 0, none⟩ ∧ ∃ cs fz, w.heap[q]? = some (.cells cs 31 fz) := by
    rcases h.rd.2 with ⟨_, h0⟩ | ⟨q, cap, cur, hv, _, hg, _⟩
    · omega
    · injection hv with e1 _ _
      exact ⟨q, e1, _, _, hg⟩
  obtain ⟨cs, fz, hq⟩ := hq
  have hlx : xs.length = d.length := by have := h.rd.1; omega
  have hqg : q ≠ g := fun e => h.off hq (by decide) e.symm
  have gs := grown_set w q j (.slice A y.length k)
  have hset := h.rd.stored j (.slice A y.length k)
  refine ⟨q, rfl, ?_, h.rd.frozenAt j, hqg, ⟨?_, ?_, ?_, ?_, h.hB, h.hl⟩, ?_⟩
  · have := h.rd.cellAt j (by omega)
    exact ⟨_, this.trans (List.getElem?_eq_getElem (by omega))⟩
  · rw [List.length_set]
    exact (heap_setCell_other _ _ _ _ (fun e => hqg e.symm)).trans h.obj
  · exact own_off h.rl gs fun k hk hrk => by injection hrk with hrk; subst hrk; exact own_typ h.rl hk hq (by decide)
  · rw [List.length_set]
    exact hset.1
  · intro i z hz
    have oy' := own_off oy gs fun k hk hrk => by injection hrk with hrk; subst hrk; exact own_typ oy hk hq (by decide)
    have hdt := h.dt.grown gs fun k hrk => by injection hrk with hrk; subst hrk; exact ⟨_, _, _, by decide, hq⟩
    by_cases hij : j = i
    · subst hij
      rw [List.getElem?_set_self hj] at hz
      injection hz with hz
      subst hz
      exact ⟨hy, A, k, List.getElem?_set_self (by omega), oy'⟩
    · rw [List.getElem?_set_ne hij] at hz ⊢
      exact hdt i z hz
  · exact hb.setCell (p := ⟨q, j, none⟩) (Nat.le_trans hB0 (own_ge h.rd q rfl)) _
end
end Go.Proofs.Ytlhahibdddcpfaa
