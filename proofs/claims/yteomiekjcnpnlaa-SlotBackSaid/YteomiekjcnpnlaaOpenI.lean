/- Slices of blocks, and of slices of bytes, that came in. -/
import Derived.Test.YteomiekjcnpnlaaOpenB
import Derived.Test.YteomiekjcnpnlaaImg1
import Derived.Deep.Grids
import Derived.Deep.Fields
namespace Go.Proofs.Yteomiekjcnpnlaa
open Go.RowKit Go.ChangeShapes Go.WideShapes Go.Deep
abbrev RkB := Rk

section
variable {H : Type} {enc : TypeId × Value → H} {w : World} {base : Nat} {held : Bool} {fuel : Nat} {A : Option Addr} {len cap : Nat} {x : DataW H × List MemPlace}
set_option maxRecDepth 100000 in
theorem open_dts (h : DataW.trod enc Try.prog w base (fun _ => true) held fuel 51 [.slice A len cap] = some x) : ∃ l : List (List UInt8), l.length = len ∧ DtRd w w.heap.size A l ∧ len ≤ maxLen := by
  have hC : Try.prog.cellsOf 24 = 1 := by kernel_rfl
  rcases open_slice Try.underlying51 h with ⟨hcs, _⟩ | ⟨a, l, c, m, n, D, Pl, hcs, _, hl, hm, hmm, _, hi⟩
  · simp at hcs
    obtain ⟨rfl, rfl, rfl⟩ := hcs
    exact ⟨[], rfl, fun hn => absurd hn (by simp), Nat.zero_le _⟩
  · simp at hcs
    obtain ⟨rfl, rfl, rfl⟩ := hcs
    simp only [if_true] at hmm
    subst hmm
    rw [hC] at hi
    obtain ⟨ds, hd, hp⟩ := list_of (p := fun i (y : List UInt8) => ∃ A' k, w.cell? (a.add i) = some (.slice A' y.length k) ∧ Rd w w.heap.size A' y.length y ∧ y.length ≤ maxLen ∧ y.length ≤ k ∧ (A' = none → k = 0)) len (fun i hil => by
      obtain ⟨cs', hc, ht⟩ := hi i (by omega)
      obtain ⟨_, hcl, hat⟩ := World.cells?_some hc
      match cs', hcl with
      | [v5], _ =>
        obtain ⟨bA, bn, bc, rfl⟩ : ∃ bA bn bc, v5 = .slice bA bn bc := by
          rcases open_slice Try.underlying24 ht with ⟨h, _⟩ | ⟨a, l, c, _, _, _, _, h, _⟩
          · exact ⟨_, _, _, by simpa using h⟩
          · exact ⟨_, _, _, by simpa using h⟩
        obtain ⟨bs, hbs, hbl, hbc, hA0⟩ := open_byt ht
        obtain rfl : bs.length = bn := hbs.1
        have a0 := hat 0 (by omega)
        rw [Go.Deep.add_add] at a0
        rw [Nat.mul_one, Nat.add_zero] at a0
        exact ⟨bs, bA, bc, a0, hbs, Nat.le_trans hbl hbc, hbl, hA0⟩)
    refine ⟨ds, hd, fun hn => ?_, by omega⟩
    obtain ⟨d, hd0⟩ : ∃ d, ds[0]? = some d := ⟨ds[0], List.getElem?_eq_getElem hn⟩
    obtain ⟨A', k, h0, _⟩ := hp 0 d hd0
    obtain ⟨b, o, rfl, hlt, e⟩ := add_plain h0
    refine ⟨b, o, rfl, hlt, fun j d hj => ?_⟩
    obtain ⟨A', k, h0, h1, h2⟩ := hp j d hj
    rw [e] at h0
    exact ⟨A', k, h0, h1, h2⟩
end
end Go.Proofs.Yteomiekjcnpnlaa
