/- Slices of blocks, and of slices of bytes, that came in. -/
import Derived.Test.YtlhahibdddcpfaaOpenB
import Derived.Test.YtlhahibdddcpfaaImg1
import Derived.Deep.Grids
import Derived.Deep.Fields
namespace Go.Proofs.Ytlhahibdddcpfaa
open Go.RowKit Go.ChangeShapes Go.WideShapes Go.Deep
abbrev RkB := Rk

section
variable {H : Type} {enc : TypeId × Value → H} {w : World} {base : Nat} {held : Bool} {fuel : Nat} {A : Option Addr} {len cap : Nat} {x : DataW H × List MemPlace}
set_option maxRecDepth 100000 in
theorem open_rks (h : DataW.trod enc Try.prog w base (fun _ => true) held fuel 22 [.slice A len cap] = some x) : ∃ l : List Rk, l.length = len ∧ RkRd w w.heap.size A l ∧ len ≤ maxLen := by
  have hC : Try.prog.cellsOf 50 = 3 := by kernel_rfl
  have hone : oneCellFields Try.prog (match Try.prog.underlying 50 with
    | some (.struct fs) => fs
    | _ => #[]) = true := by kernel_rfl
  rw [Try.underlying50] at hone
  dsimp only at hone
  rcases open_slice Try.underlying22 h with ⟨hcs, _⟩ | ⟨a, l, c, m, n, D, Pl, hcs, _, hl, hm, hmm, _, hi⟩
  · simp at hcs
    obtain ⟨rfl, rfl, rfl⟩ := hcs
    exact ⟨[], rfl, fun hn => absurd hn (by simp), Nat.zero_le _⟩
  · simp at hcs
    obtain ⟨rfl, rfl, rfl⟩ := hcs
    simp only [if_true] at hmm
    subst hmm
    rw [hC] at hi
    obtain ⟨ds, hd, hp⟩ := list_of (p := fun i (d : Rk) => w.cell? (a.add (i * 3)) = some (.int .i64 d.o) ∧ w.cell? (a.add (i * 3 + 1)) = some (.int .i64 d.s) ∧ w.cell? (a.add (i * 3 + 2)) = some (.bool d.u) ∧
        (-9223372036854775808 ≤ d.o ∧ d.o ≤ 9223372036854775807) ∧ (-9223372036854775808 ≤ d.s ∧ d.s ≤ 9223372036854775807)) len (fun i hil => by
      obtain ⟨cs', hc, ht⟩ := hi i (by omega)
      obtain ⟨_, hcl, hat⟩ := World.cells?_some hc
      obtain ⟨xs, n', _, _, _, hlen, hf⟩ := DataW.trod_struct Try.underlying50 ht
      match cs', hcl, xs, hlen with
      | [v0, v1, v2], _, [y0, y1, y2], _ =>
        have g0 := hf 0 _ rfl
        have g1 := hf 1 _ rfl
        have g2 := hf 2 _ rfl
        rw [(hone_of hone 0 _ rfl).1, (hone_of hone 0 _ rfl).2] at g0
        rw [(hone_of hone 1 _ rfl).1, (hone_of hone 1 _ rfl).2] at g1
        rw [(hone_of hone 2 _ rfl).1, (hone_of hone 2 _ rfl).2] at g2
        simp only [List.drop_zero, List.drop_succ_cons, List.take_succ_cons, List.take_zero, List.getElem?_cons_zero, List.getElem?_cons_succ] at g0 g1 g2
        obtain ⟨n0, h0, _, w0⟩ := DataW.trod_int Try.underlying3 g0
        obtain ⟨n1, h1, _, w1⟩ := DataW.trod_int Try.underlying3 g1
        obtain ⟨u, h2, _⟩ := DataW.trod_bool Try.underlying4 g2
        simp at h0 h1 h2
        subst h0 h1 h2
        have b0 := bounds_i64 w0
        have b1 := bounds_i64 w1
        have a0 := hat 0 (by omega)
        have a1 := hat 1 (by omega)
        have a2 := hat 2 (by omega)
        rw [Go.Deep.add_add] at a0 a1 a2
        exact ⟨⟨n0, n1, u⟩, a0, a1, a2, by dsimp only; omega, by dsimp only; omega⟩)
    refine ⟨ds, hd, fun hn => ?_, by omega⟩
    obtain ⟨d, hd0⟩ : ∃ d, ds[0]? = some d := ⟨ds[0], List.getElem?_eq_getElem hn⟩
    obtain ⟨h0, _⟩ := hp 0 d hd0
    rw [Nat.zero_mul] at h0
    obtain ⟨b, o, rfl, hlt, e⟩ := add_plain h0
    refine ⟨b, o, rfl, hlt, fun j d hj => ?_⟩
    obtain ⟨h0, h1, h2, h3⟩ := hp j d hj
    rw [e] at h0 h1 h2
    exact ⟨h0, h1, h2, h3⟩
set_option maxRecDepth 100000 in
theorem open_dts (h : DataW.trod enc Try.prog w base (fun _ => true) held fuel 23 [.slice A len cap] = some x) : ∃ l : List (List UInt8), l.length = len ∧ DtRd w w.heap.size A l ∧ len ≤ maxLen := by
  have hC : Try.prog.cellsOf 31 = 1 := by kernel_rfl
  rcases open_slice Try.underlying23 h with ⟨hcs, _⟩ | ⟨a, l, c, m, n, D, Pl, hcs, _, hl, hm, hmm, _, hi⟩
  · simp at hcs
    obtain ⟨rfl, rfl, rfl⟩ := hcs
    exact ⟨[], rfl, fun hn => absurd hn (by simp), Nat.zero_le _⟩
  · simp at hcs
    obtain ⟨rfl, rfl, rfl⟩ := hcs
    simp only [if_true] at hmm
    subst hmm
    rw [hC] at hi
    obtain ⟨ds, hd, hp⟩ := list_of (p := fun i (y : List UInt8) => ∃ A' k, w.cell? (a.add i) = some (.slice A' y.length k) ∧ Rd w w.heap.size A' y.length y ∧ y.length ≤ maxLen ∧ y.length ≤ k ∧ (A' = none → k = 0)) len (fun i hil => by
      obtain ⟨cs', hc, ht⟩ := hi i (by omega)
      obtain ⟨_, hcl, hat⟩ := World.cells?_some hc
      match cs', hcl with
      | [v5], _ =>
        obtain ⟨bA, bn, bc, rfl⟩ : ∃ bA bn bc, v5 = .slice bA bn bc := by
          rcases open_slice Try.underlying31 ht with ⟨h, _⟩ | ⟨a, l, c, _, _, _, _, h, _⟩
          · exact ⟨_, _, _, by simpa using h⟩
          · exact ⟨_, _, _, by simpa using h⟩
        obtain ⟨bs, hbs, hbl, hbc, hA0⟩ := open_byt ht
        obtain rfl : bs.length = bn := hbs.1
        have a0 := hat 0 (by omega)
        rw [Go.Deep.add_add] at a0
        rw [Nat.mul_one, Nat.add_zero] at a0
        exact ⟨bs, bA, bc, a0, hbs, Nat.le_trans hbl hbc, hbl, hA0⟩)
    refine ⟨ds, hd, fun hn => ?_, by omega⟩
    obtain ⟨d, hd0⟩ : ∃ d, ds[0]? = some d := ⟨ds[0], List.getElem?_eq_getElem hn⟩
    obtain ⟨A', k, h0, _⟩ := hp 0 d hd0
    obtain ⟨b, o, rfl, hlt, e⟩ := add_plain h0
    refine ⟨b, o, rfl, hlt, fun j d hj => ?_⟩
    obtain ⟨A', k, h0, h1, h2⟩ := hp j d hj
    rw [e] at h0
    exact ⟨A', k, h0, h1, h2⟩
end
end Go.Proofs.Ytlhahibdddcpfaa
