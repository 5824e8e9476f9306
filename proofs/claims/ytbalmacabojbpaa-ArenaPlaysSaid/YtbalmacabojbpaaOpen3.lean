/- Slices of deeds of layer 3 that came in, in the words of the contracts. -/
import Derived.Test.YtbalmacabojbpaaOpen
import Derived.Test.YtbalmacabojbpaaPlays3
namespace Go.Proofs.Ytbalmacabojbpaa
open Go.RowKit Go.ChangeShapes Go.WideShapes Go.Deep

section
variable {H : Type} {enc : TypeId × Value → H} {w : World} {base : Nat} {held : Bool} {fuel : Nat} {A : Option Addr} {len cap : Nat} {x : DataW H × List MemPlace}
set_option maxRecDepth 100000 in
theorem open_des (h : DataW.trod enc Try.prog w base (fun _ => true) held fuel 23 [.slice A len cap] = some x) : ∃ ds : List De, ds.length = len ∧ Des w w.heap.size A ds ∧ (∀ d ∈ ds, d.inn w w.heap.size) ∧ len ≤ maxLen := by
  have hC : Try.prog.cellsOf 33 = 7 := by kernel_rfl
  have hone : oneCellFields Try.prog (match Try.prog.underlying 33 with
    | some (.struct fs) => fs
    | _ => #[]) = true := by kernel_rfl
  rw [Try.underlying33] at hone
  dsimp only at hone
  rcases open_slice Try.underlying23 h with ⟨hcs, _⟩ | ⟨a, l, c, m, n, D, Pl, hcs, _, hl, hm, hmm, _, hi⟩
  · simp at hcs
    obtain ⟨rfl, rfl, rfl⟩ := hcs
    exact ⟨[], rfl, fun hn => absurd hn (by simp), (fun d hd => by cases hd), Nat.zero_le _⟩
  · simp at hcs
    obtain ⟨rfl, rfl, rfl⟩ := hcs
    simp only [if_true] at hmm
    subst hmm
    rw [hC] at hi
    obtain ⟨ds, hd, hp⟩ := list_of (p := fun i (d : De) => d.inn w w.heap.size ∧ w.cell? (a.add (i * 7)) = some (.int .i64 d.what) ∧ w.cell? (a.add (i * 7 + 1)) = some (.int .u64 (d.addr : Int)) ∧ w.cell? (a.add (i * 7 + 2)) = some (.int .u64 (d.from_ : Int)) ∧
        w.cell? (a.add (i * 7 + 3)) = some (.int .u64 (d.n : Int)) ∧ w.cell? (a.add (i * 7 + 4)) = some (.int .u64 (d.v : Int)) ∧ w.cell? (a.add (i * 7 + 5)) = some (.int .u8 (d.x.toNat : Int)) ∧ w.cell? (a.add (i * 7 + 6)) = some (.slice d.bA d.bn d.bc)) len (fun i hil => by
      obtain ⟨cs', hc, ht⟩ := hi i (by omega)
      obtain ⟨_, hcl, hat⟩ := World.cells?_some hc
      obtain ⟨xs, n', _, _, _, hlen, hf⟩ := DataW.trod_struct Try.underlying33 ht
      match cs', hcl, xs, hlen with
      | [v0, v1, v2, v3, v4, v5, v6], _, [y0, y1, y2, y3, y4, y5, y6], _ =>
        have g0 := hf 0 _ rfl
        have g1 := hf 1 _ rfl
        have g2 := hf 2 _ rfl
        have g3 := hf 3 _ rfl
        have g4 := hf 4 _ rfl
        have g5 := hf 5 _ rfl
        have g6 := hf 6 _ rfl
        rw [(hone_of hone 0 _ rfl).1, (hone_of hone 0 _ rfl).2] at g0
        rw [(hone_of hone 1 _ rfl).1, (hone_of hone 1 _ rfl).2] at g1
        rw [(hone_of hone 2 _ rfl).1, (hone_of hone 2 _ rfl).2] at g2
        rw [(hone_of hone 3 _ rfl).1, (hone_of hone 3 _ rfl).2] at g3
        rw [(hone_of hone 4 _ rfl).1, (hone_of hone 4 _ rfl).2] at g4
        rw [(hone_of hone 5 _ rfl).1, (hone_of hone 5 _ rfl).2] at g5
        rw [(hone_of hone 6 _ rfl).1, (hone_of hone 6 _ rfl).2] at g6
        simp only [List.drop_zero, List.drop_succ_cons, List.take_succ_cons, List.take_zero, List.getElem?_cons_zero, List.getElem?_cons_succ] at g0 g1 g2 g3 g4 g5 g6
        obtain ⟨n0, h0, _, _⟩ := DataW.trod_int Try.underlying3 g0
        obtain ⟨n1, h1, _, w1⟩ := DataW.trod_int Try.underlying22 g1
        obtain ⟨n2, h2, _, w2⟩ := DataW.trod_int Try.underlying22 g2
        obtain ⟨n3, h3, _, w3⟩ := DataW.trod_int Try.underlying22 g3
        obtain ⟨n4, h4, _, w4⟩ := DataW.trod_int Try.underlying22 g4
        obtain ⟨n5, h5, _, w5⟩ := DataW.trod_int Try.underlying5 g5
        obtain ⟨bA, bn, bc, rfl⟩ : ∃ bA bn bc, v6 = .slice bA bn bc := by
          rcases open_slice Try.underlying29 g6 with ⟨h, _⟩ | ⟨a, l, c, _, _, _, _, h, _⟩
          · exact ⟨_, _, _, by simpa using h⟩
          · exact ⟨_, _, _, by simpa using h⟩
        simp at h0 h1 h2 h3 h4 h5
        subst h0 h1 h2 h3 h4 h5
        obtain ⟨m1, rfl, b1⟩ := nat_u64 w1
        obtain ⟨m2, rfl, b2⟩ := nat_u64 w2
        obtain ⟨m3, rfl, b3⟩ := nat_u64 w3
        obtain ⟨m4, rfl, b4⟩ := nat_u64 w4
        have b5 := bounds_u8 w5
        have ex : ((UInt8.ofNat n5.toNat).toNat : Int) = n5 := by
          have : (UInt8.ofNat n5.toNat).toNat = n5.toNat := by rw [UInt8.toNat_ofNat']; omega
          omega
        obtain ⟨cs, hr, hl1, hl2, _⟩ := open_byt g6
        unfold maxLen at hl2
        refine ⟨⟨n0, m1, m2, m3, m4, UInt8.ofNat n5.toNat, bA, bn, bc⟩, ⟨b1, b2, b3, b4, by dsimp only; omega, cs, hr⟩, ?_⟩
        have a0 := hat 0 (by omega)
        have a1 := hat 1 (by omega)
        have a2 := hat 2 (by omega)
        have a3 := hat 3 (by omega)
        have a4 := hat 4 (by omega)
        have a5 := hat 5 (by omega)
        have a6 := hat 6 (by omega)
        rw [Go.Deep.add_add] at a0 a1 a2 a3 a4 a5 a6
        simp only [ex]
        exact ⟨a0, a1, a2, a3, a4, a5, a6⟩)
    refine ⟨ds, hd, fun hn => ?_, fun d hdm => ?_, by omega⟩
    · obtain ⟨d, hd0⟩ : ∃ d, ds[0]? = some d := ⟨ds[0], List.getElem?_eq_getElem hn⟩
      obtain ⟨_, h0, _⟩ := hp 0 d hd0
      rw [Nat.zero_mul] at h0
      obtain ⟨b, o, rfl, hlt, e⟩ := add_plain h0
      refine ⟨b, o, rfl, hlt, fun j d hj => ?_⟩
      obtain ⟨_, h0, h1, h2, h3, h4, h5, h6⟩ := hp j d hj
      rw [e] at h0 h1 h2 h3 h4 h5 h6
      exact ⟨h0, h1, h2, h3, h4, h5, h6⟩
    · obtain ⟨j, hj⟩ := List.getElem?_of_mem hdm
      exact (hp j d hj).1
end
end Go.Proofs.Ytbalmacabojbpaa
