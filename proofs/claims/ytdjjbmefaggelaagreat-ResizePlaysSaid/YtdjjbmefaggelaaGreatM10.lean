/- Texts of mine, joined: OpenS. -/
import Derived.Test.YtdjjbmefaggelaaGreatM9

/- Slices of steps of layer 13 that came in. -/
namespace Go.Proofs.YtdjjbmefaggelaaGreat
open Go.RowKit Go.ChangeShapes Go.WideShapes Go.Deep

section
variable {H : Type} {enc : TypeId × Value → H} {w : World} {base : Nat} {held : Bool} {fuel : Nat} {A : Option Addr} {len cap : Nat} {x : DataW H × List MemPlace}
set_option maxRecDepth 100000 in
theorem open_de {v0 v1 v2 v3 : Value} {n : Nat} {d : DataW H × List MemPlace} (h : DataW.trod enc Tryz.prog w base (fun _ => true) held n 32 [v0, v1, v2, v3] = some d) :
    ∃ a b c u, v0 = .int .i64 a ∧ v1 = .int .i64 b ∧ v2 = .int .i64 c ∧ v3 = .bool u ∧ (-9223372036854775808 ≤ a ∧ a ≤ 9223372036854775807) ∧ (-9223372036854775808 ≤ b ∧ b ≤ 9223372036854775807) ∧ (-9223372036854775808 ≤ c ∧ c ≤ 9223372036854775807) := by
  have hone : oneCellFields Tryz.prog (match Tryz.prog.underlying 32 with
    | some (.struct fs) => fs
    | _ => #[]) = true := by kernel_rfl
  rw [Tryz.underlying32] at hone
  dsimp only at hone
  obtain ⟨xs, n', _, _, _, hlen, hf⟩ := DataW.trod_struct Tryz.underlying32 h
  match xs, hlen with
  | [y0, y1, y2, y3], _ =>
    have g0 := hf 0 _ rfl
    have g1 := hf 1 _ rfl
    have g2 := hf 2 _ rfl
    have g3 := hf 3 _ rfl
    rw [(hone_of hone 0 _ rfl).1, (hone_of hone 0 _ rfl).2] at g0
    rw [(hone_of hone 1 _ rfl).1, (hone_of hone 1 _ rfl).2] at g1
    rw [(hone_of hone 2 _ rfl).1, (hone_of hone 2 _ rfl).2] at g2
    rw [(hone_of hone 3 _ rfl).1, (hone_of hone 3 _ rfl).2] at g3
    simp only [List.drop_zero, List.drop_succ_cons, List.take_succ_cons, List.take_zero, List.getElem?_cons_zero, List.getElem?_cons_succ] at g0 g1 g2 g3
    obtain ⟨n0, h0, _, w0⟩ := DataW.trod_int Tryz.underlying3 g0
    obtain ⟨n1, h1, _, w1⟩ := DataW.trod_int Tryz.underlying3 g1
    obtain ⟨n2, h2, _, w2⟩ := DataW.trod_int Tryz.underlying3 g2
    obtain ⟨u, h3, _⟩ := DataW.trod_bool Tryz.underlying4 g3
    simp at h0 h1 h2 h3
    have b0 := bounds_i64 w0
    have b1 := bounds_i64 w1
    have b2 := bounds_i64 w2
    exact ⟨n0, n1, n2, u, h0, h1, h2, h3, by omega, by omega, by omega⟩
set_option maxRecDepth 100000 in
theorem open_sps (h : DataW.trod enc Tryz.prog w base (fun _ => true) held fuel 23 [.slice A len cap] = some x) : ∃ l : List Sp, l.length = len ∧ SpRd w w.heap.size A l ∧ len ≤ maxLen := by
  have hC : Tryz.prog.cellsOf 34 = 5 := by kernel_rfl
  have hC0 : Tryz.prog.cellsOf 32 = 4 := by kernel_rfl
  have hC1 : Tryz.prog.cellsOf 4 = 1 := by kernel_rfl
  rcases open_slice Tryz.underlying23 h with ⟨hcs, _⟩ | ⟨a, l, c, m, n, D, Pl, hcs, _, hl, hm, hmm, _, hi⟩
  · simp at hcs
    obtain ⟨rfl, rfl, rfl⟩ := hcs
    exact ⟨[], rfl, fun hn => absurd hn (by simp), Nat.zero_le _⟩
  · simp at hcs
    obtain ⟨rfl, rfl, rfl⟩ := hcs
    simp only [if_true] at hmm
    subst hmm
    rw [hC] at hi
    obtain ⟨ds, hd, hp⟩ := list_of (p := fun i (d : Sp) => w.cell? (a.add (i * 5)) = some (.int .i64 d.d.what) ∧ w.cell? (a.add (i * 5 + 1)) = some (.int .i64 d.d.n) ∧ w.cell? (a.add (i * 5 + 2)) = some (.int .i64 d.d.m) ∧ w.cell? (a.add (i * 5 + 3)) = some (.bool d.d.raw) ∧ w.cell? (a.add (i * 5 + 4)) = some (.bool d.re) ∧
        (-9223372036854775808 ≤ d.d.what ∧ d.d.what ≤ 9223372036854775807) ∧ (-9223372036854775808 ≤ d.d.n ∧ d.d.n ≤ 9223372036854775807) ∧ (-9223372036854775808 ≤ d.d.m ∧ d.d.m ≤ 9223372036854775807)) len (fun i hil => by
      obtain ⟨cs', hc, ht⟩ := hi i (by omega)
      obtain ⟨_, hcl, hat⟩ := World.cells?_some hc
      obtain ⟨xs, n', _, _, _, hlen, hf⟩ := DataW.trod_struct Tryz.underlying34 ht
      match cs', hcl, xs, hlen with
      | [v0, v1, v2, v3, v4], _, [y0, y1], _ =>
        have g0 := hf 0 _ rfl
        have g1 := hf 1 _ rfl
        simp only [List.getElem_toArray, List.getElem_cons_zero, List.getElem_cons_succ] at g0 g1
        rw [hC0] at g0
        rw [hC1] at g1
        simp only [List.drop_zero, List.drop_succ_cons, List.take_succ_cons, List.take_zero, List.getElem?_cons_zero, List.getElem?_cons_succ] at g0 g1
        obtain ⟨n0, n1, n2, u, rfl, rfl, rfl, rfl, b0, b1, b2⟩ := open_de g0
        obtain ⟨u2, h3, _⟩ := DataW.trod_bool Tryz.underlying4 g1
        simp at h3
        subst h3
        have a0 := hat 0 (by omega)
        have a1 := hat 1 (by omega)
        have a2 := hat 2 (by omega)
        have a3 := hat 3 (by omega)
        have a4 := hat 4 (by omega)
        rw [Go.Deep.add_add] at a0 a1 a2 a3 a4
        exact ⟨⟨⟨n0, n1, n2, u⟩, u2⟩, a0, a1, a2, a3, a4, b0, b1, b2⟩)
    refine ⟨ds, hd, fun hn => ?_, by omega⟩
    obtain ⟨d, hd0⟩ : ∃ d, ds[0]? = some d := ⟨ds[0], List.getElem?_eq_getElem hn⟩
    obtain ⟨h0, _⟩ := hp 0 d hd0
    rw [Nat.zero_mul] at h0
    obtain ⟨b, o, rfl, hlt, e⟩ := add_plain h0
    refine ⟨b, o, rfl, hlt, fun j d hj => ?_⟩
    obtain ⟨h0, h1, h2, h3, h4, h5⟩ := hp j d hj
    rw [e] at h0 h1 h2 h3 h4
    exact ⟨h0, h1, h2, h3, h4, h5⟩
end
end Go.Proofs.YtdjjbmefaggelaaGreat
