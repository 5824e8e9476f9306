/- Slices of deeds and of bools that came in, in the words of the contracts. -/
import Derived.Test.YtbalmacabojbpaaStand
import Derived.Test.YtbalmacabojbpaaArgs
import Derived.Test.YtbalmacabojbpaaChecked
import Derived.Deep.Grids
import Derived.Deep.Fields
namespace Go.Proofs.Ytbalmacabojbpaa
open Go.RowKit Go.ChangeShapes Go.WideShapes Go.Deep

theorem list_of {α : Type} {p : Nat → α → Prop} : ∀ (n : Nat), (∀ i, i < n → ∃ x, p i x) → ∃ l : List α, l.length = n ∧ ∀ i x, l[i]? = some x → p i x
  | 0, _ => ⟨[], rfl, fun i x h => by simp at h⟩
  | n + 1, h => by
    obtain ⟨l, hl, hp⟩ := list_of n (fun i hi => h i (by omega))
    obtain ⟨x, hx⟩ := h n (by omega)
    refine ⟨l ++ [x], by simp [hl], fun i y hy => ?_⟩
    rcases Nat.lt_or_ge i l.length with h1 | h1
    · rw [List.getElem?_append_left h1] at hy
      exact hp i y hy
    · rw [List.getElem?_append_right h1] at hy
      have e : i - l.length = 0 := by
        rcases Nat.eq_zero_or_pos (i - l.length) with h2 | h2
        · exact h2
        · rw [List.getElem?_eq_none (by simp; omega)] at hy; cases hy
      rw [e] at hy
      obtain rfl : x = y := by simpa using hy
      obtain rfl : i = n := by omega
      exact hx

theorem add_plain {w : World} {a : Addr} {v : Value} (h : w.cell? (a.add 0) = some v) : ∃ b o, a = ⟨b, o, none⟩ ∧ b < w.heap.size ∧ ∀ j, a.add j = ⟨b, o + j, none⟩ := by
  obtain ⟨b, o, sp⟩ := a
  obtain rfl : sp = none := by simpa [Addr.add] using World.cell?_spot h
  have e : ∀ j, (⟨b, o, none⟩ : Addr).add j = ⟨b, o + j, none⟩ := fun j => by unfold Addr.add; split <;> simp_all
  refine ⟨b, o, rfl, ?_, e⟩
  rw [e] at h
  exact cell_lt h

/-- A slice of bools that came in. -/
def Boo (w : World) (A : Option Addr) (kb : List Bool) : Prop := 0 < kb.length → ∃ b o, A = some ⟨b, o, none⟩ ∧ b < w.heap.size ∧ ∀ j u, kb[j]? = some u → w.cell? ⟨b, o + j, none⟩ = some (.bool u)

section
variable {H : Type} {enc : TypeId × Value → H} {w : World} {base : Nat} {held : Bool} {fuel : Nat} {A : Option Addr} {len cap : Nat} {x : DataW H × List MemPlace}
theorem open_boo (h : DataW.trod enc Try.prog w base (fun _ => true) held fuel 46 [.slice A len cap] = some x) : ∃ kb : List Bool, kb.length = len ∧ Boo w A kb ∧ len ≤ maxLen := by
  rcases open_bools Try.underlying46 Try.underlying4 (by kernel_rfl) h with ⟨hcs, _⟩ | ⟨a, l, c, B, hcs, _, hl, hm, _, hc⟩
  · simp at hcs
    obtain ⟨rfl, rfl, rfl⟩ := hcs
    exact ⟨[], rfl, fun hn => absurd hn (by simp), Nat.zero_le _⟩
  · simp at hcs
    obtain ⟨rfl, rfl, rfl⟩ := hcs
    obtain ⟨kb, hk, hp⟩ := list_of (p := fun i b => w.cell? (a.add i) = some (.bool b)) len (fun i hi => ⟨B i, hc i (by omega)⟩)
    refine ⟨kb, hk, fun hn => ?_, by omega⟩
    obtain ⟨b, o, rfl, hlt, e⟩ := add_plain (hc 0 (by omega))
    refine ⟨b, o, rfl, hlt, fun j u hu => ?_⟩
    rw [← e]
    exact hp j u hu

theorem open_byt {fuel : Nat} {A : Option Addr} {len cap : Nat} {x : DataW H × List MemPlace} (h : DataW.trod enc Try.prog w base (fun _ => true) held fuel 29 [.slice A len cap] = some x) : ∃ bs : List UInt8, Rd w w.heap.size A len bs ∧ len ≤ cap ∧ cap ≤ maxLen ∧ (A = none → cap = 0) := by
  rcases open_ints Try.underlying29 Try.underlying5 (by kernel_rfl) h with ⟨hcs, _⟩ | ⟨y, l, c, zs, hcs, _, hl, hm, hz, _, hcell, hwz⟩
  · simp at hcs
    obtain ⟨rfl, rfl, rfl⟩ := hcs
    exact rd_of_row (zs := []) (.inl ⟨rfl, rfl, rfl, rfl⟩)
  · simp at hcs
    obtain ⟨rfl, rfl, rfl⟩ := hcs
    exact rd_of_row (zs := zs) (.inr ⟨_, rfl, hl, hm, by simpa using hz, hcell, hwz⟩)

/-- What a deed's bytes and bools are. -/
def Dd.inn (w : World) (d : Dd) : Prop := (∃ bs : List UInt8, Rd w w.heap.size d.bA d.bn bs ∧ d.bn ≤ d.bc ∧ d.bc ≤ maxLen ∧ (d.bA = none → d.bc = 0)) ∧ (∃ kb : List Bool, kb.length = d.kn ∧ Boo w d.kA kb ∧ d.kn ≤ maxLen) ∧
  (-9223372036854775808 ≤ d.what ∧ d.what ≤ 9223372036854775807) ∧ (-9223372036854775808 ≤ d.i ∧ d.i ≤ 9223372036854775807) ∧ (-9223372036854775808 ≤ d.n ∧ d.n ≤ 9223372036854775807)

set_option maxRecDepth 100000 in
theorem open_deeds (h : DataW.trod enc Try.prog w base (fun _ => true) held fuel 39 [.slice A len cap] = some x) : ∃ ds : List Dd, ds.length = len ∧ Dds w w.heap.size A ds ∧ (∀ d ∈ ds, d.inn w) ∧ len ≤ maxLen := by
  have hC : Try.prog.cellsOf 48 = 6 := by kernel_rfl
  have hone : oneCellFields Try.prog (match Try.prog.underlying 48 with
    | some (.struct fs) => fs
    | _ => #[]) = true := by kernel_rfl
  rw [Try.underlying48] at hone
  dsimp only at hone
  rcases open_slice Try.underlying39 h with ⟨hcs, _⟩ | ⟨a, l, c, m, n, D, Pl, hcs, _, hl, hm, hmm, _, hi⟩
  · simp at hcs
    obtain ⟨rfl, rfl, rfl⟩ := hcs
    exact ⟨[], rfl, fun hn => absurd hn (by simp), (fun d hd => by cases hd), Nat.zero_le _⟩
  · simp at hcs
    obtain ⟨rfl, rfl, rfl⟩ := hcs
    simp only [if_true] at hmm
    subst hmm
    rw [hC] at hi
    obtain ⟨ds, hd, hp⟩ := list_of (p := fun i (d : Dd) => d.inn w ∧ w.cell? (a.add (i * 6)) = some (.int .i64 d.what) ∧ w.cell? (a.add (i * 6 + 1)) = some (.int .i64 d.i) ∧ w.cell? (a.add (i * 6 + 2)) = some (.int .i64 d.n) ∧
        w.cell? (a.add (i * 6 + 3)) = some (.int .u8 (d.x.toNat : Int)) ∧ w.cell? (a.add (i * 6 + 4)) = some (.slice d.bA d.bn d.bc) ∧ w.cell? (a.add (i * 6 + 5)) = some (.slice d.kA d.kn d.kc)) len (fun i hil => by
      obtain ⟨cs', hc, ht⟩ := hi i (by omega)
      obtain ⟨_, hcl, hat⟩ := World.cells?_some hc
      obtain ⟨xs, n', _, _, _, hlen, hf⟩ := DataW.trod_struct Try.underlying48 ht
      match cs', hcl, xs, hlen with
      | [v0, v1, v2, v3, v4, v5], _, [y0, y1, y2, y3, y4, y5], _ =>
        have g0 := hf 0 _ rfl
        have g1 := hf 1 _ rfl
        have g2 := hf 2 _ rfl
        have g3 := hf 3 _ rfl
        have g4 := hf 4 _ rfl
        have g5 := hf 5 _ rfl
        rw [(hone_of hone 0 _ rfl).1, (hone_of hone 0 _ rfl).2] at g0
        rw [(hone_of hone 1 _ rfl).1, (hone_of hone 1 _ rfl).2] at g1
        rw [(hone_of hone 2 _ rfl).1, (hone_of hone 2 _ rfl).2] at g2
        rw [(hone_of hone 3 _ rfl).1, (hone_of hone 3 _ rfl).2] at g3
        rw [(hone_of hone 4 _ rfl).1, (hone_of hone 4 _ rfl).2] at g4
        rw [(hone_of hone 5 _ rfl).1, (hone_of hone 5 _ rfl).2] at g5
        simp only [List.drop_zero, List.drop_succ_cons, List.take_succ_cons, List.take_zero, List.getElem?_cons_zero, List.getElem?_cons_succ] at g0 g1 g2 g3 g4 g5
        obtain ⟨n0, h0, _, w0⟩ := DataW.trod_int Try.underlying3 g0
        obtain ⟨n1, h1, _, w1⟩ := DataW.trod_int Try.underlying3 g1
        obtain ⟨n2, h2, _, w2⟩ := DataW.trod_int Try.underlying3 g2
        obtain ⟨n3, h3, _, w3⟩ := DataW.trod_int Try.underlying5 g3
        obtain ⟨bA, bn, bc, rfl⟩ : ∃ bA bn bc, v4 = .slice bA bn bc := by
          rcases open_slice Try.underlying29 g4 with ⟨h, _⟩ | ⟨a, l, c, _, _, _, _, h, _⟩
          · exact ⟨_, _, _, by simpa using h⟩
          · exact ⟨_, _, _, by simpa using h⟩
        obtain ⟨kA, kn, kc, rfl⟩ : ∃ bA bn bc, v5 = .slice bA bn bc := by
          rcases open_slice Try.underlying46 g5 with ⟨h, _⟩ | ⟨a, l, c, _, _, _, _, h, _⟩
          · exact ⟨_, _, _, by simpa using h⟩
          · exact ⟨_, _, _, by simpa using h⟩
        simp at h0 h1 h2 h3
        subst h0 h1 h2 h3
        have b0 := bounds_i64 w0
        have b1 := bounds_i64 w1
        have b2 := bounds_i64 w2
        have b3 := bounds_u8 w3
        have ex : ((UInt8.ofNat n3.toNat).toNat : Int) = n3 := by
          have : (UInt8.ofNat n3.toNat).toNat = n3.toNat := by rw [UInt8.toNat_ofNat']; omega
          omega
        refine ⟨⟨n0, n1, n2, UInt8.ofNat n3.toNat, bA, bn, bc, kA, kn, kc⟩, ⟨open_byt g4, open_boo g5, by omega, by omega, by omega⟩, ?_⟩
        have a0 := hat 0 (by omega)
        have a1 := hat 1 (by omega)
        have a2 := hat 2 (by omega)
        have a3 := hat 3 (by omega)
        have a4 := hat 4 (by omega)
        have a5 := hat 5 (by omega)
        rw [Go.Deep.add_add] at a0 a1 a2 a3 a4 a5
        simp only [ex]
        exact ⟨a0, a1, a2, a3, a4, a5⟩)
    refine ⟨ds, hd, fun hn => ?_, fun d hdm => ?_, by omega⟩
    · obtain ⟨d, hd0⟩ : ∃ d, ds[0]? = some d := ⟨ds[0], List.getElem?_eq_getElem hn⟩
      obtain ⟨_, h0, _⟩ := hp 0 d hd0
      rw [Nat.zero_mul] at h0
      obtain ⟨b, o, rfl, hlt, e⟩ := add_plain h0
      refine ⟨b, o, rfl, hlt, fun j d hj => ?_⟩
      obtain ⟨_, h0, h1, h2, h3, h4, h5⟩ := hp j d hj
      rw [e] at h0 h1 h2 h3 h4 h5
      exact ⟨h0, h1, h2, h3, h4, h5⟩
    · obtain ⟨j, hj⟩ := List.getElem?_of_mem hdm
      exact (hp j d hj).1
end
end Go.Proofs.Ytbalmacabojbpaa
