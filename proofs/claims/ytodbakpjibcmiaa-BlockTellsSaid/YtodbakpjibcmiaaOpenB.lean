/- Slices and structs that came in, in the words of the contracts: bytes, bools, numbers, what is laid, a block. -/
import Derived.Test.YtodbakpjibcmiaaLaw00
import Derived.Test.YtodbakpjibcmiaaArgs
import Derived.Test.YtodbakpjibcmiaaChecked
import Derived.Deep.Grids
import Derived.Deep.Fields
import Derived.Lib.SmallJoins
namespace Go.Proofs.Ytodbakpjibcmiaa
open Go.RowKit Go.ChangeShapes Go.WideShapes Go.Deep

theorem list_of {α : Type} {p : Nat → α → Prop} : ∀ (n : Nat), (∀ i, i < n → ∃ x, p i x) → ∃ l : List α, l.length = n ∧ ∀ i x, l[i]? = some x → p i x
  | 0, _ => ⟨[], rfl, fun i x h => by simp at h⟩
  | n + 1, h => by
    obtain ⟨l, hl, hp⟩ := list_of n (fun i hi => h i (by omega))
    obtain ⟨x, hx⟩ := h n (by omega)
    refine ⟨l ++ [x], by simp [hl], fun i y hy => ?_⟩
    rcases Nat.lt_or_ge i l.length with h1 | h1
    · rw [List.getElem?_append_left h1] at hy
      exact hp i y hy
    · rw [List.getElem?_append_right h1] at hy
      have e : i - l.length = 0 := by
        rcases Nat.eq_zero_or_pos (i - l.length) with h2 | h2
        · exact h2
        · rw [List.getElem?_eq_none (by simp; omega)] at hy; cases hy
      rw [e] at hy
      obtain rfl : x = y := by simpa using hy
      obtain rfl : i = n := by omega
      exact hx

theorem add_plain {w : World} {a : Addr} {v : Value} (h : w.cell? (a.add 0) = some v) : ∃ b o, a = ⟨b, o, none⟩ ∧ b < w.heap.size ∧ ∀ j, a.add j = ⟨b, o + j, none⟩ := by
  obtain ⟨b, o, sp⟩ := a
  obtain rfl : sp = none := by simpa [Addr.add] using World.cell?_spot h
  have e : ∀ j, (⟨b, o, none⟩ : Addr).add j = ⟨b, o + j, none⟩ := fun j => by unfold Addr.add; split <;> simp_all
  refine ⟨b, o, rfl, ?_, e⟩
  rw [e] at h
  exact cell_lt h

/-- A slice of bools that came in. -/
def Boo (w : World) (A : Option Addr) (kb : List Bool) : Prop := 0 < kb.length → ∃ b o, A = some ⟨b, o, none⟩ ∧ b < w.heap.size ∧ ∀ j u, kb[j]? = some u → w.cell? ⟨b, o + j, none⟩ = some (.bool u)

section
variable {H : Type} {enc : TypeId × Value → H} {w : World} {base : Nat} {held : Bool} {fuel : Nat} {A : Option Addr} {len cap : Nat} {x : DataW H × List MemPlace}
theorem open_boo (h : DataW.trod enc Try.prog w base (fun _ => true) held fuel 49 [.slice A len cap] = some x) : ∃ kb : List Bool, kb.length = len ∧ Boo w A kb ∧ len ≤ maxLen := by
  rcases open_bools Try.underlying49 Try.underlying4 (by kernel_rfl) h with ⟨hcs, _⟩ | ⟨a, l, c, B, hcs, _, hl, hm, _, hc⟩
  · simp at hcs
    obtain ⟨rfl, rfl, rfl⟩ := hcs
    exact ⟨[], rfl, fun hn => absurd hn (by simp), Nat.zero_le _⟩
  · simp at hcs
    obtain ⟨rfl, rfl, rfl⟩ := hcs
    obtain ⟨kb, hk, hp⟩ := list_of (p := fun i b => w.cell? (a.add i) = some (.bool b)) len (fun i hi => ⟨B i, hc i (by omega)⟩)
    refine ⟨kb, hk, fun hn => ?_, by omega⟩
    obtain ⟨b, o, rfl, hlt, e⟩ := add_plain (hc 0 (by omega))
    refine ⟨b, o, rfl, hlt, fun j u hu => ?_⟩
    rw [← e]
    exact hp j u hu

theorem open_byt {fuel : Nat} {A : Option Addr} {len cap : Nat} {x : DataW H × List MemPlace} (h : DataW.trod enc Try.prog w base (fun _ => true) held fuel 23 [.slice A len cap] = some x) : ∃ bs : List UInt8, Rd w w.heap.size A len bs ∧ len ≤ cap ∧ cap ≤ maxLen ∧ (A = none → cap = 0) := by
  rcases open_ints Try.underlying23 Try.underlying5 (by kernel_rfl) h with ⟨hcs, _⟩ | ⟨y, l, c, zs, hcs, _, hl, hm, hz, _, hcell, hwz⟩
  · simp at hcs
    obtain ⟨rfl, rfl, rfl⟩ := hcs
    exact rd_of_row (zs := []) (.inl ⟨rfl, rfl, rfl, rfl⟩)
  · simp at hcs
    obtain ⟨rfl, rfl, rfl⟩ := hcs
    exact rd_of_row (zs := zs) (.inr ⟨_, rfl, hl, hm, by simpa using hz, hcell, hwz⟩)

theorem open_ns (h : DataW.trod enc Try.prog w base (fun _ => true) held fuel 48 [.slice A len cap] = some x) : ∃ l : List Int, l.length = len ∧ IRd w w.heap.size A l ∧ (∀ z ∈ l, -9223372036854775808 ≤ z ∧ z ≤ 9223372036854775807) ∧ len ≤ maxLen := by
  rcases open_ints Try.underlying48 Try.underlying3 (by kernel_rfl) h with ⟨hcs, _⟩ | ⟨y, l, c, zs, hcs, _, hl, hm, hz, _, hcell, hwz⟩
  · simp at hcs
    obtain ⟨rfl, rfl, rfl⟩ := hcs
    exact ⟨[], rfl, fun hn => absurd hn (by simp), (fun z hz => by cases hz), Nat.zero_le _⟩
  · simp at hcs
    obtain ⟨rfl, rfl, rfl⟩ := hcs
    have hz : zs.length = cap := by simpa using hz
    refine ⟨zs.take len, by rw [List.length_take]; omega, fun hn => ?_, fun z hz' => ?_, by omega⟩
    · rw [List.length_take] at hn
      obtain ⟨b, o, rfl, hlt, e⟩ := add_plain (hcell 0 (by omega))
      refine ⟨b, o, rfl, hlt, fun j u hu => ?_⟩
      rw [List.getElem?_take] at hu
      split at hu
      · have hc := hcell j (by omega)
        rw [e, List.getD_eq_getElem?_getD, hu] at hc
        exact hc
      · cases hu
    · have := bounds_i64 (hwz z (List.mem_of_mem_take hz'))
      omega

set_option maxRecDepth 100000 in
theorem open_blk {r : Reach} {b0 : Nat} {v : Value} {d : DataW H} {p : List MemPlace} (hval : Value.okWide Try.prog w r b0 25 v) (h : DataW.Trod enc Try.prog w base (fun _ => true) held 25 v d p) :
    ∃ (o s : Int) (u : Bool), v = .agg #[.int .i64 o, .int .i64 s, .bool u] ∧ (-9223372036854775808 ≤ o ∧ o ≤ 9223372036854775807) ∧ (-9223372036854775808 ≤ s ∧ s ≤ 9223372036854775807) := by
  obtain ⟨v0, v1, v2, y0, y1, y2, n, rfl, _, _, g0, g1, g2⟩ := Go.Joins.open_agg3 Try.underlying25 (by kernel_rfl) (by kernel_rfl) hval h
  obtain ⟨n0, h0, _, w0⟩ := DataW.trod_int Try.underlying3 g0
  obtain ⟨n1, h1, _, w1⟩ := DataW.trod_int Try.underlying3 g1
  obtain ⟨u, h2, _⟩ := DataW.trod_bool Try.underlying4 g2
  simp at h0 h1 h2
  subst h0 h1 h2
  have b0 := bounds_i64 w0
  have b1 := bounds_i64 w1
  exact ⟨n0, n1, u, rfl, by omega, by omega⟩

end
end Go.Proofs.Ytodbakpjibcmiaa
