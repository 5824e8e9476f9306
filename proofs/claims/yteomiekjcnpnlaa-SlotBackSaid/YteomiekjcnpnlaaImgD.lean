/- Rows of slices of bytes, made by the call; blocks that are others. -/
import Derived.Test.YteomiekjcnpnlaaImg6
import Derived.Great.BuildSlice
namespace Go.Proofs.Yteomiekjcnpnlaa
open Go.RowKit

/-- What a row of slices tells of bytes. -/
def DtO (w : World) (d : List (List UInt8)) (xs : List Value) : Prop := ∀ (i : Nat) (y : List UInt8), d[i]? = some y → y.length ≤ 100000 ∧ ∃ A k, xs[i]? = some (.slice A y.length k) ∧ w.ownsRow 0 5 1 (.slice A y.length k) y.length (y.map bv)
theorem DtO.rd {w : World} {B : Nat} {A : Option Addr} {c : Nat} {d : List (List UInt8)} {xs : List Value} (h : DtO w d xs) (ho : w.ownsRow B 24 1 (.slice A d.length c) d.length xs) : DtRd w w.heap.size A d := fun hn => by
  rcases ho.2 with ⟨hv, h0⟩ | ⟨g, cap, cur, hv, hbg, hg, hnc, hcm, hsz, htk⟩
  · omega
  · injection hv with e1 e2 e3
    refine ⟨g, 0, e1, heap_lt1 hg, fun j y hy => ?_⟩
    obtain ⟨hyl, A', k, hx, hr⟩ := h j y hy
    have hj : j < d.length := (List.getElem?_eq_some_iff.1 hy).1
    obtain ⟨A2, k2, e, hk0⟩ := own_slc hr
    injection e with e4 e5 e6
    subst e4 e6
    refine ⟨A', k, ?_, own_reads hr, by unfold maxLen; omega, ?_, hk0⟩
    · rw [Nat.zero_add, cell_of_row _ _ _ _ _ _ hg]
      rw [← htk, List.getElem?_take, if_pos (by omega)] at hx
      rw [← hx]; simp
    · rcases hr.2 with ⟨hv2, h02⟩ | ⟨g2, cap2, cur2, hv2, _, _, hnc2, _⟩
      · omega
      · injection hv2 with _ _ e7
        omega
theorem DtO.grown {w w' : World} {d : List (List UInt8)} {xs : List Value} {r : Option Nat} (h : DtO w d xs) (hg : w.grownBy w' r) (hr : ∀ k, r = some k → ∃ cs t fz, t ≠ 5 ∧ w.heap[k]? = some (.cells cs t fz)) : DtO w' d xs := by
  intro i y hy
  obtain ⟨hyl, A, k, hx, ho⟩ := h i y hy
  refine ⟨hyl, A, k, hx, own_off ho hg fun q hq hrq => ?_⟩
  obtain ⟨cs, t, fz, hne, hc⟩ := hr q hrq
  rcases ho.2 with ⟨hv, _⟩ | ⟨g, cap, cur, hv, _, hgc, _⟩
  · rw [hv] at hq; cases hq
  · rw [hv] at hq
    unfold Value.ownBlock at hq
    injection hq with hq
    subst hq
    rw [hgc] at hc
    injection hc with hc
    injection hc with _ e _
    exact absurd e.symm hne
theorem DtO.snoc {w : World} {d : List (List UInt8)} {xs : List Value} (h : DtO w d xs) (hl : xs.length = d.length) {y : List UInt8} {A : Option Addr} {k : Nat} (hy : y.length ≤ 100000) (ho : w.ownsRow 0 5 1 (.slice A y.length k) y.length (y.map bv)) : DtO w (d ++ [y]) (xs ++ [.slice A y.length k]) := by
  intro i z hz
  by_cases hi : i < d.length
  · rw [List.getElem?_append_left hi] at hz
    rw [List.getElem?_append_left (by omega)]
    exact h i z hz
  · rw [List.getElem?_append_right (by omega)] at hz
    rw [List.getElem?_append_right (by omega), hl]
    have e : i - d.length = 0 := by
      have := (List.getElem?_eq_some_iff.1 hz).1
      simp at this
      omega
    rw [e] at hz ⊢
    simp at hz
    subst hz
    exact ⟨hy, A, k, rfl, ho⟩
theorem own_ltB {w : World} {base n size : Nat} {t : TypeId} {v : Value} {xs : List Value} (h : w.ownsRow base t size v n xs) : ∀ k, v.ownBlock = some k → k < w.heap.size := by
  intro k hk
  rcases h.2 with ⟨hv, _⟩ | ⟨g, cap, cur, hv, _, hg, _⟩
  · rw [hv] at hk; cases hk
  · rw [hv] at hk
    unfold Value.ownBlock at hk
    injection hk with hk
    subst hk
    exact heap_lt1 hg
theorem own_typ {w : World} {base n size k : Nat} {t t' : TypeId} {v : Value} {xs : List Value} {cs : Array Value} {fz : Nat × Nat} (h : w.ownsRow base t size v n xs) (hk : v.ownBlock = some k) (hc : w.heap[k]? = some (.cells cs t' fz)) (hne : t ≠ t') : False := by
  rcases h.2 with ⟨hv, _⟩ | ⟨g, cap, cur, hv, _, hg, _⟩
  · rw [hv] at hk; cases hk
  · rw [hv] at hk
    unfold Value.ownBlock at hk
    injection hk with hk
    subst hk
    rw [hg] at hc
    injection hc with hc
    injection hc with _ e _
    exact hne e
theorem own_row {w : World} {base n size : Nat} {t : TypeId} {v : Value} {xs : List Value} (h : w.ownsRow base t size v n xs) : ∀ k, v.ownBlock = some k → ∃ cs fz, w.heap[k]? = some (.cells cs t fz) := by
  intro k hk
  rcases h.2 with ⟨hv, _⟩ | ⟨g, cap, cur, hv, _, hg, _⟩
  · rw [hv] at hk; cases hk
  · rw [hv] at hk
    unfold Value.ownBlock at hk
    injection hk with hk
    subst hk
    exact ⟨_, _, hg⟩
theorem own_ge {w : World} {base n size : Nat} {t : TypeId} {v : Value} {xs : List Value} (h : w.ownsRow base t size v n xs) : ∀ k, v.ownBlock = some k → base ≤ k := by
  intro k hk
  rcases h.2 with ⟨hv, _⟩ | ⟨g, cap, cur, hv, hb, _, _⟩
  · rw [hv] at hk; cases hk
  · rw [hv] at hk
    unfold Value.ownBlock at hk
    injection hk with hk
    subst hk
    exact hb
theorem grown_set (w : World) (g i : Nat) (v : Value) : w.grownBy (w.setCell ⟨g, i, none⟩ v) (some g) :=
  ⟨rfl, rfl, rfl, by simp, fun k _ hne => heap_setCell_other _ _ _ _ (fun e => hne (by rw [e]))⟩
theorem RkRd.off {w w' : World} {B g : Nat} {A : Option Addr} {l : List Rk} {t : TypeId} {fr : Nat × Nat} (h : RkRd w B A l) (hg : w.heap[g]? = some (.cells #[.int .i64 0, .slice none 0 0, .slice none 0 0] t fr)) (hk : ∀ k, k ≠ g → w'.heap[k]? = w.heap[k]?) : RkRd w' B A l := fun hn => by
  obtain ⟨b, o, e, hB, hc⟩ := h hn
  have hbg : b ≠ g := by
    intro e2
    subst e2
    obtain ⟨x, hx⟩ : ∃ x, l[0]? = some x := ⟨l[0]'hn, List.getElem?_eq_getElem _⟩
    obtain ⟨_, h1, _⟩ := hc 0 x hx
    rw [cell_of_row _ _ _ _ _ _ hg] at h1
    rcases o with _ | _ | o <;> simp at h1
  refine ⟨b, o, e, hB, fun j x hx => ?_⟩
  obtain ⟨h0, h1, h2, h3⟩ := hc j x hx
  have hh := hk b hbg
  refine ⟨?_, ?_, ?_, h3⟩
  · rw [← h0]; simp [World.cell?, hh]
  · rw [← h1]; simp [World.cell?, hh]
  · rw [← h2]; simp [World.cell?, hh]
theorem DtO.stay {w w' : World} {d : List (List UInt8)} {xs : List Value} (h : DtO w d xs) (hb : Below w.heap.size w w') : DtO w' d xs := by
  intro i y hy
  obtain ⟨hyl, A, k, hx, ho⟩ := h i y hy
  exact ⟨hyl, A, k, hx, own_stay ho hb (own_ltB ho)⟩
theorem dt_inf : (Try.prog.info? 24).map (fun i => (i.zero, i.size, i.bytes)) = some (some (.slice none 0 0), 1, 24) := by kernel_rfl
theorem run_one_d (w : World) (A : Option Addr) (n c : Nat) : (Instr.buildSlice 51 1 #[(0, .slice A n c)]).run Try.prog w = .ok (.slice (some ⟨w.heap.size, 0, none⟩) 1 1) (w.alloc (.cells #[.slice A n c] 24)) := by
  obtain ⟨i0, hi, hz0, hz1, hz2⟩ := info_parts dt_inf
  refine run_buildSlice w 51 24 1 _ _ i0 _ Try.underlying51 hi hz0 (by omega) (by omega) ?_
  rw [hz1]
  have e : Array.range (1 * 1) = #[0] := by decide
  rw [e]
  simp [Instr.fill, Value.cells]
end Go.Proofs.Yteomiekjcnpnlaa
