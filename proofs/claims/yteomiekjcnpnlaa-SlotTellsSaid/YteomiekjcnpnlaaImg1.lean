/- Images in memory: blocks and bytes that came in. -/
import Derived.Test.YteomiekjcnpnlaaImgM
import Derived.Test.YteomiekjcnpnlaaMem
import Derived.Test.YteomiekjcnpnlaaTag1
namespace Go.Proofs.Yteomiekjcnpnlaa
open Go.RowKit

/-- A slice of blocks. -/
def RkRd (w : World) (B : Nat) (A : Option Addr) (l : List Rk) : Prop := 0 < l.length → ∃ b o, A = some ⟨b, o, none⟩ ∧ b < B ∧ ∀ j x, l[j]? = some x →
  w.cell? ⟨b, o + j * 3, none⟩ = some (.int .i64 x.o) ∧ w.cell? ⟨b, o + j * 3 + 1, none⟩ = some (.int .i64 x.s) ∧ w.cell? ⟨b, o + j * 3 + 2, none⟩ = some (.bool x.u) ∧
  (-9223372036854775808 ≤ x.o ∧ x.o ≤ 9223372036854775807) ∧ (-9223372036854775808 ≤ x.s ∧ x.s ≤ 9223372036854775807)
/-- A slice of slices of bytes. -/
def DtRd (w : World) (B : Nat) (A : Option Addr) (d : List (List UInt8)) : Prop := 0 < d.length → ∃ b o, A = some ⟨b, o, none⟩ ∧ b < B ∧ ∀ j y, d[j]? = some y →
  ∃ A' k, w.cell? ⟨b, o + j, none⟩ = some (.slice A' y.length k) ∧ Rd w B A' y.length y ∧ y.length ≤ maxLen ∧ y.length ≤ k ∧ (A' = none → k = 0)
section
variable {w w' : World} {B B' : Nat} {A : Option Addr} {l : List Rk} {d : List (List UInt8)}
theorem RkRd.below (h : RkRd w B A l) (hb : Below B w w') : RkRd w' B A l := fun hn => by
  obtain ⟨b, o, e, hB, hc⟩ := h hn
  refine ⟨b, o, e, hB, fun j x hx => ?_⟩
  obtain ⟨h0, h1, h2, h3⟩ := hc j x hx
  exact ⟨(hb.cell (p := ⟨b, o + j * 3, none⟩) hB).trans h0, (hb.cell (p := ⟨b, o + j * 3 + 1, none⟩) hB).trans h1, (hb.cell (p := ⟨b, o + j * 3 + 2, none⟩) hB).trans h2, h3⟩
theorem RkRd.more (h : RkRd w B A l) (hB : B ≤ B') : RkRd w B' A l := fun hn => by
  obtain ⟨b, o, e, hb, hc⟩ := h hn
  exact ⟨b, o, e, Nat.lt_of_lt_of_le hb hB, hc⟩
theorem DtRd.below (h : DtRd w B A d) (hb : Below B w w') : DtRd w' B A d := fun hn => by
  obtain ⟨b, o, e, hB, hc⟩ := h hn
  refine ⟨b, o, e, hB, fun j x hx => ?_⟩
  obtain ⟨A', k, h0, h1, h2⟩ := hc j x hx
  exact ⟨A', k, (hb.cell (p := ⟨b, o + j, none⟩) hB).trans h0, h1.below hb, h2⟩
theorem DtRd.more (h : DtRd w B A d) (hB : B ≤ B') : DtRd w B' A d := fun hn => by
  obtain ⟨b, o, e, hb, hc⟩ := h hn
  refine ⟨b, o, e, Nat.lt_of_lt_of_le hb hB, fun j x hx => ?_⟩
  obtain ⟨A', k, h0, h1, h2⟩ := hc j x hx
  exact ⟨A', k, h0, h1.more hB, h2⟩
end
theorem below_dN (w : World) (k : Nat) : Below w.heap.size w (w.drewN k) := ⟨rfl, rfl, rfl, Nat.le_refl _, fun _ _ => rfl⟩
/-- An operation whose guard says no. -/
theorem tail_no {P : Program} {ops : Array Oper} {Q : Exit → Act → World → Prop} {i B : Nat} {o : Oper} {a : Act} {w : World} {K : Act → World → Prop} (ho : ops[i]? = some o) (d : Option Tmp) (hd : o.dst = d) (hw : Region.wanted o (yielded ops a.tmps) = false) (hk : K (a.put d undef) w) : wpOp P ops Q i (fun a'' w'' => Below B w w'' ∧ K a'' w'') a w := by
  subst hd
  unfold wpOp
  simp only [ho]
  rw [if_neg (by rw [hw]; decide)]
  exact ⟨Below.refl _ _, hk⟩
/-- An image's value. -/
def imV (n : Int) (A1 : Option Addr) (ll k1 : Nat) (A2 : Option Addr) (dl k2 : Nat) : Value := .agg #[.int .i64 n, .slice A1 ll k1, .slice A2 dl k2]
end Go.Proofs.Yteomiekjcnpnlaa
