/- The contracts of the laws' words: Pick, Blocks and Ints of lists that are the same. -/
import Derived.Test.YteomiekjcnpnlaaMem
import Derived.Test.YteomiekjcnpnlaaBlkM
import Derived.Test.YteomiekjcnpnlaaChecked
import Derived.Deep.QuietTactic
import Derived.BigQuiet
import Derived.WalkSpells
import Derived.IntWalk
namespace Go.Proofs.Yteomiekjcnpnlaa
open Go.RowKit

/-- A slice of blocks reads so; a slice of numbers. -/
def BkRd (w : World) (B : Nat) (A : Option Addr) (l : List Bk) : Prop := 0 < l.length → ∃ b o, A = some ⟨b, o, none⟩ ∧ b < B ∧ ∀ j x, l[j]? = some x →
  w.cell? ⟨b, o + j * 3, none⟩ = some (.int .i64 (x.off : Int)) ∧ w.cell? ⟨b, o + j * 3 + 1, none⟩ = some (.int .i64 (x.size : Int)) ∧ w.cell? ⟨b, o + j * 3 + 2, none⟩ = some (.bool x.used)
def IRd (w : World) (B : Nat) (A : Option Addr) (l : List Int) : Prop := 0 < l.length → ∃ b o, A = some ⟨b, o, none⟩ ∧ b < B ∧ ∀ j x, l[j]? = some x → w.cell? ⟨b, o + j, none⟩ = some (.int .i64 x)
/-- A number, or a block, that is laid. -/
structure La where
  what : Int
  at_ : Int
  v : Nat
/-- A slice of such. -/
def LaRd (w : World) (B : Nat) (A : Option Addr) (l : List La) : Prop := 0 < l.length → ∃ b o, A = some ⟨b, o, none⟩ ∧ b < B ∧ ∀ j x, l[j]? = some x →
  w.cell? ⟨b, o + j * 3, none⟩ = some (.int .i64 x.what) ∧ w.cell? ⟨b, o + j * 3 + 1, none⟩ = some (.int .i64 x.at_) ∧ w.cell? ⟨b, o + j * 3 + 2, none⟩ = some (.int .u64 (x.v : Int)) ∧
  (-9223372036854775808 ≤ x.what ∧ x.what ≤ 9223372036854775807) ∧ (-9223372036854775808 ≤ x.at_ ∧ x.at_ ≤ 9223372036854775807) ∧ x.v < 18446744073709551616
theorem LaRd.below {w w' : World} {B : Nat} {A : Option Addr} {l : List La} (h : LaRd w B A l) (hb : Below B w w') : LaRd w' B A l := fun hn => by
  obtain ⟨b, o, e, hB, hc⟩ := h hn
  refine ⟨b, o, e, hB, fun j x hx => ?_⟩
  obtain ⟨h0, h1, h2, h3⟩ := hc j x hx
  exact ⟨(hb.cell (p := ⟨b, _, none⟩) hB).trans h0, (hb.cell (p := ⟨b, _, none⟩) hB).trans h1, (hb.cell (p := ⟨b, _, none⟩) hB).trans h2, h3⟩

theorem BkRd.below {w w' : World} {B : Nat} {A : Option Addr} {l : List Bk} (h : BkRd w B A l) (hb : Below B w w') : BkRd w' B A l := fun hn => by
  obtain ⟨b, o, e, hB, hc⟩ := h hn
  refine ⟨b, o, e, hB, fun j x hx => ?_⟩
  obtain ⟨h0, h1, h2⟩ := hc j x hx
  exact ⟨(hb.cell (p := ⟨b, _, none⟩) hB).trans h0, (hb.cell (p := ⟨b, _, none⟩) hB).trans h1, (hb.cell (p := ⟨b, _, none⟩) hB).trans h2⟩
theorem BkRd.more {w : World} {B B' : Nat} {A : Option Addr} {l : List Bk} (h : BkRd w B A l) (hB : B ≤ B') : BkRd w B' A l := fun hn => by
  obtain ⟨b, o, e, h1, hc⟩ := h hn
  exact ⟨b, o, e, Nat.lt_of_lt_of_le h1 hB, hc⟩
theorem IRd.below {w w' : World} {B : Nat} {A : Option Addr} {l : List Int} (h : IRd w B A l) (hb : Below B w w') : IRd w' B A l := fun hn => by
  obtain ⟨b, o, e, hB, hc⟩ := h hn
  exact ⟨b, o, e, hB, fun j x hx => (hb.cell (p := ⟨b, _, none⟩) hB).trans (hc j x hx)⟩
theorem IRd.more {w : World} {B B' : Nat} {A : Option Addr} {l : List Int} (h : IRd w B A l) (hB : B ≤ B') : IRd w B' A l := fun hn => by
  obtain ⟨b, o, e, h1, hc⟩ := h hn
  exact ⟨b, o, e, Nat.lt_of_lt_of_le h1 hB, hc⟩
theorem pk_i {k : IntKind} {a b : Int} (h : a = b) : Ending.returned (.int k a) = .returned (.int k b) := by rw [h]

end Go.Proofs.Yteomiekjcnpnlaa
