/- The contracts of the document's own lists: mark, Put. -/
import Derived.Test.YtodbakpjibcmiaaRef9a
import Derived.Test.YtodbakpjibcmiaaRef7e
namespace Go.Proofs.Ytodbakpjibcmiaa
open Go.RowKit

/-- A slice that is nil with nothing behind it, or lies in a block of S. -/
def KO (S : Nat → Prop) (A : Option Addr) (c : Nat) : Prop := (A = none → c = 0) ∧ ∀ a, A = some a → S a.block
/-- A slice of bytes that reads so. -/
def SlR (out : List UInt8) (w : World) (e : Ending) (w' : World) : Prop :=
  ∃ A' c', e = .returned (.slice A' out.length c') ∧ Rd w' w'.heap.size A' out.length out ∧ out.length ≤ c' ∧ (A' = none → c' = 0) ∧ Below w.heap.size w w'

section
variable (w : World)
theorem rlay_sl (S : Nat → Prop) (hS : ∀ k, w.heap.size ≤ k → S k) (A : Option Addr) (c B : Nat) (bs : List UInt8) (n : Nat) (hn : bs.length = n) (hr : Rd w B A n bs) (hB : B ≤ w.heap.size) (hA0 : KO S A c) (hl : n ≤ 100000) (o : Int) (v : Nat) (hv : v < 18446744073709551616) (p : Nat) (hp : o = (p : Int)) (ho : p + 8 ≤ n) :
    Calls Try.prog 35 #[.slice A n c, .int .i64 o, .int .u64 (v : Int)] w fun e w' => ∃ A' c', e = .returned (.slice A' n c') ∧ Rd w' w'.heap.size A' n (lyN bs p v) ∧ n ≤ c' ∧ KO S A' c' ∧ Below w.heap.size w w' := by
  subst hn hp
  refine (rlay_any w A c B bs hr hB hA0.1 hl p v hv ho).mono ?_
  rintro e w' ⟨A', c', rfl, hown, hb⟩
  rw [layN_eq, lyN_length _ _ _ ho] at hown ⊢
  obtain ⟨h1, h2, h3⟩ := own_facts hown
  exact ⟨A', c', rfl, h1, h2, ⟨h3, fun a e => hS _ (hown.lt a.block (by rw [e]; rfl)).1⟩, hb⟩

end
end Go.Proofs.Ytodbakpjibcmiaa
