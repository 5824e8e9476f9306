/- The example of layer 4: it tells true and writes nothing that was there. -/
import Derived.Test.YtkddcfaomaphaaaDisk4
namespace Go.Proofs.Ytkddcfaomaphaaa
open Go.RowKit

theorem conv_B {w : World} {B n : Nat} {A : Option Addr} {bs : List UInt8} (h : Rd w B A n bs) (c : Nat) (x : LaterB B w) : (convert 22 9 (.slice A n c)).run Try.prog x.val = .ok (.string (strB bs)) x.val := conv_rd (h.below x.ext)

theorem Rd.own_block {w : World} {B n b o : Nat} {bs : List UInt8} (h : Rd w B (some ⟨b, o, none⟩) n bs) : Rd w (b + 1) (some ⟨b, o, none⟩) n bs :=
  ⟨h.1, fun hn => by
    obtain ⟨b', o', e, _, hc⟩ := h.2 hn
    cases e
    exact ⟨b, o, rfl, by omega, hc⟩⟩

/-- Blocks from B on, below N. -/
def iv (B N k : Nat) : Prop := B ≤ k ∧ k < N

theorem bool_inf : (Try.prog.info? 4).map (fun i => (i.zero, i.size, i.bytes)) = some (some (.bool false), 1, 1) := by kernel_rfl

theorem Rd.own' {w : World} {base n c : Nat} {A : Option Addr} {bs : List UInt8} (h : w.ownsRow base 5 1 (.slice A n c) n (bs.map bv)) : Rd w w.heap.size A n bs ∧ ∀ a, A = some a → base ≤ a.block := by
  obtain ⟨A', c', e, _, hr⟩ := own_any h
  injection e with e1
  subst e1
  exact ⟨hr, fun a e => (h.lt a.block (by rw [e]; rfl)).1⟩

end Go.Proofs.Ytkddcfaomaphaaa
