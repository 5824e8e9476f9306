/- What a deed comes to, of a disk and of the document's own: the same. Words, and the ways that do not write. -/
import Derived.Test.YtbalmacabojbpaaTwo
import Derived.Test.YtbalmacabojbpaaTailS
import Derived.Test.YtbalmacabojbpaaUp4
namespace Go.Proofs.Ytbalmacabojbpaa
open Go.RowKit

theorem sector_fl (x : UInt8) (w : World) :
    Calls Try.prog 24 #[.int .u8 (x.toNat : Int)] w fun e w' => e = .returned (.slice (some ⟨w.heap.size, 0, none⟩) 512 512) ∧ Rd w' w'.heap.size (some ⟨w.heap.size, 0, none⟩) 512 (full x) ∧ Below w.heap.size w w' := by
  refine (sector_any x w).mono ?_
  rintro e w' ⟨h1, h2, h3⟩
  have := h2.reads
  rw [List.length_replicate] at this
  exact ⟨h1, this, h3⟩
theorem conv_nl (W : World) : (convert 29 9 (.slice none 0 0)).run Try.prog W = .ok (.string (strB [])) W := conv_rd (B := 0) Rd.nil_

/-- A deed's numbers fit; its bytes and its bools lie below B. -/
structure Dd.fit (d : Dd) (w : World) (B : Nat) : Prop where
  what : -9223372036854775808 ≤ d.what ∧ d.what ≤ 9223372036854775807
  i : -9223372036854775808 ≤ d.i ∧ d.i ≤ 9223372036854775807
  n : -9223372036854775808 ≤ d.n ∧ d.n ≤ 9223372036854775807
  bytes : ∃ cs : List UInt8, Rd w B d.bA d.bn cs ∧ d.bn ≤ d.bc ∧ d.bc ≤ maxLen ∧ (d.bA = none → d.bc = 0)
  keep : ∃ kb : List Bool, kb.length = d.kn ∧ d.kn ≤ maxLen ∧ (0 < kb.length → ∃ b o, d.kA = some ⟨b, o, none⟩ ∧ b < B ∧ ∀ j u, kb[j]? = some u → w.cell? ⟨b, o + j, none⟩ = some (.bool u))

/-- A deed is done. -/
def Does (B : Nat) (w : World) (g gr n N : Nat) (d : Dd) : Prop :=
  Calls Try.prog 19 #[.pointer (some ⟨g, 0, none⟩), .pointer (some ⟨gr, 0, none⟩), .agg #[.int .i64 d.what, .int .i64 d.i, .int .i64 d.n, .int .u8 (d.x.toNat : Int), .slice d.bA d.bn d.bc, .slice d.kA d.kn d.kc]] w fun e w' =>
    e = .returned (.int .i64 1) ∧ TwoE B w' g gr (n + 1) N ∧ Below B w w'

theorem Tch.more_ {S S' : Nat → Prop} {w w' : World} (h : Tch S w w') (hs : ∀ j, S j → S' j) : Tch S' w w' := ⟨h.os, h.tape, h.output, h.size, fun j hj hn => h.block j hj (fun h' => hn (hs j h'))⟩

end Go.Proofs.Ytbalmacabojbpaa
