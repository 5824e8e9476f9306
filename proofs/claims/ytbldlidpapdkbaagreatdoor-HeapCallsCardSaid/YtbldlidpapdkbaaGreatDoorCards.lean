/-
  DERIVED. GIVEN WITH THE SEED: THE CARDS: each row of YtbldlidpapdkbaaGreatDoorRows.lean that lists a variable, with what it lists TIED to the program's text (the seventh form; the later family's looks); each row that meets fmt, with fmt's text TOLD by the authors' own Lean function (tested against real Go, not proved from fmt's source: count such statements apart). THE CARD IS WHAT COUNTS. Prove the row's statement (the work); the ties are given (YtbldlidpapdkbaaGreatDoorTie.lean); close each card by the builder's one call (the guide's Derived/Test/ToyasCard.lean, 'card_holds'). Laid BY PROGRAM, IN A SANDBOX (cutbox-door.mjs). By AI agents, Wed Nov 11 2026. No macro, syntax, notation, axiom, sorry.
-/
import Derived.Test.YtbldlidpapdkbaaGreatDoorRows
import GoSem.ClaimSeven
namespace Go.Proofs.YtbldlidpapdkbaaGreatDoor
namespace Rows

/-- THE TIED CARD OF 'cantlelaw14.HeapPlays'. -/
def heapPlaysCard : Claim7 := { stood := { row := heapPlaysRow, standIns := [], harness := (true, "550b2c30c319f4da8dd441b3c5b5f8c65844bf66f346d91ae06a1639619e077f"), looks := true }, kinds := [], alts := [], laidByText := true, laidKinds := [.handle], laidTests := true, laidLooks := .later }
def HeapPlaysCardSaid : Prop := Claim7.holds Tryz.pinned (.plain (OpenSpec.ofChange heapPlaysSpec)) heapPlaysCard

/-- THE TIED CARD OF 'cantlelaw14.HeapCalls'. -/
def heapCallsCard : Claim7 := { stood := { row := heapCallsRow, standIns := [], harness := (true, "550b2c30c319f4da8dd441b3c5b5f8c65844bf66f346d91ae06a1639619e077f"), looks := true }, kinds := [], alts := [], laidByText := true, laidKinds := [.handle], laidTests := true, laidLooks := .later }
def HeapCallsCardSaid : Prop := Claim7.holds Tryz.pinned (.plain (OpenSpec.ofChange heapCallsSpec)) heapCallsCard

/-- THE SECOND FORM's CARD OF 'cantlelaw14.HeapPlays'. -/
def heapPlaysUptoCard : Claim7 := { stood := { row := heapPlaysUptoRow, standIns := [], harness := (true, "550b2c30c319f4da8dd441b3c5b5f8c65844bf66f346d91ae06a1639619e077f"), looks := true }, kinds := [], alts := [], laidByText := true, laidKinds := [.handle], laidTests := true, laidLooks := .later }
def HeapPlaysUptoCardSaid : Prop := Claim7.holds Tryz.pinned (.plain (OpenSpec.upto heapPlaysSpec)) heapPlaysUptoCard

/-- THE SECOND FORM's CARD OF 'cantlelaw14.HeapCalls'. -/
def heapCallsUptoCard : Claim7 := { stood := { row := heapCallsUptoRow, standIns := [], harness := (true, "550b2c30c319f4da8dd441b3c5b5f8c65844bf66f346d91ae06a1639619e077f"), looks := true }, kinds := [], alts := [], laidByText := true, laidKinds := [.handle], laidTests := true, laidLooks := .later }
def HeapCallsUptoCardSaid : Prop := Claim7.holds Tryz.pinned (.plain (OpenSpec.upto heapCallsSpec)) heapCallsUptoCard
end Rows
end Go.Proofs.YtbldlidpapdkbaaGreatDoor
