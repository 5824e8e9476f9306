/- The contracts of an arena's calls: Copy, SetWord; of the laws' words: Code, Bytes, Arena, Base. -/
import Derived.Test.YtodbakpjibcmiaaStore
import Derived.Test.YtodbakpjibcmiaaPut
import Derived.StillTailTactics
namespace Go.Proofs.Ytodbakpjibcmiaa
open Go.RowKit

theorem Became.of_drew {t : TypeId} {g base cap : Nat} {A : Option Addr} {bs : List UInt8} {w w' : World} (h : Became t g base cap A bs w.drew w') : Became t g base cap A bs w w' := by
  obtain ⟨A', c', h1, h2, h3⟩ := h
  exact ⟨A', c', h1, h2.of_drew, h3⟩

section
variable {w : World} {t : TypeId} {g base cap c : Nat} {A : Option Addr} {bs : List UInt8}
end
end Go.Proofs.Ytodbakpjibcmiaa
