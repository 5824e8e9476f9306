/- What the program's blocks (layer 7) are to tell: the words in which the laws of the layers above ask for it. -/
import Derived.Test.YtodbakpjibcmiaaRef10b
import Derived.Test.YtodbakpjibcmiaaTileM
import Derived.Test.YtodbakpjibcmiaaHelpB
namespace Go.Proofs.Ytodbakpjibcmiaa
open Go.RowKit

/-- No error, or one of api's. -/
def errV (ok : Bool) (k : Int) : Value := match ok with
  | true => .nilIface
  | false => .iface 56 (.int .i64 k)
/-- A block, or an error. -/
def BlkTold (x : Option Bk) (w : World) (e : Ending) (w' : World) : Prop := e = .returned (.tuple #[bkV x, errV x.isSome 3]) ∧ Below w.heap.size w w'
/-- Blocks, or an error. -/
def BlksTold (x : Option (List Bk)) (w : World) (e : Ending) (w' : World) : Prop :=
  ∃ A' c', e = .returned (.tuple #[.slice A' (x.getD []).length c', errV x.isSome 3]) ∧ w'.ownsRow w.heap.size 25 3 (.slice A' (x.getD []).length c') (x.getD []).length (flatK (x.getD [])) ∧ Below w.heap.size w w'
/-- The arena has other bytes, or there is an error, and all is as it was. -/
def Done (k : Int) (t : TypeId) (g base cap : Nat) (A : Option Addr) (y : Option (List UInt8)) (w : World) (e : Ending) (w' : World) : Prop :=
  match y with
  | none => e = .returned (errV false k) ∧ Below w.heap.size w w'
  | some out => e = .returned (errV true k) ∧ Became t g base cap A out w w'

def GetC : Prop := ∀ (w : World) (g base cap c : Nat) (A : Option Addr) (bs : List UInt8) (o : Int) (x : Option Bk), Ar w 73 g base cap A c bs → base ≤ 4611686018427387904 → bs.length ≤ 16384 → (-9223372036854775808 ≤ o ∧ o ≤ 9223372036854775807) → getB bs o = x →
  Calls Try.prog 8 #[.pointer (some ⟨g, 0, none⟩), .int .i64 o] w fun e w' => BlkTold x w e w'
def AheadC : Prop := ∀ (w : World) (g base cap c : Nat) (A : Option Addr) (bs : List UInt8) (o : Int) (x : Option Bk), Ar w 73 g base cap A c bs → base ≤ 4611686018427387904 → bs.length ≤ 16384 → (-9223372036854775808 ≤ o ∧ o ≤ 9223372036854775807) → aheadB bs o = x →
  Calls Try.prog 10 #[.pointer (some ⟨g, 0, none⟩), .int .i64 o] w fun e w' => BlkTold x w e w'
def SetC : Prop := ∀ (w : World) (g base cap c : Nat) (A : Option Addr) (bs : List UInt8) (o s : Int) (u : Bool) (y : Option (List UInt8)), Ar w 73 g base cap A c bs → base ≤ 4611686018427387904 → bs.length ≤ 16384 → (-9223372036854775808 ≤ o ∧ o ≤ 9223372036854775807) → (-9223372036854775808 ≤ s ∧ s ≤ 9223372036854775807) → setB bs o s u = y →
  Calls Try.prog 16 #[.pointer (some ⟨g, 0, none⟩), .agg #[.int .i64 o, .int .i64 s, .bool u]] w fun e w' => Done 1 73 g base cap A y w e w'
def WalkC : Prop := ∀ (w : World) (g base cap c : Nat) (A : Option Addr) (bs : List UInt8) (x : Option (List Bk)), Ar w 73 g base cap A c bs → base ≤ 4611686018427387904 → bs.length ≤ 16384 → walkB bs = x →
  Calls Try.prog 12 #[.pointer (some ⟨g, 0, none⟩)] w fun e w' => BlksTold x w e w'

theorem setB_of (bs : List UInt8) (x : Bk) (h1 : 184 ≤ x.off) (h2 : x.off % 16 = 8) (h3 : x.off + x.size ≤ bs.length) (h4 : isSz (x.size : Int) = true) : setB bs (x.off : Int) (x.size : Int) x.used = some (setT bs x) := by
  have h5 := (isSz_iff _).1 h4
  unfold setB setT tagN
  rw [if_pos ⟨h4, (could_iff _ _ _).2 (by omega)⟩, layN_eq, layN_eq]
  have e : ((x.off : Int) + (x.size : Int) - 8).toNat = x.off + x.size - 8 := by omega
  rw [e]
  simp
theorem BkRd.of_own {w : World} {base : Nat} {t : TypeId} {A : Option Addr} {c : Nat} {l : List Bk} (h : w.ownsRow base t 3 (.slice A l.length c) l.length (flatK l)) : BkRd w w.heap.size A l := own_bks h rfl

end Go.Proofs.Ytodbakpjibcmiaa
