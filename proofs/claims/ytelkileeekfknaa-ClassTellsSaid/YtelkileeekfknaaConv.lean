/- Bytes as a string. -/
import Derived.Test.YtelkileeekfknaaMem
import Derived.Test.YtelkileeekfknaaChecked
import Derived.Laws.BytesArg
import Derived.Deep.RegionWith
import Derived.Deep.RegionHeld3
namespace Go.Proofs.Ytelkileeekfknaa
open Go.RowKit

/-- Bytes as a string. -/
def strB (bs : List UInt8) : ByteArray := ⟨bs.toArray⟩

theorem strOfNums_bytes (bs : List UInt8) : strOfNums (bs.map fun u => (u.toNat : Int)) = strB bs := by
  unfold strOfNums strB
  rw [List.map_map]
  congr 2
  conv => rhs; rw [← List.map_id bs]
  exact List.map_congr_left fun u _ => by simp

theorem Rd.alloc {w : World} {B n : Nat} {A : Option Addr} {bs : List UInt8} (h : Rd w B A n bs) (hB : B ≤ w.heap.size) (o : Obj) : Rd (w.alloc o) B A n bs :=
  h.keep fun p hp => World.cell?_alloc_lt w o p (by omega)


end Go.Proofs.Ytelkileeekfknaa
