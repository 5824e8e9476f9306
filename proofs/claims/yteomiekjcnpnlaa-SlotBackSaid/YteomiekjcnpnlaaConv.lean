/- Bytes as a string. -/
import Derived.Test.YteomiekjcnpnlaaMem
import Derived.Test.YteomiekjcnpnlaaChecked
import Derived.Laws.BytesArg
import Derived.Deep.RegionWith
import Derived.Deep.RegionHeld3
namespace Go.Proofs.Yteomiekjcnpnlaa
open Go.RowKit

/-- Bytes as a string. -/
def strB (bs : List UInt8) : ByteArray := ⟨bs.toArray⟩

theorem strOfNums_bytes (bs : List UInt8) : strOfNums (bs.map fun u => (u.toNat : Int)) = strB bs := by
  unfold strOfNums strB
  rw [List.map_map]
  congr 2
  conv => rhs; rw [← List.map_id bs]
  exact List.map_congr_left fun u _ => by simp

theorem conv_rd {w : World} {B n c : Nat} {A : Option Addr} {bs : List UInt8} (h : Rd w B A n bs) : (convert 24 9 (.slice A n c)).run Try.prog w = .ok (.string (strB bs)) w := by
  rcases Nat.eq_zero_or_pos n with h0 | h0
  · subst h0
    obtain rfl : bs = [] := List.eq_nil_of_length_eq_zero h.1
    rcases A with _ | ⟨b, off, sp⟩
    · exact run_convert_bytes_nil w 24 5 Try.underlying24 Try.underlying5 0 c 9 Try.underlying9
    · rw [run_convert_bytes_string w 24 9 5 _ 0 c Try.underlying24 Try.underlying5 Try.underlying9, run_bytesToString w _ 0 c [] (run_loadCells_list (P := Try.prog) w _ [] (by simp))]
      rfl
  · obtain ⟨b, off, rfl, _, hc⟩ := h.2 h0
    rw [← strOfNums_bytes]
    refine run_convert_bytes_arg w 24 5 Try.underlying24 Try.underlying5 b off n c _ (by rw [List.length_map]; exact h.1) (fun i hi => ?_) 9 Try.underlying9
    have hl : i < bs.length := by have := h.1; omega
    rw [hc i bs[i] (List.getElem?_eq_getElem hl)]
    simp [List.getD, List.getElem?_eq_getElem hl]

theorem Rd.alloc {w : World} {B n : Nat} {A : Option Addr} {bs : List UInt8} (h : Rd w B A n bs) (hB : B ≤ w.heap.size) (o : Obj) : Rd (w.alloc o) B A n bs :=
  h.keep fun p hp => World.cell?_alloc_lt w o p (by omega)


end Go.Proofs.Yteomiekjcnpnlaa
