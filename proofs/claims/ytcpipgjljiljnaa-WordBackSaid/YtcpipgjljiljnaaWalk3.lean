/- The contract of the example at the head of the laws. -/
import Derived.Test.YtcpipgjljiljnaaWalk2
import Derived.Laws.BytesArg
import Derived.Deep.RegionWith
import Derived.Deep.RegionHeld3
namespace Go.Proofs.Ytcpipgjljiljnaa
open Go.RowKit

/-- Bytes as a string. -/
def strB (bs : List UInt8) : ByteArray := ⟨bs.toArray⟩

theorem strOfNums_bytes (bs : List UInt8) : strOfNums (bs.map fun u => (u.toNat : Int)) = strB bs := by
  unfold strOfNums strB
  rw [List.map_map]
  congr 2
  conv => rhs; rw [← List.map_id bs]
  exact List.map_congr_left fun u _ => by simp

theorem conv_rd {w : World} {B n c : Nat} {A : Option Addr} {bs : List UInt8} (h : Rd w B A n bs) : (convert 22 9 (.slice A n c)).run Try.prog w = .ok (.string (strB bs)) w := by
  rcases Nat.eq_zero_or_pos n with h0 | h0
  · subst h0
    obtain rfl : bs = [] := List.eq_nil_of_length_eq_zero h.1
    rcases A with _ | ⟨b, off, sp⟩
    · exact run_convert_bytes_nil w 22 5 Try.underlying22 Try.underlying5 0 c 9 Try.underlying9
    · rw [run_convert_bytes_string w 22 9 5 _ 0 c Try.underlying22 Try.underlying5 Try.underlying9, run_bytesToString w _ 0 c [] (run_loadCells_list (P := Try.prog) w _ [] (by simp))]
      rfl
  · obtain ⟨b, off, rfl, _, hc⟩ := h.2 h0
    rw [← strOfNums_bytes]
    refine run_convert_bytes_arg w 22 5 Try.underlying22 Try.underlying5 b off n c _ (by rw [List.length_map]; exact h.1) (fun i hi => ?_) 9 Try.underlying9
    have hl : i < bs.length := by have := h.1; omega
    rw [hc i bs[i] (List.getElem?_eq_getElem hl)]
    simp [List.getD, List.getElem?_eq_getElem hl]

theorem Rd.alloc {w : World} {B n : Nat} {A : Option Addr} {bs : List UInt8} (h : Rd w B A n bs) (hB : B ≤ w.heap.size) (o : Obj) : Rd (w.alloc o) B A n bs :=
  h.keep fun p hp => World.cell?_alloc_lt w o p (by omega)

/-- The conversion of a block that a call has just made, in its world and behind one more block. -/
theorem conv_new {w1 : World} {bs : List UInt8} {g : Nat} (n : Nat) (hf : Fill w1 g 5 bs) (hn : bs.length = n) :
    (∀ c, (convert 22 9 (.slice (some ⟨g, 0, none⟩) n c)).run Try.prog w1 = .ok (.string (strB bs)) w1) ∧
    (∀ c o, (convert 22 9 (.slice (some ⟨g, 0, none⟩) n c)).run Try.prog (w1.alloc o) = .ok (.string (strB bs)) (w1.alloc o)) := by
  subst hn
  constructor
  · intro c
    exact conv_rd hf.reads
  · intro c o
    exact conv_rd (hf.reads.alloc (Nat.le_refl _) o)

abbrev lit258 : Obj := .cells #[.int .u8 2, .int .u8 1, .int .u8 0, .int .u8 0] 5
theorem lit_fill (W : World) : Fill (W.alloc lit258) W.heap.size 5 [2, 1, 0, 0] := Fill.made W 5 [2, 1, 0, 0]
theorem conv_lit (W : World) (c : Nat) : (convert 22 9 (.slice (some ⟨W.heap.size, 0, none⟩) 4 c)).run Try.prog (W.alloc lit258) = .ok (.string (strB [2, 1, 0, 0])) (W.alloc lit258) :=
  conv_rd (lit_fill W).reads
theorem conv_lit_drew (W : World) (c : Nat) : (convert 22 9 (.slice (some ⟨W.heap.size, 0, none⟩) 4 c)).run Try.prog (W.alloc lit258).drew = .ok (.string (strB [2, 1, 0, 0])) (W.alloc lit258).drew :=
  conv_rd (lit_fill W).reads.drew
theorem conv_lit_after {W w1 : World} (hb : Below (W.alloc lit258).drew.heap.size (W.alloc lit258).drew w1) (c : Nat) :
    (convert 22 9 (.slice (some ⟨W.heap.size, 0, none⟩) 4 c)).run Try.prog w1 = .ok (.string (strB [2, 1, 0, 0])) w1 :=
  conv_rd ((lit_fill W).reads.drew.below hb)

theorem heap_alloc_drew (W : World) (o : Obj) : (W.alloc o).drew.heap.size = W.heap.size + 1 := by
  show (W.alloc o).heap.size = _
  simp
theorem low258 : strB (lowB 4 258) = strB [2, 1, 0, 0] := by rfl

theorem up_a {w w1 : World} (hb : Below w.drew.heap.size w.drew w1) : Below w.heap.size w w1 := (Below.refl _ _).drew.trans hb
theorem up_b {w w1 : World} {o : Obj} (hb : Below w.drew.heap.size w.drew w1) : Below w.heap.size w (w1.alloc o) := (up_a hb).alloc (up_a hb).size _
theorem up_c {w w1 : World} {o : Obj} (hb : Below (w.alloc o).drew.heap.size (w.alloc o).drew w1) : Below w.heap.size w w1 :=
  ((Below.refl _ _).alloc (Nat.le_refl _) o).drew.trans (hb.mono (by rw [heap_alloc_drew]; omega))

set_option maxHeartbeats 400000 in
theorem up_any (w : World) :
    Calls Try.prog 5 #[] w fun e w' => e = .returned (.bool true) ∧ Below w.heap.size w w' := by
  have q0 := conv_lit
  have q1 := conv_lit_drew
  go_enter Try.func5, Try.ntmps5
  go_wp2
  go_region_with (go_at_call 11; refine (put4_any 258 _ (by omega)).mono ?_; rintro e w1 ⟨rfl, hf, hb⟩; first | (rw [heap_alloc_drew] at hf; obtain ⟨c0, c1⟩ := conv_new 4 hf rfl; have c2 := conv_lit_after hb; clear hf) | (obtain ⟨c0, c1⟩ := conv_new (g := w.heap.size) 4 hf rfl; clear hf))
  all_goals go_wp2
  all_goals go_ret
  all_goals
    refine ⟨?_, ?_⟩
    · show Ending.returned (.bool ((strB (lowB 4 258)).toList == (strB [2, 1, 0, 0]).toList)) = _
      rw [low258, beq_self_eq_true]
    · first | exact up_a hb | exact up_b hb | exact up_c hb
end Go.Proofs.Ytcpipgjljiljnaa
