/- The walk of the law WordTells: it returns true and writes nothing that was there. -/
import Derived.Test.YtcpipgjljiljnaaWalk4
import Derived.Test.YtcpipgjljiljnaaSegs
namespace Go.Proofs.Ytcpipgjljiljnaa
open Go.RowKit

set_option maxRecDepth 100000 in
set_option maxHeartbeats 1000000 in
theorem tells_long (A : Option Addr) (len c p v x : Nat) (w : World) (hl : 10000 < len) (hm : len ≤ maxLen) :
    Calls Try.prog 3 #[.slice A len c, .int .u64 (p : Int), .int .u64 (v : Int), .int .u32 (x : Int)] w fun e w' => e = .returned (.bool true) ∧ Below w.heap.size w w' := by
  unfold maxLen at hm
  go_enter Try.func3, Try.ntmps3
  go_wp2_with fail
  refine (up_any _).mono ?_
  rintro e w1 ⟨rfl, hb⟩
  go_wp2
  go_ret
  exact ⟨rfl, hb⟩

theorem conv_later {w : World} {n : Nat} {A : Option Addr} {bs : List UInt8} (h : Rd w w.heap.size A n bs) (c : Nat) (x : Later w) :
    (convert 22 9 (.slice A n c)).run Try.prog x.val = .ok (.string (strB bs)) x.val := conv_rd (h.below x.ext)

set_option maxRecDepth 100000 in
set_option maxHeartbeats 4000000 in
theorem tells_short (A : Option Addr) (len c p v x : Nat) (bs : List UInt8) (w : World) (hl : len ≤ 10000) (h : Rd w w.heap.size A len bs) (hlc : len ≤ c) (hv : v < 18446744073709551616) (hx : x < 4294967296) :
    Calls Try.prog 3 #[.slice A len c, .int .u64 (p : Int), .int .u64 (v : Int), .int .u32 (x : Int)] w fun e w' => e = .returned (.bool true) ∧ Below w.heap.size w w' := by
  have hq := gotN_lt bs p
  go_enter Try.func3, Try.ntmps3
  go_wp2_with fail
  refine (up_any _).mono ?_
  rintro e w1 ⟨rfl, hb⟩
  have h1 := h.below hb
  go_wp2_with fail
  refine (get_any A len c _ bs p _ h1 hlc (by omega)).mono ?_
  rintro e w2 ⟨rfl, rfl⟩
  go_wp2_with fail
  refine (refGet_any A len c _ bs p _ h1 hlc (by omega) 8 (by omega) (by omega)).mono ?_
  rintro e w2 ⟨rfl, rfl⟩
  go_wp2_with fail
  refine (get4_any A len c _ bs p _ h1 hlc (by omega)).mono ?_
  rintro e w2 ⟨rfl, rfl⟩
  go_wp2_with fail
  refine (refGet_any A len c _ bs p _ h1 hlc (by omega) 4 (by omega) (by omega)).mono ?_
  rintro e w2 ⟨rfl, rfl⟩
  go_wp2_with fail
  clear h h1
  generalize gotN bs p 8 = X8 at *
  generalize gotB bs p 8 = K8 at *
  generalize gotN bs p 4 = X4 at *
  generalize gotB bs p 4 = K4 at *
  refine wp_region_segs [([0, 1, 2, 3, 4, 5, 6, 7, 8, 9, 10, 11, 12, 13, 14, 15, 16, 17, 18, 19, 20, 21, 22, 23, 26], 24), ([25], 27), ([28, 29, 30, 31, 32, 35, 36], 33), ([34], 37)] [38, 39, 40, 41] (by kernel_rfl) (by kernel_rfl) (by kernel_rfl) (fun _ _ _ _ _ h => h) ?_
  refine segs_cons (l := ?seg1) ?hseg1 ?_
  case hseg1 => simp only [pick, List.getElem?_toArray, List.getElem?_cons_succ, List.getElem?_cons_zero]; rfl
  repeat (go_big_quiet_step (fail))
  refine wpQuiet_nil ?_
  refine seg_call (vs := #[.int .u64 (v : Int)]) Try.call9 rfl rfl rfl (R := fun r w' => r = .slice (some ⟨w1.heap.size, 0, none⟩) 8 8 ∧ Rd w' w'.heap.size (some ⟨w1.heap.size, 0, none⟩) 8 (lowB 8 v)) ((put_any v _ hv).mono ?_) ?_
  · rintro e w' ⟨rfl, hf, hb⟩
    exact ⟨_, rfl, hb, rfl, hf.reads⟩
  rintro r w2 hb2 ⟨rfl, hr2⟩
  simp only [Act.put, List.setIfInBounds_toArray, List.set_cons_zero, List.set_cons_succ]
  have c2 := fun c => conv_later hr2 c
  refine segs_cons (l := ?seg2) ?hseg2 ?_
  case hseg2 => simp only [pick, List.getElem?_toArray, List.getElem?_cons_succ, List.getElem?_cons_zero]; rfl
  repeat (go_big_quiet_step (fail))
  refine wpQuiet_nil ?_
  clear c2
  refine seg_call (vs := #[.int .u64 (v : Int), .int .i64 8]) Try.call10 rfl rfl rfl (R := fun r w' => ∃ g cap, r = .slice (some ⟨g, 0, none⟩) 8 cap ∧ Rd w' w'.heap.size (some ⟨g, 0, none⟩) 8 (lowB 8 v)) ((refLow_slice v 8 _ (by omega) (by omega) hv).mono ?_) ?_
  · rintro e w' ⟨g, cap, rfl, hr, hb⟩
    exact ⟨_, rfl, hb, g, cap, rfl, hr⟩
  rintro r w3 hb3 ⟨g3, cap3, rfl, hr3⟩
  simp only [Act.put, List.setIfInBounds_toArray, List.set_cons_zero, List.set_cons_succ]
  have c3 := fun c => conv_later hr3 c
  refine segs_cons (l := ?seg3) ?hseg3 ?_
  case hseg3 => simp only [pick, List.getElem?_toArray, List.getElem?_cons_succ, List.getElem?_cons_zero]; rfl
  repeat (go_big_quiet_step (fail))
  refine wpQuiet_nil ?_
  clear c3
  refine seg_call (vs := #[.int .u32 (x : Int)]) Try.call11 rfl rfl rfl (R := fun r w' => r = .slice (some ⟨w3.heap.size, 0, none⟩) 4 4 ∧ Rd w' w'.heap.size (some ⟨w3.heap.size, 0, none⟩) 4 (lowB 4 x)) ((put4_any x _ hx).mono ?_) ?_
  · rintro e w' ⟨rfl, hf, hb⟩
    exact ⟨_, rfl, hb, rfl, hf.reads⟩
  rintro r w4 hb4 ⟨rfl, hr4⟩
  simp only [Act.put, List.setIfInBounds_toArray, List.set_cons_zero, List.set_cons_succ]
  have c4 := fun c => conv_later hr4 c
  refine segs_cons (l := ?seg4) ?hseg4 ?_
  case hseg4 => simp only [pick, List.getElem?_toArray, List.getElem?_cons_succ, List.getElem?_cons_zero]; rfl
  repeat (go_big_quiet_step (fail))
  refine wpQuiet_nil ?_
  clear c4
  refine seg_call (vs := #[.int .u64 (x : Int), .int .i64 4]) Try.call10 rfl rfl rfl (R := fun r w' => ∃ g cap, r = .slice (some ⟨g, 0, none⟩) 4 cap ∧ Rd w' w'.heap.size (some ⟨g, 0, none⟩) 4 (lowB 4 x)) ((refLow_slice x 4 _ (by omega) (by omega) (by omega)).mono ?_) ?_
  · rintro e w' ⟨g, cap, rfl, hr, hb⟩
    exact ⟨_, rfl, hb, g, cap, rfl, hr⟩
  rintro r w5 hb5 ⟨g5, cap5, rfl, hr5⟩
  simp only [Act.put, List.setIfInBounds_toArray, List.set_cons_zero, List.set_cons_succ]
  have c5 := fun c => conv_later hr5 c
  refine segs_nil (l := ?seg5) ?hseg5 ?_
  case hseg5 => simp only [pick, List.getElem?_toArray, List.getElem?_cons_succ, List.getElem?_cons_zero]; rfl
  repeat (go_big_quiet_step (fail))
  refine wpQuiet_nil ?_
  clear c5
  go_wp2
  go_ret
  exact ⟨rfl, (Below.drew hb).trans (Below.mono (((hb2.trans hb3).trans hb4).trans hb5) hb.size)⟩
end Go.Proofs.Ytcpipgjljiljnaa
