/- Layer 17's laws: the example at their head; the walk of SlotTells (genlaw17a.py). -/
import Derived.Test.YteomiekjcnpnlaaSlt3
import Derived.Test.YteomiekjcnpnlaaSlt5
namespace Go.Proofs.Yteomiekjcnpnlaa
open Go.RowKit

/-- Whether bytes are a record's. -/
def slRec (b : List UInt8) : Bool := decide (b.length = 512) && decide (slOf (slG b) (slN b) (slS b) = b)
/-- A number of the record, 0 if there is none. -/
def slAt (b : List UInt8) (v : Nat) : Nat := if slRec b = true then v else 0
theorem slAt_eq (b : List UInt8) (v : Nat) (y : Bool) (h : slRec b = !y) : (if y = true then (0 : Int) else (v : Int)) = ((slAt b v : Nat) : Int) := by
  unfold slAt
  rw [h]
  cases y <;> rfl
theorem slAt_no (b : List UInt8) (v : Nat) (h : slRec b = false) : (0 : Int) = ((slAt b v : Nat) : Int) := by
  unfold slAt
  rw [h]
  rfl
theorem slRec_512 {b : List UInt8} (h : b.length = 512) : decide (slOf (slG b) (slN b) (slS b) ≠ b) = !slRec b := by
  unfold slRec
  rw [decide_eq_true h, Bool.true_and]
  by_cases e : slOf (slG b) (slN b) (slS b) = b
  · rw [decide_eq_true e, decide_eq_false (fun k => k e)]; rfl
  · rw [decide_eq_false e, decide_eq_true e]; rfl
theorem slget_any (w : World) (A : Option Addr) (n c : Nat) (b : List UInt8) (hr : Rd w w.heap.size A n b) (hnc : n ≤ c) :
    Calls Try.prog 6 #[.slice A n c] w fun e w' => e = .returned (.tuple #[.agg #[.int .u64 (slAt b (slG b) : Int), .int .u64 (slAt b (slN b) : Int), .int .u32 (slAt b (slS b) : Int)], .bool (slRec b)]) ∧ Below w.heap.size w w' := by
  by_cases hn : n = 512
  · subst hn
    refine (slget_512 w A c b hr hnc _ _ _ rfl rfl rfl _ (slRec_512 hr.1)).mono ?_
    rintro e w' ⟨rfl, hb⟩
    refine ⟨?_, hb⟩
    rw [slAt_eq b _ _ (Bool.not_not _).symm, slAt_eq b _ _ (Bool.not_not _).symm, slAt_eq b _ _ (Bool.not_not _).symm, Bool.not_not]
  · refine (slget_len w A n c hn).mono ?_
    rintro e w' ⟨rfl, hb⟩
    have h : slRec b = false := by unfold slRec; rw [decide_eq_false (by rw [hr.1]; exact hn)]; rfl
    refine ⟨?_, hb⟩
    rw [← slAt_no b _ h, ← slAt_no b _ h, ← slAt_no b _ h, h]
theorem rgetrec_any (w : World) (A : Option Addr) (n c : Nat) (b : List UInt8) (hr : Rd w w.heap.size A n b) (hnc : n ≤ c) (hc : c ≤ 9223372036854775807) (hl : n ≤ 900000) :
    Calls Try.prog 7 #[.slice A n c] w fun e w' => e = .returned (.tuple #[.agg #[.int .u64 (slAt b (slG b) : Int), .int .u64 (slAt b (slN b) : Int), .int .u32 (slAt b (slS b) : Int)], .bool (slRec b)]) ∧ Below w.heap.size w w' := by
  by_cases hn : n = 512
  · subst hn
    refine (rgetrec_512 w A c b hr hnc hc _ _ _ rfl rfl rfl _ (slRec_512 hr.1)).mono ?_
    rintro e w' ⟨rfl, hb⟩
    refine ⟨?_, hb⟩
    rw [slAt_eq b _ _ (Bool.not_not _).symm, slAt_eq b _ _ (Bool.not_not _).symm, slAt_eq b _ _ (Bool.not_not _).symm, Bool.not_not]
  · refine (rgetrec_len w A n c hn hl).mono ?_
    rintro e w' ⟨rfl, hb⟩
    have h : slRec b = false := by unfold slRec; rw [decide_eq_false (by rw [hr.1]; exact hn)]; rfl
    refine ⟨?_, hb⟩
    rw [← slAt_no b _ h, ← slAt_no b _ h, ← slAt_no b _ h, h]
/-- What was put is a record's. -/
theorem slRec_put {g n s : Nat} (hy : slOk g n = true) (hs : s < 4294967296) : slRec (slPut g n s) = true ∧ slAt (slPut g n s) (slG (slPut g n s)) = g ∧ slAt (slPut g n s) (slN (slPut g n s)) = n ∧ slAt (slPut g n s) (slS (slPut g n s)) = s := by
  have h := hy
  unfold slOk at h
  simp only [Bool.and_eq_true, decide_eq_true_eq] at h
  obtain ⟨e1, e2, e3⟩ := slPut_got (g := g) (n := n) (s := s) (by omega) (by omega) hs
  have hr : slRec (slPut g n s) = true := by
    unfold slRec
    rw [e1, e2, e3, decide_eq_true (slPut_len g n s), Bool.true_and]
    unfold slOf
    rw [if_pos hy, decide_eq_true rfl]
  unfold slAt
  rw [if_pos hr, if_pos hr, if_pos hr]
  exact ⟨hr, e1, e2, e3⟩
theorem slRec_zeros : slRec (List.replicate 512 0) = false := by
  have e : slG (List.replicate 512 0) = 0 := by unfold slG; rw [List.drop_replicate, List.take_replicate]; rfl
  have hk : ∀ n, ¬ slOk 0 n = true := fun n h => by unfold slOk at h; cases h
  unfold slRec slOf
  rw [e, if_neg (hk _)]
  rw [decide_eq_false (fun h : [] = List.replicate 512 (0 : UInt8) => by have := congrArg List.length h; rw [List.length_replicate] at this; cases this), Bool.and_false]
set_option maxRecDepth 100000 in
set_option maxHeartbeats 2000000 in
theorem up17_any (w : World) :
    Calls Try.prog 5 #[] w fun e w' => e = .returned (.bool true) ∧ Below w.heap.size w w' := by
  have HP := Lib.hid (slput_ok w 1 2 3 (by omega) rfl)
  obtain ⟨k1, k2, k3, k4⟩ := slRec_put (g := 1) (n := 2) (s := 3) rfl (by omega)
  obtain ⟨P, hP⟩ : ∃ P, slPut 1 2 3 = P := ⟨_, rfl⟩
  have hPl : P.length = 512 := by rw [← hP]; exact slPut_len _ _ _
  have HG := Lib.hid (fun W A n c hr hnc => slget_any W A n c P hr hnc)
  rw [hP] at k1 k2 k3 k4 HP
  rw [k1, k2, k3, k4] at HG
  have HPL := Lib.hid hPl
  obtain ⟨z, hz⟩ : ∃ z, List.replicate 512 (0 : UInt8) = z := ⟨_, rfl⟩
  have HZ := Lib.hid (fun W A n c hr hnc => slget_any W A n c z hr hnc)
  have hzr : slRec z = false := by rw [← hz]; exact slRec_zeros
  rw [← slAt_no z _ hzr, ← slAt_no z _ hzr, ← slAt_no z _ hzr, hzr] at HZ
  have HZL : Hid (z.length = 512) := (show _ = _ by rw [← hz, List.length_replicate])
  have hmk : ∀ W : World, (Instr.makeSlice 24 (.int .i64 512) (.int .i64 512)).run Try.prog W = .ok (.slice (some ⟨W.heap.size, 0, none⟩) 512 512) (W.alloc (.cells (rowB z) 5)) := fun W => by
    have := run_make_row' (P := Try.prog) 24 5 (.int .u8 0) 1 Try.underlying24 u8_info rfl .i64 .i64 512 (by omega) (by omega) W
    rw [rowB_zeros, hz] at this
    exact this
  clear k1 k2 k3 k4 hP hPl hzr hz
  go_enter Try.func5, Try.ntmps5
  go_wp2_with fail
  refine HP.out.mono ?_
  rintro e w1 ⟨b, rfl, hbl, hf, hb1⟩
  have hr1 := hf.reads
  rw [HPL.out] at hr1
  have HR1 := Lib.hid hr1
  have HB1 := Lib.hid hb1
  clear hf hb1 hr1 hbl
  go_wp2_with fail
  refine (HG.out w1 _ 512 512 HR1.out (Nat.le_refl _)).mono ?_
  rintro e w2 ⟨rfl, hb2⟩
  obtain ⟨w3, hw3⟩ : ∃ w3, w2.alloc (.cells #[.int .u64 0, .int .u64 0, .int .u32 0] 27) = w3 := ⟨_, rfl⟩
  have hb3 : Below w2.heap.size w2 w3 := by rw [← hw3]; exact (Below.refl _ _).alloc (Nat.le_refl _) _
  have n3 : w3.heap[w2.heap.size]? = some (.cells #[.int .u64 0, .int .u64 0, .int .u32 0] 27 (0, 0)) := by rw [← hw3]; exact heap_alloc_new w2 _
  obtain ⟨w5, hw5⟩ : ∃ w5, (((w3.setCell ⟨w2.heap.size, 0, none⟩ (.int .u64 1)).setCell ⟨w2.heap.size, 1, none⟩ (.int .u64 2)).setCell ⟨w2.heap.size, 2, none⟩ (.int .u32 3)) = w5 := ⟨_, rfl⟩
  have n5 : w5.heap[w2.heap.size]? = some (.cells #[.int .u64 1, .int .u64 2, .int .u32 3] 27 (0, 0)) := by rw [← hw5]; exact im_set n3 _ _ _
  have hb5 : Below w2.heap.size w2 w5 := by rw [← hw5]; exact ((hb3.setCell (p := ⟨w2.heap.size, 0, none⟩) (Nat.le_refl _) _).setCell (p := ⟨w2.heap.size, 1, none⟩) (Nat.le_refl _) _).setCell (p := ⟨w2.heap.size, 2, none⟩) (Nat.le_refl _) _
  obtain ⟨z0, z1, z2⟩ := rk_cells n3
  obtain ⟨f0, f1, f2⟩ := im_thaw n3
  have hlz := heap_lt1 n3
  obtain ⟨w6, hw6⟩ : ∃ w6, w5.alloc (.cells (rowB z) 5) = w6 := ⟨_, rfl⟩
  have hf6 : Fill w6 w5.heap.size 5 z := by rw [← hw6]; exact Fill.made w5 5 _
  have hb6 : Below w5.heap.size w5 w6 := by rw [← hw6]; exact (Below.refl _ _).alloc (Nat.le_refl _) _
  have hr6 := hf6.reads
  rw [HZL.out] at hr6
  have HR6 := Lib.hid hr6
  have HN6 := Lib.hid ((hb6.block _ (heap_lt1 n5)).trans n5)
  have hb26 := hb2.trans ((hb5.trans (hb6.mono hb5.size)).mono hb2.size)
  have HB6 := Lib.hid (HB1.out.trans (hb26.mono HB1.out.size))
  have HW3 := Lib.hid hw3
  have HW5 := Lib.hid hw5
  have HW6 := Lib.hid hw6
  clear hb2 hw3 hb3 n3 hw5 n5 hb5 hw6 hf6 hb6 hr6 hb26
  go_wp2_with (first | (rw [HW3.out]) | (rw [HW5.out]) | (rw [HW6.out]) | fail)
  clear z0 z1 z2 f0 f1 f2 hlz hmk
  refine (HZ.out w6 _ 512 512 HR6.out (Nat.le_refl _)).mono ?_
  rintro e w7 ⟨rfl, hb7⟩
  obtain ⟨w8, hw8⟩ : ∃ w8, w7.alloc (.cells #[.int .u64 0, .int .u64 0, .int .u32 0] 27) = w8 := ⟨_, rfl⟩
  have hb8 : Below w7.heap.size w7 w8 := by rw [← hw8]; exact (Below.refl _ _).alloc (Nat.le_refl _) _
  have n8 : w8.heap[w7.heap.size]? = some (.cells #[.int .u64 0, .int .u64 0, .int .u32 0] 27 (0, 0)) := by rw [← hw8]; exact heap_alloc_new w7 _
  obtain ⟨w9, hw9⟩ : ∃ w9, (((w8.setCell ⟨w7.heap.size, 0, none⟩ (.int .u64 0)).setCell ⟨w7.heap.size, 1, none⟩ (.int .u64 0)).setCell ⟨w7.heap.size, 2, none⟩ (.int .u32 0)) = w9 := ⟨_, rfl⟩
  have hb9 : Below w7.heap.size w7 w9 := by rw [← hw9]; exact ((hb8.setCell (p := ⟨w7.heap.size, 0, none⟩) (Nat.le_refl _) _).setCell (p := ⟨w7.heap.size, 1, none⟩) (Nat.le_refl _) _).setCell (p := ⟨w7.heap.size, 2, none⟩) (Nat.le_refl _) _
  have hb79 := hb7.trans (hb9.mono hb7.size)
  have n9 := (hb79.block _ (heap_lt1 HN6.out)).trans HN6.out
  obtain ⟨z0, z1, z2⟩ := rk_cells n8
  obtain ⟨f0, f1, f2⟩ := im_thaw n8
  have hlz := heap_lt1 n8
  obtain ⟨c0, c1, c2⟩ := rk_cells n9
  have hl9 := heap_lt1 n9
  have HF := Lib.hid (HB6.out.trans (hb79.mono HB6.out.size))
  have HW8 := Lib.hid hw8
  have HW9 := Lib.hid hw9
  clear hb7 hw8 hb8 n8 hw9 hb9 hb79 n9
  go_wp2_with (first | (rw [HW8.out]) | (rw [HW9.out]) | fail)
  go_ret
  exact ⟨rfl, HF.out⟩
set_option maxRecDepth 100000 in
set_option maxHeartbeats 4000000 in
theorem st_long (w : World) (g n s : Nat) (_hg : g < 18446744073709551616) (_hn : n < 18446744073709551616) (_hs : s < 4294967296) (A : Option Addr) (c : Nat) (b : List UInt8) (_hr : Rd w w.heap.size A b.length b) (_hnc : b.length ≤ c) (_hc : c ≤ 9223372036854775807) (hl : 2000 < b.length) :
    Calls Try.prog 3 #[.int .u64 (g : Int), .int .u64 (n : Int), .int .u32 (s : Int), .slice A b.length c] w fun e w' => e = .returned (.bool true) ∧ Below w.heap.size w w' := by
  have HUP := Lib.hid (up17_any w)
  obtain ⟨m, hm⟩ : ∃ m, b.length = m := ⟨_, rfl⟩
  rw [hm] at hl ⊢
  have g1 : decide (2000 < m) = true := decide_eq_true hl
  have g1' : decide ((2000 : Int) < (m : Int)) = true := decide_eq_true (by omega)
  clear _hr _hnc _hc hm
  go_enter Try.func3, Try.ntmps3
  go_wp2_with fail
  refine HUP.out.mono ?_
  rintro e w1 ⟨rfl, hb1⟩
  have HB := Lib.hid hb1
  clear hb1 HUP
  go_wp2_with fail
  go_ret
  exact ⟨rfl, HB.out⟩
set_option maxRecDepth 100000 in
set_option maxHeartbeats 4000000 in
theorem st_ok (w : World) (g n s : Nat) (hg : g < 18446744073709551616) (hn : n < 18446744073709551616) (hs : s < 4294967296) (A : Option Addr) (c : Nat) (b : List UInt8) (hr : Rd w w.heap.size A b.length b) (hnc : b.length ≤ c) (hc : c ≤ 9223372036854775807) (hl : b.length ≤ 2000) :
    Calls Try.prog 3 #[.int .u64 (g : Int), .int .u64 (n : Int), .int .u32 (s : Int), .slice A b.length c] w fun e w' => e = .returned (.bool true) ∧ Below w.heap.size w w' := by
  have HUP := Lib.hid (up17_any w)
  have HG := Lib.hid (fun W (h : Below w.heap.size w W) => slget_any W A b.length c b ((hr.below h).more h.size) hnc)
  have HD := Lib.hid (fun W (h : Below w.heap.size w W) => rgetrec_any W A b.length c b ((hr.below h).more h.size) hnc hc (by omega))
  obtain ⟨G, hG⟩ : ∃ G, slAt b (slG b) = G := ⟨_, rfl⟩
  obtain ⟨N, hN⟩ : ∃ N, slAt b (slN b) = N := ⟨_, rfl⟩
  obtain ⟨S, hS⟩ : ∃ S, slAt b (slS b) = S := ⟨_, rfl⟩
  obtain ⟨y, hy⟩ : ∃ y, slRec b = y := ⟨_, rfl⟩
  obtain ⟨m, hm⟩ : ∃ m, b.length = m := ⟨_, rfl⟩
  rw [hG, hN, hS, hy, hm] at HG HD
  rw [hm] at hl ⊢
  have g1 : decide (2000 < m) = false := decide_eq_false (by omega)
  have g1' : decide ((2000 : Int) < (m : Int)) = false := decide_eq_false (by omega)
  have HPUT := Lib.hid (fun V => slput_any V g n s hs)
  have HREF := Lib.hid (fun V => rputrec_any V g n s hg hn hs)
  obtain ⟨P, hP⟩ : ∃ P, slOf g n s = P := ⟨_, rfl⟩
  rw [hP] at HPUT HREF
  obtain ⟨U, hU⟩ : ∃ U, strB P = U := ⟨_, rfl⟩
  have HU := Lib.hid hU
  clear hr hnc hc hm hG hN hS hy hP hU
  go_enter Try.func3, Try.ntmps3
  go_wp2_with fail
  refine HUP.out.mono ?_
  rintro e w1 ⟨rfl, hb1⟩
  have HB := Lib.hid hb1
  clear hb1 HUP
  go_wp2_with fail
  refine (HG.out w1 HB.out).mono ?_
  rintro e w2 ⟨rfl, hb2⟩
  obtain ⟨w3a, hww3a⟩ : ∃ x, w2.alloc (.cells #[.int .u64 0, .int .u64 0, .int .u32 0] 27) = x := ⟨_, rfl⟩
  have hbw3a : Below w2.heap.size w2 w3a := by rw [← hww3a]; exact (Below.refl _ _).alloc (Nat.le_refl _) _
  have nw3a : w3a.heap[w2.heap.size]? = some (.cells #[.int .u64 0, .int .u64 0, .int .u32 0] 27 (0, 0)) := by rw [← hww3a]; exact heap_alloc_new w2 _
  obtain ⟨w3, hww3⟩ : ∃ x, (((w3a.setCell ⟨w2.heap.size, 0, none⟩ (.int .u64 (G : Int))).setCell ⟨w2.heap.size, 1, none⟩ (.int .u64 (N : Int))).setCell ⟨w2.heap.size, 2, none⟩ (.int .u32 (S : Int))) = x := ⟨_, rfl⟩
  have nw3 : w3.heap[w2.heap.size]? = some (.cells #[.int .u64 (G : Int), .int .u64 (N : Int), .int .u32 (S : Int)] 27 (0, 0)) := by rw [← hww3]; exact im_set nw3a _ _ _
  have hbw3 : Below w2.heap.size w2 w3 := by rw [← hww3]; exact ((hbw3a.setCell (p := ⟨w2.heap.size, 0, none⟩) (Nat.le_refl _) _).setCell (p := ⟨w2.heap.size, 1, none⟩) (Nat.le_refl _) _).setCell (p := ⟨w2.heap.size, 2, none⟩) (Nat.le_refl _) _
  obtain ⟨z0, z1, z2⟩ := rk_cells nw3a
  obtain ⟨f0, f1, f2⟩ := im_thaw nw3a
  have hlz := heap_lt1 nw3a
  have HNw3 := Lib.hid nw3
  have HWw3a := Lib.hid hww3a
  have HWw3 := Lib.hid hww3
  have HB3 := Lib.hid (HB.out.trans ((hb2.trans (hbw3.mono hb2.size)).mono HB.out.size))
  clear hb2
  clear hww3a hbw3a nw3a hww3 nw3 hbw3
  go_wp2_with (first | (rw [HWw3a.out]) | (rw [HWw3.out]) | fail)
  clear z0 z1 z2 f0 f1 f2 hlz
  refine (HD.out w3 HB3.out).mono ?_
  rintro e w4 ⟨rfl, hb4⟩
  obtain ⟨w5a, hww5a⟩ : ∃ x, w4.alloc (.cells #[.int .u64 0, .int .u64 0, .int .u32 0] 30) = x := ⟨_, rfl⟩
  have hbw5a : Below w4.heap.size w4 w5a := by rw [← hww5a]; exact (Below.refl _ _).alloc (Nat.le_refl _) _
  have nw5a : w5a.heap[w4.heap.size]? = some (.cells #[.int .u64 0, .int .u64 0, .int .u32 0] 30 (0, 0)) := by rw [← hww5a]; exact heap_alloc_new w4 _
  obtain ⟨w5, hww5⟩ : ∃ x, (((w5a.setCell ⟨w4.heap.size, 0, none⟩ (.int .u64 (G : Int))).setCell ⟨w4.heap.size, 1, none⟩ (.int .u64 (N : Int))).setCell ⟨w4.heap.size, 2, none⟩ (.int .u32 (S : Int))) = x := ⟨_, rfl⟩
  have nw5 : w5.heap[w4.heap.size]? = some (.cells #[.int .u64 (G : Int), .int .u64 (N : Int), .int .u32 (S : Int)] 30 (0, 0)) := by rw [← hww5]; exact im_set nw5a _ _ _
  have hbw5 : Below w4.heap.size w4 w5 := by rw [← hww5]; exact ((hbw5a.setCell (p := ⟨w4.heap.size, 0, none⟩) (Nat.le_refl _) _).setCell (p := ⟨w4.heap.size, 1, none⟩) (Nat.le_refl _) _).setCell (p := ⟨w4.heap.size, 2, none⟩) (Nat.le_refl _) _
  obtain ⟨z0, z1, z2⟩ := rk_cells nw5a
  obtain ⟨f0, f1, f2⟩ := im_thaw nw5a
  have hlz := heap_lt1 nw5a
  have HNw5 := Lib.hid nw5
  have HWw5a := Lib.hid hww5a
  have HWw5 := Lib.hid hww5
  have hb45 := hb4.trans (hbw5.mono hb4.size)
  have HB5 := Lib.hid (HB3.out.trans (hb45.mono HB3.out.size))
  have HM3 := Lib.hid ((hb45.block _ (heap_lt1 HNw3.out)).trans HNw3.out)
  clear hb4 hb45
  clear hww5a hbw5a nw5a hww5 nw5 hbw5
  go_wp2_with (first | (rw [HWw5a.out]) | (rw [HWw5.out]) | fail)
  clear z0 z1 z2 f0 f1 f2 hlz
  obtain ⟨wd, hwd⟩ : ∃ wd, w5.drew = wd := ⟨_, rfl⟩
  have hbd : Below w5.heap.size w5 wd := by rw [← hwd]; exact (Below.refl _ _).drew
  have HBD := Lib.hid hbd
  refine wp_region_tail wd.heap.size [([0, 1, 2, 3, 6, 7, 8, 9], 4), ([5], 10)] [11, 12, 13] [] (by kernel_rfl) (by kernel_rfl) (by kernel_rfl) (fun _ _ _ _ _ h => h) ?_
  rw [hwd]
  clear hwd hbd
  refine tail_cons (l := ?segA) ?hsegA ?_
  case hsegA => simp only [pick, List.getElem?_toArray, List.getElem?_cons_succ, List.getElem?_cons_zero]; rfl
  repeat (go_big_quiet_step (fail))
  refine wpQuiet_nil ?_
  refine tail_call2 (vs := #[.agg #[.int .u64 (g : Int), .int .u64 (n : Int), .int .u32 (s : Int)]]) Try.call8 rfl rfl rfl (R := fun r w' => ∃ A m c, r = .slice A m c ∧ Rd w' w'.heap.size A m P ∧ Below wd.heap.size wd w') ((HPUT.out wd).mono ?_) ?_
  · rintro e w' ⟨A, m, c, rfl, _, hr, hb⟩
    exact ⟨_, rfl, hb, A, m, c, rfl, hr, hb⟩
  rintro r w6 _ ⟨A6, m6, c6, rfl, hr6, hb6⟩
  refine ⟨w6.heap.size, hb6.size, ?_⟩
  simp only [Act.put, List.setIfInBounds_toArray, List.set_cons_zero, List.set_cons_succ]
  have u6 : ∀ z : LaterB w6.heap.size w6, (convert 24 9 (.slice A6 m6 c6)).run Try.prog z.val = .ok (.string U) z.val := fun z => by rw [← HU.out]; exact conv_rd (hr6.below z.ext)
  refine tail_cons (l := ?segB) ?hsegB ?_
  case hsegB => simp only [pick, List.getElem?_toArray, List.getElem?_cons_succ, List.getElem?_cons_zero]; rfl
  repeat (go_big_quiet_step (fail))
  refine wpQuiet_nil ?_
  clear u6 hr6
  refine tail_call2 (vs := #[.agg #[.int .u64 (g : Int), .int .u64 (n : Int), .int .u32 (s : Int)]]) Try.call9 rfl rfl rfl (R := fun r w' => ∃ A m c, r = .slice A m c ∧ Rd w' w'.heap.size A m P ∧ Below w6.heap.size w6 w') ((HREF.out w6).mono ?_) ?_
  · rintro e w' ⟨A, m, c, rfl, _, hr, hb⟩
    exact ⟨_, rfl, hb, A, m, c, rfl, hr, hb⟩
  rintro r w7 _ ⟨A7, m7, c7, rfl, hr7, hb7⟩
  refine ⟨w7.heap.size, hb7.size, ?_⟩
  simp only [Act.put, List.setIfInBounds_toArray, List.set_cons_zero, List.set_cons_succ]
  have u7 : ∀ z : LaterB w7.heap.size w7, (convert 24 9 (.slice A7 m7 c7)).run Try.prog z.val = .ok (.string U) z.val := fun z => by rw [← HU.out]; exact conv_rd (hr7.below z.ext)
  have gU : (U.toList == U.toList) = true := beq_self_eq_true _
  refine tail_last (l := ?lastB) (t := []) ?hlastB ?htlastB ?_
  case hlastB => simp only [pick, List.getElem?_toArray, List.getElem?_cons_succ, List.getElem?_cons_zero]; rfl
  case htlastB => rfl
  repeat (go_big_quiet_step (fail))
  refine wpQuiet_nil ?_
  clear u7 hr7
  have hb57 := HBD.out.trans ((hb6.trans (hb7.mono hb6.size)).mono HBD.out.size)
  have HF := Lib.hid (HB5.out.trans (hb57.mono HB5.out.size))
  have p3 := (hb57.block _ (heap_lt1 HM3.out)).trans HM3.out
  have p5 := (hb57.block _ (heap_lt1 HNw5.out)).trans HNw5.out
  obtain ⟨c0, c1, c2⟩ := rk_cells p3
  obtain ⟨d0, d1, d2⟩ := rk_cells p5
  have hl3 := heap_lt1 p3
  have hl5 := heap_lt1 p5
  have gG : ((G : Int) == (G : Int)) = true := beq_self_eq_true _
  have gN : ((N : Int) == (N : Int)) = true := beq_self_eq_true _
  have gS : ((S : Int) == (S : Int)) = true := beq_self_eq_true _
  have gyy : (y == y) = true := beq_self_eq_true _
  clear hb6 hb7 hb57 p3 p5
  go_wp2_with fail
  go_ret
  exact ⟨rfl, HF.out⟩
theorem st_any (w : World) (g n s : Nat) (hg : g < 18446744073709551616) (hn : n < 18446744073709551616) (hs : s < 4294967296) (A : Option Addr) (c : Nat) (b : List UInt8) (hr : Rd w w.heap.size A b.length b) (hnc : b.length ≤ c) (hc : c ≤ 9223372036854775807) :
    Calls Try.prog 3 #[.int .u64 (g : Int), .int .u64 (n : Int), .int .u32 (s : Int), .slice A b.length c] w fun e w' => e = .returned (.bool true) ∧ Below w.heap.size w w' := by
  by_cases h : 2000 < b.length
  · exact st_long w g n s hg hn hs A c b hr hnc hc h
  · exact st_ok w g n s hg hn hs A c b hr hnc hc (by omega)
end Go.Proofs.Yteomiekjcnpnlaa
