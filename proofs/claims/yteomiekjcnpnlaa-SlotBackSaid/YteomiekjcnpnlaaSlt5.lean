/- The program's records: Get (genslot5.py). -/
import Derived.Test.YteomiekjcnpnlaaSlt4
import Derived.Test.YteomiekjcnpnlaaConv
namespace Go.Proofs.Yteomiekjcnpnlaa
open Go.RowKit

theorem slStr_eq (a b : List UInt8) : ((strB a).toList == (strB b).toList) = decide (a = b) := by
  unfold strB
  simp
  by_cases h : a = b <;> simp [h]
set_option maxRecDepth 100000 in
set_option maxHeartbeats 1000000 in
theorem bytesEqual_any (w : World) (A1 A2 : Option Addr) (n1 c1 n2 c2 B : Nat) (x y : List UInt8) (h1 : Rd w B A1 n1 x) (h2 : Rd w B A2 n2 y) (t : Bool) (ht : decide (x = y) = t) :
    Calls Try.prog 11 #[.slice A1 n1 c1, .slice A2 n2 c2] w fun e w' => e = .returned (.bool t) ∧ w = w' := by
  have q1 := conv_rd (c := c1) h1
  have q2 := conv_rd (c := c2) h2
  have gy := slStr_eq x y
  obtain ⟨S, hS⟩ : ∃ S, strB x = S := ⟨_, rfl⟩
  obtain ⟨T, hT⟩ : ∃ T, strB y = T := ⟨_, rfl⟩
  rw [hS] at q1
  rw [hT] at q2
  rw [hS, hT, ht] at gy
  clear h1 h2 hS hT ht
  go_enter Try.func11, Try.ntmps11
  go_wp2
  go_ret
  exact ⟨rfl, rfl⟩
theorem slr_ret {fn : Func} {R : Ending → World → Prop} {a : Act} {w : World} {p u : Tmp} {g : Nat} {x y0 y1 y2 : Value} (hres : fn.results = #[.cell p 27, .tmp u]) (hp : a.tmps.getD p undef = .pointer (some ⟨g, 0, none⟩)) (hx : a.tmps.getD u undef = x) (hd : a.defers = [])
    (hg : w.heap[g]? = some (.cells #[y0, y1, y2] 27 (0, 0))) (hR : R (.returned (.tuple #[.agg #[y0, y1, y2], x])) w) : bodyPost Try.prog fn R .ret a w := by
  obtain ⟨c0, c1, c2⟩ := rk_cells hg
  refine bodyPost_ret (v := .tuple #[.agg #[y0, y1, y2], x]) ?_ hd hR
  rw [results_cell_tmp hres, hp, hx]
  simp [go_sem, c0, c1, c2]
theorem slr_ret1 {fn : Func} {R : Ending → World → Prop} {a : Act} {w : World} {p : Tmp} {g : Nat} {n s : Int} {k : Int} (hres : fn.results = #[.cell p 27]) (hp : a.tmps.getD p undef = .pointer (some ⟨g, 0, none⟩)) (hd : a.defers = [])
    (hg : w.heap[g]? = some (.cells #[.int .u64 n, .int .u64 s, .int .u32 k] 27 (0, 0))) (hR : R (.returned (.agg #[.int .u64 n, .int .u64 s, .int .u32 k])) w) : bodyPost Try.prog fn R .ret a w := by
  refine bodyPost_ret (v := .agg #[.int .u64 n, .int .u64 s, .int .u32 k]) ?_ hd hR
  exact results_cell_row hres _ _ g _ _ _ _ hp hg rfl rfl rfl
set_option maxRecDepth 100000 in
set_option maxHeartbeats 2000000 in
theorem slnumbers_any (w : World) (A : Option Addr) (c : Nat) (b : List UInt8) (hr : Rd w w.heap.size A 512 b) (hc : 512 ≤ c) (G N S : Nat) (hG : slG b = G) (hN : slN b = N) (hS : slS b = S) :
    Calls Try.prog 10 #[.slice A 512 c] w fun e w' => e = .returned (.agg #[.int .u64 (G : Int), .int .u64 (N : Int), .int .u32 (S : Int)]) ∧ Below w.heap.size w w' := by
  obtain ⟨w1, hw1⟩ : ∃ w1, w.alloc (.cells #[.int .u64 0, .int .u64 0, .int .u32 0] 27) = w1 := ⟨_, rfl⟩
  have hb1 : Below w.heap.size w w1 := by rw [← hw1]; exact (Below.refl _ _).alloc (Nat.le_refl _) _
  have n1 : w1.heap[w.heap.size]? = some (.cells #[.int .u64 0, .int .u64 0, .int .u32 0] 27 (0, 0)) := by rw [← hw1]; exact heap_alloc_new w _
  have hr1 := hr.below hb1
  have HG := Lib.hid (get_yes A 512 c w.heap.size b 8 w1 hr1 hc (by omega) (by omega))
  have HN := Lib.hid (get_yes A 512 c w.heap.size b 16 w1 hr1 hc (by omega) (by omega))
  have HS := Lib.hid (get4_yes A 512 c w.heap.size b 24 w1 hr1 hc (by omega) (by omega))
  unfold slG at hG
  unfold slN at hN
  unfold slS at hS
  rw [hG] at HG
  rw [hN] at HN
  rw [hS] at HS
  obtain ⟨z0, z1, z2⟩ := rk_cells n1
  obtain ⟨f0, f1, f2⟩ := im_thaw n1
  have hl1 := heap_lt1 n1
  have HW1 := Lib.hid hw1
  have HM := Lib.hid (im_set n1 (.int .u64 (G : Int)) (.int .u64 (N : Int)) (.int .u32 (S : Int)))
  have HF := Lib.hid (((hb1.setCell (p := ⟨w.heap.size, 0, none⟩) (Nat.le_refl _) (.int .u64 (G : Int))).setCell (p := ⟨w.heap.size, 1, none⟩) (Nat.le_refl _) (.int .u64 (N : Int))).setCell (p := ⟨w.heap.size, 2, none⟩) (Nat.le_refl _) (.int .u32 (S : Int)))
  clear hw1 hb1 n1 hr hr1 hG hN hS
  go_enter Try.func10, Try.ntmps10
  go_wp2_with (first | (rw [HW1.out]) | fail)
  refine HG.out.mono ?_
  rintro e w2 ⟨rfl, rfl⟩
  go_wp2_with fail
  refine HN.out.mono ?_
  rintro e w2 ⟨rfl, rfl⟩
  go_wp2_with fail
  refine HS.out.mono ?_
  rintro e w2 ⟨rfl, rfl⟩
  go_wp2_with fail
  (try simp only [Exit.inBlock, Exit.then])
  refine slr_ret1 (g := w.heap.size) Try.results10 ?_ ?_ HM.out ?_
  · rfl
  · rfl
  · exact ⟨rfl, HF.out⟩
set_option maxRecDepth 100000 in
set_option maxHeartbeats 2000000 in
theorem slget_len (w : World) (A : Option Addr) (n c : Nat) (hn : n ≠ 512) :
    Calls Try.prog 6 #[.slice A n c] w fun e w' => e = .returned (.tuple #[.agg #[.int .u64 0, .int .u64 0, .int .u32 0], .bool false]) ∧ Below w.heap.size w w' := by
  obtain ⟨w1, hw1⟩ : ∃ w1, w.alloc (.cells #[.int .u64 0, .int .u64 0, .int .u32 0] 27) = w1 := ⟨_, rfl⟩
  have hb1 : Below w.heap.size w w1 := by rw [← hw1]; exact (Below.refl _ _).alloc (Nat.le_refl _) _
  have n1 : w1.heap[w.heap.size]? = some (.cells #[.int .u64 0, .int .u64 0, .int .u32 0] 27 (0, 0)) := by rw [← hw1]; exact heap_alloc_new w _
  obtain ⟨z0, z1, z2⟩ := rk_cells n1
  obtain ⟨f0, f1, f2⟩ := im_thaw n1
  have hl1 := heap_lt1 n1
  have g1 : (n != 512) = true := by rw [bne_iff_ne]; exact hn
  have g2 : ((n : Int) != 512) = true := by rw [bne_iff_ne]; omega
  have HW1 := Lib.hid hw1
  have HM := Lib.hid (im_set n1 (.int .u64 0) (.int .u64 0) (.int .u32 0))
  have HF := Lib.hid (((hb1.setCell (p := ⟨w.heap.size, 0, none⟩) (Nat.le_refl _) (.int .u64 0)).setCell (p := ⟨w.heap.size, 1, none⟩) (Nat.le_refl _) (.int .u64 0)).setCell (p := ⟨w.heap.size, 2, none⟩) (Nat.le_refl _) (.int .u32 0))
  clear hw1 hb1 n1
  go_enter Try.func6, Try.ntmps6
  go_wp2_with (first | (rw [HW1.out]) | fail)
  (try simp only [Exit.inBlock, Exit.then])
  refine slr_ret (g := w.heap.size) (x := .bool false) Try.results6 ?_ ?_ ?_ HM.out ?_
  · rfl
  · rfl
  · rfl
  · exact ⟨rfl, HF.out⟩
set_option maxRecDepth 100000 in
set_option maxHeartbeats 4000000 in
theorem slget_512 (w : World) (A : Option Addr) (c : Nat) (b : List UInt8) (hr : Rd w w.heap.size A 512 b) (hc : 512 ≤ c) (G N S : Nat) (hG : slG b = G) (hN : slN b = N) (hS : slS b = S) (y : Bool) (hy : decide (slOf G N S ≠ b) = y) :
    Calls Try.prog 6 #[.slice A 512 c] w fun e w' => e = .returned (.tuple #[.agg #[.int .u64 (if y = true then 0 else (G : Int)), .int .u64 (if y = true then 0 else (N : Int)), .int .u32 (if y = true then 0 else (S : Int))], .bool (!y)]) ∧ Below w.heap.size w w' := by
  have hSl : S < 4294967296 := by
    have h := numB_lt ((b.drop 24).take 4)
    have e : ((b.drop 24).take 4).length = 4 := by rw [List.length_take, List.length_drop, hr.1]; rfl
    rw [e] at h
    rw [← hS]; exact h
  obtain ⟨w1, hw1⟩ : ∃ w1, w.alloc (.cells #[.int .u64 0, .int .u64 0, .int .u32 0] 27) = w1 := ⟨_, rfl⟩
  have hb1 : Below w.heap.size w w1 := by rw [← hw1]; exact (Below.refl _ _).alloc (Nat.le_refl _) _
  have n1 : w1.heap[w.heap.size]? = some (.cells #[.int .u64 0, .int .u64 0, .int .u32 0] 27 (0, 0)) := by rw [← hw1]; exact heap_alloc_new w _
  have HNUM := Lib.hid (slnumbers_any w1 A c b ((hr.below hb1).more hb1.size) hc G N S hG hN hS)
  have HPUT := Lib.hid (fun V => slput_any V G N S hSl)
  obtain ⟨P, hP⟩ : ∃ P, slOf G N S = P := ⟨_, rfl⟩
  rw [hP] at hy HPUT
  have ht : decide (b = P) = !y := by
    rw [← hy]
    by_cases e : P = b
    · subst e; simp
    · rw [decide_eq_false (fun h => e h.symm), decide_eq_true e]; rfl
  have HT := Lib.hid ht
  have HR := Lib.hid hr
  have HB1 := Lib.hid hb1
  have HN1 := Lib.hid n1
  have HW1 := Lib.hid hw1
  clear hw1 hb1 n1 hr hP hy hG hN hS ht
  go_enter Try.func6, Try.ntmps6
  go_wp2_with (first | (rw [HW1.out]) | fail)
  refine HNUM.out.mono ?_
  rintro e w2 ⟨rfl, hb2⟩
  obtain ⟨w3, hw3⟩ : ∃ w3, w2.alloc (.cells #[.int .u64 0, .int .u64 0, .int .u32 0] 27) = w3 := ⟨_, rfl⟩
  have hb3 : Below w2.heap.size w2 w3 := by rw [← hw3]; exact (Below.refl _ _).alloc (Nat.le_refl _) _
  have n3 : w3.heap[w2.heap.size]? = some (.cells #[.int .u64 0, .int .u64 0, .int .u32 0] 27 (0, 0)) := by rw [← hw3]; exact heap_alloc_new w2 _
  obtain ⟨w5, hw5⟩ : ∃ w5, (((w3.setCell ⟨w2.heap.size, 0, none⟩ (.int .u64 (G : Int))).setCell ⟨w2.heap.size, 1, none⟩ (.int .u64 (N : Int))).setCell ⟨w2.heap.size, 2, none⟩ (.int .u32 (S : Int))) = w5 := ⟨_, rfl⟩
  have n5 : w5.heap[w2.heap.size]? = some (.cells #[.int .u64 (G : Int), .int .u64 (N : Int), .int .u32 (S : Int)] 27 (0, 0)) := by rw [← hw5]; exact im_set n3 _ _ _
  have hb5 : Below w2.heap.size w2 w5 := by rw [← hw5]; exact ((hb3.setCell (p := ⟨w2.heap.size, 0, none⟩) (Nat.le_refl _) _).setCell (p := ⟨w2.heap.size, 1, none⟩) (Nat.le_refl _) _).setCell (p := ⟨w2.heap.size, 2, none⟩) (Nat.le_refl _) _
  obtain ⟨z0, z1, z2⟩ := rk_cells n3
  obtain ⟨f0, f1, f2⟩ := im_thaw n3
  have hlz := heap_lt1 n3
  have hb25 := hb2.trans (hb5.mono hb2.size)
  have HNR := Lib.hid ((hb25.block _ (heap_lt1 HN1.out)).trans HN1.out)
  have HB5 := Lib.hid (HB1.out.trans (hb25.mono HB1.out.size))
  have HN5 := Lib.hid n5
  have HW3 := Lib.hid hw3
  have HW5 := Lib.hid hw5
  obtain ⟨c0, c1, c2⟩ := rk_cells n5
  have hl5 := heap_lt1 n5
  clear hb2 hw3 hb3 n3 hw5 n5 hb5 hb25 HNUM
  go_wp2_with (first | (rw [HW3.out]) | (rw [HW5.out]) | fail)
  clear z0 z1 z2 f0 f1 f2 hlz c0 c1 c2 hl5
  refine (HPUT.out w5).mono ?_
  rintro e w6 ⟨A6, m6, c6, rfl, _, hr6, hb6⟩
  have HB6 := Lib.hid (HB5.out.trans (hb6.mono HB5.out.size))
  have HEQ := Lib.hid (bytesEqual_any w6 A A6 512 c m6 c6 w6.heap.size b P ((HR.out.below HB6.out).more HB6.out.size) hr6 _ HT.out)
  have e6 := (hb6.block _ (heap_lt1 HN5.out)).trans HN5.out
  have e7 := (hb6.block _ (heap_lt1 HNR.out)).trans HNR.out
  clear hr6 hb6
  go_wp2_with fail
  refine HEQ.out.mono ?_
  rintro e w7 ⟨rfl, rfl⟩
  obtain ⟨r0, r1, r2⟩ := rk_cells e6
  have hle := heap_lt1 e6
  obtain ⟨q0, q1, q2⟩ := rk_cells e7
  obtain ⟨f0, f1, f2⟩ := im_thaw e7
  have hlq := heap_lt1 e7
  have HM := Lib.hid (im_set e7 (.int .u64 (if y = true then 0 else (G : Int))) (.int .u64 (if y = true then 0 else (N : Int))) (.int .u32 (if y = true then 0 else (S : Int))))
  have HF := Lib.hid (((HB6.out.setCell (p := ⟨w.heap.size, 0, none⟩) (Nat.le_refl _) (.int .u64 (if y = true then 0 else (G : Int)))).setCell (p := ⟨w.heap.size, 1, none⟩) (Nat.le_refl _) (.int .u64 (if y = true then 0 else (N : Int)))).setCell (p := ⟨w.heap.size, 2, none⟩) (Nat.le_refl _) (.int .u32 (if y = true then 0 else (S : Int))))
  clear e6 e7 HEQ
  cases y with
  | true =>
    simp only [if_true] at HM HF
    go_wp2
    (try simp only [Exit.inBlock, Exit.then])
    refine slr_ret (g := w.heap.size) (x := .bool false) Try.results6 ?_ ?_ ?_ HM.out ?_
    · rfl
    · rfl
    · rfl
    · exact ⟨rfl, HF.out⟩
  | false =>
    simp only [Bool.false_eq_true, if_false] at HM HF
    go_wp2
    (try simp only [Exit.inBlock, Exit.then])
    refine slr_ret (g := w.heap.size) (x := .bool true) Try.results6 ?_ ?_ ?_ HM.out ?_
    · rfl
    · rfl
    · rfl
    · exact ⟨rfl, HF.out⟩
end Go.Proofs.Yteomiekjcnpnlaa
