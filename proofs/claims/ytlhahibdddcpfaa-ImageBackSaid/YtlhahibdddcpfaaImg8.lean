/- The program's images: a sum behind its bytes; the head; Get of the document's example, and of nothing. -/
import Derived.Test.YtlhahibdddcpfaaImg3
import Derived.Test.YtlhahibdddcpfaaW4
import Derived.Test.YtlhahibdddcpfaaSums
import Derived.Test.YtlhahibdddcpfaaConv
namespace Go.Proofs.Ytlhahibdddcpfaa
open Go.RowKit

set_option maxRecDepth 100000 in
set_option maxHeartbeats 1000000 in
theorem imhas_any (w : World) (A : Option Addr) (n c B : Nat) (b : List UInt8) (i j : Nat) (hr : Rd w B A n b) (hnc : n ≤ c) (hc : c ≤ 9223372036854775807) (hn : n ≤ 900000) (hij : i ≤ j) (hj : j + 4 ≤ n) (y : Bool) (hy : (numB ((b.drop j).take 4) == moreN 0 ((b.drop i).take (j - i))) = y) :
    Calls Try.prog 43 #[.slice A n c, .int .i64 (i : Int), .int .i64 (j : Int)] w fun e w' => e = .returned (.bool y) ∧ w = w' := by
  have HG := Lib.hid (get4_yes A n c B b j w hr hnc (by omega) hj)
  obtain ⟨g, off, rfl, _⟩ := hr.2 (by omega)
  have HSM := Lib.hid (sum_any (some ⟨g, off + i, none⟩) (j - i) (c - i) B _ w (hr.sub i (j - i) (by omega)) (by omega))
  obtain ⟨p, hp⟩ : ∃ p, numB ((b.drop j).take 4) = p := ⟨_, rfl⟩
  obtain ⟨q, hq⟩ : ∃ q, moreN 0 ((b.drop i).take (j - i)) = q := ⟨_, rfl⟩
  rw [hp] at HG
  rw [hq] at HSM
  rw [hp, hq] at hy
  have HY : Hid (((p : Int) == (q : Int)) = y) := (show _ = y by
    rw [← hy]
    by_cases h : p = q
    · rw [h]; simp
    · have e : (p == q) = false := by rw [beq_eq_false_iff_ne]; exact h
      rw [e, beq_eq_false_iff_ne]; omega)
  have h1 : (i : Int) ≤ (j : Int) := by omega
  have h2 : (j : Int) ≤ (c : Int) := by omega
  have h3 : (i : Int) < (c : Int) := by omega
  clear hr hp hq hy
  go_enter Try.func43, Try.ntmps43
  go_wp2_with fail
  refine HG.out.mono ?_
  rintro e w2 ⟨rfl, rfl⟩
  go_wp2_with fail
  refine HSM.out.mono ?_
  rintro e w2 ⟨rfl, rfl⟩
  go_wp2
  go_ret
  exact ⟨ret_bool HY.out, rfl⟩
theorem markStr : strB markB = ⟨#[67, 78, 84, 76, 1, 0, 0, 0]⟩ := by rfl
set_option maxRecDepth 100000 in
set_option maxHeartbeats 1000000 in
theorem imhead_ok (w : World) (A : Option Addr) (n c B : Nat) (b : List UInt8) (hr : Rd w B A n b) (hnc : n ≤ c) (hc : c ≤ 9223372036854775807) (hn : n ≤ 900000) (h28 : 28 ≤ n) (hm : b.take 8 = markB) (hs : (numB ((b.drop 24).take 4) == moreN 0 ((b.drop 0).take (24 - 0))) = true) (N K : Nat) (hN : numB ((b.drop 8).take 8) = N) (hK : numB ((b.drop 16).take 8) = K) (hlen : lenOk (N : Int) = true) (hk : K ≤ 1024) :
    Calls Try.prog 30 #[.slice A n c] w fun e w' => e = .returned (.tuple #[.int .i64 (N : Int), .int .i64 (K : Int), .nilIface]) ∧ w = w' := by
  have HS := Lib.hid (imhas_any w A n c B b 0 24 hr hnc hc hn (by omega) (by omega) true hs)
  have HG1 := Lib.hid (get_yes A n c B b 8 w hr hnc (by omega) (by omega))
  have HG2 := Lib.hid (get_yes A n c B b 16 w hr hnc (by omega) (by omega))
  rw [hN] at HG1
  rw [hK] at HG2
  have h3 := (lenOk_iff (N : Int)).1 hlen
  have HL := Lib.hid (imlen_any w N (by omega) true hlen)
  obtain ⟨g, off, rfl, _⟩ := hr.2 (by omega)
  have q1 : (convert 31 9 (.slice (some ⟨g, off, none⟩) 8 c)).run Try.prog w = .ok (.string ⟨#[67, 78, 84, 76, 1, 0, 0, 0]⟩) w := by
    have h := hr.sub 0 8 (by omega)
    rw [List.drop_zero, hm, Nat.add_zero] at h
    have h2 := conv_rd (c := c) h
    rw [markStr] at h2
    exact h2
  have g1 : decide (n < 28) = false := decide_eq_false (by omega)
  have g2 : decide (1024 < K) = false := decide_eq_false (by omega)
  have g3 : (8 : Int) ≤ (c : Int) := by omega
  clear hr hm hs hN hK hlen
  go_enter Try.func30, Try.ntmps30
  go_wp2_with fail
  refine HS.out.mono ?_
  rintro e w2 ⟨rfl, rfl⟩
  go_wp2_with fail
  refine HG1.out.mono ?_
  rintro e w2 ⟨rfl, rfl⟩
  go_wp2_with fail
  refine HG2.out.mono ?_
  rintro e w2 ⟨rfl, rfl⟩
  go_wp2_with fail
  refine HL.out.mono ?_
  rintro e w2 ⟨rfl, rfl⟩
  go_wp2
  go_ret3
  exact ⟨rfl, rfl⟩
set_option maxHeartbeats 400000 in
theorem imhead_nil (w : World) :
    Calls Try.prog 30 #[.slice none 0 0] w fun e w' => e = .returned (.tuple #[.int .i64 0, .int .i64 0, .iface 52 (.int .i64 3)]) ∧ w = w' := by
  go_enter Try.func30, Try.ntmps30
  go_wp2
  go_ret3
  exact ⟨rfl, rfl⟩
theorem imte_any (w : World) (k : Nat) (hk : k ≤ 100000) :
    Calls Try.prog 45 #[.int .i64 (k : Int)] w fun e w' => e = .returned (.int .i64 ((28 + k * 8 : Nat) : Int)) ∧ w = w' := by
  go_enter Try.func45, Try.ntmps45
  go_wp2
  go_ret
  exact ⟨by congr 2, rfl⟩
theorem bk_inf8 : (Try.prog.info? 50).map (fun i => (i.zero, i.size, i.bytes)) = some (some (.agg #[.int .i64 0, .int .i64 0, .bool false]), 3, 24) := by kernel_rfl
theorem mk_blk0 (W : World) : (Instr.makeSlice 22 (.int .i64 0) (.int .i64 0)).run Try.prog W = .ok (.slice (some ⟨W.heap.size, 0, none⟩) 0 0) (W.alloc (.cells #[] 50)) := by
  obtain ⟨i0, hi, hz0, hz1, hz2⟩ := info_parts bk_inf8
  have h := run_makeSlice (P := Try.prog) W 22 50 i0 _ Try.underlying22 hi hz0 .i64 .i64 0 0 (by omega) (by omega) (by simp) (by simp) (by omega)
  simp only [Int.toNat_zero, Nat.zero_mul] at h
  rw [Array.eq_empty_of_size_eq_zero (size_madeCells _ 0)] at h
  exact h
set_option maxRecDepth 100000 in
set_option maxHeartbeats 1000000 in
theorem imblocks_0 (w : World) (A : Option Addr) (n c B : Nat) (b : List UInt8) (hr : Rd w B A n b) (hnc : n ≤ c) (hc : c ≤ 9223372036854775807) (hn : n ≤ 900000) (h32 : 32 ≤ n) (hs : (numB ((b.drop 28).take 4) == moreN 0 ((b.drop 28).take (28 - 28))) = true) :
    Calls Try.prog 31 #[.slice A n c, .int .i64 184, .int .i64 0] w fun e w' => ∃ A2, e = .returned (.tuple #[.slice A2 0 0, .nilIface]) ∧ Below w.heap.size w w' := by
  have HT := Lib.hid (imte_any w 0 (by omega))
  have HS := Lib.hid (imhas_any w A n c B b 28 28 hr hnc hc hn (by omega) (by omega) true hs)
  have HMS : ∀ W : World, (Instr.makeSlice 22 (.int .i64 0) (.int .i64 0)).run Try.prog W = .ok (.slice (some ⟨W.heap.size, 0, none⟩) 0 0) (W.alloc (.cells #[] 50)) := fun W => mk_blk0 W
  obtain ⟨w1, hw1⟩ : ∃ w1, w.alloc (.cells #[] 50) = w1 := ⟨_, rfl⟩
  have hb1 : Below w.heap.size w w1 := by rw [← hw1]; exact (Below.refl _ _).alloc (Nat.le_refl _) _
  have HROW := Lib.hid (imrow_any w1 (some ⟨w.heap.size, 0, none⟩) 0 [] (fun h => absurd h (by simp)) (by simp) 184 (by omega) true rfl)
  have HW1 := Lib.hid hw1
  have HB1 := Lib.hid hb1
  have g1 : decide (n < 32) = false := decide_eq_false (by omega)
  clear hr hs hw1 hb1
  go_enter Try.func31, Try.ntmps31
  go_wp2_with fail
  refine HT.out.mono ?_
  rintro e w2 ⟨rfl, rfl⟩
  go_wp2_with fail
  refine HS.out.mono ?_
  rintro e w2 ⟨rfl, rfl⟩
  go_wp2_with (first | (rw [HW1.out]) | fail)
  go_loopw [10, 34] (fun o t wr => o = .int .i64 184 ∧ t = .int .i64 0 ∧ wr = w1) (fun _ _ _ => 0)
  case atStart => exact ⟨rfl, rfl, rfl⟩
  case round =>
    obtain ⟨rfl, rfl, rfl⟩ := hrel
    go_wp2_with fail
    refine HROW.out.mono ?_
    rintro e w3 ⟨rfl, hb3⟩
    have HF := Lib.hid (HB1.out.trans (hb3.mono HB1.out.size))
    clear hb3
    go_wp2
    go_ret2
    exact ⟨_, rfl, HF.out⟩
set_option maxRecDepth 100000 in
set_option maxHeartbeats 1000000 in
theorem imdata_0 (w : World) (A A2 : Option Addr) (c B k : Nat) (b : List UInt8) (hr : Rd w B A 40 b) (hnc : 40 ≤ c) (hc : c ≤ 9223372036854775807) (hs : (numB ((b.drop 32).take 4) == moreN 0 ((b.drop 32).take (32 - 32))) = true) (hs2 : (numB ((b.drop 36).take 4) == moreN 0 ((b.drop 0).take (36 - 0))) = true) :
    Calls Try.prog 32 #[.slice A 40 c, .slice A2 0 k] w fun e w' => e = .returned (.tuple #[.slice none 0 0, .nilIface]) ∧ w = w' := by
  have HT := Lib.hid (imte_any w 0 (by omega))
  have HS := Lib.hid (imhas_any w A 40 c B b 32 32 hr hnc hc (by omega) (by omega) (by omega) true hs)
  have HS2 := Lib.hid (imhas_any w A 40 c B b 0 36 hr hnc hc (by omega) (by omega) (by omega) true hs2)
  clear hr hs hs2
  go_enter Try.func32, Try.ntmps32
  go_wp2_with fail
  refine HT.out.mono ?_
  rintro e w2 ⟨rfl, rfl⟩
  go_wp2_with fail
  go_loopw [7, 20] (fun o t wr => o = .int .i64 32 ∧ t = .int .i64 0 ∧ w = wr) (fun _ _ _ => 0)
  case atStart => exact ⟨rfl, rfl, rfl⟩
  case round =>
    obtain ⟨rfl, rfl, hw⟩ := hrel
    subst hw
    go_wp2_with fail
    refine HS.out.mono ?_
    rintro e w2 ⟨rfl, rfl⟩
    go_wp2_with fail
    refine HS2.out.mono ?_
    rintro e w2 ⟨rfl, rfl⟩
    go_wp2_with fail
    go_loopw [6, 10, 52] (fun o l t wr => o = .int .i64 32 ∧ l = .slice none 0 0 ∧ t = .int .i64 0 ∧ w = wr) (fun _ _ _ _ => 0)
    case atStart => exact ⟨rfl, rfl, rfl, rfl⟩
    case round =>
      obtain ⟨rfl, rfl, rfl, hw⟩ := hrel
      subst hw
      go_wp2
      go_ret2
      exact ⟨rfl, rfl⟩
theorem im_ret {fn : Func} {R : Ending → World → Prop} {a : Act} {w : World} {p u : Tmp} {g : Nat} {x : Value} {n : Int} {A1 A2 : Option Addr} {a1 b1 a2 b2 : Nat} (hres : fn.results = #[.cell p 27, .tmp u]) (hp : a.tmps.getD p undef = .pointer (some ⟨g, 0, none⟩)) (hx : a.tmps.getD u undef = x) (hd : a.defers = [])
    (hg : w.heap[g]? = some (.cells #[.int .i64 n, .slice A1 a1 b1, .slice A2 a2 b2] 27 (0, 0))) (hR : R (.returned (.tuple #[.agg #[.int .i64 n, .slice A1 a1 b1, .slice A2 a2 b2], x])) w) : bodyPost Try.prog fn R .ret a w := by
  obtain ⟨c0, c1, c2⟩ := rk_cells hg
  refine bodyPost_ret (v := .tuple #[.agg #[.int .i64 n, .slice A1 a1 b1, .slice A2 a2 b2], x]) ?_ hd hR
  rw [results_cell_tmp hres, hp, hx]
  simp [go_sem, c0, c1, c2]
theorem im_set {y0 y1 y2 : Value} {w : World} {g : Nat} {t : TypeId} (h : w.heap[g]? = some (.cells #[y0, y1, y2] t (0, 0))) (x0 x1 x2 : Value) :
    (((w.setCell ⟨g, 0, none⟩ x0).setCell ⟨g, 1, none⟩ x1).setCell ⟨g, 2, none⟩ x2).heap[g]? = some (.cells #[x0, x1, x2] t (0, 0)) := by
  have h1 := heap_setCell_same w g 0 _ _ x0 h
  have h2 := heap_setCell_same _ g 1 _ _ x1 h1
  have h3 := heap_setCell_same _ g 2 _ _ x2 h2
  rw [h3]
  rfl
theorem im_thaw {w : World} {g : Nat} {cs : Array Value} {t : TypeId} (h : w.heap[g]? = some (.cells cs t (0, 0))) : w.frozen? ⟨g, 0, none⟩ = false ∧ w.frozen? ⟨g, 1, none⟩ = false ∧ w.frozen? ⟨g, 2, none⟩ = false :=
  ⟨frozen_of_row w g 0 _ _ h, frozen_of_row w g 1 _ _ h, frozen_of_row w g 2 _ _ h⟩
/-- The document's example: no blocks. -/
def b40 : List UInt8 := putB 184 [] []
theorem b40_len : b40.length = 40 := by kernel_rfl
theorem b40_mark : b40.take 8 = markB := by kernel_rfl
theorem b40_s1 : (numB ((b40.drop 24).take 4) == moreN 0 ((b40.drop 0).take (24 - 0))) = true := by kernel_rfl
theorem b40_n : numB ((b40.drop 8).take 8) = 184 := by kernel_rfl
theorem b40_k : numB ((b40.drop 16).take 8) = 0 := by kernel_rfl
theorem b40_s2 : (numB ((b40.drop 28).take 4) == moreN 0 ((b40.drop 28).take (28 - 28))) = true := by kernel_rfl
theorem b40_s3 : (numB ((b40.drop 32).take 4) == moreN 0 ((b40.drop 32).take (32 - 32))) = true := by kernel_rfl
theorem b40_s4 : (numB ((b40.drop 36).take 4) == moreN 0 ((b40.drop 0).take (36 - 0))) = true := by kernel_rfl
set_option maxRecDepth 100000 in
set_option maxHeartbeats 1000000 in
theorem imget_up (w : World) (A : Option Addr) (c B : Nat) (hr : Rd w B A 40 b40) (hB : B ≤ w.heap.size) (hnc : 40 ≤ c) (hc : c ≤ 9223372036854775807) :
    Calls Try.prog 14 #[.slice A 40 c] w fun e w' => ∃ A2, e = .returned (.tuple #[.agg #[.int .i64 184, .slice A2 0 0, .slice none 0 0], .nilIface]) ∧ Below w.heap.size w w' := by
  obtain ⟨w1, hw1⟩ : ∃ w1, w.alloc (.cells #[.int .i64 0, .slice none 0 0, .slice none 0 0] 27) = w1 := ⟨_, rfl⟩
  have hb1 : Below w.heap.size w w1 := by rw [← hw1]; exact (Below.refl _ _).alloc (Nat.le_refl _) _
  have n1 : w1.heap[w.heap.size]? = some (.cells #[.int .i64 0, .slice none 0 0, .slice none 0 0] 27 (0, 0)) := by rw [← hw1]; exact heap_alloc_new w _
  have HR1 := Lib.hid ((hr.more hB).below hb1)
  have HH := Lib.hid (imhead_ok w1 A 40 c _ b40 HR1.out hnc hc (by omega) (by omega) b40_mark b40_s1 184 0 b40_n b40_k (by decide) (by omega))
  have HBL := Lib.hid (imblocks_0 w1 A 40 c _ b40 HR1.out hnc hc (by omega) (by omega) b40_s2)
  have HN1 := Lib.hid n1
  have HB1 := Lib.hid hb1
  have HW1 := Lib.hid hw1
  clear hr hw1 hb1 n1
  go_enter Try.func14, Try.ntmps14
  go_wp2_with (first | (rw [HW1.out]) | fail)
  refine HH.out.mono ?_
  rintro e w2 ⟨rfl, rfl⟩
  go_wp2_with fail
  refine HBL.out.mono ?_
  rintro e w2 ⟨A2, rfl, hb2⟩
  have HD := Lib.hid (imdata_0 w2 A A2 c w.heap.size 0 b40 (HR1.out.below (hb2.mono HB1.out.size)) hnc hc b40_s3 b40_s4)
  have n2 := (hb2.block _ (heap_lt1 HN1.out)).trans HN1.out
  have hl2 := heap_lt1 n2
  obtain ⟨f0, f1, f2⟩ := im_thaw n2
  obtain ⟨z0, z1, z2⟩ := rk_cells n2
  have HM := Lib.hid (im_set n2 (.int .i64 184) (.slice A2 0 0) (.slice none 0 0))
  have hbf : Below w.heap.size w (((w2.setCell ⟨w.heap.size, 0, none⟩ (.int .i64 184)).setCell ⟨w.heap.size, 1, none⟩ (.slice A2 0 0)).setCell ⟨w.heap.size, 2, none⟩ (.slice none 0 0)) := (((HB1.out.trans (hb2.mono HB1.out.size)).setCell (Nat.le_refl _) _).setCell (Nat.le_refl _) _).setCell (Nat.le_refl _) _
  have HF := Lib.hid hbf
  have N2 := Lib.hid n2
  clear hb2 hbf n2 HBL HH
  go_wp2_with fail
  refine HD.out.mono ?_
  rintro e w3 ⟨rfl, rfl⟩
  go_wp2
  (try simp only [Exit.inBlock, Exit.then])
  refine im_ret (g := w.heap.size) (x := .nilIface) Try.results14 ?_ ?_ ?_ HM.out ?_
  · rfl
  · rfl
  · rfl
  · exact ⟨A2, rfl, HF.out⟩
set_option maxRecDepth 100000 in
set_option maxHeartbeats 1000000 in
theorem imget_nil (w : World) :
    Calls Try.prog 14 #[.slice none 0 0] w fun e w' => e = .returned (.tuple #[.agg #[.int .i64 0, .slice none 0 0, .slice none 0 0], .iface 52 (.int .i64 3)]) ∧ Below w.heap.size w w' := by
  obtain ⟨w1, hw1⟩ : ∃ w1, w.alloc (.cells #[.int .i64 0, .slice none 0 0, .slice none 0 0] 27) = w1 := ⟨_, rfl⟩
  have hb1 : Below w.heap.size w w1 := by rw [← hw1]; exact (Below.refl _ _).alloc (Nat.le_refl _) _
  have n1 : w1.heap[w.heap.size]? = some (.cells #[.int .i64 0, .slice none 0 0, .slice none 0 0] 27 (0, 0)) := by rw [← hw1]; exact heap_alloc_new w _
  have hl1 := heap_lt1 n1
  obtain ⟨f0, f1, f2⟩ := im_thaw n1
  obtain ⟨z0, z1, z2⟩ := rk_cells n1
  have HH := Lib.hid (imhead_nil w1)
  have HM := Lib.hid (im_set n1 (.int .i64 0) (.slice none 0 0) (.slice none 0 0))
  have hbf : Below w.heap.size w (((w1.setCell ⟨w.heap.size, 0, none⟩ (.int .i64 0)).setCell ⟨w.heap.size, 1, none⟩ (.slice none 0 0)).setCell ⟨w.heap.size, 2, none⟩ (.slice none 0 0)) := ((hb1.setCell (Nat.le_refl _) _).setCell (Nat.le_refl _) _).setCell (Nat.le_refl _) _
  have HF := Lib.hid hbf
  have HW1 := Lib.hid hw1
  have N1 := Lib.hid n1
  clear hw1 hb1 hbf n1
  go_enter Try.func14, Try.ntmps14
  go_wp2_with (first | (rw [HW1.out]) | fail)
  refine HH.out.mono ?_
  rintro e w2 ⟨rfl, rfl⟩
  go_wp2
  (try simp only [Exit.inBlock, Exit.then])
  refine im_ret (g := w.heap.size) (x := .iface 52 (.int .i64 3)) Try.results14 ?_ ?_ ?_ HM.out ?_
  · rfl
  · rfl
  · rfl
  · exact ⟨rfl, HF.out⟩
end Go.Proofs.Ytlhahibdddcpfaa
