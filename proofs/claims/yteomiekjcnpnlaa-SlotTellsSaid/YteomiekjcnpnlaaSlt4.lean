/- The program's records: may, Put (genslot4.py). -/
import Derived.Test.YteomiekjcnpnlaaSlt2
import Derived.Test.YteomiekjcnpnlaaImg4
import Derived.Test.YteomiekjcnpnlaaImg7
import Derived.Test.YteomiekjcnpnlaaW4
import Derived.Test.YteomiekjcnpnlaaSums
namespace Go.Proofs.Yteomiekjcnpnlaa
open Go.RowKit

set_option maxRecDepth 100000 in
set_option maxHeartbeats 1000000 in
theorem slmay_any (w : World) (g n s : Nat) (y : Bool) (hy : slOk g n = y) :
    Calls Try.prog 13 #[.agg #[.int .u64 (g : Int), .int .u64 (n : Int), .int .u32 (s : Int)]] w fun e w' => e = .returned (.bool y) ∧ Below w.heap.size w w' := by
  obtain ⟨w1, hw1⟩ : ∃ w1, w.alloc (.cells #[.int .u64 (g : Int), .int .u64 (n : Int), .int .u32 (s : Int)] 27) = w1 := ⟨_, rfl⟩
  have hb1 : Below w.heap.size w w1 := by rw [← hw1]; exact (Below.refl _ _).alloc (Nat.le_refl _) _
  have n1 : w1.heap[w.heap.size]? = some (.cells #[.int .u64 (g : Int), .int .u64 (n : Int), .int .u32 (s : Int)] 27 (0, 0)) := by rw [← hw1]; exact heap_alloc_new w _
  obtain ⟨c0, c1, c2⟩ := rk_cells n1
  have hl1 := heap_lt1 n1
  have HW1 := Lib.hid hw1
  have HB1 := Lib.hid hb1
  clear hw1 hb1 n1
  unfold slOk at hy
  by_cases h1 : 1 ≤ g
  · have g1 : decide ((1 : Int) ≤ (g : Int)) = true := decide_eq_true (by omega)
    rw [decide_eq_true h1, Bool.true_and] at hy
    by_cases h2 : g ≤ 4611686018427387904
    · have g2 : decide ((g : Int) ≤ 4611686018427387904) = true := decide_eq_true (by omega)
      rw [decide_eq_true h2, Bool.true_and] at hy
      have g3 : decide ((n : Int) ≤ 65536) = y := by rw [← hy]; exact decide_eq_decide.mpr (by omega)
      clear hy
      go_enter Try.func13, Try.ntmps13
      go_wp2_with (first | (rw [HW1.out]) | fail)
      go_ret
      exact ⟨rfl, HB1.out⟩
    · have g2 : decide ((g : Int) ≤ 4611686018427387904) = false := decide_eq_false (by omega)
      rw [decide_eq_false h2, Bool.false_and] at hy
      subst hy
      go_enter Try.func13, Try.ntmps13
      go_wp2_with (first | (rw [HW1.out]) | fail)
      go_ret
      exact ⟨rfl, HB1.out⟩
  · have g1 : decide ((1 : Int) ≤ (g : Int)) = false := decide_eq_false (by omega)
    rw [decide_eq_false h1, Bool.false_and] at hy
    subst hy
    go_enter Try.func13, Try.ntmps13
    go_wp2_with (first | (rw [HW1.out]) | fail)
    go_ret
    exact ⟨rfl, HB1.out⟩
set_option maxRecDepth 100000 in
set_option maxHeartbeats 1000000 in
theorem slput_no (w : World) (g n s : Nat) (hy : slOk g n = false) :
    Calls Try.prog 8 #[.agg #[.int .u64 (g : Int), .int .u64 (n : Int), .int .u32 (s : Int)]] w fun e w' => e = .returned (.slice none 0 0) ∧ Below w.heap.size w w' := by
  obtain ⟨w1, hw1⟩ : ∃ w1, w.alloc (.cells #[.int .u64 (g : Int), .int .u64 (n : Int), .int .u32 (s : Int)] 27) = w1 := ⟨_, rfl⟩
  have hb1 : Below w.heap.size w w1 := by rw [← hw1]; exact (Below.refl _ _).alloc (Nat.le_refl _) _
  have n1 : w1.heap[w.heap.size]? = some (.cells #[.int .u64 (g : Int), .int .u64 (n : Int), .int .u32 (s : Int)] 27 (0, 0)) := by rw [← hw1]; exact heap_alloc_new w _
  obtain ⟨c0, c1, c2⟩ := rk_cells n1
  have hl1 := heap_lt1 n1
  have HM := Lib.hid (slmay_any w1 g n s _ hy)
  have HW1 := Lib.hid hw1
  have HB1 := Lib.hid hb1
  clear hw1 hb1 n1 hy
  go_enter Try.func8, Try.ntmps8
  go_wp2_with (first | (rw [HW1.out]) | fail)
  refine HM.out.mono ?_
  rintro e w2 ⟨rfl, hb2⟩
  have HF := Lib.hid (HB1.out.trans (hb2.mono HB1.out.size))
  clear hb2
  go_wp2
  go_ret
  exact ⟨rfl, HF.out⟩
theorem slot_mark (w : World) : (Instr.buildSlice 24 8 #[(0, .int .u8 83), (1, .int .u8 76), (2, .int .u8 79), (3, .int .u8 84), (4, .int .u8 0), (5, .int .u8 0), (6, .int .u8 0), (7, .int .u8 0)]).run Try.prog w = .ok (.slice (some ⟨w.heap.size, 0, none⟩) 8 8) (w.alloc (.cells (rowB slMark) 5)) := by
  have e : rowB slMark = #[.int .u8 83, .int .u8 76, .int .u8 79, .int .u8 84, .int .u8 0, .int .u8 0, .int .u8 0, .int .u8 0] := by rfl
  rw [e]
  exact sl_mark w
theorem slot_four (w : World) (A B C D : Option Addr) (a b c d e f g h : Nat) : (Instr.buildSlice 51 4 #[(0, .slice A a b), (1, .slice B c d), (2, .slice C e f), (3, .slice D g h)]).run Try.prog w = .ok (.slice (some ⟨w.heap.size, 0, none⟩) 4 4) (w.alloc (.cells #[.slice A a b, .slice B c d, .slice C e f, .slice D g h] 24)) := by
  simp [go_sem]
theorem slot_two (w : World) (A B : Option Addr) (a b c d : Nat) : (Instr.buildSlice 51 2 #[(0, .slice A a b), (1, .slice B c d)]).run Try.prog w = .ok (.slice (some ⟨w.heap.size, 0, none⟩) 2 2) (w.alloc (.cells #[.slice A a b, .slice B c d] 24)) := by
  simp [go_sem]
/-- Slices of bytes in a row of their own. -/
theorem row_rd {w : World} {g : Nat} {C : Array Value} {l : List (List UInt8)} (hg : w.heap[g]? = some (.cells C 24 (0, 0)))
    (h : ∀ (j : Nat) (u : List UInt8), l[j]? = some u → ∃ (A : Option Addr) (k : Nat), C[j]? = some (Value.slice A u.length k) ∧ Rd w w.heap.size A u.length u ∧ u.length ≤ maxLen ∧ u.length ≤ k ∧ (A = none → k = 0)) :
    DtRd w w.heap.size (some ⟨g, 0, none⟩) l := fun _ => by
  refine ⟨g, 0, rfl, heap_lt1 hg, fun j u hu => ?_⟩
  obtain ⟨A, k, hC, hr, h1, h2, h3⟩ := h j u hu
  exact ⟨A, k, by rw [Nat.zero_add, cell_of_row w g j _ _ (0, 0) hg]; exact hC, hr, h1, h2, h3⟩
/-- The head's four parts, one behind the other. -/
theorem slhead_cat (g n s : Nat) (w8 : World) (r a b c d : Nat) (hn8 : w8.heap[r]? = some (.cells #[.slice (some ⟨a, 0, none⟩) 8 8, .slice (some ⟨b, 0, none⟩) 8 8, .slice (some ⟨c, 0, none⟩) 8 8, .slice (some ⟨d, 0, none⟩) 4 4] 24 (0, 0)))
    (h1 : Rd w8 w8.heap.size (some ⟨a, 0, none⟩) slMark.length slMark) (h2 : Rd w8 w8.heap.size (some ⟨b, 0, none⟩) (lowB 8 g).length (lowB 8 g)) (h3 : Rd w8 w8.heap.size (some ⟨c, 0, none⟩) (lowB 8 n).length (lowB 8 n)) (h4 : Rd w8 w8.heap.size (some ⟨d, 0, none⟩) (lowB 4 s).length (lowB 4 s)) :
    Calls Try.prog 14 #[.slice (some ⟨r, 0, none⟩) 4 4] w8 fun e w' => ∃ v, e = .returned v ∧ w'.ownsRow w8.heap.size 5 1 v 28 ((slHead g n s).map bv) ∧ Below w8.heap.size w8 w' := by
  have hd : DtRd w8 w8.heap.size (some ⟨r, 0, none⟩) [slMark, lowB 8 g, lowB 8 n, lowB 4 s] := row_rd hn8 (fun j u hu => by
    match j, hu with
    | 0, hu => injection hu with hu; subst hu; exact ⟨_, 8, rfl, h1, by decide, by decide, fun e => by cases e⟩
    | 1, hu => injection hu with hu; subst hu; exact ⟨some ⟨b, 0, none⟩, 8, by rw [lowB_length]; rfl, h2, by rw [lowB_length]; decide, by rw [lowB_length]; decide, fun e => by cases e⟩
    | 2, hu => injection hu with hu; subst hu; exact ⟨some ⟨c, 0, none⟩, 8, by rw [lowB_length]; rfl, h3, by rw [lowB_length]; decide, by rw [lowB_length]; decide, fun e => by cases e⟩
    | 3, hu => injection hu with hu; subst hu; exact ⟨some ⟨d, 0, none⟩, 4, by rw [lowB_length]; rfl, h4, by rw [lowB_length]; decide, by rw [lowB_length]; decide, fun e => by cases e⟩
    | j + 4, hu => cases hu)
  have hc := concat_any w8 (some ⟨r, 0, none⟩) 4 [slMark, lowB 8 g, lowB 8 n, lowB 4 s] hd (by simp) (by simp [slMark, lowB_length])
  have e : ([slMark, lowB 8 g, lowB 8 n, lowB 4 s] : List (List UInt8)).flatten = slHead g n s := by unfold slHead; simp
  rw [e, slHead_len] at hc
  exact hc
/-- A block of its own, some bytes of which are laid over. -/
theorem fill_laid {B : Nat} {w0 w : World} {g : Nat} {t : TypeId} {z cs : List UInt8} (h : Fill w g t (cs ++ z)) (hb : Below B w0 w) (hB : B ≤ g) (ds : List UInt8) (hl : ds.length = cs.length) :
    Fill (w.setRow g (((rowB (cs ++ z)).toList.take 0 ++ (ds.map bv ++ (rowB (cs ++ z)).toList.drop (0 + (ds.map bv).length))).toArray)) g t (ds ++ z) ∧ Below B w0 (w.setRow g (((rowB (cs ++ z)).toList.take 0 ++ (ds.map bv ++ (rowB (cs ++ z)).toList.drop (0 + (ds.map bv).length))).toArray)) := by
  refine ⟨?_, below_setRow hb hB _⟩
  unfold Fill at h ⊢
  rw [setRow_heap w g _ _ t _ h]
  have e : List.drop ds.length (cs ++ z) = z := by rw [hl, List.drop_left]
  simp only [rowB, List.take_zero, List.nil_append, Nat.zero_add, List.length_map, ← List.map_drop]
  rw [e, List.map_append]
set_option maxRecDepth 100000 in
set_option maxHeartbeats 8000000 in
theorem slput_ok (w : World) (g n s : Nat) (hs : s < 4294967296) (hy : slOk g n = true) :
    Calls Try.prog 8 #[.agg #[.int .u64 (g : Int), .int .u64 (n : Int), .int .u32 (s : Int)]] w fun e w' => ∃ b, e = .returned (.slice (some ⟨b, 0, none⟩) 512 512) ∧ w.heap.size ≤ b ∧ Fill w' b 5 (slPut g n s) ∧ Below w.heap.size w w' := by
  obtain ⟨w1, hw1⟩ : ∃ w1, w.alloc (.cells #[.int .u64 (g : Int), .int .u64 (n : Int), .int .u32 (s : Int)] 27) = w1 := ⟨_, rfl⟩
  have hb1 : Below w.heap.size w w1 := by rw [← hw1]; exact (Below.refl _ _).alloc (Nat.le_refl _) _
  have n1 : w1.heap[w.heap.size]? = some (.cells #[.int .u64 (g : Int), .int .u64 (n : Int), .int .u32 (s : Int)] 27 (0, 0)) := by rw [← hw1]; exact heap_alloc_new w _
  have HM := Lib.hid (slmay_any w1 g n s _ hy)
  unfold slOk at hy
  simp only [Bool.and_eq_true, decide_eq_true_eq] at hy
  have hg64 : g < 18446744073709551616 := by omega
  have hn64 : n < 18446744073709551616 := by omega
  obtain ⟨d0, d1, d2⟩ := rk_cells n1
  have hl1 := heap_lt1 n1
  have HB1 := Lib.hid hb1
  have HW1 := Lib.hid hw1
  have HN1 := Lib.hid n1
  have HPUTg := Lib.hid (fun W => put_any g W hg64)
  have HPUTn := Lib.hid (fun W => put_any n W hn64)
  have HPUT4 := Lib.hid (fun W => put4_any s W hs)
  have HEND := Lib.hid (fun w8 r a b c d => slhead_cat g n s w8 r a b c d)
  clear hw1 hb1 n1 hy
  go_enter Try.func8, Try.ntmps8
  go_wp2_with (first | (rw [HW1.out]) | fail)
  refine HM.out.mono ?_
  rintro e w2 ⟨rfl, hb2⟩
  obtain ⟨wd, hwd⟩ : ∃ wd, w2.drew = wd := ⟨_, rfl⟩
  have hbd : Below w1.heap.size w1 wd := by rw [← hwd]; exact hb2.drew
  have nd := (hbd.block _ (heap_lt1 HN1.out)).trans HN1.out
  obtain ⟨c0, c1, c2⟩ := rk_cells nd
  have hld := heap_lt1 nd
  have HBD := Lib.hid hbd
  have HWD := Lib.hid hwd
  clear hb2 hwd hbd nd d0 d1 d2 HM
  go_wp2_with fail
  go_cut [3] from 8 (fun b wx => wx.ownsRow wd.heap.size 5 1 b 28 ((slHead g n s).map bv) ∧ Below wd.heap.size wd wx)
  case first =>
    refine wp_region_plan wd.heap.size (.two [2, 3, 5, 6, 8, 9] 0 (.two [] 1 (.one [] 4 (.one [] 7 (.one [] 10 (.one [] 11 (.one [] 12 (.fin [13])))))) 4 (.two [] 1 (.one [] 7 (.one [] 10 (.one [] 11 (.one [] 12 (.fin [13]))))) 7 (.two [] 1 (.one [] 10 (.one [] 11 (.one [] 12 (.fin [13])))) 10 (.one [] 1 (.one [] 11 (.one [] 12 (.fin [13]))))))) 4 (.two [] 0 (.two [] 1 (.one [] 7 (.one [] 10 (.one [] 11 (.one [] 12 (.fin [13]))))) 7 (.two [] 1 (.one [] 10 (.one [] 11 (.one [] 12 (.fin [13])))) 10 (.one [] 1 (.one [] 11 (.one [] 12 (.fin [13])))))) 7 (.two [] 0 (.two [] 1 (.one [] 10 (.one [] 11 (.one [] 12 (.fin [13])))) 10 (.one [] 1 (.one [] 11 (.one [] 12 (.fin [13]))))) 10 (.one [] 0 (.one [] 1 (.one [] 11 (.one [] 12 (.fin [13])))))))) [] (by kernel_rfl) (by kernel_rfl) (by kernel_rfl) (fun _ _ _ _ _ h => h) ?_
    rw [HWD.out]
    have q0 : ∀ z : LaterB wd.heap.size wd, z.val.cell? ⟨w.heap.size, 0, none⟩ = some (.int .u64 (g : Int)) := fun z => (z.ext.cell (p := ⟨w.heap.size, 0, none⟩) hld).trans c0
    have q1 : ∀ z : LaterB wd.heap.size wd, z.val.cell? ⟨w.heap.size, 1, none⟩ = some (.int .u64 (n : Int)) := fun z => (z.ext.cell (p := ⟨w.heap.size, 1, none⟩) hld).trans c1
    have q2 : ∀ z : LaterB wd.heap.size wd, z.val.cell? ⟨w.heap.size, 2, none⟩ = some (.int .u32 (s : Int)) := fun z => (z.ext.cell (p := ⟨w.heap.size, 2, none⟩) hld).trans c2
    have cb0 : Below wd.heap.size wd wd := Below.refl _ _
    refine plan_two (l := ?segA) ?hsegA ?_
    case hsegA => simp only [pick, List.getElem?_toArray, List.getElem?_cons_succ, List.getElem?_cons_zero]; rfl
    repeat (go_big_quiet_step (fail))
    refine wpQuiet_nil ?_
    clear q0 q1 q2
    refine ⟨?wayWa, ?wayWb⟩
    case wayWa =>
      refine tail_val2 (some 8) (w1 := wd.alloc (.cells (rowB slMark) 5)) (v := .slice (some ⟨wd.heap.size, 0, none⟩) 8 8) rfl rfl rfl (bslice_run rfl rfl (slot_mark wd)) ((Below.refl _ _).alloc cb0.size _) ⟨wd.heap.size, Nat.le_refl _, ?_⟩
      obtain ⟨v1, hv1⟩ : ∃ v1, wd.alloc (.cells (rowB slMark) 5) = v1 := ⟨_, rfl⟩
      have hbv1 : Below wd.heap.size wd v1 := by rw [← hv1]; exact (Below.refl _ _).alloc (Nat.le_refl _) _
      have fmv1 : v1.heap[wd.heap.size]? = some (.cells (rowB slMark) 5 (0, 0)) := by rw [← hv1]; exact heap_alloc_new wd _
      have cb1 : Below wd.heap.size wd v1 := cb0.trans (hbv1.mono cb0.size)
      have lmv1 : wd.heap.size ≤ wd.heap.size := cb0.size
      have lsv1 : wd.heap.size < v1.heap.size := heap_ltz fmv1
      rw [hv1]
      clear hv1
      simp only [Act.put, List.setIfInBounds_toArray, List.set_cons_zero, List.set_cons_succ]
      refine plan_two (l := []) rfl (wpQuiet_nil ?_)
      refine ⟨?wayWaa, ?wayWab⟩
      case wayWaa =>
        obtain ⟨v2, hrv2, fmv2, szv2, kpv2, blv2⟩ := conv_mark (P := Try.prog) v1 24 5 wd.heap.size (rowB slMark) 8 8 Try.underlying24 Try.underlying5 fmv1
        refine tail_val2 (some 9) rfl rfl rfl (conv_run rfl rfl hrv2) (blv2 wd.heap.size lmv1) ⟨wd.heap.size, Nat.le_refl _, ?_⟩
        have cb2 : Below wd.heap.size wd v2 := cb1.trans (blv2 wd.heap.size lmv1)
        have lsv2 : v2.heap.size = v1.heap.size := szv2
        clear hrv2
        simp only [Act.put, List.setIfInBounds_toArray, List.set_cons_zero, List.set_cons_succ]
        refine plan_one (l := []) rfl (wpQuiet_nil ?_)
        refine tail_call (vs := #[.int .u64 (g : Int)]) Try.call15 rfl rfl rfl (R := fun r w' => r = .slice (some ⟨v2.heap.size, 0, none⟩) 8 8 ∧ w'.heap[v2.heap.size]? = some (.cells (rowB (lowB 8 g)) 5 (0, 0)) ∧ Below v2.heap.size v2 w') ((HPUTg.out v2).mono ?_) wd.heap.size (Nat.le_refl _) ?_
        · rintro e w' ⟨rfl, hf, hb⟩
          exact ⟨_, rfl, hb.mono cb2.size, rfl, hf, hb⟩
        rintro r v3 _ ⟨rfl, fgv3, hbv3⟩
        have lsv3 : v2.heap.size < v3.heap.size := heap_ltz fgv3
        have cb3 : Below wd.heap.size wd v3 := cb2.trans (hbv3.mono cb2.size)
        have ff1 := ((hbv3.block _ (heap_ltz fmv2)).trans fmv2)
        simp only [Act.put, List.setIfInBounds_toArray, List.set_cons_zero, List.set_cons_succ]
        refine plan_one (l := []) rfl (wpQuiet_nil ?_)
        refine tail_call (vs := #[.int .u64 (n : Int)]) Try.call15 rfl rfl rfl (R := fun r w' => r = .slice (some ⟨v3.heap.size, 0, none⟩) 8 8 ∧ w'.heap[v3.heap.size]? = some (.cells (rowB (lowB 8 n)) 5 (0, 0)) ∧ Below v3.heap.size v3 w') ((HPUTn.out v3).mono ?_) wd.heap.size (Nat.le_refl _) ?_
        · rintro e w' ⟨rfl, hf, hb⟩
          exact ⟨_, rfl, hb.mono cb3.size, rfl, hf, hb⟩
        rintro r v4 _ ⟨rfl, fnv4, hbv4⟩
        have lsv4 : v3.heap.size < v4.heap.size := heap_ltz fnv4
        have cb4 : Below wd.heap.size wd v4 := cb3.trans (hbv4.mono cb3.size)
        have ff2 := ((hbv4.block _ (heap_ltz ff1)).trans ff1)
        have ff3 := ((hbv4.block _ (heap_ltz fgv3)).trans fgv3)
        simp only [Act.put, List.setIfInBounds_toArray, List.set_cons_zero, List.set_cons_succ]
        refine plan_one (l := []) rfl (wpQuiet_nil ?_)
        refine tail_call (vs := #[.int .u32 (s : Int)]) Try.call16 rfl rfl rfl (R := fun r w' => r = .slice (some ⟨v4.heap.size, 0, none⟩) 4 4 ∧ w'.heap[v4.heap.size]? = some (.cells (rowB (lowB 4 s)) 5 (0, 0)) ∧ Below v4.heap.size v4 w') ((HPUT4.out v4).mono ?_) wd.heap.size (Nat.le_refl _) ?_
        · rintro e w' ⟨rfl, hf, hb⟩
          exact ⟨_, rfl, hb.mono cb4.size, rfl, hf, hb⟩
        rintro r v5 _ ⟨rfl, fsv5, hbv5⟩
        have lsv5 : v4.heap.size < v5.heap.size := heap_ltz fsv5
        have cb5 : Below wd.heap.size wd v5 := cb4.trans (hbv5.mono cb4.size)
        have ff4 := ((hbv5.block _ (heap_ltz ff2)).trans ff2)
        have ff5 := ((hbv5.block _ (heap_ltz ff3)).trans ff3)
        have ff6 := ((hbv5.block _ (heap_ltz fnv4)).trans fnv4)
        simp only [Act.put, List.setIfInBounds_toArray, List.set_cons_zero, List.set_cons_succ]
        refine plan_one (l := []) rfl (wpQuiet_nil ?_)
        obtain ⟨w8, hw8⟩ : ∃ w8, v5.alloc (.cells #[.slice (some ⟨wd.heap.size, 0, none⟩) 8 8, .slice (some ⟨v2.heap.size, 0, none⟩) 8 8, .slice (some ⟨v3.heap.size, 0, none⟩) 8 8, .slice (some ⟨v4.heap.size, 0, none⟩) 4 4] 24) = w8 := ⟨_, rfl⟩
        have hb8 : Below v5.heap.size v5 w8 := by rw [← hw8]; exact (Below.refl _ _).alloc (Nat.le_refl _) _
        have n8 : w8.heap[v5.heap.size]? = some (.cells #[.slice (some ⟨wd.heap.size, 0, none⟩) 8 8, .slice (some ⟨v2.heap.size, 0, none⟩) 8 8, .slice (some ⟨v3.heap.size, 0, none⟩) 8 8, .slice (some ⟨v4.heap.size, 0, none⟩) 4 4] 24 (0, 0)) := by rw [← hw8]; exact heap_alloc_new v5 _
        have HC8 := HEND.out w8 v5.heap.size _ _ _ _ n8 (((fill_mark ff4).below hb8).more hb8.size) (((fill_mark ff5).below hb8).more hb8.size) (((fill_mark ff6).below hb8).more hb8.size) (((fill_mark fsv5).below hb8).more hb8.size)
        have HC8 := Lib.hid HC8
        have HBW8 := Lib.hid cb5
        have HB8 := Lib.hid hb8
        refine tail_val2 (some 19) (w1 := w8) (v := .slice (some ⟨v5.heap.size, 0, none⟩) 4 4) rfl rfl rfl (by rw [← hw8]; exact bslice_run rfl rfl (slot_four v5 _ _ _ _ _ _ _ _ _ _ _ _)) (hb8.mono HBW8.out.size) ⟨wd.heap.size, Nat.le_refl _, ?_⟩
        clear hw8 hb8 n8
        simp only [Act.put, List.setIfInBounds_toArray, List.set_cons_zero, List.set_cons_succ]
        refine plan_one (l := []) rfl (wpQuiet_nil ?_)
        refine tail_call (vs := #[.slice (some ⟨v5.heap.size, 0, none⟩) 4 4]) Try.call14 rfl rfl rfl (R := fun r w' => w'.ownsRow w8.heap.size 5 1 r 28 ((slHead g n s).map bv) ∧ Below w8.heap.size w8 w') (HC8.out.mono ?_) wd.heap.size (Nat.le_refl _) ?_
        · rintro e w' ⟨v, rfl, ho, hb⟩
          exact ⟨_, rfl, hb.mono (Nat.le_trans HBW8.out.size HB8.out.size), ho, hb⟩
        rintro r w9 _ ⟨ho9, hb9⟩
        have HF9 := Lib.hid (And.intro (own_lift ho9 (Nat.le_trans HBW8.out.size HB8.out.size)) ((HBW8.out.trans (HB8.out.mono HBW8.out.size)).trans (hb9.mono (Nat.le_trans HBW8.out.size HB8.out.size))))
        clear ho9 hb9
        simp only [Act.put, List.setIfInBounds_toArray, List.set_cons_zero, List.set_cons_succ]
        refine plan_fin (l := ?finWaaccc) (t := []) ?hfinWaaccc ?htfinWaaccc ?_
        case hfinWaaccc => simp only [pick, List.getElem?_toArray, List.getElem?_cons_succ, List.getElem?_cons_zero]; rfl
        case htfinWaaccc => rfl
        repeat (go_big_quiet_step (fail))
        refine wpQuiet_nil ?_
        go_wp2_with fail
        go_meet
        case rel => exact HF9.out
      case wayWab =>
        refine tail_call (vs := #[.int .u64 (g : Int)]) Try.call15 rfl rfl rfl (R := fun r w' => r = .slice (some ⟨v1.heap.size, 0, none⟩) 8 8 ∧ w'.heap[v1.heap.size]? = some (.cells (rowB (lowB 8 g)) 5 (0, 0)) ∧ Below v1.heap.size v1 w') ((HPUTg.out v1).mono ?_) wd.heap.size (Nat.le_refl _) ?_
        · rintro e w' ⟨rfl, hf, hb⟩
          exact ⟨_, rfl, hb.mono cb1.size, rfl, hf, hb⟩
        rintro r v2 _ ⟨rfl, fgv2, hbv2⟩
        have lsv2 : v1.heap.size < v2.heap.size := heap_ltz fgv2
        have cb2 : Below wd.heap.size wd v2 := cb1.trans (hbv2.mono cb1.size)
        have ff7 := ((hbv2.block _ (heap_ltz fmv1)).trans fmv1)
        simp only [Act.put, List.setIfInBounds_toArray, List.set_cons_zero, List.set_cons_succ]
        refine plan_two (l := []) rfl (wpQuiet_nil ?_)
        refine ⟨?wayWaba, ?wayWabb⟩
        case wayWaba =>
          obtain ⟨v3, hrv3, fmv3, szv3, kpv3, blv3⟩ := conv_mark (P := Try.prog) v2 24 5 wd.heap.size (rowB slMark) 8 8 Try.underlying24 Try.underlying5 ff7
          refine tail_val2 (some 9) rfl rfl rfl (conv_run rfl rfl hrv3) (blv3 wd.heap.size lmv1) ⟨wd.heap.size, Nat.le_refl _, ?_⟩
          have cb3 : Below wd.heap.size wd v3 := cb2.trans (blv3 wd.heap.size lmv1)
          have lsv3 : v3.heap.size = v2.heap.size := szv3
          clear hrv3
          have ne9 : v1.heap.size ≠ wd.heap.size := by omega
          have ff8 := ((kpv3 _ ne9).trans fgv2)
          simp only [Act.put, List.setIfInBounds_toArray, List.set_cons_zero, List.set_cons_succ]
          refine plan_one (l := []) rfl (wpQuiet_nil ?_)
          refine tail_call (vs := #[.int .u64 (n : Int)]) Try.call15 rfl rfl rfl (R := fun r w' => r = .slice (some ⟨v3.heap.size, 0, none⟩) 8 8 ∧ w'.heap[v3.heap.size]? = some (.cells (rowB (lowB 8 n)) 5 (0, 0)) ∧ Below v3.heap.size v3 w') ((HPUTn.out v3).mono ?_) wd.heap.size (Nat.le_refl _) ?_
          · rintro e w' ⟨rfl, hf, hb⟩
            exact ⟨_, rfl, hb.mono cb3.size, rfl, hf, hb⟩
          rintro r v4 _ ⟨rfl, fnv4, hbv4⟩
          have lsv4 : v3.heap.size < v4.heap.size := heap_ltz fnv4
          have cb4 : Below wd.heap.size wd v4 := cb3.trans (hbv4.mono cb3.size)
          have ff10 := ((hbv4.block _ (heap_ltz fmv3)).trans fmv3)
          have ff11 := ((hbv4.block _ (heap_ltz ff8)).trans ff8)
          simp only [Act.put, List.setIfInBounds_toArray, List.set_cons_zero, List.set_cons_succ]
          refine plan_one (l := []) rfl (wpQuiet_nil ?_)
          refine tail_call (vs := #[.int .u32 (s : Int)]) Try.call16 rfl rfl rfl (R := fun r w' => r = .slice (some ⟨v4.heap.size, 0, none⟩) 4 4 ∧ w'.heap[v4.heap.size]? = some (.cells (rowB (lowB 4 s)) 5 (0, 0)) ∧ Below v4.heap.size v4 w') ((HPUT4.out v4).mono ?_) wd.heap.size (Nat.le_refl _) ?_
          · rintro e w' ⟨rfl, hf, hb⟩
            exact ⟨_, rfl, hb.mono cb4.size, rfl, hf, hb⟩
          rintro r v5 _ ⟨rfl, fsv5, hbv5⟩
          have lsv5 : v4.heap.size < v5.heap.size := heap_ltz fsv5
          have cb5 : Below wd.heap.size wd v5 := cb4.trans (hbv5.mono cb4.size)
          have ff12 := ((hbv5.block _ (heap_ltz ff10)).trans ff10)
          have ff13 := ((hbv5.block _ (heap_ltz ff11)).trans ff11)
          have ff14 := ((hbv5.block _ (heap_ltz fnv4)).trans fnv4)
          simp only [Act.put, List.setIfInBounds_toArray, List.set_cons_zero, List.set_cons_succ]
          refine plan_one (l := []) rfl (wpQuiet_nil ?_)
          obtain ⟨w8, hw8⟩ : ∃ w8, v5.alloc (.cells #[.slice (some ⟨wd.heap.size, 0, none⟩) 8 8, .slice (some ⟨v1.heap.size, 0, none⟩) 8 8, .slice (some ⟨v3.heap.size, 0, none⟩) 8 8, .slice (some ⟨v4.heap.size, 0, none⟩) 4 4] 24) = w8 := ⟨_, rfl⟩
          have hb8 : Below v5.heap.size v5 w8 := by rw [← hw8]; exact (Below.refl _ _).alloc (Nat.le_refl _) _
          have n8 : w8.heap[v5.heap.size]? = some (.cells #[.slice (some ⟨wd.heap.size, 0, none⟩) 8 8, .slice (some ⟨v1.heap.size, 0, none⟩) 8 8, .slice (some ⟨v3.heap.size, 0, none⟩) 8 8, .slice (some ⟨v4.heap.size, 0, none⟩) 4 4] 24 (0, 0)) := by rw [← hw8]; exact heap_alloc_new v5 _
          have HC8 := HEND.out w8 v5.heap.size _ _ _ _ n8 (((fill_mark ff12).below hb8).more hb8.size) (((fill_mark ff13).below hb8).more hb8.size) (((fill_mark ff14).below hb8).more hb8.size) (((fill_mark fsv5).below hb8).more hb8.size)
          have HC8 := Lib.hid HC8
          have HBW8 := Lib.hid cb5
          have HB8 := Lib.hid hb8
          refine tail_val2 (some 19) (w1 := w8) (v := .slice (some ⟨v5.heap.size, 0, none⟩) 4 4) rfl rfl rfl (by rw [← hw8]; exact bslice_run rfl rfl (slot_four v5 _ _ _ _ _ _ _ _ _ _ _ _)) (hb8.mono HBW8.out.size) ⟨wd.heap.size, Nat.le_refl _, ?_⟩
          clear hw8 hb8 n8
          simp only [Act.put, List.setIfInBounds_toArray, List.set_cons_zero, List.set_cons_succ]
          refine plan_one (l := []) rfl (wpQuiet_nil ?_)
          refine tail_call (vs := #[.slice (some ⟨v5.heap.size, 0, none⟩) 4 4]) Try.call14 rfl rfl rfl (R := fun r w' => w'.ownsRow w8.heap.size 5 1 r 28 ((slHead g n s).map bv) ∧ Below w8.heap.size w8 w') (HC8.out.mono ?_) wd.heap.size (Nat.le_refl _) ?_
          · rintro e w' ⟨v, rfl, ho, hb⟩
            exact ⟨_, rfl, hb.mono (Nat.le_trans HBW8.out.size HB8.out.size), ho, hb⟩
          rintro r w9 _ ⟨ho9, hb9⟩
          have HF9 := Lib.hid (And.intro (own_lift ho9 (Nat.le_trans HBW8.out.size HB8.out.size)) ((HBW8.out.trans (HB8.out.mono HBW8.out.size)).trans (hb9.mono (Nat.le_trans HBW8.out.size HB8.out.size))))
          clear ho9 hb9
          simp only [Act.put, List.setIfInBounds_toArray, List.set_cons_zero, List.set_cons_succ]
          refine plan_fin (l := ?finWabacc) (t := []) ?hfinWabacc ?htfinWabacc ?_
          case hfinWabacc => simp only [pick, List.getElem?_toArray, List.getElem?_cons_succ, List.getElem?_cons_zero]; rfl
          case htfinWabacc => rfl
          repeat (go_big_quiet_step (fail))
          refine wpQuiet_nil ?_
          go_wp2_with fail
          go_meet
          case rel => exact HF9.out
        case wayWabb =>
          refine tail_call (vs := #[.int .u64 (n : Int)]) Try.call15 rfl rfl rfl (R := fun r w' => r = .slice (some ⟨v2.heap.size, 0, none⟩) 8 8 ∧ w'.heap[v2.heap.size]? = some (.cells (rowB (lowB 8 n)) 5 (0, 0)) ∧ Below v2.heap.size v2 w') ((HPUTn.out v2).mono ?_) wd.heap.size (Nat.le_refl _) ?_
          · rintro e w' ⟨rfl, hf, hb⟩
            exact ⟨_, rfl, hb.mono cb2.size, rfl, hf, hb⟩
          rintro r v3 _ ⟨rfl, fnv3, hbv3⟩
          have lsv3 : v2.heap.size < v3.heap.size := heap_ltz fnv3
          have cb3 : Below wd.heap.size wd v3 := cb2.trans (hbv3.mono cb2.size)
          have ff15 := ((hbv3.block _ (heap_ltz ff7)).trans ff7)
          have ff16 := ((hbv3.block _ (heap_ltz fgv2)).trans fgv2)
          simp only [Act.put, List.setIfInBounds_toArray, List.set_cons_zero, List.set_cons_succ]
          refine plan_two (l := []) rfl (wpQuiet_nil ?_)
          refine ⟨?wayWabba, ?wayWabbb⟩
          case wayWabba =>
            obtain ⟨v4, hrv4, fmv4, szv4, kpv4, blv4⟩ := conv_mark (P := Try.prog) v3 24 5 wd.heap.size (rowB slMark) 8 8 Try.underlying24 Try.underlying5 ff15
            refine tail_val2 (some 9) rfl rfl rfl (conv_run rfl rfl hrv4) (blv4 wd.heap.size lmv1) ⟨wd.heap.size, Nat.le_refl _, ?_⟩
            have cb4 : Below wd.heap.size wd v4 := cb3.trans (blv4 wd.heap.size lmv1)
            have lsv4 : v4.heap.size = v3.heap.size := szv4
            clear hrv4
            have ne18 : v1.heap.size ≠ wd.heap.size := by omega
            have ff17 := ((kpv4 _ ne18).trans ff16)
            have ne20 : v2.heap.size ≠ wd.heap.size := by omega
            have ff19 := ((kpv4 _ ne20).trans fnv3)
            simp only [Act.put, List.setIfInBounds_toArray, List.set_cons_zero, List.set_cons_succ]
            refine plan_one (l := []) rfl (wpQuiet_nil ?_)
            refine tail_call (vs := #[.int .u32 (s : Int)]) Try.call16 rfl rfl rfl (R := fun r w' => r = .slice (some ⟨v4.heap.size, 0, none⟩) 4 4 ∧ w'.heap[v4.heap.size]? = some (.cells (rowB (lowB 4 s)) 5 (0, 0)) ∧ Below v4.heap.size v4 w') ((HPUT4.out v4).mono ?_) wd.heap.size (Nat.le_refl _) ?_
            · rintro e w' ⟨rfl, hf, hb⟩
              exact ⟨_, rfl, hb.mono cb4.size, rfl, hf, hb⟩
            rintro r v5 _ ⟨rfl, fsv5, hbv5⟩
            have lsv5 : v4.heap.size < v5.heap.size := heap_ltz fsv5
            have cb5 : Below wd.heap.size wd v5 := cb4.trans (hbv5.mono cb4.size)
            have ff21 := ((hbv5.block _ (heap_ltz fmv4)).trans fmv4)
            have ff22 := ((hbv5.block _ (heap_ltz ff17)).trans ff17)
            have ff23 := ((hbv5.block _ (heap_ltz ff19)).trans ff19)
            simp only [Act.put, List.setIfInBounds_toArray, List.set_cons_zero, List.set_cons_succ]
            refine plan_one (l := []) rfl (wpQuiet_nil ?_)
            obtain ⟨w8, hw8⟩ : ∃ w8, v5.alloc (.cells #[.slice (some ⟨wd.heap.size, 0, none⟩) 8 8, .slice (some ⟨v1.heap.size, 0, none⟩) 8 8, .slice (some ⟨v2.heap.size, 0, none⟩) 8 8, .slice (some ⟨v4.heap.size, 0, none⟩) 4 4] 24) = w8 := ⟨_, rfl⟩
            have hb8 : Below v5.heap.size v5 w8 := by rw [← hw8]; exact (Below.refl _ _).alloc (Nat.le_refl _) _
            have n8 : w8.heap[v5.heap.size]? = some (.cells #[.slice (some ⟨wd.heap.size, 0, none⟩) 8 8, .slice (some ⟨v1.heap.size, 0, none⟩) 8 8, .slice (some ⟨v2.heap.size, 0, none⟩) 8 8, .slice (some ⟨v4.heap.size, 0, none⟩) 4 4] 24 (0, 0)) := by rw [← hw8]; exact heap_alloc_new v5 _
            have HC8 := HEND.out w8 v5.heap.size _ _ _ _ n8 (((fill_mark ff21).below hb8).more hb8.size) (((fill_mark ff22).below hb8).more hb8.size) (((fill_mark ff23).below hb8).more hb8.size) (((fill_mark fsv5).below hb8).more hb8.size)
            have HC8 := Lib.hid HC8
            have HBW8 := Lib.hid cb5
            have HB8 := Lib.hid hb8
            refine tail_val2 (some 19) (w1 := w8) (v := .slice (some ⟨v5.heap.size, 0, none⟩) 4 4) rfl rfl rfl (by rw [← hw8]; exact bslice_run rfl rfl (slot_four v5 _ _ _ _ _ _ _ _ _ _ _ _)) (hb8.mono HBW8.out.size) ⟨wd.heap.size, Nat.le_refl _, ?_⟩
            clear hw8 hb8 n8
            simp only [Act.put, List.setIfInBounds_toArray, List.set_cons_zero, List.set_cons_succ]
            refine plan_one (l := []) rfl (wpQuiet_nil ?_)
            refine tail_call (vs := #[.slice (some ⟨v5.heap.size, 0, none⟩) 4 4]) Try.call14 rfl rfl rfl (R := fun r w' => w'.ownsRow w8.heap.size 5 1 r 28 ((slHead g n s).map bv) ∧ Below w8.heap.size w8 w') (HC8.out.mono ?_) wd.heap.size (Nat.le_refl _) ?_
            · rintro e w' ⟨v, rfl, ho, hb⟩
              exact ⟨_, rfl, hb.mono (Nat.le_trans HBW8.out.size HB8.out.size), ho, hb⟩
            rintro r w9 _ ⟨ho9, hb9⟩
            have HF9 := Lib.hid (And.intro (own_lift ho9 (Nat.le_trans HBW8.out.size HB8.out.size)) ((HBW8.out.trans (HB8.out.mono HBW8.out.size)).trans (hb9.mono (Nat.le_trans HBW8.out.size HB8.out.size))))
            clear ho9 hb9
            simp only [Act.put, List.setIfInBounds_toArray, List.set_cons_zero, List.set_cons_succ]
            refine plan_fin (l := ?finWabbac) (t := []) ?hfinWabbac ?htfinWabbac ?_
            case hfinWabbac => simp only [pick, List.getElem?_toArray, List.getElem?_cons_succ, List.getElem?_cons_zero]; rfl
            case htfinWabbac => rfl
            repeat (go_big_quiet_step (fail))
            refine wpQuiet_nil ?_
            go_wp2_with fail
            go_meet
            case rel => exact HF9.out
          case wayWabbb =>
            refine tail_call (vs := #[.int .u32 (s : Int)]) Try.call16 rfl rfl rfl (R := fun r w' => r = .slice (some ⟨v3.heap.size, 0, none⟩) 4 4 ∧ w'.heap[v3.heap.size]? = some (.cells (rowB (lowB 4 s)) 5 (0, 0)) ∧ Below v3.heap.size v3 w') ((HPUT4.out v3).mono ?_) wd.heap.size (Nat.le_refl _) ?_
            · rintro e w' ⟨rfl, hf, hb⟩
              exact ⟨_, rfl, hb.mono cb3.size, rfl, hf, hb⟩
            rintro r v4 _ ⟨rfl, fsv4, hbv4⟩
            have lsv4 : v3.heap.size < v4.heap.size := heap_ltz fsv4
            have cb4 : Below wd.heap.size wd v4 := cb3.trans (hbv4.mono cb3.size)
            have ff24 := ((hbv4.block _ (heap_ltz ff15)).trans ff15)
            have ff25 := ((hbv4.block _ (heap_ltz ff16)).trans ff16)
            have ff26 := ((hbv4.block _ (heap_ltz fnv3)).trans fnv3)
            simp only [Act.put, List.setIfInBounds_toArray, List.set_cons_zero, List.set_cons_succ]
            refine plan_one (l := []) rfl (wpQuiet_nil ?_)
            obtain ⟨v5, hrv5, fmv5, szv5, kpv5, blv5⟩ := conv_mark (P := Try.prog) v4 24 5 wd.heap.size (rowB slMark) 8 8 Try.underlying24 Try.underlying5 ff24
            refine tail_val2 (some 9) rfl rfl rfl (conv_run rfl rfl hrv5) (blv5 wd.heap.size lmv1) ⟨wd.heap.size, Nat.le_refl _, ?_⟩
            have cb5 : Below wd.heap.size wd v5 := cb4.trans (blv5 wd.heap.size lmv1)
            have lsv5 : v5.heap.size = v4.heap.size := szv5
            clear hrv5
            have ne28 : v1.heap.size ≠ wd.heap.size := by omega
            have ff27 := ((kpv5 _ ne28).trans ff25)
            have ne30 : v2.heap.size ≠ wd.heap.size := by omega
            have ff29 := ((kpv5 _ ne30).trans ff26)
            have ne32 : v3.heap.size ≠ wd.heap.size := by omega
            have ff31 := ((kpv5 _ ne32).trans fsv4)
            simp only [Act.put, List.setIfInBounds_toArray, List.set_cons_zero, List.set_cons_succ]
            refine plan_one (l := []) rfl (wpQuiet_nil ?_)
            obtain ⟨w8, hw8⟩ : ∃ w8, v5.alloc (.cells #[.slice (some ⟨wd.heap.size, 0, none⟩) 8 8, .slice (some ⟨v1.heap.size, 0, none⟩) 8 8, .slice (some ⟨v2.heap.size, 0, none⟩) 8 8, .slice (some ⟨v3.heap.size, 0, none⟩) 4 4] 24) = w8 := ⟨_, rfl⟩
            have hb8 : Below v5.heap.size v5 w8 := by rw [← hw8]; exact (Below.refl _ _).alloc (Nat.le_refl _) _
            have n8 : w8.heap[v5.heap.size]? = some (.cells #[.slice (some ⟨wd.heap.size, 0, none⟩) 8 8, .slice (some ⟨v1.heap.size, 0, none⟩) 8 8, .slice (some ⟨v2.heap.size, 0, none⟩) 8 8, .slice (some ⟨v3.heap.size, 0, none⟩) 4 4] 24 (0, 0)) := by rw [← hw8]; exact heap_alloc_new v5 _
            have HC8 := HEND.out w8 v5.heap.size _ _ _ _ n8 (((fill_mark fmv5).below hb8).more hb8.size) (((fill_mark ff27).below hb8).more hb8.size) (((fill_mark ff29).below hb8).more hb8.size) (((fill_mark ff31).below hb8).more hb8.size)
            have HC8 := Lib.hid HC8
            have HBW8 := Lib.hid cb5
            have HB8 := Lib.hid hb8
            refine tail_val2 (some 19) (w1 := w8) (v := .slice (some ⟨v5.heap.size, 0, none⟩) 4 4) rfl rfl rfl (by rw [← hw8]; exact bslice_run rfl rfl (slot_four v5 _ _ _ _ _ _ _ _ _ _ _ _)) (hb8.mono HBW8.out.size) ⟨wd.heap.size, Nat.le_refl _, ?_⟩
            clear hw8 hb8 n8
            simp only [Act.put, List.setIfInBounds_toArray, List.set_cons_zero, List.set_cons_succ]
            refine plan_one (l := []) rfl (wpQuiet_nil ?_)
            refine tail_call (vs := #[.slice (some ⟨v5.heap.size, 0, none⟩) 4 4]) Try.call14 rfl rfl rfl (R := fun r w' => w'.ownsRow w8.heap.size 5 1 r 28 ((slHead g n s).map bv) ∧ Below w8.heap.size w8 w') (HC8.out.mono ?_) wd.heap.size (Nat.le_refl _) ?_
            · rintro e w' ⟨v, rfl, ho, hb⟩
              exact ⟨_, rfl, hb.mono (Nat.le_trans HBW8.out.size HB8.out.size), ho, hb⟩
            rintro r w9 _ ⟨ho9, hb9⟩
            have HF9 := Lib.hid (And.intro (own_lift ho9 (Nat.le_trans HBW8.out.size HB8.out.size)) ((HBW8.out.trans (HB8.out.mono HBW8.out.size)).trans (hb9.mono (Nat.le_trans HBW8.out.size HB8.out.size))))
            clear ho9 hb9
            simp only [Act.put, List.setIfInBounds_toArray, List.set_cons_zero, List.set_cons_succ]
            refine plan_fin (l := ?finWabbbc) (t := []) ?hfinWabbbc ?htfinWabbbc ?_
            case hfinWabbbc => simp only [pick, List.getElem?_toArray, List.getElem?_cons_succ, List.getElem?_cons_zero]; rfl
            case htfinWabbbc => rfl
            repeat (go_big_quiet_step (fail))
            refine wpQuiet_nil ?_
            go_wp2_with fail
            go_meet
            case rel => exact HF9.out
    case wayWb =>
      refine tail_call (vs := #[.int .u64 (g : Int)]) Try.call15 rfl rfl rfl (R := fun r w' => r = .slice (some ⟨wd.heap.size, 0, none⟩) 8 8 ∧ w'.heap[wd.heap.size]? = some (.cells (rowB (lowB 8 g)) 5 (0, 0)) ∧ Below wd.heap.size wd w') ((HPUTg.out wd).mono ?_) wd.heap.size (Nat.le_refl _) ?_
      · rintro e w' ⟨rfl, hf, hb⟩
        exact ⟨_, rfl, hb.mono cb0.size, rfl, hf, hb⟩
      rintro r v1 _ ⟨rfl, fgv1, hbv1⟩
      have lsv1 : wd.heap.size < v1.heap.size := heap_ltz fgv1
      have cb1 : Below wd.heap.size wd v1 := cb0.trans (hbv1.mono cb0.size)
      simp only [Act.put, List.setIfInBounds_toArray, List.set_cons_zero, List.set_cons_succ]
      refine plan_two (l := []) rfl (wpQuiet_nil ?_)
      refine ⟨?wayWba, ?wayWbb⟩
      case wayWba =>
        refine tail_val2 (some 8) (w1 := v1.alloc (.cells (rowB slMark) 5)) (v := .slice (some ⟨v1.heap.size, 0, none⟩) 8 8) rfl rfl rfl (bslice_run rfl rfl (slot_mark v1)) ((Below.refl _ _).alloc cb1.size _) ⟨wd.heap.size, Nat.le_refl _, ?_⟩
        obtain ⟨v2, hv2⟩ : ∃ v2, v1.alloc (.cells (rowB slMark) 5) = v2 := ⟨_, rfl⟩
        have hbv2 : Below v1.heap.size v1 v2 := by rw [← hv2]; exact (Below.refl _ _).alloc (Nat.le_refl _) _
        have fmv2 : v2.heap[v1.heap.size]? = some (.cells (rowB slMark) 5 (0, 0)) := by rw [← hv2]; exact heap_alloc_new v1 _
        have cb2 : Below wd.heap.size wd v2 := cb1.trans (hbv2.mono cb1.size)
        have lmv2 : wd.heap.size ≤ v1.heap.size := cb1.size
        have lsv2 : v1.heap.size < v2.heap.size := heap_ltz fmv2
        rw [hv2]
        clear hv2
        have ff33 := ((hbv2.block _ (heap_ltz fgv1)).trans fgv1)
        simp only [Act.put, List.setIfInBounds_toArray, List.set_cons_zero, List.set_cons_succ]
        refine plan_two (l := []) rfl (wpQuiet_nil ?_)
        refine ⟨?wayWbaa, ?wayWbab⟩
        case wayWbaa =>
          obtain ⟨v3, hrv3, fmv3, szv3, kpv3, blv3⟩ := conv_mark (P := Try.prog) v2 24 5 v1.heap.size (rowB slMark) 8 8 Try.underlying24 Try.underlying5 fmv2
          refine tail_val2 (some 9) rfl rfl rfl (conv_run rfl rfl hrv3) (blv3 wd.heap.size lmv2) ⟨wd.heap.size, Nat.le_refl _, ?_⟩
          have cb3 : Below wd.heap.size wd v3 := cb2.trans (blv3 wd.heap.size lmv2)
          have lsv3 : v3.heap.size = v2.heap.size := szv3
          clear hrv3
          have ne35 : wd.heap.size ≠ v1.heap.size := by omega
          have ff34 := ((kpv3 _ ne35).trans ff33)
          simp only [Act.put, List.setIfInBounds_toArray, List.set_cons_zero, List.set_cons_succ]
          refine plan_one (l := []) rfl (wpQuiet_nil ?_)
          refine tail_call (vs := #[.int .u64 (n : Int)]) Try.call15 rfl rfl rfl (R := fun r w' => r = .slice (some ⟨v3.heap.size, 0, none⟩) 8 8 ∧ w'.heap[v3.heap.size]? = some (.cells (rowB (lowB 8 n)) 5 (0, 0)) ∧ Below v3.heap.size v3 w') ((HPUTn.out v3).mono ?_) wd.heap.size (Nat.le_refl _) ?_
          · rintro e w' ⟨rfl, hf, hb⟩
            exact ⟨_, rfl, hb.mono cb3.size, rfl, hf, hb⟩
          rintro r v4 _ ⟨rfl, fnv4, hbv4⟩
          have lsv4 : v3.heap.size < v4.heap.size := heap_ltz fnv4
          have cb4 : Below wd.heap.size wd v4 := cb3.trans (hbv4.mono cb3.size)
          have ff36 := ((hbv4.block _ (heap_ltz fmv3)).trans fmv3)
          have ff37 := ((hbv4.block _ (heap_ltz ff34)).trans ff34)
          simp only [Act.put, List.setIfInBounds_toArray, List.set_cons_zero, List.set_cons_succ]
          refine plan_one (l := []) rfl (wpQuiet_nil ?_)
          refine tail_call (vs := #[.int .u32 (s : Int)]) Try.call16 rfl rfl rfl (R := fun r w' => r = .slice (some ⟨v4.heap.size, 0, none⟩) 4 4 ∧ w'.heap[v4.heap.size]? = some (.cells (rowB (lowB 4 s)) 5 (0, 0)) ∧ Below v4.heap.size v4 w') ((HPUT4.out v4).mono ?_) wd.heap.size (Nat.le_refl _) ?_
          · rintro e w' ⟨rfl, hf, hb⟩
            exact ⟨_, rfl, hb.mono cb4.size, rfl, hf, hb⟩
          rintro r v5 _ ⟨rfl, fsv5, hbv5⟩
          have lsv5 : v4.heap.size < v5.heap.size := heap_ltz fsv5
          have cb5 : Below wd.heap.size wd v5 := cb4.trans (hbv5.mono cb4.size)
          have ff38 := ((hbv5.block _ (heap_ltz ff36)).trans ff36)
          have ff39 := ((hbv5.block _ (heap_ltz ff37)).trans ff37)
          have ff40 := ((hbv5.block _ (heap_ltz fnv4)).trans fnv4)
          simp only [Act.put, List.setIfInBounds_toArray, List.set_cons_zero, List.set_cons_succ]
          refine plan_one (l := []) rfl (wpQuiet_nil ?_)
          obtain ⟨w8, hw8⟩ : ∃ w8, v5.alloc (.cells #[.slice (some ⟨v1.heap.size, 0, none⟩) 8 8, .slice (some ⟨wd.heap.size, 0, none⟩) 8 8, .slice (some ⟨v3.heap.size, 0, none⟩) 8 8, .slice (some ⟨v4.heap.size, 0, none⟩) 4 4] 24) = w8 := ⟨_, rfl⟩
          have hb8 : Below v5.heap.size v5 w8 := by rw [← hw8]; exact (Below.refl _ _).alloc (Nat.le_refl _) _
          have n8 : w8.heap[v5.heap.size]? = some (.cells #[.slice (some ⟨v1.heap.size, 0, none⟩) 8 8, .slice (some ⟨wd.heap.size, 0, none⟩) 8 8, .slice (some ⟨v3.heap.size, 0, none⟩) 8 8, .slice (some ⟨v4.heap.size, 0, none⟩) 4 4] 24 (0, 0)) := by rw [← hw8]; exact heap_alloc_new v5 _
          have HC8 := HEND.out w8 v5.heap.size _ _ _ _ n8 (((fill_mark ff38).below hb8).more hb8.size) (((fill_mark ff39).below hb8).more hb8.size) (((fill_mark ff40).below hb8).more hb8.size) (((fill_mark fsv5).below hb8).more hb8.size)
          have HC8 := Lib.hid HC8
          have HBW8 := Lib.hid cb5
          have HB8 := Lib.hid hb8
          refine tail_val2 (some 19) (w1 := w8) (v := .slice (some ⟨v5.heap.size, 0, none⟩) 4 4) rfl rfl rfl (by rw [← hw8]; exact bslice_run rfl rfl (slot_four v5 _ _ _ _ _ _ _ _ _ _ _ _)) (hb8.mono HBW8.out.size) ⟨wd.heap.size, Nat.le_refl _, ?_⟩
          clear hw8 hb8 n8
          simp only [Act.put, List.setIfInBounds_toArray, List.set_cons_zero, List.set_cons_succ]
          refine plan_one (l := []) rfl (wpQuiet_nil ?_)
          refine tail_call (vs := #[.slice (some ⟨v5.heap.size, 0, none⟩) 4 4]) Try.call14 rfl rfl rfl (R := fun r w' => w'.ownsRow w8.heap.size 5 1 r 28 ((slHead g n s).map bv) ∧ Below w8.heap.size w8 w') (HC8.out.mono ?_) wd.heap.size (Nat.le_refl _) ?_
          · rintro e w' ⟨v, rfl, ho, hb⟩
            exact ⟨_, rfl, hb.mono (Nat.le_trans HBW8.out.size HB8.out.size), ho, hb⟩
          rintro r w9 _ ⟨ho9, hb9⟩
          have HF9 := Lib.hid (And.intro (own_lift ho9 (Nat.le_trans HBW8.out.size HB8.out.size)) ((HBW8.out.trans (HB8.out.mono HBW8.out.size)).trans (hb9.mono (Nat.le_trans HBW8.out.size HB8.out.size))))
          clear ho9 hb9
          simp only [Act.put, List.setIfInBounds_toArray, List.set_cons_zero, List.set_cons_succ]
          refine plan_fin (l := ?finWbaacc) (t := []) ?hfinWbaacc ?htfinWbaacc ?_
          case hfinWbaacc => simp only [pick, List.getElem?_toArray, List.getElem?_cons_succ, List.getElem?_cons_zero]; rfl
          case htfinWbaacc => rfl
          repeat (go_big_quiet_step (fail))
          refine wpQuiet_nil ?_
          go_wp2_with fail
          go_meet
          case rel => exact HF9.out
        case wayWbab =>
          refine tail_call (vs := #[.int .u64 (n : Int)]) Try.call15 rfl rfl rfl (R := fun r w' => r = .slice (some ⟨v2.heap.size, 0, none⟩) 8 8 ∧ w'.heap[v2.heap.size]? = some (.cells (rowB (lowB 8 n)) 5 (0, 0)) ∧ Below v2.heap.size v2 w') ((HPUTn.out v2).mono ?_) wd.heap.size (Nat.le_refl _) ?_
          · rintro e w' ⟨rfl, hf, hb⟩
            exact ⟨_, rfl, hb.mono cb2.size, rfl, hf, hb⟩
          rintro r v3 _ ⟨rfl, fnv3, hbv3⟩
          have lsv3 : v2.heap.size < v3.heap.size := heap_ltz fnv3
          have cb3 : Below wd.heap.size wd v3 := cb2.trans (hbv3.mono cb2.size)
          have ff41 := ((hbv3.block _ (heap_ltz fmv2)).trans fmv2)
          have ff42 := ((hbv3.block _ (heap_ltz ff33)).trans ff33)
          simp only [Act.put, List.setIfInBounds_toArray, List.set_cons_zero, List.set_cons_succ]
          refine plan_two (l := []) rfl (wpQuiet_nil ?_)
          refine ⟨?wayWbaba, ?wayWbabb⟩
          case wayWbaba =>
            obtain ⟨v4, hrv4, fmv4, szv4, kpv4, blv4⟩ := conv_mark (P := Try.prog) v3 24 5 v1.heap.size (rowB slMark) 8 8 Try.underlying24 Try.underlying5 ff41
            refine tail_val2 (some 9) rfl rfl rfl (conv_run rfl rfl hrv4) (blv4 wd.heap.size lmv2) ⟨wd.heap.size, Nat.le_refl _, ?_⟩
            have cb4 : Below wd.heap.size wd v4 := cb3.trans (blv4 wd.heap.size lmv2)
            have lsv4 : v4.heap.size = v3.heap.size := szv4
            clear hrv4
            have ne44 : wd.heap.size ≠ v1.heap.size := by omega
            have ff43 := ((kpv4 _ ne44).trans ff42)
            have ne46 : v2.heap.size ≠ v1.heap.size := by omega
            have ff45 := ((kpv4 _ ne46).trans fnv3)
            simp only [Act.put, List.setIfInBounds_toArray, List.set_cons_zero, List.set_cons_succ]
            refine plan_one (l := []) rfl (wpQuiet_nil ?_)
            refine tail_call (vs := #[.int .u32 (s : Int)]) Try.call16 rfl rfl rfl (R := fun r w' => r = .slice (some ⟨v4.heap.size, 0, none⟩) 4 4 ∧ w'.heap[v4.heap.size]? = some (.cells (rowB (lowB 4 s)) 5 (0, 0)) ∧ Below v4.heap.size v4 w') ((HPUT4.out v4).mono ?_) wd.heap.size (Nat.le_refl _) ?_
            · rintro e w' ⟨rfl, hf, hb⟩
              exact ⟨_, rfl, hb.mono cb4.size, rfl, hf, hb⟩
            rintro r v5 _ ⟨rfl, fsv5, hbv5⟩
            have lsv5 : v4.heap.size < v5.heap.size := heap_ltz fsv5
            have cb5 : Below wd.heap.size wd v5 := cb4.trans (hbv5.mono cb4.size)
            have ff47 := ((hbv5.block _ (heap_ltz fmv4)).trans fmv4)
            have ff48 := ((hbv5.block _ (heap_ltz ff43)).trans ff43)
            have ff49 := ((hbv5.block _ (heap_ltz ff45)).trans ff45)
            simp only [Act.put, List.setIfInBounds_toArray, List.set_cons_zero, List.set_cons_succ]
            refine plan_one (l := []) rfl (wpQuiet_nil ?_)
            obtain ⟨w8, hw8⟩ : ∃ w8, v5.alloc (.cells #[.slice (some ⟨v1.heap.size, 0, none⟩) 8 8, .slice (some ⟨wd.heap.size, 0, none⟩) 8 8, .slice (some ⟨v2.heap.size, 0, none⟩) 8 8, .slice (some ⟨v4.heap.size, 0, none⟩) 4 4] 24) = w8 := ⟨_, rfl⟩
            have hb8 : Below v5.heap.size v5 w8 := by rw [← hw8]; exact (Below.refl _ _).alloc (Nat.le_refl _) _
            have n8 : w8.heap[v5.heap.size]? = some (.cells #[.slice (some ⟨v1.heap.size, 0, none⟩) 8 8, .slice (some ⟨wd.heap.size, 0, none⟩) 8 8, .slice (some ⟨v2.heap.size, 0, none⟩) 8 8, .slice (some ⟨v4.heap.size, 0, none⟩) 4 4] 24 (0, 0)) := by rw [← hw8]; exact heap_alloc_new v5 _
            have HC8 := HEND.out w8 v5.heap.size _ _ _ _ n8 (((fill_mark ff47).below hb8).more hb8.size) (((fill_mark ff48).below hb8).more hb8.size) (((fill_mark ff49).below hb8).more hb8.size) (((fill_mark fsv5).below hb8).more hb8.size)
            have HC8 := Lib.hid HC8
            have HBW8 := Lib.hid cb5
            have HB8 := Lib.hid hb8
            refine tail_val2 (some 19) (w1 := w8) (v := .slice (some ⟨v5.heap.size, 0, none⟩) 4 4) rfl rfl rfl (by rw [← hw8]; exact bslice_run rfl rfl (slot_four v5 _ _ _ _ _ _ _ _ _ _ _ _)) (hb8.mono HBW8.out.size) ⟨wd.heap.size, Nat.le_refl _, ?_⟩
            clear hw8 hb8 n8
            simp only [Act.put, List.setIfInBounds_toArray, List.set_cons_zero, List.set_cons_succ]
            refine plan_one (l := []) rfl (wpQuiet_nil ?_)
            refine tail_call (vs := #[.slice (some ⟨v5.heap.size, 0, none⟩) 4 4]) Try.call14 rfl rfl rfl (R := fun r w' => w'.ownsRow w8.heap.size 5 1 r 28 ((slHead g n s).map bv) ∧ Below w8.heap.size w8 w') (HC8.out.mono ?_) wd.heap.size (Nat.le_refl _) ?_
            · rintro e w' ⟨v, rfl, ho, hb⟩
              exact ⟨_, rfl, hb.mono (Nat.le_trans HBW8.out.size HB8.out.size), ho, hb⟩
            rintro r w9 _ ⟨ho9, hb9⟩
            have HF9 := Lib.hid (And.intro (own_lift ho9 (Nat.le_trans HBW8.out.size HB8.out.size)) ((HBW8.out.trans (HB8.out.mono HBW8.out.size)).trans (hb9.mono (Nat.le_trans HBW8.out.size HB8.out.size))))
            clear ho9 hb9
            simp only [Act.put, List.setIfInBounds_toArray, List.set_cons_zero, List.set_cons_succ]
            refine plan_fin (l := ?finWbabac) (t := []) ?hfinWbabac ?htfinWbabac ?_
            case hfinWbabac => simp only [pick, List.getElem?_toArray, List.getElem?_cons_succ, List.getElem?_cons_zero]; rfl
            case htfinWbabac => rfl
            repeat (go_big_quiet_step (fail))
            refine wpQuiet_nil ?_
            go_wp2_with fail
            go_meet
            case rel => exact HF9.out
          case wayWbabb =>
            refine tail_call (vs := #[.int .u32 (s : Int)]) Try.call16 rfl rfl rfl (R := fun r w' => r = .slice (some ⟨v3.heap.size, 0, none⟩) 4 4 ∧ w'.heap[v3.heap.size]? = some (.cells (rowB (lowB 4 s)) 5 (0, 0)) ∧ Below v3.heap.size v3 w') ((HPUT4.out v3).mono ?_) wd.heap.size (Nat.le_refl _) ?_
            · rintro e w' ⟨rfl, hf, hb⟩
              exact ⟨_, rfl, hb.mono cb3.size, rfl, hf, hb⟩
            rintro r v4 _ ⟨rfl, fsv4, hbv4⟩
            have lsv4 : v3.heap.size < v4.heap.size := heap_ltz fsv4
            have cb4 : Below wd.heap.size wd v4 := cb3.trans (hbv4.mono cb3.size)
            have ff50 := ((hbv4.block _ (heap_ltz ff41)).trans ff41)
            have ff51 := ((hbv4.block _ (heap_ltz ff42)).trans ff42)
            have ff52 := ((hbv4.block _ (heap_ltz fnv3)).trans fnv3)
            simp only [Act.put, List.setIfInBounds_toArray, List.set_cons_zero, List.set_cons_succ]
            refine plan_one (l := []) rfl (wpQuiet_nil ?_)
            obtain ⟨v5, hrv5, fmv5, szv5, kpv5, blv5⟩ := conv_mark (P := Try.prog) v4 24 5 v1.heap.size (rowB slMark) 8 8 Try.underlying24 Try.underlying5 ff50
            refine tail_val2 (some 9) rfl rfl rfl (conv_run rfl rfl hrv5) (blv5 wd.heap.size lmv2) ⟨wd.heap.size, Nat.le_refl _, ?_⟩
            have cb5 : Below wd.heap.size wd v5 := cb4.trans (blv5 wd.heap.size lmv2)
            have lsv5 : v5.heap.size = v4.heap.size := szv5
            clear hrv5
            have ne54 : wd.heap.size ≠ v1.heap.size := by omega
            have ff53 := ((kpv5 _ ne54).trans ff51)
            have ne56 : v2.heap.size ≠ v1.heap.size := by omega
            have ff55 := ((kpv5 _ ne56).trans ff52)
            have ne58 : v3.heap.size ≠ v1.heap.size := by omega
            have ff57 := ((kpv5 _ ne58).trans fsv4)
            simp only [Act.put, List.setIfInBounds_toArray, List.set_cons_zero, List.set_cons_succ]
            refine plan_one (l := []) rfl (wpQuiet_nil ?_)
            obtain ⟨w8, hw8⟩ : ∃ w8, v5.alloc (.cells #[.slice (some ⟨v1.heap.size, 0, none⟩) 8 8, .slice (some ⟨wd.heap.size, 0, none⟩) 8 8, .slice (some ⟨v2.heap.size, 0, none⟩) 8 8, .slice (some ⟨v3.heap.size, 0, none⟩) 4 4] 24) = w8 := ⟨_, rfl⟩
            have hb8 : Below v5.heap.size v5 w8 := by rw [← hw8]; exact (Below.refl _ _).alloc (Nat.le_refl _) _
            have n8 : w8.heap[v5.heap.size]? = some (.cells #[.slice (some ⟨v1.heap.size, 0, none⟩) 8 8, .slice (some ⟨wd.heap.size, 0, none⟩) 8 8, .slice (some ⟨v2.heap.size, 0, none⟩) 8 8, .slice (some ⟨v3.heap.size, 0, none⟩) 4 4] 24 (0, 0)) := by rw [← hw8]; exact heap_alloc_new v5 _
            have HC8 := HEND.out w8 v5.heap.size _ _ _ _ n8 (((fill_mark fmv5).below hb8).more hb8.size) (((fill_mark ff53).below hb8).more hb8.size) (((fill_mark ff55).below hb8).more hb8.size) (((fill_mark ff57).below hb8).more hb8.size)
            have HC8 := Lib.hid HC8
            have HBW8 := Lib.hid cb5
            have HB8 := Lib.hid hb8
            refine tail_val2 (some 19) (w1 := w8) (v := .slice (some ⟨v5.heap.size, 0, none⟩) 4 4) rfl rfl rfl (by rw [← hw8]; exact bslice_run rfl rfl (slot_four v5 _ _ _ _ _ _ _ _ _ _ _ _)) (hb8.mono HBW8.out.size) ⟨wd.heap.size, Nat.le_refl _, ?_⟩
            clear hw8 hb8 n8
            simp only [Act.put, List.setIfInBounds_toArray, List.set_cons_zero, List.set_cons_succ]
            refine plan_one (l := []) rfl (wpQuiet_nil ?_)
            refine tail_call (vs := #[.slice (some ⟨v5.heap.size, 0, none⟩) 4 4]) Try.call14 rfl rfl rfl (R := fun r w' => w'.ownsRow w8.heap.size 5 1 r 28 ((slHead g n s).map bv) ∧ Below w8.heap.size w8 w') (HC8.out.mono ?_) wd.heap.size (Nat.le_refl _) ?_
            · rintro e w' ⟨v, rfl, ho, hb⟩
              exact ⟨_, rfl, hb.mono (Nat.le_trans HBW8.out.size HB8.out.size), ho, hb⟩
            rintro r w9 _ ⟨ho9, hb9⟩
            have HF9 := Lib.hid (And.intro (own_lift ho9 (Nat.le_trans HBW8.out.size HB8.out.size)) ((HBW8.out.trans (HB8.out.mono HBW8.out.size)).trans (hb9.mono (Nat.le_trans HBW8.out.size HB8.out.size))))
            clear ho9 hb9
            simp only [Act.put, List.setIfInBounds_toArray, List.set_cons_zero, List.set_cons_succ]
            refine plan_fin (l := ?finWbabbc) (t := []) ?hfinWbabbc ?htfinWbabbc ?_
            case hfinWbabbc => simp only [pick, List.getElem?_toArray, List.getElem?_cons_succ, List.getElem?_cons_zero]; rfl
            case htfinWbabbc => rfl
            repeat (go_big_quiet_step (fail))
            refine wpQuiet_nil ?_
            go_wp2_with fail
            go_meet
            case rel => exact HF9.out
      case wayWbb =>
        refine tail_call (vs := #[.int .u64 (n : Int)]) Try.call15 rfl rfl rfl (R := fun r w' => r = .slice (some ⟨v1.heap.size, 0, none⟩) 8 8 ∧ w'.heap[v1.heap.size]? = some (.cells (rowB (lowB 8 n)) 5 (0, 0)) ∧ Below v1.heap.size v1 w') ((HPUTn.out v1).mono ?_) wd.heap.size (Nat.le_refl _) ?_
        · rintro e w' ⟨rfl, hf, hb⟩
          exact ⟨_, rfl, hb.mono cb1.size, rfl, hf, hb⟩
        rintro r v2 _ ⟨rfl, fnv2, hbv2⟩
        have lsv2 : v1.heap.size < v2.heap.size := heap_ltz fnv2
        have cb2 : Below wd.heap.size wd v2 := cb1.trans (hbv2.mono cb1.size)
        have ff59 := ((hbv2.block _ (heap_ltz fgv1)).trans fgv1)
        simp only [Act.put, List.setIfInBounds_toArray, List.set_cons_zero, List.set_cons_succ]
        refine plan_two (l := []) rfl (wpQuiet_nil ?_)
        refine ⟨?wayWbba, ?wayWbbb⟩
        case wayWbba =>
          refine tail_val2 (some 8) (w1 := v2.alloc (.cells (rowB slMark) 5)) (v := .slice (some ⟨v2.heap.size, 0, none⟩) 8 8) rfl rfl rfl (bslice_run rfl rfl (slot_mark v2)) ((Below.refl _ _).alloc cb2.size _) ⟨wd.heap.size, Nat.le_refl _, ?_⟩
          obtain ⟨v3, hv3⟩ : ∃ v3, v2.alloc (.cells (rowB slMark) 5) = v3 := ⟨_, rfl⟩
          have hbv3 : Below v2.heap.size v2 v3 := by rw [← hv3]; exact (Below.refl _ _).alloc (Nat.le_refl _) _
          have fmv3 : v3.heap[v2.heap.size]? = some (.cells (rowB slMark) 5 (0, 0)) := by rw [← hv3]; exact heap_alloc_new v2 _
          have cb3 : Below wd.heap.size wd v3 := cb2.trans (hbv3.mono cb2.size)
          have lmv3 : wd.heap.size ≤ v2.heap.size := cb2.size
          have lsv3 : v2.heap.size < v3.heap.size := heap_ltz fmv3
          rw [hv3]
          clear hv3
          have ff60 := ((hbv3.block _ (heap_ltz ff59)).trans ff59)
          have ff61 := ((hbv3.block _ (heap_ltz fnv2)).trans fnv2)
          simp only [Act.put, List.setIfInBounds_toArray, List.set_cons_zero, List.set_cons_succ]
          refine plan_two (l := []) rfl (wpQuiet_nil ?_)
          refine ⟨?wayWbbaa, ?wayWbbab⟩
          case wayWbbaa =>
            obtain ⟨v4, hrv4, fmv4, szv4, kpv4, blv4⟩ := conv_mark (P := Try.prog) v3 24 5 v2.heap.size (rowB slMark) 8 8 Try.underlying24 Try.underlying5 fmv3
            refine tail_val2 (some 9) rfl rfl rfl (conv_run rfl rfl hrv4) (blv4 wd.heap.size lmv3) ⟨wd.heap.size, Nat.le_refl _, ?_⟩
            have cb4 : Below wd.heap.size wd v4 := cb3.trans (blv4 wd.heap.size lmv3)
            have lsv4 : v4.heap.size = v3.heap.size := szv4
            clear hrv4
            have ne63 : wd.heap.size ≠ v2.heap.size := by omega
            have ff62 := ((kpv4 _ ne63).trans ff60)
            have ne65 : v1.heap.size ≠ v2.heap.size := by omega
            have ff64 := ((kpv4 _ ne65).trans ff61)
            simp only [Act.put, List.setIfInBounds_toArray, List.set_cons_zero, List.set_cons_succ]
            refine plan_one (l := []) rfl (wpQuiet_nil ?_)
            refine tail_call (vs := #[.int .u32 (s : Int)]) Try.call16 rfl rfl rfl (R := fun r w' => r = .slice (some ⟨v4.heap.size, 0, none⟩) 4 4 ∧ w'.heap[v4.heap.size]? = some (.cells (rowB (lowB 4 s)) 5 (0, 0)) ∧ Below v4.heap.size v4 w') ((HPUT4.out v4).mono ?_) wd.heap.size (Nat.le_refl _) ?_
            · rintro e w' ⟨rfl, hf, hb⟩
              exact ⟨_, rfl, hb.mono cb4.size, rfl, hf, hb⟩
            rintro r v5 _ ⟨rfl, fsv5, hbv5⟩
            have lsv5 : v4.heap.size < v5.heap.size := heap_ltz fsv5
            have cb5 : Below wd.heap.size wd v5 := cb4.trans (hbv5.mono cb4.size)
            have ff66 := ((hbv5.block _ (heap_ltz fmv4)).trans fmv4)
            have ff67 := ((hbv5.block _ (heap_ltz ff62)).trans ff62)
            have ff68 := ((hbv5.block _ (heap_ltz ff64)).trans ff64)
            simp only [Act.put, List.setIfInBounds_toArray, List.set_cons_zero, List.set_cons_succ]
            refine plan_one (l := []) rfl (wpQuiet_nil ?_)
            obtain ⟨w8, hw8⟩ : ∃ w8, v5.alloc (.cells #[.slice (some ⟨v2.heap.size, 0, none⟩) 8 8, .slice (some ⟨wd.heap.size, 0, none⟩) 8 8, .slice (some ⟨v1.heap.size, 0, none⟩) 8 8, .slice (some ⟨v4.heap.size, 0, none⟩) 4 4] 24) = w8 := ⟨_, rfl⟩
            have hb8 : Below v5.heap.size v5 w8 := by rw [← hw8]; exact (Below.refl _ _).alloc (Nat.le_refl _) _
            have n8 : w8.heap[v5.heap.size]? = some (.cells #[.slice (some ⟨v2.heap.size, 0, none⟩) 8 8, .slice (some ⟨wd.heap.size, 0, none⟩) 8 8, .slice (some ⟨v1.heap.size, 0, none⟩) 8 8, .slice (some ⟨v4.heap.size, 0, none⟩) 4 4] 24 (0, 0)) := by rw [← hw8]; exact heap_alloc_new v5 _
            have HC8 := HEND.out w8 v5.heap.size _ _ _ _ n8 (((fill_mark ff66).below hb8).more hb8.size) (((fill_mark ff67).below hb8).more hb8.size) (((fill_mark ff68).below hb8).more hb8.size) (((fill_mark fsv5).below hb8).more hb8.size)
            have HC8 := Lib.hid HC8
            have HBW8 := Lib.hid cb5
            have HB8 := Lib.hid hb8
            refine tail_val2 (some 19) (w1 := w8) (v := .slice (some ⟨v5.heap.size, 0, none⟩) 4 4) rfl rfl rfl (by rw [← hw8]; exact bslice_run rfl rfl (slot_four v5 _ _ _ _ _ _ _ _ _ _ _ _)) (hb8.mono HBW8.out.size) ⟨wd.heap.size, Nat.le_refl _, ?_⟩
            clear hw8 hb8 n8
            simp only [Act.put, List.setIfInBounds_toArray, List.set_cons_zero, List.set_cons_succ]
            refine plan_one (l := []) rfl (wpQuiet_nil ?_)
            refine tail_call (vs := #[.slice (some ⟨v5.heap.size, 0, none⟩) 4 4]) Try.call14 rfl rfl rfl (R := fun r w' => w'.ownsRow w8.heap.size 5 1 r 28 ((slHead g n s).map bv) ∧ Below w8.heap.size w8 w') (HC8.out.mono ?_) wd.heap.size (Nat.le_refl _) ?_
            · rintro e w' ⟨v, rfl, ho, hb⟩
              exact ⟨_, rfl, hb.mono (Nat.le_trans HBW8.out.size HB8.out.size), ho, hb⟩
            rintro r w9 _ ⟨ho9, hb9⟩
            have HF9 := Lib.hid (And.intro (own_lift ho9 (Nat.le_trans HBW8.out.size HB8.out.size)) ((HBW8.out.trans (HB8.out.mono HBW8.out.size)).trans (hb9.mono (Nat.le_trans HBW8.out.size HB8.out.size))))
            clear ho9 hb9
            simp only [Act.put, List.setIfInBounds_toArray, List.set_cons_zero, List.set_cons_succ]
            refine plan_fin (l := ?finWbbaac) (t := []) ?hfinWbbaac ?htfinWbbaac ?_
            case hfinWbbaac => simp only [pick, List.getElem?_toArray, List.getElem?_cons_succ, List.getElem?_cons_zero]; rfl
            case htfinWbbaac => rfl
            repeat (go_big_quiet_step (fail))
            refine wpQuiet_nil ?_
            go_wp2_with fail
            go_meet
            case rel => exact HF9.out
          case wayWbbab =>
            refine tail_call (vs := #[.int .u32 (s : Int)]) Try.call16 rfl rfl rfl (R := fun r w' => r = .slice (some ⟨v3.heap.size, 0, none⟩) 4 4 ∧ w'.heap[v3.heap.size]? = some (.cells (rowB (lowB 4 s)) 5 (0, 0)) ∧ Below v3.heap.size v3 w') ((HPUT4.out v3).mono ?_) wd.heap.size (Nat.le_refl _) ?_
            · rintro e w' ⟨rfl, hf, hb⟩
              exact ⟨_, rfl, hb.mono cb3.size, rfl, hf, hb⟩
            rintro r v4 _ ⟨rfl, fsv4, hbv4⟩
            have lsv4 : v3.heap.size < v4.heap.size := heap_ltz fsv4
            have cb4 : Below wd.heap.size wd v4 := cb3.trans (hbv4.mono cb3.size)
            have ff69 := ((hbv4.block _ (heap_ltz fmv3)).trans fmv3)
            have ff70 := ((hbv4.block _ (heap_ltz ff60)).trans ff60)
            have ff71 := ((hbv4.block _ (heap_ltz ff61)).trans ff61)
            simp only [Act.put, List.setIfInBounds_toArray, List.set_cons_zero, List.set_cons_succ]
            refine plan_one (l := []) rfl (wpQuiet_nil ?_)
            obtain ⟨v5, hrv5, fmv5, szv5, kpv5, blv5⟩ := conv_mark (P := Try.prog) v4 24 5 v2.heap.size (rowB slMark) 8 8 Try.underlying24 Try.underlying5 ff69
            refine tail_val2 (some 9) rfl rfl rfl (conv_run rfl rfl hrv5) (blv5 wd.heap.size lmv3) ⟨wd.heap.size, Nat.le_refl _, ?_⟩
            have cb5 : Below wd.heap.size wd v5 := cb4.trans (blv5 wd.heap.size lmv3)
            have lsv5 : v5.heap.size = v4.heap.size := szv5
            clear hrv5
            have ne73 : wd.heap.size ≠ v2.heap.size := by omega
            have ff72 := ((kpv5 _ ne73).trans ff70)
            have ne75 : v1.heap.size ≠ v2.heap.size := by omega
            have ff74 := ((kpv5 _ ne75).trans ff71)
            have ne77 : v3.heap.size ≠ v2.heap.size := by omega
            have ff76 := ((kpv5 _ ne77).trans fsv4)
            simp only [Act.put, List.setIfInBounds_toArray, List.set_cons_zero, List.set_cons_succ]
            refine plan_one (l := []) rfl (wpQuiet_nil ?_)
            obtain ⟨w8, hw8⟩ : ∃ w8, v5.alloc (.cells #[.slice (some ⟨v2.heap.size, 0, none⟩) 8 8, .slice (some ⟨wd.heap.size, 0, none⟩) 8 8, .slice (some ⟨v1.heap.size, 0, none⟩) 8 8, .slice (some ⟨v3.heap.size, 0, none⟩) 4 4] 24) = w8 := ⟨_, rfl⟩
            have hb8 : Below v5.heap.size v5 w8 := by rw [← hw8]; exact (Below.refl _ _).alloc (Nat.le_refl _) _
            have n8 : w8.heap[v5.heap.size]? = some (.cells #[.slice (some ⟨v2.heap.size, 0, none⟩) 8 8, .slice (some ⟨wd.heap.size, 0, none⟩) 8 8, .slice (some ⟨v1.heap.size, 0, none⟩) 8 8, .slice (some ⟨v3.heap.size, 0, none⟩) 4 4] 24 (0, 0)) := by rw [← hw8]; exact heap_alloc_new v5 _
            have HC8 := HEND.out w8 v5.heap.size _ _ _ _ n8 (((fill_mark fmv5).below hb8).more hb8.size) (((fill_mark ff72).below hb8).more hb8.size) (((fill_mark ff74).below hb8).more hb8.size) (((fill_mark ff76).below hb8).more hb8.size)
            have HC8 := Lib.hid HC8
            have HBW8 := Lib.hid cb5
            have HB8 := Lib.hid hb8
            refine tail_val2 (some 19) (w1 := w8) (v := .slice (some ⟨v5.heap.size, 0, none⟩) 4 4) rfl rfl rfl (by rw [← hw8]; exact bslice_run rfl rfl (slot_four v5 _ _ _ _ _ _ _ _ _ _ _ _)) (hb8.mono HBW8.out.size) ⟨wd.heap.size, Nat.le_refl _, ?_⟩
            clear hw8 hb8 n8
            simp only [Act.put, List.setIfInBounds_toArray, List.set_cons_zero, List.set_cons_succ]
            refine plan_one (l := []) rfl (wpQuiet_nil ?_)
            refine tail_call (vs := #[.slice (some ⟨v5.heap.size, 0, none⟩) 4 4]) Try.call14 rfl rfl rfl (R := fun r w' => w'.ownsRow w8.heap.size 5 1 r 28 ((slHead g n s).map bv) ∧ Below w8.heap.size w8 w') (HC8.out.mono ?_) wd.heap.size (Nat.le_refl _) ?_
            · rintro e w' ⟨v, rfl, ho, hb⟩
              exact ⟨_, rfl, hb.mono (Nat.le_trans HBW8.out.size HB8.out.size), ho, hb⟩
            rintro r w9 _ ⟨ho9, hb9⟩
            have HF9 := Lib.hid (And.intro (own_lift ho9 (Nat.le_trans HBW8.out.size HB8.out.size)) ((HBW8.out.trans (HB8.out.mono HBW8.out.size)).trans (hb9.mono (Nat.le_trans HBW8.out.size HB8.out.size))))
            clear ho9 hb9
            simp only [Act.put, List.setIfInBounds_toArray, List.set_cons_zero, List.set_cons_succ]
            refine plan_fin (l := ?finWbbabc) (t := []) ?hfinWbbabc ?htfinWbbabc ?_
            case hfinWbbabc => simp only [pick, List.getElem?_toArray, List.getElem?_cons_succ, List.getElem?_cons_zero]; rfl
            case htfinWbbabc => rfl
            repeat (go_big_quiet_step (fail))
            refine wpQuiet_nil ?_
            go_wp2_with fail
            go_meet
            case rel => exact HF9.out
        case wayWbbb =>
          refine tail_call (vs := #[.int .u32 (s : Int)]) Try.call16 rfl rfl rfl (R := fun r w' => r = .slice (some ⟨v2.heap.size, 0, none⟩) 4 4 ∧ w'.heap[v2.heap.size]? = some (.cells (rowB (lowB 4 s)) 5 (0, 0)) ∧ Below v2.heap.size v2 w') ((HPUT4.out v2).mono ?_) wd.heap.size (Nat.le_refl _) ?_
          · rintro e w' ⟨rfl, hf, hb⟩
            exact ⟨_, rfl, hb.mono cb2.size, rfl, hf, hb⟩
          rintro r v3 _ ⟨rfl, fsv3, hbv3⟩
          have lsv3 : v2.heap.size < v3.heap.size := heap_ltz fsv3
          have cb3 : Below wd.heap.size wd v3 := cb2.trans (hbv3.mono cb2.size)
          have ff78 := ((hbv3.block _ (heap_ltz ff59)).trans ff59)
          have ff79 := ((hbv3.block _ (heap_ltz fnv2)).trans fnv2)
          simp only [Act.put, List.setIfInBounds_toArray, List.set_cons_zero, List.set_cons_succ]
          refine plan_one (l := []) rfl (wpQuiet_nil ?_)
          refine tail_val2 (some 8) (w1 := v3.alloc (.cells (rowB slMark) 5)) (v := .slice (some ⟨v3.heap.size, 0, none⟩) 8 8) rfl rfl rfl (bslice_run rfl rfl (slot_mark v3)) ((Below.refl _ _).alloc cb3.size _) ⟨wd.heap.size, Nat.le_refl _, ?_⟩
          obtain ⟨v4, hv4⟩ : ∃ v4, v3.alloc (.cells (rowB slMark) 5) = v4 := ⟨_, rfl⟩
          have hbv4 : Below v3.heap.size v3 v4 := by rw [← hv4]; exact (Below.refl _ _).alloc (Nat.le_refl _) _
          have fmv4 : v4.heap[v3.heap.size]? = some (.cells (rowB slMark) 5 (0, 0)) := by rw [← hv4]; exact heap_alloc_new v3 _
          have cb4 : Below wd.heap.size wd v4 := cb3.trans (hbv4.mono cb3.size)
          have lmv4 : wd.heap.size ≤ v3.heap.size := cb3.size
          have lsv4 : v3.heap.size < v4.heap.size := heap_ltz fmv4
          rw [hv4]
          clear hv4
          have ff80 := ((hbv4.block _ (heap_ltz ff78)).trans ff78)
          have ff81 := ((hbv4.block _ (heap_ltz ff79)).trans ff79)
          have ff82 := ((hbv4.block _ (heap_ltz fsv3)).trans fsv3)
          simp only [Act.put, List.setIfInBounds_toArray, List.set_cons_zero, List.set_cons_succ]
          refine plan_one (l := []) rfl (wpQuiet_nil ?_)
          obtain ⟨v5, hrv5, fmv5, szv5, kpv5, blv5⟩ := conv_mark (P := Try.prog) v4 24 5 v3.heap.size (rowB slMark) 8 8 Try.underlying24 Try.underlying5 fmv4
          refine tail_val2 (some 9) rfl rfl rfl (conv_run rfl rfl hrv5) (blv5 wd.heap.size lmv4) ⟨wd.heap.size, Nat.le_refl _, ?_⟩
          have cb5 : Below wd.heap.size wd v5 := cb4.trans (blv5 wd.heap.size lmv4)
          have lsv5 : v5.heap.size = v4.heap.size := szv5
          clear hrv5
          have ne84 : wd.heap.size ≠ v3.heap.size := by omega
          have ff83 := ((kpv5 _ ne84).trans ff80)
          have ne86 : v1.heap.size ≠ v3.heap.size := by omega
          have ff85 := ((kpv5 _ ne86).trans ff81)
          have ne88 : v2.heap.size ≠ v3.heap.size := by omega
          have ff87 := ((kpv5 _ ne88).trans ff82)
          simp only [Act.put, List.setIfInBounds_toArray, List.set_cons_zero, List.set_cons_succ]
          refine plan_one (l := []) rfl (wpQuiet_nil ?_)
          obtain ⟨w8, hw8⟩ : ∃ w8, v5.alloc (.cells #[.slice (some ⟨v3.heap.size, 0, none⟩) 8 8, .slice (some ⟨wd.heap.size, 0, none⟩) 8 8, .slice (some ⟨v1.heap.size, 0, none⟩) 8 8, .slice (some ⟨v2.heap.size, 0, none⟩) 4 4] 24) = w8 := ⟨_, rfl⟩
          have hb8 : Below v5.heap.size v5 w8 := by rw [← hw8]; exact (Below.refl _ _).alloc (Nat.le_refl _) _
          have n8 : w8.heap[v5.heap.size]? = some (.cells #[.slice (some ⟨v3.heap.size, 0, none⟩) 8 8, .slice (some ⟨wd.heap.size, 0, none⟩) 8 8, .slice (some ⟨v1.heap.size, 0, none⟩) 8 8, .slice (some ⟨v2.heap.size, 0, none⟩) 4 4] 24 (0, 0)) := by rw [← hw8]; exact heap_alloc_new v5 _
          have HC8 := HEND.out w8 v5.heap.size _ _ _ _ n8 (((fill_mark fmv5).below hb8).more hb8.size) (((fill_mark ff83).below hb8).more hb8.size) (((fill_mark ff85).below hb8).more hb8.size) (((fill_mark ff87).below hb8).more hb8.size)
          have HC8 := Lib.hid HC8
          have HBW8 := Lib.hid cb5
          have HB8 := Lib.hid hb8
          refine tail_val2 (some 19) (w1 := w8) (v := .slice (some ⟨v5.heap.size, 0, none⟩) 4 4) rfl rfl rfl (by rw [← hw8]; exact bslice_run rfl rfl (slot_four v5 _ _ _ _ _ _ _ _ _ _ _ _)) (hb8.mono HBW8.out.size) ⟨wd.heap.size, Nat.le_refl _, ?_⟩
          clear hw8 hb8 n8
          simp only [Act.put, List.setIfInBounds_toArray, List.set_cons_zero, List.set_cons_succ]
          refine plan_one (l := []) rfl (wpQuiet_nil ?_)
          refine tail_call (vs := #[.slice (some ⟨v5.heap.size, 0, none⟩) 4 4]) Try.call14 rfl rfl rfl (R := fun r w' => w'.ownsRow w8.heap.size 5 1 r 28 ((slHead g n s).map bv) ∧ Below w8.heap.size w8 w') (HC8.out.mono ?_) wd.heap.size (Nat.le_refl _) ?_
          · rintro e w' ⟨v, rfl, ho, hb⟩
            exact ⟨_, rfl, hb.mono (Nat.le_trans HBW8.out.size HB8.out.size), ho, hb⟩
          rintro r w9 _ ⟨ho9, hb9⟩
          have HF9 := Lib.hid (And.intro (own_lift ho9 (Nat.le_trans HBW8.out.size HB8.out.size)) ((HBW8.out.trans (HB8.out.mono HBW8.out.size)).trans (hb9.mono (Nat.le_trans HBW8.out.size HB8.out.size))))
          clear ho9 hb9
          simp only [Act.put, List.setIfInBounds_toArray, List.set_cons_zero, List.set_cons_succ]
          refine plan_fin (l := ?finWbbbcc) (t := []) ?hfinWbbbcc ?htfinWbbbcc ?_
          case hfinWbbbcc => simp only [pick, List.getElem?_toArray, List.getElem?_cons_succ, List.getElem?_cons_zero]; rfl
          case htfinWbbbcc => rfl
          repeat (go_big_quiet_step (fail))
          refine wpQuiet_nil ?_
          go_wp2_with fail
          go_meet
          case rel => exact HF9.out
  case rest =>
    obtain ⟨ho, hb⟩ := hcut
    obtain ⟨A0, k0, rfl, hA0⟩ := own_slc ho
    obtain ⟨z, hz⟩ : ∃ z, List.replicate 32 (0 : UInt8) ++ List.replicate 480 0 = z := ⟨_, rfl⟩
    have hmk : (Instr.makeSlice 24 (.int .i64 512) (.int .i64 512)).run Try.prog wc = .ok (.slice (some ⟨wc.heap.size, 0, none⟩) 512 512) (wc.alloc (.cells (rowB z) 5)) := by
      have := run_make_row' (P := Try.prog) 24 5 (.int .u8 0) 1 Try.underlying24 u8_info rfl .i64 .i64 512 (by omega) (by omega) wc
      rw [rowB_zeros, show (512 : Nat) = 32 + 480 from rfl, ← List.replicate_append_replicate, hz] at this
      exact this
    obtain ⟨w3, hw3⟩ : ∃ w3, wc.alloc (.cells (rowB z) 5) = w3 := ⟨_, rfl⟩
    have hf3 : Fill w3 wc.heap.size 5 z := by rw [← hw3]; exact Fill.made wc 5 _
    have hb3 : Below wc.heap.size wc w3 := by rw [← hw3]; exact (Below.refl _ _).alloc (Nat.le_refl _) _
    have HR0 := Lib.hid (((own_reads ho).below hb3).more hb3.size)
    have HK0 := Lib.hid hA0
    obtain ⟨u, hu⟩ : ∃ u, moreN 0 (slHead g n s) = u := ⟨_, rfl⟩
    have hul : u < 4294967296 := by rw [← hu]; exact moreN_lt _ _
    have hsum := sum_any A0 28 k0 w3.heap.size (slHead g n s) w3 HR0.out (by omega)
    rw [hu] at hsum
    have HS := Lib.hid hsum
    have HU := Lib.hid hu
    have HF3 := Lib.hid hf3
    have HBC := Lib.hid hb
    have HB3 := Lib.hid hb3
    have HW3 := Lib.hid hw3
    have HZ := Lib.hid hz
    have h28 : 28 ≤ k0 := by
      rcases ho.2 with ⟨h', _⟩ | ⟨_, _, _, hv, _, _, h', _, _⟩
      · omega
      · injection hv with _ _ e3
        subst e3
        exact h'
    clear ho hb hf3 hb3 hw3 hA0 hsum hu hz HPUTg HPUTn HPUT4 HEND
    go_wp2_with (first | (rw [HW3.out]) | fail)
    refine HS.out.mono ?_
    rintro e w4 ⟨rfl, rfl⟩
    go_wp2_with fail
    refine (put4_any u _ hul).mono ?_
    rintro e w5 ⟨rfl, hf5, hb5⟩
    have hf5' : w5.heap[w3.heap.size]? = some (.cells (rowB (lowB 4 u)) 5 (0, 0)) := hf5
    obtain ⟨w6, hw6⟩ : ∃ w6, w5.alloc (.cells #[.slice A0 28 k0, .slice (some ⟨w3.heap.size, 0, none⟩) 4 4] 24) = w6 := ⟨_, rfl⟩
    have hb6 : Below w5.heap.size w5 w6 := by rw [← hw6]; exact (Below.refl _ _).alloc (Nat.le_refl _) _
    have n6 : w6.heap[w5.heap.size]? = some (.cells #[.slice A0 28 k0, .slice (some ⟨w3.heap.size, 0, none⟩) 4 4] 24 (0, 0)) := by rw [← hw6]; exact heap_alloc_new w5 _
    have hb56 := hb5.trans (hb6.mono hb5.size)
    have hd6 : DtRd w6 w6.heap.size (some ⟨w5.heap.size, 0, none⟩) [slHead g n s, lowB 4 u] := row_rd n6 (fun j x hx => by
      match j, hx with
      | 0, hx => injection hx with hx; subst hx; exact ⟨A0, k0, by rw [slHead_len]; rfl, by rw [slHead_len]; exact (HR0.out.below hb56).more hb56.size, by rw [slHead_len]; decide, by rw [slHead_len]; exact h28, HK0.out⟩
      | 1, hx => injection hx with hx; subst hx; exact ⟨some ⟨w3.heap.size, 0, none⟩, 4, by rw [lowB_length]; rfl, ((fill_mark hf5').below hb6).more hb6.size, by rw [lowB_length]; decide, by rw [lowB_length]; decide, fun e => by cases e⟩
      | j + 2, hx => cases hx)
    have hc6 := concat_any w6 (some ⟨w5.heap.size, 0, none⟩) 2 [slHead g n s, lowB 4 u] hd6 (by simp) (by simp [slHead_len, lowB_length])
    obtain ⟨H, hH⟩ : ∃ H, slHead g n s ++ sum4 (slHead g n s) = H := ⟨_, rfl⟩
    have hHl : H.length = 32 := by rw [← hH, List.length_append, slHead_len, sum4_len]
    have e6 : ([slHead g n s, lowB 4 u] : List (List UInt8)).flatten = H := by rw [← hH]; unfold sum4; rw [HU.out]; simp
    rw [e6, hHl] at hc6
    have HC6 := Lib.hid hc6
    have HB6 := Lib.hid hb56
    have HW6 := Lib.hid hw6
    have HHL := Lib.hid hHl
    have HH := Lib.hid hH
    clear hf5 hf5' hb5 hb6 n6 hd6 hc6 e6 hb56 hw6 hHl hH HS HR0 HK0 HU
    go_wp2_with (first | (rw [bslice_run rfl rfl (slot_two _ _ _ _ _ _ _), HW6.out]) | (rw [HW6.out]) | fail)
    refine HC6.out.mono ?_
    rintro e w7 ⟨v7, rfl, ho7, hb7⟩
    obtain ⟨A7, k7, rfl, _⟩ := own_slc ho7
    have hB7 := HB6.out.trans (hb7.mono HB6.out.size)
    have hf7 : Fill w7 wc.heap.size 5 (List.replicate 32 (0 : UInt8) ++ List.replicate 480 0) := by
      rw [HZ.out]
      exact HF3.out.below hB7 HF3.out.lt
    have hbb := HBC.out.trans ((HB3.out.trans (hB7.mono HB3.out.size)).mono HBC.out.size)
    have hr7 := own_reads ho7
    obtain ⟨b7, o7, e7, _⟩ := hr7.2 (by omega)
    subst e7
    have hov := fill_laid hf7 hbb HBC.out.size H (by rw [HHL.out]; rfl)
    have hsrc : ∀ j v, (H.map bv)[j]? = some v → w7.cell? ((⟨b7, o7, none⟩ : Addr).add j) = some v := fun j v hj => rd_cells hr7 j v hj
    have HOV := Lib.hid hov
    have HSRC := Lib.hid hsrc
    have HN : Hid ((H.map bv).length = Nat.min 32 512) := (show _ = _ by rw [List.length_map, HHL.out]; rfl)
    have HF7 := Lib.hid hf7
    have HFIT : Hid (0 + (H.map bv).length ≤ (rowB (List.replicate 32 (0 : UInt8) ++ List.replicate 480 0)).size) := (show _ ≤ _ by rw [rowB_size, List.length_map, HHL.out]; simp)
    clear hov hsrc hf7 hbb hr7 ho7 hb7 hB7
    go_wp2_with ((refine wpList_copy_own rfl (.tmp 22) (.tmp 28) 24 24 rfl 5 Try.underlying24 (by kernel_rfl) wc.heap.size 0 512 512 ⟨b7, o7, none⟩ 32 k7 rfl rfl _ 5 HF7.out (H.map bv) HN.out HSRC.out HFIT.out (bv_one _) ?_); generalize w7.setRow _ _ = w9 at HOV ⊢)
    go_ret
    have hw1d := Nat.le_trans HB1.out.size HBD.out.size
    refine ⟨wc.heap.size, rfl, Nat.le_trans hw1d HBC.out.size, ?_, HB1.out.trans ((HBD.out.trans (HOV.out.2.mono HBD.out.size)).mono HB1.out.size)⟩
    have e : slPut g n s = H ++ List.replicate 480 0 := by rw [← HH.out]; rfl
    rw [e]
    exact HOV.out.1
theorem slput_any (w : World) (g n s : Nat) (hs : s < 4294967296) :
    Calls Try.prog 8 #[.agg #[.int .u64 (g : Int), .int .u64 (n : Int), .int .u32 (s : Int)]] w fun e w' => ∃ A m c, e = .returned (.slice A m c) ∧ (A = none → c = 0) ∧ Rd w' w'.heap.size A m (slOf g n s) ∧ Below w.heap.size w w' := by
  cases h : slOk g n with
  | false =>
    refine (slput_no w g n s h).mono ?_
    rintro e w' ⟨rfl, hb⟩
    refine ⟨none, 0, 0, rfl, fun _ => rfl, ?_, hb⟩
    unfold slOf
    rw [if_neg (by rw [h]; simp)]
    exact Rd.nil_
  | true =>
    refine (slput_ok w g n s hs h).mono ?_
    rintro e w' ⟨b, rfl, _, hf, hb⟩
    refine ⟨_, 512, 512, rfl, (fun e => by cases e), ?_, hb⟩
    unfold slOf
    rw [if_pos h]
    have := hf.reads
    rw [slPut_len] at this
    exact this
end Go.Proofs.Yteomiekjcnpnlaa
