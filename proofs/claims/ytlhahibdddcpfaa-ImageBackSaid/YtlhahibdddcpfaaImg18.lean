/- The document's Get: numbers that may not be, tags with another sum (genimg18.py). -/
import Derived.Test.YtlhahibdddcpfaaImg17
namespace Go.Proofs.Ytlhahibdddcpfaa
open Go.RowKit

set_option maxRecDepth 100000 in
set_option maxHeartbeats 1000000 in
theorem rget_n1 (w : World) (A : Option Addr) (n c B : Nat) (b : List UInt8) (hr : Rd w B A n b) (hB : B ≤ w.heap.size) (hnc : n ≤ c) (hc : c ≤ 9223372036854775807) (hn : n ≤ 900000) (h28 : 28 ≤ n) (hm : b.take 8 = markB) (hys : sumAt b 0 24 = true) (N K : Nat) (hN : lenN b = N) (hK : cntN b = K) (h1 : N < 184) :
    Calls Try.prog 15 #[.slice A n c] w fun e w' => e = .returned (.tuple #[.agg #[.int .i64 0, .slice none 0 0, .slice none 0 0], .int .i64 3]) ∧ Below w.heap.size w w' := by
  obtain ⟨g, off, rfl, _⟩ := hr.2 (by omega)
  obtain ⟨w1, hw1⟩ : ∃ w1, w.alloc (.cells #[.int .i64 0, .slice none 0 0, .slice none 0 0] 29) = w1 := ⟨_, rfl⟩
  have hb1 : Below w.heap.size w w1 := by rw [← hw1]; exact (Below.refl _ _).alloc (Nat.le_refl _) _
  have n1 : w1.heap[w.heap.size]? = some (.cells #[.int .i64 0, .slice none 0 0, .slice none 0 0] 29 (0, 0)) := by rw [← hw1]; exact heap_alloc_new w _
  obtain ⟨wd, hwd⟩ : ∃ wd, w1.drew = wd := ⟨_, rfl⟩
  have hbd : Below w1.heap.size w1 wd := by rw [← hwd]; exact (Below.refl _ _).drew
  have nd := (hbd.block _ (heap_lt1 n1)).trans n1
  have hBd := hb1.trans (hbd.mono hb1.size)
  have HBD := Lib.hid hBd
  have hR := (hr.more hB).below hBd
  have HR := Lib.hid hR
  have HRS := Lib.hid ((hR.more hBd.size).sub 0 8 (by omega))
  rw [List.drop_zero, Nat.add_zero] at HRS
  have HBG := Lib.hid (rbegin_any wd)
  obtain ⟨T, hT⟩ : ∃ T, strB markB = T := ⟨_, rfl⟩
  rw [hm] at HRS
  have HT := Lib.hid hT
  have gT : (T.toList != T.toList) = false := str_self T
  have HR0 := Lib.hid (hr.more hB)
  have HSU := Lib.hid (fun V (hV : Below w.heap.size w V) => rsummed_any V (some ⟨g, off, none⟩) n c w.heap.size b 0 24 ((hr.more hB).below hV) hV.size hnc hc hn (by omega) (by omega) true hys)
  have HNA := Lib.hid (fun V (hV : Below w.heap.size w V) => refNum_any (some ⟨g, off + 8, none⟩) 8 (c - 8) w.heap.size ((b.drop 8).take 8) V (((hr.more hB).sub 8 8 (by omega)).below hV) (Nat.le_refl _))
  have HNB := Lib.hid (fun V (hV : Below w.heap.size w V) => refNum_any (some ⟨g, off + 16, none⟩) 8 (c - 16) w.heap.size ((b.drop 16).take 8) V (((hr.more hB).sub 16 8 (by omega)).below hV) (Nat.le_refl _))
  have hNl : N < 18446744073709551616 := by rw [← hN]; exact numB_lt64 _ (List.length_take_le _ _)
  have hKl : K < 18446744073709551616 := by rw [← hK]; exact numB_lt64 _ (List.length_take_le _ _)
  unfold lenN at hN
  unfold cntN at hK
  rw [hN] at HNA
  rw [hK] at HNB
  have HW1 := Lib.hid hw1
  have HWD := Lib.hid hwd
  have HND := Lib.hid nd
  have g1 : decide (n < 28) = false := decide_eq_false (by omega)
  have g3 : (8 : Int) ≤ (c : Int) := by omega
  have g4 : (16 : Int) ≤ (c : Int) := by omega
  have g5 : (24 : Int) ≤ (c : Int) := by omega
  have g6 : decide (N < 184) = true := decide_eq_true (by omega)
  have g6' : decide ((N : Int) < (184 : Int)) = true := decide_eq_true (by omega)
  clear hr hw1 hb1 n1 hwd hbd nd hBd hR hT hys hN hK hm hB h1
  go_enter Try.func15, Try.ntmps15
  go_wp2_with (first | (rw [HW1.out]) | fail)
  refine wp_region_tail wd.heap.size [([0, 1, 2], 3)] [4, 5] [] (by kernel_rfl) (by kernel_rfl) (by kernel_rfl) (fun _ _ _ _ _ h => h) ?_
  rw [HWD.out]
  have q0 : ∀ z : LaterB wd.heap.size wd, (convert 31 9 (.slice (some ⟨g, off, none⟩) 8 c)).run Try.prog z.val = .ok (.string T) z.val := fun z => by rw [← HT.out]; exact conv_rd (HRS.out.below z.ext)
  refine tail_cons (l := ?segA) ?hsegA ?_
  case hsegA => simp only [pick, List.getElem?_toArray, List.getElem?_cons_succ, List.getElem?_cons_zero]; rfl
  repeat (go_big_quiet_step (fail))
  refine wpQuiet_nil ?_
  clear q0
  refine tail_call2 (vs := #[]) Try.call26 rfl rfl rfl (R := fun r w' => ∃ A c, r = .slice A 8 c ∧ w'.ownsRow wd.heap.size 5 1 (.slice A 8 c) 8 (markB.map bv) ∧ Below wd.heap.size wd w') (HBG.out.mono ?_) ?_
  · rintro e w' ⟨A, c, rfl, _, ho, hb⟩
    exact ⟨_, rfl, hb, A, c, rfl, ho, hb⟩
  rintro r w8 _ ⟨A8, c8, rfl, ho8, hb8⟩
  have HR8 := Lib.hid (own_reads ho8)
  have HB8 := Lib.hid (HBD.out.trans (hb8.mono HBD.out.size))
  have HN8 := Lib.hid ((hb8.block _ (heap_lt1 HND.out)).trans HND.out)
  refine ⟨w8.heap.size, hb8.size, ?_⟩
  clear ho8 hb8
  simp only [Act.put, List.setIfInBounds_toArray, List.set_cons_zero, List.set_cons_succ]
  have q4 : ∀ z : LaterB w8.heap.size w8, (convert 31 9 (.slice A8 8 c8)).run Try.prog z.val = .ok (.string T) z.val := fun z => by rw [← HT.out]; exact conv_rd (HR8.out.below z.ext)
  refine tail_last (l := ?lastB) (t := []) ?hlastB ?htlastB ?_
  case hlastB => simp only [pick, List.getElem?_toArray, List.getElem?_cons_succ, List.getElem?_cons_zero]; rfl
  case htlastB => rfl
  repeat (go_big_quiet_step (fail))
  refine wpQuiet_nil ?_
  clear q4
  go_wp2_with fail
  refine (HSU.out w8 HB8.out).mono ?_
  rintro e w9 ⟨rfl, hb9⟩
  have HN9 := Lib.hid ((hb9.block _ (heap_lt1 HN8.out)).trans HN8.out)
  have HB9 := Lib.hid (HB8.out.trans (hb9.mono HB8.out.size))
  clear hb9
  go_wp2_with fail
  refine (HNA.out w9 HB9.out).mono ?_
  rintro e wq ⟨rfl, rfl⟩
  go_wp2_with fail
  refine (HNB.out w9 HB9.out).mono ?_
  rintro e wq ⟨rfl, rfl⟩
  have n9 := HN9.out
  have hl9 := heap_lt1 n9
  obtain ⟨f0, f1, f2⟩ := im_thaw n9
  obtain ⟨z0, z1, z2⟩ := rk_cells n9
  have HM := Lib.hid (im_set n9 (.int .i64 0) (.slice none 0 0) (.slice none 0 0))
  have HF := Lib.hid (((HB9.out.setCell (p := ⟨w.heap.size, 0, none⟩) (Nat.le_refl _) (.int .i64 0)).setCell (p := ⟨w.heap.size, 1, none⟩) (Nat.le_refl _) (.slice none 0 0)).setCell (p := ⟨w.heap.size, 2, none⟩) (Nat.le_refl _) (.slice none 0 0))
  clear n9
  go_wp2
  (try simp only [Exit.inBlock, Exit.then])
  refine rim_ret (g := w.heap.size) (x := .int .i64 3) Try.results15 ?_ ?_ ?_ HM.out ?_
  · rfl
  · rfl
  · rfl
  · exact ⟨rfl, HF.out⟩
set_option maxRecDepth 100000 in
set_option maxHeartbeats 1000000 in
theorem rget_n2 (w : World) (A : Option Addr) (n c B : Nat) (b : List UInt8) (hr : Rd w B A n b) (hB : B ≤ w.heap.size) (hnc : n ≤ c) (hc : c ≤ 9223372036854775807) (hn : n ≤ 900000) (h28 : 28 ≤ n) (hm : b.take 8 = markB) (hys : sumAt b 0 24 = true) (N K : Nat) (hN : lenN b = N) (hK : cntN b = K) (h1 : 16384 < N) :
    Calls Try.prog 15 #[.slice A n c] w fun e w' => e = .returned (.tuple #[.agg #[.int .i64 0, .slice none 0 0, .slice none 0 0], .int .i64 3]) ∧ Below w.heap.size w w' := by
  obtain ⟨g, off, rfl, _⟩ := hr.2 (by omega)
  obtain ⟨w1, hw1⟩ : ∃ w1, w.alloc (.cells #[.int .i64 0, .slice none 0 0, .slice none 0 0] 29) = w1 := ⟨_, rfl⟩
  have hb1 : Below w.heap.size w w1 := by rw [← hw1]; exact (Below.refl _ _).alloc (Nat.le_refl _) _
  have n1 : w1.heap[w.heap.size]? = some (.cells #[.int .i64 0, .slice none 0 0, .slice none 0 0] 29 (0, 0)) := by rw [← hw1]; exact heap_alloc_new w _
  obtain ⟨wd, hwd⟩ : ∃ wd, w1.drew = wd := ⟨_, rfl⟩
  have hbd : Below w1.heap.size w1 wd := by rw [← hwd]; exact (Below.refl _ _).drew
  have nd := (hbd.block _ (heap_lt1 n1)).trans n1
  have hBd := hb1.trans (hbd.mono hb1.size)
  have HBD := Lib.hid hBd
  have hR := (hr.more hB).below hBd
  have HR := Lib.hid hR
  have HRS := Lib.hid ((hR.more hBd.size).sub 0 8 (by omega))
  rw [List.drop_zero, Nat.add_zero] at HRS
  have HBG := Lib.hid (rbegin_any wd)
  obtain ⟨T, hT⟩ : ∃ T, strB markB = T := ⟨_, rfl⟩
  rw [hm] at HRS
  have HT := Lib.hid hT
  have gT : (T.toList != T.toList) = false := str_self T
  have HR0 := Lib.hid (hr.more hB)
  have HSU := Lib.hid (fun V (hV : Below w.heap.size w V) => rsummed_any V (some ⟨g, off, none⟩) n c w.heap.size b 0 24 ((hr.more hB).below hV) hV.size hnc hc hn (by omega) (by omega) true hys)
  have HNA := Lib.hid (fun V (hV : Below w.heap.size w V) => refNum_any (some ⟨g, off + 8, none⟩) 8 (c - 8) w.heap.size ((b.drop 8).take 8) V (((hr.more hB).sub 8 8 (by omega)).below hV) (Nat.le_refl _))
  have HNB := Lib.hid (fun V (hV : Below w.heap.size w V) => refNum_any (some ⟨g, off + 16, none⟩) 8 (c - 16) w.heap.size ((b.drop 16).take 8) V (((hr.more hB).sub 16 8 (by omega)).below hV) (Nat.le_refl _))
  have hNl : N < 18446744073709551616 := by rw [← hN]; exact numB_lt64 _ (List.length_take_le _ _)
  have hKl : K < 18446744073709551616 := by rw [← hK]; exact numB_lt64 _ (List.length_take_le _ _)
  unfold lenN at hN
  unfold cntN at hK
  rw [hN] at HNA
  rw [hK] at HNB
  have HW1 := Lib.hid hw1
  have HWD := Lib.hid hwd
  have HND := Lib.hid nd
  have g1 : decide (n < 28) = false := decide_eq_false (by omega)
  have g3 : (8 : Int) ≤ (c : Int) := by omega
  have g4 : (16 : Int) ≤ (c : Int) := by omega
  have g5 : (24 : Int) ≤ (c : Int) := by omega
  have g6 : decide (N < 184) = false := decide_eq_false (by omega)
  have g6' : decide ((N : Int) < (184 : Int)) = false := decide_eq_false (by omega)
  have g7 : decide (16384 < N) = true := decide_eq_true (by omega)
  have g7' : decide ((16384 : Int) < (N : Int)) = true := decide_eq_true (by omega)
  clear hr hw1 hb1 n1 hwd hbd nd hBd hR hT hys hN hK hm hB h1
  go_enter Try.func15, Try.ntmps15
  go_wp2_with (first | (rw [HW1.out]) | fail)
  refine wp_region_tail wd.heap.size [([0, 1, 2], 3)] [4, 5] [] (by kernel_rfl) (by kernel_rfl) (by kernel_rfl) (fun _ _ _ _ _ h => h) ?_
  rw [HWD.out]
  have q0 : ∀ z : LaterB wd.heap.size wd, (convert 31 9 (.slice (some ⟨g, off, none⟩) 8 c)).run Try.prog z.val = .ok (.string T) z.val := fun z => by rw [← HT.out]; exact conv_rd (HRS.out.below z.ext)
  refine tail_cons (l := ?segA) ?hsegA ?_
  case hsegA => simp only [pick, List.getElem?_toArray, List.getElem?_cons_succ, List.getElem?_cons_zero]; rfl
  repeat (go_big_quiet_step (fail))
  refine wpQuiet_nil ?_
  clear q0
  refine tail_call2 (vs := #[]) Try.call26 rfl rfl rfl (R := fun r w' => ∃ A c, r = .slice A 8 c ∧ w'.ownsRow wd.heap.size 5 1 (.slice A 8 c) 8 (markB.map bv) ∧ Below wd.heap.size wd w') (HBG.out.mono ?_) ?_
  · rintro e w' ⟨A, c, rfl, _, ho, hb⟩
    exact ⟨_, rfl, hb, A, c, rfl, ho, hb⟩
  rintro r w8 _ ⟨A8, c8, rfl, ho8, hb8⟩
  have HR8 := Lib.hid (own_reads ho8)
  have HB8 := Lib.hid (HBD.out.trans (hb8.mono HBD.out.size))
  have HN8 := Lib.hid ((hb8.block _ (heap_lt1 HND.out)).trans HND.out)
  refine ⟨w8.heap.size, hb8.size, ?_⟩
  clear ho8 hb8
  simp only [Act.put, List.setIfInBounds_toArray, List.set_cons_zero, List.set_cons_succ]
  have q4 : ∀ z : LaterB w8.heap.size w8, (convert 31 9 (.slice A8 8 c8)).run Try.prog z.val = .ok (.string T) z.val := fun z => by rw [← HT.out]; exact conv_rd (HR8.out.below z.ext)
  refine tail_last (l := ?lastB) (t := []) ?hlastB ?htlastB ?_
  case hlastB => simp only [pick, List.getElem?_toArray, List.getElem?_cons_succ, List.getElem?_cons_zero]; rfl
  case htlastB => rfl
  repeat (go_big_quiet_step (fail))
  refine wpQuiet_nil ?_
  clear q4
  go_wp2_with fail
  refine (HSU.out w8 HB8.out).mono ?_
  rintro e w9 ⟨rfl, hb9⟩
  have HN9 := Lib.hid ((hb9.block _ (heap_lt1 HN8.out)).trans HN8.out)
  have HB9 := Lib.hid (HB8.out.trans (hb9.mono HB8.out.size))
  clear hb9
  go_wp2_with fail
  refine (HNA.out w9 HB9.out).mono ?_
  rintro e wq ⟨rfl, rfl⟩
  go_wp2_with fail
  refine (HNB.out w9 HB9.out).mono ?_
  rintro e wq ⟨rfl, rfl⟩
  have n9 := HN9.out
  have hl9 := heap_lt1 n9
  obtain ⟨f0, f1, f2⟩ := im_thaw n9
  obtain ⟨z0, z1, z2⟩ := rk_cells n9
  have HM := Lib.hid (im_set n9 (.int .i64 0) (.slice none 0 0) (.slice none 0 0))
  have HF := Lib.hid (((HB9.out.setCell (p := ⟨w.heap.size, 0, none⟩) (Nat.le_refl _) (.int .i64 0)).setCell (p := ⟨w.heap.size, 1, none⟩) (Nat.le_refl _) (.slice none 0 0)).setCell (p := ⟨w.heap.size, 2, none⟩) (Nat.le_refl _) (.slice none 0 0))
  clear n9
  go_wp2
  (try simp only [Exit.inBlock, Exit.then])
  refine rim_ret (g := w.heap.size) (x := .int .i64 3) Try.results15 ?_ ?_ ?_ HM.out ?_
  · rfl
  · rfl
  · rfl
  · exact ⟨rfl, HF.out⟩
set_option maxRecDepth 100000 in
set_option maxHeartbeats 1000000 in
theorem rget_n3 (w : World) (A : Option Addr) (n c B : Nat) (b : List UInt8) (hr : Rd w B A n b) (hB : B ≤ w.heap.size) (hnc : n ≤ c) (hc : c ≤ 9223372036854775807) (hn : n ≤ 900000) (h28 : 28 ≤ n) (hm : b.take 8 = markB) (hys : sumAt b 0 24 = true) (N K : Nat) (hN : lenN b = N) (hK : cntN b = K) (h0 : 184 ≤ N) (h1 : N ≤ 16384) (h2 : N % 16 ≠ 8) :
    Calls Try.prog 15 #[.slice A n c] w fun e w' => e = .returned (.tuple #[.agg #[.int .i64 0, .slice none 0 0, .slice none 0 0], .int .i64 3]) ∧ Below w.heap.size w w' := by
  obtain ⟨g, off, rfl, _⟩ := hr.2 (by omega)
  obtain ⟨w1, hw1⟩ : ∃ w1, w.alloc (.cells #[.int .i64 0, .slice none 0 0, .slice none 0 0] 29) = w1 := ⟨_, rfl⟩
  have hb1 : Below w.heap.size w w1 := by rw [← hw1]; exact (Below.refl _ _).alloc (Nat.le_refl _) _
  have n1 : w1.heap[w.heap.size]? = some (.cells #[.int .i64 0, .slice none 0 0, .slice none 0 0] 29 (0, 0)) := by rw [← hw1]; exact heap_alloc_new w _
  obtain ⟨wd, hwd⟩ : ∃ wd, w1.drew = wd := ⟨_, rfl⟩
  have hbd : Below w1.heap.size w1 wd := by rw [← hwd]; exact (Below.refl _ _).drew
  have nd := (hbd.block _ (heap_lt1 n1)).trans n1
  have hBd := hb1.trans (hbd.mono hb1.size)
  have HBD := Lib.hid hBd
  have hR := (hr.more hB).below hBd
  have HR := Lib.hid hR
  have HRS := Lib.hid ((hR.more hBd.size).sub 0 8 (by omega))
  rw [List.drop_zero, Nat.add_zero] at HRS
  have HBG := Lib.hid (rbegin_any wd)
  obtain ⟨T, hT⟩ : ∃ T, strB markB = T := ⟨_, rfl⟩
  rw [hm] at HRS
  have HT := Lib.hid hT
  have gT : (T.toList != T.toList) = false := str_self T
  have HR0 := Lib.hid (hr.more hB)
  have HSU := Lib.hid (fun V (hV : Below w.heap.size w V) => rsummed_any V (some ⟨g, off, none⟩) n c w.heap.size b 0 24 ((hr.more hB).below hV) hV.size hnc hc hn (by omega) (by omega) true hys)
  have HNA := Lib.hid (fun V (hV : Below w.heap.size w V) => refNum_any (some ⟨g, off + 8, none⟩) 8 (c - 8) w.heap.size ((b.drop 8).take 8) V (((hr.more hB).sub 8 8 (by omega)).below hV) (Nat.le_refl _))
  have HNB := Lib.hid (fun V (hV : Below w.heap.size w V) => refNum_any (some ⟨g, off + 16, none⟩) 8 (c - 16) w.heap.size ((b.drop 16).take 8) V (((hr.more hB).sub 16 8 (by omega)).below hV) (Nat.le_refl _))
  have hNl : N < 18446744073709551616 := by rw [← hN]; exact numB_lt64 _ (List.length_take_le _ _)
  have hKl : K < 18446744073709551616 := by rw [← hK]; exact numB_lt64 _ (List.length_take_le _ _)
  unfold lenN at hN
  unfold cntN at hK
  rw [hN] at HNA
  rw [hK] at HNB
  have HW1 := Lib.hid hw1
  have HWD := Lib.hid hwd
  have HND := Lib.hid nd
  have g1 : decide (n < 28) = false := decide_eq_false (by omega)
  have g3 : (8 : Int) ≤ (c : Int) := by omega
  have g4 : (16 : Int) ≤ (c : Int) := by omega
  have g5 : (24 : Int) ≤ (c : Int) := by omega
  have g6 : decide (N < 184) = false := decide_eq_false (by omega)
  have g6' : decide ((N : Int) < (184 : Int)) = false := decide_eq_false (by omega)
  have g7 : decide (16384 < N) = false := decide_eq_false (by omega)
  have g7' : decide ((16384 : Int) < (N : Int)) = false := decide_eq_false (by omega)
  have g8 : ((N : Int) % 16 != 8) = true := by rw [bne_iff_ne]; omega
  have g8' : (N % 16 != 8) = true := by rw [bne_iff_ne]; omega
  clear hr hw1 hb1 n1 hwd hbd nd hBd hR hT hys hN hK hm hB h2
  go_enter Try.func15, Try.ntmps15
  go_wp2_with (first | (rw [HW1.out]) | fail)
  refine wp_region_tail wd.heap.size [([0, 1, 2], 3)] [4, 5] [] (by kernel_rfl) (by kernel_rfl) (by kernel_rfl) (fun _ _ _ _ _ h => h) ?_
  rw [HWD.out]
  have q0 : ∀ z : LaterB wd.heap.size wd, (convert 31 9 (.slice (some ⟨g, off, none⟩) 8 c)).run Try.prog z.val = .ok (.string T) z.val := fun z => by rw [← HT.out]; exact conv_rd (HRS.out.below z.ext)
  refine tail_cons (l := ?segA) ?hsegA ?_
  case hsegA => simp only [pick, List.getElem?_toArray, List.getElem?_cons_succ, List.getElem?_cons_zero]; rfl
  repeat (go_big_quiet_step (fail))
  refine wpQuiet_nil ?_
  clear q0
  refine tail_call2 (vs := #[]) Try.call26 rfl rfl rfl (R := fun r w' => ∃ A c, r = .slice A 8 c ∧ w'.ownsRow wd.heap.size 5 1 (.slice A 8 c) 8 (markB.map bv) ∧ Below wd.heap.size wd w') (HBG.out.mono ?_) ?_
  · rintro e w' ⟨A, c, rfl, _, ho, hb⟩
    exact ⟨_, rfl, hb, A, c, rfl, ho, hb⟩
  rintro r w8 _ ⟨A8, c8, rfl, ho8, hb8⟩
  have HR8 := Lib.hid (own_reads ho8)
  have HB8 := Lib.hid (HBD.out.trans (hb8.mono HBD.out.size))
  have HN8 := Lib.hid ((hb8.block _ (heap_lt1 HND.out)).trans HND.out)
  refine ⟨w8.heap.size, hb8.size, ?_⟩
  clear ho8 hb8
  simp only [Act.put, List.setIfInBounds_toArray, List.set_cons_zero, List.set_cons_succ]
  have q4 : ∀ z : LaterB w8.heap.size w8, (convert 31 9 (.slice A8 8 c8)).run Try.prog z.val = .ok (.string T) z.val := fun z => by rw [← HT.out]; exact conv_rd (HR8.out.below z.ext)
  refine tail_last (l := ?lastB) (t := []) ?hlastB ?htlastB ?_
  case hlastB => simp only [pick, List.getElem?_toArray, List.getElem?_cons_succ, List.getElem?_cons_zero]; rfl
  case htlastB => rfl
  repeat (go_big_quiet_step (fail))
  refine wpQuiet_nil ?_
  clear q4
  go_wp2_with fail
  refine (HSU.out w8 HB8.out).mono ?_
  rintro e w9 ⟨rfl, hb9⟩
  have HN9 := Lib.hid ((hb9.block _ (heap_lt1 HN8.out)).trans HN8.out)
  have HB9 := Lib.hid (HB8.out.trans (hb9.mono HB8.out.size))
  clear hb9
  go_wp2_with fail
  refine (HNA.out w9 HB9.out).mono ?_
  rintro e wq ⟨rfl, rfl⟩
  go_wp2_with fail
  refine (HNB.out w9 HB9.out).mono ?_
  rintro e wq ⟨rfl, rfl⟩
  have n9 := HN9.out
  have hl9 := heap_lt1 n9
  obtain ⟨f0, f1, f2⟩ := im_thaw n9
  obtain ⟨z0, z1, z2⟩ := rk_cells n9
  have HM := Lib.hid (im_set n9 (.int .i64 0) (.slice none 0 0) (.slice none 0 0))
  have HF := Lib.hid (((HB9.out.setCell (p := ⟨w.heap.size, 0, none⟩) (Nat.le_refl _) (.int .i64 0)).setCell (p := ⟨w.heap.size, 1, none⟩) (Nat.le_refl _) (.slice none 0 0)).setCell (p := ⟨w.heap.size, 2, none⟩) (Nat.le_refl _) (.slice none 0 0))
  clear n9
  go_wp2
  (try simp only [Exit.inBlock, Exit.then])
  refine rim_ret (g := w.heap.size) (x := .int .i64 3) Try.results15 ?_ ?_ ?_ HM.out ?_
  · rfl
  · rfl
  · rfl
  · exact ⟨rfl, HF.out⟩
set_option maxRecDepth 100000 in
set_option maxHeartbeats 1000000 in
theorem rget_n4 (w : World) (A : Option Addr) (n c B : Nat) (b : List UInt8) (hr : Rd w B A n b) (hB : B ≤ w.heap.size) (hnc : n ≤ c) (hc : c ≤ 9223372036854775807) (hn : n ≤ 900000) (h28 : 28 ≤ n) (hm : b.take 8 = markB) (hys : sumAt b 0 24 = true) (N K : Nat) (hN : lenN b = N) (hK : cntN b = K) (h0 : 184 ≤ N) (h1 : N ≤ 16384) (h2 : N % 16 = 8) (h3 : 1024 < K) :
    Calls Try.prog 15 #[.slice A n c] w fun e w' => e = .returned (.tuple #[.agg #[.int .i64 0, .slice none 0 0, .slice none 0 0], .int .i64 3]) ∧ Below w.heap.size w w' := by
  obtain ⟨g, off, rfl, _⟩ := hr.2 (by omega)
  obtain ⟨w1, hw1⟩ : ∃ w1, w.alloc (.cells #[.int .i64 0, .slice none 0 0, .slice none 0 0] 29) = w1 := ⟨_, rfl⟩
  have hb1 : Below w.heap.size w w1 := by rw [← hw1]; exact (Below.refl _ _).alloc (Nat.le_refl _) _
  have n1 : w1.heap[w.heap.size]? = some (.cells #[.int .i64 0, .slice none 0 0, .slice none 0 0] 29 (0, 0)) := by rw [← hw1]; exact heap_alloc_new w _
  obtain ⟨wd, hwd⟩ : ∃ wd, w1.drew = wd := ⟨_, rfl⟩
  have hbd : Below w1.heap.size w1 wd := by rw [← hwd]; exact (Below.refl _ _).drew
  have nd := (hbd.block _ (heap_lt1 n1)).trans n1
  have hBd := hb1.trans (hbd.mono hb1.size)
  have HBD := Lib.hid hBd
  have hR := (hr.more hB).below hBd
  have HR := Lib.hid hR
  have HRS := Lib.hid ((hR.more hBd.size).sub 0 8 (by omega))
  rw [List.drop_zero, Nat.add_zero] at HRS
  have HBG := Lib.hid (rbegin_any wd)
  obtain ⟨T, hT⟩ : ∃ T, strB markB = T := ⟨_, rfl⟩
  rw [hm] at HRS
  have HT := Lib.hid hT
  have gT : (T.toList != T.toList) = false := str_self T
  have HR0 := Lib.hid (hr.more hB)
  have HSU := Lib.hid (fun V (hV : Below w.heap.size w V) => rsummed_any V (some ⟨g, off, none⟩) n c w.heap.size b 0 24 ((hr.more hB).below hV) hV.size hnc hc hn (by omega) (by omega) true hys)
  have HNA := Lib.hid (fun V (hV : Below w.heap.size w V) => refNum_any (some ⟨g, off + 8, none⟩) 8 (c - 8) w.heap.size ((b.drop 8).take 8) V (((hr.more hB).sub 8 8 (by omega)).below hV) (Nat.le_refl _))
  have HNB := Lib.hid (fun V (hV : Below w.heap.size w V) => refNum_any (some ⟨g, off + 16, none⟩) 8 (c - 16) w.heap.size ((b.drop 16).take 8) V (((hr.more hB).sub 16 8 (by omega)).below hV) (Nat.le_refl _))
  have hNl : N < 18446744073709551616 := by rw [← hN]; exact numB_lt64 _ (List.length_take_le _ _)
  have hKl : K < 18446744073709551616 := by rw [← hK]; exact numB_lt64 _ (List.length_take_le _ _)
  unfold lenN at hN
  unfold cntN at hK
  rw [hN] at HNA
  rw [hK] at HNB
  have HW1 := Lib.hid hw1
  have HWD := Lib.hid hwd
  have HND := Lib.hid nd
  have g1 : decide (n < 28) = false := decide_eq_false (by omega)
  have g3 : (8 : Int) ≤ (c : Int) := by omega
  have g4 : (16 : Int) ≤ (c : Int) := by omega
  have g5 : (24 : Int) ≤ (c : Int) := by omega
  have g6 : decide (N < 184) = false := decide_eq_false (by omega)
  have g6' : decide ((N : Int) < (184 : Int)) = false := decide_eq_false (by omega)
  have g7 : decide (16384 < N) = false := decide_eq_false (by omega)
  have g7' : decide ((16384 : Int) < (N : Int)) = false := decide_eq_false (by omega)
  have g8 : ((N : Int) % 16 != 8) = false := by rw [bne_eq_false_iff_eq]; omega
  have g8' : (N % 16 != 8) = false := by rw [bne_eq_false_iff_eq]; omega
  have g9 : decide (1024 < K) = true := decide_eq_true (by omega)
  have g9' : decide ((1024 : Int) < (K : Int)) = true := decide_eq_true (by omega)
  clear hr hw1 hb1 n1 hwd hbd nd hBd hR hT hys hN hK hm hB h2
  go_enter Try.func15, Try.ntmps15
  go_wp2_with (first | (rw [HW1.out]) | fail)
  refine wp_region_tail wd.heap.size [([0, 1, 2], 3)] [4, 5] [] (by kernel_rfl) (by kernel_rfl) (by kernel_rfl) (fun _ _ _ _ _ h => h) ?_
  rw [HWD.out]
  have q0 : ∀ z : LaterB wd.heap.size wd, (convert 31 9 (.slice (some ⟨g, off, none⟩) 8 c)).run Try.prog z.val = .ok (.string T) z.val := fun z => by rw [← HT.out]; exact conv_rd (HRS.out.below z.ext)
  refine tail_cons (l := ?segA) ?hsegA ?_
  case hsegA => simp only [pick, List.getElem?_toArray, List.getElem?_cons_succ, List.getElem?_cons_zero]; rfl
  repeat (go_big_quiet_step (fail))
  refine wpQuiet_nil ?_
  clear q0
  refine tail_call2 (vs := #[]) Try.call26 rfl rfl rfl (R := fun r w' => ∃ A c, r = .slice A 8 c ∧ w'.ownsRow wd.heap.size 5 1 (.slice A 8 c) 8 (markB.map bv) ∧ Below wd.heap.size wd w') (HBG.out.mono ?_) ?_
  · rintro e w' ⟨A, c, rfl, _, ho, hb⟩
    exact ⟨_, rfl, hb, A, c, rfl, ho, hb⟩
  rintro r w8 _ ⟨A8, c8, rfl, ho8, hb8⟩
  have HR8 := Lib.hid (own_reads ho8)
  have HB8 := Lib.hid (HBD.out.trans (hb8.mono HBD.out.size))
  have HN8 := Lib.hid ((hb8.block _ (heap_lt1 HND.out)).trans HND.out)
  refine ⟨w8.heap.size, hb8.size, ?_⟩
  clear ho8 hb8
  simp only [Act.put, List.setIfInBounds_toArray, List.set_cons_zero, List.set_cons_succ]
  have q4 : ∀ z : LaterB w8.heap.size w8, (convert 31 9 (.slice A8 8 c8)).run Try.prog z.val = .ok (.string T) z.val := fun z => by rw [← HT.out]; exact conv_rd (HR8.out.below z.ext)
  refine tail_last (l := ?lastB) (t := []) ?hlastB ?htlastB ?_
  case hlastB => simp only [pick, List.getElem?_toArray, List.getElem?_cons_succ, List.getElem?_cons_zero]; rfl
  case htlastB => rfl
  repeat (go_big_quiet_step (fail))
  refine wpQuiet_nil ?_
  clear q4
  go_wp2_with fail
  refine (HSU.out w8 HB8.out).mono ?_
  rintro e w9 ⟨rfl, hb9⟩
  have HN9 := Lib.hid ((hb9.block _ (heap_lt1 HN8.out)).trans HN8.out)
  have HB9 := Lib.hid (HB8.out.trans (hb9.mono HB8.out.size))
  clear hb9
  go_wp2_with fail
  refine (HNA.out w9 HB9.out).mono ?_
  rintro e wq ⟨rfl, rfl⟩
  go_wp2_with fail
  refine (HNB.out w9 HB9.out).mono ?_
  rintro e wq ⟨rfl, rfl⟩
  have n9 := HN9.out
  have hl9 := heap_lt1 n9
  obtain ⟨f0, f1, f2⟩ := im_thaw n9
  obtain ⟨z0, z1, z2⟩ := rk_cells n9
  have HM := Lib.hid (im_set n9 (.int .i64 0) (.slice none 0 0) (.slice none 0 0))
  have HF := Lib.hid (((HB9.out.setCell (p := ⟨w.heap.size, 0, none⟩) (Nat.le_refl _) (.int .i64 0)).setCell (p := ⟨w.heap.size, 1, none⟩) (Nat.le_refl _) (.slice none 0 0)).setCell (p := ⟨w.heap.size, 2, none⟩) (Nat.le_refl _) (.slice none 0 0))
  clear n9
  go_wp2
  (try simp only [Exit.inBlock, Exit.then])
  refine rim_ret (g := w.heap.size) (x := .int .i64 3) Try.results15 ?_ ?_ ?_ HM.out ?_
  · rfl
  · rfl
  · rfl
  · exact ⟨rfl, HF.out⟩
set_option maxRecDepth 100000 in
set_option maxHeartbeats 1000000 in
theorem rget_n5 (w : World) (A : Option Addr) (n c B : Nat) (b : List UInt8) (hr : Rd w B A n b) (hB : B ≤ w.heap.size) (hnc : n ≤ c) (hc : c ≤ 9223372036854775807) (hn : n ≤ 900000) (h28 : 28 ≤ n) (hm : b.take 8 = markB) (hys : sumAt b 0 24 = true) (N K : Nat) (hN : lenN b = N) (hK : cntN b = K) (h0 : 184 ≤ N) (h1 : N ≤ 16384) (h2 : N % 16 = 8) (h3 : K ≤ 1024) (h4 : n < 32 + 8 * K) :
    Calls Try.prog 15 #[.slice A n c] w fun e w' => e = .returned (.tuple #[.agg #[.int .i64 0, .slice none 0 0, .slice none 0 0], .int .i64 3]) ∧ Below w.heap.size w w' := by
  obtain ⟨g, off, rfl, _⟩ := hr.2 (by omega)
  obtain ⟨w1, hw1⟩ : ∃ w1, w.alloc (.cells #[.int .i64 0, .slice none 0 0, .slice none 0 0] 29) = w1 := ⟨_, rfl⟩
  have hb1 : Below w.heap.size w w1 := by rw [← hw1]; exact (Below.refl _ _).alloc (Nat.le_refl _) _
  have n1 : w1.heap[w.heap.size]? = some (.cells #[.int .i64 0, .slice none 0 0, .slice none 0 0] 29 (0, 0)) := by rw [← hw1]; exact heap_alloc_new w _
  obtain ⟨wd, hwd⟩ : ∃ wd, w1.drew = wd := ⟨_, rfl⟩
  have hbd : Below w1.heap.size w1 wd := by rw [← hwd]; exact (Below.refl _ _).drew
  have nd := (hbd.block _ (heap_lt1 n1)).trans n1
  have hBd := hb1.trans (hbd.mono hb1.size)
  have HBD := Lib.hid hBd
  have hR := (hr.more hB).below hBd
  have HR := Lib.hid hR
  have HRS := Lib.hid ((hR.more hBd.size).sub 0 8 (by omega))
  rw [List.drop_zero, Nat.add_zero] at HRS
  have HBG := Lib.hid (rbegin_any wd)
  obtain ⟨T, hT⟩ : ∃ T, strB markB = T := ⟨_, rfl⟩
  rw [hm] at HRS
  have HT := Lib.hid hT
  have gT : (T.toList != T.toList) = false := str_self T
  have HR0 := Lib.hid (hr.more hB)
  have HSU := Lib.hid (fun V (hV : Below w.heap.size w V) => rsummed_any V (some ⟨g, off, none⟩) n c w.heap.size b 0 24 ((hr.more hB).below hV) hV.size hnc hc hn (by omega) (by omega) true hys)
  have HNA := Lib.hid (fun V (hV : Below w.heap.size w V) => refNum_any (some ⟨g, off + 8, none⟩) 8 (c - 8) w.heap.size ((b.drop 8).take 8) V (((hr.more hB).sub 8 8 (by omega)).below hV) (Nat.le_refl _))
  have HNB := Lib.hid (fun V (hV : Below w.heap.size w V) => refNum_any (some ⟨g, off + 16, none⟩) 8 (c - 16) w.heap.size ((b.drop 16).take 8) V (((hr.more hB).sub 16 8 (by omega)).below hV) (Nat.le_refl _))
  have hNl : N < 18446744073709551616 := by rw [← hN]; exact numB_lt64 _ (List.length_take_le _ _)
  have hKl : K < 18446744073709551616 := by rw [← hK]; exact numB_lt64 _ (List.length_take_le _ _)
  unfold lenN at hN
  unfold cntN at hK
  rw [hN] at HNA
  rw [hK] at HNB
  have HW1 := Lib.hid hw1
  have HWD := Lib.hid hwd
  have HND := Lib.hid nd
  have g1 : decide (n < 28) = false := decide_eq_false (by omega)
  have g3 : (8 : Int) ≤ (c : Int) := by omega
  have g4 : (16 : Int) ≤ (c : Int) := by omega
  have g5 : (24 : Int) ≤ (c : Int) := by omega
  have g6 : decide (N < 184) = false := decide_eq_false (by omega)
  have g6' : decide ((N : Int) < (184 : Int)) = false := decide_eq_false (by omega)
  have g7 : decide (16384 < N) = false := decide_eq_false (by omega)
  have g7' : decide ((16384 : Int) < (N : Int)) = false := decide_eq_false (by omega)
  have g8 : ((N : Int) % 16 != 8) = false := by rw [bne_eq_false_iff_eq]; omega
  have g8' : (N % 16 != 8) = false := by rw [bne_eq_false_iff_eq]; omega
  have g9 : decide (1024 < K) = false := decide_eq_false (by omega)
  have g9' : decide ((1024 : Int) < (K : Int)) = false := decide_eq_false (by omega)
  have gm : min (K : Int) 1024 = (K : Int) := by omega
  have ga : decide (n < 28 + 8 * K + 4) = true := decide_eq_true (by omega)
  have ga' : decide ((n : Int) < (28 + 8 * K + 4 : Int)) = true := decide_eq_true (by omega)
  clear hr hw1 hb1 n1 hwd hbd nd hBd hR hT hys hN hK hm hB h2
  go_enter Try.func15, Try.ntmps15
  go_wp2_with (first | (rw [HW1.out]) | fail)
  refine wp_region_tail wd.heap.size [([0, 1, 2], 3)] [4, 5] [] (by kernel_rfl) (by kernel_rfl) (by kernel_rfl) (fun _ _ _ _ _ h => h) ?_
  rw [HWD.out]
  have q0 : ∀ z : LaterB wd.heap.size wd, (convert 31 9 (.slice (some ⟨g, off, none⟩) 8 c)).run Try.prog z.val = .ok (.string T) z.val := fun z => by rw [← HT.out]; exact conv_rd (HRS.out.below z.ext)
  refine tail_cons (l := ?segA) ?hsegA ?_
  case hsegA => simp only [pick, List.getElem?_toArray, List.getElem?_cons_succ, List.getElem?_cons_zero]; rfl
  repeat (go_big_quiet_step (fail))
  refine wpQuiet_nil ?_
  clear q0
  refine tail_call2 (vs := #[]) Try.call26 rfl rfl rfl (R := fun r w' => ∃ A c, r = .slice A 8 c ∧ w'.ownsRow wd.heap.size 5 1 (.slice A 8 c) 8 (markB.map bv) ∧ Below wd.heap.size wd w') (HBG.out.mono ?_) ?_
  · rintro e w' ⟨A, c, rfl, _, ho, hb⟩
    exact ⟨_, rfl, hb, A, c, rfl, ho, hb⟩
  rintro r w8 _ ⟨A8, c8, rfl, ho8, hb8⟩
  have HR8 := Lib.hid (own_reads ho8)
  have HB8 := Lib.hid (HBD.out.trans (hb8.mono HBD.out.size))
  have HN8 := Lib.hid ((hb8.block _ (heap_lt1 HND.out)).trans HND.out)
  refine ⟨w8.heap.size, hb8.size, ?_⟩
  clear ho8 hb8
  simp only [Act.put, List.setIfInBounds_toArray, List.set_cons_zero, List.set_cons_succ]
  have q4 : ∀ z : LaterB w8.heap.size w8, (convert 31 9 (.slice A8 8 c8)).run Try.prog z.val = .ok (.string T) z.val := fun z => by rw [← HT.out]; exact conv_rd (HR8.out.below z.ext)
  refine tail_last (l := ?lastB) (t := []) ?hlastB ?htlastB ?_
  case hlastB => simp only [pick, List.getElem?_toArray, List.getElem?_cons_succ, List.getElem?_cons_zero]; rfl
  case htlastB => rfl
  repeat (go_big_quiet_step (fail))
  refine wpQuiet_nil ?_
  clear q4
  go_wp2_with fail
  refine (HSU.out w8 HB8.out).mono ?_
  rintro e w9 ⟨rfl, hb9⟩
  have HN9 := Lib.hid ((hb9.block _ (heap_lt1 HN8.out)).trans HN8.out)
  have HB9 := Lib.hid (HB8.out.trans (hb9.mono HB8.out.size))
  clear hb9
  go_wp2_with fail
  refine (HNA.out w9 HB9.out).mono ?_
  rintro e wq ⟨rfl, rfl⟩
  go_wp2_with fail
  refine (HNB.out w9 HB9.out).mono ?_
  rintro e wq ⟨rfl, rfl⟩
  have n9 := HN9.out
  have hl9 := heap_lt1 n9
  obtain ⟨f0, f1, f2⟩ := im_thaw n9
  obtain ⟨z0, z1, z2⟩ := rk_cells n9
  have HM := Lib.hid (im_set n9 (.int .i64 0) (.slice none 0 0) (.slice none 0 0))
  have HF := Lib.hid (((HB9.out.setCell (p := ⟨w.heap.size, 0, none⟩) (Nat.le_refl _) (.int .i64 0)).setCell (p := ⟨w.heap.size, 1, none⟩) (Nat.le_refl _) (.slice none 0 0)).setCell (p := ⟨w.heap.size, 2, none⟩) (Nat.le_refl _) (.slice none 0 0))
  clear n9
  go_wp2
  (try simp only [Exit.inBlock, Exit.then])
  refine rim_ret (g := w.heap.size) (x := .int .i64 3) Try.results15 ?_ ?_ ?_ HM.out ?_
  · rfl
  · rfl
  · rfl
  · exact ⟨rfl, HF.out⟩
set_option maxRecDepth 100000 in
set_option maxHeartbeats 1000000 in
theorem rget_tags (w : World) (A : Option Addr) (n c B : Nat) (b : List UInt8) (hr : Rd w B A n b) (hB : B ≤ w.heap.size) (hnc : n ≤ c) (hc : c ≤ 9223372036854775807) (hn : n ≤ 900000) (h28 : 28 ≤ n) (hm : b.take 8 = markB) (hys : sumAt b 0 24 = true) (N K : Nat) (hN : lenN b = N) (hK : cntN b = K) (h0 : 184 ≤ N) (h1 : N ≤ 16384) (h2 : N % 16 = 8) (h3 : K ≤ 1024) (h4 : 32 + 8 * K ≤ n) (hst : sumAt b 28 (28 + 8 * K) = false) :
    Calls Try.prog 15 #[.slice A n c] w fun e w' => e = .returned (.tuple #[.agg #[.int .i64 0, .slice none 0 0, .slice none 0 0], .int .i64 9]) ∧ Below w.heap.size w w' := by
  obtain ⟨g, off, rfl, _⟩ := hr.2 (by omega)
  obtain ⟨w1, hw1⟩ : ∃ w1, w.alloc (.cells #[.int .i64 0, .slice none 0 0, .slice none 0 0] 29) = w1 := ⟨_, rfl⟩
  have hb1 : Below w.heap.size w w1 := by rw [← hw1]; exact (Below.refl _ _).alloc (Nat.le_refl _) _
  have n1 : w1.heap[w.heap.size]? = some (.cells #[.int .i64 0, .slice none 0 0, .slice none 0 0] 29 (0, 0)) := by rw [← hw1]; exact heap_alloc_new w _
  obtain ⟨wd, hwd⟩ : ∃ wd, w1.drew = wd := ⟨_, rfl⟩
  have hbd : Below w1.heap.size w1 wd := by rw [← hwd]; exact (Below.refl _ _).drew
  have nd := (hbd.block _ (heap_lt1 n1)).trans n1
  have hBd := hb1.trans (hbd.mono hb1.size)
  have HBD := Lib.hid hBd
  have hR := (hr.more hB).below hBd
  have HR := Lib.hid hR
  have HRS := Lib.hid ((hR.more hBd.size).sub 0 8 (by omega))
  rw [List.drop_zero, Nat.add_zero] at HRS
  have HBG := Lib.hid (rbegin_any wd)
  obtain ⟨T, hT⟩ : ∃ T, strB markB = T := ⟨_, rfl⟩
  rw [hm] at HRS
  have HT := Lib.hid hT
  have gT : (T.toList != T.toList) = false := str_self T
  have HR0 := Lib.hid (hr.more hB)
  have HSU := Lib.hid (fun V (hV : Below w.heap.size w V) => rsummed_any V (some ⟨g, off, none⟩) n c w.heap.size b 0 24 ((hr.more hB).below hV) hV.size hnc hc hn (by omega) (by omega) true hys)
  have HNA := Lib.hid (fun V (hV : Below w.heap.size w V) => refNum_any (some ⟨g, off + 8, none⟩) 8 (c - 8) w.heap.size ((b.drop 8).take 8) V (((hr.more hB).sub 8 8 (by omega)).below hV) (Nat.le_refl _))
  have HNB := Lib.hid (fun V (hV : Below w.heap.size w V) => refNum_any (some ⟨g, off + 16, none⟩) 8 (c - 16) w.heap.size ((b.drop 16).take 8) V (((hr.more hB).sub 16 8 (by omega)).below hV) (Nat.le_refl _))
  have hNl : N < 18446744073709551616 := by rw [← hN]; exact numB_lt64 _ (List.length_take_le _ _)
  have hKl : K < 18446744073709551616 := by rw [← hK]; exact numB_lt64 _ (List.length_take_le _ _)
  unfold lenN at hN
  unfold cntN at hK
  rw [hN] at HNA
  rw [hK] at HNB
  have HW1 := Lib.hid hw1
  have HWD := Lib.hid hwd
  have HND := Lib.hid nd
  have g1 : decide (n < 28) = false := decide_eq_false (by omega)
  have g3 : (8 : Int) ≤ (c : Int) := by omega
  have g4 : (16 : Int) ≤ (c : Int) := by omega
  have g5 : (24 : Int) ≤ (c : Int) := by omega
  have g6 : decide (N < 184) = false := decide_eq_false (by omega)
  have g6' : decide ((N : Int) < (184 : Int)) = false := decide_eq_false (by omega)
  have g7 : decide (16384 < N) = false := decide_eq_false (by omega)
  have g7' : decide ((16384 : Int) < (N : Int)) = false := decide_eq_false (by omega)
  have g8 : ((N : Int) % 16 != 8) = false := by rw [bne_eq_false_iff_eq]; omega
  have g8' : (N % 16 != 8) = false := by rw [bne_eq_false_iff_eq]; omega
  have g9 : decide (1024 < K) = false := decide_eq_false (by omega)
  have g9' : decide ((1024 : Int) < (K : Int)) = false := decide_eq_false (by omega)
  have gm : min (K : Int) 1024 = (K : Int) := by omega
  have ga : decide (n < 28 + 8 * K + 4) = false := decide_eq_false (by omega)
  have ga' : decide ((n : Int) < (28 + 8 * K + 4 : Int)) = false := decide_eq_false (by omega)
  obtain ⟨E, hE⟩ : ∃ E, 28 + 8 * K = E := ⟨_, rfl⟩
  have hEE : (28 : Int) + 8 * (K : Int) = (E : Int) := by omega
  rw [hE] at ga
  have HST := Lib.hid (fun V (hV : Below w.heap.size w V) => rsummed_any V (some ⟨g, off, none⟩) n c w.heap.size b 28 E ((hr.more hB).below hV) hV.size hnc hc hn (by omega) (by omega) false (by rw [← hE]; exact hst))
  clear hr hw1 hb1 n1 hwd hbd nd hBd hR hT hys hN hK hm hB h2 hst
  go_enter Try.func15, Try.ntmps15
  go_wp2_with (first | (rw [HW1.out]) | fail)
  refine wp_region_tail wd.heap.size [([0, 1, 2], 3)] [4, 5] [] (by kernel_rfl) (by kernel_rfl) (by kernel_rfl) (fun _ _ _ _ _ h => h) ?_
  rw [HWD.out]
  have q0 : ∀ z : LaterB wd.heap.size wd, (convert 31 9 (.slice (some ⟨g, off, none⟩) 8 c)).run Try.prog z.val = .ok (.string T) z.val := fun z => by rw [← HT.out]; exact conv_rd (HRS.out.below z.ext)
  refine tail_cons (l := ?segA) ?hsegA ?_
  case hsegA => simp only [pick, List.getElem?_toArray, List.getElem?_cons_succ, List.getElem?_cons_zero]; rfl
  repeat (go_big_quiet_step (fail))
  refine wpQuiet_nil ?_
  clear q0
  refine tail_call2 (vs := #[]) Try.call26 rfl rfl rfl (R := fun r w' => ∃ A c, r = .slice A 8 c ∧ w'.ownsRow wd.heap.size 5 1 (.slice A 8 c) 8 (markB.map bv) ∧ Below wd.heap.size wd w') (HBG.out.mono ?_) ?_
  · rintro e w' ⟨A, c, rfl, _, ho, hb⟩
    exact ⟨_, rfl, hb, A, c, rfl, ho, hb⟩
  rintro r w8 _ ⟨A8, c8, rfl, ho8, hb8⟩
  have HR8 := Lib.hid (own_reads ho8)
  have HB8 := Lib.hid (HBD.out.trans (hb8.mono HBD.out.size))
  have HN8 := Lib.hid ((hb8.block _ (heap_lt1 HND.out)).trans HND.out)
  refine ⟨w8.heap.size, hb8.size, ?_⟩
  clear ho8 hb8
  simp only [Act.put, List.setIfInBounds_toArray, List.set_cons_zero, List.set_cons_succ]
  have q4 : ∀ z : LaterB w8.heap.size w8, (convert 31 9 (.slice A8 8 c8)).run Try.prog z.val = .ok (.string T) z.val := fun z => by rw [← HT.out]; exact conv_rd (HR8.out.below z.ext)
  refine tail_last (l := ?lastB) (t := []) ?hlastB ?htlastB ?_
  case hlastB => simp only [pick, List.getElem?_toArray, List.getElem?_cons_succ, List.getElem?_cons_zero]; rfl
  case htlastB => rfl
  repeat (go_big_quiet_step (fail))
  refine wpQuiet_nil ?_
  clear q4
  go_wp2_with fail
  refine (HSU.out w8 HB8.out).mono ?_
  rintro e w9 ⟨rfl, hb9⟩
  have HN9 := Lib.hid ((hb9.block _ (heap_lt1 HN8.out)).trans HN8.out)
  have HB9 := Lib.hid (HB8.out.trans (hb9.mono HB8.out.size))
  clear hb9
  go_wp2_with fail
  refine (HNA.out w9 HB9.out).mono ?_
  rintro e wq ⟨rfl, rfl⟩
  go_wp2_with fail
  refine (HNB.out w9 HB9.out).mono ?_
  rintro e wq ⟨rfl, rfl⟩
  go_wp2_with fail
  refine (HST.out w9 HB9.out).mono ?_
  rintro e w10 ⟨rfl, hb10⟩
  have HN10 := Lib.hid ((hb10.block _ (heap_lt1 HN9.out)).trans HN9.out)
  have HB10 := Lib.hid (HB9.out.trans (hb10.mono HB9.out.size))
  clear hb10
  have n9 := HN10.out
  have hl9 := heap_lt1 n9
  obtain ⟨f0, f1, f2⟩ := im_thaw n9
  obtain ⟨z0, z1, z2⟩ := rk_cells n9
  have HM := Lib.hid (im_set n9 (.int .i64 0) (.slice none 0 0) (.slice none 0 0))
  have HF := Lib.hid (((HB10.out.setCell (p := ⟨w.heap.size, 0, none⟩) (Nat.le_refl _) (.int .i64 0)).setCell (p := ⟨w.heap.size, 1, none⟩) (Nat.le_refl _) (.slice none 0 0)).setCell (p := ⟨w.heap.size, 2, none⟩) (Nat.le_refl _) (.slice none 0 0))
  clear n9
  go_wp2
  (try simp only [Exit.inBlock, Exit.then])
  refine rim_ret (g := w.heap.size) (x := .int .i64 9) Try.results15 ?_ ?_ ?_ HM.out ?_
  · rfl
  · rfl
  · rfl
  · exact ⟨rfl, HF.out⟩
end Go.Proofs.Ytlhahibdddcpfaa
