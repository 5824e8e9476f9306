/- The document's Get: bytes that are too few, begin otherwise, or whose head has another sum. -/
import Derived.Test.YtlhahibdddcpfaaImg16
namespace Go.Proofs.Ytlhahibdddcpfaa
open Go.RowKit

theorem rim_ret {fn : Func} {R : Ending → World → Prop} {a : Act} {w : World} {p u : Tmp} {g : Nat} {x : Value} {n : Int} {A1 A2 : Option Addr} {a1 b1 a2 b2 : Nat} (hres : fn.results = #[.cell p 29, .tmp u]) (hp : a.tmps.getD p undef = .pointer (some ⟨g, 0, none⟩)) (hx : a.tmps.getD u undef = x) (hd : a.defers = [])
    (hg : w.heap[g]? = some (.cells #[.int .i64 n, .slice A1 a1 b1, .slice A2 a2 b2] 29 (0, 0))) (hR : R (.returned (.tuple #[.agg #[.int .i64 n, .slice A1 a1 b1, .slice A2 a2 b2], x])) w) : bodyPost Try.prog fn R .ret a w := by
  obtain ⟨c0, c1, c2⟩ := rk_cells hg
  refine bodyPost_ret (v := .tuple #[.agg #[.int .i64 n, .slice A1 a1 b1, .slice A2 a2 b2], x]) ?_ hd hR
  rw [results_cell_tmp hres, hp, hx]
  simp [go_sem, c0, c1, c2]
theorem strB_neq {a m : List UInt8} (h : a ≠ m) : ((strB a).toList != (strB m).toList) = true := by
  unfold strB
  rw [bne_iff_ne]
  simpa using h
set_option maxRecDepth 100000 in
set_option maxHeartbeats 1000000 in
theorem rget_short (w : World) (A : Option Addr) (n c : Nat) (h28 : n < 28) :
    Calls Try.prog 15 #[.slice A n c] w fun e w' => e = .returned (.tuple #[.agg #[.int .i64 0, .slice none 0 0, .slice none 0 0], .int .i64 3]) ∧ Below w.heap.size w w' := by
  obtain ⟨w1, hw1⟩ : ∃ w1, w.alloc (.cells #[.int .i64 0, .slice none 0 0, .slice none 0 0] 29) = w1 := ⟨_, rfl⟩
  have hb1 : Below w.heap.size w w1 := by rw [← hw1]; exact (Below.refl _ _).alloc (Nat.le_refl _) _
  have n1 : w1.heap[w.heap.size]? = some (.cells #[.int .i64 0, .slice none 0 0, .slice none 0 0] 29 (0, 0)) := by rw [← hw1]; exact heap_alloc_new w _
  have hl1 := heap_lt1 n1
  obtain ⟨f0, f1, f2⟩ := im_thaw n1
  obtain ⟨z0, z1, z2⟩ := rk_cells n1
  have HM := Lib.hid (im_set n1 (.int .i64 0) (.slice none 0 0) (.slice none 0 0))
  have HF := Lib.hid (((hb1.setCell (p := ⟨w.heap.size, 0, none⟩) (Nat.le_refl _) (.int .i64 0)).setCell (p := ⟨w.heap.size, 1, none⟩) (Nat.le_refl _) (.slice none 0 0)).setCell (p := ⟨w.heap.size, 2, none⟩) (Nat.le_refl _) (.slice none 0 0))
  have HW1 := Lib.hid hw1
  have N1 := Lib.hid n1
  have g1 : decide (n < 28) = true := decide_eq_true h28
  clear hw1 hb1 n1
  go_enter Try.func15, Try.ntmps15
  go_wp2_with (first | (rw [HW1.out]) | fail)
  (try simp only [Exit.inBlock, Exit.then])
  refine rim_ret (g := w.heap.size) (x := .int .i64 3) Try.results15 ?_ ?_ ?_ HM.out ?_
  · rfl
  · rfl
  · rfl
  · exact ⟨rfl, HF.out⟩
set_option maxRecDepth 100000 in
set_option maxHeartbeats 1000000 in
theorem rget_mark (w : World) (A : Option Addr) (n c B : Nat) (b : List UInt8) (hr : Rd w B A n b) (hB : B ≤ w.heap.size) (hnc : n ≤ c) (hc : c ≤ 9223372036854775807) (hn : n ≤ 900000) (h28 : 28 ≤ n) (y : Bool) (hy : ((strB (b.take 8)).toList != (strB markB).toList) = y) (ys : Bool) (hys : sumAt b 0 24 = ys) (hbad : y = true ∨ ys = false) :
    Calls Try.prog 15 #[.slice A n c] w fun e w' => e = .returned (.tuple #[.agg #[.int .i64 0, .slice none 0 0, .slice none 0 0], .int .i64 (if y = true then 3 else 9)]) ∧ Below w.heap.size w w' := by
  obtain ⟨g, off, rfl, _⟩ := hr.2 (by omega)
  obtain ⟨w1, hw1⟩ : ∃ w1, w.alloc (.cells #[.int .i64 0, .slice none 0 0, .slice none 0 0] 29) = w1 := ⟨_, rfl⟩
  have hb1 : Below w.heap.size w w1 := by rw [← hw1]; exact (Below.refl _ _).alloc (Nat.le_refl _) _
  have n1 : w1.heap[w.heap.size]? = some (.cells #[.int .i64 0, .slice none 0 0, .slice none 0 0] 29 (0, 0)) := by rw [← hw1]; exact heap_alloc_new w _
  obtain ⟨wd, hwd⟩ : ∃ wd, w1.drew = wd := ⟨_, rfl⟩
  have hbd : Below w1.heap.size w1 wd := by rw [← hwd]; exact (Below.refl _ _).drew
  have nd := (hbd.block _ (heap_lt1 n1)).trans n1
  have hBd := hb1.trans (hbd.mono hb1.size)
  have HBD := Lib.hid hBd
  have hR := (hr.more hB).below hBd
  have HR := Lib.hid hR
  have HRS := Lib.hid ((hR.more hBd.size).sub 0 8 (by omega))
  rw [List.drop_zero, Nat.add_zero] at HRS
  have HBG := Lib.hid (rbegin_any wd)
  obtain ⟨S, hS⟩ : ∃ S, strB (b.take 8) = S := ⟨_, rfl⟩
  obtain ⟨T, hT⟩ : ∃ T, strB markB = T := ⟨_, rfl⟩
  rw [hS, hT] at hy
  have hy2 : (S.toList == T.toList) = !y := by rw [← hy]; unfold bne; simp
  have HS := Lib.hid hS
  have HT := Lib.hid hT
  have HSU := Lib.hid (fun V (hV : Below w.heap.size w V) => rsummed_any V (some ⟨g, off, none⟩) n c w.heap.size b 0 24 ((hr.more hB).below hV) hV.size hnc hc hn (by omega) (by omega) ys hys)
  have HW1 := Lib.hid hw1
  have HWD := Lib.hid hwd
  have HND := Lib.hid nd
  have g1 : decide (n < 28) = false := decide_eq_false (by omega)
  have g3 : (8 : Int) ≤ (c : Int) := by omega
  clear hr hw1 hb1 n1 hwd hbd nd hBd hR hS hT hys
  go_enter Try.func15, Try.ntmps15
  go_wp2_with (first | (rw [HW1.out]) | fail)
  refine wp_region_tail wd.heap.size [([0, 1, 2], 3)] [4, 5] [] (by kernel_rfl) (by kernel_rfl) (by kernel_rfl) (fun _ _ _ _ _ h => h) ?_
  rw [HWD.out]
  have q0 : ∀ z : LaterB wd.heap.size wd, (convert 31 9 (.slice (some ⟨g, off, none⟩) 8 c)).run Try.prog z.val = .ok (.string S) z.val := fun z => by rw [← HS.out]; exact conv_rd (HRS.out.below z.ext)
  refine tail_cons (l := ?segA) ?hsegA ?_
  case hsegA => simp only [pick, List.getElem?_toArray, List.getElem?_cons_succ, List.getElem?_cons_zero]; rfl
  repeat (go_big_quiet_step (fail))
  refine wpQuiet_nil ?_
  clear q0
  refine tail_call2 (vs := #[]) Try.call26 rfl rfl rfl (R := fun r w' => ∃ A c, r = .slice A 8 c ∧ w'.ownsRow wd.heap.size 5 1 (.slice A 8 c) 8 (markB.map bv) ∧ Below wd.heap.size wd w') (HBG.out.mono ?_) ?_
  · rintro e w' ⟨A, c, rfl, _, ho, hb⟩
    exact ⟨_, rfl, hb, A, c, rfl, ho, hb⟩
  rintro r w8 _ ⟨A8, c8, rfl, ho8, hb8⟩
  have HR8 := Lib.hid (own_reads ho8)
  have HB8 := Lib.hid (HBD.out.trans (hb8.mono HBD.out.size))
  have HN8 := Lib.hid ((hb8.block _ (heap_lt1 HND.out)).trans HND.out)
  refine ⟨w8.heap.size, hb8.size, ?_⟩
  clear ho8 hb8
  simp only [Act.put, List.setIfInBounds_toArray, List.set_cons_zero, List.set_cons_succ]
  have q4 : ∀ z : LaterB w8.heap.size w8, (convert 31 9 (.slice A8 8 c8)).run Try.prog z.val = .ok (.string T) z.val := fun z => by rw [← HT.out]; exact conv_rd (HR8.out.below z.ext)
  refine tail_last (l := ?lastB) (t := []) ?hlastB ?htlastB ?_
  case hlastB => simp only [pick, List.getElem?_toArray, List.getElem?_cons_succ, List.getElem?_cons_zero]; rfl
  case htlastB => rfl
  repeat (go_big_quiet_step (fail))
  refine wpQuiet_nil ?_
  clear q4
  have n8 := HN8.out
  have hl8 := heap_lt1 n8
  obtain ⟨f0, f1, f2⟩ := im_thaw n8
  obtain ⟨z0, z1, z2⟩ := rk_cells n8
  have hy3 : (!S.toList == T.toList) = y := by rw [hy2]; simp
  cases y with
  | true =>
    have HM := Lib.hid (im_set n8 (.int .i64 0) (.slice none 0 0) (.slice none 0 0))
    have HF := Lib.hid (((HB8.out.setCell (p := ⟨w.heap.size, 0, none⟩) (Nat.le_refl _) (.int .i64 0)).setCell (p := ⟨w.heap.size, 1, none⟩) (Nat.le_refl _) (.slice none 0 0)).setCell (p := ⟨w.heap.size, 2, none⟩) (Nat.le_refl _) (.slice none 0 0))
    clear n8
    go_wp2_with fail
    (try simp only [Exit.inBlock, Exit.then])
    refine rim_ret (g := w.heap.size) (x := .int .i64 3) Try.results15 ?_ ?_ ?_ HM.out ?_
    · rfl
    · rfl
    · rfl
    · exact ⟨rfl, HF.out⟩
  | false =>
    obtain rfl : ys = false := hbad.resolve_left (by simp)
    clear n8
    go_wp2_with fail
    refine (HSU.out w8 HB8.out).mono ?_
    rintro e w9 ⟨rfl, hb9⟩
    have n9 := (hb9.block _ hl8).trans HN8.out
    have HB9 := HB8.out.trans (hb9.mono HB8.out.size)
    have hl9 := heap_lt1 n9
    clear f0 f1 f2 z0 z1 z2
    obtain ⟨f0, f1, f2⟩ := im_thaw n9
    obtain ⟨z0, z1, z2⟩ := rk_cells n9
    have HM := Lib.hid (im_set n9 (.int .i64 0) (.slice none 0 0) (.slice none 0 0))
    have HF := Lib.hid (((HB9.setCell (p := ⟨w.heap.size, 0, none⟩) (Nat.le_refl _) (.int .i64 0)).setCell (p := ⟨w.heap.size, 1, none⟩) (Nat.le_refl _) (.slice none 0 0)).setCell (p := ⟨w.heap.size, 2, none⟩) (Nat.le_refl _) (.slice none 0 0))
    clear n9 HB9 hb9
    go_wp2
    (try simp only [Exit.inBlock, Exit.then])
    refine rim_ret (g := w.heap.size) (x := .int .i64 9) Try.results15 ?_ ?_ ?_ HM.out ?_
    · rfl
    · rfl
    · rfl
    · exact ⟨rfl, HF.out⟩
end Go.Proofs.Ytlhahibdddcpfaa
