/- The program's Get, whatever the bytes. -/
import Derived.Test.YtlhahibdddcpfaaImg13
namespace Go.Proofs.Ytlhahibdddcpfaa
open Go.RowKit

/-- What Get tells: an error's number, Len, blocks, data. -/
def getG (b : List UInt8) : Nat × Nat × List Rk × List (List UInt8) :=
  if headG b ≠ 0 then (headG b, 0, [], [])
  else if (blksG b (lenN b) (cntN b)).1 ≠ 0 then ((blksG b (lenN b) (cntN b)).1, 0, [], [])
  else if (datG b (blksG b (lenN b) (cntN b)).2).1 ≠ 0 then ((datG b (blksG b (lenN b) (cntN b)).2).1, 0, [], [])
  else (0, lenN b, (blksG b (lenN b) (cntN b)).2, (datG b (blksG b (lenN b) (cntN b)).2).2)
def errV (c : Nat) : Value := if c = 0 then .nilIface else .iface 52 (.int .i64 (c : Int))
theorem headG_ok {b : List UInt8} (h : headG b = 0) : lenOk (lenN b : Int) = true ∧ cntN b ≤ 1024 := by
  unfold headG at h
  split at h
  · cases h
  split at h
  · cases h
  split at h
  · cases h
  split at h
  · cases h
  rename_i h1
  split at h
  · cases h
  rename_i h2
  exact ⟨by cases e : lenOk (lenN b : Int) <;> simp_all, Nat.le_of_not_lt h2⟩
theorem blksG_ok {b : List UInt8} {n k : Nat} (h : (blksG b n k).1 = 0) : (blksG b n k).2.length = k ∧ ∀ x ∈ (blksG b n k).2, isSz x.s = true := by
  unfold blksG at h ⊢
  split
  · rename_i h1; rw [if_pos h1] at h; cases h
  rename_i h1
  rw [if_neg h1] at h
  split
  · rename_i h2; rw [if_pos h2] at h; cases h
  rename_i h2
  rw [if_neg h2] at h
  cases e : blksOf (b.drop 28) k 184 with
  | none => rw [e] at h; cases h
  | some l =>
    rw [e] at h
    unfold rowG at h ⊢
    dsimp only at h ⊢
    split
    · rename_i h3; rw [if_pos h3] at h; cases h
    · rename_i h3
      exact ⟨blksOf_len e, rowOk_sz (by simpa using h3)⟩
set_option maxRecDepth 100000 in
set_option maxHeartbeats 2000000 in
theorem imget_any (w : World) (A : Option Addr) (n c B : Nat) (b : List UInt8) (hr : Rd w B A n b) (hB : B ≤ w.heap.size) (hnc : n ≤ c) (hc : c ≤ 9223372036854775807) (hn : n ≤ 900000) :
    Calls Try.prog 14 #[.slice A n c] w fun e w' => ∃ A1 A2 c1 c2, e = .returned (.tuple #[.agg #[.int .i64 ((getG b).2.1 : Int), .slice A1 (getG b).2.2.1.length c1, .slice A2 (getG b).2.2.2.length c2], errV (getG b).1]) ∧ RkRd w' w'.heap.size A1 (getG b).2.2.1 ∧ DtRd w' w'.heap.size A2 (getG b).2.2.2 ∧ Below w.heap.size w w' := by
  obtain ⟨G, hG⟩ : ∃ G, getG b = G := ⟨_, rfl⟩
  rw [hG]
  unfold getG at hG
  obtain ⟨w1, hw1⟩ : ∃ w1, w.alloc (.cells #[.int .i64 0, .slice none 0 0, .slice none 0 0] 27) = w1 := ⟨_, rfl⟩
  have hb1 : Below w.heap.size w w1 := by rw [← hw1]; exact (Below.refl _ _).alloc (Nat.le_refl _) _
  have n1 : w1.heap[w.heap.size]? = some (.cells #[.int .i64 0, .slice none 0 0, .slice none 0 0] 27 (0, 0)) := by rw [← hw1]; exact heap_alloc_new w _
  have HR1 := Lib.hid ((hr.more hB).below hb1)
  have hHH := imhead_any w1 A n c _ b HR1.out hnc hc hn
  unfold headV at hHH
  have HN1 := Lib.hid n1
  have HB1 := Lib.hid hb1
  have HW1 := Lib.hid hw1
  clear hr hw1 hb1 n1
  by_cases hh : headG b ≠ 0
  · rw [if_pos hh] at hG
    rw [if_neg hh] at hHH
    obtain ⟨k, hk⟩ : ∃ k, headG b = k := ⟨_, rfl⟩
    rw [hk] at hG hHH hh
    have HG := Lib.hid hG
    have HH := Lib.hid hHH
    have hk0 : (k : Int) ≠ 0 := by omega
    clear hG hHH hk
    have HKK := Lib.hid hh
    have n1 := HN1.out
    have hl1 := heap_lt1 n1
    obtain ⟨f0, f1, f2⟩ := im_thaw n1
    obtain ⟨z0, z1, z2⟩ := rk_cells n1
    have HM := Lib.hid (im_set n1 (.int .i64 0) (.slice none 0 0) (.slice none 0 0))
    have HF := Lib.hid (((HB1.out.setCell (p := ⟨w.heap.size, 0, none⟩) (Nat.le_refl _) (.int .i64 0)).setCell (p := ⟨w.heap.size, 1, none⟩) (Nat.le_refl _) (.slice none 0 0)).setCell (p := ⟨w.heap.size, 2, none⟩) (Nat.le_refl _) (.slice none 0 0))
    have N1' := Lib.hid n1
    clear n1
    go_enter Try.func14, Try.ntmps14
    go_wp2_with (first | (rw [HW1.out]) | fail)
    refine HH.out.mono ?_
    rintro e w2 ⟨rfl, rfl⟩
    go_wp2
    (try simp only [Exit.inBlock, Exit.then])
    refine im_ret (g := w.heap.size) (x := .iface 52 (.int .i64 (k : Int))) Try.results14 ?_ ?_ ?_ HM.out ?_
    · rfl
    · rfl
    · rfl
    · refine ⟨none, none, 0, 0, ?_, ?_, ?_, HF.out⟩
      · rw [← HG.out]
        unfold errV
        dsimp only
        rw [if_neg HKK.out]
        rfl
      · rw [← HG.out]; exact fun h => absurd h (by simp)
      · rw [← HG.out]; exact fun h => absurd h (by simp)
  have hh0 : headG b = 0 := Decidable.byContradiction hh
  obtain ⟨hlo, hcn⟩ := headG_ok hh0
  rw [if_neg hh] at hG
  rw [if_pos hh0] at hHH
  have HH := Lib.hid hHH
  have hBL := imblocks_any w1 A n c _ (lenN b) (cntN b) b HR1.out (by have := HB1.out.size; omega) hnc hc hn hlo hcn
  clear hHH
  by_cases hb0 : (blksG b (lenN b) (cntN b)).1 ≠ 0
  · rw [if_pos hb0] at hG
    have eV : ∀ A, blkV (blksG b (lenN b) (cntN b)) A = .tuple #[.slice none 0 0, .iface 52 (.int .i64 ((blksG b (lenN b) (cntN b)).1 : Int))] := fun A => by unfold blkV; rw [if_neg hb0]
    simp only [eV] at hBL
    clear eV
    obtain ⟨k, hk⟩ : ∃ k, (blksG b (lenN b) (cntN b)).1 = k := ⟨_, rfl⟩
    rw [hk] at hG hBL hb0
    have HG := Lib.hid hG
    have HBL := Lib.hid hBL
    have HKK := Lib.hid hb0
    clear hG hBL hk hb0 hh hh0 hlo
    go_enter Try.func14, Try.ntmps14
    go_wp2_with (first | (rw [HW1.out]) | fail)
    refine HH.out.mono ?_
    rintro e w2 ⟨rfl, rfl⟩
    go_wp2_with fail
    refine HBL.out.mono ?_
    rintro e w2 ⟨A2, rfl, _, hb2⟩
    have n1 := (hb2.block _ (heap_lt1 HN1.out)).trans HN1.out
    have hl1 := heap_lt1 n1
    obtain ⟨f0, f1, f2⟩ := im_thaw n1
    obtain ⟨z0, z1, z2⟩ := rk_cells n1
    have HM := Lib.hid (im_set n1 (.int .i64 0) (.slice none 0 0) (.slice none 0 0))
    have HF := Lib.hid ((((HB1.out.trans (hb2.mono HB1.out.size)).setCell (p := ⟨w.heap.size, 0, none⟩) (Nat.le_refl _) (.int .i64 0)).setCell (p := ⟨w.heap.size, 1, none⟩) (Nat.le_refl _) (.slice none 0 0)).setCell (p := ⟨w.heap.size, 2, none⟩) (Nat.le_refl _) (.slice none 0 0))
    have N1' := Lib.hid n1
    clear n1
    clear hb2
    go_wp2
    (try simp only [Exit.inBlock, Exit.then])
    refine im_ret (g := w.heap.size) (x := .iface 52 (.int .i64 (k : Int))) Try.results14 ?_ ?_ ?_ HM.out ?_
    · rfl
    · rfl
    · rfl
    · refine ⟨none, none, 0, 0, ?_, ?_, ?_, HF.out⟩
      · rw [← HG.out]
        unfold errV
        dsimp only
        rw [if_neg HKK.out]
        rfl
      · rw [← HG.out]; exact fun h => absurd h (by simp)
      · rw [← HG.out]; exact fun h => absurd h (by simp)
  have hb1' : (blksG b (lenN b) (cntN b)).1 = 0 := Decidable.byContradiction hb0
  obtain ⟨hlen, hszs⟩ := blksG_ok hb1'
  rw [if_neg hb0] at hG
  have eV : ∀ A, blkV (blksG b (lenN b) (cntN b)) A = .tuple #[.slice A (blksG b (lenN b) (cntN b)).2.length (blksG b (lenN b) (cntN b)).2.length, .nilIface] := fun A => by unfold blkV; rw [if_pos hb1']
  simp only [eV] at hBL
  clear eV
  obtain ⟨l, hl⟩ : ∃ l, (blksG b (lenN b) (cntN b)).2 = l := ⟨_, rfl⟩
  rw [hl] at hG hBL hlen hszs
  have hll : l.length ≤ 1024 := by omega
  have HBL := Lib.hid hBL
  have HSZ := Lib.hid hszs
  clear hBL hl hb0 hb1' hszs
  by_cases hd0 : (datG b l).1 ≠ 0
  · rw [if_pos hd0] at hG
    have HDB := Lib.hid (fun V A2 k2 (hV : Below w.heap.size w V) (hr2 : Rd V w.heap.size A n b) (hrk : RkRd V V.heap.size A2 l) => imdata_bad V A A2 n c w.heap.size k2 b l hr2 hnc hc hn hrk hV.size hll HSZ.out hd0)
    unfold datV at HDB
    rw [if_neg hd0] at HDB
    obtain ⟨k, hk⟩ : ∃ k, (datG b l).1 = k := ⟨_, rfl⟩
    rw [hk] at hG HDB hd0
    have HG := Lib.hid hG
    have HKK := Lib.hid hd0
    obtain ⟨ll, hlll⟩ : ∃ ll, l.length = ll := ⟨_, rfl⟩
    rw [hlll] at HBL HDB
    clear hG hk hd0 hh hh0 hlo hlen hll hlll
    go_enter Try.func14, Try.ntmps14
    go_wp2_with (first | (rw [HW1.out]) | fail)
    refine HH.out.mono ?_
    rintro e w2 ⟨rfl, rfl⟩
    go_wp2_with fail
    refine HBL.out.mono ?_
    rintro e w2 ⟨A2, rfl, hrk2, hb2⟩
    have HD := Lib.hid (HDB.out w2 A2 ll (HB1.out.trans (hb2.mono HB1.out.size)) (HR1.out.below (hb2.mono HB1.out.size)) hrk2)
    have HB2 := Lib.hid hb2
    have N2 := Lib.hid ((hb2.block _ (heap_lt1 HN1.out)).trans HN1.out)
    clear hb2 hrk2 HDB
    go_wp2_with fail
    refine HD.out.mono ?_
    rintro e w3 ⟨rfl, _, hb3⟩
    have hb2 := HB2.out.trans (hb3.mono HB2.out.size)
    have n1 := (hb3.block _ (heap_lt1 N2.out)).trans N2.out
    have hl1 := heap_lt1 n1
    obtain ⟨f0, f1, f2⟩ := im_thaw n1
    obtain ⟨z0, z1, z2⟩ := rk_cells n1
    have HM := Lib.hid (im_set n1 (.int .i64 0) (.slice none 0 0) (.slice none 0 0))
    have HF := Lib.hid ((((HB1.out.trans (hb2.mono HB1.out.size)).setCell (p := ⟨w.heap.size, 0, none⟩) (Nat.le_refl _) (.int .i64 0)).setCell (p := ⟨w.heap.size, 1, none⟩) (Nat.le_refl _) (.slice none 0 0)).setCell (p := ⟨w.heap.size, 2, none⟩) (Nat.le_refl _) (.slice none 0 0))
    have N1' := Lib.hid n1
    clear n1
    clear hb2 hb3
    go_wp2
    (try simp only [Exit.inBlock, Exit.then])
    refine im_ret (g := w.heap.size) (x := .iface 52 (.int .i64 (k : Int))) Try.results14 ?_ ?_ ?_ HM.out ?_
    · rfl
    · rfl
    · rfl
    · refine ⟨none, none, 0, 0, ?_, ?_, ?_, HF.out⟩
      · rw [← HG.out]
        unfold errV
        dsimp only
        rw [if_neg HKK.out]
        rfl
      · rw [← HG.out]; exact fun h => absurd h (by simp)
      · rw [← HG.out]; exact fun h => absurd h (by simp)
  have hd1 : (datG b l).1 = 0 := Decidable.byContradiction hd0
  rw [if_neg hd0] at hG
  have HDB := Lib.hid (fun V A2 k2 (hV : Below w.heap.size w V) (hr2 : Rd V w.heap.size A n b) (hrk : RkRd V V.heap.size A2 l) => imdata_ok V A A2 n c w.heap.size k2 b l hr2 hnc hc hn hrk hV.size hll HSZ.out hd1)
  have eV : ∀ A c, datV (datG b l) A c = .tuple #[.slice A (datG b l).2.length c, .nilIface] := fun A c => by unfold datV; rw [if_pos hd1]
  simp only [eV] at HDB
  clear eV
  obtain ⟨d, hd⟩ : ∃ d, (datG b l).2 = d := ⟨_, rfl⟩
  rw [hd] at hG HDB
  obtain ⟨ll, hlll⟩ : ∃ ll, l.length = ll := ⟨_, rfl⟩
  obtain ⟨dl, hdll⟩ : ∃ dl, d.length = dl := ⟨_, rfl⟩
  rw [hlll] at HBL HDB
  rw [hdll] at HDB
  have HG := Lib.hid hG
  have HLL := Lib.hid hlll
  have HDL := Lib.hid hdll
  obtain ⟨N, hN⟩ : ∃ N, lenN b = N := ⟨_, rfl⟩
  obtain ⟨K, hK⟩ : ∃ K, cntN b = K := ⟨_, rfl⟩
  rw [hN, hK] at HH HBL
  rw [hN] at HG
  clear hG hd hd0 hd1 hh hh0 hlo hlen hll hlll hdll hN hK hcn
  go_enter Try.func14, Try.ntmps14
  go_wp2_with (first | (rw [HW1.out]) | fail)
  refine HH.out.mono ?_
  rintro e w2 ⟨rfl, rfl⟩
  go_wp2_with fail
  refine HBL.out.mono ?_
  rintro e w2 ⟨A2, rfl, hrk2, hb2⟩
  have HD := Lib.hid (HDB.out w2 A2 ll (HB1.out.trans (hb2.mono HB1.out.size)) (HR1.out.below (hb2.mono HB1.out.size)) hrk2)
  have HB2 := Lib.hid hb2
  have HRK2 := Lib.hid hrk2
  have N2 := Lib.hid ((hb2.block _ (heap_lt1 HN1.out)).trans HN1.out)
  clear hb2 hrk2 HDB
  go_wp2_with fail
  refine HD.out.mono ?_
  rintro e w3 ⟨A3, c3, rfl, hdt3, hb3⟩
  have n2 := (hb3.block _ (heap_lt1 N2.out)).trans N2.out
  have hl2 := heap_lt1 n2
  obtain ⟨f0, f1, f2⟩ := im_thaw n2
  obtain ⟨z0, z1, z2⟩ := rk_cells n2
  have HM := Lib.hid (im_set n2 (.int .i64 (N : Int)) (.slice A2 ll ll) (.slice A3 dl c3))
  have hB3 := HB1.out.trans ((HB2.out.trans (hb3.mono HB2.out.size)).mono HB1.out.size)
  have HF := Lib.hid (((hB3.setCell (p := ⟨w.heap.size, 0, none⟩) (Nat.le_refl _) (.int .i64 (N : Int))).setCell (p := ⟨w.heap.size, 1, none⟩) (Nat.le_refl _) (.slice A2 ll ll)).setCell (p := ⟨w.heap.size, 2, none⟩) (Nat.le_refl _) (.slice A3 dl c3))
  have N2' := Lib.hid n2
  have HRK3 := Lib.hid ((HRK2.out.below hb3).more hb3.size)
  have HDT3 := Lib.hid hdt3
  clear hb3 n2 hB3 HBL HH hdt3
  go_wp2
  (try simp only [Exit.inBlock, Exit.then])
  refine im_ret (g := w.heap.size) (x := .nilIface) Try.results14 ?_ ?_ ?_ HM.out ?_
  · rfl
  · rfl
  · rfl
  · refine ⟨A2, A3, ll, c3, ?_, ?_, ?_, HF.out⟩
    · rw [← HG.out]
      dsimp only
      rw [HLL.out, HDL.out]
      rfl
    · rw [← HG.out]
      refine (HRK3.out.off N2'.out fun k hk => ?_).more (by simp)
      rw [heap_setCell_other _ _ _ _ hk, heap_setCell_other _ _ _ _ hk, heap_setCell_other _ _ _ _ hk]
    · rw [← HG.out]
      obtain ⟨xs, ho, hdo⟩ := HDT3.out
      rw [← HDL.out] at ho
      have g0 := grown_set w3 w.heap.size 0 (.int .i64 (N : Int))
      have g1 := grown_set (w3.setCell ⟨w.heap.size, 0, none⟩ (.int .i64 (N : Int))) w.heap.size 1 (.slice A2 ll ll)
      have g2 := grown_set ((w3.setCell ⟨w.heap.size, 0, none⟩ (.int .i64 (N : Int))).setCell ⟨w.heap.size, 1, none⟩ (.slice A2 ll ll)) w.heap.size 2 (.slice A3 dl c3)
      have k0 := N2'.out
      have k1 := heap_setCell_same w3 w.heap.size 0 _ _ (.int .i64 (N : Int)) k0
      have k2 := heap_setCell_same _ w.heap.size 1 _ _ (.slice A2 ll ll) k1
      have o1 := own_off ho g0 (fun k hk hrk => by injection hrk with hrk; subst hrk; exact own_typ ho hk k0 (by decide))
      have o2 := own_off o1 g1 (fun k hk hrk => by injection hrk with hrk; subst hrk; exact own_typ o1 hk k1 (by decide))
      have o3 := own_off o2 g2 (fun k hk hrk => by injection hrk with hrk; subst hrk; exact own_typ o2 hk k2 (by decide))
      have d1 := hdo.grown g0 (fun k hrk => by injection hrk with hrk; subst hrk; exact ⟨_, _, _, by decide, k0⟩)
      have d2 := d1.grown g1 (fun k hrk => by injection hrk with hrk; subst hrk; exact ⟨_, _, _, by decide, k1⟩)
      have d3 := d2.grown g2 (fun k hrk => by injection hrk with hrk; subst hrk; exact ⟨_, _, _, by decide, k2⟩)
      exact d3.rd o3
end Go.Proofs.Ytlhahibdddcpfaa
