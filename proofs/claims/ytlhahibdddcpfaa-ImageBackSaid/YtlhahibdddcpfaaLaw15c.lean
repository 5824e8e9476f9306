/- The walk of ImageGets (genlaw15c.py). -/
import Derived.Test.YtlhahibdddcpfaaLaw15b
import Derived.Test.YtlhahibdddcpfaaImg22
namespace Go.Proofs.Ytlhahibdddcpfaa
open Go.RowKit

theorem getG_cases (b : List UInt8) : getG b = (3, 0, [], []) ∨ getG b = (9, 0, [], []) ∨ (getG b).1 = 0 := by
  have hh : headG b = 0 ∨ headG b = 3 ∨ headG b = 9 := by
    unfold headG
    split
    · exact .inr (.inl rfl)
    split
    · exact .inr (.inl rfl)
    split
    · exact .inr (.inr rfl)
    split
    · exact .inr (.inl rfl)
    split
    · exact .inr (.inl rfl)
    · exact .inl rfl
  have hr : ∀ n o, (rowG n o).1 = 0 ∨ (rowG n o).1 = 3 := fun n o => by
    unfold rowG
    split
    · exact .inr rfl
    · split
      · exact .inr rfl
      · exact .inl rfl
  have hb : ∀ n k, (blksG b n k).1 = 0 ∨ (blksG b n k).1 = 3 ∨ (blksG b n k).1 = 9 := fun n k => by
    unfold blksG
    split
    · exact .inr (.inl rfl)
    split
    · exact .inr (.inr rfl)
    · rcases hr n (blksOf (b.drop 28) k 184) with h | h
      · exact .inl h
      · exact .inr (.inl h)
  have hd : ∀ l, (datG b l).1 = 0 ∨ (datG b l).1 = 3 ∨ (datG b l).1 = 9 := fun l => by
    unfold datG
    split
    · exact .inr (.inl rfl)
    split
    · exact .inr (.inr rfl)
    split
    · exact .inr (.inr rfl)
    · exact .inl rfl
  unfold getG
  rcases hh with h | h | h
  · rw [if_neg (by rw [h]; simp)]
    rcases hb (lenN b) (cntN b) with h | h | h
    · rw [if_neg (by rw [h]; simp)]
      rcases hd (blksG b (lenN b) (cntN b)).2 with h | h | h
      · rw [if_neg (by rw [h]; simp)]
        exact .inr (.inr rfl)
      · rw [if_pos (by rw [h]; simp), h]
        exact .inl rfl
      · rw [if_pos (by rw [h]; simp), h]
        exact .inr (.inl rfl)
    · rw [if_pos (by rw [h]; simp), h]
      exact .inl rfl
    · rw [if_pos (by rw [h]; simp), h]
      exact .inr (.inl rfl)
  · rw [if_pos (by rw [h]; simp), h]
    exact .inl rfl
  · rw [if_pos (by rw [h]; simp), h]
    exact .inr (.inl rfl)
theorem blksG_le (b : List UInt8) (n k : Nat) : (blksG b n k).2.length ≤ k := by
  unfold blksG
  split
  · simp
  split
  · simp
  · unfold rowG
    split
    · simp
    · rename_i l hl
      split
      · simp
      · exact Nat.le_of_eq (blksOf_len hl)
theorem datG_le (b : List UInt8) (l : List Rk) : (datG b l).2.length ≤ l.length := by
  unfold datG
  split
  · simp
  split
  · simp
  split
  · simp
  · dsimp only
    rw [cutL_len]
    exact zerL_le l
theorem getG_few (b : List UInt8) : (getG b).2.2.1.length ≤ 1024 ∧ (getG b).2.2.2.length ≤ 1024 ∧ (getG b).2.1 < 18446744073709551616 ∧ ((getG b).1 = 0 → (getG b).2.1 ≤ 16384) := by
  unfold getG
  split
  · simp
  rename_i h
  have h0 : headG b = 0 := Decidable.byContradiction h
  obtain ⟨hl, hk⟩ := headG_ok h0
  have := (lenOk_iff _).1 hl
  have hb := blksG_le b (lenN b) (cntN b)
  split
  · simp
  split
  · simp
  · have hd := datG_le b (blksG b (lenN b) (cntN b)).2
    dsimp only
    omega
set_option maxRecDepth 100000 in
set_option maxHeartbeats 4000000 in
theorem ig_any (w : World) (A : Option Addr) (c : Nat) (b : List UInt8) (hr : Rd w w.heap.size A b.length b) (hnc : b.length ≤ c) (hc : c ≤ 9223372036854775807) :
    Calls Try.prog 4 #[.slice A b.length c] w fun e w' => e = .returned (.bool true) ∧ Below w.heap.size w w' := by
  have HUP := Lib.hid (up15_any w)
  obtain ⟨n, hn⟩ : ∃ n, b.length = n := ⟨_, rfl⟩
  rw [hn] at hr hnc ⊢
  by_cases hbig : 30000 < n
  · have g1 : decide (30000 < n) = true := decide_eq_true hbig
    have g1' : decide ((30000 : Int) < (n : Int)) = true := decide_eq_true (by omega)
    clear hr hnc hn
    go_enter Try.func4, Try.ntmps4
    go_wp2_with fail
    refine HUP.out.mono ?_
    rintro e w1 ⟨rfl, hb1⟩
    have HB := Lib.hid hb1
    clear hb1 HUP
    go_wp2
    go_ret
    exact ⟨rfl, HB.out⟩
  · have g1 : decide (30000 < n) = false := decide_eq_false hbig
    have g1' : decide ((30000 : Int) < (n : Int)) = false := decide_eq_false (by omega)
    have HPG := Lib.hid (fun W (hb : Below w.heap.size w W) => imget_any W A n c w.heap.size b (hr.below hb) hb.size hnc hc (by omega))
    have HRG := Lib.hid (fun W (hb : Below w.heap.size w W) => rget_any W A n c w.heap.size b (hr.below hb) hb.size hnc hc (by omega))
    have hcs := getG_cases b
    obtain ⟨l1, l2, l3, _⟩ := getG_few b
    obtain ⟨G, hG⟩ : ∃ G, getG b = G := ⟨_, rfl⟩
    rw [hG] at HPG hcs l1 l2 l3
    unfold GotR at HRG
    rw [hG] at HRG
    obtain ⟨K, N, l, d⟩ := G
    dsimp only at HPG HRG l1 l2 l3 hcs
    have HSAME := Lib.hid (fun W A1 A2 C1 C2 k1 k2 e1 e2 (h1 : RkRd W W.heap.size A1 l) (h2 : DtRd W W.heap.size A2 d) (h3 : RkRd W W.heap.size C1 l) (h4 : DtRd W W.heap.size C2 d) => rsame_eq W (N : Int) A1 A2 C1 C2 k1 k2 e1 e2 l d h1 h2 h3 h4 (by omega) (by omega))
    have HLIKE := Lib.hid (fun W A1 A2 ll k1 dl k2 => like_any W (N : Int) A1 A2 ll k1 dl k2)
    unfold imV at HSAME HLIKE
    obtain ⟨ll, hll⟩ : ∃ ll, l.length = ll := ⟨_, rfl⟩
    obtain ⟨dl, hdl⟩ : ∃ dl, d.length = dl := ⟨_, rfl⟩
    rw [hll, hdl] at HPG HRG HSAME
    have HCS : Hid ((K = 3 ∧ N = 0 ∧ ll = 0 ∧ dl = 0) ∨ (K = 9 ∧ N = 0 ∧ ll = 0 ∧ dl = 0) ∨ K = 0) := (show _ from by
      rcases hcs with h | h | h
      · injection h with a b; injection b with b c; injection c with c d; subst c d; exact .inl ⟨a, b, hll.symm, hdl.symm⟩
      · injection h with a b; injection b with b c; injection c with c d; subst c d; exact .inr (.inl ⟨a, b, hll.symm, hdl.symm⟩)
      · exact .inr (.inr h))
    clear hr hnc hn hbig hcs l1 l2 l3 hll hdl hG
    go_enter Try.func4, Try.ntmps4
    go_wp2_with fail
    refine HUP.out.mono ?_
    rintro e w1 ⟨rfl, hb1⟩
    have HB := Lib.hid hb1
    clear hb1 HUP
    go_wp2_with fail
    refine (HPG.out w1 HB.out).mono ?_
    rintro e w2 ⟨A1, A2, c1, c2, rfl, hrk, hdt, hb2⟩
    obtain ⟨w3, hw3⟩ : ∃ w3, w2.alloc (.cells #[.int .i64 (N : Int), .slice A1 ll c1, .slice A2 dl c2] 27) = w3 := ⟨_, rfl⟩
    have hb3 : Below w2.heap.size w2 w3 := by rw [← hw3]; exact (Below.refl _ _).alloc (Nat.le_refl _) _
    have n3 : w3.heap[w2.heap.size]? = some (.cells #[.int .i64 (N : Int), .slice A1 ll c1, .slice A2 dl c2] 27 (0, 0)) := by rw [← hw3]; exact heap_alloc_new w2 _
    have HRK := Lib.hid ((hrk.below hb3).more hb3.size)
    have HDT := Lib.hid ((hdt.below hb3).more hb3.size)
    have HB3 := Lib.hid (HB.out.trans ((hb2.trans (hb3.mono hb2.size)).mono HB.out.size))
    have HW3 := Lib.hid hw3
    have HN3 := Lib.hid n3
    clear hrk hdt hb2 hb3 hw3 n3 HPG
    have HRG3 := Lib.hid (HRG.out w3 HB3.out)
    go_wp2_with (first | (rw [HW3.out]) | fail)
    refine HRG3.out.mono ?_
    rintro e w4 ⟨C1, C2, e1, e2, rfl, hrk4, hdt4, hb4⟩
    obtain ⟨w5, hw5⟩ : ∃ w5, w4.alloc (.cells #[.int .i64 (N : Int), .slice C1 ll e1, .slice C2 dl e2] 29) = w5 := ⟨_, rfl⟩
    have hb5 : Below w4.heap.size w4 w5 := by rw [← hw5]; exact (Below.refl _ _).alloc (Nat.le_refl _) _
    have n5 : w5.heap[w4.heap.size]? = some (.cells #[.int .i64 (N : Int), .slice C1 ll e1, .slice C2 dl e2] 29 (0, 0)) := by rw [← hw5]; exact heap_alloc_new w4 _
    obtain ⟨wd, hwd⟩ : ∃ wd, w5.drew = wd := ⟨_, rfl⟩
    have hbd : Below w5.heap.size w5 wd := by rw [← hwd]; exact (Below.refl _ _).drew
    have hb45 := hb5.trans (hbd.mono hb5.size)
    have hb35 := hb4.trans (hb45.mono hb4.size)
    have HRK5 := Lib.hid ((HRK.out.below hb35).more hb35.size)
    have HDT5 := Lib.hid ((HDT.out.below hb35).more hb35.size)
    have HRL5 := Lib.hid ((hrk4.below hb45).more hb45.size)
    have HDL5 := Lib.hid ((hdt4.below hb45).more hb45.size)
    have HB5 := Lib.hid (HB3.out.trans (hb35.mono HB3.out.size))
    have md := (hb35.block _ (heap_lt1 HN3.out)).trans HN3.out
    have nd := (hbd.block _ (heap_lt1 n5)).trans n5
    have HW5 := Lib.hid hw5
    have HWD := Lib.hid hwd
    have HMD := Lib.hid md
    have HND := Lib.hid nd
    obtain ⟨a0, a1, a2⟩ := rk_cells md
    obtain ⟨b0, b1, b2⟩ := rk_cells nd
    have la := heap_lt1 md
    have lb := heap_lt1 nd
    clear hrk4 hdt4 hb4 hw5 hb5 n5 hwd hbd hb45 hb35 md nd HRG HRG3
    go_wp2_with (first | (rw [HW5.out]) | fail)
    refine wp_region_tail wd.heap.size [([0, 2], 1), ([], 3)] [] [4] (by kernel_rfl) (by kernel_rfl) (by kernel_rfl) (fun _ _ _ _ _ h => h) ?_
    rw [HWD.out]
    have qa0 : ∀ z : LaterB wd.heap.size wd, z.val.cell? ⟨w2.heap.size, 0, none⟩ = some (.int .i64 (N : Int)) := fun z => (z.ext.cell (p := ⟨w2.heap.size, 0, none⟩) la).trans a0
    have qa1 : ∀ z : LaterB wd.heap.size wd, z.val.cell? ⟨w2.heap.size, 1, none⟩ = some (.slice A1 ll c1) := fun z => (z.ext.cell (p := ⟨w2.heap.size, 1, none⟩) la).trans a1
    have qa2 : ∀ z : LaterB wd.heap.size wd, z.val.cell? ⟨w2.heap.size, 2, none⟩ = some (.slice A2 dl c2) := fun z => (z.ext.cell (p := ⟨w2.heap.size, 2, none⟩) la).trans a2
    have qb0 : ∀ z : LaterB wd.heap.size wd, z.val.cell? ⟨w4.heap.size, 0, none⟩ = some (.int .i64 (N : Int)) := fun z => (z.ext.cell (p := ⟨w4.heap.size, 0, none⟩) lb).trans b0
    have qb1 : ∀ z : LaterB wd.heap.size wd, z.val.cell? ⟨w4.heap.size, 1, none⟩ = some (.slice C1 ll e1) := fun z => (z.ext.cell (p := ⟨w4.heap.size, 1, none⟩) lb).trans b1
    have qb2 : ∀ z : LaterB wd.heap.size wd, z.val.cell? ⟨w4.heap.size, 2, none⟩ = some (.slice C2 dl e2) := fun z => (z.ext.cell (p := ⟨w4.heap.size, 2, none⟩) lb).trans b2
    refine tail_cons (l := ?segA) ?hsegA ?_
    case hsegA => simp only [pick, List.getElem?_toArray, List.getElem?_cons_succ, List.getElem?_cons_zero]; rfl
    repeat (go_big_quiet_step (fail))
    refine wpQuiet_nil ?_
    clear qa0 qa1 qa2 qb0 qb1 qb2
    refine tail_call2 (vs := #[.agg #[.int .i64 (N : Int), .slice A1 ll c1, .slice A2 dl c2]]) Try.call9 rfl rfl rfl (R := fun r w' => r = .agg #[.int .i64 (N : Int), .slice A1 ll c1, .slice A2 dl c2] ∧ Below wd.heap.size wd w') ((HLIKE.out wd A1 A2 ll c1 dl c2).mono ?_) ?_
    · rintro e w' ⟨rfl, hb⟩
      exact ⟨_, rfl, hb, rfl, hb⟩
    rintro r w8 _ ⟨rfl, hb8⟩
    refine ⟨w8.heap.size, hb8.size, ?_⟩
    have HB8 := Lib.hid (HB5.out.trans (hb8.mono HB5.out.size))
    have HN8 := Lib.hid ((hb8.block _ la).trans HMD.out)
    have hS := HSAME.out w8 A1 A2 C1 C2 c1 c2 e1 e2 ((HRK5.out.below hb8).more hb8.size) ((HDT5.out.below hb8).more hb8.size) ((HRL5.out.below hb8).more hb8.size) ((HDL5.out.below hb8).more hb8.size)
    clear hb8
    simp only [Act.put, List.setIfInBounds_toArray, List.set_cons_zero, List.set_cons_succ]
    refine tail_cons (l := []) rfl (wpQuiet_nil ?_)
    refine tail_call2 (vs := #[.agg #[.int .i64 (N : Int), .slice A1 ll c1, .slice A2 dl c2], .agg #[.int .i64 (N : Int), .slice C1 ll e1, .slice C2 dl e2]]) Try.call16 rfl rfl rfl (R := fun r w' => r = .bool true ∧ Below w8.heap.size w8 w') (hS.mono ?_) ?_
    · rintro e w' ⟨rfl, hb⟩
      exact ⟨_, rfl, hb, rfl, hb⟩
    rintro r w9 _ ⟨rfl, hb9⟩
    refine ⟨w9.heap.size, hb9.size, ?_⟩
    have HF := Lib.hid (HB8.out.trans (hb9.mono HB8.out.size))
    have m9 := (hb9.block _ (heap_lt1 HN8.out)).trans HN8.out
    clear a0 a1 a2 b0 b1 b2 la lb hb9 hS
    obtain ⟨a0, a1, a2⟩ := rk_cells m9
    have la := heap_lt1 m9
    clear m9
    simp only [Act.put, List.setIfInBounds_toArray, List.set_cons_zero, List.set_cons_succ]
    refine tail_last (l := []) (t := ?tailB) rfl ?htailB ?_
    case htailB => simp only [pick, List.getElem?_toArray, List.getElem?_cons_succ, List.getElem?_cons_zero]; rfl
    refine wpQuiet_nil ?_
    rcases HCS.out with ⟨rfl, rfl, rfl, rfl⟩ | ⟨rfl, rfl, rfl, rfl⟩ | rfl
    · unfold errV
      rw [if_neg (by decide)]
      go_wp2_with fail
      refine (code15_err w9 3 (by omega) (by omega)).mono ?_
      rintro e w10 ⟨rfl, rfl⟩
      go_wp2
      go_ret
      exact ⟨rfl, HF.out⟩
    · unfold errV
      rw [if_neg (by decide)]
      go_wp2_with fail
      refine (code15_err w9 9 (by omega) (by omega)).mono ?_
      rintro e w10 ⟨rfl, rfl⟩
      go_wp2
      go_ret
      exact ⟨rfl, HF.out⟩
    · unfold errV
      rw [if_pos rfl]
      go_wp2_with fail
      refine (code15_nil w9).mono ?_
      rintro e w10 ⟨rfl, rfl⟩
      go_wp2
      go_ret
      exact ⟨rfl, HF.out⟩
end Go.Proofs.Ytlhahibdddcpfaa
