/- Texts of mine, joined: Tak5, Spec13, Rez2, Rez4, Rez6, Hea1, Hea2, Hea3, Hea4, Hea6. -/
import Derived.Lib.Mul64
import Derived.Laws.Bits64b
import Derived.Test.YtbldlidpapdkbaaGreatM9

/- The contract of the program's Take (layer 12): a free block that Find tells; else one at the end. -/
namespace Go.Proofs.YtbldlidpapdkbaaGreat
open Go.RowKit

section
variable {w w1 : World} {g base cap c : Nat} {A : Option Addr} {bs : List UInt8} {H : Hp}
set_option maxRecDepth 100000 in
set_option maxHeartbeats 2000000 in
theorem takeFree_any (h : Became 82 g base cap A bs w w1) (hbase : base ≤ 4611686018427387904) (hcap : cap ≤ 16384) (hc : H.cap = cap) (hR : Rt bs H) {A0 B0 : List Bk} {xo xs s : Nat} (hb : H.blks = A0 ++ ⟨xo, xs, false⟩ :: B0) (hs : isSz (s : Int) = true) (hle : s ≤ xs) :
    Calls Tryz.prog 68 #[.pointer (some ⟨g, 0, none⟩), .int .i64 (xo : Int), .int .i64 (s : Int)] w1 fun e w2 => e = .returned .nilIface ∧ ∃ out, Became 82 g base cap A out w w2 ∧ Rt out ((H.out A0.length).cut A0.length s) ∧ Held H bs ((H.out A0.length).cut A0.length s) out := by
  obtain ⟨b1, e1, e2, l1, l2, hblk, hR2, hP⟩ := hR.uses (by omega) hb rfl
  dsimp only at e1 e2 l2 hblk hR2 hP
  obtain ⟨b2, hb2⟩ : ∃ b2, setT b1 ⟨xo, xs, true⟩ = b2 := ⟨_, rfl⟩
  rw [hb2] at e2 l2 hR2 hP
  have hM := hR.md (by omega)
  obtain ⟨hl, hbd⟩ := hR.bound (by omega)
  have hxm : (⟨xo, xs, false⟩ : Bk) ∈ H.blks := by rw [hb]; simp
  have hx := hbd _ hxm
  dsimp only at hx
  have hat : frO (getB bs (xo : Int)) = some ⟨xo, xs, false⟩ := by
    have := hM.ls.st.at_ _ hxm
    dsimp only at this
    rw [this]; rfl
  have hcut : ((H.out A0.length).use A0.length true).cut A0.length s = (H.out A0.length).cut A0.length s := cut_use (by show A0.length < H.blks.length; rw [hb]; simp)
  have h1 := bc_at h hbase hl (xo : Int) (by omega) _ hat
  dsimp only [frV] at h1
  have H1 := Lib.hid h1
  have HSZ := Lib.hid (show w.heap.size ≤ w1.heap.size by obtain ⟨_, _, _, ht, _⟩ := h; exact ht.size)
  have HO := Lib.hid (fun w2 (hB : Became 82 g base cap A bs w w2) => bc_out hB hbase hl (xo : Int) (some ⟨xo, xs, false⟩) (fun z hz => by cases hz; dsimp only; omega) (b2 := b1) e1)
  have HS := Lib.hid (fun w2 (hB : Became 82 g base cap A b1 w w2) => bc_set hB hbase (by omega) xo xs true (by omega) (by omega) e2)
  have HC := Lib.hid (fun w2 (hB : Became 82 g base cap A b2 w w2) => cut_any hB hbase hcap (H := (H.out A0.length).use A0.length true) hc hR2 hblk hs hle)
  rw [hcut] at HC
  have HH := Lib.hid (fun out => hR.usedHeld (by omega) hb (out := out) (H3 := (H.out A0.length).cut A0.length s) hblk hP)
  dsimp only [frV] at HO
  clear h1 hcut hat hx hxm hbd hM hb2 e1 e2 hblk hR2 hP hR hb h
  go_enter Tryz.func68, Tryz.ntmps68
  go_wp2_with fail
  with_reducible refine H1.out.mono ?_
  rintro e w2 ⟨rfl, hB2, hb2⟩
  obtain ⟨w3, hw3⟩ : ∃ w3, w2.alloc (.cells #[.int .i64 (xo : Int), .int .i64 (xs : Int), .bool false] 50) = w3 := ⟨_, rfl⟩
  have n3 : w3.heap[w2.heap.size]? = some (.cells #[.int .i64 (xo : Int), .int .i64 (xs : Int), .bool false] 50 (0, 0)) := by rw [← hw3]; exact heap_alloc_new w2 _
  have B3 := became_alloc hB2 (.cells #[.int .i64 (xo : Int), .int .i64 (xs : Int), .bool false] 50)
  rw [hw3] at B3
  have HO3 := Lib.hid (HO.out w3 B3)
  have HLE := Lib.hid (Nat.le_trans HSZ.out hb2.size)
  obtain ⟨⟨d0, d1, d2⟩, _⟩ := blk_cells n3
  have hlt3 := heap_lt' n3
  have N3 := Lib.hid n3
  have HW3 := Lib.hid hw3
  clear hB2 hb2 H1 HO hw3 n3 B3 HSZ
  go_wp2_with (first | (rw [HW3.out]) | fail)
  refine HO3.out.mono ?_
  clear d0 d1 d2 hlt3
  rintro e w4 ⟨rfl, hB4, hL4⟩
  have n4 := hL4 _ _ N3.out
  obtain ⟨w5, hw5⟩ : ∃ w5, w4.setCell ⟨w2.heap.size, 2, none⟩ (.bool true) = w5 := ⟨_, rfl⟩
  have n5 := heap_setCell_same w4 w2.heap.size 2 _ _ (.bool true) n4
  have B5 := became_loc hB4 n4 HLE.out 2 (.bool true)
  rw [hw5] at n5 B5
  have n5 : w5.heap[w2.heap.size]? = some (.cells #[.int .i64 (xo : Int), .int .i64 (xs : Int), .bool true] 50 (0, 0)) := n5
  have HS5 := Lib.hid (HS.out w5 B5)
  obtain ⟨⟨c0, c1, c2⟩, f0, f1, f2⟩ := blk_cells n4
  have hlt4 := heap_lt' n4
  obtain ⟨⟨d0, d1, d2⟩, _⟩ := blk_cells n5
  have hlt5 := heap_lt' n5
  have N5 := Lib.hid n5
  have HW5 := Lib.hid hw5
  clear hB4 hL4 HO3 HS hw5 n4 n5 B5 N3
  go_wp2_with (first | (rw [HW5.out]) | fail)
  refine HS5.out.mono ?_
  clear c0 c1 c2 f0 f1 f2 hlt4 d0 d1 d2 hlt5
  rintro e w6 ⟨rfl, hB6, hL6⟩
  have n6 := hL6 _ _ N5.out
  have HC6 := Lib.hid (HC.out w6 hB6)
  obtain ⟨⟨d0, d1, d2⟩, _⟩ := blk_cells n6
  have hlt6 := heap_lt' n6
  clear hB6 hL6 HS5 HC n6 N5
  go_wp2_with fail
  refine HC6.out.mono ?_
  clear d0 d1 d2 hlt6
  rintro e w7 ⟨rfl, out, hB, hR, _, hP⟩
  have HB := Lib.hid hB
  have HR := Lib.hid hR
  have HHH := Lib.hid (HH.out out hP)
  clear hB hR hP HC6 HH
  go_wp2
  go_ret
  exact ⟨rfl, out, HB.out, HR.out, HHH.out⟩

set_option maxRecDepth 100000 in
set_option maxHeartbeats 2000000 in
theorem takeAtEnd_no (h : Ar w 82 g base cap A c bs) (hbase : base ≤ 4611686018427387904) (hcap : cap ≤ 16384) (hl : bs.length ≤ cap) (p : Option Bk) (hp : frO (aheadB bs (bs.length : Int)) = p) (s z : Nat) (hz : (p.map Bk.size).getD 0 = z) (hzs : z ≤ s) (hs : s ≤ 16384) (hlt : cap < bs.length + (s - z)) :
    Calls Tryz.prog 67 #[.pointer (some ⟨g, 0, none⟩), .int .i64 (s : Int)] w fun e w' => e = .returned (.tuple #[.int .i64 0, errV false 5]) ∧ Below w.heap.size w w' := by
  have HL := Lib.hid (len_any h)
  have h1 := freeAhead_any h hbase (by omega) (bs.length : Int) (by omega) p hp
  rw [frV_eq, hz] at h1
  obtain ⟨fo, hfo⟩ : ∃ fo : Int, (p.map fun z => (z.off : Int)).getD (bs.length : Int) = fo := ⟨_, rfl⟩
  rw [hfo] at h1
  have H1 := Lib.hid h1
  have HG := Lib.hid (fun w2 (hB : Below w.heap.size w w2) => grow_full (h.below hB) (s - z) hl hcap hlt)
  have e1 : ((s - z : Nat) : Int) = (s : Int) - (z : Int) := Int.ofNat_sub hzs
  rw [e1] at HG
  have hfz : z ≤ 16384 := by omega
  dsimp only [errV]
  clear h1 hfo hz h hp hlt e1
  go_enter Tryz.func67, Tryz.ntmps67
  go_wp2_with fail
  with_reducible refine HL.out.mono ?_
  rintro e w1 ⟨rfl, rfl⟩
  go_wp2_with fail
  with_reducible refine H1.out.mono ?_
  rintro e w2 ⟨rfl, hb2⟩
  obtain ⟨w3, hw3⟩ : ∃ w3, w2.alloc (.cells #[.int .i64 fo, .int .i64 (z : Int), .bool false] 50) = w3 := ⟨_, rfl⟩
  have n3 : w3.heap[w2.heap.size]? = some (.cells #[.int .i64 fo, .int .i64 (z : Int), .bool false] 50 (0, 0)) := by rw [← hw3]; exact heap_alloc_new w2 _
  have hb3 : Below w.heap.size w w3 := by rw [← hw3]; exact hb2.alloc hb2.size _
  have HG3 := Lib.hid (HG.out w3 hb3)
  obtain ⟨⟨d0, d1, d2⟩, _⟩ := blk_cells n3
  have hlt3 := heap_lt' n3
  have HW3 := Lib.hid hw3
  have HB3 := Lib.hid hb3
  clear hb2 H1 HG HL hw3 n3 hb3
  go_wp2_with (first | (rw [HW3.out]) | fail)
  refine HG3.out.mono ?_
  clear d0 d1 d2 hlt3
  rintro e w4 ⟨rfl, k, rfl⟩
  have HB4 : Hid (Below w.heap.size w (w3.drewN k)) := ⟨HB3.out.os, HB3.out.tape, HB3.out.output, HB3.out.size, HB3.out.block⟩
  clear HG3
  go_wp2
  go_ret2
  exact ⟨rfl, HB4.out⟩

set_option maxRecDepth 100000 in
set_option maxHeartbeats 2000000 in
theorem takeAtEnd_yes (h : Ar w 82 g base cap A c bs) (hbase : base ≤ 4611686018427387904) (hcap : cap ≤ 16384) (hl : bs.length ≤ cap) (p : Option Bk) (hp : frO (aheadB bs (bs.length : Int)) = p) (s z o : Nat) (hz : (p.map Bk.size).getD 0 = z) (hzs : z ≤ s) (hs : s ≤ 16384) (ho : o ≤ 16384)
    (hfo : (p.map fun z => (z.off : Int)).getD (bs.length : Int) = (o : Int)) (hpz : ∀ y, p = some y → 0 < y.size ∧ y.off ≤ 16384) (hlt : bs.length + (s - z) ≤ cap) (b1 b2 : List UInt8) (e1 : outB (bs ++ List.replicate (s - z) 0) p = some b1) (hl1 : b1.length = bs.length + (s - z)) (e2 : setB b1 (o : Int) (s : Int) true = some b2) :
    Calls Tryz.prog 67 #[.pointer (some ⟨g, 0, none⟩), .int .i64 (s : Int)] w fun e w' => e = .returned (.tuple #[.int .i64 (o : Int), errV true 5]) ∧ Became 82 g base cap A b2 w w' := by
  have HL := Lib.hid (len_any h)
  have h1 := freeAhead_any h hbase (by omega) (bs.length : Int) (by omega) p hp
  have ef := frV_eq (bs.length : Int) p
  rw [hz, hfo] at ef
  rw [ef] at h1
  have H1 := Lib.hid h1
  have BC := Lib.hid (show Became 82 g base cap A bs w w from ⟨A, c, h, Tch.refl _ _, .inl rfl⟩)
  have HG := Lib.hid (fun w2 (hB : Became 82 g base cap A bs w w2) => bc_grow hB (s - z) hl hcap hlt)
  have HO := Lib.hid (fun w2 (hB : Became 82 g base cap A (bs ++ List.replicate (s - z) 0) w w2) => bc_out hB hbase (by rw [List.length_append, List.length_replicate]; omega) (bs.length : Int) p hpz e1)
  rw [ef] at HO
  have hl1' : b1.length ≤ 16384 := by omega
  have HS := Lib.hid (fun w2 c' A' (a : Ar w2 82 g base cap A' c' b1) => setC w2 g base cap c' A' b1 (o : Int) (s : Int) true _ a hbase hl1' (by omega) (by omega) e2)
  dsimp only [Done, errV] at HS
  obtain ⟨bz, hbz⟩ : ∃ bz, bs ++ List.replicate (s - z) 0 = bz := ⟨_, rfl⟩
  have e3 : ((s - z : Nat) : Int) = (s : Int) - (z : Int) := Int.ofNat_sub hzs
  rw [hbz, e3] at HG
  rw [hbz] at HO
  have hfz : z ≤ 16384 := by omega
  dsimp only [errV]
  clear h1 hfo hz h hp hlt e3 ef e1 e2 hpz hl1 hl1' hbz
  go_enter Tryz.func67, Tryz.ntmps67
  go_wp2_with fail
  with_reducible refine HL.out.mono ?_
  rintro e w1 ⟨rfl, rfl⟩
  go_wp2_with fail
  with_reducible refine H1.out.mono ?_
  rintro e w2 ⟨rfl, hb2⟩
  obtain ⟨w3, hw3⟩ : ∃ w3, w2.alloc (.cells #[.int .i64 (o : Int), .int .i64 (z : Int), .bool false] 50) = w3 := ⟨_, rfl⟩
  have n3 : w3.heap[w2.heap.size]? = some (.cells #[.int .i64 (o : Int), .int .i64 (z : Int), .bool false] 50 (0, 0)) := by rw [← hw3]; exact heap_alloc_new w2 _
  have hb3 : Below w.heap.size w w3 := by rw [← hw3]; exact hb2.alloc hb2.size _
  have HG3 := Lib.hid (HG.out w3 (became_below BC.out hb3))
  obtain ⟨⟨d0, d1, d2⟩, _⟩ := blk_cells n3
  have hlt3 := heap_lt' n3
  have HW3 := Lib.hid hw3
  have N3 := Lib.hid n3
  clear hb2 H1 HG HL hw3 n3 hb3 BC
  go_wp2_with (first | (rw [HW3.out]) | fail)
  refine HG3.out.mono ?_
  clear d0 d1 d2 hlt3
  rintro e w4 ⟨rfl, hB4, hL4⟩
  have n4 := hL4 _ _ N3.out
  have HO4 := Lib.hid (HO.out w4 hB4)
  obtain ⟨⟨d0, d1, d2⟩, _⟩ := blk_cells n4
  have hlt4 := heap_lt' n4
  have N4 := Lib.hid n4
  clear hB4 hL4 HG3 HO n4 N3
  go_wp2_with fail
  refine HO4.out.mono ?_
  clear d0 d1 d2 hlt4
  rintro e w5 ⟨rfl, hB5, hL5⟩
  have n5 := hL5 _ _ N4.out
  obtain ⟨w6, hw6⟩ : ∃ w6, w5.drew = w6 := ⟨_, rfl⟩
  have n6 : w6.heap[w2.heap.size]? = some (.cells #[.int .i64 (o : Int), .int .i64 (z : Int), .bool false] 50 (0, 0)) := by rw [← hw6]; exact n5
  have B6 : Became 82 g base cap A b1 w w6 := by rw [← hw6]; exact became_below hB5 (Below.refl _ _).drew
  obtain ⟨A6, c6, a6, t6, k6⟩ := B6
  have hnf := ar_ne a6 n6
  obtain ⟨⟨d0, d1, d2⟩, _⟩ := blk_cells n6
  have HS6 := Lib.hid (HS.out w6 c6 A6 a6)
  have HFIN := Lib.hid (fun w7 (hB : Became 82 g base cap A6 b2 w6 w7) => Became.trans a6 t6 k6 hB)
  have HNF := Lib.hid hnf
  have HW6 := Lib.hid hw6
  clear hB5 hL5 HO4 HS n5 N4 n6 a6 t6 k6 hw6 hnf
  go_wp2_with fail
  refine wp_region_set (foot g A6) [([0, 1, 2, 3, 4, 5, 6], 7)] [8, 9] [] (by kernel_rfl) (by kernel_rfl) (by kernel_rfl) (fun _ _ _ _ _ h => h) ?_
  rw [HW6.out]
  clear HW6
  have z0 : ∀ z : LaterS (foot g A6) w6, z.val.cell? ⟨w2.heap.size, 0, none⟩ = some (.int .i64 (o : Int)) := fun z => z.ext.cell d0 HNF.out
  clear d0 d1 d2
  refine set_cons (l := ?seg1) ?hseg1 ?_
  case hseg1 => simp only [pick, List.getElem?_toArray, List.getElem?_cons_succ, List.getElem?_cons_zero]; rfl
  repeat (go_big_quiet_step (fail))
  refine wpQuiet_nil ?_
  clear z0
  refine set_call (vs := #[.pointer (some ⟨g, 0, none⟩), .agg #[.int .i64 (o : Int), .int .i64 (s : Int), .bool true]]) Tryz.call73 rfl rfl rfl (R := fun r w' => r = .nilIface ∧ Became 82 g base cap A6 b2 w6 w') (HS6.out.mono ?_) ?_
  · rintro e w' ⟨rfl, hB⟩
    have hB' := hB
    obtain ⟨_, _, _, ht, _⟩ := hB'
    exact ⟨_, rfl, ht, rfl, hB⟩
  rintro r w7 _ ⟨rfl, hB7⟩
  refine ⟨foot g A6, fun _ _ h => h, ?_⟩
  refine set_last (l := ?la4) (t := []) ?hla4 ?htl4 ?_
  case hla4 => simp only [pick, List.getElem?_toArray, List.getElem?_cons_succ, List.getElem?_cons_zero]; rfl
  case htl4 => rfl
  simp only [Act.put, List.setIfInBounds_toArray, List.set_cons_zero, List.set_cons_succ]
  repeat (go_big_quiet_step (fail))
  refine wpQuiet_nil ?_
  have HB7 := Lib.hid (HFIN.out w7 hB7)
  clear hB7 HFIN HS6
  go_wp2
  go_ret2
  exact ⟨rfl, HB7.out⟩
end

set_option maxRecDepth 100000 in
set_option maxHeartbeats 2000000 in
theorem takeK : TakeK := by
  intro w g base cap c A bs H s h hb hcap hc hR hsr
  obtain ⟨hbl, hbd⟩ := hR.bound (by omega)
  have hF := findC w g base cap c A bs s h hb hbl hsr
  constructor
  · intro hs
    unfold findV at hF
    rw [if_neg (by rw [hs]; simp)] at hF
    dsimp only [errV] at hF ⊢
    have HF := Lib.hid hF
    clear hF hs h hR hbd
    go_enter Tryz.func52, Tryz.ntmps52
    go_wp2_with fail
    with_reducible refine HF.out.mono ?_
    rintro e w2 ⟨rfl, hb2⟩
    have HB2 := Lib.hid hb2
    clear hb2 HF
    go_wp2
    go_ret2
    exact ⟨rfl, HB2.out⟩
  · intro hs
    have hq := (isSz_iff _).1 hs
    unfold findV at hF
    rw [if_pos hs] at hF
    obtain ⟨n, rfl⟩ : ∃ n : Nat, s = (n : Int) := ⟨s.toNat, by omega⟩
    rw [Int.toNat_natCast]
    have hfi := hR.finds hs
    rw [hfi] at hF
    dsimp only [Option.getD, Option.isSome, errV] at hF
    have BC := Lib.hid (show Became 82 g base cap A bs w w from ⟨A, c, h, Tch.refl _ _, .inl rfl⟩)
    cases hi : H.find n with
    | some i =>
      obtain ⟨i1, i2, i3⟩ := hR.found hs hi
      obtain ⟨m1, m2⟩ := mid_split i1
      have et := take_fnd hi
      obtain ⟨x, hx⟩ : ∃ x, bkAt H.blks i = x := ⟨_, rfl⟩
      rw [hi] at hF
      dsimp only [Option.map] at hF
      rw [hx] at m1 i2 i3 et hF
      have hxb := hbd x (by rw [m1]; simp)
      obtain ⟨xo, xs, xu⟩ := x
      dsimp only at i2 i3 hxb et hF
      subst i3
      rw [et]
      dsimp only [TurnedAt, errV]
      have HT := Lib.hid (fun w2 (hB : Became 82 g base cap A bs w w2) => takeFree_any hB hb hcap hc hR m1 hs i2)
      rw [m2] at HT
      have HF := Lib.hid hF
      have e0 : ((xo : Int) == 0) = false := by rw [beq_eq_false_iff_ne]; omega
      clear hF hfi hi et m1 m2 hx hR h hbd hs
      go_enter Tryz.func52, Tryz.ntmps52
      go_wp2_with fail
      with_reducible refine HF.out.mono ?_
      rintro e w2 ⟨rfl, hb2⟩
      have HT2 := Lib.hid (HT.out w2 (became_below BC.out hb2))
      clear hb2 HF HT BC
      go_wp2_with fail
      refine HT2.out.mono ?_
      rintro e w4 ⟨rfl, out, hB, hR, hH⟩
      have HB := Lib.hid hB
      have HR := Lib.hid hR
      have HH := Lib.hid hH
      clear hB hR hH HT2
      go_wp2
      go_ret2
      exact ⟨rfl, out, HB.out, HR.out, HH.out⟩
    | none =>
      obtain ⟨A0, p, b1, hpu, hfr, htl⟩ := hR.tail (by omega)
      have hlo := hR.lost hs hi
      have hlen := hR.lenE
      have hle := hR.len
      have hM := hR.md (by omega)
      have ht := hM.tl
      rw [b1, tile_app] at ht
      obtain ⟨t1, t2⟩ := ht
      obtain ⟨o, ho⟩ : ∃ o, 184 + sumB A0 = o := ⟨_, rfl⟩
      have hlen2 : bs.length = o + sumB p.toList := by
        rw [← hlen, b1, ← ho]; unfold lenB; rw [sumB_app]; omega
      obtain ⟨z, hz⟩ : ∃ z, sumB p.toList = z := ⟨_, rfl⟩
      have hpz : (p.map Bk.size).getD 0 = z := by rw [← hz]; cases p <;> simp [sumB]
      have hpo : ∀ y, p = some y → y.off = 184 + sumB A0 ∧ 0 < y.size := fun y hy => by
        have hyb := hbd y (by rw [b1, hy]; simp)
        rw [hy] at t2
        obtain ⟨t3, _⟩ := t2
        exact ⟨t3, by omega⟩
      have hfo : (p.map fun z => (z.off : Int)).getD (bs.length : Int) = (o : Int) := by
        cases p with
        | none =>
          show (bs.length : Int) = (o : Int)
          rw [hlen2]; simp [sumB]
        | some y =>
          show (y.off : Int) = (o : Int)
          rw [(hpo y rfl).1, ho]
      have hzn : z ≤ n := by
        rw [← hz]
        cases p with
        | none => simp [sumB]
        | some y =>
          have := hlo y (by rw [b1]; simp) (hpu y rfl)
          simp [sumB]; omega
      rw [hi] at hF
      dsimp only [Option.map] at hF
      have htz : tailF H.blks = z := htl.trans hz
      by_cases hroom : cap < bs.length + (n - z)
      · have et := take_full hi (by rw [htz, hlen, hc]; omega)
        rw [et]
        dsimp only [TurnedAt]
        have HT := Lib.hid (fun w2 (hB : Below w.heap.size w w2) => takeAtEnd_no (h.below hB) hb hcap (by omega) p hfr n z hpz hzn (by omega) hroom)
        dsimp only [errV] at HT ⊢
        have HF := Lib.hid hF
        clear hF hfi hi et hR h hbd hs b1 hpu hfr htl htz hlo hlen hle hM t1 t2 ho hlen2 hz hpz hpo hfo hroom
        go_enter Tryz.func52, Tryz.ntmps52
        go_wp2_with fail
        with_reducible refine HF.out.mono ?_
        rintro e w2 ⟨rfl, hb2⟩
        have HT2 := Lib.hid (HT.out w2 hb2)
        have HB2 := Lib.hid hb2
        clear hb2 HF HT BC
        go_wp2_with fail
        refine HT2.out.mono ?_
        rintro e w4 ⟨rfl, hb4⟩
        have HB4 := Lib.hid (HB2.out.trans (hb4.mono HB2.out.size))
        clear hb4 HT2 HB2
        go_wp2
        go_ret2
        exact ⟨rfl, HB4.out⟩
      · obtain ⟨H', et, hb', hl', hc'⟩ := take_end hi (by rw [htz, hlen, hc]; omega) b1 htl hpo
        rw [et]
        dsimp only [TurnedAt]
        obtain ⟨q1, e1, e2, l1, l2, hRt, hP⟩ := hR.adds (by omega) b1 hpu (o := o) (s := n) (n := n - z) ho.symm hs (by omega) (by omega)
        have hRR := hRt H' (by rw [hb', ho]) hl' hc'
        have hHD : Held H bs H' (setT q1 ⟨o, n, true⟩) := fun z hz hzu y _ _ _ i i1 i2 _ => hP z hz hzu i ⟨i1, i2⟩
        rw [ho]
        obtain ⟨b2, hb2⟩ : ∃ b2, setT q1 ⟨o, n, true⟩ = b2 := ⟨_, rfl⟩
        rw [hb2] at e2 hRR hHD
        have HT := Lib.hid (fun w2 (hB : Below w.heap.size w w2) => takeAtEnd_yes (h.below hB) hb hcap (by omega) p hfr n z o hpz hzn (by omega) (by omega) hfo (fun y hy => ⟨(hpo y hy).2, by have := (hpo y hy).1; omega⟩) (by omega) q1 b2 e1 l1 e2)
        dsimp only [errV] at HT ⊢
        have HF := Lib.hid hF
        have HRR := Lib.hid hRR
        have HHD := Lib.hid hHD
        clear hF hfi hi et hR h hbd hs b1 hpu hfr htl htz hlo hlen hle hM t1 t2 ho hlen2 hz hpz hpo hfo hroom hb' hl' hc' e1 e2 l1 l2 hRt hP hRR hHD hb2
        go_enter Tryz.func52, Tryz.ntmps52
        go_wp2_with fail
        with_reducible refine HF.out.mono ?_
        rintro e w2 ⟨rfl, hb2⟩
        have HT2 := Lib.hid (HT.out w2 hb2)
        have HB2 := Lib.hid hb2
        clear hb2 HF HT BC
        go_wp2_with fail
        refine HT2.out.mono ?_
        rintro e w4 ⟨rfl, hb4⟩
        have HB4 := Lib.hid (hb4.after HB2.out)
        clear hb4 HT2 HB2
        go_wp2
        go_ret2
        exact ⟨rfl, b2, HB4.out, HRR.out, HHD.out⟩
end Go.Proofs.YtbldlidpapdkbaaGreat

/- What the program's resize (layer 13) is to tell. -/
namespace Go.Proofs.YtbldlidpapdkbaaGreat
open Go.RowKit

def RezTold (g base cap : Nat) (A : Option Addr) (bs : List UInt8) (H : Hp) (o : Int) (r : (Nat × Int) × Hp) (w : World) (e : Ending) (w' : World) : Prop :=
  (r.1.2 = 0 → e = .returned (.tuple #[.int .i64 (r.1.1 : Int), errV true 0]) ∧ ∃ out, Became 82 g base cap A out w w' ∧ Rt out r.2 ∧ Held H bs r.2 out ∧ Moved H bs o r.2 out r.1.1) ∧
  (r.1.2 ≠ 0 → e = .returned (.tuple #[.int .i64 0, errV false r.1.2]) ∧ Below w.heap.size w w')
end Go.Proofs.YtbldlidpapdkbaaGreat

/- What a resize holds, plain: a block that stands elsewhere, a block that has got more bytes in its place. -/
namespace Go.Proofs.YtbldlidpapdkbaaGreat

theorem Held.moved {H H' : Hp} {bs out : List UInt8} {o : Int} {p : Nat} (h : Held H bs H' out) (hp : (p : Int) = o) : Moved H bs o H' out p := by
  intro x hx hu hxo y hy hyu hyp i i1 i2 i3
  have e : x.off = p := by omega
  have := h x hx hu y hy hyu (by omega) (x.off + i) (by omega) (by omega) (by omega)
  rw [e] at this ⊢
  exact this
theorem Held.self (H : Hp) (bs : List UInt8) : Held H bs H bs := fun _ _ _ _ _ _ _ _ _ _ _ => rfl
theorem moveD_lists {H : Hp} {p o : Int} : (H.moveD p o).lists = H.lists := by unfold Hp.moveD; split <;> rfl
section
variable {bs : List UInt8} {H : Hp}
theorem Rt.moveD {p o : Int} (h : Rt bs H) : Rt bs (H.moveD p o) := ⟨by rw [moveD_blks]; exact h.walk, fun c hc => by rw [moveD_lists]; exact h.all_ c hc, h.chk, by rw [moveD_cap]; exact h.len⟩

/-- What is held when a block has been moved. -/
theorem Rt.moved (h : Rt bs H) {s i q : Nat} (hs : isSz (s : Int) = true) {o : Int} (hi : usedB H.blks o = some i) {xo xs : Nat} (hx : bkAt H.blks i = ⟨xo, xs, true⟩) (hlt : xs < s) (hq : (H.take s).1 = some q) {bs1 : List UInt8} (h1 : Rt bs1 (H.take s).2) (hh1 : Held H bs (H.take s).2 bs1) :
    q + 8 + (xs - 16) ≤ bs1.length ∧ xo + 8 + (xs - 16) ≤ bs1.length ∧ 32 ≤ xs ∧ Rt (lay bs1 (q + 8) ((bs1.drop (xo + 8)).take (xs - 16))) ((H.take s).2.moveD (q : Int) o) ∧ (∃ j, usedB ((H.take s).2.moveD (q : Int) o).blks o = some j) ∧
      ∀ H' out, Held ((H.take s).2.moveD (q : Int) o) (lay bs1 (q + 8) ((bs1.drop (xo + 8)).take (xs - 16))) H' out → Held H bs H' out ∧ Moved H bs o H' out q := by
  obtain ⟨i1, i2, i3⟩ := used_at hi
  have hxm : (⟨xo, xs, true⟩ : Bk) ∈ H.blks := by rw [← hx]; exact List.mem_of_getElem? (bkAt_get i1)
  rw [hx] at i2
  dsimp only at i2
  have ht : tile 184 H.blks (Go.Proofs.YtbldlidpapdkbaaGreat.lenB H.blks) := by rw [h.lenE]; exact (walkB_tiles h.walk).2.1
  have tm : ∀ z ∈ H.blks, z.used = true → z ∈ (H.take s).2.blks := fun z hz hu => take_mem ht hs (fun j hj => by obtain ⟨a, _, c⟩ := h.found hs hj; exact ⟨a, c⟩) hz hu
  obtain ⟨y, n1, n2, n3, n4, n5, n6⟩ := h.what hs hq
  have ht1 := (walkB_tiles h1.walk).2.1
  obtain ⟨y1, y2, y3, _⟩ := (tile_mem _ _ _ ht1).2 y n1
  obtain ⟨x1, x2, x3, _⟩ := (tile_mem _ _ _ ht1).2 _ (tm _ hxm rfl)
  dsimp only at x1 x2 x3
  have sx := (isSz_iff _).1 x3
  have hap := n6 _ hxm rfl
  dsimp only at hap
  obtain ⟨cs, hcs⟩ : ∃ cs, (bs1.drop (xo + 8)).take (xs - 16) = cs := ⟨_, rfl⟩
  have hcl : cs.length = xs - 16 := by rw [← hcs, List.length_take, List.length_drop]; omega
  rw [hcs]
  have ag : AgreeB bs1 (lay bs1 (q + 8) cs) y := agree_lay (x := y) (q + 8) cs (by omega) (by omega) (by omega)
  have hR2 : Rt (lay bs1 (q + 8) cs) (H.take s).2 := h1.fill n1 n3 ag
  refine ⟨by omega, by omega, by omega, hR2.moveD, ?_, fun H' out hH => ⟨?_, ?_⟩⟩
  · rw [moveD_blks]
    obtain ⟨j, hj⟩ := List.mem_iff_getElem?.1 (tm _ hxm rfl)
    have := used_hit ht1 hj i2 rfl
    cases hu : usedB (H.take s).2.blks o with
    | none => rw [hu] at this; cases this
    | some k => exact ⟨k, rfl⟩
  · intro z hz hzu v hv hvu e k k1 k2 k3
    have a := hH z (by rw [moveD_blks]; exact tm z hz hzu) hzu v hv hvu e k k1 k2 k3
    have b := ag.2 k (by have := n6 z hz hzu; omega)
    have d := hh1 z hz hzu z (tm z hz hzu) hzu rfl k k1 k2 k2
    rw [a, b, d]
  · intro x' hx' hxu' hxo' v hv hvu hvp k k1 k2 k3
    obtain rfl : x' = ⟨xo, xs, true⟩ := by
      have sz := (isSz_iff _).1 ((tile_mem _ _ _ ht).2 x' hx').2.2.1
      rcases tile_apart _ _ _ ht x' hx' _ hxm with e | e | e
      · exact e
      · dsimp only at e; omega
      · dsimp only at e; omega
    dsimp only at k2 ⊢
    have a := hH y (by rw [moveD_blks]; exact n1) n3 v hv hvu (by omega) (q + k) (by omega) (by omega) (by omega)
    have b := lay_in bs1 (q + 8) cs (by omega) (k - 8) (by omega)
    rw [show q + 8 + (k - 8) = q + k by omega] at b
    have d : cs[k - 8]? = bs1[xo + k]? := by
      rw [← hcs, List.getElem?_take_of_lt (by omega), List.getElem?_drop, show xo + 8 + (k - 8) = xo + k by omega]
    have f := hh1 _ hxm rfl _ (tm _ hxm rfl) rfl rfl (xo + k) (by dsimp only; omega) (by dsimp only; omega) (by dsimp only; omega)
    rw [a, b, d, f]

/-- What is held when a block has got more bytes in its place. -/
theorem Rt.wideHeld (h : Rt bs H) {A B1 : List Bk} {n : Option Bk} {xo xs t : Nat} (hb : H.blks = A ++ ⟨xo, xs, true⟩ :: (n.toList ++ B1)) (hf : ∀ y, n = some y → y.used = false) (hxt : xs ≤ t) {b2 : List UInt8} {H' : Hp} (hb' : H'.blks = A ++ ⟨xo, t, true⟩ :: B1)
    (h1 : ∀ z ∈ H.blks, z.used = true → z.off ≠ xo → ∀ i, Pay z i → b2[i]? = bs[i]?) (h2 : ∀ i, Pay ⟨xo, xs, true⟩ i → b2[i]? = bs[i]?) {H'' : Hp} {out : List UInt8} (hH : Held H' b2 H'' out) : Held H bs H'' out := by
  intro z hz hzu v hv hvu e k k1 k2 k3
  have ht : tile 184 H.blks (Go.Proofs.YtbldlidpapdkbaaGreat.lenB H.blks) := by rw [h.lenE]; exact (walkB_tiles h.walk).2.1
  have hxm : (⟨xo, xs, true⟩ : Bk) ∈ H.blks := by rw [hb]; simp
  by_cases hzo : z.off = xo
  · obtain rfl : z = ⟨xo, xs, true⟩ := by
      have sz := (isSz_iff _).1 ((tile_mem _ _ _ ht).2 z hz).2.2.1
      have sx := (isSz_iff _).1 ((tile_mem _ _ _ ht).2 _ hxm).2.2.1
      dsimp only at sx
      rcases tile_apart _ _ _ ht z hz _ hxm with e | e | e
      · exact e
      · dsimp only at e; omega
      · dsimp only at e; omega
    dsimp only at k1 k2 e
    rw [hH ⟨xo, t, true⟩ (by rw [hb']; simp) rfl v hv hvu e k k1 (by dsimp only; omega) k3, h2 k ⟨k1, k2⟩]
  · have hm : z ∈ H'.blks := by
      rw [hb]  at hz
      rw [hb']
      rcases List.mem_append.1 hz with hz | hz
      · simp [hz]
      · rcases List.mem_cons.1 hz with rfl | hz
        · exact absurd rfl hzo
        · rcases List.mem_append.1 hz with hz | hz
          · have := hf z (by simpa using hz)
            rw [hzu] at this; cases this
          · simp [hz]
    rw [hH z hm hzu v hv hvu e k k1 k2 k3, h1 z hz hzu hzo k ⟨k1, k2⟩]
end
end Go.Proofs.YtbldlidpapdkbaaGreat

/- A block that gets more bytes in its place, plain: what the program's steps come to. -/
namespace Go.Proofs.YtbldlidpapdkbaaGreat

section
variable {bs : List UInt8} {H : Hp} {A1 B1 : List Bk} {p n : Option Bk} {xo xs z : Nat}
theorem Rt.grown (h : Rt bs H) (hc : H.cap ≤ 16384) (hb : H.blks = (A1 ++ p.toList) ++ ⟨xo, xs, true⟩ :: (n.toList ++ B1)) (hN : Near A1 p n B1) (hz : (n.map Bk.size).getD 0 = z) {s : Nat} (hs : isSz (s : Int) = true) (hlt : xs + z < s) (hend : xo + (xs + z) = bs.length) (hcap : bs.length + (s - (xs + z)) ≤ H.cap) :
    ∃ b1 b2, outB (bs ++ List.replicate (s - (xs + z)) 0) n = some b1 ∧ setB b1 (xo : Int) (s : Int) true = some b2 ∧ b1.length = bs.length + (s - (xs + z)) ∧ Rt b2 ((H.widen (A1 ++ p.toList).length).size (A1 ++ p.toList).length s) ∧ Held H bs ((H.widen (A1 ++ p.toList).length).size (A1 ++ p.toList).length s) b2 := by
  obtain ⟨w1, w2, w3, w4⟩ := widen_at hb hN.nf hN.nu
  rw [hz] at w1 w3
  obtain ⟨A, hA⟩ : ∃ A, A1 ++ p.toList = A := ⟨_, rfl⟩
  rw [hA] at hb w1 w2 w3 w4 ⊢
  have ht : tile 184 H.blks bs.length := (walkB_tiles h.walk).2.1
  have hB1 : B1 = [] := by
    rw [hb, tile_app] at ht
    obtain ⟨_, t1, _, t3⟩ := ht
    dsimp only at t1
    rw [tile_app] at t3
    have hzn : sumB n.toList = z := by rw [← hz]; cases n <;> simp [sumB]
    rw [hzn] at t3
    have t4 := t3.2
    dsimp only at t4
    cases B1 with
    | nil => rfl
    | cons y r =>
      have := (tile_mem _ _ _ t4).2 y (by simp)
      have sy := (isSz_iff _).1 this.2.2.1
      omega
  obtain ⟨b1, e1, e2, l1, l2, hRt, hP1, hP2⟩ := h.wide hc (n0 := s - (xs + z)) (t := s) hb hN.nf (by rw [hz]; omega) (.inr hB1) hs hcap
  have hat : (H.widen A.length).blks[A.length]? = some ⟨xo, xs + z, true⟩ := by rw [w1]; simp
  have hb' : ((H.widen A.length).size A.length s).blks = A ++ ⟨xo, s, true⟩ :: B1 := by
    show (H.widen A.length).blks.set A.length { bkAt (H.widen A.length).blks A.length with size := s } = _
    rw [bkAt_of hat, w1, List.set_append_right _ _ (Nat.le_refl _), Nat.sub_self]
    rfl
  have hR2 := hRt ((H.widen A.length).size A.length s) hb' w2 widen_cap
  exact ⟨b1, _, e1, e2, by omega, hR2, h.wideHeld hb hN.nf (by omega) hb' hP1 hP2 (Held.self _ _)⟩
end
end Go.Proofs.YtbldlidpapdkbaaGreat

/- The program's enlarge (layer 13): the third way (the arena grows), the fourth (it is moved). -/
namespace Go.Proofs.YtbldlidpapdkbaaGreat
open Go.RowKit

section
variable {P : Program} {ops : Array Oper} {Q : Exit → Act → World → Prop}
end

section
variable {w w1 w' : World} {g base cap c : Nat} {A : Option Addr} {bs : List UInt8} {H : Hp} {o : Int} {r : (Nat × Int) × Hp} {e : Ending}
theorem RezTold.after (h : RezTold g base cap A bs H o r w1 e w') (hb : Below w.heap.size w w1) : RezTold g base cap A bs H o r w e w' := by
  refine ⟨fun hr => ?_, fun hr => ?_⟩
  · obtain ⟨h1, out, h2, h3⟩ := h.1 hr
    exact ⟨h1, out, h2.after hb, h3⟩
  · obtain ⟨h1, h2⟩ := h.2 hr
    exact ⟨h1, hb.trans (h2.mono hb.size)⟩
theorem RezTold.no {k : Int} (hk : k ≠ 0) (hb : Below w.heap.size w w') : RezTold g base cap A bs H o ((0, k), H) w (.returned (.tuple #[.int .i64 0, errV false k])) w' :=
  ⟨fun hr => absurd hr hk, fun _ => ⟨rfl, hb⟩⟩

end

section
variable {w : World} {g base cap c : Nat} {A : Option Addr} {bs : List UInt8} {H : Hp} {A1 B1 : List Bk} {p n : Option Bk} {xo xs z s : Nat}
end
end Go.Proofs.YtbldlidpapdkbaaGreat

/- The program's heap (layer 14): a block that tells an arena, whose bytes are a heap; usable, find. -/
namespace Go.Proofs.YtbldlidpapdkbaaGreat
open Go.RowKit

/-- At block q lies a heap: it tells the arena at g, whose bytes are H. -/
structure PH (w : World) (q g base cap : Nat) (A : Option Addr) (c : Nat) (bs : List UInt8) (H : Hp) : Prop where
  obj : w.heap[q]? = some (.cells #[.pointer (some ⟨g, 0, none⟩)] 58 (0, 0))
  ar : Ar w 82 g base cap A c bs
  rd : RtD bs H
  cp : H.cap = cap
  c16 : cap ≤ 16384
  b62 : base ≤ 4611686018427387904
section
variable {w w' : World} {q g base cap c : Nat} {A : Option Addr} {bs out : List UInt8} {H H' : Hp}
theorem PH.lt (h : PH w q g base cap A c bs H) : q < w.heap.size := heap_lt h.obj
theorem PH.c0 (h : PH w q g base cap A c bs H) : w.cell? ⟨q, 0, none⟩ = some (.pointer (some ⟨g, 0, none⟩)) := by rw [cell_of_row w q 0 _ _ (0, 0) h.obj]; rfl
theorem PH.ap (h : PH w q g base cap A c bs H) : ¬ foot g A q := by
  rintro (rfl | ⟨a, ea, rfl⟩)
  · have h1 := h.ar.obj
    rw [h.obj] at h1
    injection h1 with h1
    injection h1 with _ h2 _
    exact absurd h2 (by decide)
  · obtain ⟨h', e, cur, hg, _⟩ := h.ar.row ea
    subst e
    rw [h.obj] at hg
    injection hg with hg
    injection hg with _ h2 _
    exact absurd h2 (by decide)
theorem PH.below (h : PH w q g base cap A c bs H) (hb : Below w.heap.size w w') : PH w' q g base cap A c bs H :=
  ⟨(hb.block q h.lt).trans h.obj, h.ar.below hb, h.rd, h.cp, h.c16, h.b62⟩
theorem PH.len (h : PH w q g base cap A c bs H) : bs.length ≤ 16384 := (h.rd.rt.bound (by rw [h.cp]; exact h.c16)).1
theorem PH.became (h : PH w q g base cap A c bs H) (hb : Became 82 g base cap A out w w') (rd : RtD out H') (hc : H'.cap = cap) :
    ∃ A' c', PH w' q g base cap A' c' out H' ∧ Tch (foot g A) w w' ∧ (A' = A ∨ ∀ a, A' = some a → w.heap.size ≤ a.block) := by
  obtain ⟨A', c', a, t, k⟩ := hb
  exact ⟨A', c', ⟨(t.block q h.lt h.ap).trans h.obj, a, rd, hc, h.c16, h.b62⟩, t, k⟩
theorem PH.same (h : PH w q g base cap A c bs H) : Became 82 g base cap A bs w w := ⟨A, c, h.ar, Tch.refl _ _, .inl rfl⟩

set_option maxRecDepth 100000 in
set_option maxHeartbeats 400000 in
theorem husable_any (w : World) (o : Int) (s : Nat) (u : Bool) (h1 : 16 ≤ s) (h2 : s ≤ 16384) :
    Calls Tryz.prog 33 #[.agg #[.int .i64 o, .int .i64 (s : Int), .bool u]] w fun e w' => e = .returned (.int .u64 ((s - 16 : Nat) : Int)) ∧ Below w.heap.size w w' := by
  have e : ((s - 16 : Nat) : Int) = (s : Int) - 16 := by omega
  rw [e]
  have ew : IntKind.u64.wrap ((s : Int) - 16) = (s : Int) - 16 := IntWalk.u64_in _ (by omega)
  clear e
  go_enter Tryz.func33, Tryz.ntmps33
  go_wp2
  go_ret
  exact ⟨rfl, (Below.refl _ _).alloc (Nat.le_refl _) _⟩

theorem handle_of (h : PH w q g base cap A c bs H) {p : Nat} (p8 : 8 ≤ p) (pl : p ≤ bs.length) : H.handleB p = usedB H.blks ((p : Int) - 8) := by
  have := h.len
  unfold Hp.handleB
  rw [if_neg (by omega)]
theorem handle_far (h : PH w q g base cap A c bs H) {p : Nat} (pl : bs.length < p) : H.handleB p = none := by
  unfold Hp.handleB
  split
  · rfl
  · refine used_miss fun i x hx hh => ?_
    have := (h.rd.rt.bound (by rw [h.cp]; exact h.c16)).2 x (List.mem_of_getElem? hx)
    omega
set_option maxRecDepth 100000 in
set_option maxHeartbeats 1000000 in
theorem pfind_any (h : PH w q g base cap A c bs H) (p : Nat) (hp : p < 18446744073709551616) :
    Calls Tryz.prog 32 #[.pointer (some ⟨q, 0, none⟩), .int .u64 (p : Int)] w fun e w' => e = .returned (.tuple #[bkV ((H.handleB p).map (bkAt H.blks)), errV (H.handleB p).isSome 4]) ∧ Below w.heap.size w w' := by
  obtain ⟨w1, hw1⟩ : ∃ w1, w.alloc (.cells #[.int .i64 0, .int .i64 0, .bool false] 50) = w1 := ⟨_, rfl⟩
  have hb1 : Below w.heap.size w w1 := by rw [← hw1]; exact (Below.refl _ _).alloc (Nat.le_refl _) _
  have n1 : w1.heap[w.heap.size]? = some (.cells #[.int .i64 0, .int .i64 0, .bool false] 50 (0, 0)) := by rw [← hw1]; exact heap_alloc_new w _
  have h1 := h.below hb1
  have hl := h.len
  obtain ⟨⟨c0, c1, c2⟩, f0, f1, f2⟩ := blk_cells n1
  have hlt1 := heap_lt' n1
  have HW1 := Lib.hid hw1
  have HB1 := Lib.hid hb1
  have HN1 := Lib.hid n1
  have k0 := h1.c0
  have HL := Lib.hid (len_any h1.ar)
  by_cases p8 : p < 8
  · have e : H.handleB p = none := by unfold Hp.handleB; rw [if_pos (.inl p8)]
    rw [e]
    dsimp only [bkV, errV, Option.map, Option.isSome]
    have g1 : decide ((p : Int) < 8) = true := decide_eq_true (by omega)
    clear e h h1 hw1 hb1 n1 k0 HL
    go_enter Tryz.func32, Tryz.ntmps32
    go_wp2_with (first | (rw [HW1.out]) | fail)
    (try simp only [Exit.inBlock, Exit.then])
    refine blk_ret (x := .iface 55 (.int .i64 4)) (g := w.heap.size) (o := 0) (s := 0) (b := false) Tryz.results32 ?_ ?_ ?_ (blk_set HN1.out _ _ _) ?_
    · rfl
    · rfl
    · rfl
    · exact ⟨rfl, ((HB1.out.setCell (Nat.le_refl _) _).setCell (Nat.le_refl _) _).setCell (Nat.le_refl _) _⟩
  · have g1 : decide ((p : Int) < 8) = false := decide_eq_false (by omega)
    obtain ⟨n, hn⟩ : ∃ n, bs.length = n := ⟨_, rfl⟩
    rw [hn] at HL hl
    by_cases pl : n < p
    · have e := handle_far h (p := p) (by omega)
      rw [e]
      dsimp only [bkV, errV, Option.map, Option.isSome]
      have g2 : decide ((n : Int) < (p : Int)) = true := decide_eq_true (by omega)
      clear e h h1 hw1 hb1 n1
      go_enter Tryz.func32, Tryz.ntmps32
      go_wp2_with (first | (rw [HW1.out]) | fail)
      refine HL.out.mono ?_
      rintro e w2 ⟨rfl, rfl⟩
      go_wp2
      (try simp only [Exit.inBlock, Exit.then])
      refine blk_ret (x := .iface 55 (.int .i64 4)) (g := w.heap.size) (o := 0) (s := 0) (b := false) Tryz.results32 ?_ ?_ ?_ (blk_set HN1.out _ _ _) ?_
      · rfl
      · rfl
      · rfl
      · exact ⟨rfl, ((HB1.out.setCell (Nat.le_refl _) _).setCell (Nat.le_refl _) _).setCell (Nat.le_refl _) _⟩
    · have g2 : decide ((n : Int) < (p : Int)) = false := decide_eq_false (by omega)
      have e := handle_of h (p := p) (by omega) (by omega)
      rw [e]
      obtain ⟨pz, hpz⟩ : ∃ pz : Int, (p : Int) - 8 = pz := ⟨_, rfl⟩
      have hU := usedK w1 g base cap c A bs H pz h1.ar h.b62 h.c16 h.cp h.rd.rt (by omega)
      rw [hpz]
      have ewp : IntKind.i64.wrap pz = pz := IntWalk.i64_in _ (by omega)
      cases hi : usedB H.blks pz with
      | none =>
        rw [hi] at hU
        dsimp only [BlkTold, bkV, errV, Option.map, Option.isSome] at hU ⊢
        have HU := Lib.hid hU
        clear e h h1 hw1 hb1 n1 hU hi
        go_enter Tryz.func32, Tryz.ntmps32
        go_wp2_with (first | (rw [HW1.out]) | fail)
        refine HL.out.mono ?_
        rintro e w2 ⟨rfl, rfl⟩
        go_wp2_with fail
        refine HU.out.mono ?_
        rintro e w2 ⟨rfl, hb2⟩
        have n2 := (hb2.block w.heap.size (heap_lt HN1.out)).trans HN1.out
        have n3 : (w2.alloc (.cells #[.int .i64 0, .int .i64 0, .bool false] 50)).heap[w.heap.size]? = some (.cells #[.int .i64 0, .int .i64 0, .bool false] 50 (0, 0)) := (heap_alloc_old _ _ (heap_lt n2)).trans n2
        have hb12 := HB1.out.trans (hb2.mono HB1.out.size)
        have hb3 : Below w.heap.size w (w2.alloc (.cells #[.int .i64 0, .int .i64 0, .bool false] 50)) := hb12.alloc hb12.size _
        clear c0 c1 c2 f0 f1 f2 hlt1 k0
        obtain ⟨⟨c0, c1, c2⟩, f0, f1, f2⟩ := blk_cells n3
        have hlt3 := heap_lt' n3
        have HB3 := Lib.hid hb3
        have HN3 := Lib.hid n3
        clear hb3 n3 n2 hb12 hb2 HU HL HN1 HB1 HW1
        go_wp2
        (try simp only [Exit.inBlock, Exit.then])
        refine blk_ret (x := .iface 55 (.int .i64 4)) (g := w.heap.size) (o := 0) (s := 0) (b := false) Tryz.results32 ?_ ?_ ?_ (blk_set HN3.out _ _ _) ?_
        · rfl
        · rfl
        · rfl
        · exact ⟨rfl, ((HB3.out.setCell (Nat.le_refl _) _).setCell (Nat.le_refl _) _).setCell (Nat.le_refl _) _⟩
      | some i =>
        rw [hi] at hU
        obtain ⟨x, hx⟩ : ∃ x, bkAt H.blks i = x := ⟨_, rfl⟩
        dsimp only [BlkTold, Option.map] at hU ⊢
        rw [hx] at hU ⊢
        obtain ⟨xo, xs, xu⟩ := x
        dsimp only [bkV, Bk.val, errV, Option.isSome] at hU ⊢
        have HU := Lib.hid hU
        clear e h h1 hw1 hb1 n1 hU hi hx
        go_enter Tryz.func32, Tryz.ntmps32
        go_wp2_with (first | (rw [HW1.out]) | fail)
        refine HL.out.mono ?_
        rintro e w2 ⟨rfl, rfl⟩
        go_wp2_with fail
        refine HU.out.mono ?_
        rintro e w2 ⟨rfl, hb2⟩
        have n2 := (hb2.block w.heap.size (heap_lt HN1.out)).trans HN1.out
        obtain ⟨w3, hw3⟩ : ∃ w3, w2.alloc (.cells #[.int .i64 (xo : Int), .int .i64 (xs : Int), .bool xu] 50) = w3 := ⟨_, rfl⟩
        have n3 : w3.heap[w.heap.size]? = some (.cells #[.int .i64 0, .int .i64 0, .bool false] 50 (0, 0)) := by rw [← hw3]; exact (heap_alloc_old _ _ (heap_lt n2)).trans n2
        have m3 : w3.heap[w2.heap.size]? = some (.cells #[.int .i64 (xo : Int), .int .i64 (xs : Int), .bool xu] 50 (0, 0)) := by rw [← hw3]; exact heap_alloc_new w2 _
        have hb12 := HB1.out.trans (hb2.mono HB1.out.size)
        have hb3 : Below w.heap.size w w3 := by rw [← hw3]; exact hb12.alloc hb12.size _
        have HNEQ := Lib.hid (show w2.heap.size ≠ w.heap.size from fun e => by have := heap_lt n2; omega)
        clear c0 c1 c2 f0 f1 f2 hlt1 k0
        obtain ⟨⟨c0, c1, c2⟩, f0, f1, f2⟩ := blk_cells n3
        obtain ⟨⟨d0, d1, d2⟩, _⟩ := blk_cells m3
        have hlt3 := heap_lt' n3
        have hlt4 := heap_lt' m3
        have HW3 := Lib.hid hw3
        have HB3 := Lib.hid hb3
        have HN3 := Lib.hid n3
        clear hw3 hb3 n3 n2 hb12 hb2 HU HL HN1 HB1 HW1 m3
        go_wp2_with (first | (rw [HW3.out]) | fail)
        (try simp only [Exit.inBlock, Exit.then])
        refine blk_ret (x := .nilIface) (g := w.heap.size) (o := (xo : Int)) (s := (xs : Int)) (b := xu) Tryz.results32 ?_ ?_ ?_ (blk_set HN3.out _ _ _) ?_
        · rfl
        · rfl
        · rfl
        · exact ⟨rfl, ((HB3.out.setCell (Nat.le_refl _) _).setCell (Nat.le_refl _) _).setCell (Nat.le_refl _) _⟩
end
end Go.Proofs.YtbldlidpapdkbaaGreat

/- The program's heap (layer 14): place, fill. -/
namespace Go.Proofs.YtbldlidpapdkbaaGreat
open Go.RowKit

section
variable {w w' : World} {q g base cap c : Nat} {A : Option Addr} {bs out : List UInt8} {H H' : Hp}
/-- The block of a handle. -/
theorem PH.blk (h : PH w q g base cap A c bs H) {p i : Nat} (hh : H.handleB p = some i) :
    ∃ xo xs, bkAt H.blks i = ⟨xo, xs, true⟩ ∧ p = xo + 8 ∧ 184 ≤ xo ∧ 32 ≤ xs ∧ xo + xs ≤ bs.length ∧ i < H.blks.length ∧ H.At i ⟨xo, xs, true⟩ (H.ds.getD i nilD) ∧ (H.ds.getD i nilD).2.length + 16 = xs ∧ xs ≤ 16384 ∧ usedB H.blks (xo : Int) = some i := by
  obtain ⟨p8, _, hu⟩ := handle_used hh
  obtain ⟨h1, h2, h3⟩ := used_at hu
  have hb := (h.rd.rt.bound (by rw [h.cp]; exact h.c16)).2 _ (List.mem_of_getElem? (bkAt_get h1))
  have hl := h.len
  have hdl : H.ds.length = H.blks.length := h.rd.dl
  have hat : H.At i (bkAt H.blks i) (H.ds.getD i nilD) := ⟨bkAt_get h1, by rw [List.getD_eq_getElem?_getD, List.getElem?_eq_getElem (by omega)]; rfl⟩
  have hd := (h.rd.ho i _ _ hat h3).1
  obtain ⟨x, hx⟩ : ∃ x, bkAt H.blks i = x := ⟨_, rfl⟩
  rw [hx] at h2 h3 hb hat hd ⊢
  obtain ⟨xo, xs, xu⟩ := x
  dsimp only at h2 h3 hb hat hd
  subst h3
  have hxo : (p : Int) - 8 = (xo : Int) := by omega
  rw [hxo] at hu
  exact ⟨xo, xs, rfl, by omega, by omega, by omega, by omega, h1, hat, hd, by omega, hu⟩

set_option maxRecDepth 100000 in
set_option maxHeartbeats 1000000 in
theorem hplace_none (h : PH w q g base cap A c bs H) (p a n : Nat) (hp : p < 18446744073709551616) (hh : H.handleB p = none) :
    Calls Tryz.prog 34 #[.pointer (some ⟨q, 0, none⟩), .int .u64 (p : Int), .int .u64 (a : Int), .int .u64 (n : Int)] w fun e w' => e = .returned (.tuple #[.int .u64 0, .iface 55 (.int .i64 4)]) ∧ Below w.heap.size w w' := by
  have hF := pfind_any h p hp
  rw [hh] at hF
  dsimp only [bkV, errV, Option.map, Option.isSome] at hF
  have HF := Lib.hid hF
  clear h hh hF
  go_enter Tryz.func34, Tryz.ntmps34
  go_wp2_with fail
  refine HF.out.mono ?_
  rintro e w2 ⟨rfl, hb⟩
  have HB := Lib.hid (hb.alloc hb.size (.cells #[.int .i64 0, .int .i64 0, .bool false] 50))
  clear hb HF
  go_wp2
  go_ret2
  exact ⟨rfl, HB.out⟩
set_option maxRecDepth 100000 in
set_option maxHeartbeats 1000000 in
theorem hplace_far (h : PH w q g base cap A c bs H) (p a n : Nat) (hp : p < 18446744073709551616) (ha : a < 18446744073709551616) (hn : n < 18446744073709551616) {i L : Nat} (hh : H.handleB p = some i) (hL : (H.ds.getD i nilD).2.length = L) (hf : L < a + n) :
    Calls Tryz.prog 34 #[.pointer (some ⟨q, 0, none⟩), .int .u64 (p : Int), .int .u64 (a : Int), .int .u64 (n : Int)] w fun e w' => e = .returned (.tuple #[.int .u64 0, .iface 55 (.int .i64 2)]) ∧ Below w.heap.size w w' := by
  have hF := pfind_any h p hp
  obtain ⟨xo, xs, hx, hpx, h184, h32, hle, hi, hat, hd, h16, hu⟩ := h.blk hh
  rw [hL] at hd
  rw [hh] at hF
  dsimp only [Option.map] at hF
  rw [hx] at hF
  dsimp only [bkV, Bk.val, errV, Option.isSome] at hF
  have HUS := Lib.hid (fun W => husable_any W (xo : Int) xs true (by omega) h16)
  have eL : xs - 16 = L := by omega
  rw [eL] at HUS
  have hL14 : L ≤ 16384 := by omega
  have HF := Lib.hid hF
  clear h hh hF hx hpx hat hu hi eL hd hL
  by_cases hal : L < a
  · have g1 : decide (L < a) = true := decide_eq_true (by omega)
    go_enter Tryz.func34, Tryz.ntmps34
    go_wp2_with fail
    refine HF.out.mono ?_
    rintro e w2 ⟨rfl, hb⟩
    obtain ⟨w3, hw3⟩ : ∃ w3, w2.alloc (.cells #[.int .i64 (xo : Int), .int .i64 (xs : Int), .bool true] 50) = w3 := ⟨_, rfl⟩
    have n3 : w3.heap[w2.heap.size]? = some (.cells #[.int .i64 (xo : Int), .int .i64 (xs : Int), .bool true] 50 (0, 0)) := by rw [← hw3]; exact heap_alloc_new w2 _
    have HB3 : Hid (Below w.heap.size w w3) := (show Below _ _ _ by rw [← hw3]; exact hb.alloc hb.size _)
    obtain ⟨⟨d0, d1, d2⟩, _⟩ := blk_cells n3
    have hlt3 := heap_lt' n3
    have HW3 := Lib.hid hw3
    clear hb HF hw3 n3
    go_wp2_with (first | (rw [HW3.out]) | fail)
    refine (HUS.out w3).mono ?_
    rintro e w4 ⟨rfl, hb4⟩
    have HB4 := Lib.hid (HB3.out.trans (hb4.mono HB3.out.size))
    clear hb4 d0 d1 d2 HB3
    go_wp2
    go_ret2
    exact ⟨rfl, HB4.out⟩
  · have g1 : decide (L < a) = false := decide_eq_false (by omega)
    obtain ⟨m, hm⟩ : ∃ m, L - a = m := ⟨_, rfl⟩
    have em : (L : Int) - (a : Int) = (m : Int) := by omega
    have g2 : decide (m < n) = true := decide_eq_true (by omega)
    have hm14 : m ≤ 16384 := by omega
    clear hm
    go_enter Tryz.func34, Tryz.ntmps34
    go_wp2_with fail
    refine HF.out.mono ?_
    rintro e w2 ⟨rfl, hb⟩
    obtain ⟨w3, hw3⟩ : ∃ w3, w2.alloc (.cells #[.int .i64 (xo : Int), .int .i64 (xs : Int), .bool true] 50) = w3 := ⟨_, rfl⟩
    have n3 : w3.heap[w2.heap.size]? = some (.cells #[.int .i64 (xo : Int), .int .i64 (xs : Int), .bool true] 50 (0, 0)) := by rw [← hw3]; exact heap_alloc_new w2 _
    have HB3 : Hid (Below w.heap.size w w3) := (show Below _ _ _ by rw [← hw3]; exact hb.alloc hb.size _)
    obtain ⟨⟨d0, d1, d2⟩, _⟩ := blk_cells n3
    have hlt3 := heap_lt' n3
    have HW3 := Lib.hid hw3
    have HN3 := Lib.hid n3
    clear hb HF hw3 n3
    go_wp2_with (first | (rw [HW3.out]) | fail)
    refine (HUS.out w3).mono ?_
    rintro e w4 ⟨rfl, hb4⟩
    have n4 := Loc.below hb4 _ _ HN3.out
    have HB4 := Lib.hid (HB3.out.trans (hb4.mono HB3.out.size))
    clear hb4 d0 d1 d2 HB3 hlt3
    obtain ⟨⟨d0, d1, d2⟩, _⟩ := blk_cells n4
    have hlt4 := heap_lt' n4
    clear n4 HN3 HW3
    go_wp2_with fail
    refine (HUS.out w4).mono ?_
    rintro e w5 ⟨rfl, hb5⟩
    have HB5 := Lib.hid (HB4.out.trans (hb5.mono HB4.out.size))
    clear hb5 d0 d1 d2 HB4 hlt4
    go_wp2
    go_ret2
    exact ⟨rfl, HB5.out⟩
set_option maxRecDepth 100000 in
set_option maxHeartbeats 1000000 in
theorem hplace_ok (h : PH w q g base cap A c bs H) (p a n : Nat) (hp : p < 18446744073709551616) (hn : n < 18446744073709551616) {i L x : Nat} (hh : H.handleB p = some i) (hL : (H.ds.getD i nilD).2.length = L) (hf : a + n ≤ L) (hx : base + p + a = x) :
    Calls Tryz.prog 34 #[.pointer (some ⟨q, 0, none⟩), .int .u64 (p : Int), .int .u64 (a : Int), .int .u64 (n : Int)] w fun e w' => e = .returned (.tuple #[.int .u64 (x : Int), .nilIface]) ∧ Below w.heap.size w w' := by
  have hF := pfind_any h p hp
  obtain ⟨xo, xs, hbk, hpx, h184, h32, hle, hi, hat, hd, h16, hu⟩ := h.blk hh
  rw [hL] at hd
  rw [hh] at hF
  dsimp only [Option.map] at hF
  rw [hbk] at hF
  dsimp only [bkV, Bk.val, errV, Option.isSome] at hF
  have HUS := Lib.hid (fun W => husable_any W (xo : Int) xs true (by omega) h16)
  have eL : xs - 16 = L := by omega
  rw [eL] at HUS
  have hL14 : L ≤ 16384 := by omega
  have HF := Lib.hid hF
  have H0 := Lib.hid h
  have hb62 := h.b62
  have hlen := h.len
  have hp14 : p ≤ 16384 := by omega
  clear h hh hF hbk hpx hat hu hi eL hd hL h184 h32 hle hlen
  have g1 : decide (L < a) = false := decide_eq_false (by omega)
  obtain ⟨m, hm⟩ : ∃ m, L - a = m := ⟨_, rfl⟩
  have em : (L : Int) - (a : Int) = (m : Int) := by omega
  have g2 : decide (m < n) = false := decide_eq_false (by omega)
  have hm14 : m ≤ 16384 := by omega
  have ha14 : a ≤ 16384 := by omega
  obtain ⟨y, hy⟩ : ∃ y, base + p = y := ⟨_, rfl⟩
  have ey : (base : Int) + (p : Int) = (y : Int) := by omega
  have ex : (y : Int) + (a : Int) = (x : Int) := by omega
  have hy63 : y ≤ 4611686018427404288 := by omega
  have hx63 : x ≤ 4611686018427420672 := by omega
  clear hm hf hy hx
  go_enter Tryz.func34, Tryz.ntmps34
  go_wp2_with fail
  refine HF.out.mono ?_
  rintro e w2 ⟨rfl, hb⟩
  obtain ⟨w3, hw3⟩ : ∃ w3, w2.alloc (.cells #[.int .i64 (xo : Int), .int .i64 (xs : Int), .bool true] 50) = w3 := ⟨_, rfl⟩
  have n3 : w3.heap[w2.heap.size]? = some (.cells #[.int .i64 (xo : Int), .int .i64 (xs : Int), .bool true] 50 (0, 0)) := by rw [← hw3]; exact heap_alloc_new w2 _
  have HB3 : Hid (Below w.heap.size w w3) := (show Below _ _ _ by rw [← hw3]; exact hb.alloc hb.size _)
  obtain ⟨⟨d0, d1, d2⟩, _⟩ := blk_cells n3
  have hlt3 := heap_lt' n3
  have HW3 := Lib.hid hw3
  have HN3 := Lib.hid n3
  clear hb HF hw3 n3
  go_wp2_with (first | (rw [HW3.out]) | fail)
  refine (HUS.out w3).mono ?_
  rintro e w4 ⟨rfl, hb4⟩
  have n4 := Loc.below hb4 _ _ HN3.out
  have HB4 := Lib.hid (HB3.out.trans (hb4.mono HB3.out.size))
  clear hb4 d0 d1 d2 HB3 hlt3
  obtain ⟨⟨d0, d1, d2⟩, _⟩ := blk_cells n4
  have hlt4 := heap_lt' n4
  clear n4 HN3 HW3
  go_wp2_with fail
  refine (HUS.out w4).mono ?_
  rintro e w5 ⟨rfl, hb5⟩
  have hb5' := HB4.out.trans (hb5.mono HB4.out.size)
  have h5 := H0.out.below hb5'
  have k0 := h5.c0
  have hlt5 := h5.lt
  have HBS := Lib.hid (base_any h5.ar)
  have HB5 := Lib.hid hb5'
  clear hb5 d0 d1 d2 HB4 hlt4 hb5' h5 H0
  go_wp2_with fail
  refine HBS.out.mono ?_
  rintro e w6 ⟨rfl, rfl⟩
  go_wp2
  go_ret2
  exact ⟨rfl, HB5.out⟩

set_option maxRecDepth 100000 in
set_option maxHeartbeats 2000000 in
theorem hfill_yes (ho : w.heap[q]? = some (.cells #[.pointer (some ⟨g, 0, none⟩)] 58 (0, 0))) (ha : Ar w 82 g base cap A c bs) (hbase : base ≤ 4611686018427387904) (hl : bs.length ≤ 16384) (o s f p : Nat) (v : UInt8) {u : Bool} (hg : getB bs (o : Int) = some ⟨o, s, u⟩) (hs : 16 ≤ s) (hos : o + s ≤ bs.length) (hf : f < s - 16) (hp : o + 8 = p) :
    Calls Tryz.prog 53 #[.pointer (some ⟨q, 0, none⟩), .int .i64 (o : Int), .int .u64 (f : Int), .int .u8 (v.toNat : Int)] w fun e w' => e = .returned (.int .u64 (p : Int)) ∧ Became 82 g base cap A (lay bs (p + f) (List.replicate (s - 16 - f) v)) w w' := by
  have hG := getC w g base cap c A bs (o : Int) _ ha hbase hl (by omega) hg
  dsimp only [BlkTold, bkV, Bk.val, errV, Option.isSome] at hG
  have HUS := Lib.hid (fun W => husable_any W (o : Int) s u (by omega) (by omega))
  obtain ⟨L, hL⟩ : ∃ L, s - 16 = L := ⟨_, rfl⟩
  rw [hL] at HUS hf ⊢
  obtain ⟨m, hm⟩ : ∃ m, L - f = m := ⟨_, rfl⟩
  rw [hm]
  have g1 : decide (f < L) = true := decide_eq_true (by omega)
  have ep : (o : Int) + 8 = (p : Int) := by omega
  have hp14 : p ≤ 16384 := by omega
  have ho14 : o ≤ 16384 := by omega
  have hf14 : f ≤ 16384 := by omega
  have hL14 : L ≤ 16384 := by omega
  have em : (L : Int) - (f : Int) = (m : Int) := by omega
  have hm14 : m ≤ 16384 := by omega
  obtain ⟨y, hy⟩ : ∃ y, base + p = y := ⟨_, rfl⟩
  obtain ⟨x, hx⟩ : ∃ x, y + f = x := ⟨_, rfl⟩
  have ey : (base : Int) + (p : Int) = (y : Int) := by omega
  have ex : (y : Int) + (f : Int) = (x : Int) := by omega
  have hy63 : y ≤ 4611686018427404288 := by omega
  have hx63 : x ≤ 4611686018427420672 := by omega
  have HFL := Lib.hid (fun W c' A' (a' : Ar W 82 g base cap A' c' bs) => fill_ok a' (by omega) x m (p + f) v (by omega) (by omega) (by omega) (by omega))
  have k0 : w.cell? ⟨q, 0, none⟩ = some (.pointer (some ⟨g, 0, none⟩)) := by rw [cell_of_row w q 0 _ _ (0, 0) ho]; rfl
  have hlq := heap_lt' ho
  have HG := Lib.hid hG
  have HA := Lib.hid ha
  have HO := Lib.hid ho
  clear hG hg ha ho hL hf hp hos hs hm hy hx
  go_enter Tryz.func53, Tryz.ntmps53
  go_wp2_with fail
  refine HG.out.mono ?_
  rintro e w2 ⟨rfl, hb⟩
  obtain ⟨w3, hw3⟩ : ∃ w3, w2.alloc (.cells #[.int .i64 (o : Int), .int .i64 (s : Int), .bool u] 50) = w3 := ⟨_, rfl⟩
  have n3 : w3.heap[w2.heap.size]? = some (.cells #[.int .i64 (o : Int), .int .i64 (s : Int), .bool u] 50 (0, 0)) := by rw [← hw3]; exact heap_alloc_new w2 _
  have HB3 : Hid (Below w.heap.size w w3) := (show Below _ _ _ by rw [← hw3]; exact hb.alloc hb.size _)
  obtain ⟨⟨d0, d1, d2⟩, _⟩ := blk_cells n3
  have hlt3 := heap_lt' n3
  have HW3 := Lib.hid hw3
  clear hb HG hw3 n3 k0
  go_wp2_with (first | (rw [HW3.out]) | fail)
  refine (HUS.out w3).mono ?_
  rintro e w4 ⟨rfl, hb4⟩
  have hb4' := HB3.out.trans (hb4.mono HB3.out.size)
  obtain ⟨wd, hwd⟩ : ∃ wd, w4.drew = wd := ⟨_, rfl⟩
  have hbd : Below w.heap.size w wd := by rw [← hwd]; exact hb4'.drew
  have had := HA.out.below hbd
  have k0 : wd.cell? ⟨q, 0, none⟩ = some (.pointer (some ⟨g, 0, none⟩)) := by rw [cell_of_row wd q 0 _ _ (0, 0) ((hbd.block q (heap_lt HO.out)).trans HO.out)]; rfl
  have hlq4 : q < wd.heap.size := Nat.lt_of_lt_of_le (heap_lt HO.out) hbd.size
  have HBS := Lib.hid (base_any had)
  have HF4 := Lib.hid (HFL.out wd c A had)
  have HBD := Lib.hid hbd
  have HWD := Lib.hid hwd
  clear hb4 d0 d1 d2 HB3 hlt3 hb4' had hbd hwd HA HO HFL
  go_wp2_with fail
  refine wp_region_tail wd.heap.size [([0, 1, 2, 3, 4, 5, 6, 7, 9, 11, 13, 14, 15, 16], 8)] [10, 12] [17] (by kernel_rfl) (by kernel_rfl) (by kernel_rfl) (fun _ _ _ _ _ h => h) ?_
  rw [HWD.out]
  have q0 : ∀ z : LaterB wd.heap.size wd, z.val.cell? ⟨q, 0, none⟩ = some (.pointer (some ⟨g, 0, none⟩)) := fun z => (z.ext.cell (p := ⟨q, 0, none⟩) hlq4).trans k0
  refine tail_cons (l := ?seg1) ?hseg1 ?_
  case hseg1 => simp only [pick, List.getElem?_toArray, List.getElem?_cons_succ, List.getElem?_cons_zero]; rfl
  repeat (go_big_quiet_step (fail))
  refine wpQuiet_nil ?_
  clear q0 k0
  refine tail_call (vs := #[.pointer (some ⟨g, 0, none⟩)]) Tryz.call29 rfl rfl rfl (R := fun r w' => r = .int .u64 (base : Int) ∧ w' = wd) (HBS.out.mono ?_) wd.heap.size (Nat.le_refl _) ?_
  · rintro e w' ⟨rfl, rfl⟩
    exact ⟨_, rfl, Below.refl _ _, rfl, rfl⟩
  rintro r w5 _ ⟨rfl, rfl⟩
  refine tail_last (l := ?la2) (t := ?tl2) ?hla2 ?htl2 ?_
  case hla2 => simp only [pick, List.getElem?_toArray, List.getElem?_cons_succ, List.getElem?_cons_zero]; rfl
  case htl2 => simp only [pick, List.getElem?_toArray, List.getElem?_cons_succ, List.getElem?_cons_zero]; rfl
  simp only [Act.put, List.setIfInBounds_toArray, List.set_cons_zero, List.set_cons_succ]
  repeat (go_big_quiet_step (fail))
  refine wpQuiet_nil ?_
  clear HBS
  go_wp2_with fail
  refine HF4.out.mono ?_
  rintro e w6 ⟨rfl, hbe⟩
  have HE := Lib.hid (hbe.after HBD.out)
  clear hbe HF4
  go_wp2
  go_ret
  exact ⟨rfl, HE.out⟩
end
end Go.Proofs.YtbldlidpapdkbaaGreat

/- The program's heap (layer 14): take, Malloc, Calloc, Free. -/
namespace Go.Proofs.YtbldlidpapdkbaaGreat
open Go.RowKit

/-- No error, or one of api's, by its number. -/
def errN (k : Int) : Value := if k = 0 then .nilIface else .iface 55 (.int .i64 k)
theorem errN_0 : errN 0 = .nilIface := rfl
theorem errN_1 : errN 1 = .iface 55 (.int .i64 1) := rfl
theorem errN_3 : errN 3 = .iface 55 (.int .i64 3) := rfl
/-- The heap is another one. -/
def PTurn (g base cap : Nat) (A : Option Addr) (H' : Hp) (w w' : World) : Prop := ∃ out, Became 82 g base cap A out w w' ∧ RtD out H'
/-- A handle, an error's number, the heap then. -/
def PGets (g base cap : Nat) (A : Option Addr) (r : (Nat × Int) × Hp) (w : World) (e : Ending) (w' : World) : Prop :=
  e = .returned (.tuple #[.int .u64 (r.1.1 : Int), errN r.1.2]) ∧ PTurn g base cap A r.2 w w'
section
variable {w w' : World} {q g base cap c : Nat} {A : Option Addr} {bs out : List UInt8} {H H' : Hp}
theorem PH.stay (h : PH w q g base cap A c bs H) (hb : Below w.heap.size w w') : PTurn g base cap A H w w' := ⟨bs, became_of h.ar hb, h.rd⟩
theorem PTurn.ph (h : PH w q g base cap A c bs H) (ht : PTurn g base cap A H' w w') (hc : H'.cap = cap) : ∃ A' c' out, PH w' q g base cap A' c' out H' ∧ Tch (foot g A) w w' ∧ (A' = A ∨ ∀ a, A' = some a → w.heap.size ≤ a.block) := by
  obtain ⟨out, hb, hr⟩ := ht
  obtain ⟨A', c', h1, h2, h3⟩ := h.became hb hr hc
  exact ⟨A', c', out, h1, h2, h3⟩
theorem PTurn.more {w1 w2 : World} (h : PTurn g base cap A H' w w1) (hb : Below w1.heap.size w1 w2) : PTurn g base cap A H' w w2 := by
  obtain ⟨out, hb1, hr⟩ := h
  exact ⟨out, became_below hb1 hb, hr⟩
theorem rt_get {H : Hp} (h : Rt bs H) (hc : H.cap ≤ 16384) {y : Bk} (hy : y ∈ H.blks) : getB bs (y.off : Int) = some y := (h.md hc).ls.st.at_ _ hy
/-- The size that is needed. -/
theorem get_none {n : Nat} {x : UInt8} (hs : needN n = none) : H.get n x = ((0, 5), H) := by unfold Hp.get; rw [hs]
theorem get_full {n s : Nat} {x : UInt8} (hs : needN n = some s) (ht : (H.take s).1 = none) : H.get n x = ((0, 5), H) := by unfold Hp.get; rw [hs]; dsimp only; rw [ht]
theorem get_some {n s o i : Nat} {x : UInt8} (hs : needN n = some s) (ht : (H.take s).1 = some o) (hi : atB (o : Int) (H.take s).2.blks = some i) : H.get n x = ((o + 8, 0), ((H.take s).2.wipe i).fill i x) := by unfold Hp.get; rw [hs]; dsimp only; rw [ht]; dsimp only; rw [hi]

set_option maxRecDepth 100000 in
set_option maxHeartbeats 2000000 in
theorem htake_any (h : PH w q g base cap A c bs H) (n : Nat) (hn : n < 18446744073709551616) (v : UInt8) :
    Calls Tryz.prog 31 #[.pointer (some ⟨q, 0, none⟩), .int .u64 (n : Int), .int .u8 (v.toNat : Int)] w fun e w' => PGets g base cap A (H.get n v) w e w' := by
  have hN := needC w n hn
  cases hs : needN n with
  | none =>
    rw [hs] at hN
    dsimp only [needV] at hN
    have HN := Lib.hid hN
    have HG := Lib.hid (get_none (H := H) (x := v) hs)
    have H0 := Lib.hid h
    clear h hN hs
    go_enter Tryz.func31, Tryz.ntmps31
    go_wp2_with fail
    refine HN.out.mono ?_
    rintro e w2 ⟨rfl, hb⟩
    have HT := Lib.hid (H0.out.stay hb)
    clear hb HN H0
    go_wp2
    go_ret2
    rw [HG.out]
    exact ⟨rfl, HT.out⟩
  | some s =>
    have hsz := need_sz hs
    have hss := (isSz_iff _).1 hsz
    rw [hs] at hN
    dsimp only [needV] at hN
    have HN := Lib.hid hN
    have hK : ∀ w1, Below w.heap.size w w1 → Calls Tryz.prog 52 #[.pointer (some ⟨g, 0, none⟩), .int .i64 (s : Int)] w1 fun e w' => TurnedAt g base cap A bs H (H.take s) w1 e w' := fun w1 hb => by
      have := (takeK w1 g base cap c A bs H (s : Int) (h.ar.below hb) h.b62 h.c16 h.cp h.rd.rt ⟨by omega, by omega⟩).2 hsz
      rw [Int.toNat_natCast] at this
      exact this
    cases ht : (H.take s).1 with
    | none =>
      unfold TurnedAt at hK
      rw [ht] at hK
      dsimp only [errV] at hK
      have HK := Lib.hid hK
      have HG := Lib.hid (get_full (H := H) (x := v) hs ht)
      have H0 := Lib.hid h
      have k0 : ∀ w1, Below w.heap.size w w1 → w1.cell? ⟨q, 0, none⟩ = some (.pointer (some ⟨g, 0, none⟩)) := fun w1 hb => (h.below hb).c0
      have K0 := Lib.hid k0
      have hlq := h.lt
      clear h hN hs hK ht k0 hsz
      go_enter Tryz.func31, Tryz.ntmps31
      go_wp2_with fail
      refine HN.out.mono ?_
      rintro e w2 ⟨rfl, hb⟩
      have k2 := K0.out w2 hb
      have hlq2 := Nat.lt_of_lt_of_le hlq hb.size
      have HK2 := Lib.hid (HK.out w2 hb)
      have HB2 := Lib.hid hb
      clear hb HN HK K0
      go_wp2_with fail
      refine HK2.out.mono ?_
      rintro e w3 ⟨rfl, hb3⟩
      have HT := Lib.hid (H0.out.stay (HB2.out.trans (hb3.mono HB2.out.size)))
      clear hb3 H0 HB2 HK2 k2
      go_wp2
      go_ret2
      rw [HG.out]
      exact ⟨rfl, HT.out⟩
    | some o =>
      unfold TurnedAt at hK
      rw [ht] at hK
      dsimp only [errV] at hK
      have hcap2 : (H.take s).2.cap = cap := take_cap.trans h.cp
      have hGOT := fun out h1 hh => h.rd.got (s := s) (out := out) hsz ht h1 hh v
      have HGS := Lib.hid (fun i hi => get_some (H := H) (x := v) (i := i) hs ht hi)
      obtain ⟨H1, hH1⟩ : ∃ H1, (H.take s).2 = H1 := ⟨_, rfl⟩
      rw [hH1] at hK hGOT hcap2 HGS
      have HGOT := Lib.hid hGOT
      have HK := Lib.hid hK
      have H0 := Lib.hid h
      have k0 : ∀ w1, Below w.heap.size w w1 → w1.cell? ⟨q, 0, none⟩ = some (.pointer (some ⟨g, 0, none⟩)) := fun w1 hb => (h.below hb).c0
      have K0 := Lib.hid k0
      have hlq := h.lt
      have HC2 := Lib.hid hcap2
      clear h hN hs hK ht k0 hH1 hGOT hcap2 hsz
      go_enter Tryz.func31, Tryz.ntmps31
      go_wp2_with fail
      refine HN.out.mono ?_
      rintro e w2 ⟨rfl, hb⟩
      have k2 := K0.out w2 hb
      have hlq2 := Nat.lt_of_lt_of_le hlq hb.size
      have HK2 := Lib.hid (HK.out w2 hb)
      have HB2 := Lib.hid hb
      clear hb HN HK K0
      go_wp2_with fail
      refine HK2.out.mono ?_
      rintro e w3 ⟨rfl, out, hbe, hr1, hh1⟩
      obtain ⟨i, y, hi, hy, hyo, hyu, hys, hyl, hrd⟩ := HGOT.out out hr1 hh1
      obtain ⟨A3, c3, a3, t3, m3⟩ := hbe.after HB2.out
      have ho3 := (t3.block q H0.out.lt H0.out.ap).trans H0.out.obj
      have hout : out.length ≤ 16384 := (hr1.bound (by rw [HC2.out]; exact H0.out.c16)).1
      have hgb := rt_get hr1 (by rw [HC2.out]; exact H0.out.c16) (List.mem_of_getElem? hy)
      obtain ⟨yo, ys, yu⟩ := y
      dsimp only at hyo hyu hys hyl hrd hgb
      subst hyo
      have hf := hfill_yes ho3 a3 H0.out.b62 hout yo ys 0 (yo + 8) v hgb (by omega) (by omega) (by omega) rfl
      rw [Nat.add_zero, Nat.sub_zero, show ((0 : Nat) : Int) = 0 from rfl] at hf
      have HF := Lib.hid hf
      have HRD := Lib.hid hrd
      have HGI := Lib.hid (HGS.out i hi)
      have HTR := Lib.hid (fun b4 w4 (k : Became 82 g base cap A3 b4 w3 w4) => Became.trans a3 t3 m3 k)
      clear hbe hr1 hh1 hi hy hyu hyl hrd a3 t3 m3 ho3 hgb hf HGOT HGS HK2 HB2 k2 hlq2
      go_wp2_with fail
      refine HF.out.mono ?_
      rintro e w4 ⟨rfl, hb4⟩
      have HT := Lib.hid (HTR.out _ _ hb4)
      clear hb4 HF HTR
      go_wp2
      go_ret2
      rw [HGI.out]
      exact ⟨rfl, _, HT.out, HRD.out⟩

set_option maxRecDepth 100000 in
set_option maxHeartbeats 400000 in
theorem hmalloc_any (h : PH w q g base cap A c bs H) (n : Nat) (hn : n < 18446744073709551616) :
    Calls Tryz.prog 12 #[.pointer (some ⟨q, 0, none⟩), .int .u64 (n : Int)] w fun e w' => PGets g base cap A (H.get n 165) w e w' := by
  have HK : Hid (Calls Tryz.prog 31 #[.pointer (some ⟨q, 0, none⟩), .int .u64 (n : Int), .int .u8 165] w fun e w' => PGets g base cap A (H.get n 165) w e w') := htake_any h n hn 165
  clear h
  go_enter Tryz.func12, Tryz.ntmps12
  go_wp2_with fail
  refine HK.out.mono ?_
  rintro e w2 ⟨rfl, ht⟩
  have HT := Lib.hid ht
  clear ht HK
  go_wp2
  go_ret2
  exact ⟨rfl, HT.out⟩
end
end Go.Proofs.YtbldlidpapdkbaaGreat

/- The program's heap (layer 14): Mul64's product, Calloc, Usable; an error's number. -/
namespace Go.Proofs.YtbldlidpapdkbaaGreat
open Go.RowKit

section
theorem m64_and (a : Nat) (ha : a < 18446744073709551616) : bits .and .u64 (a : Int) 4294967295 = ((a % 4294967296 : Nat) : Int) := by
  have h := bits_and_u64_nat a 4294967295 ha (by omega)
  rw [show a &&& 4294967295 = a % 4294967296 from Nat.and_two_pow_sub_one_eq_mod a 32] at h
  exact h
theorem m64_div (a : Nat) : (a : Int) / 4294967296 = ((a / 4294967296 : Nat) : Int) := by omega
theorem m64_mul (a b : Nat) : (a : Int) * (b : Int) = ((a * b : Nat) : Int) := (Int.natCast_mul a b).symm
theorem m64_add (a b : Nat) : (a : Int) + (b : Int) = ((a + b : Nat) : Int) := (Int.natCast_add a b).symm
theorem m64_in (a : Nat) (ha : a < 18446744073709551616) : IntKind.u64.wrap (a : Int) = (a : Int) := by rw [IntKind.wrap_u64]; omega
theorem m64_mod (a : Nat) : IntKind.u64.wrap (a : Int) = ((a % 18446744073709551616 : Nat) : Int) := by rw [IntKind.wrap_u64]; omega
set_option maxHeartbeats 1000000 in
theorem mul64_any (w : World) (x y : Nat) (hx : x < 18446744073709551616) (hy : y < 18446744073709551616) :
    Calls Tryz.prog 35 #[.int .u64 (x : Int), .int .u64 (y : Int)] w fun e w' => e = .returned (.tuple #[.int .u64 ((x * y / 18446744073709551616 : Nat) : Int), .int .u64 ((x * y % 18446744073709551616 : Nat) : Int)]) ∧ w = w' := by
  obtain ⟨bd, bt, bw, hhi⟩ := Lib.mul64_hi x y hx hy
  have ba := Lib.half_mul_le (a := x / 4294967296) (b := y / 4294967296) (by omega) (by omega)
  have bb := Lib.half_mul_le (a := x / 4294967296) (b := y % 4294967296) (by omega) (by omega)
  have bc := Lib.half_mul_le (a := x % 4294967296) (b := y / 4294967296) (by omega) (by omega)
  have ba' : x / 4294967296 * (y / 4294967296) < 18446744073709551616 := by omega
  have bb' : x / 4294967296 * (y % 4294967296) < 18446744073709551616 := by omega
  have bc' : x % 4294967296 * (y / 4294967296) < 18446744073709551616 := by omega
  have bh1 : x / 4294967296 * (y / 4294967296) + (x / 4294967296 * (y % 4294967296) + x % 4294967296 * (y % 4294967296) / 4294967296) / 4294967296 < 18446744073709551616 := by omega
  have bh : x / 4294967296 * (y / 4294967296) + (x / 4294967296 * (y % 4294967296) + x % 4294967296 * (y % 4294967296) / 4294967296) / 4294967296 + ((x / 4294967296 * (y % 4294967296) + x % 4294967296 * (y % 4294967296) / 4294967296) % 4294967296 + x % 4294967296 * (y / 4294967296)) / 4294967296 < 18446744073709551616 := by omega
  go_enter Tryz.func35, Tryz.ntmps35
  go_wp2
  simp only [m64_and x hx, m64_and y hy, m64_div, m64_mul, m64_add, m64_in _ bd, m64_in _ bb', m64_in _ bt, m64_and _ bt, m64_in _ bc', m64_in _ bw, m64_in _ ba', m64_in _ bh1, m64_in _ bh, m64_mod (x * y)]
  rw [hhi]
  go_ret2
  exact ⟨rfl, rfl⟩
end

section
variable {w w' : World} {q g base cap c : Nat} {A : Option Addr} {bs out : List UInt8} {H H' : Hp}
set_option maxRecDepth 100000 in
set_option maxHeartbeats 1000000 in
theorem hcalloc_prog (h : PH w q g base cap A c bs H) (n m : Nat) (hn : n < 18446744073709551616) (hm : m < 18446744073709551616) :
    Calls Tryz.prog 16 #[.pointer (some ⟨q, 0, none⟩), .int .u64 (n : Int), .int .u64 (m : Int)] w fun e w' => PGets g base cap A (H.calloc n m) w e w' := by
  have hM := mul64_any w n m hn hm
  obtain ⟨k, hk⟩ : ∃ k, n * m = k := ⟨_, rfl⟩
  obtain ⟨z, hz⟩ : ∃ z, k / 18446744073709551616 = z := ⟨_, rfl⟩
  obtain ⟨l, hl⟩ : ∃ l, k % 18446744073709551616 = l := ⟨_, rfl⟩
  rw [hk, hz, hl] at hM
  have HM := Lib.hid hM
  by_cases hbig : 18446744073709551615 < k
  · have e : H.calloc n m = ((0, 5), H) := by unfold Hp.calloc; rw [hk, if_pos hbig]
    have hz0 : z ≠ 0 := by omega
    have g1 : ((z : Int) != 0) = true := by rw [bne_iff_ne]; omega
    have HE := Lib.hid e
    have HT := Lib.hid (h.stay (Below.refl _ _))
    clear h hM hk hz hl e
    go_enter Tryz.func16, Tryz.ntmps16
    go_wp2_with fail
    refine HM.out.mono ?_
    rintro e w2 ⟨rfl, rfl⟩
    go_wp2
    go_ret2
    rw [HE.out]
    exact ⟨rfl, HT.out⟩
  · have e : H.calloc n m = H.get k 0 := by unfold Hp.calloc; rw [hk, if_neg hbig]
    obtain rfl : z = 0 := by omega
    obtain rfl : l = k := by omega
    have HE := Lib.hid e
    have HK : Hid (Calls Tryz.prog 31 #[.pointer (some ⟨q, 0, none⟩), .int .u64 (l : Int), .int .u8 0] w fun e w' => PGets g base cap A (H.get l 0) w e w') := htake_any h l (by omega) 0
    clear h hM hk hz hl e
    go_enter Tryz.func16, Tryz.ntmps16
    go_wp2_with fail
    refine HM.out.mono ?_
    rintro e w2 ⟨rfl, rfl⟩
    go_wp2_with fail
    refine HK.out.mono ?_
    rintro e w2 ⟨rfl, ht⟩
    have HT := Lib.hid ht
    clear ht HK HM
    go_wp2
    go_ret2
    rw [HE.out]
    exact ⟨rfl, HT.out⟩
/-- How many bytes a handle holds. -/
def Hp.usableP (H : Hp) (p : Nat) : Nat × Int := match H.handleB p with
  | none => (0, 4)
  | some i => ((H.ds.getD i nilD).2.length, 0)
set_option maxRecDepth 100000 in
set_option maxHeartbeats 1000000 in
theorem husablep_any (h : PH w q g base cap A c bs H) (p : Nat) (hp : p < 18446744073709551616) :
    Calls Tryz.prog 14 #[.pointer (some ⟨q, 0, none⟩), .int .u64 (p : Int)] w fun e w' => e = .returned (.tuple #[.int .u64 ((H.usableP p).1 : Int), errN (H.usableP p).2]) ∧ Below w.heap.size w w' := by
  unfold Hp.usableP
  have hF := pfind_any h p hp
  cases hh : H.handleB p with
  | none =>
    rw [hh] at hF
    dsimp only [bkV, errV, Option.map, Option.isSome] at hF
    have HF := Lib.hid hF
    clear h hF hh
    go_enter Tryz.func14, Tryz.ntmps14
    go_wp2_with fail
    refine HF.out.mono ?_
    rintro e w2 ⟨rfl, hb⟩
    have HT := Lib.hid (hb.alloc hb.size (.cells #[.int .i64 0, .int .i64 0, .bool false] 50))
    clear hb HF
    go_wp2
    go_ret2
    exact ⟨rfl, HT.out⟩
  | some i =>
    obtain ⟨xo, xs, hbk, hpx, h184, h32, hle, hi, hat, hd, h16, hu⟩ := h.blk hh
    rw [hh] at hF
    dsimp only [Option.map] at hF
    rw [hbk] at hF
    dsimp only [bkV, Bk.val, errV, Option.isSome] at hF ⊢
    have HUS := Lib.hid (fun W => husable_any W (xo : Int) xs true (by omega) h16)
    obtain ⟨L, hL⟩ : ∃ L, (H.ds.getD i nilD).2.length = L := ⟨_, rfl⟩
    rw [hL] at hd ⊢
    have eL : xs - 16 = L := by omega
    rw [eL] at HUS
    have hL14 : L ≤ 16384 := by omega
    have HF := Lib.hid hF
    clear h hF hh hbk hpx hat hd hu hi hL eL
    go_enter Tryz.func14, Tryz.ntmps14
    go_wp2_with fail
    refine HF.out.mono ?_
    rintro e w2 ⟨rfl, hb⟩
    obtain ⟨w3, hw3⟩ : ∃ w3, w2.alloc (.cells #[.int .i64 (xo : Int), .int .i64 (xs : Int), .bool true] 50) = w3 := ⟨_, rfl⟩
    have n3 : w3.heap[w2.heap.size]? = some (.cells #[.int .i64 (xo : Int), .int .i64 (xs : Int), .bool true] 50 (0, 0)) := by rw [← hw3]; exact heap_alloc_new w2 _
    have HB3 : Hid (Below w.heap.size w w3) := (show Below _ _ _ by rw [← hw3]; exact hb.alloc hb.size _)
    obtain ⟨⟨d0, d1, d2⟩, _⟩ := blk_cells n3
    have hlt3 := heap_lt' n3
    have HW3 := Lib.hid hw3
    clear hb HF hw3 n3
    go_wp2_with (first | (rw [HW3.out]) | fail)
    refine (HUS.out w3).mono ?_
    rintro e w4 ⟨rfl, hb4⟩
    have HB4 := Lib.hid (HB3.out.trans (hb4.mono HB3.out.size))
    clear hb4 d0 d1 d2 HB3
    go_wp2
    go_ret2
    exact ⟨rfl, HB4.out⟩
end

section
variable {w : World}
end
end Go.Proofs.YtbldlidpapdkbaaGreat

/- The program's heap (layer 14): Read, Write. -/
namespace Go.Proofs.YtbldlidpapdkbaaGreat
open Go.RowKit

/-- Bytes, an error's number. -/
def Hp.readP (H : Hp) (p a n : Nat) : List UInt8 × Int := match H.handleB p with
  | none => ([], 4)
  | some i => if (H.ds.getD i nilD).2.length < a + n then ([], 2) else (((H.ds.getD i nilD).2.drop a).take n, 0)
/-- Bytes of the call's own, and an error. -/
def PBytes (r : List UInt8 × Int) (w : World) (e : Ending) (w' : World) : Prop :=
  ∃ A' c', e = .returned (.tuple #[.slice A' r.1.length c', errN r.2]) ∧ w'.ownsRow w.heap.size 5 1 (.slice A' r.1.length c') r.1.length (r.1.map bv) ∧ Below w.heap.size w w'
section
variable {w w' : World} {q g base cap c : Nat} {A : Option Addr} {bs out : List UInt8} {H H' : Hp}
theorem PBytes.none_ {k : Int} (hb : Below w.heap.size w w') : PBytes ([], k) w (.returned (.tuple #[.slice none 0 0, errN k])) w' := ⟨none, 0, rfl, World.ownsRow_nil _ _ _ _, hb⟩
theorem ownB_mono {w : World} {B B' n : Nat} {t : TypeId} {v : Value} {l : List Value} (h : w.ownsRow B t 1 v n l) (hB : B' ≤ B) : w.ownsRow B' t 1 v n l :=
  ⟨h.1, h.2.imp id fun ⟨g', cap', cur, a, b, c⟩ => ⟨g', cap', cur, a, Nat.le_trans hB b, c⟩⟩
theorem PH.part (h : PH w q g base cap A c bs H) {i xo xs a n : Nat} (hat : H.At i ⟨xo, xs, true⟩ (H.ds.getD i nilD)) (hf : a + n ≤ (H.ds.getD i nilD).2.length) : (bs.drop (xo + 8 + a)).take n = ((H.ds.getD i nilD).2.drop a).take n := by
  obtain ⟨h1, h2⟩ := h.rd.ho i _ _ hat rfl
  refine List.ext_getElem? fun k => ?_
  by_cases hk : k < n
  · rw [List.getElem?_take_of_lt hk, List.getElem?_take_of_lt hk, List.getElem?_drop, List.getElem?_drop]
    have := h2 (a + k) (by omega)
    dsimp only at this
    rw [← this]
    congr 1
    omega
  · rw [List.getElem?_eq_none (by rw [List.length_take]; omega), List.getElem?_eq_none (by rw [List.length_take]; omega)]

set_option maxRecDepth 100000 in
set_option maxHeartbeats 1000000 in
theorem hread_any (h : PH w q g base cap A c bs H) (p a n : Nat) (hp : p < 18446744073709551616) (ha : a < 18446744073709551616) (hn : n < 18446744073709551616) :
    Calls Tryz.prog 15 #[.pointer (some ⟨q, 0, none⟩), .int .u64 (p : Int), .int .u64 (a : Int), .int .u64 (n : Int)] w fun e w' => PBytes (H.readP p a n) w e w' := by
  unfold Hp.readP
  cases hh : H.handleB p with
  | none =>
    dsimp only
    have HF := Lib.hid (hplace_none h p a n hp hh)
    clear h hh
    go_enter Tryz.func15, Tryz.ntmps15
    go_wp2_with fail
    refine HF.out.mono ?_
    rintro e w2 ⟨rfl, hb⟩
    have HT := Lib.hid hb
    clear hb HF
    go_wp2
    go_ret2
    exact PBytes.none_ HT.out
  | some i =>
    dsimp only
    obtain ⟨L, hL⟩ : ∃ L, (H.ds.getD i nilD).2.length = L := ⟨_, rfl⟩
    by_cases hf : L < a + n
    · rw [if_pos (by omega)]
      have HF := Lib.hid (hplace_far h p a n hp ha hn hh hL hf)
      clear h hh hL
      go_enter Tryz.func15, Tryz.ntmps15
      go_wp2_with fail
      refine HF.out.mono ?_
      rintro e w2 ⟨rfl, hb⟩
      have HT := Lib.hid hb
      clear hb HF
      go_wp2
      go_ret2
      exact PBytes.none_ HT.out
    · rw [if_neg (by omega)]
      obtain ⟨xo, xs, hbk, hpx, h184, h32, hle, hi, hat, hd, h16, hu⟩ := h.blk hh
      have hl := h.len
      have hpart := h.part (a := a) (n := n) hat (by omega)
      obtain ⟨x, hx⟩ : ∃ x, base + p + a = x := ⟨_, rfl⟩
      have HF := Lib.hid (hplace_ok h p a n hp hn hh hL (by omega) hx)
      have hb62 := h.b62
      obtain ⟨ys, hys⟩ : ∃ ys, ((H.ds.getD i nilD).2.drop a).take n = ys := ⟨_, rfl⟩
      have HLD : ∀ W, Below w.heap.size w W → Calls Tryz.prog 28 #[.pointer (some ⟨g, 0, none⟩), .int .u64 (x : Int), .int .u64 (n : Int)] W fun e w' => Told ys W e w' := fun W hb => by
        have := load_ok (h.ar.below hb) (by omega) x n (xo + 8 + a) (by omega) (by omega) (by omega) (by omega)
        rw [hpart, hys] at this
        exact this
      rw [hys]
      have HLD := Lib.hid HLD
      have H0 := Lib.hid h
      clear h hh hL hf hbk hpx hat hd hu hi hpart hys hx hl h184 h32 hle h16 hb62
      go_enter Tryz.func15, Tryz.ntmps15
      go_wp2_with fail
      refine HF.out.mono ?_
      rintro e w2 ⟨rfl, hb⟩
      have k0 := (H0.out.below hb).c0
      have hlq := (H0.out.below hb).lt
      have HL2 := Lib.hid (HLD.out w2 hb)
      have HB := Lib.hid hb
      clear hb HF H0 HLD
      go_wp2_with fail
      refine HL2.out.mono ?_
      rintro e w3 ⟨A', c', rfl, ho, hb3⟩
      have HT : Hid (PBytes (ys, 0) w (.returned (.tuple #[.slice A' ys.length c', errN 0])) w3) := ⟨A', c', rfl, ownB_mono ho HB.out.size, HB.out.trans (hb3.mono HB.out.size)⟩
      clear ho hb3 HL2 HB k0
      go_wp2
      go_ret2
      exact HT.out
end
end Go.Proofs.YtbldlidpapdkbaaGreat
