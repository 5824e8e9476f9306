/- Texts of mine, joined: Res3, Res4. -/
import Derived.Test.YtbemaoncakcnjaaK11

/- The document's Bytes of an image (genres3.py). -/
namespace Go.Proofs.Ytbemaoncakcnjaa
open Go.RowKit

section
variable (w : World)
set_option maxHeartbeats 1000000 in
theorem rsetB_own (A : Option Addr) (c : Nat) (bs : List UInt8) (hr : Rd w w.heap.size A bs.length bs) (hA0 : A = none → c = 0) (hl : bs.length ≤ 100000) (o s : Nat) (u : Bool) (hs : isSz (s : Int) = true) (hc : could bs.length (o : Int) (s : Int) = true) (v : Nat) (hv : packN (s : Int) u = v) :
    Calls Try.prog 34 #[.slice A bs.length c, .agg #[.int .i64 (o : Int), .int .i64 (s : Int), .bool u]] w fun e w' => ∃ A' c', e = .returned (.tuple #[.slice A' bs.length c', .bool true]) ∧ w'.ownsRow w.heap.size 5 1 (.slice A' bs.length c') bs.length ((layN (layN bs o v) (o + s - 8) v).map bv) ∧ Below w.heap.size w w' := by
  have h1 := (isSz_iff _).1 hs
  have h2 := (could_iff _ _ _).1 hc
  have hv2 : v < 18446744073709551616 := by rw [← hv]; have := packN_lt (s : Int) u; omega
  have HI := Lib.hid (fun w => rissize_any w (s : Int) (by omega) true hs)
  have HC := Lib.hid (fun w => rcould_any w A bs.length c (by omega) (o : Int) (s : Int) (by omega) true hc)
  have HP := Lib.hid (fun w => rpack_any w (s : Int) u (by omega) v hv)
  obtain ⟨w1, hw1⟩ : ∃ w1, (w.alloc (.cells #[.int .i64 (o : Int), .int .i64 (s : Int), .bool u] 65)) = w1 := ⟨_, rfl⟩
  obtain ⟨w0, hw0⟩ : ∃ w0, w1.drew = w0 := ⟨_, rfl⟩
  have hbl : Below w.heap.size w w0 := by rw [← hw0, ← hw1]; exact ((Below.refl _ _).alloc (Nat.le_refl _) _).drew
  have hn1 : w1.heap[w.heap.size]? = some (.cells #[.int .i64 (o : Int), .int .i64 (s : Int), .bool u] 65 (0, 0)) := by rw [← hw1]; exact heap_alloc_new w _
  have hn0 : w0.heap[w.heap.size]? = some (.cells #[.int .i64 (o : Int), .int .i64 (s : Int), .bool u] 65 (0, 0)) := by rw [← hw0]; exact hn1
  have r0 := (hr.below hbl).more hbl.size
  have hL1 := rlay_any w0 A c w0.heap.size bs r0 (Nat.le_refl _) hA0 hl o v hv2 (by omega)
  have e1 := layN_length bs o v (by omega)
  have hlt0 := heap_lt' hn0
  obtain ⟨⟨c0, c1, c2⟩, _⟩ := blk_cells hn0
  obtain ⟨⟨d0, d1, d2⟩, _⟩ := blk_cells hn1
  have HL1 := Lib.hid hL1
  have HE1 := Lib.hid e1
  have HW1 := Lib.hid hw1
  have HW0 := Lib.hid hw0
  have HB := Lib.hid hbl
  have HA0 := Lib.hid hA0
  clear hr hA0 hs hc hv hw1 hw0 hbl hn1 hn0 r0 hL1 e1
  go_enter Try.func34, Try.ntmps34
  go_wp2_with fail
  rw [HW1.out]
  with_reducible refine (HI.out _).mono ?_
  rintro e w2 ⟨rfl, rfl⟩
  go_wp2_with fail
  with_reducible refine (HC.out _).mono ?_
  rintro e w2 ⟨rfl, rfl⟩
  go_wp2_with fail
  with_reducible refine (HP.out _).mono ?_
  rintro e w2 ⟨rfl, rfl⟩
  go_wp2_with fail
  refine wp_region_tail w0.heap.size [([0, 1, 2, 3, 5, 6, 7, 8, 9, 10, 11], 4), ([], 12)] [13, 14] [] (by kernel_rfl) (by kernel_rfl) (by kernel_rfl) (fun _ _ _ _ _ h => h) ?_
  rw [HW0.out]
  clear d0 d1 d2 HW1 HI HC HP
  have z0 : ∀ x : LaterB w0.heap.size w0, x.val.cell? ⟨w.heap.size, 0, none⟩ = some (.int .i64 (o : Int)) := fun x => (x.ext.cell (p := ⟨w.heap.size, 0, none⟩) hlt0).trans c0
  have z1 : ∀ x : LaterB w0.heap.size w0, x.val.cell? ⟨w.heap.size, 1, none⟩ = some (.int .i64 (s : Int)) := fun x => (x.ext.cell (p := ⟨w.heap.size, 1, none⟩) hlt0).trans c1
  refine tail_cons (l := ?seg1) ?hseg1 ?_
  case hseg1 => simp only [pick, List.getElem?_toArray, List.getElem?_cons_succ, List.getElem?_cons_zero]; rfl
  repeat (go_big_quiet_step (fail))
  refine wpQuiet_nil ?_
  clear z0 z1 c0 c1 c2
  refine tail_call2 (vs := #[.slice A bs.length c, .int .i64 (o : Int), .int .u64 (v : Int)]) Try.call56 rfl rfl rfl (R := fun r w' => ∃ A1 c1, r = .slice A1 bs.length c1 ∧ Rd w' w'.heap.size A1 bs.length (layN bs o v) ∧ (A1 = none → c1 = 0) ∧ Below w0.heap.size w0 w') (HL1.out.mono ?_) ?_
  · rintro e w' ⟨A1, c1, rfl, ho, hb⟩
    rw [HE1.out] at ho ⊢
    obtain ⟨hr, _, hn⟩ := own_facts ho
    exact ⟨_, rfl, hb, A1, c1, rfl, hr, hn, hb⟩
  rintro r w3 _ ⟨A1, c1, rfl, r3, hn3, hb3⟩
  refine ⟨w3.heap.size, hb3.size, ?_⟩
  have hL2 := rlay_any w3 A1 c1 w3.heap.size (layN bs o v) (by rw [HE1.out]; exact r3) (Nat.le_refl _) hn3 (by rw [HE1.out]; exact hl) (o + s - 8) v hv2 (by rw [HE1.out]; omega)
  have e2 := layN_length (layN bs o v) (o + s - 8) v (by rw [HE1.out]; omega)
  rw [HE1.out, show ((o + s - 8 : Nat) : Int) = (o : Int) + (s : Int) - 8 by omega] at hL2
  rw [HE1.out] at e2
  have HL2 := Lib.hid hL2
  have HE2 := Lib.hid e2
  clear hL2 e2
  refine tail_cons (l := ?seg2) ?hseg2 ?_
  case hseg2 => rfl
  simp only [Act.put, List.setIfInBounds_toArray, List.set_cons_zero, List.set_cons_succ]
  refine wpQuiet_nil ?_
  refine tail_call2 (vs := #[.slice A1 bs.length c1, .int .i64 ((o : Int) + (s : Int) - 8), .int .u64 (v : Int)]) Try.call56 rfl rfl rfl (R := fun r w' => ∃ A2 c2, r = .slice A2 bs.length c2 ∧ w'.ownsRow w3.heap.size 5 1 (.slice A2 bs.length c2) bs.length ((layN (layN bs o v) (o + s - 8) v).map bv) ∧ Below w3.heap.size w3 w') (HL2.out.mono ?_) ?_
  · rintro e w' ⟨A1, c1, rfl, ho, hb⟩
    rw [HE2.out] at ho ⊢
    exact ⟨_, rfl, hb, A1, c1, rfl, ho, hb⟩
  rintro r w4 _ ⟨A2, c2, rfl, ho4, hb4⟩
  refine ⟨w4.heap.size, hb4.size, ?_⟩
  refine tail_last (l := ?la3) (t := []) ?hla3 ?htl3 ?_
  case hla3 => simp only [pick, List.getElem?_toArray, List.getElem?_cons_succ, List.getElem?_cons_zero]; rfl
  case htl3 => rfl
  simp only [Act.put, List.setIfInBounds_toArray, List.set_cons_zero, List.set_cons_succ]
  repeat (go_big_quiet_step (fail))
  refine wpQuiet_nil ?_
  have HO4 := Lib.hid ho4
  have HB4 : Hid (Below w.heap.size w w4) := HB.out.trans ((hb3.trans (hb4.mono hb3.size)).mono HB.out.size)
  have HLOW := Lib.hid (Nat.le_trans HB.out.size hb3.size)
  clear ho4 hb4 hb3 r3 hn3 HL1 HL2
  go_wp2
  go_ret2
  exact ⟨A2, c2, rfl, own_base HO4.out HLOW.out, HB4.out⟩
end
theorem lay_nx (bs cs : List UInt8) (d k : Nat) (u : UInt8) (hu : cs[k]? = some u) (h : d + cs.length ≤ bs.length) : (lay bs d (cs.take k)).set (d + k) u = lay bs d (cs.take (k + 1)) := by
  have hk : k < cs.length := by
    rcases Nat.lt_or_ge k cs.length with h | h
    · exact h
    · rw [List.getElem?_eq_none h] at hu; cases hu
  have e : (bs.take d).length = d := by simp; omega
  have e2 : (cs.take k).length = k := by simp; omega
  have e3 : (cs.take (k + 1)).length = k + 1 := by simp; omega
  unfold lay
  rw [e2, e3, List.set_append_right _ _ (by omega), e, Nat.add_sub_cancel_left, List.set_append_right _ _ (by omega), e2, Nat.sub_self, List.drop_eq_getElem_cons (by omega), List.set_cons_zero]
  rw [List.take_add_one, hu, Option.toList_some, List.append_assoc]
  rfl

set_option maxRecDepth 100000 in
set_option maxHeartbeats 2000000 in
theorem rbytes_any (w : World) (n : Nat) (A1 A2 : Option Addr) (k1 k2 : Nat) (L : List Bk) (d : List (List UInt8)) (hn1 : 184 ≤ n) (hn16 : n ≤ 16384) (ht : tile 184 L n) (hd : datB L d) (hr : RkRd w w.heap.size A1 (L.map toR)) (hdr : DtRd w w.heap.size A2 d) (out : List UInt8) (hout : rebuildB (layI (List.replicate n 0) L d) = some out) (hol : out.length = n) :
    Calls Try.prog 16 #[.agg #[.int .i64 (n : Int), .slice A1 L.length k1, .slice A2 d.length k2]] w fun e w' => SlR out w e w' := by
  obtain ⟨m, hm⟩ : ∃ m, L.length = m := ⟨_, rfl⟩
  obtain ⟨dl, hdl⟩ : ∃ dl, d.length = dl := ⟨_, rfl⟩
  obtain ⟨z, hz⟩ : ∃ z, List.replicate n (0 : UInt8) = z := ⟨_, rfl⟩
  obtain ⟨F, hF⟩ : ∃ F, layI z L d = F := ⟨_, rfl⟩
  have hzl : z.length = n := by rw [← hz]; simp
  rw [hz, hF] at hout
  rw [hm, hdl]
  have htm := (tile_mem _ _ _ ht).2
  have hm512 : m ≤ 512 := by have := tile_few _ _ _ ht; omega
  have hmk := fun W => run_mk21 n (by omega) z hz W
  obtain ⟨w1, hw1⟩ : ∃ w1, w.alloc (.cells #[.int .i64 (n : Int), .slice A1 m k1, .slice A2 dl k2] 35) = w1 := ⟨_, rfl⟩
  have hb1 : Below w.heap.size w w1 := by rw [← hw1]; exact (Below.refl _ _).alloc (Nat.le_refl _) _
  have n1 : w1.heap[w.heap.size]? = some (.cells #[.int .i64 (n : Int), .slice A1 m k1, .slice A2 dl k2] 35 (0, 0)) := by rw [← hw1]; exact heap_alloc_new w _
  obtain ⟨w2, hw2⟩ : ∃ w2, w1.alloc (.cells (rowB z) 5) = w2 := ⟨_, rfl⟩
  have hb2 : Below w1.heap.size w1 w2 := by rw [← hw2]; exact (Below.refl _ _).alloc (Nat.le_refl _) _
  have ho2 : w2.ownsRow w1.heap.size 5 1 (.slice (some ⟨w1.heap.size, 0, none⟩) n n) n (z.map bv) := by
    rw [← hw2]
    have := World.ownsRow_lit (base := w1.heap.size) (e := 5) (size := 1) w1 (rowB z) n (Nat.le_refl _) (by unfold maxLen; omega) (by rw [rowB_size]; omega)
    have e : (rowB z).toList = z.map bv := by simp [rowB]
    rw [e] at this
    exact this
  obtain ⟨B1, hB1⟩ : ∃ B1, w1.heap.size = B1 := ⟨_, rfl⟩
  rw [hB1] at hb2 ho2
  have hlB : w.heap.size < B1 := by rw [← hB1]; exact heap_lt1 n1
  have HN1 := Lib.hid n1
  have HB1 := Lib.hid hb1
  have HBE := Lib.hid hB1
  have HB2 := Lib.hid hb2
  have HO2 := Lib.hid ho2
  have HW1 := Lib.hid hw1
  have HW2 := Lib.hid hw2
  have HR := Lib.hid hr
  have HDR := Lib.hid hdr
  have HM := Lib.hid hm
  have HDL := Lib.hid hdl
  have HTM := Lib.hid htm
  have HD := Lib.hid hd
  have HF0 := Lib.hid hF
  have HZ := Lib.hid hzl
  have HOUT := Lib.hid hout
  have HOL := Lib.hid hol
  obtain ⟨c0, c1, c2⟩ := rk_cells n1
  have hl1 := heap_lt1 n1
  clear hm hdl hF ht hd hr hdr htm hw1 n1 hb1 hw2 hb2 ho2 hout hol hz hzl
  go_enter Try.func16, Try.ntmps16
  go_wp2_with (first | (rw [HW1.out]) | (rw [HW2.out]) | fail)
  clear c0 c1 c2 hl1 hmk
  go_loopw [3, 4, 5] (fun b u t wr => ∃ (j v : Nat) (A : Option Addr) (c : Nat) (bs : List UInt8), b = .slice A n c ∧ t = .int .i64 (j : Int) ∧ u = .int .i64 (v : Int) ∧ j ≤ m ∧ v ≤ j ∧ wr.ownsRow B1 5 1 (.slice A n c) n (bs.map bv) ∧ Below B1 w1 wr ∧ bs.length = n ∧ layI bs (L.drop j) (d.drop v) = F ∧ datB (L.drop j) (d.drop v)) (fun _ _ t _ => m - (intOf t).toNat)
  case atStart => exact ⟨0, 0, _, _, z, rfl, rfl, rfl, Nat.zero_le _, Nat.zero_le _, HO2.out, HB2.out, HZ.out, HF0.out, HD.out⟩
  case round =>
    obtain ⟨j, v, A, c, bs, rfl, rfl, rfl, hj, hvj, hown, hbw, hbl, hlay, hdat⟩ := hrel
    have hB1s : B1 ≤ wr.heap.size := by have := hbw.size; rw [HBE.out] at this; exact this
    have hnr := (hbw.block _ hlB).trans HN1.out
    obtain ⟨c0, c1, c2⟩ := rk_cells hnr
    have hl1 := heap_lt1 hnr
    have hbB := HB1.out.trans (hbw.mono (by rw [← HBE.out]; exact Nat.le_of_lt (by rw [HBE.out]; exact hlB)))
    by_cases hlt : j < m
    · obtain ⟨x, hx⟩ : ∃ x, L[j]? = some x := ⟨L[j]'(by rw [HM.out]; exact hlt), List.getElem?_eq_getElem _⟩
      obtain ⟨m1, m2, m3, m4⟩ := HTM.out x (List.mem_of_getElem? hx)
      have m5 := (isSz_iff _).1 m3
      obtain ⟨b2, o2, rfl, hbb, hcl⟩ := HR.out (by rw [List.length_map, HM.out]; omega)
      obtain ⟨p0, p1, p2, _, _⟩ := hcl j (toR x) (by rw [List.getElem?_map, hx]; rfl)
      have r0 := (hbB.cell (p := ⟨b2, o2 + j * 3, none⟩) hbb).trans p0
      have r1 := (hbB.cell (p := ⟨b2, o2 + j * 3 + 1, none⟩) hbb).trans p1
      have r2 := (hbB.cell (p := ⟨b2, o2 + j * 3 + 2, none⟩) hbb).trans p2
      rw [drop_at hx] at hlay hdat
      obtain ⟨w4, hw4⟩ : ∃ w4, wr.alloc (.cells #[.int .i64 (x.off : Int), .int .i64 (x.size : Int), .bool x.used] 65) = w4 := ⟨_, rfl⟩
      have hb4 : Below wr.heap.size wr w4 := by rw [← hw4]; exact (Below.refl _ _).alloc (Nat.le_refl _) _
      have n4 : w4.heap[wr.heap.size]? = some (.cells #[.int .i64 (x.off : Int), .int .i64 (x.size : Int), .bool x.used] 65 (0, 0)) := by rw [← hw4]; exact heap_alloc_new wr _
      have hown4 := own_below hown hb4
      have hof := own_facts hown4
      have hsb := setB_of bs x m1 (by omega) (by rw [hbl]; exact m2) m3
      have hset := rsetB_own w4 A c bs (by rw [hbl]; exact hof.1) hof.2.2 (by omega) x.off x.size x.used m3 ((could_iff _ _ _).2 (by omega)) _ rfl
      have heT : layN (layN bs x.off (packN (x.size : Int) x.used)) (x.off + x.size - 8) (packN (x.size : Int) x.used) = setT bs x := by
        have e := hsb
        unfold setB at e
        rw [if_pos ⟨m3, (could_iff _ _ _).2 (by omega)⟩, Int.toNat_natCast, show ((x.off : Int) + (x.size : Int) - 8).toNat = x.off + x.size - 8 by omega] at e
        exact Option.some.inj e
      rw [heT, hbl] at hset
      have hsl := setT_len (bs := bs) (x := x) (by omega) (by omega)
      obtain ⟨xo, xz, xu⟩ := x
      dsimp only [toR] at p0 p1 p2 r0 r1 r2 m1 m2 m3 m4 m5 hset n4 hw4
      obtain ⟨e0, e1, e2⟩ := rk_cells n4
      have hl4 := heap_lt1 n4
      have HSETX := Lib.hid hset
      have HN4 := Lib.hid n4
      have HW4 := Lib.hid hw4
      have HLAY := Lib.hid hlay
      have HDAT := Lib.hid hdat
      have HSL := Lib.hid (hsl.trans hbl)
      have HB4 := Lib.hid (hbw.trans (hb4.mono hB1s))
      have HBB := Lib.hid (hbB.trans (hb4.mono (Nat.le_trans (Nat.le_of_lt hlB) hB1s)))
      have HNR := Lib.hid ((hb4.block _ hl1).trans hnr)
      have HLO4 := Lib.hid (Nat.le_trans hB1s hb4.size)
      clear hx hcl p0 p1 p2 hb4 hw4 n4 hown4 hset hown hlay hdat hsl hbl hbb hsb heT hof hbw hnr hbB
      cases xu with
      | false =>
        go_wp2_with (first | (rw [HW4.out]) | fail)
        refine HSETX.out.mono ?_
        rintro e w5 ⟨A5, c5, rfl, ho5, hb5⟩
        have HO5 := Lib.hid (own_base ho5 HLO4.out)
        have HB5 := Lib.hid (HB4.out.trans (hb5.mono HLO4.out))
        have hx5 := (hb5.block _ (heap_lt1 HN4.out)).trans HN4.out
        have HF2 : Hid (layI (setT bs ⟨xo, xz, false⟩) (L.drop (j + 1)) (d.drop v) = F) := (show _ = _ by rw [← HLAY.out, layI_free rfl])
        have HD2 : Hid (datB (L.drop (j + 1)) (d.drop v)) := (show datB _ _ by have := HDAT.out; unfold datB at this; simpa using this)
        clear e0 e1 e2 hl4 ho5 hb5 r0 r1 r2 c0 c1 c2 hl1
        obtain ⟨e0, e1, e2⟩ := rk_cells hx5
        have hl5 := heap_lt1 hx5
        clear hx5
        go_wp2_with fail
        go_roundw
        case rel => exact ⟨j + 1, v, A5, c5, _, rfl, by go_num, rfl, by omega, by omega, HO5.out, HB5.out, HSL.out, HF2.out, HD2.out⟩
        case measure => simp only [intOf]; omega
      | true =>
        obtain ⟨y, d', hdv⟩ : ∃ y d', d.drop v = y :: d' := by
          have := HDAT.out
          unfold datB at this
          simp only [if_true] at this
          cases hdd : d.drop v with
          | nil => rw [hdd] at this; exact this.elim
          | cons y d' => exact ⟨y, d', rfl⟩
        have hyd : d[v]? = some y := by
          have : (d.drop v)[0]? = some y := by rw [hdv]; rfl
          rwa [List.getElem?_drop, Nat.add_zero] at this
        have hd' : d.drop (v + 1) = d' := by rw [← List.drop_drop, hdv]; rfl
        have hvd : v < dl := by rw [← HDL.out]; exact (List.getElem?_eq_some_iff.1 hyd).1
        have hda := HDAT.out
        rw [hdv] at hda
        unfold datB at hda
        simp only [if_true] at hda
        obtain ⟨hyl, hd2⟩ := hda
        have HF2 : Hid (layI (lay (setT bs ⟨xo, xz, true⟩) (xo + 8) y) (L.drop (j + 1)) (d.drop (v + 1)) = F) := (show _ = _ by rw [← HLAY.out, hdv, hd', layI_used rfl])
        have HD2 : Hid (datB (L.drop (j + 1)) (d.drop (v + 1))) := (show datB _ _ by rw [hd']; exact hd2)
        obtain ⟨b3, o3, rfl, hb3, hc3⟩ := HDR.out (by rw [HDL.out]; omega)
        obtain ⟨A', kz, z0, zr, zl, _, _⟩ := hc3 v y hyd
        obtain ⟨yn, hyn⟩ : ∃ yn, y.length = yn := ⟨_, rfl⟩
        rw [hyn] at z0 zr hyl
        have HYN := Lib.hid hyn
        have HZR := Lib.hid zr
        have hlay2 : (lay (setT bs ⟨xo, xz, true⟩) (xo + 8) y).length = n := by rw [lay_length _ _ _ (by rw [HSL.out, hyn]; omega)]; exact HSL.out
        have HLL2 := Lib.hid hlay2
        have hvi : (v : Int) < (dl : Int) := by omega
        have hyn1 : xo + 8 + yn ≤ n := by omega
        clear hdv hyd hd' hd2 hyn hlay2 zr hc3 zl hyl m1 m2 m3 m4 m5
        go_wp2_with (first | (rw [HW4.out]) | fail)
        refine HSETX.out.mono ?_
        rintro e w5 ⟨A5, c5, rfl, ho5, hb5⟩
        obtain ⟨ga, rfl, hca1, hca2, hga1, hga2⟩ := own_atB ho5 (by omega)
        obtain ⟨B4, hB4⟩ : ∃ B4, w4.heap.size = B4 := ⟨_, rfl⟩
        rw [hB4] at ho5 hb5 hga2
        have hxl : wr.heap.size < B4 := by rw [← hB4]; exact hl4
        have hB4s : B1 ≤ B4 := by rw [← hB4]; exact HLO4.out
        have OW5 : Hid (w5.ownsRow B4 5 1 (.slice (some ⟨ga, 0, none⟩) n c5) n ((lay (setT bs ⟨xo, xz, true⟩) (xo + 8) (y.take 0)).map bv)) := (show World.ownsRow _ _ _ _ _ _ _ by rw [List.take_zero, lay_nil]; exact ho5)
        have HB5 := Lib.hid hb5
        have hx5 := (hb5.block _ hxl).trans HN4.out
        clear e0 e1 e2 hl4 ho5 hb5 r0 r1 r2 c0 c1 c2 hl1 hB4
        obtain ⟨e0, e1, e2⟩ := rk_cells hx5
        have hl5 := heap_lt1 hx5
        clear hx5
        go_wp2_with fail
        clear e0 e1 e2 hl5
        generalize hbx : wr.heap.size = bx at *
        go_loopw [7] (fun q wq => ∃ i : Nat, i ≤ yn ∧ q = .int .i64 (i : Int) ∧ wq.ownsRow B4 5 1 (.slice (some ⟨ga, 0, none⟩) n c5) n ((lay (setT bs ⟨xo, xz, true⟩) (xo + 8) (y.take i)).map bv) ∧ Below B4 w4 wq) (fun q _ => yn - (intOf q).toNat)
        case atStart => exact ⟨0, Nat.zero_le _, rfl, OW5.out, HB5.out⟩
        case round =>
          obtain ⟨i, hi, rfl, hoq, hbq⟩ := hrel
          have hxq := (hbq.block _ hxl).trans HN4.out
          obtain ⟨e0, e1, e2⟩ := rk_cells hxq
          have hle := heap_lt1 hxq
          have hnq := (hbq.block _ (Nat.lt_of_lt_of_le hlB hB4s)).trans HNR.out
          obtain ⟨c0, c1, c2⟩ := rk_cells hnq
          have hl1 := heap_lt1 hnq
          have hbBq := HBB.out.trans (hbq.mono (Nat.le_trans (Nat.le_of_lt hlB) hB4s))
          have z4 := (hbBq.cell (p := ⟨b3, o3 + v, none⟩) hb3).trans z0
          have hb3q := Nat.lt_of_lt_of_le hb3 hbBq.size
          by_cases hlt2 : i < yn
          · obtain ⟨gy, oy, rfl, hgy, hyl2, hcy0⟩ := HZR.out.at_ hlt2
            have hcy := (hbBq.cell (p := ⟨gy, oy + i, none⟩) hgy).trans hcy0
            have hgyq := Nat.lt_of_lt_of_le hgy hbBq.size
            obtain ⟨q, hq⟩ : ∃ q, y[i]'hyl2 = q := ⟨_, rfl⟩
            rw [hq] at hcy
            have hyq : y[i]? = some q := by rw [List.getElem?_eq_getElem hyl2, hq]
            obtain ⟨s1, hs1⟩ : ∃ s1, xo + 8 = s1 := ⟨_, rfl⟩
            obtain ⟨p, hp⟩ : ∃ p, s1 + i = p := ⟨_, rfl⟩
            have i1 : (xo : Int) + 8 = (s1 : Int) := by omega
            have i2 : (s1 : Int) + (i : Int) = (p : Int) := by omega
            have i3 : p < n := by omega
            obtain ⟨wd, hwd⟩ : ∃ wd, wr.drew = wd := ⟨_, rfl⟩
            have hbd : Below wr.heap.size wr wd := by rw [← hwd]; exact (Below.refl _ _).drew
            have hod := own_below hoq hbd
            have hst := (hod.stored p (bv q)).1
            rw [← List.map_set, hs1, ← hp, lay_nx _ _ _ _ _ hyq (by rw [HSL.out, HYN.out]; omega), hp] at hst
            have hfz := hod.frozenAt p
            obtain ⟨uo, hcu⟩ : ∃ u, wd.cell? ⟨ga, p, none⟩ = some u := by
              have hll : (lay (setT bs ⟨xo, xz, true⟩) (xo + 8) (y.take i)).length = n := by
                rw [lay_length _ _ _ (by rw [HSL.out, List.length_take, HYN.out]; omega)]; exact HSL.out
              exact ⟨_, (hod.cellAt p (by omega)).trans (List.getElem?_eq_getElem (by rw [List.length_map, hll]; omega))⟩
            have q0 := (hbd.cell (p := ⟨bx, 0, none⟩) hle).trans e0
            have q1 := (hbd.cell (p := ⟨w.heap.size, 2, none⟩) hl1).trans c2
            have q2 := (hbd.cell (p := ⟨b3, o3 + v, none⟩) hb3q).trans z4
            have q3 := (hbd.cell (p := ⟨gy, oy + i, none⟩) hgyq).trans hcy
            have t0 := Nat.lt_of_lt_of_le hle hbd.size
            have t1 := Nat.lt_of_lt_of_le hl1 hbd.size
            have t2 := Nat.lt_of_lt_of_le hb3q hbd.size
            have t3 := Nat.lt_of_lt_of_le hgyq hbd.size
            have HST : Hid ((wd.setCell ⟨ga, p, none⟩ (.int .u8 (q.toNat : Int))).ownsRow B4 5 1 (.slice (some ⟨ga, 0, none⟩) n c5) n ((lay (setT bs ⟨xo, xz, true⟩) s1 (y.take (i + 1))).map bv)) := hst
            have HBS : Hid (Below B4 w4 (wd.setCell ⟨ga, p, none⟩ (.int .u8 (q.toNat : Int)))) := (hbq.trans (hbd.mono (by have := hoq.lt ga rfl; omega))).setCell hga2 _
            have HWD := Lib.hid hwd
            have HS1 := Lib.hid hs1
            have hii : (i : Int) < (yn : Int) := by omega
            clear hst hod hoq hbq hbBq hcy0 hcy hq hyq hwd hbd hxq hnq hp hs1
            go_wp2_with fail
            refine wp_region_tail wd.heap.size [] [0, 1, 2, 3, 4, 5, 6, 7, 8, 9, 10, 11, 12, 13, 14] [15] (by kernel_rfl) (by kernel_rfl) (by kernel_rfl) (fun _ _ _ _ _ h => h) ?_
            rw [HWD.out]
            have v0 : ∀ z : LaterB wd.heap.size wd, z.val.cell? ⟨bx, 0, none⟩ = some (.int .i64 (xo : Int)) := fun z => (z.ext.cell (p := ⟨bx, 0, none⟩) t0).trans q0
            have v1 : ∀ z : LaterB wd.heap.size wd, z.val.cell? ⟨w.heap.size, 2, none⟩ = some (.slice (some ⟨b3, o3, none⟩) dl k2) := fun z => (z.ext.cell (p := ⟨w.heap.size, 2, none⟩) t1).trans q1
            have v2 : ∀ z : LaterB wd.heap.size wd, z.val.cell? ⟨b3, o3 + v, none⟩ = some (.slice (some ⟨gy, oy, none⟩) yn kz) := fun z => (z.ext.cell (p := ⟨b3, o3 + v, none⟩) t2).trans q2
            have v3 : ∀ z : LaterB wd.heap.size wd, z.val.cell? ⟨gy, oy + i, none⟩ = some (.int .u8 (q.toNat : Int)) := fun z => (z.ext.cell (p := ⟨gy, oy + i, none⟩) t3).trans q3
            refine tail_last (l := ?lastA) (t := ?tailA) ?hlastA ?htailA ?_
            case hlastA => simp only [pick, List.getElem?_toArray, List.getElem?_cons_succ, List.getElem?_cons_zero]; rfl
            case htailA => simp only [pick, List.getElem?_toArray, List.getElem?_cons_succ, List.getElem?_cons_zero]; rfl
            repeat (go_big_quiet_step (fail))
            refine wpQuiet_nil ?_
            clear v0 v1 v2 v3 q0 q1 q2 q3 t0 t1 t2 t3 e0 e1 e2 c0 c1 c2 z4 hb3q hgyq hle hl1
            go_wp2_with fail
            go_roundw
            case rel => exact ⟨i + 1, by omega, by go_num, by rw [HS1.out]; exact HST.out, HBS.out⟩
            case measure => simp only [intOf]; omega
          · obtain rfl : i = yn := by omega
            have hoF := hoq
            rw [List.take_of_length_le (by rw [HYN.out]; exact Nat.le_refl _)] at hoF
            have HO5 := Lib.hid (own_base hoF hB4s)
            have HB6 := Lib.hid (HB4.out.trans (hbq.mono hB4s))
            clear hoq hbq hoF hxq hnq hbBq
            go_wp2_with fail
            clear e0 e1 e2 c0 c1 c2 z4
            go_roundw
            case rel => exact ⟨j + 1, v + 1, _, c5, _, rfl, by go_num, by go_num, by omega, by omega, HO5.out, HB6.out, HLL2.out, HF2.out, HD2.out⟩
            case measure => simp only [intOf]; omega
    · have hd0 : L.drop j = [] := List.drop_eq_nil_of_le (by rw [HM.out]; omega)
      rw [hd0] at hlay
      have hbF : bs = F := hlay
      subst hbF
      have hRB := rrebuild_any (w := wr) (fun _ => True) (fun _ _ => trivial) A c bs n hbl (own_facts hown).1 (own_facts hown).2.1 ⟨(own_facts hown).2.2, fun _ _ => trivial⟩ (by omega) _ HOUT.out
      have HRB := Lib.hid hRB
      have HBW := Lib.hid hbB
      clear hRB hown hbw hlay hdat hd0 hbl hnr hbB
      go_wp2_with fail
      refine HRB.out.mono ?_
      rintro e w5 ⟨A5, c5, rfl, hr5, hc5, hk5, hb5⟩
      have HR5 := Lib.hid hr5
      have HC5 := Lib.hid hc5
      have HK5 := Lib.hid hk5.1
      have HB5 := Lib.hid (HBW.out.trans (hb5.mono HBW.out.size))
      clear hr5 hc5 hk5 hb5 c0 c1 c2 hl1
      go_wp2
      go_ret
      have hol := HOL.out
      subst hol
      exact ⟨A5, c5, rfl, HR5.out, HC5.out, HK5.out, HB5.out⟩
end Go.Proofs.Ytbemaoncakcnjaa

/- The document's Heap of an image (genres4.py). -/
namespace Go.Proofs.Ytbemaoncakcnjaa
open Go.RowKit

set_option maxHeartbeats 1000000 in
theorem hNew_own (w : World) (cap : Nat) :
    Calls Try.prog 30 #[.int .i64 (cap : Int)] w fun e w' => ∃ p, e = .returned (.pointer (some ⟨p, 0, none⟩)) ∧ (∃ gl cs, Hm (fun k => w.heap.size ≤ k) w' p ⟨cap, [], [], fun _ => []⟩ (.slice none 0 0) (.slice none 0 0) gl cs) ∧ Below w.heap.size w w' := by
  obtain ⟨c22, h22⟩ : ∃ c22 : List Value, List.replicate 22 (Value.slice none 0 0) = c22 := ⟨_, rfl⟩
  obtain ⟨wg, hwg⟩ : ∃ wg, w.alloc (.cells c22.toArray 84) = wg := ⟨_, rfl⟩
  obtain ⟨wo, hwo⟩ : ∃ wo, wg.alloc (.cells #[.int .i64 (cap : Int), .slice none 0 0, .slice none 0 0, .slice (some ⟨w.heap.size, 0, none⟩) 22 22] 72) = wo := ⟨_, rfl⟩
  have b1 : Below w.heap.size w wg := by rw [← hwg]; exact (Below.refl _ _).alloc (Nat.le_refl _) _
  have b2 : Below wg.heap.size wg wo := by rw [← hwo]; exact (Below.refl _ _).alloc (Nat.le_refl _) _
  have n1 : wg.heap[w.heap.size]? = some (.cells c22.toArray 84 (0, 0)) := by rw [← hwg]; exact heap_alloc_new w _
  have n2 : wo.heap[wg.heap.size]? = some (.cells #[.int .i64 (cap : Int), .slice none 0 0, .slice none 0 0, .slice (some ⟨w.heap.size, 0, none⟩) 22 22] 72 (0, 0)) := by rw [← hwo]; exact heap_alloc_new wg _
  have hm : ∃ gl cs, Hm (fun k => w.heap.size ≤ k) wo wg.heap.size ⟨cap, [], [], fun _ => []⟩ (.slice none 0 0) (.slice none 0 0) gl cs := by
    refine ⟨w.heap.size, c22, n2, World.ownsRow_nil _ _ _ _, World.ownsRow_nil _ _ _ _, (b2.block _ (heap_lt n1)).trans n1, by rw [← h22]; exact List.length_replicate, fun d hd => ⟨.slice none 0 0, ?_, World.ownsRow_nil _ _ _ _⟩, b1.size, Nat.le_refl _, fun k e => (by cases e), fun k e => (by cases e), fun d v k hd hv e => ?_, fun d hd => (by cases hd)⟩
    · rw [← h22, List.getElem?_replicate, if_pos hd]
    · rw [← h22, List.getElem?_replicate, if_pos hd] at hv
      injection hv with hv
      subst hv
      cases e
  have HM0 := Lib.hid hm
  have HB0 := Lib.hid (b1.trans (b2.mono b1.size))
  have HMS : ∀ W : World, (Instr.makeSlice 70 (.int .i64 22) (.int .i64 22)).run Try.prog W = .ok (.slice (some ⟨W.heap.size, 0, none⟩) 22 22) (W.alloc (.cells c22.toArray 84)) := fun W => by rw [← h22]; exact mk_sls W
  have HWG := Lib.hid hwg
  have HWO := Lib.hid hwo
  have HGI : Hid (wg.heap.size = w.heap.size + 1) := (show _ = _ by rw [← hwg]; simp)
  clear h22 hwg hwo b1 b2 n1 n2 hm
  go_enter Try.func30, Try.ntmps30
  go_wp2_with (first | (rw [HWG.out]) | (rw [HWO.out]) | fail)
  go_ret
  exact ⟨wg.heap.size, by first | rfl | rw [HGI.out], HM0.out, HB0.out⟩
/-- A heap that is being filled: its two rows lie at B and behind, its object below; of what was there ahead only the object has changed. -/
structure Nh (W0 W : World) (B p gl cap : Nat) (Vb Vd : Value) (l : List Bk) (vs : List Value) : Prop where
  obj : W.heap[p]? = some (.cells #[.int .i64 (cap : Int), Vb, Vd, .slice (some ⟨gl, 0, none⟩) 22 22] 72 (0, 0))
  ob : W.ownsRow B 65 3 Vb l.length (flatK l)
  od : W.ownsRow B 44 1 Vd vs.length vs
  kp : ∀ k, k < B → k ≠ p → W.heap[k]? = W0.heap[k]?
  bl : ∀ n, n ≤ p → n < B → Below n W0 W
  sz : B ≤ W.heap.size
  pB : p < B
  sl : ∀ v ∈ vs, ∃ A n c, v = Value.slice A n c
section
variable {W0 W W' : World} {B p gl cap : Nat} {Vb Vd : Value} {l : List Bk} {vs : List Value}
theorem Nh.full (h : Nh W0 W B p gl cap Vb Vd l vs) (hb : Below W.heap.size W W') : Nh W0 W' B p gl cap Vb Vd l vs :=
  ⟨(hb.block _ (Nat.lt_of_lt_of_le h.pB h.sz)).trans h.obj, own_below' h.ob hb, own_below' h.od hb, fun k hk hp => (hb.block _ (Nat.lt_of_lt_of_le hk h.sz)).trans (h.kp k hk hp), fun n h1 h2 => (h.bl n h1 h2).trans (hb.mono (Nat.le_trans (Nat.le_of_lt h2) h.sz)), Nat.le_trans h.sz hb.size, h.pB, h.sl⟩
theorem Nh.cell (h : Nh W0 W B p gl cap Vb Vd l vs) {k i : Nat} {v : Value} (hk : k < B) (hp : k ≠ p) (hc : W0.cell? ⟨k, i, none⟩ = some v) : W.cell? ⟨k, i, none⟩ = some v := (World.cell?_of_block (w := W0) (w' := W) (a := ⟨k, i, none⟩) (h.kp k hk hp)).trans hc
theorem Nh.cellB (h : Nh W0 W B p gl cap Vb Vd l vs) : W.cell? ⟨p, 1, none⟩ = some Vb := by rw [cell_of_row W p 1 _ _ (0, 0) h.obj]; rfl
theorem Nh.cellD (h : Nh W0 W B p gl cap Vb Vd l vs) : W.cell? ⟨p, 2, none⟩ = some Vd := by rw [cell_of_row W p 2 _ _ (0, 0) h.obj]; rfl
theorem Nh.pl (h : Nh W0 W B p gl cap Vb Vd l vs) : p < W.heap.size := Nat.lt_of_lt_of_le h.pB h.sz
theorem own_hi {w : World} {B n size : Nat} {t : TypeId} {v v' : Value} {xs : List Value} {p i : Nat} (h : w.ownsRow B t size v n xs) (hp : p < B) : (w.setCell ⟨p, i, none⟩ v').ownsRow B t size v n xs := own_keep h fun k hk => set_p w p i v' k (by have := own_ge h k hk; omega)
theorem Nh.setB (h : Nh W0 W B p gl cap Vb Vd l vs) {V' : Value} {x : Bk} (gr : W.grownBy W' Vb.ownBlock) (own : W'.ownsRow B 65 3 V' (l.length + 1) (flatK l ++ [.int .i64 (x.off : Int), .int .i64 (x.size : Int), .bool x.used])) (hrow : ∀ k, Vb.ownBlock = some k → ∃ cs fz, W.heap[k]? = some (.cells cs 65 fz)) :
    Nh W0 (W'.setCell ⟨p, 1, none⟩ V') B p gl cap V' Vd (l ++ [x]) vs := by
  have hge : ∀ k, Vb.ownBlock = some k → B ≤ k := own_ge h.ob
  have bw : Below B W W' := (Below.refl _ _).grown gr h.sz hge
  have hd : W'.ownsRow B 44 1 Vd vs.length vs := own_off h.od gr fun k hk hrk => by
    obtain ⟨cs, fz, e⟩ := hrow k hrk
    exact own_typ h.od hk e (by decide)
  have hk := set_p W' p 1 V'
  refine ⟨?_, ?_, own_hi hd h.pB, fun k h1 h2 => (hk k h2).trans ((bw.block _ h1).trans (h.kp k h1 h2)), fun n h1 h2 => ((h.bl n h1 h2).trans (bw.mono (Nat.le_of_lt h2))).setCell (p := ⟨p, 1, none⟩) h1 _, ?_, h.pB, h.sl⟩
  · have := heap_setCell_same W' p 1 _ _ V' ((bw.block _ h.pB).trans h.obj)
    rw [this]
    rfl
  · have e : flatK (l ++ [x]) = flatK l ++ [.int .i64 (x.off : Int), .int .i64 (x.size : Int), .bool x.used] := by rw [flatK_append]; rfl
    rw [e, List.length_append]
    exact own_hi own h.pB
  · have := bw.size
    have e : (W'.setCell ⟨p, 1, none⟩ V').heap.size = W'.heap.size := by simp
    have := h.sz
    omega
theorem Nh.setD (h : Nh W0 W B p gl cap Vb Vd l vs) {V' : Value} {A : Option Addr} {n c : Nat} (gr : W.grownBy W' Vd.ownBlock) (own : W'.ownsRow B 44 1 V' (vs.length + 1) (vs ++ [.slice A n c])) (hrow : ∀ k, Vd.ownBlock = some k → ∃ cs fz, W.heap[k]? = some (.cells cs 44 fz)) :
    Nh W0 (W'.setCell ⟨p, 2, none⟩ V') B p gl cap Vb V' l (vs ++ [.slice A n c]) := by
  have hge : ∀ k, Vd.ownBlock = some k → B ≤ k := own_ge h.od
  have bw : Below B W W' := (Below.refl _ _).grown gr h.sz hge
  have hd : W'.ownsRow B 65 3 Vb l.length (flatK l) := own_off h.ob gr fun k hk hrk => by
    obtain ⟨cs, fz, e⟩ := hrow k hrk
    exact own_typ h.ob hk e (by decide)
  have hk := set_p W' p 2 V'
  refine ⟨?_, own_hi hd h.pB, ?_, fun k h1 h2 => (hk k h2).trans ((bw.block _ h1).trans (h.kp k h1 h2)), fun n h1 h2 => ((h.bl n h1 h2).trans (bw.mono (Nat.le_of_lt h2))).setCell (p := ⟨p, 2, none⟩) h1 _, ?_, h.pB, fun v hv => ?_⟩
  · have := heap_setCell_same W' p 2 _ _ V' ((bw.block _ h.pB).trans h.obj)
    rw [this]
    rfl
  · rw [List.length_append]
    exact own_hi own h.pB
  · have := bw.size
    have e : (W'.setCell ⟨p, 2, none⟩ V').heap.size = W'.heap.size := by simp
    have := h.sz
    omega
  · rcases List.mem_append.1 hv with hv | hv
    · exact h.sl v hv
    · exact ⟨A, n, c, List.mem_singleton.1 hv⟩
theorem Nh.rowB (h : Nh W0 W B p gl cap Vb Vd l vs) : ∀ k, Vb.ownBlock = some k → ∃ cs fz, W.heap[k]? = some (.cells cs 65 fz) := fun k hk => by
  rcases h.ob.2 with ⟨hv, _⟩ | ⟨g, cap, cur, hv, hb, hg, _⟩
  · rw [hv] at hk; cases hk
  · rw [hv] at hk; injection hk with hk
    have hk : g = k := hk
    subst hk
    exact ⟨_, _, hg⟩
theorem Nh.rowD (h : Nh W0 W B p gl cap Vb Vd l vs) : ∀ k, Vd.ownBlock = some k → ∃ cs fz, W.heap[k]? = some (.cells cs 44 fz) := fun k hk => by
  rcases h.od.2 with ⟨hv, _⟩ | ⟨g, cap, cur, hv, hb, hg, _⟩
  · rw [hv] at hk; cases hk
  · rw [hv] at hk; injection hk with hk
    have hk : g = k := hk
    subst hk
    exact ⟨_, _, hg⟩
/-- At first. -/
theorem Nh.begun {F : Nat → Prop} {cs : List Value} (h : Hm F W p ⟨cap, [], [], fun _ => []⟩ (.slice none 0 0) (.slice none 0 0) gl cs) : Nh W W W.heap.size p gl cap (.slice none 0 0) (.slice none 0 0) [] [] :=
  ⟨h.obj, World.ownsRow_nil _ _ _ _, World.ownsRow_nil _ _ _ _, fun _ _ _ => rfl, fun _ _ _ => Below.refl _ _, Nat.le_refl _, h.lt, fun v hv => by cases hv⟩
/-- At last. -/
theorem Nh.done {b0 : Nat} {cs : List Value} (h0 : Hm (fun k => b0 ≤ k) W0 p ⟨cap, [], [], fun _ => []⟩ (.slice none 0 0) (.slice none 0 0) gl cs) (h : Nh W0 W W0.heap.size p gl cap Vb Vd l vs) : Hm (fun k => b0 ≤ k) W p ⟨cap, l, vs.map fun v => (v, []), fun _ => []⟩ Vb Vd gl cs := by
  have hp0 : b0 ≤ p := h0.fp
  have hpl := h0.lt
  have e : (vs.map fun v => ((v, []) : Dt)).map Prod.fst = vs := by rw [List.map_map]; exact List.map_id' vs
  refine ⟨h.obj, own_base h.ob (Nat.zero_le _), ?_, (h.kp gl (heap_lt h0.row) h0.p_gl).trans h0.row, h0.len, fun d hd => ?_, hp0, h0.fl, fun k hk => ?_, fun k hk => ?_, h0.fi, fun d hd => ?_⟩
  · show W.ownsRow 0 _ 1 Vd (vs.map fun v => ((v, []) : Dt)).length ((vs.map fun v => ((v, []) : Dt)).map Prod.fst)
    rw [e, List.length_map]
    exact own_base h.od (Nat.zero_le _)
  · obtain ⟨v, h1, h2⟩ := h0.at_ d hd
    exact ⟨v, h1, own_keep h2 fun k hk => h.kp k (own_lt h2 hk) (own_two h2 h0.obj (by decide) k hk)⟩
  · have := own_ge h.ob k hk
    show b0 ≤ k
    omega
  · have := own_ge h.od k hk
    show b0 ≤ k
    omega
  · obtain ⟨v, hv, rfl⟩ := List.mem_map.1 hd
    exact h.sl v hv
end
set_option maxRecDepth 100000 in
set_option maxHeartbeats 4000000 in
theorem rheap_any (w : World) (N : Int) (A1 A2 : Option Addr) (k1 k2 : Nat) (L : List Bk) (d : List (List UInt8)) (n : Nat) (hn16 : n ≤ 16384) (ht : tile 184 L n) (hd : datB L d) (hr : RkRd w w.heap.size A1 (L.map toR)) (hdr : DtRd w w.heap.size A2 d) (cap : Nat) :
    Calls Try.prog 13 #[.agg #[.int .i64 N, .slice A1 L.length k1, .slice A2 d.length k2], .int .i64 (cap : Int)] w fun e w' => ∃ p ds F, e = .returned (.pointer (some ⟨p, 0, none⟩)) ∧ ds.length = L.length ∧ HM F w' p (⟨cap, L, ds, fun _ => []⟩ : Hp).rebuild ∧ (∀ k, F k → w.heap.size ≤ k) ∧ Below w.heap.size w w' := by
  obtain ⟨m, hm⟩ : ∃ m, L.length = m := ⟨_, rfl⟩
  obtain ⟨dl, hdl⟩ : ∃ dl, d.length = dl := ⟨_, rfl⟩
  rw [hm, hdl]
  have htm := (tile_mem _ _ _ ht).2
  have hm512 : m ≤ 512 := by have := tile_few _ _ _ ht; omega
  obtain ⟨w1, hw1⟩ : ∃ w1, w.alloc (.cells #[.int .i64 N, .slice A1 m k1, .slice A2 dl k2] 35) = w1 := ⟨_, rfl⟩
  have hb1 : Below w.heap.size w w1 := by rw [← hw1]; exact (Below.refl _ _).alloc (Nat.le_refl _) _
  have n1 : w1.heap[w.heap.size]? = some (.cells #[.int .i64 N, .slice A1 m k1, .slice A2 dl k2] 35 (0, 0)) := by rw [← hw1]; exact heap_alloc_new w _
  have HNEW := Lib.hid (hNew_own w1 cap)
  have HN1 := Lib.hid n1
  have HB1 := Lib.hid hb1
  have HW1 := Lib.hid hw1
  have HR := Lib.hid hr
  have HDR := Lib.hid hdr
  have HM := Lib.hid hm
  have HDL := Lib.hid hdl
  have HTM := Lib.hid htm
  have HT := Lib.hid ht
  have HD := Lib.hid hd
  obtain ⟨c0, c1, c2⟩ := rk_cells n1
  have hl1 := heap_lt1 n1
  clear hm hdl ht hd hr hdr htm hw1 n1 hb1
  obtain ⟨i0, hi, hz0, hz1, hz2⟩ := info_parts sls_inf
  go_enter Try.func13, Try.ntmps13
  go_wp2_with (first | (rw [HW1.out]) | fail)
  refine HNEW.out.mono ?_
  rintro e w2 ⟨p, rfl, ⟨gl, cs, hmm⟩, hb2⟩
  have hl2 : w1.heap.size ≤ p := hmm.fp
  have hp2 := hmm.lt
  have HM0 := Lib.hid hmm
  obtain ⟨B, hB⟩ : ∃ B, w2.heap.size = B := ⟨_, rfl⟩
  have HNH := Lib.hid (Nh.begun hmm)
  rw [hB] at hp2 HNH
  have HBQ := Lib.hid hB
  have HN2 := Lib.hid ((hb2.block _ hl1).trans HN1.out)
  have HBW := Lib.hid (HB1.out.trans (hb2.mono HB1.out.size))
  have hlp : w.heap.size < p := Nat.lt_of_lt_of_le hl1 hl2
  have hlB : w.heap.size < B := Nat.lt_trans hlp hp2
  clear c0 c1 c2 hmm hb2 hB hl1 hl2
  go_wp2_with fail
  go_loopw [6, 7] (fun u t wr => ∃ (j v : Nat) (Vb Vd : Value) (vs : List Value), t = .int .i64 (j : Int) ∧ u = .int .i64 (v : Int) ∧ j ≤ m ∧ v ≤ j ∧ Nh w2 wr B p gl cap Vb Vd (L.take j) vs ∧ vs.length = j ∧ datB (L.drop j) (d.drop v)) (fun _ t _ => m - (intOf t).toNat)
  case atStart => exact ⟨0, 0, _, _, [], rfl, rfl, Nat.zero_le _, Nat.zero_le _, HNH.out, rfl, HD.out⟩
  case round =>
    obtain ⟨j, v, Vb, Vd, vs, rfl, rfl, hj, hvj, hnh, hvs, hdat⟩ := hrel
    obtain ⟨ca0, ca1, ca2⟩ := rk_cells HN2.out
    have c1 := hnh.cell hlB (Nat.ne_of_lt hlp) ca1
    have c2 := hnh.cell hlB (Nat.ne_of_lt hlp) ca2
    by_cases hlt : j < m
    · obtain ⟨x, hx⟩ : ∃ x, L[j]? = some x := ⟨L[j]'(by rw [HM.out]; exact hlt), List.getElem?_eq_getElem _⟩
      have hzx : 32 ≤ x.size ∧ x.size ≤ 16384 := by
        obtain ⟨_, _, m3, _⟩ := HTM.out x (List.mem_of_getElem? hx)
        have := (isSz_iff _).1 m3
        omega
      obtain ⟨b2, o2, rfl, hbb, hcl⟩ := HR.out (by rw [List.length_map, HM.out]; omega)
      obtain ⟨p0, p1, p2, _, _⟩ := hcl j (toR x) (by rw [List.getElem?_map, hx]; rfl)
      have hbB : b2 < B := Nat.lt_trans hbb hlB
      have hbp : b2 ≠ p := by omega
      have s0 := (HBW.out.cell (p := ⟨b2, o2 + j * 3, none⟩) hbb).trans p0
      have s1 := (HBW.out.cell (p := ⟨b2, o2 + j * 3 + 1, none⟩) hbb).trans p1
      have s2 := (HBW.out.cell (p := ⟨b2, o2 + j * 3 + 2, none⟩) hbb).trans p2
      rw [drop_at hx] at hdat
      have htk : L.take (j + 1) = L.take j ++ [x] := by rw [List.take_add_one, hx]; rfl
      obtain ⟨xo, xz, xu⟩ := x
      dsimp only [toR] at p0 p1 p2 s0 s1 s2 hzx
      obtain ⟨wd, hwd⟩ : ∃ wd, wr.drew = wd := ⟨_, rfl⟩
      have hbd : Below wr.heap.size wr wd := by rw [← hwd]; exact (Below.refl _ _).drew
      have hnd := hnh.full hbd
      have hBd := hnd.sz
      have q1 := hnd.cellB
      have q2 := hnd.cell hlB (Nat.ne_of_lt hlp) ca1
      have r0 := hnd.cell hbB hbp s0
      have r1 := hnd.cell hbB hbp s1
      have r2 := hnd.cell hbB hbp s2
      have hpd := hnd.pl
      have HND := Lib.hid hnd
      have HWD := Lib.hid hwd
      have HDAT := Lib.hid hdat
      have HTK := Lib.hid htk
      have HVS := Lib.hid hvs
      have HS2 := Lib.hid s2
      have hlj : (L.take j).length = j := by rw [List.length_take, HM.out]; omega
      have HLJ := Lib.hid hlj
      clear hcl p0 p1 p2 s0 s1 s2 hx hdat htk hwd hbd hnd hnh hvs hlj
      go_wp2_with fail
      clear c1 c2
      refine wp_region_plan B (.one [0, 1, 2, 3, 4, 5, 6, 7, 8, 9] 10 (.one [] 11 (.fin [12, 13]))) [14] (by kernel_rfl) (by kernel_rfl) (by kernel_rfl) (fun _ _ _ _ _ h => h) ?_
      rw [HWD.out]
      have v0 : ∀ z : LaterB B wd, z.val.cell? ⟨p, 1, none⟩ = some Vb := fun z => (z.ext.cell (p := ⟨p, 1, none⟩) hp2).trans q1
      have v1 : ∀ z : LaterB B wd, z.val.cell? ⟨w.heap.size, 1, none⟩ = some (.slice (some ⟨b2, o2, none⟩) m k1) := fun z => (z.ext.cell (p := ⟨w.heap.size, 1, none⟩) hlB).trans q2
      have v2 : ∀ z : LaterB B wd, z.val.cell? ⟨b2, o2 + j * 3, none⟩ = some (.int .i64 (xo : Int)) := fun z => (z.ext.cell (p := ⟨b2, o2 + j * 3, none⟩) hbB).trans r0
      have v3 : ∀ z : LaterB B wd, z.val.cell? ⟨b2, o2 + j * 3 + 1, none⟩ = some (.int .i64 (xz : Int)) := fun z => (z.ext.cell (p := ⟨b2, o2 + j * 3 + 1, none⟩) hbB).trans r1
      have v4 : ∀ z : LaterB B wd, z.val.cell? ⟨b2, o2 + j * 3 + 2, none⟩ = some (.bool xu) := fun z => (z.ext.cell (p := ⟨b2, o2 + j * 3 + 2, none⟩) hbB).trans r2
      refine plan_one (l := ?seg6) ?hseg6 ?_
      case hseg6 => simp only [pick, List.getElem?_toArray, List.getElem?_cons_succ, List.getElem?_cons_zero]; rfl
      repeat (go_big_quiet_step (fail))
      refine wpQuiet_nil ?_
      clear v0 v1 v2 v3 v4 q1 q2 r0 r1 r2
      obtain ⟨x1, hx1⟩ : ∃ x1, wd.alloc (.cells #[.int .i64 (xo : Int), .int .i64 (xz : Int), .bool xu] 65) = x1 := ⟨_, rfl⟩
      have bx1 : Below wd.heap.size wd x1 := by rw [← hx1]; exact (Below.refl _ _).alloc (Nat.le_refl _) _
      have nx1 : x1.heap[wd.heap.size]? = some (.cells #[.int .i64 (xo : Int), .int .i64 (xz : Int), .bool xu] 65 (0, 0)) := by rw [← hx1]; exact heap_alloc_new wd _
      have HNX := Lib.hid (HND.out.full bx1)
      have S1 : Src x1 (some ⟨wd.heap.size, 0, none⟩) 1 1 [.int .i64 (xo : Int), .int .i64 (xz : Int), .bool xu] := by
        obtain ⟨y0, y1, y2⟩ := rk_cells nx1
        refine ⟨fun e => (by cases e), fun ad e i u hu => ?_⟩
        injection e with e
        subst e
        have : i < 3 := (List.getElem?_eq_some_iff.1 hu).1
        rcases i with _ | _ | _ | i
        · simp at hu; subst hu; exact y0
        · simp at hu; subst hu; exact y1
        · simp at hu; subst hu; exact y2
        · omega
      have hobj : x1.ownsRow B 65 3 Vb j (flatK (L.take j)) := by have := HNX.out.ob; rw [HLJ.out] at this; exact this
      refine tail_val2 (some 27) (w1 := x1) (v := .slice (some ⟨wd.heap.size, 0, none⟩) 1 1) rfl rfl rfl (by rw [← hx1]; exact bslice_run rfl rfl (run_one_bk wd _ _ _)) (bx1.mono hBd) ⟨B, Nat.le_refl _, ?_⟩
      simp only [Act.put, List.setIfInBounds_toArray, List.set_cons_zero, List.set_cons_succ]
      refine plan_one (l := []) rfl ?_
      refine wpQuiet_nil ?_
      refine tail_app (some 28) (.tmp 21) (.tmp 27) 22 65 rfl rfl rfl rfl Try.underlying22 (.agg #[.int .i64 0, .int .i64 0, .bool false]) 3 24 bk_inf rfl (by decide) B Vb j _ rfl hobj (Nat.le_refl _) HNX.out.sz (some ⟨wd.heap.size, 0, none⟩) 1 1 _ rfl rfl S1 (fun u hu => by simp at hu; rcases hu with rfl | rfl | rfl <;> rfl) (by omega) (by omega) ?_
      intro V' z1 own1 bz1 gr1
      refine ⟨B, Nat.le_refl _, ?_⟩
      simp only [Act.put, List.setIfInBounds_toArray, List.set_cons_zero, List.set_cons_succ]
      obtain ⟨uA, uc, rfl⟩ := own_sl own1
      have hnz := HNX.out.setB (x := ⟨xo, xz, xu⟩) gr1 (by rw [HLJ.out]; exact own1) HNX.out.rowB
      have e8 := (bz1.block _ hp2).trans HNX.out.obj
      have q1 : z1.cell? ⟨p, 1, none⟩ = some Vb := by rw [cell_of_row z1 p 1 _ _ (0, 0) e8]; rfl
      have f1 : z1.frozen? ⟨p, 1, none⟩ = false := frozen_of_row z1 p 1 _ _ e8
      have hp1 := heap_lt e8
      have HNZ := Lib.hid hnz
      clear hobj hx1 bx1 nx1 S1 own1 bz1 gr1 hnz e8
      refine plan_fin (l := ?la6) (t := ?tl6) ?hla6 ?htl6 ?_
      case hla6 => simp only [pick, List.getElem?_toArray, List.getElem?_cons_succ, List.getElem?_cons_zero]; rfl
      case htl6 => simp only [pick, List.getElem?_toArray, List.getElem?_cons_succ, List.getElem?_cons_zero]; rfl
      repeat (go_big_quiet_step (fail))
      refine wpQuiet_nil ?_
      obtain ⟨y1, hy1⟩ : ∃ y1, z1.setCell ⟨p, 1, none⟩ (.slice uA (j + 1) uc) = y1 := ⟨_, rfl⟩
      rw [hy1] at HNZ
      have HY1 := Lib.hid hy1
      clear hy1
      have hvl : vs.length ≤ 512 := by rw [HVS.out]; omega
      have g1 := HNZ.out.cell hlB (Nat.ne_of_lt hlp) ca1
      have g2 := HNZ.out.cell hbB hbp HS2.out
      cases xu with
      | false =>
        obtain ⟨y2, hy2⟩ : ∃ y2, y1.alloc (.cells #[.slice none 0 0] 44) = y2 := ⟨_, rfl⟩
        have bx2 : Below y1.heap.size y1 y2 := by rw [← hy2]; exact (Below.refl _ _).alloc (Nat.le_refl _) _
        have nx2 : y2.heap[y1.heap.size]? = some (.cells #[.slice none 0 0] 44 (0, 0)) := by rw [← hy2]; exact heap_alloc_new y1 _
        have HN3 := Lib.hid (HNZ.out.full bx2)
        have HRUN := Lib.hid (run_one_s y1)
        have HY2 := Lib.hid hy2
        have hnew : ∀ i u, [Value.slice none 0 0][i]? = some u → y2.cell? (Addr.add ⟨y1.heap.size, 0, none⟩ i) = some u := fun i u hu => by
          have hi0 : i = 0 := by have := (List.getElem?_eq_some_iff.1 hu).1; simp at this; exact this
          subst hi0
          simp at hu
          subst hu
          exact (cell_of_row y2 y1.heap.size 0 _ _ (0, 0) nx2)
        have HNEW := Lib.hid hnew
        have HONE : Hid (∀ u ∈ [Value.slice none 0 0], u.oneCell' = true) := (show ∀ u ∈ [Value.slice none 0 0], u.oneCell' = true by intro u hu; rw [List.mem_singleton] at hu; subst hu; rfl)
        have q2 := HNZ.out.cellD
        have hB3 := HN3.out.sz
        have hp3 := HNZ.out.pl
        have HF2 : Hid (datB (L.drop (j + 1)) (d.drop v)) := (show datB _ _ by have := HDAT.out; unfold datB at this; simpa using this)
        clear hy2 bx2 nx2 hnew
        go_wp2_with (first
          | (rw [HY1.out])
          | (rw [HRUN.out])
          | (rw [HY2.out])
          | (at_builtin; go_must (refine wpList_append_own _ rfl _ _ 23 rfl B 44 i0 _ 1 24 Try.underlying23 hi hz0 hz1 hz2 rfl (by decide) Vd vs.length vs rfl HN3.out.od ⟨y1.heap.size, 0, none⟩ 1 1 [.slice none 0 0] rfl rfl HNEW.out HONE.out (by unfold maxLen; omega) (by omega) hB3 ?_); intro x8 w8 own8 gr8 at8; obtain ⟨uA8, uc8, rfl⟩ := own_sl own8; have gr8' : y2.grownBy w8 Vd.ownBlock := gr8;
             have own8' : w8.ownsRow B 44 1 (.slice uA8 (vs.length + 1) uc8) (vs.length + 1) (vs ++ [.slice none 0 0]) := own8; have HNF := Lib.hid (HN3.out.setD gr8' own8' HN3.out.rowD); have e8 := (((Below.refl _ _ : Below B y2 y2).grown gr8' hB3 (own_ge HN3.out.od)).block _ hp2).trans HN3.out.obj;
             have q8 : w8.cell? ⟨p, 2, none⟩ = some Vd := (by rw [cell_of_row w8 p 2 _ _ (0, 0) e8]; rfl); have f8 : w8.frozen? ⟨p, 2, none⟩ = false := frozen_of_row w8 p 2 _ _ e8; have hl8 := heap_lt e8; clear own8 own8' gr8 gr8' at8 e8)
          | fail)
        go_roundw
        case rel => exact ⟨j + 1, v, _, _, _, by go_num, rfl, by omega, by omega, by rw [HTK.out]; exact HNF.out, by rw [List.length_append, HVS.out]; rfl, HF2.out⟩
        case measure => simp only [intOf]; omega
      | true =>
        obtain ⟨y, d', hdv⟩ : ∃ y d', d.drop v = y :: d' := by
          have := HDAT.out
          unfold datB at this
          simp only [if_true] at this
          cases hdd : d.drop v with
          | nil => rw [hdd] at this; exact this.elim
          | cons y d' => exact ⟨y, d', rfl⟩
        have hyd : d[v]? = some y := by
          have : (d.drop v)[0]? = some y := by rw [hdv]; rfl
          rwa [List.getElem?_drop, Nat.add_zero] at this
        have hd' : d.drop (v + 1) = d' := by rw [← List.drop_drop, hdv]; rfl
        have hvd : v < dl := by rw [← HDL.out]; exact (List.getElem?_eq_some_iff.1 hyd).1
        have hda := HDAT.out
        rw [hdv] at hda
        unfold datB at hda
        simp only [if_true] at hda
        obtain ⟨hyl, hd2⟩ := hda
        have hyl : y.length + 16 = xz := hyl
        have HF2 : Hid (datB (L.drop (j + 1)) (d.drop (v + 1))) := (show datB _ _ by rw [hd']; exact hd2)
        obtain ⟨b3, o3, rfl, hb3, hc3⟩ := HDR.out (by rw [HDL.out]; omega)
        obtain ⟨A', kz, z0, zr, zl, zk, _⟩ := hc3 v y hyd
        obtain ⟨gy, oy, rfl, hgy, _, _⟩ := zr.at_ (show 0 < y.length by omega)
        obtain ⟨yn, hyn⟩ : ∃ yn, y.length = yn := ⟨_, rfl⟩
        rw [hyn] at z0 zr hyl
        have hy16 : yn ≤ 16384 := by omega
        have hvi : (v : Int) < (dl : Int) := by omega
        have hb3B : b3 < B := Nat.lt_trans hb3 hlB
        have hb3p : b3 ≠ p := by omega
        obtain ⟨we, hwe⟩ : ∃ we, y1.drew = we := ⟨_, rfl⟩
        have hbe : Below y1.heap.size y1 we := by rw [← hwe]; exact (Below.refl _ _).drew
        have hne := HNZ.out.full hbe
        have hBe := hne.sz
        have q3 := hne.cellD
        have q4 := hne.cell hlB (Nat.ne_of_lt hlp) ca2
        have q5 := hne.cell hb3B hb3p ((HBW.out.cell (p := ⟨b3, o3 + v, none⟩) hb3).trans z0)
        have HNE := Lib.hid hne
        have HWE := Lib.hid hwe
        have HZR := Lib.hid zr
        have HYN := Lib.hid hyn
        clear hdv hyd hd' hvd hyn z0 zr zl zk hc3 hd2 hwe hbe hne hyl
        go_wp2_with (first | (rw [HY1.out]) | fail)
        clear q1 f1 hp1 g1 g2
        refine wp_region_plan B (.one [0, 1, 2, 3, 4, 6, 7, 8, 9, 10] 5 (.one [] 11 (.one [] 12 (.one [] 13 (.fin [14, 15]))))) [16] (by kernel_rfl) (by kernel_rfl) (by kernel_rfl) (fun _ _ _ _ _ h => h) ?_
        rw [HWE.out]
        have v0 : ∀ z : LaterB B we, z.val.cell? ⟨p, 2, none⟩ = some Vd := fun z => (z.ext.cell (p := ⟨p, 2, none⟩) hp2).trans q3
        have v1 : ∀ z : LaterB B we, z.val.cell? ⟨w.heap.size, 2, none⟩ = some (.slice (some ⟨b3, o3, none⟩) dl k2) := fun z => (z.ext.cell (p := ⟨w.heap.size, 2, none⟩) hlB).trans q4
        have v2 : ∀ z : LaterB B we, z.val.cell? ⟨b3, o3 + v, none⟩ = some (.slice (some ⟨gy, oy, none⟩) yn kz) := fun z => (z.ext.cell (p := ⟨b3, o3 + v, none⟩) hb3B).trans q5
        refine plan_one (l := ?seg8) ?hseg8 ?_
        case hseg8 => simp only [pick, List.getElem?_toArray, List.getElem?_cons_succ, List.getElem?_cons_zero]; rfl
        repeat (go_big_quiet_step (fail))
        refine wpQuiet_nil ?_
        clear v0 v1 v2 q3 q4 q5
        obtain ⟨x2, hx2⟩ : ∃ x2, we.alloc (.cells #[] 5) = x2 := ⟨_, rfl⟩
        have bx2 : Below we.heap.size we x2 := by rw [← hx2]; exact (Below.refl _ _).alloc (Nat.le_refl _) _
        have own2 : x2.ownsRow we.heap.size 5 1 (.slice (some ⟨we.heap.size, 0, none⟩) 0 0) 0 [] := by rw [← hx2]; exact World.ownsRow_lit we _ 0 (Nat.le_refl _) (by unfold maxLen; omega) rfl
        have S2 : Src x2 (some ⟨gy, oy, none⟩) yn kz (y.map bv) := by
          have hbw := HBW.out.trans ((HNE.out.bl w.heap.size (Nat.le_of_lt hlp) hlB).trans (bx2.mono (Nat.le_trans (Nat.le_of_lt hlB) hBe)))
          have hr2 := HZR.out.below hbw
          exact ⟨fun e => (by cases e), fun ad e => (by injection e with e; subst e; exact rd_cells hr2)⟩
        refine tail_val2 (some 42) (w1 := x2) (v := .slice (some ⟨we.heap.size, 0, none⟩) 0 0) rfl rfl rfl (by rw [← hx2]; exact bslice_run rfl rfl (run_none21 we)) (bx2.mono hBe) ⟨B, Nat.le_refl _, ?_⟩
        simp only [Act.put, List.setIfInBounds_toArray, List.set_cons_zero, List.set_cons_succ]
        refine plan_one (l := []) rfl ?_
        refine wpQuiet_nil ?_
        refine tail_app (some 48) (.tmp 42) (.tmp 47) 44 5 rfl rfl rfl rfl Try.underlying44 (.int .u8 0) 1 1 u8_info rfl (by decide) we.heap.size (.slice (some ⟨we.heap.size, 0, none⟩) 0 0) 0 [] rfl own2 hBe bx2.size (some ⟨gy, oy, none⟩) yn kz _ rfl ?lz8 S2 (bv_one y) (by omega) (by omega) ?_
        case lz8 => rw [List.length_map, HYN.out, Nat.mul_one]
        intro V3 z2 own3 bz3 gr3
        have bz3' : Below we.heap.size x2 z2 := (Below.refl _ _).grown gr3 bx2.size (fun k hk => (own2.lt k hk).1)
        have hn3 := HNE.out.full (bx2.trans bz3')
        have hB3 := hn3.sz
        obtain ⟨A3, c3, rfl⟩ := own_sl own3
        obtain ⟨y3, hy3⟩ : ∃ y3, 0 + yn = y3 := ⟨_, rfl⟩
        rw [hy3]
        refine ⟨B, Nat.le_refl _, ?_⟩
        simp only [Act.put, List.setIfInBounds_toArray, List.set_cons_zero, List.set_cons_succ]
        refine plan_one (l := []) rfl ?_
        refine wpQuiet_nil ?_
        obtain ⟨x4, hx4⟩ : ∃ x4, z2.alloc (.cells #[.slice A3 y3 c3] 44) = x4 := ⟨_, rfl⟩
        have bx4 : Below z2.heap.size z2 x4 := by rw [← hx4]; exact (Below.refl _ _).alloc (Nat.le_refl _) _
        have nx4 : x4.heap[z2.heap.size]? = some (.cells #[.slice A3 y3 c3] 44 (0, 0)) := by rw [← hx4]; exact heap_alloc_new z2 _
        have HN4 := Lib.hid (hn3.full bx4)
        have S4 : Src x4 (some ⟨z2.heap.size, 0, none⟩) 1 1 [.slice A3 y3 c3] := by
          refine ⟨fun e => (by cases e), fun ad e i u hu => ?_⟩
          injection e with e
          subst e
          have hi0 : i = 0 := by have := (List.getElem?_eq_some_iff.1 hu).1; simp at this; exact this
          subst hi0
          simp at hu
          subst hu
          exact (cell_of_row x4 z2.heap.size 0 _ _ (0, 0) nx4)
        refine tail_val2 (some 49) (w1 := x4) (v := .slice (some ⟨z2.heap.size, 0, none⟩) 1 1) rfl rfl rfl (by rw [← hx4]; exact bslice_run rfl rfl (run_one_d z2 _ _ _)) (bx4.mono hB3) ⟨B, Nat.le_refl _, ?_⟩
        simp only [Act.put, List.setIfInBounds_toArray, List.set_cons_zero, List.set_cons_succ]
        refine plan_one (l := []) rfl ?_
        refine wpQuiet_nil ?_
        refine tail_app (some 50) (.tmp 41) (.tmp 49) 23 44 rfl rfl rfl rfl Try.underlying23 (.slice none 0 0) 1 24 sls_inf rfl (by decide) B Vd vs.length _ rfl HN4.out.od (Nat.le_refl _) HN4.out.sz (some ⟨z2.heap.size, 0, none⟩) 1 1 _ rfl rfl S4 (fun u hu => by rw [List.mem_singleton] at hu; subst hu; rfl) (by omega) (by omega) ?_
        intro V5 z5 own5 bz5 gr5
        refine ⟨B, Nat.le_refl _, ?_⟩
        simp only [Act.put, List.setIfInBounds_toArray, List.set_cons_zero, List.set_cons_succ]
        obtain ⟨uA8, uc8, rfl⟩ := own_sl own5
        have HNF := Lib.hid (HN4.out.setD gr5 own5 HN4.out.rowD)
        have e8 := (bz5.block _ hp2).trans HN4.out.obj
        have q8 : z5.cell? ⟨p, 2, none⟩ = some Vd := by rw [cell_of_row z5 p 2 _ _ (0, 0) e8]; rfl
        have f8 : z5.frozen? ⟨p, 2, none⟩ = false := frozen_of_row z5 p 2 _ _ e8
        have hl8 := heap_lt e8
        clear hx2 bx2 own2 S2 own3 bz3 gr3 bz3' hn3 hx4 bx4 nx4 S4 own5 bz5 gr5 e8
        refine plan_fin (l := ?la8) (t := ?tl8) ?hla8 ?htl8 ?_
        case hla8 => simp only [pick, List.getElem?_toArray, List.getElem?_cons_succ, List.getElem?_cons_zero]; rfl
        case htl8 => simp only [pick, List.getElem?_toArray, List.getElem?_cons_succ, List.getElem?_cons_zero]; rfl
        repeat (go_big_quiet_step (fail))
        refine wpQuiet_nil ?_
        go_wp2_with fail
        clear q8 f8 hl8
        go_roundw
        case rel => exact ⟨j + 1, v + 1, _, _, _, by go_num, by go_num, by omega, by omega, by rw [HTK.out]; exact HNF.out, by rw [List.length_append, HVS.out]; rfl, HF2.out⟩
        case measure => simp only [intOf]; omega
    · obtain rfl : j = m := by omega
      have htL : L.take j = L := List.take_of_length_le (by rw [HM.out]; exact Nat.le_refl _)
      rw [htL, ← HBQ.out] at hnh
      have hdn := Nh.done HM0.out hnh
      have hok : (⟨cap, L, vs.map fun v => ((v, []) : Dt), fun _ => []⟩ : Hp).Ok := ⟨by show tile 184 L (lenB L); rw [tile_len HT.out]; exact HT.out, by show lenB L ≤ 16384; rw [tile_len HT.out]; exact hn16, by show (vs.map fun v => ((v, []) : Dt)).length = L.length; rw [List.length_map, hvs, HM.out]⟩
      have HREB := Lib.hid (hreb_any hdn hok)
      have HVS : Hid ((vs.map fun v => ((v, []) : Dt)).length = j) := (show _ = _ by rw [List.length_map]; exact hvs)
      have HBR := Lib.hid (HBW.out.trans (hnh.bl w.heap.size (Nat.le_of_lt hlp) (by rw [HBQ.out]; exact hlB)))
      have hs1 := HB1.out.size
      have HS1 := Lib.hid hs1
      clear hnh hdat hdn hok htL hvs hs1
      go_wp2_with fail
      refine HREB.out.mono ?_
      rintro e w5 ⟨rfl, F', hm5, htc, hF⟩
      have HM5 := Lib.hid hm5
      have HF5 : Hid (∀ k, F' k → w.heap.size ≤ k) := (show ∀ k, F' k → w.heap.size ≤ k from fun k hk => by
        have e1 := HS1.out
        have e2 := HBR.out.size
        rcases hF k hk with h | h
        · have h : w1.heap.size ≤ k := h
          omega
        · omega)
      have HB5 := Lib.hid (HBR.out.trans (htc.below (fun k hk => by
        have e1 := HS1.out
        have hk : w1.heap.size ≤ k := hk
        omega) HBR.out.size))
      clear hm5 htc hF c1 c2
      go_wp2
      go_ret
      exact ⟨p, _, F', rfl, HVS.out, HM5.out, HF5.out, HB5.out⟩
end Go.Proofs.Ytbemaoncakcnjaa
