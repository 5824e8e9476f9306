/- The document's images: Put (genimg6.py). -/
import Derived.Test.YtlhahibdddcpfaaImg4
import Derived.Test.YtlhahibdddcpfaaRef1
import Derived.Test.YtlhahibdddcpfaaPlan
import Derived.Deep.Cut
namespace Go.Proofs.Ytlhahibdddcpfaa
open Go.RowKit

theorem own_stay {w w' : World} {B' base n size : Nat} {t : TypeId} {v : Value} {xs : List Value} (h : w.ownsRow base t size v n xs) (hb : Below B' w w') (hlt : ∀ k, v.ownBlock = some k → k < B') : w'.ownsRow base t size v n xs := by
  refine ⟨h.1, ?_⟩
  rcases h.2 with h2 | ⟨g, cap, cur, hv, hg, hh, r⟩
  · exact .inl h2
  · exact .inr ⟨g, cap, cur, hv, hg, (hb.block g (hlt g (by rw [hv]; rfl))).trans hh, r⟩
theorem own_off {w w' : World} {base n size : Nat} {t : TypeId} {v : Value} {xs : List Value} {r : Option Nat} (h : w.ownsRow base t size v n xs) (hg : w.grownBy w' r) (hne : ∀ k, v.ownBlock = some k → r ≠ some k) : w'.ownsRow base t size v n xs := by
  refine ⟨h.1, ?_⟩
  rcases h.2 with h2 | ⟨g, cap, cur, hv, hb, hh, q⟩
  · exact .inl h2
  · have hk : v.ownBlock = some g := by rw [hv]; rfl
    refine .inr ⟨g, cap, cur, hv, hb, ?_, q⟩
    obtain ⟨_, _, _, _, h5⟩ := hg
    exact (h5 g (h.lt g hk).2 (fun e => hne g hk e.symm)).trans hh
theorem own_lift {w : World} {base base' n size : Nat} {t : TypeId} {v : Value} {xs : List Value} (h : w.ownsRow base t size v n xs) (hb : base' ≤ base) : w.ownsRow base' t size v n xs := by
  refine ⟨h.1, ?_⟩
  rcases h.2 with h2 | ⟨g, cap, cur, hv, hg, r⟩
  · exact .inl h2
  · exact .inr ⟨g, cap, cur, hv, Nat.le_trans hb hg, r⟩
theorem own_slc {w : World} {base n size : Nat} {t : TypeId} {v : Value} {xs : List Value} (h : w.ownsRow base t size v n xs) : ∃ A c, v = .slice A n c ∧ (A = none → c = 0) := by
  rcases h.2 with ⟨rfl, h0⟩ | ⟨g, cap, cur, rfl, _⟩
  · exact ⟨none, 0, by rw [h0], fun _ => rfl⟩
  · exact ⟨_, cap, rfl, fun e => by cases e⟩
/-- An own row, as bytes. -/
theorem own_reads {w : World} {base n c : Nat} {A : Option Addr} {bs : List UInt8} (h : w.ownsRow base 5 1 (.slice A n c) n (bs.map bv)) : Rd w w.heap.size A n bs := by
  obtain ⟨A', c', e, _, hr⟩ := own_any h
  injection e with e1 _ _
  subst e1
  exact hr
set_option maxHeartbeats 400000 in
theorem rbegin_any (w : World) :
    Calls Try.prog 26 #[] w fun e w' => ∃ A c, e = .returned (.slice A 8 c) ∧ (A = none → c = 0) ∧ w'.ownsRow w.heap.size 5 1 (.slice A 8 c) 8 (markB.map bv) ∧ Below w.heap.size w w' := by
  obtain ⟨w1, hw1⟩ : ∃ w1, w.alloc (.cells #[.int .u8 67, .int .u8 78, .int .u8 84, .int .u8 76, .int .u8 1, .int .u8 0, .int .u8 0, .int .u8 0] 5) = w1 := ⟨_, rfl⟩
  have hb1 : Below w.heap.size w w1 := by rw [← hw1]; exact (Below.refl _ _).alloc (Nat.le_refl _) _
  have ho1 : w1.ownsRow w.heap.size 5 1 (.slice (some ⟨w.heap.size, 0, none⟩) 8 8) 8 (markB.map bv) := by rw [← hw1]; exact World.ownsRow_lit w _ 8 (Nat.le_refl _) (by unfold maxLen; omega) rfl
  have HW1 := Lib.hid hw1
  have HB1 := Lib.hid hb1
  have HO1 := Lib.hid ho1
  clear hw1 hb1 ho1
  go_enter Try.func26, Try.ntmps26
  go_wp2_with (first | (rw [HW1.out]) | fail)
  go_ret
  exact ⟨_, _, rfl, (fun e => by cases e), HO1.out, HB1.out⟩
set_option maxHeartbeats 400000 in
theorem rfour_any (w : World) (A : Option Addr) (n c B : Nat) (b : List UInt8) (hr : Rd w B A n b) (hn : n ≤ 900000) :
    Calls Try.prog 28 #[.slice A n c] w fun e w' => ∃ A c, e = .returned (.slice A 4 c) ∧ (A = none → c = 0) ∧ w'.ownsRow w.heap.size 5 1 (.slice A 4 c) 4 ((sum4 b).map bv) ∧ Below w.heap.size w w' := by
  have HS := Lib.hid (refSum_any A n c B b w hr (by omega))
  obtain ⟨s, hs⟩ : ∃ s, moreN 0 b = s := ⟨_, rfl⟩
  have hs32 : s < 4294967296 := by rw [← hs]; exact moreN_lt _ _
  have HL := Lib.hid (rlow_any s 4 w (by omega) (by omega))
  have HE : Hid (lowB 4 s = sum4 b) := (show _ = _ by unfold sum4; rw [hs])
  rw [hs] at HS
  clear hr hs
  go_enter Try.func28, Try.ntmps28
  go_wp2_with fail
  refine HS.out.mono ?_
  rintro e w2 ⟨rfl, rfl⟩
  go_wp2_with fail
  refine HL.out.mono ?_
  rintro e w2 ⟨x, rfl, ho, hb⟩
  rw [HE.out] at ho
  obtain ⟨A', c', rfl, hA⟩ := own_slc ho
  have HF := Lib.hid (And.intro hA (And.intro ho hb))
  clear ho hb hA
  go_wp2
  go_ret
  exact ⟨_, _, rfl, HF.out⟩
theorem putT_parts (n : Nat) (l : List Rk) : putA n l.length ++ tagsB l ++ sum4 (tagsB l) = putT n l := by
  unfold putT wSum
  rw [List.drop_left' (putA_len n l.length)]
theorem putD_parts (n : Nat) (l : List Rk) (d : List (List UInt8)) : putT n l ++ d.flatten ++ sum4 d.flatten = putD n l d := by
  unfold putD wSum
  rw [List.drop_left' rfl]
theorem putA_parts (n k : Nat) : headB n k ++ sum4 (headB n k) = putA n k := by unfold putA wSum; rw [List.drop_zero]
theorem putB_parts (n : Nat) (l : List Rk) (d : List (List UInt8)) : putD n l d ++ sum4 (putD n l d) = putB n l d := by unfold putB wSum; rw [List.drop_zero]
theorem putD_len (n : Nat) (l : List Rk) (d : List (List UInt8)) : (putD n l d).length = 36 + 8 * l.length + d.flatten.length := by
  rw [← putD_parts, List.length_append, List.length_append, putT_len, sum4_len]; omega
theorem putB_len (n : Nat) (l : List Rk) (d : List (List UInt8)) : (putB n l d).length = 40 + 8 * l.length + d.flatten.length := by
  rw [← putB_parts, List.length_append, putD_len, sum4_len]; omega
theorem tagsB_tl (l : List Rk) (j : Nat) : (tagsB (l.take j)).length ≤ 8 * l.length := by rw [tagsB_len, List.length_take]; omega
set_option maxRecDepth 100000 in
set_option maxHeartbeats 8000000 in
theorem rimput_any (w : World) (n : Nat) (hn : n < 9223372036854775808) (A1 A2 : Option Addr) (k1 k2 : Nat) (l : List Rk) (d : List (List UInt8)) (hr : RkRd w w.heap.size A1 l) (hd : DtRd w w.heap.size A2 d) (hl : l.length ≤ 1000) (hdl : d.length ≤ 1000) (hfl : d.flatten.length ≤ 100000) :
    Calls Try.prog 13 #[imV (n : Int) A1 l.length k1 A2 d.length k2] w fun e w' => ∃ A c, e = .returned (.slice A (putB n l d).length c) ∧ w'.ownsRow w.heap.size 5 1 (.slice A (putB n l d).length c) (putB n l d).length ((putB n l d).map bv) ∧ Below w.heap.size w w' := by
  unfold imV
  rw [putB_len]
  have HPT := Lib.hid (fun j => tagsB_tl l j)
  have HFT := Lib.hid (fun j => Nat.le_trans (flat_len_take d j) hfl)
  have HPA := Lib.hid (putA_parts n l.length)
  have HPTT := Lib.hid (putT_parts n l)
  have HPD := Lib.hid (putD_parts n l d)
  have HPB := Lib.hid (putB_parts n l d)
  have HTL := Lib.hid (tagsB_len l)
  obtain ⟨fl, hfl'⟩ : ∃ fl, d.flatten.length = fl := ⟨_, rfl⟩
  rw [hfl'] at hfl
  rw [hfl']
  have HFL := Lib.hid hfl'
  have HAL := Lib.hid (putA_len n l.length)
  have HTTL := Lib.hid (putT_len n l)
  have HDL2 := Lib.hid (putD_len n l d)
  obtain ⟨ll, hll⟩ : ∃ ll, l.length = ll := ⟨_, rfl⟩
  obtain ⟨dl, hdll⟩ : ∃ dl, d.length = dl := ⟨_, rfl⟩
  have HLL := Lib.hid hll
  have HDLL := Lib.hid hdll
  rw [hll] at hl HPT HPA HPTT HTL HAL HTTL HDL2
  rw [hfl'] at HDL2
  rw [hdll] at hdl
  rw [hll, hdll]
  obtain ⟨w1, hw1⟩ : ∃ w1, w.alloc (.cells #[.int .i64 (n : Int), .slice A1 ll k1, .slice A2 dl k2] 29) = w1 := ⟨_, rfl⟩
  obtain ⟨wd, hwd⟩ : ∃ wd, w1.drew = wd := ⟨_, rfl⟩
  have hb1 : Below w.heap.size w wd := by rw [← hwd, ← hw1]; exact ((Below.refl _ _).alloc (Nat.le_refl _) _).drew
  have n1 : wd.heap[w.heap.size]? = some (.cells #[.int .i64 (n : Int), .slice A1 ll k1, .slice A2 dl k2] 29 (0, 0)) := by rw [← hwd, ← hw1]; exact heap_alloc_new w _
  obtain ⟨d0, d1, d2⟩ := rk_cells n1
  have hl1 := heap_lt1 n1
  have HB1 := Lib.hid hb1
  have HW1 := Lib.hid hw1
  have HWD := Lib.hid hwd
  have HN1 := Lib.hid n1
  have HR := Lib.hid ((hr.below hb1).more hb1.size)
  have HD := Lib.hid ((hd.below hb1).more hb1.size)
  have HBG := Lib.hid (rbegin_any wd)
  have HLOW := Lib.hid (fun W v (hv : v < 18446744073709551616) => rlow_any v 8 W (by omega) hv)
  clear hw1 hwd hb1 n1 hr hd hll hdll hfl'
  go_enter Try.func13, Try.ntmps13
  go_wp2_with (first | (rw [HW1.out]) | fail)
  refine wp_region_tail wd.heap.size [([1, 2, 3], 0), ([], 4)] [] [5, 6] (by kernel_rfl) (by kernel_rfl) (by kernel_rfl) (fun _ _ _ _ _ h => h) ?_
  rw [HWD.out]
  have q0 : ∀ z : LaterB wd.heap.size wd, z.val.cell? ⟨w.heap.size, 0, none⟩ = some (.int .i64 (n : Int)) := fun z => (z.ext.cell (p := ⟨w.heap.size, 0, none⟩) hl1).trans d0
  refine tail_cons (l := ?segA) ?hsegA ?_
  case hsegA => simp only [pick, List.getElem?_toArray, List.getElem?_cons_succ, List.getElem?_cons_zero]; rfl
  repeat (go_big_quiet_step (fail))
  refine wpQuiet_nil ?_
  clear q0
  refine tail_call (vs := #[]) Try.call26 rfl rfl rfl (R := fun r w' => ∃ A c, r = .slice A 8 c ∧ (A = none → c = 0) ∧ w'.ownsRow wd.heap.size 5 1 (.slice A 8 c) 8 (markB.map bv) ∧ Below wd.heap.size wd w') (HBG.out.mono ?_) wd.heap.size (Nat.le_refl _) ?_
  · rintro e w' ⟨A, c, rfl, hA, ho, hb⟩
    exact ⟨_, rfl, hb, A, c, rfl, hA, ho, hb⟩
  rintro r w2 _ ⟨AB, cB, rfl, hAB, ho2, hb2⟩
  simp only [Act.put, List.setIfInBounds_toArray, List.set_cons_zero, List.set_cons_succ]
  refine tail_cons (l := []) rfl (wpQuiet_nil ?_)
  refine tail_call (vs := #[.int .u64 (n : Int), .int .i64 8]) Try.call27 rfl rfl rfl (R := fun r w' => w'.ownsRow w2.heap.size 5 1 r 8 ((lowB 8 n).map bv) ∧ Below w2.heap.size w2 w') ((HLOW.out w2 n (by omega)).mono ?_) wd.heap.size (Nat.le_refl _) ?_
  · rintro e w' ⟨x, rfl, ho, hb⟩
    exact ⟨_, rfl, hb.mono hb2.size, ho, hb⟩
  rintro r w3 _ ⟨ho3, hb3⟩
  obtain ⟨AL, cL, rfl, hAL⟩ := own_slc ho3
  have HO2 := Lib.hid (own_below ho2 hb3)
  have HR3 := Lib.hid (own_reads ho3)
  have HB3 := Lib.hid (HB1.out.trans ((hb2.trans (hb3.mono hb2.size)).mono HB1.out.size))
  have HS23 := Lib.hid (Nat.le_trans hb2.size hb3.size)
  have HBD3 := Lib.hid (hb2.trans (hb3.mono hb2.size))
  clear ho2 hb2 ho3 hb3 HBG
  simp only [Act.put, List.setIfInBounds_toArray, List.set_cons_zero, List.set_cons_succ]
  refine tail_last (l := []) (t := ?tl) rfl ?htl (wpQuiet_nil ?_)
  case htl => simp only [pick, List.getElem?_toArray, List.getElem?_cons_succ, List.getElem?_cons_zero]; rfl
  go_upto_region 2 with (first
    | (at_builtin; go_must (refine append_bytes rfl (.tmp 9) (.tmp 13) 31 5 rfl Try.underlying31 u8_inf4 wd.heap.size (.slice AB 8 cB) 8 markB rfl HO2.out _ AL 8 cL (lowB 8 n) rfl HR3.out hAL (by omega) HS23.out ?_); intro x4 w4 own4 hb4 gr4;
       have HX4 : Hid (w4.ownsRow wd.heap.size 5 1 x4 (8 + 8) ((markB ++ (lowB 8 n)).map bv) ∧ Below wd.heap.size w3 w4 ∧ w3.grownBy w4 (Value.ownBlock ((.slice AB 8 cB)))) := ⟨own4, hb4, gr4⟩; clear own4 hb4 gr4)
    | fail)
  have hb04 : Below wd.heap.size wd w4 := HBD3.out.trans HX4.out.2.1
  have e4 := (hb04.cell (p := ⟨w.heap.size, 1, none⟩) hl1).trans d1
  have hl4 : w.heap.size < w4.heap.size := Nat.lt_of_lt_of_le hl1 hb04.size
  have HB04 := Lib.hid hb04
  clear HBD3 hb04
  go_wp2_with fail
  refine (HLOW.out w4 ll (by omega)).mono ?_
  rintro e w5 ⟨x5, rfl, ho5, hb5⟩
  obtain ⟨A5, c5, rfl, hA5⟩ := own_slc ho5
  have HR5 := Lib.hid (own_reads ho5)
  have HO4 := Lib.hid (own_below HX4.out.1 hb5)
  have HB05 := Lib.hid (HB04.out.trans (hb5.mono HB04.out.size))
  clear ho5 hb5 HX4 HB04 e4 hl4
  go_upto_region 3 with (first
    | (at_builtin; go_must (refine append_bytes rfl (.tmp 15) (.tmp 20) 31 5 rfl Try.underlying31 u8_inf4 wd.heap.size _ (8 + 8) (markB ++ lowB 8 n) rfl HO4.out _ A5 8 c5 (lowB 8 ll) rfl HR5.out hA5 (by omega) HB05.out.size ?_); intro x6 w6 own6 hb6 gr6;
       have HX6 : Hid (w6.ownsRow wd.heap.size 5 1 x6 ((8 + 8) + 8) (((markB ++ lowB 8 n) ++ (lowB 8 ll)).map bv) ∧ Below wd.heap.size w5 w6 ∧ w5.grownBy w6 (Value.ownBlock x4)) := ⟨own6, hb6, gr6⟩; clear own6 hb6 gr6)
    | fail)
  obtain ⟨A6, c6, rfl, hA6⟩ := own_slc HX6.out.1
  have HB06 := Lib.hid (HB05.out.trans HX6.out.2.1)
  obtain ⟨w7, hw7⟩ : ∃ w7, w6.alloc (.cells #[] 5) = w7 := ⟨_, rfl⟩
  have own7 : w7.ownsRow w6.heap.size 5 1 (.slice (some ⟨w6.heap.size, 0, none⟩) 0 0) 0 (([] : List UInt8).map bv) := by rw [← hw7]; exact World.ownsRow_lit w6 _ 0 (Nat.le_refl _) (by unfold maxLen; omega) rfl
  have hb7 : Below w6.heap.size w6 w7 := by rw [← hw7]; exact (Below.refl _ _).alloc (Nat.le_refl _) _
  have HO7 := Lib.hid own7
  have HH7 := Lib.hid (own_below HX6.out.1 hb7)
  have HR7 := Lib.hid (own_reads (own_below HX6.out.1 hb7))
  have HB67 := Lib.hid hb7
  have HW7 := Lib.hid hw7
  clear own7 hb7 hw7
  go_wp2_with (first
    | (rw [HW7.out])
    | (at_builtin; go_must (refine append_bytes rfl (.tmp 22) (.tmp 23) 31 5 rfl Try.underlying31 u8_inf4 w6.heap.size (.slice (some ⟨w6.heap.size, 0, none⟩) 0 0) 0 [] rfl HO7.out _ A6 (8 + 8 + 8) c6 (markB ++ lowB 8 n ++ lowB 8 ll) rfl HR7.out hA6 (by omega) HB67.out.size ?_); intro x8 w8 own8 hb8 gr8;
       have HX8 : Hid (w8.ownsRow w6.heap.size 5 1 x8 (0 + (8 + 8 + 8)) (([] ++ (markB ++ lowB 8 n ++ lowB 8 ll)).map bv) ∧ Below w6.heap.size w7 w8 ∧ w7.grownBy w8 (Value.ownBlock ((.slice (some ⟨w6.heap.size, 0, none⟩) 0 0)))) := ⟨own8, hb8, gr8⟩; clear own8 hb8 gr8)
    | fail)
  have HH8 := Lib.hid (own_stay HH7.out HX8.out.2.1 (fun k hk => (HX6.out.1.lt k hk).2))
  have HB68 := Lib.hid (HB67.out.trans HX8.out.2.1)
  have HF8 := Lib.hid (rfour_any w8 A6 (8 + 8 + 8) c6 _ _ (own_reads HH8.out) (by omega))
  go_wp2_with fail
  refine HF8.out.mono ?_
  rintro e w9 ⟨A9, c9, rfl, hA9, ho9, hb9⟩
  have HR9 := Lib.hid (own_reads ho9)
  have HO9 := Lib.hid (own_below HX8.out.1 hb9)
  have HB69 := Lib.hid (HB68.out.trans (hb9.mono HB68.out.size))
  clear ho9 hb9 HF8
  go_wp2_with (first
    | (at_builtin; go_must (refine append_bytes rfl (.tmp 24) (.tmp 26) 31 5 rfl Try.underlying31 u8_inf4 w6.heap.size _ (0 + (8 + 8 + 8)) ([] ++ (markB ++ lowB 8 n ++ lowB 8 ll)) rfl HO9.out _ A9 4 c9 (sum4 (markB ++ lowB 8 n ++ lowB 8 ll)) rfl HR9.out hA9 (by omega) HB69.out.size ?_); intro x10 w10 own10 hb10 gr10;
       have HX10 : Hid (w10.ownsRow w6.heap.size 5 1 x10 ((0 + (8 + 8 + 8)) + 4) ((([] ++ (markB ++ lowB 8 n ++ lowB 8 ll)) ++ (sum4 (markB ++ lowB 8 n ++ lowB 8 ll))).map bv) ∧ Below w6.heap.size w9 w10 ∧ w9.grownBy w10 (Value.ownBlock x8)) := ⟨own10, hb10, gr10⟩; clear own10 hb10 gr10)
    | fail)
  have HOUT : Hid (w10.ownsRow w6.heap.size 5 1 x10 28 ((putA n ll).map bv)) := (show World.ownsRow _ _ _ _ _ _ _ by
    have e := HX10.out.1
    rw [List.nil_append, show markB ++ lowB 8 n ++ lowB 8 ll = headB n ll from rfl, HPA.out] at e
    exact e)
  have HB610 := Lib.hid (HB69.out.trans HX10.out.2.1)
  have HB010 := Lib.hid (HB06.out.trans (HB610.out.mono HB06.out.size))
  clear HX10 HX8 HX6 HO9 HO7 HH7 HH8 HR7 HR9 HR5 HO4 HO2 HR3 HB67 HB68 HB69
  go_wp2
  go_loopw [5, 6] (fun v t wr => ∃ (j : Nat), t = .int .i64 (j : Int) ∧ j ≤ ll ∧ wr.ownsRow w10.heap.size 5 1 v (tagsB (l.take j)).length ((tagsB (l.take j)).map bv) ∧ Below w10.heap.size w10 wr) (fun _ t _ => ll - (intOf t).toNat)
  case atStart => exact ⟨0, rfl, Nat.zero_le _, World.ownsRow_nil _ _ _ _, Below.refl _ _⟩
  case round =>
    obtain ⟨j, rfl, hj, hown, hb⟩ := hrel
    have m1 := (hb.cell (p := ⟨w.heap.size, 1, none⟩) (Nat.lt_of_lt_of_le hl1 HB010.out.size)).trans ((HB010.out.cell (p := ⟨w.heap.size, 1, none⟩) hl1).trans d1)
    have hlr : w.heap.size < wr.heap.size := Nat.lt_of_lt_of_le (Nat.lt_of_lt_of_le hl1 HB010.out.size) hb.size
    by_cases hlt : j < ll
    · obtain ⟨x, hx⟩ : ∃ x, l[j]? = some x := ⟨l[j]'(by rw [HLL.out]; exact hlt), List.getElem?_eq_getElem _⟩
      obtain ⟨b2, o, rfl, hbb, hcl⟩ := HR.out (by rw [HLL.out]; omega)
      obtain ⟨p0, p1, p2, hxo, hxs⟩ := hcl j x hx
      obtain ⟨wf, hwf⟩ : ∃ wf, wr.drew = wf := ⟨_, rfl⟩
      have hbf : Below wr.heap.size wr wf := by rw [← hwf]; exact (Below.refl _ _).drew
      have hbw := HB010.out.trans ((hb.trans (hbf.mono hb.size)).mono HB010.out.size)
      have r1 := (hbw.cell (p := ⟨b2, o + j * 3 + 1, none⟩) hbb).trans p1
      have r2 := (hbw.cell (p := ⟨b2, o + j * 3 + 2, none⟩) hbb).trans p2
      have r3 := (hbw.cell (p := ⟨w.heap.size, 1, none⟩) hl1).trans d1
      have hlf : w.heap.size < wf.heap.size := Nat.lt_of_lt_of_le hl1 hbw.size
      have hlb : b2 < wf.heap.size := Nat.lt_of_lt_of_le hbb hbw.size
      have HTG := Lib.hid (tagsB_take hx)
      have HT1 := HPT.out j
      obtain ⟨xo, xs, xu⟩ := x
      dsimp only at p0 p1 p2 r1 r2 hxs HTG
      obtain ⟨pk, hpk⟩ : ∃ pk, packN xs xu = pk := ⟨_, rfl⟩
      have hpkl : pk < 18446744073709551616 := by have := packN_lt xs xu; omega
      have HPK := Lib.hid (rpack_any wf xs xu hxs pk hpk)
      have HTB : Hid (tagB ⟨xo, xs, xu⟩ = lowB 8 pk) := (show _ = _ by unfold tagB; dsimp only; rw [hpk])
      have HOF := Lib.hid (own_below hown hbf)
      have HBF := Lib.hid (hb.trans (hbf.mono hb.size))
      have HWF := Lib.hid hwf
      obtain ⟨tn, htn⟩ : ∃ tn, (tagsB (l.take j)).length = tn := ⟨_, rfl⟩
      rw [htn] at HOF HT1
      have HTN := Lib.hid htn
      clear hx hcl p0 p1 p2 hown hb hwf hbf hbw hpk htn
      go_wp2_with fail
      refine wp_region_tail wf.heap.size [([0, 1, 2, 3, 4, 5, 6, 7, 8, 9, 10, 11, 12], 13), ([], 14)] [] [15, 16] (by kernel_rfl) (by kernel_rfl) (by kernel_rfl) (fun _ _ _ _ _ h => h) ?_
      rw [HWF.out]
      have t1 : ∀ z : LaterB wf.heap.size wf, z.val.cell? ⟨b2, o + j * 3 + 1, none⟩ = some (.int .i64 xs) := fun z => (z.ext.cell (p := ⟨b2, o + j * 3 + 1, none⟩) hlb).trans r1
      have t2 : ∀ z : LaterB wf.heap.size wf, z.val.cell? ⟨b2, o + j * 3 + 2, none⟩ = some (.bool xu) := fun z => (z.ext.cell (p := ⟨b2, o + j * 3 + 2, none⟩) hlb).trans r2
      have t3 : ∀ z : LaterB wf.heap.size wf, z.val.cell? ⟨w.heap.size, 1, none⟩ = some (.slice (some ⟨b2, o, none⟩) ll k1) := fun z => (z.ext.cell (p := ⟨w.heap.size, 1, none⟩) hlf).trans r3
      refine tail_cons (l := ?segB) ?hsegB ?_
      case hsegB => simp only [pick, List.getElem?_toArray, List.getElem?_cons_succ, List.getElem?_cons_zero]; rfl
      repeat (go_big_quiet_step (fail))
      refine wpQuiet_nil ?_
      clear t1 t2 t3
      refine tail_call (vs := #[.int .i64 xs, .bool xu]) Try.call29 rfl rfl rfl (R := fun r w' => r = .int .u64 (pk : Int) ∧ w' = wf) (HPK.out.mono ?_) wf.heap.size (Nat.le_refl _) ?_
      · rintro e w' ⟨rfl, rfl⟩
        exact ⟨_, rfl, Below.refl _ _, rfl, rfl⟩
      rintro r w11 _ ⟨rfl, rfl⟩
      simp only [Act.put, List.setIfInBounds_toArray, List.set_cons_zero, List.set_cons_succ]
      refine tail_cons (l := []) rfl (wpQuiet_nil ?_)
      refine tail_call (vs := #[.int .u64 (pk : Int), .int .i64 8]) Try.call27 rfl rfl rfl (R := fun r w' => w'.ownsRow w11.heap.size 5 1 r 8 ((lowB 8 pk).map bv) ∧ Below w11.heap.size w11 w') ((HLOW.out w11 pk hpkl).mono ?_) w11.heap.size (Nat.le_refl _) ?_
      · rintro e w' ⟨x, rfl, ho, hb⟩
        exact ⟨_, rfl, hb, ho, hb⟩
      rintro r w12 _ ⟨ho12, hb12⟩
      obtain ⟨A12, c12, rfl, hA12⟩ := own_slc ho12
      have HR12 := Lib.hid (own_reads ho12)
      have HO12 := Lib.hid (own_below HOF.out hb12)
      have HB12 := Lib.hid (HBF.out.trans (hb12.mono HBF.out.size))
      clear ho12 hb12 HPK
      simp only [Act.put, List.setIfInBounds_toArray, List.set_cons_zero, List.set_cons_succ]
      refine tail_last (l := []) (t := ?tlB) rfl ?htlB (wpQuiet_nil ?_)
      case htlB => simp only [pick, List.getElem?_toArray, List.getElem?_cons_succ, List.getElem?_cons_zero]; rfl
      go_wp2_with (first
        | (at_builtin; go_must (refine append_bytes rfl (.tmp 35) (.tmp 49) 31 5 rfl Try.underlying31 u8_inf4 w10.heap.size _ tn (tagsB (l.take j)) rfl HO12.out _ A12 8 c12 (lowB 8 pk) rfl HR12.out hA12 (by omega) HB12.out.size ?_); intro x13 w13 own13 hb13 gr13;
           have HX13 : Hid (w13.ownsRow w10.heap.size 5 1 x13 (tn + 8) (((tagsB (l.take j)) ++ (lowB 8 pk)).map bv) ∧ Below w10.heap.size w12 w13) := ⟨own13, hb13⟩; clear own13 hb13 gr13)
        | fail)
      go_roundw
      case rel =>
        refine ⟨j + 1, by go_num, by omega, ?_, HB12.out.trans HX13.out.2⟩
        rw [HTG.out, HTB.out, List.length_append, HTN.out, lowB_length]
        exact HX13.out.1
      case measure => simp only [intOf]; omega
    · have e : l.take j = l := List.take_of_length_le (by rw [HLL.out]; omega)
      rw [e, HTL.out] at hown
      have HTRW := Lib.hid hown
      have HB := Lib.hid hb
      have HO := Lib.hid (own_stay HOUT.out hb (fun k hk => (HOUT.out.lt k hk).2))
      obtain ⟨AT, cT, rfl, hAT⟩ := own_slc hown
      have HRT := Lib.hid (own_reads hown)
      have HSZ := Lib.hid (Nat.le_trans HB610.out.size hb.size)
      have HBR := Lib.hid (HB010.out.trans (hb.mono HB010.out.size))
      clear hown hb e
      go_wp2_with (first
        | (at_builtin; go_must (refine append_bytes rfl (.tmp 51) (.tmp 52) 31 5 rfl Try.underlying31 u8_inf4 w6.heap.size _ 28 (putA n ll) rfl HO.out _ AT (8 * ll) cT (tagsB l) rfl HRT.out hAT (by omega) HSZ.out ?_); intro x20 w20 own20 hb20 gr20;
           have HX20 : Hid (w20.ownsRow w6.heap.size 5 1 x20 (28 + (8 * ll)) (((putA n ll) ++ (tagsB l)).map bv) ∧ Below w6.heap.size wr w20 ∧ wr.grownBy w20 (Value.ownBlock x10)) := ⟨own20, hb20, gr20⟩; clear own20 hb20 gr20)
        | fail)
      have HT20 := Lib.hid (own_off HTRW.out HX20.out.2.2 (fun k hk e => by
        have h1 := (HTRW.out.lt k hk).1
        have h2 := (HOUT.out.lt k e).2
        omega))
      have HSZ20 := Lib.hid (Nat.le_trans HSZ.out HX20.out.2.1.size)
      have HF20 := Lib.hid (rfour_any w20 AT (8 * ll) cT _ _ (own_reads HT20.out) (by omega))
      go_wp2_with fail
      refine HF20.out.mono ?_
      rintro e w21 ⟨A21, c21, rfl, hA21, ho21, hb21⟩
      have HR21 := Lib.hid (own_reads ho21)
      have HO21 := Lib.hid (own_below HX20.out.1 hb21)
      have HB621 : Hid (Below w6.heap.size wr w21) := (show Below _ _ _ from HX20.out.2.1.trans (hb21.mono HSZ20.out))
      have HSZ21 := Lib.hid (Nat.le_trans HSZ20.out hb21.size)
      clear ho21 hb21 HF20 HT20
      go_wp2_with (first
        | (at_builtin; go_must (refine append_bytes rfl (.tmp 53) (.tmp 55) 31 5 rfl Try.underlying31 u8_inf4 w6.heap.size _ (28 + 8 * ll) (putA n ll ++ tagsB l) rfl HO21.out _ A21 4 c21 (sum4 (tagsB l)) rfl HR21.out hA21 (by omega) HSZ21.out ?_); intro x22 w22 own22 hb22 gr22;
           have HX22 : Hid (w22.ownsRow w6.heap.size 5 1 x22 ((28 + 8 * ll) + 4) (((putA n ll ++ tagsB l) ++ (sum4 (tagsB l))).map bv) ∧ Below w6.heap.size w21 w22 ∧ w21.grownBy w22 (Value.ownBlock x20)) := ⟨own22, hb22, gr22⟩; clear own22 hb22 gr22)
        | fail)
      have HOUT2 : Hid (w22.ownsRow w6.heap.size 5 1 x22 (28 + 8 * ll + 4) ((putT n l).map bv)) := (show World.ownsRow _ _ _ _ _ _ _ by
        have e := HX22.out.1
        rw [HPTT.out] at e
        exact e)
      have HB622 := Lib.hid (HB621.out.trans HX22.out.2.1)
      have HSZ22 := Lib.hid (Nat.le_trans HSZ21.out HX22.out.2.1.size)
      have HBD22 : Hid (Below wd.heap.size wd w22) := (show Below _ _ _ from HBR.out.trans (HB622.out.mono HB06.out.size))
      clear HX22 HX20 HO21 HR21 HRT HTRW HO HOUT HB621 HSZ20 HSZ21
      go_wp2
      go_loopw [7, 8] (fun v t wr => ∃ (j : Nat), t = .int .i64 (j : Int) ∧ j ≤ dl ∧ wr.ownsRow w22.heap.size 5 1 v (d.take j).flatten.length ((d.take j).flatten.map bv) ∧ Below w22.heap.size w22 wr) (fun _ t _ => dl - (intOf t).toNat)
      case atStart => exact ⟨0, rfl, Nat.zero_le _, World.ownsRow_nil _ _ _ _, Below.refl _ _⟩
      case round =>
        obtain ⟨i, rfl, hi, hown, hb⟩ := hrel
        have hbw := HBD22.out.trans (hb.mono HBD22.out.size)
        have m2 := (hbw.cell (p := ⟨w.heap.size, 2, none⟩) hl1).trans d2
        have hlr : w.heap.size < wr.heap.size := Nat.lt_of_lt_of_le hl1 hbw.size
        by_cases hlt2 : i < dl
        · obtain ⟨y, hy⟩ : ∃ y, d[i]? = some y := ⟨d[i]'(by rw [HDLL.out]; exact hlt2), List.getElem?_eq_getElem _⟩
          obtain ⟨b, o, rfl, hbb, hc⟩ := HD.out (by rw [HDLL.out]; omega)
          obtain ⟨A', k', c0, hrd, _, _, hA⟩ := hc i y hy
          have c1 := (hbw.cell (p := ⟨b, o + i, none⟩) hbb).trans c0
          have hs1 := HFT.out (i + 1)
          rw [flat_take hy, List.length_append] at hs1
          have HFT2 := Lib.hid (flat_take hy)
          have HRD := Lib.hid ((hrd.below hbw).more hbw.size)
          obtain ⟨yn, hn'⟩ : ∃ yn, y.length = yn := ⟨_, rfl⟩
          have HYN := Lib.hid hn'
          obtain ⟨q, hq⟩ : ∃ q, (d.take i).flatten.length = q := ⟨_, rfl⟩
          rw [hq] at hown hs1
          have HQ := Lib.hid hq
          rw [hn'] at c0 c1 hs1 HRD
          have HO := Lib.hid hown
          have HB := Lib.hid hb
          clear hc hy hn' hown hb hrd hq hbw c0
          go_wp2_with (first
            | (at_builtin; go_must (refine append_bytes rfl (.tmp 64) (.tmp 69) 31 5 rfl Try.underlying31 u8_inf4 w22.heap.size _ q (d.take i).flatten rfl HO.out _ A' yn k' y rfl HRD.out hA (by omega) HB.out.size ?_); intro x30 w30 own30 hb30 gr30;
               have HX30 : Hid (w30.ownsRow w22.heap.size 5 1 x30 (q + yn) (((d.take i).flatten ++ y).map bv) ∧ Below w22.heap.size wr w30) := ⟨own30, hb30⟩; clear own30 hb30 gr30)
            | fail)
          go_roundw
          case rel =>
            refine ⟨i + 1, by go_num, by omega, ?_, HB.out.trans HX30.out.2⟩
            rw [HFT2.out, List.length_append, HQ.out, HYN.out]
            exact HX30.out.1
          case measure => simp only [intOf]; omega
        · have e : d.take i = d := List.take_of_length_le (by rw [HDLL.out]; omega)
          rw [e, HFL.out] at hown
          have HTRW := Lib.hid hown
          have HO := Lib.hid (own_stay HOUT2.out hb (fun k hk => (HOUT2.out.lt k hk).2))
          obtain ⟨AT, cT, rfl, hAT⟩ := own_slc hown
          have HRT := Lib.hid (own_reads hown)
          have HSZ3 := Lib.hid (Nat.le_trans HSZ22.out hb.size)
          have HBR3 := Lib.hid hbw
          clear hown hb e hbw
          go_wp2_with (first
            | (at_builtin; go_must (refine append_bytes rfl (.tmp 71) (.tmp 72) 31 5 rfl Try.underlying31 u8_inf4 w6.heap.size _ (28 + 8 * ll + 4) (putT n l) rfl HO.out _ AT fl cT d.flatten rfl HRT.out hAT (by omega) HSZ3.out ?_); intro x40 w40 own40 hb40 gr40;
               have HX40 : Hid (w40.ownsRow w6.heap.size 5 1 x40 ((28 + 8 * ll + 4) + fl) (((putT n l) ++ d.flatten).map bv) ∧ Below w6.heap.size wr w40 ∧ wr.grownBy w40 (Value.ownBlock x22)) := ⟨own40, hb40, gr40⟩; clear own40 hb40 gr40)
            | fail)
          have HT40 := Lib.hid (own_off HTRW.out HX40.out.2.2 (fun k hk e => by
            have h1 := (HTRW.out.lt k hk).1
            have h2 := (HOUT2.out.lt k e).2
            omega))
          have HSZ40 := Lib.hid (Nat.le_trans HSZ3.out HX40.out.2.1.size)
          have HF40 := Lib.hid (rfour_any w40 AT fl cT _ _ (own_reads HT40.out) (by omega))
          go_wp2_with fail
          refine HF40.out.mono ?_
          rintro e w41 ⟨A41, c41, rfl, hA41, ho41, hb41⟩
          have HR41 := Lib.hid (own_reads ho41)
          have HO41 := Lib.hid (own_below HX40.out.1 hb41)
          have HB641 : Hid (Below w6.heap.size wr w41) := (show Below _ _ _ from HX40.out.2.1.trans (hb41.mono HSZ40.out))
          have HSZ41 := Lib.hid (Nat.le_trans HSZ40.out hb41.size)
          clear ho41 hb41 HF40 HT40
          go_wp2_with (first
            | (at_builtin; go_must (refine append_bytes rfl (.tmp 73) (.tmp 75) 31 5 rfl Try.underlying31 u8_inf4 w6.heap.size _ (28 + 8 * ll + 4 + fl) (putT n l ++ d.flatten) rfl HO41.out _ A41 4 c41 (sum4 d.flatten) rfl HR41.out hA41 (by omega) HSZ41.out ?_); intro x42 w42 own42 hb42 gr42;
               have HX42 : Hid (w42.ownsRow w6.heap.size 5 1 x42 ((28 + 8 * ll + 4 + fl) + 4) (((putT n l ++ d.flatten) ++ (sum4 d.flatten)).map bv) ∧ Below w6.heap.size w41 w42 ∧ w41.grownBy w42 (Value.ownBlock x40)) := ⟨own42, hb42, gr42⟩; clear own42 hb42 gr42)
            | fail)
          have hout3 : w42.ownsRow w6.heap.size 5 1 x42 (28 + 8 * ll + 4 + fl + 4) ((putD n l d).map bv) := by
            have e := HX42.out.1
            rw [HPD.out] at e
            exact e
          obtain ⟨A42, c42, rfl, hA42⟩ := own_slc hout3
          have HOUT3 := Lib.hid hout3
          have HB642 := Lib.hid (HB641.out.trans HX42.out.2.1)
          have HSZ42 := Lib.hid (Nat.le_trans HSZ41.out HX42.out.2.1.size)
          have HF42 := Lib.hid (rfour_any w42 A42 (28 + 8 * ll + 4 + fl + 4) c42 _ _ (own_reads hout3) (by omega))
          clear hout3
          go_wp2_with fail
          refine HF42.out.mono ?_
          rintro e w43 ⟨A43, c43, rfl, hA43, ho43, hb43⟩
          have HR43 := Lib.hid (own_reads ho43)
          have HO43 := Lib.hid (own_below HOUT3.out hb43)
          have HB643 := Lib.hid (HB642.out.trans (hb43.mono HSZ42.out))
          have HSZ43 := Lib.hid (Nat.le_trans HSZ42.out hb43.size)
          clear ho43 hb43 HF42
          go_wp2_with (first
            | (at_builtin; go_must (refine append_bytes rfl (.tmp 77) (.tmp 79) 31 5 rfl Try.underlying31 u8_inf4 w6.heap.size (.slice A42 (28 + 8 * ll + 4 + fl + 4) c42) (28 + 8 * ll + 4 + fl + 4) (putD n l d) rfl HO43.out _ A43 4 c43 (sum4 (putD n l d)) rfl HR43.out hA43 (by omega) HSZ43.out ?_); intro x44 w44 own44 hb44 gr44;
               have HX44 : Hid (w44.ownsRow w6.heap.size 5 1 x44 ((28 + 8 * ll + 4 + fl + 4) + 4) (((putD n l d) ++ (sum4 (putD n l d))).map bv) ∧ Below w6.heap.size w43 w44 ∧ w43.grownBy w44 (Value.ownBlock ((.slice A42 (28 + 8 * ll + 4 + fl + 4) c42)))) := ⟨own44, hb44, gr44⟩; clear own44 hb44 gr44)
            | fail)
          have hfin : w44.ownsRow w.heap.size 5 1 x44 (40 + 8 * ll + fl) ((putB n l d).map bv) := by
            have e := HX44.out.1
            rw [HPB.out, show 28 + 8 * ll + 4 + fl + 4 + 4 = 40 + 8 * ll + fl by omega] at e
            exact own_lift e (Nat.le_trans HB1.out.size HB06.out.size)
          have hbfin : Below w.heap.size w w44 := HB1.out.trans ((HBR3.out.trans ((HB643.out.trans HX44.out.2.1).mono HB06.out.size)).mono HB1.out.size)
          obtain ⟨A44, c44, rfl, _⟩ := own_slc hfin
          have HFIN := Lib.hid (And.intro hfin hbfin)
          clear hfin hbfin
          go_ret
          exact ⟨A44, c44, rfl, HFIN.out⟩
end Go.Proofs.Ytlhahibdddcpfaa
