/- Texts of mine, joined: Law14e. -/
import Derived.Test.YtbldlidpapdkbaaGreatDoorM10

/- The walk of HeapCalls (genhc.py). -/
namespace Go.Proofs.YtbldlidpapdkbaaGreatDoor
open Go.RowKit

set_option maxRecDepth 100000 in
set_option maxHeartbeats 16000000 in
theorem hc_main (w : World) (hE : ET w) (cap : Nat) (h1 : 1024 ≤ cap) (h2 : cap ≤ 16384) (A : Option Addr) (k : Nat) (l : List Cl) (hL : ClRd w w.heap.size A l) (hs : smallC l 60 = true) :
    Calls Tryz.prog 4 #[.int .i64 (cap : Int), .slice A l.length k] w fun e w' => e = .returned (.bool true) ∧ Below w.heap.size w w' := by
  have hs' := hs
  unfold smallC at hs'
  rw [Bool.and_eq_true, List.all_eq_true] at hs'
  have hl60 : l.length ≤ 60 := of_decide_eq_true hs'.1
  have HSB : Hid (∀ x ∈ l, x.b.length ≤ 2000) := fun x hx => of_decide_eq_true (hs'.2 x hx)
  have HUP := Lib.hid (up14_any w)
  have HN := Lib.hid (fun W => hnew_good W 0 cap (by omega) (by omega) h1 h2)
  have HN2 := Lib.hid (fun W => hnew_good W 16 cap (by omega) (by omega) h1 h2)
  have hsm := fun W (hb : Below w.heap.size w W) => small_any W A k l ((fun hn => by
    obtain ⟨b, o, e, hB, hc⟩ := (hL.below hb) hn
    exact ⟨b, o, e, Nat.lt_of_lt_of_le hB hb.size, fun j x hx => by
      obtain ⟨y1, y2, y3⟩ := hc j x hx
      exact ⟨y1, y2.more hb.size, y3⟩⟩ : ClRd W W.heap.size A l)) (by omega) 60 (by omega)
  rw [hs] at hsm
  have HSM := Lib.hid hsm
  obtain ⟨n, hn⟩ : ∃ n, l.length = n := ⟨_, rfl⟩
  rw [hn] at HSM hl60 ⊢
  have HNL := Lib.hid hn
  have HL := Lib.hid hL
  have HE := Lib.hid hE
  clear hsm hs hs' hL hn hE
  go_enter Tryz.func4, Tryz.ntmps4
  go_wp2_with fail
  refine HUP.out.mono ?_
  rintro e w1 ⟨rfl, hb1⟩
  have HB := Lib.hid hb1
  clear hb1 HUP
  go_wp2_with fail
  refine (HN.out w1).mono ?_
  intro e w2 hm2
  obtain ⟨q1, g1, A1, c1, b1, rfl, hv1, hb2⟩ := hm2.hv
  have HB2 := Lib.hid (HB.out.trans (hb2.mono HB.out.size))
  have HV1 := Lib.hid hv1
  have HL1 := Lib.hid HB.out.size
  clear hm2 hv1 hb2 HB
  go_wp2_with fail
  refine (HN2.out w2).mono ?_
  intro e w3 hm3
  obtain ⟨q2, g2, A2, c2, b2, rfl, hv2, hb3⟩ := hm3.hv
  have HTW : Hid (Tw w.heap.size w3 cap q1 g1 A1 c1 b1 (hpZero cap) q2 g2 A2 c2 b2 (hpZero cap)) := ⟨(HV1.out.below hb3).less HL1.out, hv2.less HB2.out.size, fun k hk hk2 => by
    have h1 := HV1.out.own_lt hk
    rcases hk2 with rfl | hk2
    · have := hv2.qB; omega
    · have := hv2.fB hk2; omega⟩
  have HB3 := Lib.hid (HB2.out.trans (hb3.mono HB2.out.size))
  clear hm3 hv2 hb3 HB2 HV1 HL1
  go_wp2_with fail
  refine (HSM.out w3 HB3.out).mono ?_
  rintro e w4 ⟨rfl, rfl⟩
  clear HSM HN HN2
  go_wp2
  go_loopw [10, 11] (fun t i wr => ∃ (j : Nat) (told : List Nat) (At : Option Addr) (ct : Nat) (H : Hp) (g1 : Nat) (A1 : Option Addr) (c1 : Nat) (b1 : List UInt8) (g2 : Nat) (A2 : Option Addr) (c2 : Nat) (b2 : List UInt8), t = .slice At told.length ct ∧ i = .int .i64 (j : Int) ∧ j ≤ n ∧ told.length ≤ j ∧ (∀ v ∈ told, v < 18446744073709551616) ∧ wr.ownsRow w.heap.size 22 1 (.slice At told.length ct) told.length (told.map uV) ∧ Tw w.heap.size wr cap q1 g1 A1 c1 b1 H q2 g2 A2 c2 b2 H ∧ Below w.heap.size w wr) (fun _ i _ => n - (intOf i).toNat)
  case atStart => exact ⟨0, [], none, 0, hpZero cap, g1, A1, c1, b1, g2, A2, c2, b2, rfl, rfl, Nat.zero_le _, Nat.le_refl _, (fun v hv => by cases hv), World.ownsRow_nil _ _ _ _, HTW.out, HB3.out⟩
  case round =>
    clear HTW HB3
    obtain ⟨j, told, At, ct, H, g1, A1, c1, b1, g2, A2, c2, b2, rfl, rfl, hj, htl, h64, hown, htw, hb⟩ := hrel
    by_cases hlt : j < n
    · obtain ⟨x, hx⟩ : ∃ x, l[j]? = some x := ⟨l[j]'(by rw [HNL.out]; exact hlt), List.getElem?_eq_getElem _⟩
      obtain ⟨b, o, hA, hbB, hcx⟩ := (HL.out.below hb) (by rw [HNL.out]; omega)
      subst hA
      obtain ⟨⟨i0, i1, i2, i3, i4, i5, i6⟩, hxr, hok⟩ := hcx j x hx
      have hxr0 := ((HL.out (by rw [HNL.out]; omega)))
      obtain ⟨b', o', hA', _, hcx0⟩ := hxr0
      have HXB := Lib.hid (hcx0 j x hx).2.1
      clear hcx hcx0 hA' hxr
      have hbl2 := HSB.out x (List.mem_of_getElem? hx)
      obtain ⟨o9, ho9⟩ : ∃ o9, meantO x = o9 := ⟨_, rfl⟩
      obtain ⟨p, hp⟩ : ∃ p, meantP x told = p := ⟨_, rfl⟩
      have hp64 : p < 18446744073709551616 := by rw [← hp]; exact meantP_lt x told hok.2.2.1
      have ho9l : o9 < 9 := by rw [← ho9]; exact meantO_lt x
      have hM := meant_any wr x hok At ct told w.heap.size (Tl.own hown) (by omega) h64
      rw [ho9, hp] at hM
      obtain ⟨_, _, hh, hn, hm, ha, _⟩ := hok
      obtain ⟨wh, xo, xh, xn, xm, xa, xA, xc, xb⟩ := x
      dsimp only at i0 i1 i2 i3 i4 i5 i6 hM hbl2 hh hn hm ha HXB
      obtain ⟨bl, hbl⟩ : ∃ bl, xb.length = bl := ⟨_, rfl⟩
      rw [hbl] at i6 hM hbl2
      have HBLN := Lib.hid hbl
      have HTW := Lib.hid htw
      have HOW := Lib.hid hown
      have H64 := Lib.hid h64
      have HBB := Lib.hid hb
      unfold callV at hM
      clear hx hb htw hown h64 hbl ho9 hp hh
      have hcase : o9 = 0 ∨ o9 = 1 ∨ o9 = 2 ∨ o9 = 3 ∨ o9 = 4 ∨ o9 = 5 ∨ o9 = 6 ∨ o9 = 7 ∨ o9 = 8 := by omega
      have HM := Lib.hid hM
      clear hM
      rcases hcase with rfl | rfl | rfl | rfl | rfl | rfl | rfl | rfl | rfl
      · -- 0
        go_wp2_with fail
        refine HM.out.mono ?_
        rintro e w2 ⟨rfl, hb2⟩
        obtain ⟨w3, hw3⟩ : ∃ w3, w2.alloc (.cells #[.int .i64 0, .int .u64 (p : Int), .int .u64 (xn : Int), .int .u64 (xm : Int), .int .u64 (xa : Int), .slice xA bl xc] 38) = w3 := ⟨_, rfl⟩
        have n3 : w3.heap[w2.heap.size]? = some (.cells #[.int .i64 0, .int .u64 (p : Int), .int .u64 (xn : Int), .int .u64 (xm : Int), .int .u64 (xa : Int), .slice xA bl xc] 38 (0, 0)) := by rw [← hw3]; exact heap_alloc_new w2 _
        have hb3 : Below wr.heap.size wr w3 := by rw [← hw3]; exact hb2.alloc hb2.size _
        have tw3 := HTW.out.below hb3
        have hb03 := HBB.out.trans (hb3.mono HBB.out.size)
        have hE3 := HE.out.keep (hb03.block 0 HE.out.lt)
        have ho3 := own_below' HOW.out hb3
        have hr3 := ((HXB.out.below hb03).more hb03.size)
        have h03 : ¬ foot g1 A1 0 := fun hf => by
          have h1 := tw3.h1.fB hf
          have h2 := HE.out.lt
          omega
        have hd := hdo_0 tw3.h1.ph hE3 h03 p xn xm xa bl xc xA xb
        obtain ⟨dc, hdc⟩ : ∃ dc, H.doC 0 p xn xm xa xb = dc := ⟨_, rfl⟩
        rw [hdc] at hd
        obtain ⟨⟨ck, ch, cn, cb, ⟨s0, s1, s2, s3, s4⟩⟩, H'⟩ := dc
        rw [doC_0] at hdc
        unfold callV at hd
        dsimp only at hd
        have HCP2 : Hid (H.cap = cap) := tw3.h1.ph.cp
        first | unfold gotR at hdc | unfold Rp.err at hdc | skip
        first | unfold St5.none at hdc | skip
        simp only [Prod.mk.injEq, Rp.mk.injEq, St5.mk.injEq] at hdc
        obtain ⟨⟨e1, e2, e3, e4, e5, e6, e7, e8, e9⟩, e10⟩ := hdc
        subst e10
        have HLK := Lib.hid (show _ ∧ _ ∧ _ ∧ _ ∧ _ ∧ _ ∧ _ ∧ _ ∧ _ from ⟨e1, e2, e3, e4, e5, e6, e7, e8, e9⟩)
        clear e1 e2 e3 e4 e5 e6 e7 e8 e9
        have HCP := HCP2
        obtain ⟨cbl, hcbl⟩ : ∃ cbl, cb.length = cbl := ⟨_, rfl⟩
        have HDO := Lib.hid hd
        have HB03 := Lib.hid hb03
        have HTW3 := Lib.hid tw3
        have HO3 := Lib.hid ho3
        have HR3 := Lib.hid hr3
        have HN3 := Lib.hid n3
        have HCBL := Lib.hid hcbl
        have HF2 := Lib.hid (fun k hf => tw3.h2.own_lt (k := k) (.inr hf))
        have HWR3 := Lib.hid hb3.size
        obtain ⟨y0, y1, y2, y3, y4, y5⟩ := cl_cells n3
        have hy3 := heap_lt' n3
        have HW3 := Lib.hid hw3
        clear hb2 hw3 n3 hb3 tw3 hb03 hE3 ho3 hr3 h03 hd hcbl HM
        go_wp2_with (first | (rw [HW3.out]) | fail)
        refine HDO.out.mono ?_
        rintro e w4 ⟨hdt, ht4⟩
        obtain ⟨A', c', rfl, hob⟩ := hdt
        unfold rpV rpRow
        dsimp only at hob ⊢
        rw [HCBL.out] at hob ⊢
        obtain ⟨A1', c1', b1', tw4, t4⟩ := HTW3.out.one HB03.out.size ht4 HCP.out
        have n4 := HTW3.out.h1.ph.locO t4 HN3.out (by decide) (by decide) (by decide)
        have ho4 := HTW3.out.h1.ph.ownO t4 HO3.out (by decide) (by decide) (by decide)
        have hb04 := HB03.out.trans (HTW3.out.h1.low HB03.out.size t4)
        have hr4 := (HXB.out.below hb04).more hb04.size
        obtain ⟨w5, hw5⟩ : ∃ w5, w4.alloc (.cells #[.int .i64 ck, .int .u64 (ch : Int), .int .u64 (cn : Int), .slice A' cbl c', .int .i64 (s0 : Int), .int .i64 (s1 : Int), .int .i64 (s2 : Int), .int .i64 (s3 : Int), .int .i64 (s4 : Int)] 45) = w5 := ⟨_, rfl⟩
        have b5 : Below w4.heap.size w4 w5 := by rw [← hw5]; exact (Below.refl _ _).alloc (Nat.le_refl _) _
        have n5 : w5.heap[w4.heap.size]? = some (.cells #[.int .i64 ck, .int .u64 (ch : Int), .int .u64 (cn : Int), .slice A' cbl c', .int .i64 (s0 : Int), .int .i64 (s1 : Int), .int .i64 (s2 : Int), .int .i64 (s3 : Int), .int .i64 (s4 : Int)] 45 (0, 0)) := by rw [← hw5]; exact heap_alloc_new w4 _
        obtain ⟨w6, hw6⟩ : ∃ w6, w5.alloc (.cells #[.int .i64 0, .int .u64 0, .int .u64 0, .slice none 0 0, .int .i64 0, .int .i64 0, .int .i64 0, .int .i64 0, .int .i64 0] 45) = w6 := ⟨_, rfl⟩
        have b6 : Below w5.heap.size w5 w6 := by rw [← hw6]; exact (Below.refl _ _).alloc (Nat.le_refl _) _
        have m6 : w6.heap[w5.heap.size]? = some (.cells #[.int .i64 0, .int .u64 0, .int .u64 0, .slice none 0 0, .int .i64 0, .int .i64 0, .int .i64 0, .int .i64 0, .int .i64 0] 45 (0, 0)) := by rw [← hw6]; exact heap_alloc_new w5 _
        have b46 : Below w4.heap.size w4 w6 := b5.trans (b6.mono b5.size)
        have r6 := (b6.block _ (heap_lt n5)).trans n5
        have n6 := (b46.block _ (heap_lt n4)).trans n4
        have tw6 := tw4.below b46
        have ho6 := own_below' ho4 b46
        have hb06 := hb04.trans (b46.mono hb04.size)
        have hr6 := (hr4.below b46).more b46.size
        have hob6 := own_below' hob b46
        have HTW6 := Lib.hid tw6
        have HO6 := Lib.hid ho6
        have HB06 := Lib.hid hb06
        have HR6 := Lib.hid r6
        have HM6 := Lib.hid m6
        have HOB6 := Lib.hid hob6
        have HW5 := Lib.hid hw5
        have HW6 := Lib.hid hw6
        have HLT := Lib.hid (heap_lt n5)
        have HM6L := Lib.hid (heap_lt m6)
        have HWX := Lib.hid (Nat.le_trans HWR3.out (Nat.le_trans t4.size b5.size))
        have HOB4L := Lib.hid (fun k e => (hob.lt k e).2)
        clear y0 y1 y2 y3 y4 y5 hy3
        obtain ⟨y0, y1, y2, y3, y4, y5⟩ := cl_cells n6
        have hy6 := heap_lt' n6
        obtain ⟨⟨z0, z1, z2, z3, z4, z5, z6, z7, z8⟩, f0, f1, f2, f3, f4, f5, f6, f7, f8⟩ := rp_cells m6
        have hz6 := heap_lt' m6
        obtain ⟨⟨x0, x1, x2, x3, x4, x5, x6, x7, x8⟩, _⟩ := rp_cells r6
        have hx6 := heap_lt' r6
        have N6 := Lib.hid n6
        clear ht4 tw4 t4 n4 ho4 hb04 hr4 hw5 b5 n5 hw6 b6 m6 b46 r6 n6 tw6 ho6 hb06 hr6 hob hob6 HDO HTW3 HO3 HB03 HR3 HN3
        obtain ⟨A2', c2', b2', tw7, t7⟩ : ∃ A2' c2' b2', Tw w.heap.size w6 cap q1 g1 A1' c1' b1' H q2 g2 A2' c2' b2' H ∧ Tch (foot g2 A2) w6 w6 := ⟨A2, c2, b2, HTW6.out, Tch.refl _ _⟩
        have hlow7 : Below w.heap.size w6 w6 := Below.refl _ _
        go_wp2_with (first | (rw [HW5.out]) | (rw [HW6.out]) | fail)
        refine (code_err w6 1 (by omega) (by omega)).mono ?_
        rintro e w99 ⟨rfl, rfl⟩
        obtain ⟨rfl, rfl, rfl, rfl, rfl, rfl, rfl, rfl, rfl⟩ := HLK.out
        obtain rfl : (0 : Nat) = cbl := HCBL.out
        have r7 := HTW6.out.h2.ph.locO t7 HR6.out (by decide) (by decide) (by decide)
        have m7 := HTW6.out.h2.ph.locO t7 HM6.out (by decide) (by decide) (by decide)
        have ho7 := HTW6.out.h2.ph.ownO t7 HO6.out (by decide) (by decide) (by decide)
        have hob7 := ownR_keep HOB6.out (fun k e => t7.block k (HOB6.out.lt k e).2 (fun hf => by
          have h1 := HF2.out k hf
          have h2 := (HOB6.out.lt k e).1
          omega))
        have hb07 := HB06.out.trans hlow7
        have m8 : w6.heap[w5.heap.size]? = some (.cells #[.int .i64 0, .int .u64 0, .int .u64 0, .slice none 0 0, .int .i64 0, .int .i64 0, .int .i64 0, .int .i64 0, .int .i64 0] 45 (0, 0)) := m7
        have t8 : Tch (fun k => k = w5.heap.size) w6 w6 := Tch.refl _ _
        obtain ⟨w9, hw9⟩ : ∃ w9, w6.setCell ⟨w5.heap.size, 0, none⟩ (.int .i64 1) = w9 := ⟨_, rfl⟩
        have m9 : w9.heap[w5.heap.size]? = some (.cells #[.int .i64 1, .int .u64 0, .int .u64 0, .slice none 0 0, .int .i64 0, .int .i64 0, .int .i64 0, .int .i64 0, .int .i64 0] 45 (0, 0)) := by rw [← hw9]; exact heap_setCell_same w6 w5.heap.size 0 _ _ _ m8
        have t9 : Tch (fun k => k = w5.heap.size) w6 w9 := by rw [← hw9]; exact Tch.set (S := fun k => k = w5.heap.size) w6 ⟨w5.heap.size, 0, none⟩ _ rfl
        have t79 : Tch (fun k => k = w5.heap.size) w6 w9 := t8.trans t9 (fun _ _ h => h)
        have hne : w4.heap.size ≠ w5.heap.size := fun e => by have h1 := HLT.out; omega
        have r9 := (t79.block _ (heap_lt r7) hne).trans r7
        have hob9 := ownR_keep hob7 (fun k e => t79.block k (hob7.lt k e).2 (fun hs => by
          have hs : k = w5.heap.size := hs
          have h1 := HOB4L.out k e
          have h2 := HLT.out
          omega))
        have hrb9 := Rd.ownR hob9
        have hsm := same_any w9 ⟨1, 0, 0, [], St5.none⟩ none A' 0 c' Rd.nil_ hrb9
        unfold rpV rpRow at hsm
        dsimp only [St5.none] at hsm
        rw [show ([] : List UInt8).length = 0 from rfl] at hsm
        have HSM := Lib.hid hsm
        have HT79 := Lib.hid t79
        have HM7 := Lib.hid m7
        have HTWS := Lib.hid tw7
        have HO7 := Lib.hid ho7
        have HB07 := Lib.hid hb07
        have HR9 := Lib.hid r9
        clear z0 z1 z2 z3 z4 z5 z6 z7 z8 f0 f1 f2 f3 f4 f5 f6 f7 f8 hz6
        obtain ⟨⟨z0, z1, z2, z3, z4, z5, z6, z7, z8⟩, f0, f1, f2, f3, f4, f5, f6, f7, f8⟩ := rp_cells m7
        have hz7 := heap_lt' m7
        obtain ⟨⟨a0, a1, a2, a3, a4, a5, a6, a7, a8⟩, d0, d1, d2, d3, d4, d5, d6, d7, d8⟩ := rp_cells m8
        have hz8 := heap_lt' m8
        obtain ⟨⟨e0, e1, e2, e3, e4, e5, e6, e7, e8⟩, _⟩ := rp_cells m9
        have hz9 := heap_lt' m9
        obtain ⟨⟨x0, x1, x2, x3, x4, x5, x6, x7, x8⟩, _⟩ := rp_cells r9
        have hx9 := heap_lt' r9
        have HW9 := Lib.hid hw9
        have HCD := Lib.hid (code_err w6 1 (by omega) (by omega))
        clear tw7 t7 hlow7 r7 m7 ho7 hob7 hb07 m8 t8 hw9 m9 t9 t79 hne r9 hob9 hsm HTW6 HO6 HB06 HR6 HM6 HOB6 hrb9
        go_wp2_with (first | (rw [HW9.out]) | fail)
        refine HSM.out.mono ?_
        rintro e w10 ⟨rfl, hb10⟩
        have t710 : Tch (fun k => k = w5.heap.size) w6 w10 := HT79.out.trans (Tch.of_below (S := fun k => k = w5.heap.size) hb10) (fun _ _ h => h)
        have tw10 := HTWS.out.tchO t710 (fun k hk => by
          have hk : k = w5.heap.size := hk
          subst hk
          exact ⟨_, _, HM7.out, by decide, by decide, by decide⟩)
        have ho10 := ownR_keep HO7.out (fun k e => t710.block k (HO7.out.lt k e).2 (fun hs => by
          have hs : k = w5.heap.size := hs
          have h1 := (HOW.out.lt k e).2
          have h2 := HWX.out
          omega))
        have hb010 := HB07.out.trans (t710.below (B := w.heap.size) (fun k hk => by
          have hk : k = w5.heap.size := hk
          have h2 := HWX.out
          have h3 := HBB.out.size
          omega) HB07.out.size)
        have r10 := (hb10.block _ (heap_lt HR9.out)).trans HR9.out
        clear z0 z1 z2 z3 z4 z5 z6 z7 z8 f0 f1 f2 f3 f4 f5 f6 f7 f8 hz7 a0 a1 a2 a3 a4 a5 a6 a7 a8 d0 d1 d2 d3 d4 d5 d6 d7 d8 hz8 e0 e1 e2 e3 e4 e5 e6 e7 e8 hz9 x0 x1 x2 x3 x4 x5 x6 x7 x8 hx9
        obtain ⟨⟨x0, x1, x2, x3, x4, x5, x6, x7, x8⟩, _⟩ := rp_cells r10
        have hx10 := heap_lt' r10
        have HTW10 := Lib.hid tw10
        have HO10 := Lib.hid ho10
        have HB010 := Lib.hid hb010
        clear hb10 t710 tw10 ho10 hb010 r10 HSM HCD HT79 HM7 HTWS HO7 HB07 HR9 HW9
        go_wp2
        go_roundw
        case rel => exact ⟨j + 1, told, At, ct, H, g1, A1', c1', b1', g2, A2', c2', b2', rfl, by go_num, by omega, by omega, H64.out, HO10.out, HTW10.out, HB010.out⟩
        case measure => simp only [intOf]; omega
      · -- 1
        go_wp2_with fail
        refine HM.out.mono ?_
        rintro e w2 ⟨rfl, hb2⟩
        obtain ⟨w3, hw3⟩ : ∃ w3, w2.alloc (.cells #[.int .i64 1, .int .u64 (p : Int), .int .u64 (xn : Int), .int .u64 (xm : Int), .int .u64 (xa : Int), .slice xA bl xc] 38) = w3 := ⟨_, rfl⟩
        have n3 : w3.heap[w2.heap.size]? = some (.cells #[.int .i64 1, .int .u64 (p : Int), .int .u64 (xn : Int), .int .u64 (xm : Int), .int .u64 (xa : Int), .slice xA bl xc] 38 (0, 0)) := by rw [← hw3]; exact heap_alloc_new w2 _
        have hb3 : Below wr.heap.size wr w3 := by rw [← hw3]; exact hb2.alloc hb2.size _
        have tw3 := HTW.out.below hb3
        have hb03 := HBB.out.trans (hb3.mono HBB.out.size)
        have hE3 := HE.out.keep (hb03.block 0 HE.out.lt)
        have ho3 := own_below' HOW.out hb3
        have hr3 := ((HXB.out.below hb03).more hb03.size)
        have h03 : ¬ foot g1 A1 0 := fun hf => by
          have h1 := tw3.h1.fB hf
          have h2 := HE.out.lt
          omega
        have hd := hdo_1 tw3.h1.ph hE3 h03 p xn xm xa bl xc xA xb hn
        obtain ⟨dc, hdc⟩ : ∃ dc, H.doC 1 p xn xm xa xb = dc := ⟨_, rfl⟩
        rw [hdc] at hd
        obtain ⟨⟨ck, ch, cn, cb, ⟨s0, s1, s2, s3, s4⟩⟩, H'⟩ := dc
        rw [doC_1] at hdc
        unfold callV at hd
        dsimp only at hd
        obtain ⟨r1, hr1⟩ : ∃ r1, H.get xn 165 = r1 := ⟨_, rfl⟩
        rw [hr1] at hdc
        obtain ⟨⟨rh, rk⟩, H2⟩ := r1
        have HCP2 : Hid (H2.cap = cap) := (show H2.cap = cap by have e := get_cap (H := H) (n := xn) (x := 165); rw [hr1] at e; exact e.trans tw3.h1.ph.cp)
        have HRK := Lib.hid (show 0 ≤ rk ∧ rk ≤ 10 by have e := get_code (H := H) xn 165; rw [hr1] at e; exact wrap_le e ⟨by decide, by decide⟩)
        have HRH := Lib.hid (show rh < 18446744073709551616 by have e := get_lt tw3.h1.ph.rd (by rw [tw3.h1.ph.cp]; exact tw3.h1.ph.c16) xn 165; rw [hr1] at e; exact e)
        have HR1 := Lib.hid hr1
        clear hr1
        first | unfold gotR at hdc | unfold Rp.err at hdc | skip
        first | unfold St5.none at hdc | skip
        simp only [Prod.mk.injEq, Rp.mk.injEq, St5.mk.injEq] at hdc
        obtain ⟨⟨e1, e2, e3, e4, e5, e6, e7, e8, e9⟩, e10⟩ := hdc
        subst e10
        have HLK := Lib.hid (show _ ∧ _ ∧ _ ∧ _ ∧ _ ∧ _ ∧ _ ∧ _ ∧ _ from ⟨e1, e2, e3, e4, e5, e6, e7, e8, e9⟩)
        clear e1 e2 e3 e4 e5 e6 e7 e8 e9
        have HCP := HCP2
        obtain ⟨cbl, hcbl⟩ : ∃ cbl, cb.length = cbl := ⟨_, rfl⟩
        have HDO := Lib.hid hd
        have HB03 := Lib.hid hb03
        have HTW3 := Lib.hid tw3
        have HO3 := Lib.hid ho3
        have HR3 := Lib.hid hr3
        have HN3 := Lib.hid n3
        have HCBL := Lib.hid hcbl
        have HF2 := Lib.hid (fun k hf => tw3.h2.own_lt (k := k) (.inr hf))
        have HWR3 := Lib.hid hb3.size
        obtain ⟨y0, y1, y2, y3, y4, y5⟩ := cl_cells n3
        have hy3 := heap_lt' n3
        have HW3 := Lib.hid hw3
        clear hb2 hw3 n3 hb3 tw3 hb03 hE3 ho3 hr3 h03 hd hcbl HM
        go_wp2_with (first | (rw [HW3.out]) | fail)
        refine HDO.out.mono ?_
        rintro e w4 ⟨hdt, ht4⟩
        obtain ⟨A', c', rfl, hob⟩ := hdt
        unfold rpV rpRow
        dsimp only at hob ⊢
        rw [HCBL.out] at hob ⊢
        obtain ⟨A1', c1', b1', tw4, t4⟩ := HTW3.out.one HB03.out.size ht4 HCP.out
        have n4 := HTW3.out.h1.ph.locO t4 HN3.out (by decide) (by decide) (by decide)
        have ho4 := HTW3.out.h1.ph.ownO t4 HO3.out (by decide) (by decide) (by decide)
        have hb04 := HB03.out.trans (HTW3.out.h1.low HB03.out.size t4)
        have hr4 := (HXB.out.below hb04).more hb04.size
        obtain ⟨w5, hw5⟩ : ∃ w5, w4.alloc (.cells #[.int .i64 ck, .int .u64 (ch : Int), .int .u64 (cn : Int), .slice A' cbl c', .int .i64 (s0 : Int), .int .i64 (s1 : Int), .int .i64 (s2 : Int), .int .i64 (s3 : Int), .int .i64 (s4 : Int)] 45) = w5 := ⟨_, rfl⟩
        have b5 : Below w4.heap.size w4 w5 := by rw [← hw5]; exact (Below.refl _ _).alloc (Nat.le_refl _) _
        have n5 : w5.heap[w4.heap.size]? = some (.cells #[.int .i64 ck, .int .u64 (ch : Int), .int .u64 (cn : Int), .slice A' cbl c', .int .i64 (s0 : Int), .int .i64 (s1 : Int), .int .i64 (s2 : Int), .int .i64 (s3 : Int), .int .i64 (s4 : Int)] 45 (0, 0)) := by rw [← hw5]; exact heap_alloc_new w4 _
        obtain ⟨w6, hw6⟩ : ∃ w6, w5.alloc (.cells #[.int .i64 0, .int .u64 0, .int .u64 0, .slice none 0 0, .int .i64 0, .int .i64 0, .int .i64 0, .int .i64 0, .int .i64 0] 45) = w6 := ⟨_, rfl⟩
        have b6 : Below w5.heap.size w5 w6 := by rw [← hw6]; exact (Below.refl _ _).alloc (Nat.le_refl _) _
        have m6 : w6.heap[w5.heap.size]? = some (.cells #[.int .i64 0, .int .u64 0, .int .u64 0, .slice none 0 0, .int .i64 0, .int .i64 0, .int .i64 0, .int .i64 0, .int .i64 0] 45 (0, 0)) := by rw [← hw6]; exact heap_alloc_new w5 _
        have b46 : Below w4.heap.size w4 w6 := b5.trans (b6.mono b5.size)
        have r6 := (b6.block _ (heap_lt n5)).trans n5
        have n6 := (b46.block _ (heap_lt n4)).trans n4
        have tw6 := tw4.below b46
        have ho6 := own_below' ho4 b46
        have hb06 := hb04.trans (b46.mono hb04.size)
        have hr6 := (hr4.below b46).more b46.size
        have hob6 := own_below' hob b46
        have hk := (show _ from (by have e := hmalloc_any tw6.h2.ph xn hn; rw [HR1.out] at e; exact e))
        have HKC := Lib.hid hk
        have HTW6 := Lib.hid tw6
        have HO6 := Lib.hid ho6
        have HB06 := Lib.hid hb06
        have HR6 := Lib.hid r6
        have HM6 := Lib.hid m6
        have HOB6 := Lib.hid hob6
        have HW5 := Lib.hid hw5
        have HW6 := Lib.hid hw6
        have HLT := Lib.hid (heap_lt n5)
        have HM6L := Lib.hid (heap_lt m6)
        have HWX := Lib.hid (Nat.le_trans HWR3.out (Nat.le_trans t4.size b5.size))
        have HOB4L := Lib.hid (fun k e => (hob.lt k e).2)
        clear y0 y1 y2 y3 y4 y5 hy3
        obtain ⟨y0, y1, y2, y3, y4, y5⟩ := cl_cells n6
        have hy6 := heap_lt' n6
        obtain ⟨⟨z0, z1, z2, z3, z4, z5, z6, z7, z8⟩, f0, f1, f2, f3, f4, f5, f6, f7, f8⟩ := rp_cells m6
        have hz6 := heap_lt' m6
        obtain ⟨⟨x0, x1, x2, x3, x4, x5, x6, x7, x8⟩, _⟩ := rp_cells r6
        have hx6 := heap_lt' r6
        have N6 := Lib.hid n6
        clear ht4 tw4 t4 n4 ho4 hb04 hr4 hw5 b5 n5 hw6 b6 m6 b46 r6 n6 tw6 ho6 hb06 hr6 hob hob6 hk HDO HTW3 HO3 HB03 HR3 HN3
        go_wp2_with (first | (rw [HW5.out]) | (rw [HW6.out]) | fail)
        refine HKC.out.mono ?_
        rintro e w7 ⟨rfl, ht7_⟩
        have ht7 : PTurn g2 16 cap A2 H2 w6 w7 := ht7_
        obtain ⟨A2', c2', b2', tw7, t7⟩ := HTW6.out.two HB06.out.size ht7 HCP2.out
        have hlow7 : Below w.heap.size w6 w7 := HTW6.out.h2.low HB06.out.size t7
        obtain ⟨rfl, rfl, rfl, rfl, rfl, rfl, rfl, rfl, rfl⟩ := HLK.out
        obtain rfl : (0 : Nat) = cbl := HCBL.out
        have r7 := HTW6.out.h2.ph.locO t7 HR6.out (by decide) (by decide) (by decide)
        have m7 := HTW6.out.h2.ph.locO t7 HM6.out (by decide) (by decide) (by decide)
        have ho7 := HTW6.out.h2.ph.ownO t7 HO6.out (by decide) (by decide) (by decide)
        have hob7 := ownR_keep HOB6.out (fun k e => t7.block k (HOB6.out.lt k e).2 (fun hf => by
          have h1 := HF2.out k hf
          have h2 := (HOB6.out.lt k e).1
          omega))
        have hb07 := HB06.out.trans hlow7
        obtain ⟨w8, hw8⟩ : ∃ w8, w7.setCell ⟨w5.heap.size, 1, none⟩ (.int .u64 (rh : Int)) = w8 := ⟨_, rfl⟩
        have m8 : w8.heap[w5.heap.size]? = some (.cells #[.int .i64 0, .int .u64 (rh : Int), .int .u64 0, .slice none 0 0, .int .i64 0, .int .i64 0, .int .i64 0, .int .i64 0, .int .i64 0] 45 (0, 0)) := by rw [← hw8]; exact heap_setCell_same w7 w5.heap.size 1 _ _ _ m7
        have t8 : Tch (fun k => k = w5.heap.size) w7 w8 := by rw [← hw8]; exact Tch.set (S := fun k => k = w5.heap.size) w7 ⟨w5.heap.size, 1, none⟩ _ rfl
        have HW8 := Lib.hid hw8
        clear hw8
        obtain ⟨w9, hw9⟩ : ∃ w9, w8.setCell ⟨w5.heap.size, 0, none⟩ (.int .i64 rk) = w9 := ⟨_, rfl⟩
        have m9 : w9.heap[w5.heap.size]? = some (.cells #[.int .i64 rk, .int .u64 (rh : Int), .int .u64 0, .slice none 0 0, .int .i64 0, .int .i64 0, .int .i64 0, .int .i64 0, .int .i64 0] 45 (0, 0)) := by rw [← hw9]; exact heap_setCell_same w8 w5.heap.size 0 _ _ _ m8
        have t9 : Tch (fun k => k = w5.heap.size) w8 w9 := by rw [← hw9]; exact Tch.set (S := fun k => k = w5.heap.size) w8 ⟨w5.heap.size, 0, none⟩ _ rfl
        have t79 : Tch (fun k => k = w5.heap.size) w7 w9 := t8.trans t9 (fun _ _ h => h)
        have hne : w4.heap.size ≠ w5.heap.size := fun e => by have h1 := HLT.out; omega
        have r9 := (t79.block _ (heap_lt r7) hne).trans r7
        have hob9 := ownR_keep hob7 (fun k e => t79.block k (hob7.lt k e).2 (fun hs => by
          have hs : k = w5.heap.size := hs
          have h1 := HOB4L.out k e
          have h2 := HLT.out
          omega))
        have hrb9 := Rd.ownR hob9
        have hsm := same_any w9 ⟨rk, rh, 0, [], St5.none⟩ none A' 0 c' Rd.nil_ hrb9
        unfold rpV rpRow at hsm
        dsimp only [St5.none] at hsm
        rw [show ([] : List UInt8).length = 0 from rfl] at hsm
        have HSM := Lib.hid hsm
        have HT79 := Lib.hid t79
        have HM7 := Lib.hid m7
        have HTWS := Lib.hid tw7
        have HO7 := Lib.hid ho7
        have HB07 := Lib.hid hb07
        have HR9 := Lib.hid r9
        clear z0 z1 z2 z3 z4 z5 z6 z7 z8 f0 f1 f2 f3 f4 f5 f6 f7 f8 hz6
        obtain ⟨⟨z0, z1, z2, z3, z4, z5, z6, z7, z8⟩, f0, f1, f2, f3, f4, f5, f6, f7, f8⟩ := rp_cells m7
        have hz7 := heap_lt' m7
        obtain ⟨⟨a0, a1, a2, a3, a4, a5, a6, a7, a8⟩, d0, d1, d2, d3, d4, d5, d6, d7, d8⟩ := rp_cells m8
        have hz8 := heap_lt' m8
        obtain ⟨⟨e0, e1, e2, e3, e4, e5, e6, e7, e8⟩, _⟩ := rp_cells m9
        have hz9 := heap_lt' m9
        obtain ⟨⟨x0, x1, x2, x3, x4, x5, x6, x7, x8⟩, _⟩ := rp_cells r9
        have hx9 := heap_lt' r9
        have HW9 := Lib.hid hw9
        have HCD := Lib.hid (code_any w8 rk HRK.out)
        clear tw7 t7 hlow7 r7 m7 ho7 hob7 hb07 m8 t8 hw9 m9 t9 t79 hne r9 hob9 hsm HTW6 HO6 HB06 HR6 HM6 HOB6 hrb9 HKC ht7
        clear y0 y1 y2 y3 y4 y5 hy6
        go_wp2_with (first | (rw [HW8.out]) | fail)
        refine HCD.out.mono ?_
        rintro e w99 ⟨rfl, rfl⟩
        go_wp2_with (first | (rw [HW9.out]) | fail)
        refine HSM.out.mono ?_
        rintro e w10 ⟨rfl, hb10⟩
        have t710 : Tch (fun k => k = w5.heap.size) w7 w10 := HT79.out.trans (Tch.of_below (S := fun k => k = w5.heap.size) hb10) (fun _ _ h => h)
        have tw10 := HTWS.out.tchO t710 (fun k hk => by
          have hk : k = w5.heap.size := hk
          subst hk
          exact ⟨_, _, HM7.out, by decide, by decide, by decide⟩)
        have ho10 := ownR_keep HO7.out (fun k e => t710.block k (HO7.out.lt k e).2 (fun hs => by
          have hs : k = w5.heap.size := hs
          have h1 := (HOW.out.lt k e).2
          have h2 := HWX.out
          omega))
        have hb010 := HB07.out.trans (t710.below (B := w.heap.size) (fun k hk => by
          have hk : k = w5.heap.size := hk
          have h2 := HWX.out
          have h3 := HBB.out.size
          omega) HB07.out.size)
        have r10 := (hb10.block _ (heap_lt HR9.out)).trans HR9.out
        clear z0 z1 z2 z3 z4 z5 z6 z7 z8 f0 f1 f2 f3 f4 f5 f6 f7 f8 hz7 a0 a1 a2 a3 a4 a5 a6 a7 a8 d0 d1 d2 d3 d4 d5 d6 d7 d8 hz8 e0 e1 e2 e3 e4 e5 e6 e7 e8 hz9 x0 x1 x2 x3 x4 x5 x6 x7 x8 hx9
        obtain ⟨⟨x0, x1, x2, x3, x4, x5, x6, x7, x8⟩, _⟩ := rp_cells r10
        have hx10 := heap_lt' r10
        have HTW10 := Lib.hid tw10
        have HO10 := Lib.hid ho10
        have HB010 := Lib.hid hb010
        clear hb10 t710 tw10 ho10 hb010 r10 HSM HCD HT79 HM7 HTWS HO7 HB07 HR9 HW9
        by_cases hch : rh = 0
        · have gz : ((rh : Int) != 0) = false := by rw [bne_eq_false_iff_eq]; omega
          have gz2 : (rh != 0) = false := by rw [bne_eq_false_iff_eq]; exact hch
          clear hch
          go_wp2
          go_roundw
          case rel => exact ⟨j + 1, told, At, ct, H2, g1, A1', c1', b1', g2, A2', c2', b2', rfl, by go_num, by omega, by omega, H64.out, HO10.out, HTW10.out, HB010.out⟩
          case measure => simp only [intOf]; omega
        · have gz : ((rh : Int) != 0) = true := by rw [bne_iff_ne]; omega
          have gz2 : (rh != 0) = true := by rw [bne_iff_ne]; exact hch
          obtain ⟨w11, hw11⟩ : ∃ w11, w10.alloc (.cells #[.int .u64 (rh : Int)] 22) = w11 := ⟨_, rfl⟩
          have b11 : Below w10.heap.size w10 w11 := by rw [← hw11]; exact (Below.refl _ _).alloc (Nat.le_refl _) _
          have n11 : w11.heap[w10.heap.size]? = some (.cells #[.int .u64 (rh : Int)] 22 (0, 0)) := by rw [← hw11]; exact heap_alloc_new w10 _
          have c11 : w11.cell? ⟨w10.heap.size, 0, none⟩ = some (uV rh) := by rw [cell_of_row w11 _ 0 _ _ (0, 0) n11]; rfl
          have HO11 := Lib.hid (own_below' HO10.out b11)
          have HTW11 := Lib.hid (HTW10.out.below b11)
          have HB011 := Lib.hid (HB010.out.trans (b11.mono HB010.out.size))
          have HC11 := Lib.hid c11
          have HW11 := Lib.hid hw11
          have H641 : Hid (∀ v ∈ told ++ [rh], v < 18446744073709551616) := fun v hv => by
            rcases List.mem_append.1 hv with h | h
            · exact H64.out v h
            · simp at h
              rw [h]
              exact HRH.out
          clear hch hw11 b11 n11 c11
          go_wp2_with (first
            | (rw [HW11.out])
            | (at_builtin; go_must (refine append_told rfl _ _ rfl w.heap.size _ told.length told rfl HO11.out ⟨w10.heap.size, 0, none⟩ 1 rh rfl HC11.out (by omega) HB011.out.size ?_); intro x12 w12 own12 gr12;
               have HX12 : Hid (w12.ownsRow w.heap.size 22 1 x12 (told.length + 1) ((told ++ [rh]).map uV) ∧ w11.grownBy w12 (Value.slice At told.length ct).ownBlock) := ⟨own12, gr12⟩; clear own12 gr12)
            | fail)
          go_roundw
          case rel =>
            obtain ⟨own12, gr12⟩ := HX12.out
            obtain ⟨A12, c12, rfl⟩ := own_sl own12
            have tg : Tch (fun k => (Value.slice At told.length ct).ownBlock = some k) w11 w12 := Tch.grown gr12 (fun k e => e)
            refine ⟨j + 1, told ++ [rh], A12, c12, H2, g1, A1', c1', b1', g2, A2', c2', b2', by rw [List.length_append, List.length_singleton], by go_num, by omega, by rw [List.length_append, List.length_singleton]; omega, H641.out, by rw [List.length_append, List.length_singleton]; exact own12, HTW11.out.tchO tg (fun k hk => own_oth HO11.out hk), HB011.out.trans (tg.below (fun k hk => (HO11.out.lt k hk).1) HB011.out.size)⟩
          case measure => simp only [intOf]; omega
      · -- 2
        go_wp2_with fail
        refine HM.out.mono ?_
        rintro e w2 ⟨rfl, hb2⟩
        obtain ⟨w3, hw3⟩ : ∃ w3, w2.alloc (.cells #[.int .i64 2, .int .u64 (p : Int), .int .u64 (xn : Int), .int .u64 (xm : Int), .int .u64 (xa : Int), .slice xA bl xc] 38) = w3 := ⟨_, rfl⟩
        have n3 : w3.heap[w2.heap.size]? = some (.cells #[.int .i64 2, .int .u64 (p : Int), .int .u64 (xn : Int), .int .u64 (xm : Int), .int .u64 (xa : Int), .slice xA bl xc] 38 (0, 0)) := by rw [← hw3]; exact heap_alloc_new w2 _
        have hb3 : Below wr.heap.size wr w3 := by rw [← hw3]; exact hb2.alloc hb2.size _
        have tw3 := HTW.out.below hb3
        have hb03 := HBB.out.trans (hb3.mono HBB.out.size)
        have hE3 := HE.out.keep (hb03.block 0 HE.out.lt)
        have ho3 := own_below' HOW.out hb3
        have hr3 := ((HXB.out.below hb03).more hb03.size)
        have h03 : ¬ foot g1 A1 0 := fun hf => by
          have h1 := tw3.h1.fB hf
          have h2 := HE.out.lt
          omega
        have hd := hdo_2 tw3.h1.ph hE3 h03 p xn xm xa bl xc xA xb hn hm
        obtain ⟨dc, hdc⟩ : ∃ dc, H.doC 2 p xn xm xa xb = dc := ⟨_, rfl⟩
        rw [hdc] at hd
        obtain ⟨⟨ck, ch, cn, cb, ⟨s0, s1, s2, s3, s4⟩⟩, H'⟩ := dc
        rw [doC_2] at hdc
        unfold callV at hd
        dsimp only at hd
        obtain ⟨r1, hr1⟩ : ∃ r1, H.calloc xn xm = r1 := ⟨_, rfl⟩
        rw [hr1] at hdc
        obtain ⟨⟨rh, rk⟩, H2⟩ := r1
        have HCP2 : Hid (H2.cap = cap) := (show H2.cap = cap by have e := calloc_cap (H := H) (n := xn) (m := xm); rw [hr1] at e; exact e.trans tw3.h1.ph.cp)
        have HRK := Lib.hid (show 0 ≤ rk ∧ rk ≤ 10 by have e := calloc_code (H := H) xn xm; rw [hr1] at e; exact wrap_le e ⟨by decide, by decide⟩)
        have HRH := Lib.hid (show rh < 18446744073709551616 by have e := calloc_lt tw3.h1.ph.rd (by rw [tw3.h1.ph.cp]; exact tw3.h1.ph.c16) xn xm; rw [hr1] at e; exact e)
        have HR1 := Lib.hid hr1
        clear hr1
        first | unfold gotR at hdc | unfold Rp.err at hdc | skip
        first | unfold St5.none at hdc | skip
        simp only [Prod.mk.injEq, Rp.mk.injEq, St5.mk.injEq] at hdc
        obtain ⟨⟨e1, e2, e3, e4, e5, e6, e7, e8, e9⟩, e10⟩ := hdc
        subst e10
        have HLK := Lib.hid (show _ ∧ _ ∧ _ ∧ _ ∧ _ ∧ _ ∧ _ ∧ _ ∧ _ from ⟨e1, e2, e3, e4, e5, e6, e7, e8, e9⟩)
        clear e1 e2 e3 e4 e5 e6 e7 e8 e9
        have HCP := HCP2
        obtain ⟨cbl, hcbl⟩ : ∃ cbl, cb.length = cbl := ⟨_, rfl⟩
        have HDO := Lib.hid hd
        have HB03 := Lib.hid hb03
        have HTW3 := Lib.hid tw3
        have HO3 := Lib.hid ho3
        have HR3 := Lib.hid hr3
        have HN3 := Lib.hid n3
        have HCBL := Lib.hid hcbl
        have HF2 := Lib.hid (fun k hf => tw3.h2.own_lt (k := k) (.inr hf))
        have HWR3 := Lib.hid hb3.size
        obtain ⟨y0, y1, y2, y3, y4, y5⟩ := cl_cells n3
        have hy3 := heap_lt' n3
        have HW3 := Lib.hid hw3
        clear hb2 hw3 n3 hb3 tw3 hb03 hE3 ho3 hr3 h03 hd hcbl HM
        go_wp2_with (first | (rw [HW3.out]) | fail)
        refine HDO.out.mono ?_
        rintro e w4 ⟨hdt, ht4⟩
        obtain ⟨A', c', rfl, hob⟩ := hdt
        unfold rpV rpRow
        dsimp only at hob ⊢
        rw [HCBL.out] at hob ⊢
        obtain ⟨A1', c1', b1', tw4, t4⟩ := HTW3.out.one HB03.out.size ht4 HCP.out
        have n4 := HTW3.out.h1.ph.locO t4 HN3.out (by decide) (by decide) (by decide)
        have ho4 := HTW3.out.h1.ph.ownO t4 HO3.out (by decide) (by decide) (by decide)
        have hb04 := HB03.out.trans (HTW3.out.h1.low HB03.out.size t4)
        have hr4 := (HXB.out.below hb04).more hb04.size
        obtain ⟨w5, hw5⟩ : ∃ w5, w4.alloc (.cells #[.int .i64 ck, .int .u64 (ch : Int), .int .u64 (cn : Int), .slice A' cbl c', .int .i64 (s0 : Int), .int .i64 (s1 : Int), .int .i64 (s2 : Int), .int .i64 (s3 : Int), .int .i64 (s4 : Int)] 45) = w5 := ⟨_, rfl⟩
        have b5 : Below w4.heap.size w4 w5 := by rw [← hw5]; exact (Below.refl _ _).alloc (Nat.le_refl _) _
        have n5 : w5.heap[w4.heap.size]? = some (.cells #[.int .i64 ck, .int .u64 (ch : Int), .int .u64 (cn : Int), .slice A' cbl c', .int .i64 (s0 : Int), .int .i64 (s1 : Int), .int .i64 (s2 : Int), .int .i64 (s3 : Int), .int .i64 (s4 : Int)] 45 (0, 0)) := by rw [← hw5]; exact heap_alloc_new w4 _
        obtain ⟨w6, hw6⟩ : ∃ w6, w5.alloc (.cells #[.int .i64 0, .int .u64 0, .int .u64 0, .slice none 0 0, .int .i64 0, .int .i64 0, .int .i64 0, .int .i64 0, .int .i64 0] 45) = w6 := ⟨_, rfl⟩
        have b6 : Below w5.heap.size w5 w6 := by rw [← hw6]; exact (Below.refl _ _).alloc (Nat.le_refl _) _
        have m6 : w6.heap[w5.heap.size]? = some (.cells #[.int .i64 0, .int .u64 0, .int .u64 0, .slice none 0 0, .int .i64 0, .int .i64 0, .int .i64 0, .int .i64 0, .int .i64 0] 45 (0, 0)) := by rw [← hw6]; exact heap_alloc_new w5 _
        have b46 : Below w4.heap.size w4 w6 := b5.trans (b6.mono b5.size)
        have r6 := (b6.block _ (heap_lt n5)).trans n5
        have n6 := (b46.block _ (heap_lt n4)).trans n4
        have tw6 := tw4.below b46
        have ho6 := own_below' ho4 b46
        have hb06 := hb04.trans (b46.mono hb04.size)
        have hr6 := (hr4.below b46).more b46.size
        have hob6 := own_below' hob b46
        have hk := (show _ from (by have e := hcalloc_prog tw6.h2.ph xn xm hn hm; rw [HR1.out] at e; exact e))
        have HKC := Lib.hid hk
        have HTW6 := Lib.hid tw6
        have HO6 := Lib.hid ho6
        have HB06 := Lib.hid hb06
        have HR6 := Lib.hid r6
        have HM6 := Lib.hid m6
        have HOB6 := Lib.hid hob6
        have HW5 := Lib.hid hw5
        have HW6 := Lib.hid hw6
        have HLT := Lib.hid (heap_lt n5)
        have HM6L := Lib.hid (heap_lt m6)
        have HWX := Lib.hid (Nat.le_trans HWR3.out (Nat.le_trans t4.size b5.size))
        have HOB4L := Lib.hid (fun k e => (hob.lt k e).2)
        clear y0 y1 y2 y3 y4 y5 hy3
        obtain ⟨y0, y1, y2, y3, y4, y5⟩ := cl_cells n6
        have hy6 := heap_lt' n6
        obtain ⟨⟨z0, z1, z2, z3, z4, z5, z6, z7, z8⟩, f0, f1, f2, f3, f4, f5, f6, f7, f8⟩ := rp_cells m6
        have hz6 := heap_lt' m6
        obtain ⟨⟨x0, x1, x2, x3, x4, x5, x6, x7, x8⟩, _⟩ := rp_cells r6
        have hx6 := heap_lt' r6
        have N6 := Lib.hid n6
        clear ht4 tw4 t4 n4 ho4 hb04 hr4 hw5 b5 n5 hw6 b6 m6 b46 r6 n6 tw6 ho6 hb06 hr6 hob hob6 hk HDO HTW3 HO3 HB03 HR3 HN3
        go_wp2_with (first | (rw [HW5.out]) | (rw [HW6.out]) | fail)
        refine HKC.out.mono ?_
        rintro e w7 ⟨rfl, ht7_⟩
        have ht7 : PTurn g2 16 cap A2 H2 w6 w7 := ht7_
        obtain ⟨A2', c2', b2', tw7, t7⟩ := HTW6.out.two HB06.out.size ht7 HCP2.out
        have hlow7 : Below w.heap.size w6 w7 := HTW6.out.h2.low HB06.out.size t7
        obtain ⟨rfl, rfl, rfl, rfl, rfl, rfl, rfl, rfl, rfl⟩ := HLK.out
        obtain rfl : (0 : Nat) = cbl := HCBL.out
        have r7 := HTW6.out.h2.ph.locO t7 HR6.out (by decide) (by decide) (by decide)
        have m7 := HTW6.out.h2.ph.locO t7 HM6.out (by decide) (by decide) (by decide)
        have ho7 := HTW6.out.h2.ph.ownO t7 HO6.out (by decide) (by decide) (by decide)
        have hob7 := ownR_keep HOB6.out (fun k e => t7.block k (HOB6.out.lt k e).2 (fun hf => by
          have h1 := HF2.out k hf
          have h2 := (HOB6.out.lt k e).1
          omega))
        have hb07 := HB06.out.trans hlow7
        obtain ⟨w8, hw8⟩ : ∃ w8, w7.setCell ⟨w5.heap.size, 1, none⟩ (.int .u64 (rh : Int)) = w8 := ⟨_, rfl⟩
        have m8 : w8.heap[w5.heap.size]? = some (.cells #[.int .i64 0, .int .u64 (rh : Int), .int .u64 0, .slice none 0 0, .int .i64 0, .int .i64 0, .int .i64 0, .int .i64 0, .int .i64 0] 45 (0, 0)) := by rw [← hw8]; exact heap_setCell_same w7 w5.heap.size 1 _ _ _ m7
        have t8 : Tch (fun k => k = w5.heap.size) w7 w8 := by rw [← hw8]; exact Tch.set (S := fun k => k = w5.heap.size) w7 ⟨w5.heap.size, 1, none⟩ _ rfl
        have HW8 := Lib.hid hw8
        clear hw8
        obtain ⟨w9, hw9⟩ : ∃ w9, w8.setCell ⟨w5.heap.size, 0, none⟩ (.int .i64 rk) = w9 := ⟨_, rfl⟩
        have m9 : w9.heap[w5.heap.size]? = some (.cells #[.int .i64 rk, .int .u64 (rh : Int), .int .u64 0, .slice none 0 0, .int .i64 0, .int .i64 0, .int .i64 0, .int .i64 0, .int .i64 0] 45 (0, 0)) := by rw [← hw9]; exact heap_setCell_same w8 w5.heap.size 0 _ _ _ m8
        have t9 : Tch (fun k => k = w5.heap.size) w8 w9 := by rw [← hw9]; exact Tch.set (S := fun k => k = w5.heap.size) w8 ⟨w5.heap.size, 0, none⟩ _ rfl
        have t79 : Tch (fun k => k = w5.heap.size) w7 w9 := t8.trans t9 (fun _ _ h => h)
        have hne : w4.heap.size ≠ w5.heap.size := fun e => by have h1 := HLT.out; omega
        have r9 := (t79.block _ (heap_lt r7) hne).trans r7
        have hob9 := ownR_keep hob7 (fun k e => t79.block k (hob7.lt k e).2 (fun hs => by
          have hs : k = w5.heap.size := hs
          have h1 := HOB4L.out k e
          have h2 := HLT.out
          omega))
        have hrb9 := Rd.ownR hob9
        have hsm := same_any w9 ⟨rk, rh, 0, [], St5.none⟩ none A' 0 c' Rd.nil_ hrb9
        unfold rpV rpRow at hsm
        dsimp only [St5.none] at hsm
        rw [show ([] : List UInt8).length = 0 from rfl] at hsm
        have HSM := Lib.hid hsm
        have HT79 := Lib.hid t79
        have HM7 := Lib.hid m7
        have HTWS := Lib.hid tw7
        have HO7 := Lib.hid ho7
        have HB07 := Lib.hid hb07
        have HR9 := Lib.hid r9
        clear z0 z1 z2 z3 z4 z5 z6 z7 z8 f0 f1 f2 f3 f4 f5 f6 f7 f8 hz6
        obtain ⟨⟨z0, z1, z2, z3, z4, z5, z6, z7, z8⟩, f0, f1, f2, f3, f4, f5, f6, f7, f8⟩ := rp_cells m7
        have hz7 := heap_lt' m7
        obtain ⟨⟨a0, a1, a2, a3, a4, a5, a6, a7, a8⟩, d0, d1, d2, d3, d4, d5, d6, d7, d8⟩ := rp_cells m8
        have hz8 := heap_lt' m8
        obtain ⟨⟨e0, e1, e2, e3, e4, e5, e6, e7, e8⟩, _⟩ := rp_cells m9
        have hz9 := heap_lt' m9
        obtain ⟨⟨x0, x1, x2, x3, x4, x5, x6, x7, x8⟩, _⟩ := rp_cells r9
        have hx9 := heap_lt' r9
        have HW9 := Lib.hid hw9
        have HCD := Lib.hid (code_any w8 rk HRK.out)
        clear tw7 t7 hlow7 r7 m7 ho7 hob7 hb07 m8 t8 hw9 m9 t9 t79 hne r9 hob9 hsm HTW6 HO6 HB06 HR6 HM6 HOB6 hrb9 HKC ht7
        clear y0 y1 y2 y3 y4 y5 hy6
        go_wp2_with (first | (rw [HW8.out]) | fail)
        refine HCD.out.mono ?_
        rintro e w99 ⟨rfl, rfl⟩
        go_wp2_with (first | (rw [HW9.out]) | fail)
        refine HSM.out.mono ?_
        rintro e w10 ⟨rfl, hb10⟩
        have t710 : Tch (fun k => k = w5.heap.size) w7 w10 := HT79.out.trans (Tch.of_below (S := fun k => k = w5.heap.size) hb10) (fun _ _ h => h)
        have tw10 := HTWS.out.tchO t710 (fun k hk => by
          have hk : k = w5.heap.size := hk
          subst hk
          exact ⟨_, _, HM7.out, by decide, by decide, by decide⟩)
        have ho10 := ownR_keep HO7.out (fun k e => t710.block k (HO7.out.lt k e).2 (fun hs => by
          have hs : k = w5.heap.size := hs
          have h1 := (HOW.out.lt k e).2
          have h2 := HWX.out
          omega))
        have hb010 := HB07.out.trans (t710.below (B := w.heap.size) (fun k hk => by
          have hk : k = w5.heap.size := hk
          have h2 := HWX.out
          have h3 := HBB.out.size
          omega) HB07.out.size)
        have r10 := (hb10.block _ (heap_lt HR9.out)).trans HR9.out
        clear z0 z1 z2 z3 z4 z5 z6 z7 z8 f0 f1 f2 f3 f4 f5 f6 f7 f8 hz7 a0 a1 a2 a3 a4 a5 a6 a7 a8 d0 d1 d2 d3 d4 d5 d6 d7 d8 hz8 e0 e1 e2 e3 e4 e5 e6 e7 e8 hz9 x0 x1 x2 x3 x4 x5 x6 x7 x8 hx9
        obtain ⟨⟨x0, x1, x2, x3, x4, x5, x6, x7, x8⟩, _⟩ := rp_cells r10
        have hx10 := heap_lt' r10
        have HTW10 := Lib.hid tw10
        have HO10 := Lib.hid ho10
        have HB010 := Lib.hid hb010
        clear hb10 t710 tw10 ho10 hb010 r10 HSM HCD HT79 HM7 HTWS HO7 HB07 HR9 HW9
        by_cases hch : rh = 0
        · have gz : ((rh : Int) != 0) = false := by rw [bne_eq_false_iff_eq]; omega
          have gz2 : (rh != 0) = false := by rw [bne_eq_false_iff_eq]; exact hch
          clear hch
          go_wp2
          go_roundw
          case rel => exact ⟨j + 1, told, At, ct, H2, g1, A1', c1', b1', g2, A2', c2', b2', rfl, by go_num, by omega, by omega, H64.out, HO10.out, HTW10.out, HB010.out⟩
          case measure => simp only [intOf]; omega
        · have gz : ((rh : Int) != 0) = true := by rw [bne_iff_ne]; omega
          have gz2 : (rh != 0) = true := by rw [bne_iff_ne]; exact hch
          obtain ⟨w11, hw11⟩ : ∃ w11, w10.alloc (.cells #[.int .u64 (rh : Int)] 22) = w11 := ⟨_, rfl⟩
          have b11 : Below w10.heap.size w10 w11 := by rw [← hw11]; exact (Below.refl _ _).alloc (Nat.le_refl _) _
          have n11 : w11.heap[w10.heap.size]? = some (.cells #[.int .u64 (rh : Int)] 22 (0, 0)) := by rw [← hw11]; exact heap_alloc_new w10 _
          have c11 : w11.cell? ⟨w10.heap.size, 0, none⟩ = some (uV rh) := by rw [cell_of_row w11 _ 0 _ _ (0, 0) n11]; rfl
          have HO11 := Lib.hid (own_below' HO10.out b11)
          have HTW11 := Lib.hid (HTW10.out.below b11)
          have HB011 := Lib.hid (HB010.out.trans (b11.mono HB010.out.size))
          have HC11 := Lib.hid c11
          have HW11 := Lib.hid hw11
          have H641 : Hid (∀ v ∈ told ++ [rh], v < 18446744073709551616) := fun v hv => by
            rcases List.mem_append.1 hv with h | h
            · exact H64.out v h
            · simp at h
              rw [h]
              exact HRH.out
          clear hch hw11 b11 n11 c11
          go_wp2_with (first
            | (rw [HW11.out])
            | (at_builtin; go_must (refine append_told rfl _ _ rfl w.heap.size _ told.length told rfl HO11.out ⟨w10.heap.size, 0, none⟩ 1 rh rfl HC11.out (by omega) HB011.out.size ?_); intro x12 w12 own12 gr12;
               have HX12 : Hid (w12.ownsRow w.heap.size 22 1 x12 (told.length + 1) ((told ++ [rh]).map uV) ∧ w11.grownBy w12 (Value.slice At told.length ct).ownBlock) := ⟨own12, gr12⟩; clear own12 gr12)
            | fail)
          go_roundw
          case rel =>
            obtain ⟨own12, gr12⟩ := HX12.out
            obtain ⟨A12, c12, rfl⟩ := own_sl own12
            have tg : Tch (fun k => (Value.slice At told.length ct).ownBlock = some k) w11 w12 := Tch.grown gr12 (fun k e => e)
            refine ⟨j + 1, told ++ [rh], A12, c12, H2, g1, A1', c1', b1', g2, A2', c2', b2', by rw [List.length_append, List.length_singleton], by go_num, by omega, by rw [List.length_append, List.length_singleton]; omega, H641.out, by rw [List.length_append, List.length_singleton]; exact own12, HTW11.out.tchO tg (fun k hk => own_oth HO11.out hk), HB011.out.trans (tg.below (fun k hk => (HO11.out.lt k hk).1) HB011.out.size)⟩
          case measure => simp only [intOf]; omega
      · -- 3
        go_wp2_with fail
        refine HM.out.mono ?_
        rintro e w2 ⟨rfl, hb2⟩
        obtain ⟨w3, hw3⟩ : ∃ w3, w2.alloc (.cells #[.int .i64 3, .int .u64 (p : Int), .int .u64 (xn : Int), .int .u64 (xm : Int), .int .u64 (xa : Int), .slice xA bl xc] 38) = w3 := ⟨_, rfl⟩
        have n3 : w3.heap[w2.heap.size]? = some (.cells #[.int .i64 3, .int .u64 (p : Int), .int .u64 (xn : Int), .int .u64 (xm : Int), .int .u64 (xa : Int), .slice xA bl xc] 38 (0, 0)) := by rw [← hw3]; exact heap_alloc_new w2 _
        have hb3 : Below wr.heap.size wr w3 := by rw [← hw3]; exact hb2.alloc hb2.size _
        have tw3 := HTW.out.below hb3
        have hb03 := HBB.out.trans (hb3.mono HBB.out.size)
        have hE3 := HE.out.keep (hb03.block 0 HE.out.lt)
        have ho3 := own_below' HOW.out hb3
        have hr3 := ((HXB.out.below hb03).more hb03.size)
        have h03 : ¬ foot g1 A1 0 := fun hf => by
          have h1 := tw3.h1.fB hf
          have h2 := HE.out.lt
          omega
        have hd := hdo_3 tw3.h1.ph hE3 h03 p xn xm xa bl xc xA xb hp64
        obtain ⟨dc, hdc⟩ : ∃ dc, H.doC 3 p xn xm xa xb = dc := ⟨_, rfl⟩
        rw [hdc] at hd
        obtain ⟨⟨ck, ch, cn, cb, ⟨s0, s1, s2, s3, s4⟩⟩, H'⟩ := dc
        rw [doC_3] at hdc
        unfold callV at hd
        dsimp only at hd
        obtain ⟨r1, hr1⟩ : ∃ r1, H.freeP p = r1 := ⟨_, rfl⟩
        rw [hr1] at hdc
        obtain ⟨rk, H2⟩ := r1
        have HCP2 : Hid (H2.cap = cap) := (show H2.cap = cap by have e := freeP_cap (H := H) (p := p); rw [hr1] at e; exact e.trans tw3.h1.ph.cp)
        have HRK := Lib.hid (show 0 ≤ rk ∧ rk ≤ 10 by have e := freeP_code (H := H) p; rw [hr1] at e; exact e)
        have HR1 := Lib.hid hr1
        clear hr1
        first | unfold gotR at hdc | unfold Rp.err at hdc | skip
        first | unfold St5.none at hdc | skip
        simp only [Prod.mk.injEq, Rp.mk.injEq, St5.mk.injEq] at hdc
        obtain ⟨⟨e1, e2, e3, e4, e5, e6, e7, e8, e9⟩, e10⟩ := hdc
        subst e10
        have HLK := Lib.hid (show _ ∧ _ ∧ _ ∧ _ ∧ _ ∧ _ ∧ _ ∧ _ ∧ _ from ⟨e1, e2, e3, e4, e5, e6, e7, e8, e9⟩)
        clear e1 e2 e3 e4 e5 e6 e7 e8 e9
        have HCP := HCP2
        obtain ⟨cbl, hcbl⟩ : ∃ cbl, cb.length = cbl := ⟨_, rfl⟩
        have HDO := Lib.hid hd
        have HB03 := Lib.hid hb03
        have HTW3 := Lib.hid tw3
        have HO3 := Lib.hid ho3
        have HR3 := Lib.hid hr3
        have HN3 := Lib.hid n3
        have HCBL := Lib.hid hcbl
        have HF2 := Lib.hid (fun k hf => tw3.h2.own_lt (k := k) (.inr hf))
        have HWR3 := Lib.hid hb3.size
        obtain ⟨y0, y1, y2, y3, y4, y5⟩ := cl_cells n3
        have hy3 := heap_lt' n3
        have HW3 := Lib.hid hw3
        clear hb2 hw3 n3 hb3 tw3 hb03 hE3 ho3 hr3 h03 hd hcbl HM
        go_wp2_with (first | (rw [HW3.out]) | fail)
        refine HDO.out.mono ?_
        rintro e w4 ⟨hdt, ht4⟩
        obtain ⟨A', c', rfl, hob⟩ := hdt
        unfold rpV rpRow
        dsimp only at hob ⊢
        rw [HCBL.out] at hob ⊢
        obtain ⟨A1', c1', b1', tw4, t4⟩ := HTW3.out.one HB03.out.size ht4 HCP.out
        have n4 := HTW3.out.h1.ph.locO t4 HN3.out (by decide) (by decide) (by decide)
        have ho4 := HTW3.out.h1.ph.ownO t4 HO3.out (by decide) (by decide) (by decide)
        have hb04 := HB03.out.trans (HTW3.out.h1.low HB03.out.size t4)
        have hr4 := (HXB.out.below hb04).more hb04.size
        obtain ⟨w5, hw5⟩ : ∃ w5, w4.alloc (.cells #[.int .i64 ck, .int .u64 (ch : Int), .int .u64 (cn : Int), .slice A' cbl c', .int .i64 (s0 : Int), .int .i64 (s1 : Int), .int .i64 (s2 : Int), .int .i64 (s3 : Int), .int .i64 (s4 : Int)] 45) = w5 := ⟨_, rfl⟩
        have b5 : Below w4.heap.size w4 w5 := by rw [← hw5]; exact (Below.refl _ _).alloc (Nat.le_refl _) _
        have n5 : w5.heap[w4.heap.size]? = some (.cells #[.int .i64 ck, .int .u64 (ch : Int), .int .u64 (cn : Int), .slice A' cbl c', .int .i64 (s0 : Int), .int .i64 (s1 : Int), .int .i64 (s2 : Int), .int .i64 (s3 : Int), .int .i64 (s4 : Int)] 45 (0, 0)) := by rw [← hw5]; exact heap_alloc_new w4 _
        obtain ⟨w6, hw6⟩ : ∃ w6, w5.alloc (.cells #[.int .i64 0, .int .u64 0, .int .u64 0, .slice none 0 0, .int .i64 0, .int .i64 0, .int .i64 0, .int .i64 0, .int .i64 0] 45) = w6 := ⟨_, rfl⟩
        have b6 : Below w5.heap.size w5 w6 := by rw [← hw6]; exact (Below.refl _ _).alloc (Nat.le_refl _) _
        have m6 : w6.heap[w5.heap.size]? = some (.cells #[.int .i64 0, .int .u64 0, .int .u64 0, .slice none 0 0, .int .i64 0, .int .i64 0, .int .i64 0, .int .i64 0, .int .i64 0] 45 (0, 0)) := by rw [← hw6]; exact heap_alloc_new w5 _
        have b46 : Below w4.heap.size w4 w6 := b5.trans (b6.mono b5.size)
        have r6 := (b6.block _ (heap_lt n5)).trans n5
        have n6 := (b46.block _ (heap_lt n4)).trans n4
        have tw6 := tw4.below b46
        have ho6 := own_below' ho4 b46
        have hb06 := hb04.trans (b46.mono hb04.size)
        have hr6 := (hr4.below b46).more b46.size
        have hob6 := own_below' hob b46
        have hk := (show _ from (by have e := hfree_any tw6.h2.ph p hp64; rw [HR1.out] at e; exact e))
        have HKC := Lib.hid hk
        have HTW6 := Lib.hid tw6
        have HO6 := Lib.hid ho6
        have HB06 := Lib.hid hb06
        have HR6 := Lib.hid r6
        have HM6 := Lib.hid m6
        have HOB6 := Lib.hid hob6
        have HW5 := Lib.hid hw5
        have HW6 := Lib.hid hw6
        have HLT := Lib.hid (heap_lt n5)
        have HM6L := Lib.hid (heap_lt m6)
        have HWX := Lib.hid (Nat.le_trans HWR3.out (Nat.le_trans t4.size b5.size))
        have HOB4L := Lib.hid (fun k e => (hob.lt k e).2)
        clear y0 y1 y2 y3 y4 y5 hy3
        obtain ⟨y0, y1, y2, y3, y4, y5⟩ := cl_cells n6
        have hy6 := heap_lt' n6
        obtain ⟨⟨z0, z1, z2, z3, z4, z5, z6, z7, z8⟩, f0, f1, f2, f3, f4, f5, f6, f7, f8⟩ := rp_cells m6
        have hz6 := heap_lt' m6
        obtain ⟨⟨x0, x1, x2, x3, x4, x5, x6, x7, x8⟩, _⟩ := rp_cells r6
        have hx6 := heap_lt' r6
        have N6 := Lib.hid n6
        clear ht4 tw4 t4 n4 ho4 hb04 hr4 hw5 b5 n5 hw6 b6 m6 b46 r6 n6 tw6 ho6 hb06 hr6 hob hob6 hk HDO HTW3 HO3 HB03 HR3 HN3
        go_wp2_with (first | (rw [HW5.out]) | (rw [HW6.out]) | fail)
        refine HKC.out.mono ?_
        rintro e w7 ⟨rfl, ht7_⟩
        have ht7 : PTurn g2 16 cap A2 H2 w6 w7 := ht7_
        obtain ⟨A2', c2', b2', tw7, t7⟩ := HTW6.out.two HB06.out.size ht7 HCP2.out
        have hlow7 : Below w.heap.size w6 w7 := HTW6.out.h2.low HB06.out.size t7
        obtain ⟨rfl, rfl, rfl, rfl, rfl, rfl, rfl, rfl, rfl⟩ := HLK.out
        obtain rfl : (0 : Nat) = cbl := HCBL.out
        have r7 := HTW6.out.h2.ph.locO t7 HR6.out (by decide) (by decide) (by decide)
        have m7 := HTW6.out.h2.ph.locO t7 HM6.out (by decide) (by decide) (by decide)
        have ho7 := HTW6.out.h2.ph.ownO t7 HO6.out (by decide) (by decide) (by decide)
        have hob7 := ownR_keep HOB6.out (fun k e => t7.block k (HOB6.out.lt k e).2 (fun hf => by
          have h1 := HF2.out k hf
          have h2 := (HOB6.out.lt k e).1
          omega))
        have hb07 := HB06.out.trans hlow7
        have m8 : w7.heap[w5.heap.size]? = some (.cells #[.int .i64 0, .int .u64 0, .int .u64 0, .slice none 0 0, .int .i64 0, .int .i64 0, .int .i64 0, .int .i64 0, .int .i64 0] 45 (0, 0)) := m7
        have t8 : Tch (fun k => k = w5.heap.size) w7 w7 := Tch.refl _ _
        obtain ⟨w9, hw9⟩ : ∃ w9, w7.setCell ⟨w5.heap.size, 0, none⟩ (.int .i64 rk) = w9 := ⟨_, rfl⟩
        have m9 : w9.heap[w5.heap.size]? = some (.cells #[.int .i64 rk, .int .u64 0, .int .u64 0, .slice none 0 0, .int .i64 0, .int .i64 0, .int .i64 0, .int .i64 0, .int .i64 0] 45 (0, 0)) := by rw [← hw9]; exact heap_setCell_same w7 w5.heap.size 0 _ _ _ m8
        have t9 : Tch (fun k => k = w5.heap.size) w7 w9 := by rw [← hw9]; exact Tch.set (S := fun k => k = w5.heap.size) w7 ⟨w5.heap.size, 0, none⟩ _ rfl
        have t79 : Tch (fun k => k = w5.heap.size) w7 w9 := t8.trans t9 (fun _ _ h => h)
        have hne : w4.heap.size ≠ w5.heap.size := fun e => by have h1 := HLT.out; omega
        have r9 := (t79.block _ (heap_lt r7) hne).trans r7
        have hob9 := ownR_keep hob7 (fun k e => t79.block k (hob7.lt k e).2 (fun hs => by
          have hs : k = w5.heap.size := hs
          have h1 := HOB4L.out k e
          have h2 := HLT.out
          omega))
        have hrb9 := Rd.ownR hob9
        have hsm := same_any w9 ⟨rk, 0, 0, [], St5.none⟩ none A' 0 c' Rd.nil_ hrb9
        unfold rpV rpRow at hsm
        dsimp only [St5.none] at hsm
        rw [show ([] : List UInt8).length = 0 from rfl] at hsm
        have HSM := Lib.hid hsm
        have HT79 := Lib.hid t79
        have HM7 := Lib.hid m7
        have HTWS := Lib.hid tw7
        have HO7 := Lib.hid ho7
        have HB07 := Lib.hid hb07
        have HR9 := Lib.hid r9
        clear z0 z1 z2 z3 z4 z5 z6 z7 z8 f0 f1 f2 f3 f4 f5 f6 f7 f8 hz6
        obtain ⟨⟨z0, z1, z2, z3, z4, z5, z6, z7, z8⟩, f0, f1, f2, f3, f4, f5, f6, f7, f8⟩ := rp_cells m7
        have hz7 := heap_lt' m7
        obtain ⟨⟨a0, a1, a2, a3, a4, a5, a6, a7, a8⟩, d0, d1, d2, d3, d4, d5, d6, d7, d8⟩ := rp_cells m8
        have hz8 := heap_lt' m8
        obtain ⟨⟨e0, e1, e2, e3, e4, e5, e6, e7, e8⟩, _⟩ := rp_cells m9
        have hz9 := heap_lt' m9
        obtain ⟨⟨x0, x1, x2, x3, x4, x5, x6, x7, x8⟩, _⟩ := rp_cells r9
        have hx9 := heap_lt' r9
        have HW9 := Lib.hid hw9
        have HCD := Lib.hid (code_any w7 rk HRK.out)
        clear tw7 t7 hlow7 r7 m7 ho7 hob7 hb07 m8 t8 hw9 m9 t9 t79 hne r9 hob9 hsm HTW6 HO6 HB06 HR6 HM6 HOB6 hrb9 HKC ht7
        clear y0 y1 y2 y3 y4 y5 hy6
        go_wp2_with (first | fail)
        refine HCD.out.mono ?_
        rintro e w99 ⟨rfl, rfl⟩
        go_wp2_with (first | (rw [HW9.out]) | fail)
        refine HSM.out.mono ?_
        rintro e w10 ⟨rfl, hb10⟩
        have t710 : Tch (fun k => k = w5.heap.size) w7 w10 := HT79.out.trans (Tch.of_below (S := fun k => k = w5.heap.size) hb10) (fun _ _ h => h)
        have tw10 := HTWS.out.tchO t710 (fun k hk => by
          have hk : k = w5.heap.size := hk
          subst hk
          exact ⟨_, _, HM7.out, by decide, by decide, by decide⟩)
        have ho10 := ownR_keep HO7.out (fun k e => t710.block k (HO7.out.lt k e).2 (fun hs => by
          have hs : k = w5.heap.size := hs
          have h1 := (HOW.out.lt k e).2
          have h2 := HWX.out
          omega))
        have hb010 := HB07.out.trans (t710.below (B := w.heap.size) (fun k hk => by
          have hk : k = w5.heap.size := hk
          have h2 := HWX.out
          have h3 := HBB.out.size
          omega) HB07.out.size)
        have r10 := (hb10.block _ (heap_lt HR9.out)).trans HR9.out
        clear z0 z1 z2 z3 z4 z5 z6 z7 z8 f0 f1 f2 f3 f4 f5 f6 f7 f8 hz7 a0 a1 a2 a3 a4 a5 a6 a7 a8 d0 d1 d2 d3 d4 d5 d6 d7 d8 hz8 e0 e1 e2 e3 e4 e5 e6 e7 e8 hz9 x0 x1 x2 x3 x4 x5 x6 x7 x8 hx9
        obtain ⟨⟨x0, x1, x2, x3, x4, x5, x6, x7, x8⟩, _⟩ := rp_cells r10
        have hx10 := heap_lt' r10
        have HTW10 := Lib.hid tw10
        have HO10 := Lib.hid ho10
        have HB010 := Lib.hid hb010
        clear hb10 t710 tw10 ho10 hb010 r10 HSM HCD HT79 HM7 HTWS HO7 HB07 HR9 HW9
        go_wp2
        go_roundw
        case rel => exact ⟨j + 1, told, At, ct, H2, g1, A1', c1', b1', g2, A2', c2', b2', rfl, by go_num, by omega, by omega, H64.out, HO10.out, HTW10.out, HB010.out⟩
        case measure => simp only [intOf]; omega
      · -- 4
        go_wp2_with fail
        refine HM.out.mono ?_
        rintro e w2 ⟨rfl, hb2⟩
        obtain ⟨w3, hw3⟩ : ∃ w3, w2.alloc (.cells #[.int .i64 4, .int .u64 (p : Int), .int .u64 (xn : Int), .int .u64 (xm : Int), .int .u64 (xa : Int), .slice xA bl xc] 38) = w3 := ⟨_, rfl⟩
        have n3 : w3.heap[w2.heap.size]? = some (.cells #[.int .i64 4, .int .u64 (p : Int), .int .u64 (xn : Int), .int .u64 (xm : Int), .int .u64 (xa : Int), .slice xA bl xc] 38 (0, 0)) := by rw [← hw3]; exact heap_alloc_new w2 _
        have hb3 : Below wr.heap.size wr w3 := by rw [← hw3]; exact hb2.alloc hb2.size _
        have tw3 := HTW.out.below hb3
        have hb03 := HBB.out.trans (hb3.mono HBB.out.size)
        have hE3 := HE.out.keep (hb03.block 0 HE.out.lt)
        have ho3 := own_below' HOW.out hb3
        have hr3 := ((HXB.out.below hb03).more hb03.size)
        have h03 : ¬ foot g1 A1 0 := fun hf => by
          have h1 := tw3.h1.fB hf
          have h2 := HE.out.lt
          omega
        have hd := hdo_4 tw3.h1.ph hE3 h03 p xn xm xa bl xc xA xb hp64 hn
        obtain ⟨dc, hdc⟩ : ∃ dc, H.doC 4 p xn xm xa xb = dc := ⟨_, rfl⟩
        rw [hdc] at hd
        obtain ⟨⟨ck, ch, cn, cb, ⟨s0, s1, s2, s3, s4⟩⟩, H'⟩ := dc
        rw [doC_4] at hdc
        unfold callV at hd
        dsimp only at hd
        obtain ⟨r1, hr1⟩ : ∃ r1, H.realloc p xn = r1 := ⟨_, rfl⟩
        rw [hr1] at hdc
        obtain ⟨⟨rh, rk⟩, H2⟩ := r1
        have HCP2 : Hid (H2.cap = cap) := (show H2.cap = cap by have e := realloc_cap (H := H) (p := p) (n := xn); rw [hr1] at e; exact e.trans tw3.h1.ph.cp)
        have HRK := Lib.hid (show 0 ≤ rk ∧ rk ≤ 10 by have e := realloc_code (H := H) p xn; rw [hr1] at e; exact e)
        have HRH := Lib.hid (show rh < 18446744073709551616 by have e := realloc_lt tw3.h1.ph.rd (by rw [tw3.h1.ph.cp]; exact tw3.h1.ph.c16) p xn; rw [hr1] at e; exact e)
        have HR1 := Lib.hid hr1
        clear hr1
        first | unfold gotR at hdc | unfold Rp.err at hdc | skip
        first | unfold St5.none at hdc | skip
        simp only [Prod.mk.injEq, Rp.mk.injEq, St5.mk.injEq] at hdc
        obtain ⟨⟨e1, e2, e3, e4, e5, e6, e7, e8, e9⟩, e10⟩ := hdc
        subst e10
        have HLK := Lib.hid (show _ ∧ _ ∧ _ ∧ _ ∧ _ ∧ _ ∧ _ ∧ _ ∧ _ from ⟨e1, e2, e3, e4, e5, e6, e7, e8, e9⟩)
        clear e1 e2 e3 e4 e5 e6 e7 e8 e9
        have HCP := HCP2
        obtain ⟨cbl, hcbl⟩ : ∃ cbl, cb.length = cbl := ⟨_, rfl⟩
        have HDO := Lib.hid hd
        have HB03 := Lib.hid hb03
        have HTW3 := Lib.hid tw3
        have HO3 := Lib.hid ho3
        have HR3 := Lib.hid hr3
        have HN3 := Lib.hid n3
        have HCBL := Lib.hid hcbl
        have HF2 := Lib.hid (fun k hf => tw3.h2.own_lt (k := k) (.inr hf))
        have HWR3 := Lib.hid hb3.size
        obtain ⟨y0, y1, y2, y3, y4, y5⟩ := cl_cells n3
        have hy3 := heap_lt' n3
        have HW3 := Lib.hid hw3
        clear hb2 hw3 n3 hb3 tw3 hb03 hE3 ho3 hr3 h03 hd hcbl HM
        go_wp2_with (first | (rw [HW3.out]) | fail)
        refine HDO.out.mono ?_
        rintro e w4 ⟨hdt, ht4⟩
        obtain ⟨A', c', rfl, hob⟩ := hdt
        unfold rpV rpRow
        dsimp only at hob ⊢
        rw [HCBL.out] at hob ⊢
        obtain ⟨A1', c1', b1', tw4, t4⟩ := HTW3.out.one HB03.out.size ht4 HCP.out
        have n4 := HTW3.out.h1.ph.locO t4 HN3.out (by decide) (by decide) (by decide)
        have ho4 := HTW3.out.h1.ph.ownO t4 HO3.out (by decide) (by decide) (by decide)
        have hb04 := HB03.out.trans (HTW3.out.h1.low HB03.out.size t4)
        have hr4 := (HXB.out.below hb04).more hb04.size
        obtain ⟨w5, hw5⟩ : ∃ w5, w4.alloc (.cells #[.int .i64 ck, .int .u64 (ch : Int), .int .u64 (cn : Int), .slice A' cbl c', .int .i64 (s0 : Int), .int .i64 (s1 : Int), .int .i64 (s2 : Int), .int .i64 (s3 : Int), .int .i64 (s4 : Int)] 45) = w5 := ⟨_, rfl⟩
        have b5 : Below w4.heap.size w4 w5 := by rw [← hw5]; exact (Below.refl _ _).alloc (Nat.le_refl _) _
        have n5 : w5.heap[w4.heap.size]? = some (.cells #[.int .i64 ck, .int .u64 (ch : Int), .int .u64 (cn : Int), .slice A' cbl c', .int .i64 (s0 : Int), .int .i64 (s1 : Int), .int .i64 (s2 : Int), .int .i64 (s3 : Int), .int .i64 (s4 : Int)] 45 (0, 0)) := by rw [← hw5]; exact heap_alloc_new w4 _
        obtain ⟨w6, hw6⟩ : ∃ w6, w5.alloc (.cells #[.int .i64 0, .int .u64 0, .int .u64 0, .slice none 0 0, .int .i64 0, .int .i64 0, .int .i64 0, .int .i64 0, .int .i64 0] 45) = w6 := ⟨_, rfl⟩
        have b6 : Below w5.heap.size w5 w6 := by rw [← hw6]; exact (Below.refl _ _).alloc (Nat.le_refl _) _
        have m6 : w6.heap[w5.heap.size]? = some (.cells #[.int .i64 0, .int .u64 0, .int .u64 0, .slice none 0 0, .int .i64 0, .int .i64 0, .int .i64 0, .int .i64 0, .int .i64 0] 45 (0, 0)) := by rw [← hw6]; exact heap_alloc_new w5 _
        have b46 : Below w4.heap.size w4 w6 := b5.trans (b6.mono b5.size)
        have r6 := (b6.block _ (heap_lt n5)).trans n5
        have n6 := (b46.block _ (heap_lt n4)).trans n4
        have tw6 := tw4.below b46
        have ho6 := own_below' ho4 b46
        have hb06 := hb04.trans (b46.mono hb04.size)
        have hr6 := (hr4.below b46).more b46.size
        have hob6 := own_below' hob b46
        have hk := (show _ from (by have e := hrealloc_prog tw6.h2.ph p xn hp64 hn; rw [HR1.out] at e; exact e))
        have HKC := Lib.hid hk
        have HTW6 := Lib.hid tw6
        have HO6 := Lib.hid ho6
        have HB06 := Lib.hid hb06
        have HR6 := Lib.hid r6
        have HM6 := Lib.hid m6
        have HOB6 := Lib.hid hob6
        have HW5 := Lib.hid hw5
        have HW6 := Lib.hid hw6
        have HLT := Lib.hid (heap_lt n5)
        have HM6L := Lib.hid (heap_lt m6)
        have HWX := Lib.hid (Nat.le_trans HWR3.out (Nat.le_trans t4.size b5.size))
        have HOB4L := Lib.hid (fun k e => (hob.lt k e).2)
        clear y0 y1 y2 y3 y4 y5 hy3
        obtain ⟨y0, y1, y2, y3, y4, y5⟩ := cl_cells n6
        have hy6 := heap_lt' n6
        obtain ⟨⟨z0, z1, z2, z3, z4, z5, z6, z7, z8⟩, f0, f1, f2, f3, f4, f5, f6, f7, f8⟩ := rp_cells m6
        have hz6 := heap_lt' m6
        obtain ⟨⟨x0, x1, x2, x3, x4, x5, x6, x7, x8⟩, _⟩ := rp_cells r6
        have hx6 := heap_lt' r6
        have N6 := Lib.hid n6
        clear ht4 tw4 t4 n4 ho4 hb04 hr4 hw5 b5 n5 hw6 b6 m6 b46 r6 n6 tw6 ho6 hb06 hr6 hob hob6 hk HDO HTW3 HO3 HB03 HR3 HN3
        go_wp2_with (first | (rw [HW5.out]) | (rw [HW6.out]) | fail)
        refine HKC.out.mono ?_
        rintro e w7 ⟨rfl, ht7_⟩
        have ht7 : PTurn g2 16 cap A2 H2 w6 w7 := ht7_
        obtain ⟨A2', c2', b2', tw7, t7⟩ := HTW6.out.two HB06.out.size ht7 HCP2.out
        have hlow7 : Below w.heap.size w6 w7 := HTW6.out.h2.low HB06.out.size t7
        obtain ⟨rfl, rfl, rfl, rfl, rfl, rfl, rfl, rfl, rfl⟩ := HLK.out
        obtain rfl : (0 : Nat) = cbl := HCBL.out
        have r7 := HTW6.out.h2.ph.locO t7 HR6.out (by decide) (by decide) (by decide)
        have m7 := HTW6.out.h2.ph.locO t7 HM6.out (by decide) (by decide) (by decide)
        have ho7 := HTW6.out.h2.ph.ownO t7 HO6.out (by decide) (by decide) (by decide)
        have hob7 := ownR_keep HOB6.out (fun k e => t7.block k (HOB6.out.lt k e).2 (fun hf => by
          have h1 := HF2.out k hf
          have h2 := (HOB6.out.lt k e).1
          omega))
        have hb07 := HB06.out.trans hlow7
        obtain ⟨w8, hw8⟩ : ∃ w8, w7.setCell ⟨w5.heap.size, 1, none⟩ (.int .u64 (rh : Int)) = w8 := ⟨_, rfl⟩
        have m8 : w8.heap[w5.heap.size]? = some (.cells #[.int .i64 0, .int .u64 (rh : Int), .int .u64 0, .slice none 0 0, .int .i64 0, .int .i64 0, .int .i64 0, .int .i64 0, .int .i64 0] 45 (0, 0)) := by rw [← hw8]; exact heap_setCell_same w7 w5.heap.size 1 _ _ _ m7
        have t8 : Tch (fun k => k = w5.heap.size) w7 w8 := by rw [← hw8]; exact Tch.set (S := fun k => k = w5.heap.size) w7 ⟨w5.heap.size, 1, none⟩ _ rfl
        have HW8 := Lib.hid hw8
        clear hw8
        obtain ⟨w9, hw9⟩ : ∃ w9, w8.setCell ⟨w5.heap.size, 0, none⟩ (.int .i64 rk) = w9 := ⟨_, rfl⟩
        have m9 : w9.heap[w5.heap.size]? = some (.cells #[.int .i64 rk, .int .u64 (rh : Int), .int .u64 0, .slice none 0 0, .int .i64 0, .int .i64 0, .int .i64 0, .int .i64 0, .int .i64 0] 45 (0, 0)) := by rw [← hw9]; exact heap_setCell_same w8 w5.heap.size 0 _ _ _ m8
        have t9 : Tch (fun k => k = w5.heap.size) w8 w9 := by rw [← hw9]; exact Tch.set (S := fun k => k = w5.heap.size) w8 ⟨w5.heap.size, 0, none⟩ _ rfl
        have t79 : Tch (fun k => k = w5.heap.size) w7 w9 := t8.trans t9 (fun _ _ h => h)
        have hne : w4.heap.size ≠ w5.heap.size := fun e => by have h1 := HLT.out; omega
        have r9 := (t79.block _ (heap_lt r7) hne).trans r7
        have hob9 := ownR_keep hob7 (fun k e => t79.block k (hob7.lt k e).2 (fun hs => by
          have hs : k = w5.heap.size := hs
          have h1 := HOB4L.out k e
          have h2 := HLT.out
          omega))
        have hrb9 := Rd.ownR hob9
        have hsm := same_any w9 ⟨rk, rh, 0, [], St5.none⟩ none A' 0 c' Rd.nil_ hrb9
        unfold rpV rpRow at hsm
        dsimp only [St5.none] at hsm
        rw [show ([] : List UInt8).length = 0 from rfl] at hsm
        have HSM := Lib.hid hsm
        have HT79 := Lib.hid t79
        have HM7 := Lib.hid m7
        have HTWS := Lib.hid tw7
        have HO7 := Lib.hid ho7
        have HB07 := Lib.hid hb07
        have HR9 := Lib.hid r9
        clear z0 z1 z2 z3 z4 z5 z6 z7 z8 f0 f1 f2 f3 f4 f5 f6 f7 f8 hz6
        obtain ⟨⟨z0, z1, z2, z3, z4, z5, z6, z7, z8⟩, f0, f1, f2, f3, f4, f5, f6, f7, f8⟩ := rp_cells m7
        have hz7 := heap_lt' m7
        obtain ⟨⟨a0, a1, a2, a3, a4, a5, a6, a7, a8⟩, d0, d1, d2, d3, d4, d5, d6, d7, d8⟩ := rp_cells m8
        have hz8 := heap_lt' m8
        obtain ⟨⟨e0, e1, e2, e3, e4, e5, e6, e7, e8⟩, _⟩ := rp_cells m9
        have hz9 := heap_lt' m9
        obtain ⟨⟨x0, x1, x2, x3, x4, x5, x6, x7, x8⟩, _⟩ := rp_cells r9
        have hx9 := heap_lt' r9
        have HW9 := Lib.hid hw9
        have HCD := Lib.hid (code_any w8 rk HRK.out)
        clear tw7 t7 hlow7 r7 m7 ho7 hob7 hb07 m8 t8 hw9 m9 t9 t79 hne r9 hob9 hsm HTW6 HO6 HB06 HR6 HM6 HOB6 hrb9 HKC ht7
        clear y0 y1 y2 y3 y4 y5 hy6
        go_wp2_with (first | (rw [HW8.out]) | fail)
        refine HCD.out.mono ?_
        rintro e w99 ⟨rfl, rfl⟩
        go_wp2_with (first | (rw [HW9.out]) | fail)
        refine HSM.out.mono ?_
        rintro e w10 ⟨rfl, hb10⟩
        have t710 : Tch (fun k => k = w5.heap.size) w7 w10 := HT79.out.trans (Tch.of_below (S := fun k => k = w5.heap.size) hb10) (fun _ _ h => h)
        have tw10 := HTWS.out.tchO t710 (fun k hk => by
          have hk : k = w5.heap.size := hk
          subst hk
          exact ⟨_, _, HM7.out, by decide, by decide, by decide⟩)
        have ho10 := ownR_keep HO7.out (fun k e => t710.block k (HO7.out.lt k e).2 (fun hs => by
          have hs : k = w5.heap.size := hs
          have h1 := (HOW.out.lt k e).2
          have h2 := HWX.out
          omega))
        have hb010 := HB07.out.trans (t710.below (B := w.heap.size) (fun k hk => by
          have hk : k = w5.heap.size := hk
          have h2 := HWX.out
          have h3 := HBB.out.size
          omega) HB07.out.size)
        have r10 := (hb10.block _ (heap_lt HR9.out)).trans HR9.out
        clear z0 z1 z2 z3 z4 z5 z6 z7 z8 f0 f1 f2 f3 f4 f5 f6 f7 f8 hz7 a0 a1 a2 a3 a4 a5 a6 a7 a8 d0 d1 d2 d3 d4 d5 d6 d7 d8 hz8 e0 e1 e2 e3 e4 e5 e6 e7 e8 hz9 x0 x1 x2 x3 x4 x5 x6 x7 x8 hx9
        obtain ⟨⟨x0, x1, x2, x3, x4, x5, x6, x7, x8⟩, _⟩ := rp_cells r10
        have hx10 := heap_lt' r10
        have HTW10 := Lib.hid tw10
        have HO10 := Lib.hid ho10
        have HB010 := Lib.hid hb010
        clear hb10 t710 tw10 ho10 hb010 r10 HSM HCD HT79 HM7 HTWS HO7 HB07 HR9 HW9
        by_cases hch : rh = 0
        · have gz : ((rh : Int) != 0) = false := by rw [bne_eq_false_iff_eq]; omega
          have gz2 : (rh != 0) = false := by rw [bne_eq_false_iff_eq]; exact hch
          clear hch
          go_wp2
          go_roundw
          case rel => exact ⟨j + 1, told, At, ct, H2, g1, A1', c1', b1', g2, A2', c2', b2', rfl, by go_num, by omega, by omega, H64.out, HO10.out, HTW10.out, HB010.out⟩
          case measure => simp only [intOf]; omega
        · have gz : ((rh : Int) != 0) = true := by rw [bne_iff_ne]; omega
          have gz2 : (rh != 0) = true := by rw [bne_iff_ne]; exact hch
          obtain ⟨w11, hw11⟩ : ∃ w11, w10.alloc (.cells #[.int .u64 (rh : Int)] 22) = w11 := ⟨_, rfl⟩
          have b11 : Below w10.heap.size w10 w11 := by rw [← hw11]; exact (Below.refl _ _).alloc (Nat.le_refl _) _
          have n11 : w11.heap[w10.heap.size]? = some (.cells #[.int .u64 (rh : Int)] 22 (0, 0)) := by rw [← hw11]; exact heap_alloc_new w10 _
          have c11 : w11.cell? ⟨w10.heap.size, 0, none⟩ = some (uV rh) := by rw [cell_of_row w11 _ 0 _ _ (0, 0) n11]; rfl
          have HO11 := Lib.hid (own_below' HO10.out b11)
          have HTW11 := Lib.hid (HTW10.out.below b11)
          have HB011 := Lib.hid (HB010.out.trans (b11.mono HB010.out.size))
          have HC11 := Lib.hid c11
          have HW11 := Lib.hid hw11
          have H641 : Hid (∀ v ∈ told ++ [rh], v < 18446744073709551616) := fun v hv => by
            rcases List.mem_append.1 hv with h | h
            · exact H64.out v h
            · simp at h
              rw [h]
              exact HRH.out
          clear hch hw11 b11 n11 c11
          go_wp2_with (first
            | (rw [HW11.out])
            | (at_builtin; go_must (refine append_told rfl _ _ rfl w.heap.size _ told.length told rfl HO11.out ⟨w10.heap.size, 0, none⟩ 1 rh rfl HC11.out (by omega) HB011.out.size ?_); intro x12 w12 own12 gr12;
               have HX12 : Hid (w12.ownsRow w.heap.size 22 1 x12 (told.length + 1) ((told ++ [rh]).map uV) ∧ w11.grownBy w12 (Value.slice At told.length ct).ownBlock) := ⟨own12, gr12⟩; clear own12 gr12)
            | fail)
          go_roundw
          case rel =>
            obtain ⟨own12, gr12⟩ := HX12.out
            obtain ⟨A12, c12, rfl⟩ := own_sl own12
            have tg : Tch (fun k => (Value.slice At told.length ct).ownBlock = some k) w11 w12 := Tch.grown gr12 (fun k e => e)
            refine ⟨j + 1, told ++ [rh], A12, c12, H2, g1, A1', c1', b1', g2, A2', c2', b2', by rw [List.length_append, List.length_singleton], by go_num, by omega, by rw [List.length_append, List.length_singleton]; omega, H641.out, by rw [List.length_append, List.length_singleton]; exact own12, HTW11.out.tchO tg (fun k hk => own_oth HO11.out hk), HB011.out.trans (tg.below (fun k hk => (HO11.out.lt k hk).1) HB011.out.size)⟩
          case measure => simp only [intOf]; omega
      · -- 5
        go_wp2_with fail
        refine HM.out.mono ?_
        rintro e w2 ⟨rfl, hb2⟩
        obtain ⟨w3, hw3⟩ : ∃ w3, w2.alloc (.cells #[.int .i64 5, .int .u64 (p : Int), .int .u64 (xn : Int), .int .u64 (xm : Int), .int .u64 (xa : Int), .slice xA bl xc] 38) = w3 := ⟨_, rfl⟩
        have n3 : w3.heap[w2.heap.size]? = some (.cells #[.int .i64 5, .int .u64 (p : Int), .int .u64 (xn : Int), .int .u64 (xm : Int), .int .u64 (xa : Int), .slice xA bl xc] 38 (0, 0)) := by rw [← hw3]; exact heap_alloc_new w2 _
        have hb3 : Below wr.heap.size wr w3 := by rw [← hw3]; exact hb2.alloc hb2.size _
        have tw3 := HTW.out.below hb3
        have hb03 := HBB.out.trans (hb3.mono HBB.out.size)
        have hE3 := HE.out.keep (hb03.block 0 HE.out.lt)
        have ho3 := own_below' HOW.out hb3
        have hr3 := ((HXB.out.below hb03).more hb03.size)
        have h03 : ¬ foot g1 A1 0 := fun hf => by
          have h1 := tw3.h1.fB hf
          have h2 := HE.out.lt
          omega
        have hd := hdo_5 tw3.h1.ph hE3 h03 p xn xm xa bl xc xA xb hp64
        obtain ⟨dc, hdc⟩ : ∃ dc, H.doC 5 p xn xm xa xb = dc := ⟨_, rfl⟩
        rw [hdc] at hd
        obtain ⟨⟨ck, ch, cn, cb, ⟨s0, s1, s2, s3, s4⟩⟩, H'⟩ := dc
        rw [doC_5] at hdc
        unfold callV at hd
        dsimp only at hd
        obtain ⟨r1, hr1⟩ : ∃ r1, H.usableP p = r1 := ⟨_, rfl⟩
        rw [hr1] at hdc
        obtain ⟨rh, rk⟩ := r1
        have HCP2 : Hid (H.cap = cap) := tw3.h1.ph.cp
        have HRK := Lib.hid (show 0 ≤ rk ∧ rk ≤ 10 by have e := usableP_code (H := H) p; rw [hr1] at e; exact e)
        have HR1 := Lib.hid hr1
        clear hr1
        first | unfold gotR at hdc | unfold Rp.err at hdc | skip
        first | unfold St5.none at hdc | skip
        simp only [Prod.mk.injEq, Rp.mk.injEq, St5.mk.injEq] at hdc
        obtain ⟨⟨e1, e2, e3, e4, e5, e6, e7, e8, e9⟩, e10⟩ := hdc
        subst e10
        have HLK := Lib.hid (show _ ∧ _ ∧ _ ∧ _ ∧ _ ∧ _ ∧ _ ∧ _ ∧ _ from ⟨e1, e2, e3, e4, e5, e6, e7, e8, e9⟩)
        clear e1 e2 e3 e4 e5 e6 e7 e8 e9
        have HCP := HCP2
        obtain ⟨cbl, hcbl⟩ : ∃ cbl, cb.length = cbl := ⟨_, rfl⟩
        have HDO := Lib.hid hd
        have HB03 := Lib.hid hb03
        have HTW3 := Lib.hid tw3
        have HO3 := Lib.hid ho3
        have HR3 := Lib.hid hr3
        have HN3 := Lib.hid n3
        have HCBL := Lib.hid hcbl
        have HF2 := Lib.hid (fun k hf => tw3.h2.own_lt (k := k) (.inr hf))
        have HWR3 := Lib.hid hb3.size
        obtain ⟨y0, y1, y2, y3, y4, y5⟩ := cl_cells n3
        have hy3 := heap_lt' n3
        have HW3 := Lib.hid hw3
        clear hb2 hw3 n3 hb3 tw3 hb03 hE3 ho3 hr3 h03 hd hcbl HM
        go_wp2_with (first | (rw [HW3.out]) | fail)
        refine HDO.out.mono ?_
        rintro e w4 ⟨hdt, ht4⟩
        obtain ⟨A', c', rfl, hob⟩ := hdt
        unfold rpV rpRow
        dsimp only at hob ⊢
        rw [HCBL.out] at hob ⊢
        obtain ⟨A1', c1', b1', tw4, t4⟩ := HTW3.out.one HB03.out.size ht4 HCP.out
        have n4 := HTW3.out.h1.ph.locO t4 HN3.out (by decide) (by decide) (by decide)
        have ho4 := HTW3.out.h1.ph.ownO t4 HO3.out (by decide) (by decide) (by decide)
        have hb04 := HB03.out.trans (HTW3.out.h1.low HB03.out.size t4)
        have hr4 := (HXB.out.below hb04).more hb04.size
        obtain ⟨w5, hw5⟩ : ∃ w5, w4.alloc (.cells #[.int .i64 ck, .int .u64 (ch : Int), .int .u64 (cn : Int), .slice A' cbl c', .int .i64 (s0 : Int), .int .i64 (s1 : Int), .int .i64 (s2 : Int), .int .i64 (s3 : Int), .int .i64 (s4 : Int)] 45) = w5 := ⟨_, rfl⟩
        have b5 : Below w4.heap.size w4 w5 := by rw [← hw5]; exact (Below.refl _ _).alloc (Nat.le_refl _) _
        have n5 : w5.heap[w4.heap.size]? = some (.cells #[.int .i64 ck, .int .u64 (ch : Int), .int .u64 (cn : Int), .slice A' cbl c', .int .i64 (s0 : Int), .int .i64 (s1 : Int), .int .i64 (s2 : Int), .int .i64 (s3 : Int), .int .i64 (s4 : Int)] 45 (0, 0)) := by rw [← hw5]; exact heap_alloc_new w4 _
        obtain ⟨w6, hw6⟩ : ∃ w6, w5.alloc (.cells #[.int .i64 0, .int .u64 0, .int .u64 0, .slice none 0 0, .int .i64 0, .int .i64 0, .int .i64 0, .int .i64 0, .int .i64 0] 45) = w6 := ⟨_, rfl⟩
        have b6 : Below w5.heap.size w5 w6 := by rw [← hw6]; exact (Below.refl _ _).alloc (Nat.le_refl _) _
        have m6 : w6.heap[w5.heap.size]? = some (.cells #[.int .i64 0, .int .u64 0, .int .u64 0, .slice none 0 0, .int .i64 0, .int .i64 0, .int .i64 0, .int .i64 0, .int .i64 0] 45 (0, 0)) := by rw [← hw6]; exact heap_alloc_new w5 _
        have b46 : Below w4.heap.size w4 w6 := b5.trans (b6.mono b5.size)
        have r6 := (b6.block _ (heap_lt n5)).trans n5
        have n6 := (b46.block _ (heap_lt n4)).trans n4
        have tw6 := tw4.below b46
        have ho6 := own_below' ho4 b46
        have hb06 := hb04.trans (b46.mono hb04.size)
        have hr6 := (hr4.below b46).more b46.size
        have hob6 := own_below' hob b46
        have hk := (show _ from (by have e := husablep_any tw6.h2.ph p hp64; rw [HR1.out] at e; exact e))
        have HKC := Lib.hid hk
        have HTW6 := Lib.hid tw6
        have HO6 := Lib.hid ho6
        have HB06 := Lib.hid hb06
        have HR6 := Lib.hid r6
        have HM6 := Lib.hid m6
        have HOB6 := Lib.hid hob6
        have HW5 := Lib.hid hw5
        have HW6 := Lib.hid hw6
        have HLT := Lib.hid (heap_lt n5)
        have HM6L := Lib.hid (heap_lt m6)
        have HWX := Lib.hid (Nat.le_trans HWR3.out (Nat.le_trans t4.size b5.size))
        have HOB4L := Lib.hid (fun k e => (hob.lt k e).2)
        clear y0 y1 y2 y3 y4 y5 hy3
        obtain ⟨y0, y1, y2, y3, y4, y5⟩ := cl_cells n6
        have hy6 := heap_lt' n6
        obtain ⟨⟨z0, z1, z2, z3, z4, z5, z6, z7, z8⟩, f0, f1, f2, f3, f4, f5, f6, f7, f8⟩ := rp_cells m6
        have hz6 := heap_lt' m6
        obtain ⟨⟨x0, x1, x2, x3, x4, x5, x6, x7, x8⟩, _⟩ := rp_cells r6
        have hx6 := heap_lt' r6
        have N6 := Lib.hid n6
        clear ht4 tw4 t4 n4 ho4 hb04 hr4 hw5 b5 n5 hw6 b6 m6 b46 r6 n6 tw6 ho6 hb06 hr6 hob hob6 hk HDO HTW3 HO3 HB03 HR3 HN3
        go_wp2_with (first | (rw [HW5.out]) | (rw [HW6.out]) | fail)
        refine HKC.out.mono ?_
        rintro e w7 ⟨rfl, hb7⟩
        have ht7 : PTurn g2 16 cap A2 H w6 w7 := HTW6.out.h2.ph.stay hb7
        obtain ⟨A2', c2', b2', tw7, t7⟩ := HTW6.out.two HB06.out.size ht7 HCP2.out
        have hlow7 : Below w.heap.size w6 w7 := HTW6.out.h2.low HB06.out.size t7
        obtain ⟨rfl, rfl, rfl, rfl, rfl, rfl, rfl, rfl, rfl⟩ := HLK.out
        obtain rfl : (0 : Nat) = cbl := HCBL.out
        have r7 := HTW6.out.h2.ph.locO t7 HR6.out (by decide) (by decide) (by decide)
        have m7 := HTW6.out.h2.ph.locO t7 HM6.out (by decide) (by decide) (by decide)
        have ho7 := HTW6.out.h2.ph.ownO t7 HO6.out (by decide) (by decide) (by decide)
        have hob7 := ownR_keep HOB6.out (fun k e => t7.block k (HOB6.out.lt k e).2 (fun hf => by
          have h1 := HF2.out k hf
          have h2 := (HOB6.out.lt k e).1
          omega))
        have hb07 := HB06.out.trans hlow7
        obtain ⟨w8, hw8⟩ : ∃ w8, w7.setCell ⟨w5.heap.size, 2, none⟩ (.int .u64 (rh : Int)) = w8 := ⟨_, rfl⟩
        have m8 : w8.heap[w5.heap.size]? = some (.cells #[.int .i64 0, .int .u64 0, .int .u64 (rh : Int), .slice none 0 0, .int .i64 0, .int .i64 0, .int .i64 0, .int .i64 0, .int .i64 0] 45 (0, 0)) := by rw [← hw8]; exact heap_setCell_same w7 w5.heap.size 2 _ _ _ m7
        have t8 : Tch (fun k => k = w5.heap.size) w7 w8 := by rw [← hw8]; exact Tch.set (S := fun k => k = w5.heap.size) w7 ⟨w5.heap.size, 2, none⟩ _ rfl
        have HW8 := Lib.hid hw8
        clear hw8
        obtain ⟨w9, hw9⟩ : ∃ w9, w8.setCell ⟨w5.heap.size, 0, none⟩ (.int .i64 rk) = w9 := ⟨_, rfl⟩
        have m9 : w9.heap[w5.heap.size]? = some (.cells #[.int .i64 rk, .int .u64 0, .int .u64 (rh : Int), .slice none 0 0, .int .i64 0, .int .i64 0, .int .i64 0, .int .i64 0, .int .i64 0] 45 (0, 0)) := by rw [← hw9]; exact heap_setCell_same w8 w5.heap.size 0 _ _ _ m8
        have t9 : Tch (fun k => k = w5.heap.size) w8 w9 := by rw [← hw9]; exact Tch.set (S := fun k => k = w5.heap.size) w8 ⟨w5.heap.size, 0, none⟩ _ rfl
        have t79 : Tch (fun k => k = w5.heap.size) w7 w9 := t8.trans t9 (fun _ _ h => h)
        have hne : w4.heap.size ≠ w5.heap.size := fun e => by have h1 := HLT.out; omega
        have r9 := (t79.block _ (heap_lt r7) hne).trans r7
        have hob9 := ownR_keep hob7 (fun k e => t79.block k (hob7.lt k e).2 (fun hs => by
          have hs : k = w5.heap.size := hs
          have h1 := HOB4L.out k e
          have h2 := HLT.out
          omega))
        have hrb9 := Rd.ownR hob9
        have hsm := same_any w9 ⟨rk, 0, rh, [], St5.none⟩ none A' 0 c' Rd.nil_ hrb9
        unfold rpV rpRow at hsm
        dsimp only [St5.none] at hsm
        rw [show ([] : List UInt8).length = 0 from rfl] at hsm
        have HSM := Lib.hid hsm
        have HT79 := Lib.hid t79
        have HM7 := Lib.hid m7
        have HTWS := Lib.hid tw7
        have HO7 := Lib.hid ho7
        have HB07 := Lib.hid hb07
        have HR9 := Lib.hid r9
        clear z0 z1 z2 z3 z4 z5 z6 z7 z8 f0 f1 f2 f3 f4 f5 f6 f7 f8 hz6
        obtain ⟨⟨z0, z1, z2, z3, z4, z5, z6, z7, z8⟩, f0, f1, f2, f3, f4, f5, f6, f7, f8⟩ := rp_cells m7
        have hz7 := heap_lt' m7
        obtain ⟨⟨a0, a1, a2, a3, a4, a5, a6, a7, a8⟩, d0, d1, d2, d3, d4, d5, d6, d7, d8⟩ := rp_cells m8
        have hz8 := heap_lt' m8
        obtain ⟨⟨e0, e1, e2, e3, e4, e5, e6, e7, e8⟩, _⟩ := rp_cells m9
        have hz9 := heap_lt' m9
        obtain ⟨⟨x0, x1, x2, x3, x4, x5, x6, x7, x8⟩, _⟩ := rp_cells r9
        have hx9 := heap_lt' r9
        have HW9 := Lib.hid hw9
        have HCD := Lib.hid (code_any w8 rk HRK.out)
        clear tw7 t7 hlow7 r7 m7 ho7 hob7 hb07 m8 t8 hw9 m9 t9 t79 hne r9 hob9 hsm HTW6 HO6 HB06 HR6 HM6 HOB6 hrb9 HKC ht7
        clear y0 y1 y2 y3 y4 y5 hy6
        go_wp2_with (first | (rw [HW8.out]) | fail)
        refine HCD.out.mono ?_
        rintro e w99 ⟨rfl, rfl⟩
        go_wp2_with (first | (rw [HW9.out]) | fail)
        refine HSM.out.mono ?_
        rintro e w10 ⟨rfl, hb10⟩
        have t710 : Tch (fun k => k = w5.heap.size) w7 w10 := HT79.out.trans (Tch.of_below (S := fun k => k = w5.heap.size) hb10) (fun _ _ h => h)
        have tw10 := HTWS.out.tchO t710 (fun k hk => by
          have hk : k = w5.heap.size := hk
          subst hk
          exact ⟨_, _, HM7.out, by decide, by decide, by decide⟩)
        have ho10 := ownR_keep HO7.out (fun k e => t710.block k (HO7.out.lt k e).2 (fun hs => by
          have hs : k = w5.heap.size := hs
          have h1 := (HOW.out.lt k e).2
          have h2 := HWX.out
          omega))
        have hb010 := HB07.out.trans (t710.below (B := w.heap.size) (fun k hk => by
          have hk : k = w5.heap.size := hk
          have h2 := HWX.out
          have h3 := HBB.out.size
          omega) HB07.out.size)
        have r10 := (hb10.block _ (heap_lt HR9.out)).trans HR9.out
        clear z0 z1 z2 z3 z4 z5 z6 z7 z8 f0 f1 f2 f3 f4 f5 f6 f7 f8 hz7 a0 a1 a2 a3 a4 a5 a6 a7 a8 d0 d1 d2 d3 d4 d5 d6 d7 d8 hz8 e0 e1 e2 e3 e4 e5 e6 e7 e8 hz9 x0 x1 x2 x3 x4 x5 x6 x7 x8 hx9
        obtain ⟨⟨x0, x1, x2, x3, x4, x5, x6, x7, x8⟩, _⟩ := rp_cells r10
        have hx10 := heap_lt' r10
        have HTW10 := Lib.hid tw10
        have HO10 := Lib.hid ho10
        have HB010 := Lib.hid hb010
        clear hb10 t710 tw10 ho10 hb010 r10 HSM HCD HT79 HM7 HTWS HO7 HB07 HR9 HW9
        go_wp2
        go_roundw
        case rel => exact ⟨j + 1, told, At, ct, H, g1, A1', c1', b1', g2, A2', c2', b2', rfl, by go_num, by omega, by omega, H64.out, HO10.out, HTW10.out, HB010.out⟩
        case measure => simp only [intOf]; omega
      · -- 6
        go_wp2_with fail
        refine HM.out.mono ?_
        rintro e w2 ⟨rfl, hb2⟩
        obtain ⟨w3, hw3⟩ : ∃ w3, w2.alloc (.cells #[.int .i64 6, .int .u64 (p : Int), .int .u64 (xn : Int), .int .u64 (xm : Int), .int .u64 (xa : Int), .slice xA bl xc] 38) = w3 := ⟨_, rfl⟩
        have n3 : w3.heap[w2.heap.size]? = some (.cells #[.int .i64 6, .int .u64 (p : Int), .int .u64 (xn : Int), .int .u64 (xm : Int), .int .u64 (xa : Int), .slice xA bl xc] 38 (0, 0)) := by rw [← hw3]; exact heap_alloc_new w2 _
        have hb3 : Below wr.heap.size wr w3 := by rw [← hw3]; exact hb2.alloc hb2.size _
        have tw3 := HTW.out.below hb3
        have hb03 := HBB.out.trans (hb3.mono HBB.out.size)
        have hE3 := HE.out.keep (hb03.block 0 HE.out.lt)
        have ho3 := own_below' HOW.out hb3
        have hr3 := ((HXB.out.below hb03).more hb03.size)
        have h03 : ¬ foot g1 A1 0 := fun hf => by
          have h1 := tw3.h1.fB hf
          have h2 := HE.out.lt
          omega
        have hd := hdo_6 tw3.h1.ph hE3 h03 p xn xm xa bl xc xA xb hp64 ha hn
        obtain ⟨dc, hdc⟩ : ∃ dc, H.doC 6 p xn xm xa xb = dc := ⟨_, rfl⟩
        rw [hdc] at hd
        obtain ⟨⟨ck, ch, cn, cb, ⟨s0, s1, s2, s3, s4⟩⟩, H'⟩ := dc
        rw [doC_6] at hdc
        unfold callV at hd
        dsimp only at hd
        obtain ⟨r1, hr1⟩ : ∃ r1, H.readP p xa xn = r1 := ⟨_, rfl⟩
        rw [hr1] at hdc
        obtain ⟨rb, rk⟩ := r1
        have HCP2 : Hid (H.cap = cap) := tw3.h1.ph.cp
        have HRK := Lib.hid (show 0 ≤ rk ∧ rk ≤ 10 by have e := readP_code (H := H) p xa xn; rw [hr1] at e; exact e)
        have HR1 := Lib.hid hr1
        clear hr1
        first | unfold gotR at hdc | unfold Rp.err at hdc | skip
        first | unfold St5.none at hdc | skip
        simp only [Prod.mk.injEq, Rp.mk.injEq, St5.mk.injEq] at hdc
        obtain ⟨⟨e1, e2, e3, e4, e5, e6, e7, e8, e9⟩, e10⟩ := hdc
        subst e10
        have HLK := Lib.hid (show _ ∧ _ ∧ _ ∧ _ ∧ _ ∧ _ ∧ _ ∧ _ ∧ _ from ⟨e1, e2, e3, e4, e5, e6, e7, e8, e9⟩)
        clear e1 e2 e3 e4 e5 e6 e7 e8 e9
        have HCP := HCP2
        obtain ⟨cbl, hcbl⟩ : ∃ cbl, cb.length = cbl := ⟨_, rfl⟩
        have HDO := Lib.hid hd
        have HB03 := Lib.hid hb03
        have HTW3 := Lib.hid tw3
        have HO3 := Lib.hid ho3
        have HR3 := Lib.hid hr3
        have HN3 := Lib.hid n3
        have HCBL := Lib.hid hcbl
        have HF2 := Lib.hid (fun k hf => tw3.h2.own_lt (k := k) (.inr hf))
        have HWR3 := Lib.hid hb3.size
        obtain ⟨y0, y1, y2, y3, y4, y5⟩ := cl_cells n3
        have hy3 := heap_lt' n3
        have HW3 := Lib.hid hw3
        clear hb2 hw3 n3 hb3 tw3 hb03 hE3 ho3 hr3 h03 hd hcbl HM
        go_wp2_with (first | (rw [HW3.out]) | fail)
        refine HDO.out.mono ?_
        rintro e w4 ⟨hdt, ht4⟩
        obtain ⟨A', c', rfl, hob⟩ := hdt
        unfold rpV rpRow
        dsimp only at hob ⊢
        rw [HCBL.out] at hob ⊢
        obtain ⟨A1', c1', b1', tw4, t4⟩ := HTW3.out.one HB03.out.size ht4 HCP.out
        have n4 := HTW3.out.h1.ph.locO t4 HN3.out (by decide) (by decide) (by decide)
        have ho4 := HTW3.out.h1.ph.ownO t4 HO3.out (by decide) (by decide) (by decide)
        have hb04 := HB03.out.trans (HTW3.out.h1.low HB03.out.size t4)
        have hr4 := (HXB.out.below hb04).more hb04.size
        obtain ⟨w5, hw5⟩ : ∃ w5, w4.alloc (.cells #[.int .i64 ck, .int .u64 (ch : Int), .int .u64 (cn : Int), .slice A' cbl c', .int .i64 (s0 : Int), .int .i64 (s1 : Int), .int .i64 (s2 : Int), .int .i64 (s3 : Int), .int .i64 (s4 : Int)] 45) = w5 := ⟨_, rfl⟩
        have b5 : Below w4.heap.size w4 w5 := by rw [← hw5]; exact (Below.refl _ _).alloc (Nat.le_refl _) _
        have n5 : w5.heap[w4.heap.size]? = some (.cells #[.int .i64 ck, .int .u64 (ch : Int), .int .u64 (cn : Int), .slice A' cbl c', .int .i64 (s0 : Int), .int .i64 (s1 : Int), .int .i64 (s2 : Int), .int .i64 (s3 : Int), .int .i64 (s4 : Int)] 45 (0, 0)) := by rw [← hw5]; exact heap_alloc_new w4 _
        obtain ⟨w6, hw6⟩ : ∃ w6, w5.alloc (.cells #[.int .i64 0, .int .u64 0, .int .u64 0, .slice none 0 0, .int .i64 0, .int .i64 0, .int .i64 0, .int .i64 0, .int .i64 0] 45) = w6 := ⟨_, rfl⟩
        have b6 : Below w5.heap.size w5 w6 := by rw [← hw6]; exact (Below.refl _ _).alloc (Nat.le_refl _) _
        have m6 : w6.heap[w5.heap.size]? = some (.cells #[.int .i64 0, .int .u64 0, .int .u64 0, .slice none 0 0, .int .i64 0, .int .i64 0, .int .i64 0, .int .i64 0, .int .i64 0] 45 (0, 0)) := by rw [← hw6]; exact heap_alloc_new w5 _
        have b46 : Below w4.heap.size w4 w6 := b5.trans (b6.mono b5.size)
        have r6 := (b6.block _ (heap_lt n5)).trans n5
        have n6 := (b46.block _ (heap_lt n4)).trans n4
        have tw6 := tw4.below b46
        have ho6 := own_below' ho4 b46
        have hb06 := hb04.trans (b46.mono hb04.size)
        have hr6 := (hr4.below b46).more b46.size
        have hob6 := own_below' hob b46
        have hk := (show _ from (by have e := hread_any tw6.h2.ph p xa xn hp64 ha hn; rw [HR1.out] at e; exact e))
        have HKC := Lib.hid hk
        have HTW6 := Lib.hid tw6
        have HO6 := Lib.hid ho6
        have HB06 := Lib.hid hb06
        have HR6 := Lib.hid r6
        have HM6 := Lib.hid m6
        have HOB6 := Lib.hid hob6
        have HW5 := Lib.hid hw5
        have HW6 := Lib.hid hw6
        have HLT := Lib.hid (heap_lt n5)
        have HM6L := Lib.hid (heap_lt m6)
        have HWX := Lib.hid (Nat.le_trans HWR3.out (Nat.le_trans t4.size b5.size))
        have HOB4L := Lib.hid (fun k e => (hob.lt k e).2)
        clear y0 y1 y2 y3 y4 y5 hy3
        obtain ⟨y0, y1, y2, y3, y4, y5⟩ := cl_cells n6
        have hy6 := heap_lt' n6
        obtain ⟨⟨z0, z1, z2, z3, z4, z5, z6, z7, z8⟩, f0, f1, f2, f3, f4, f5, f6, f7, f8⟩ := rp_cells m6
        have hz6 := heap_lt' m6
        obtain ⟨⟨x0, x1, x2, x3, x4, x5, x6, x7, x8⟩, _⟩ := rp_cells r6
        have hx6 := heap_lt' r6
        have N6 := Lib.hid n6
        clear ht4 tw4 t4 n4 ho4 hb04 hr4 hw5 b5 n5 hw6 b6 m6 b46 r6 n6 tw6 ho6 hb06 hr6 hob hob6 hk HDO HTW3 HO3 HB03 HR3 HN3
        go_wp2_with (first | (rw [HW5.out]) | (rw [HW6.out]) | fail)
        refine HKC.out.mono ?_
        rintro e w7 ⟨A6, k6, rfl, ho6b, hb7⟩
        dsimp only at ho6b ⊢
        rw [show rb.length = cbl from by rw [HLK.out.2.2.2.1]; exact HCBL.out] at ho6b ⊢
        have ht7 : PTurn g2 16 cap A2 H w6 w7 := HTW6.out.h2.ph.stay hb7
        obtain ⟨A2', c2', b2', tw7, t7⟩ := HTW6.out.two HB06.out.size ht7 HCP2.out
        have hlow7 : Below w.heap.size w6 w7 := HTW6.out.h2.low HB06.out.size t7
        obtain ⟨rfl, rfl, rfl, rfl, rfl, rfl, rfl, rfl, rfl⟩ := HLK.out
        have r7 := HTW6.out.h2.ph.locO t7 HR6.out (by decide) (by decide) (by decide)
        have m7 := HTW6.out.h2.ph.locO t7 HM6.out (by decide) (by decide) (by decide)
        have ho7 := HTW6.out.h2.ph.ownO t7 HO6.out (by decide) (by decide) (by decide)
        have hob7 := ownR_keep HOB6.out (fun k e => t7.block k (HOB6.out.lt k e).2 (fun hf => by
          have h1 := HF2.out k hf
          have h2 := (HOB6.out.lt k e).1
          omega))
        have hb07 := HB06.out.trans hlow7
        obtain ⟨w8, hw8⟩ : ∃ w8, w7.setCell ⟨w5.heap.size, 3, none⟩ (.slice A6 cbl k6) = w8 := ⟨_, rfl⟩
        have m8 : w8.heap[w5.heap.size]? = some (.cells #[.int .i64 0, .int .u64 0, .int .u64 0, .slice A6 cbl k6, .int .i64 0, .int .i64 0, .int .i64 0, .int .i64 0, .int .i64 0] 45 (0, 0)) := by rw [← hw8]; exact heap_setCell_same w7 w5.heap.size 3 _ _ _ m7
        have t8 : Tch (fun k => k = w5.heap.size) w7 w8 := by rw [← hw8]; exact Tch.set (S := fun k => k = w5.heap.size) w7 ⟨w5.heap.size, 3, none⟩ _ rfl
        have HW8 := Lib.hid hw8
        clear hw8
        obtain ⟨w9, hw9⟩ : ∃ w9, w8.setCell ⟨w5.heap.size, 0, none⟩ (.int .i64 rk) = w9 := ⟨_, rfl⟩
        have m9 : w9.heap[w5.heap.size]? = some (.cells #[.int .i64 rk, .int .u64 0, .int .u64 0, .slice A6 cbl k6, .int .i64 0, .int .i64 0, .int .i64 0, .int .i64 0, .int .i64 0] 45 (0, 0)) := by rw [← hw9]; exact heap_setCell_same w8 w5.heap.size 0 _ _ _ m8
        have t9 : Tch (fun k => k = w5.heap.size) w8 w9 := by rw [← hw9]; exact Tch.set (S := fun k => k = w5.heap.size) w8 ⟨w5.heap.size, 0, none⟩ _ rfl
        have t79 : Tch (fun k => k = w5.heap.size) w7 w9 := t8.trans t9 (fun _ _ h => h)
        have hne : w4.heap.size ≠ w5.heap.size := fun e => by have h1 := HLT.out; omega
        have r9 := (t79.block _ (heap_lt r7) hne).trans r7
        have hob9 := ownR_keep hob7 (fun k e => t79.block k (hob7.lt k e).2 (fun hs => by
          have hs : k = w5.heap.size := hs
          have h1 := HOB4L.out k e
          have h2 := HLT.out
          omega))
        have hrb9 := Rd.ownR hob9
        have hrb6 := Rd.ownR (ownR_keep ho6b (fun k e => t79.block k (ho6b.lt k e).2 (fun hs => by
          have hs : k = w5.heap.size := hs
          have h1 := (ho6b.lt k e).1
          have h2 := HM6L.out
          omega)))
        have hsm := same_any w9 ⟨rk, 0, 0, rb, St5.none⟩ A6 A' k6 c' (by rw [HCBL.out]; exact hrb6) (by rw [HCBL.out]; exact hrb9)
        unfold rpV rpRow at hsm
        dsimp only [St5.none] at hsm
        rw [HCBL.out] at hsm
        have HSM := Lib.hid hsm
        have HT79 := Lib.hid t79
        have HM7 := Lib.hid m7
        have HTWS := Lib.hid tw7
        have HO7 := Lib.hid ho7
        have HB07 := Lib.hid hb07
        have HR9 := Lib.hid r9
        clear z0 z1 z2 z3 z4 z5 z6 z7 z8 f0 f1 f2 f3 f4 f5 f6 f7 f8 hz6
        obtain ⟨⟨z0, z1, z2, z3, z4, z5, z6, z7, z8⟩, f0, f1, f2, f3, f4, f5, f6, f7, f8⟩ := rp_cells m7
        have hz7 := heap_lt' m7
        obtain ⟨⟨a0, a1, a2, a3, a4, a5, a6, a7, a8⟩, d0, d1, d2, d3, d4, d5, d6, d7, d8⟩ := rp_cells m8
        have hz8 := heap_lt' m8
        obtain ⟨⟨e0, e1, e2, e3, e4, e5, e6, e7, e8⟩, _⟩ := rp_cells m9
        have hz9 := heap_lt' m9
        obtain ⟨⟨x0, x1, x2, x3, x4, x5, x6, x7, x8⟩, _⟩ := rp_cells r9
        have hx9 := heap_lt' r9
        have HW9 := Lib.hid hw9
        have HCD := Lib.hid (code_any w8 rk HRK.out)
        clear hrb6 ho6b tw7 t7 hlow7 r7 m7 ho7 hob7 hb07 m8 t8 hw9 m9 t9 t79 hne r9 hob9 hsm HTW6 HO6 HB06 HR6 HM6 HOB6 hrb9 HKC ht7
        clear y0 y1 y2 y3 y4 y5 hy6
        go_wp2_with (first | (rw [HW8.out]) | fail)
        refine HCD.out.mono ?_
        rintro e w99 ⟨rfl, rfl⟩
        go_wp2_with (first | (rw [HW9.out]) | fail)
        refine HSM.out.mono ?_
        rintro e w10 ⟨rfl, hb10⟩
        have t710 : Tch (fun k => k = w5.heap.size) w7 w10 := HT79.out.trans (Tch.of_below (S := fun k => k = w5.heap.size) hb10) (fun _ _ h => h)
        have tw10 := HTWS.out.tchO t710 (fun k hk => by
          have hk : k = w5.heap.size := hk
          subst hk
          exact ⟨_, _, HM7.out, by decide, by decide, by decide⟩)
        have ho10 := ownR_keep HO7.out (fun k e => t710.block k (HO7.out.lt k e).2 (fun hs => by
          have hs : k = w5.heap.size := hs
          have h1 := (HOW.out.lt k e).2
          have h2 := HWX.out
          omega))
        have hb010 := HB07.out.trans (t710.below (B := w.heap.size) (fun k hk => by
          have hk : k = w5.heap.size := hk
          have h2 := HWX.out
          have h3 := HBB.out.size
          omega) HB07.out.size)
        have r10 := (hb10.block _ (heap_lt HR9.out)).trans HR9.out
        clear z0 z1 z2 z3 z4 z5 z6 z7 z8 f0 f1 f2 f3 f4 f5 f6 f7 f8 hz7 a0 a1 a2 a3 a4 a5 a6 a7 a8 d0 d1 d2 d3 d4 d5 d6 d7 d8 hz8 e0 e1 e2 e3 e4 e5 e6 e7 e8 hz9 x0 x1 x2 x3 x4 x5 x6 x7 x8 hx9
        obtain ⟨⟨x0, x1, x2, x3, x4, x5, x6, x7, x8⟩, _⟩ := rp_cells r10
        have hx10 := heap_lt' r10
        have HTW10 := Lib.hid tw10
        have HO10 := Lib.hid ho10
        have HB010 := Lib.hid hb010
        clear hb10 t710 tw10 ho10 hb010 r10 HSM HCD HT79 HM7 HTWS HO7 HB07 HR9 HW9
        go_wp2
        go_roundw
        case rel => exact ⟨j + 1, told, At, ct, H, g1, A1', c1', b1', g2, A2', c2', b2', rfl, by go_num, by omega, by omega, H64.out, HO10.out, HTW10.out, HB010.out⟩
        case measure => simp only [intOf]; omega
      · -- 7
        go_wp2_with fail
        refine HM.out.mono ?_
        rintro e w2 ⟨rfl, hb2⟩
        obtain ⟨w3, hw3⟩ : ∃ w3, w2.alloc (.cells #[.int .i64 7, .int .u64 (p : Int), .int .u64 (xn : Int), .int .u64 (xm : Int), .int .u64 (xa : Int), .slice xA bl xc] 38) = w3 := ⟨_, rfl⟩
        have n3 : w3.heap[w2.heap.size]? = some (.cells #[.int .i64 7, .int .u64 (p : Int), .int .u64 (xn : Int), .int .u64 (xm : Int), .int .u64 (xa : Int), .slice xA bl xc] 38 (0, 0)) := by rw [← hw3]; exact heap_alloc_new w2 _
        have hb3 : Below wr.heap.size wr w3 := by rw [← hw3]; exact hb2.alloc hb2.size _
        have tw3 := HTW.out.below hb3
        have hb03 := HBB.out.trans (hb3.mono HBB.out.size)
        have hE3 := HE.out.keep (hb03.block 0 HE.out.lt)
        have ho3 := own_below' HOW.out hb3
        have hr3 := ((HXB.out.below hb03).more hb03.size)
        have h03 : ¬ foot g1 A1 0 := fun hf => by
          have h1 := tw3.h1.fB hf
          have h2 := HE.out.lt
          omega
        have hd := hdo_7 tw3.h1.ph hE3 h03 p xn xm xa bl xc xA xb hp64 ha HBLN.out hr3 (by omega)
        obtain ⟨dc, hdc⟩ : ∃ dc, H.doC 7 p xn xm xa xb = dc := ⟨_, rfl⟩
        rw [hdc] at hd
        obtain ⟨⟨ck, ch, cn, cb, ⟨s0, s1, s2, s3, s4⟩⟩, H'⟩ := dc
        rw [doC_7] at hdc
        unfold callV at hd
        dsimp only at hd
        obtain ⟨r1, hr1⟩ : ∃ r1, H.writeP p xa xb = r1 := ⟨_, rfl⟩
        rw [hr1] at hdc
        obtain ⟨rk, H2⟩ := r1
        have HCP2 : Hid (H2.cap = cap) := (show H2.cap = cap by have e := writeP_cap (H := H) (p := p) (a := xa) (b := xb); rw [hr1] at e; exact e.trans tw3.h1.ph.cp)
        have HRK := Lib.hid (show 0 ≤ rk ∧ rk ≤ 10 by have e := writeP_code (H := H) p xa xb; rw [hr1] at e; exact e)
        have HR1 := Lib.hid hr1
        clear hr1
        first | unfold gotR at hdc | unfold Rp.err at hdc | skip
        first | unfold St5.none at hdc | skip
        simp only [Prod.mk.injEq, Rp.mk.injEq, St5.mk.injEq] at hdc
        obtain ⟨⟨e1, e2, e3, e4, e5, e6, e7, e8, e9⟩, e10⟩ := hdc
        subst e10
        have HLK := Lib.hid (show _ ∧ _ ∧ _ ∧ _ ∧ _ ∧ _ ∧ _ ∧ _ ∧ _ from ⟨e1, e2, e3, e4, e5, e6, e7, e8, e9⟩)
        clear e1 e2 e3 e4 e5 e6 e7 e8 e9
        have HCP := HCP2
        obtain ⟨cbl, hcbl⟩ : ∃ cbl, cb.length = cbl := ⟨_, rfl⟩
        have HDO := Lib.hid hd
        have HB03 := Lib.hid hb03
        have HTW3 := Lib.hid tw3
        have HO3 := Lib.hid ho3
        have HR3 := Lib.hid hr3
        have HN3 := Lib.hid n3
        have HCBL := Lib.hid hcbl
        have HF2 := Lib.hid (fun k hf => tw3.h2.own_lt (k := k) (.inr hf))
        have HWR3 := Lib.hid hb3.size
        obtain ⟨y0, y1, y2, y3, y4, y5⟩ := cl_cells n3
        have hy3 := heap_lt' n3
        have HW3 := Lib.hid hw3
        clear hb2 hw3 n3 hb3 tw3 hb03 hE3 ho3 hr3 h03 hd hcbl HM
        go_wp2_with (first | (rw [HW3.out]) | fail)
        refine HDO.out.mono ?_
        rintro e w4 ⟨hdt, ht4⟩
        obtain ⟨A', c', rfl, hob⟩ := hdt
        unfold rpV rpRow
        dsimp only at hob ⊢
        rw [HCBL.out] at hob ⊢
        obtain ⟨A1', c1', b1', tw4, t4⟩ := HTW3.out.one HB03.out.size ht4 HCP.out
        have n4 := HTW3.out.h1.ph.locO t4 HN3.out (by decide) (by decide) (by decide)
        have ho4 := HTW3.out.h1.ph.ownO t4 HO3.out (by decide) (by decide) (by decide)
        have hb04 := HB03.out.trans (HTW3.out.h1.low HB03.out.size t4)
        have hr4 := (HXB.out.below hb04).more hb04.size
        obtain ⟨w5, hw5⟩ : ∃ w5, w4.alloc (.cells #[.int .i64 ck, .int .u64 (ch : Int), .int .u64 (cn : Int), .slice A' cbl c', .int .i64 (s0 : Int), .int .i64 (s1 : Int), .int .i64 (s2 : Int), .int .i64 (s3 : Int), .int .i64 (s4 : Int)] 45) = w5 := ⟨_, rfl⟩
        have b5 : Below w4.heap.size w4 w5 := by rw [← hw5]; exact (Below.refl _ _).alloc (Nat.le_refl _) _
        have n5 : w5.heap[w4.heap.size]? = some (.cells #[.int .i64 ck, .int .u64 (ch : Int), .int .u64 (cn : Int), .slice A' cbl c', .int .i64 (s0 : Int), .int .i64 (s1 : Int), .int .i64 (s2 : Int), .int .i64 (s3 : Int), .int .i64 (s4 : Int)] 45 (0, 0)) := by rw [← hw5]; exact heap_alloc_new w4 _
        obtain ⟨w6, hw6⟩ : ∃ w6, w5.alloc (.cells #[.int .i64 0, .int .u64 0, .int .u64 0, .slice none 0 0, .int .i64 0, .int .i64 0, .int .i64 0, .int .i64 0, .int .i64 0] 45) = w6 := ⟨_, rfl⟩
        have b6 : Below w5.heap.size w5 w6 := by rw [← hw6]; exact (Below.refl _ _).alloc (Nat.le_refl _) _
        have m6 : w6.heap[w5.heap.size]? = some (.cells #[.int .i64 0, .int .u64 0, .int .u64 0, .slice none 0 0, .int .i64 0, .int .i64 0, .int .i64 0, .int .i64 0, .int .i64 0] 45 (0, 0)) := by rw [← hw6]; exact heap_alloc_new w5 _
        have b46 : Below w4.heap.size w4 w6 := b5.trans (b6.mono b5.size)
        have r6 := (b6.block _ (heap_lt n5)).trans n5
        have n6 := (b46.block _ (heap_lt n4)).trans n4
        have tw6 := tw4.below b46
        have ho6 := own_below' ho4 b46
        have hb06 := hb04.trans (b46.mono hb04.size)
        have hr6 := (hr4.below b46).more b46.size
        have hob6 := own_below' hob b46
        have hk := (show _ from (by have e := hwrite_any tw6.h2.ph p xa xb xA xc hr6 hp64 ha (by rw [HBLN.out]; omega); rw [HR1.out, HBLN.out] at e; exact e))
        have HKC := Lib.hid hk
        have HTW6 := Lib.hid tw6
        have HO6 := Lib.hid ho6
        have HB06 := Lib.hid hb06
        have HR6 := Lib.hid r6
        have HM6 := Lib.hid m6
        have HOB6 := Lib.hid hob6
        have HW5 := Lib.hid hw5
        have HW6 := Lib.hid hw6
        have HLT := Lib.hid (heap_lt n5)
        have HM6L := Lib.hid (heap_lt m6)
        have HWX := Lib.hid (Nat.le_trans HWR3.out (Nat.le_trans t4.size b5.size))
        have HOB4L := Lib.hid (fun k e => (hob.lt k e).2)
        clear y0 y1 y2 y3 y4 y5 hy3
        obtain ⟨y0, y1, y2, y3, y4, y5⟩ := cl_cells n6
        have hy6 := heap_lt' n6
        obtain ⟨⟨z0, z1, z2, z3, z4, z5, z6, z7, z8⟩, f0, f1, f2, f3, f4, f5, f6, f7, f8⟩ := rp_cells m6
        have hz6 := heap_lt' m6
        obtain ⟨⟨x0, x1, x2, x3, x4, x5, x6, x7, x8⟩, _⟩ := rp_cells r6
        have hx6 := heap_lt' r6
        have N6 := Lib.hid n6
        clear ht4 tw4 t4 n4 ho4 hb04 hr4 hw5 b5 n5 hw6 b6 m6 b46 r6 n6 tw6 ho6 hb06 hr6 hob hob6 hk HDO HTW3 HO3 HB03 HR3 HN3
        go_wp2_with (first | (rw [HW5.out]) | (rw [HW6.out]) | fail)
        refine HKC.out.mono ?_
        rintro e w7 ⟨rfl, ht7_⟩
        have ht7 : PTurn g2 16 cap A2 H2 w6 w7 := ht7_
        obtain ⟨A2', c2', b2', tw7, t7⟩ := HTW6.out.two HB06.out.size ht7 HCP2.out
        have hlow7 : Below w.heap.size w6 w7 := HTW6.out.h2.low HB06.out.size t7
        obtain ⟨rfl, rfl, rfl, rfl, rfl, rfl, rfl, rfl, rfl⟩ := HLK.out
        obtain rfl : (0 : Nat) = cbl := HCBL.out
        have r7 := HTW6.out.h2.ph.locO t7 HR6.out (by decide) (by decide) (by decide)
        have m7 := HTW6.out.h2.ph.locO t7 HM6.out (by decide) (by decide) (by decide)
        have ho7 := HTW6.out.h2.ph.ownO t7 HO6.out (by decide) (by decide) (by decide)
        have hob7 := ownR_keep HOB6.out (fun k e => t7.block k (HOB6.out.lt k e).2 (fun hf => by
          have h1 := HF2.out k hf
          have h2 := (HOB6.out.lt k e).1
          omega))
        have hb07 := HB06.out.trans hlow7
        have m8 : w7.heap[w5.heap.size]? = some (.cells #[.int .i64 0, .int .u64 0, .int .u64 0, .slice none 0 0, .int .i64 0, .int .i64 0, .int .i64 0, .int .i64 0, .int .i64 0] 45 (0, 0)) := m7
        have t8 : Tch (fun k => k = w5.heap.size) w7 w7 := Tch.refl _ _
        obtain ⟨w9, hw9⟩ : ∃ w9, w7.setCell ⟨w5.heap.size, 0, none⟩ (.int .i64 rk) = w9 := ⟨_, rfl⟩
        have m9 : w9.heap[w5.heap.size]? = some (.cells #[.int .i64 rk, .int .u64 0, .int .u64 0, .slice none 0 0, .int .i64 0, .int .i64 0, .int .i64 0, .int .i64 0, .int .i64 0] 45 (0, 0)) := by rw [← hw9]; exact heap_setCell_same w7 w5.heap.size 0 _ _ _ m8
        have t9 : Tch (fun k => k = w5.heap.size) w7 w9 := by rw [← hw9]; exact Tch.set (S := fun k => k = w5.heap.size) w7 ⟨w5.heap.size, 0, none⟩ _ rfl
        have t79 : Tch (fun k => k = w5.heap.size) w7 w9 := t8.trans t9 (fun _ _ h => h)
        have hne : w4.heap.size ≠ w5.heap.size := fun e => by have h1 := HLT.out; omega
        have r9 := (t79.block _ (heap_lt r7) hne).trans r7
        have hob9 := ownR_keep hob7 (fun k e => t79.block k (hob7.lt k e).2 (fun hs => by
          have hs : k = w5.heap.size := hs
          have h1 := HOB4L.out k e
          have h2 := HLT.out
          omega))
        have hrb9 := Rd.ownR hob9
        have hsm := same_any w9 ⟨rk, 0, 0, [], St5.none⟩ none A' 0 c' Rd.nil_ hrb9
        unfold rpV rpRow at hsm
        dsimp only [St5.none] at hsm
        rw [show ([] : List UInt8).length = 0 from rfl] at hsm
        have HSM := Lib.hid hsm
        have HT79 := Lib.hid t79
        have HM7 := Lib.hid m7
        have HTWS := Lib.hid tw7
        have HO7 := Lib.hid ho7
        have HB07 := Lib.hid hb07
        have HR9 := Lib.hid r9
        clear z0 z1 z2 z3 z4 z5 z6 z7 z8 f0 f1 f2 f3 f4 f5 f6 f7 f8 hz6
        obtain ⟨⟨z0, z1, z2, z3, z4, z5, z6, z7, z8⟩, f0, f1, f2, f3, f4, f5, f6, f7, f8⟩ := rp_cells m7
        have hz7 := heap_lt' m7
        obtain ⟨⟨a0, a1, a2, a3, a4, a5, a6, a7, a8⟩, d0, d1, d2, d3, d4, d5, d6, d7, d8⟩ := rp_cells m8
        have hz8 := heap_lt' m8
        obtain ⟨⟨e0, e1, e2, e3, e4, e5, e6, e7, e8⟩, _⟩ := rp_cells m9
        have hz9 := heap_lt' m9
        obtain ⟨⟨x0, x1, x2, x3, x4, x5, x6, x7, x8⟩, _⟩ := rp_cells r9
        have hx9 := heap_lt' r9
        have HW9 := Lib.hid hw9
        have HCD := Lib.hid (code_any w7 rk HRK.out)
        clear tw7 t7 hlow7 r7 m7 ho7 hob7 hb07 m8 t8 hw9 m9 t9 t79 hne r9 hob9 hsm HTW6 HO6 HB06 HR6 HM6 HOB6 hrb9 HKC ht7
        clear y0 y1 y2 y3 y4 y5 hy6
        go_wp2_with (first | fail)
        refine HCD.out.mono ?_
        rintro e w99 ⟨rfl, rfl⟩
        go_wp2_with (first | (rw [HW9.out]) | fail)
        refine HSM.out.mono ?_
        rintro e w10 ⟨rfl, hb10⟩
        have t710 : Tch (fun k => k = w5.heap.size) w7 w10 := HT79.out.trans (Tch.of_below (S := fun k => k = w5.heap.size) hb10) (fun _ _ h => h)
        have tw10 := HTWS.out.tchO t710 (fun k hk => by
          have hk : k = w5.heap.size := hk
          subst hk
          exact ⟨_, _, HM7.out, by decide, by decide, by decide⟩)
        have ho10 := ownR_keep HO7.out (fun k e => t710.block k (HO7.out.lt k e).2 (fun hs => by
          have hs : k = w5.heap.size := hs
          have h1 := (HOW.out.lt k e).2
          have h2 := HWX.out
          omega))
        have hb010 := HB07.out.trans (t710.below (B := w.heap.size) (fun k hk => by
          have hk : k = w5.heap.size := hk
          have h2 := HWX.out
          have h3 := HBB.out.size
          omega) HB07.out.size)
        have r10 := (hb10.block _ (heap_lt HR9.out)).trans HR9.out
        clear z0 z1 z2 z3 z4 z5 z6 z7 z8 f0 f1 f2 f3 f4 f5 f6 f7 f8 hz7 a0 a1 a2 a3 a4 a5 a6 a7 a8 d0 d1 d2 d3 d4 d5 d6 d7 d8 hz8 e0 e1 e2 e3 e4 e5 e6 e7 e8 hz9 x0 x1 x2 x3 x4 x5 x6 x7 x8 hx9
        obtain ⟨⟨x0, x1, x2, x3, x4, x5, x6, x7, x8⟩, _⟩ := rp_cells r10
        have hx10 := heap_lt' r10
        have HTW10 := Lib.hid tw10
        have HO10 := Lib.hid ho10
        have HB010 := Lib.hid hb010
        clear hb10 t710 tw10 ho10 hb010 r10 HSM HCD HT79 HM7 HTWS HO7 HB07 HR9 HW9
        go_wp2
        go_roundw
        case rel => exact ⟨j + 1, told, At, ct, H2, g1, A1', c1', b1', g2, A2', c2', b2', rfl, by go_num, by omega, by omega, H64.out, HO10.out, HTW10.out, HB010.out⟩
        case measure => simp only [intOf]; omega
      · -- 8
        go_wp2_with fail
        refine HM.out.mono ?_
        rintro e w2 ⟨rfl, hb2⟩
        obtain ⟨w3, hw3⟩ : ∃ w3, w2.alloc (.cells #[.int .i64 8, .int .u64 (p : Int), .int .u64 (xn : Int), .int .u64 (xm : Int), .int .u64 (xa : Int), .slice xA bl xc] 38) = w3 := ⟨_, rfl⟩
        have n3 : w3.heap[w2.heap.size]? = some (.cells #[.int .i64 8, .int .u64 (p : Int), .int .u64 (xn : Int), .int .u64 (xm : Int), .int .u64 (xa : Int), .slice xA bl xc] 38 (0, 0)) := by rw [← hw3]; exact heap_alloc_new w2 _
        have hb3 : Below wr.heap.size wr w3 := by rw [← hw3]; exact hb2.alloc hb2.size _
        have tw3 := HTW.out.below hb3
        have hb03 := HBB.out.trans (hb3.mono HBB.out.size)
        have hE3 := HE.out.keep (hb03.block 0 HE.out.lt)
        have ho3 := own_below' HOW.out hb3
        have hr3 := ((HXB.out.below hb03).more hb03.size)
        have h03 : ¬ foot g1 A1 0 := fun hf => by
          have h1 := tw3.h1.fB hf
          have h2 := HE.out.lt
          omega
        have hd := hdo_8 tw3.h1.ph hE3 h03 p xn xm xa bl xc xA xb
        obtain ⟨dc, hdc⟩ : ∃ dc, H.doC 8 p xn xm xa xb = dc := ⟨_, rfl⟩
        rw [hdc] at hd
        obtain ⟨⟨ck, ch, cn, cb, ⟨s0, s1, s2, s3, s4⟩⟩, H'⟩ := dc
        rw [doC_8] at hdc
        unfold callV at hd
        dsimp only at hd
        obtain ⟨r1, hr1⟩ : ∃ r1, H.stats = r1 := ⟨_, rfl⟩
        rw [hr1] at hdc
        obtain ⟨v0, v1, v2, v3, v4⟩ := r1
        have HCP2 : Hid (H.cap = cap) := tw3.h1.ph.cp
        have HR1 := Lib.hid hr1
        clear hr1
        first | unfold gotR at hdc | unfold Rp.err at hdc | skip
        first | unfold St5.none at hdc | skip
        simp only [Prod.mk.injEq, Rp.mk.injEq, St5.mk.injEq] at hdc
        obtain ⟨⟨e1, e2, e3, e4, e5, e6, e7, e8, e9⟩, e10⟩ := hdc
        subst e10
        have HLK := Lib.hid (show _ ∧ _ ∧ _ ∧ _ ∧ _ ∧ _ ∧ _ ∧ _ ∧ _ from ⟨e1, e2, e3, e4, e5, e6, e7, e8, e9⟩)
        clear e1 e2 e3 e4 e5 e6 e7 e8 e9
        have HCP := HCP2
        obtain ⟨cbl, hcbl⟩ : ∃ cbl, cb.length = cbl := ⟨_, rfl⟩
        have HDO := Lib.hid hd
        have HB03 := Lib.hid hb03
        have HTW3 := Lib.hid tw3
        have HO3 := Lib.hid ho3
        have HR3 := Lib.hid hr3
        have HN3 := Lib.hid n3
        have HCBL := Lib.hid hcbl
        have HF2 := Lib.hid (fun k hf => tw3.h2.own_lt (k := k) (.inr hf))
        have HWR3 := Lib.hid hb3.size
        obtain ⟨y0, y1, y2, y3, y4, y5⟩ := cl_cells n3
        have hy3 := heap_lt' n3
        have HW3 := Lib.hid hw3
        clear hb2 hw3 n3 hb3 tw3 hb03 hE3 ho3 hr3 h03 hd hcbl HM
        go_wp2_with (first | (rw [HW3.out]) | fail)
        refine HDO.out.mono ?_
        rintro e w4 ⟨hdt, ht4⟩
        obtain ⟨A', c', rfl, hob⟩ := hdt
        unfold rpV rpRow
        dsimp only at hob ⊢
        rw [HCBL.out] at hob ⊢
        obtain ⟨A1', c1', b1', tw4, t4⟩ := HTW3.out.one HB03.out.size ht4 HCP.out
        have n4 := HTW3.out.h1.ph.locO t4 HN3.out (by decide) (by decide) (by decide)
        have ho4 := HTW3.out.h1.ph.ownO t4 HO3.out (by decide) (by decide) (by decide)
        have hb04 := HB03.out.trans (HTW3.out.h1.low HB03.out.size t4)
        have hr4 := (HXB.out.below hb04).more hb04.size
        obtain ⟨w5, hw5⟩ : ∃ w5, w4.alloc (.cells #[.int .i64 ck, .int .u64 (ch : Int), .int .u64 (cn : Int), .slice A' cbl c', .int .i64 (s0 : Int), .int .i64 (s1 : Int), .int .i64 (s2 : Int), .int .i64 (s3 : Int), .int .i64 (s4 : Int)] 45) = w5 := ⟨_, rfl⟩
        have b5 : Below w4.heap.size w4 w5 := by rw [← hw5]; exact (Below.refl _ _).alloc (Nat.le_refl _) _
        have n5 : w5.heap[w4.heap.size]? = some (.cells #[.int .i64 ck, .int .u64 (ch : Int), .int .u64 (cn : Int), .slice A' cbl c', .int .i64 (s0 : Int), .int .i64 (s1 : Int), .int .i64 (s2 : Int), .int .i64 (s3 : Int), .int .i64 (s4 : Int)] 45 (0, 0)) := by rw [← hw5]; exact heap_alloc_new w4 _
        obtain ⟨w6, hw6⟩ : ∃ w6, w5.alloc (.cells #[.int .i64 0, .int .u64 0, .int .u64 0, .slice none 0 0, .int .i64 0, .int .i64 0, .int .i64 0, .int .i64 0, .int .i64 0] 45) = w6 := ⟨_, rfl⟩
        have b6 : Below w5.heap.size w5 w6 := by rw [← hw6]; exact (Below.refl _ _).alloc (Nat.le_refl _) _
        have m6 : w6.heap[w5.heap.size]? = some (.cells #[.int .i64 0, .int .u64 0, .int .u64 0, .slice none 0 0, .int .i64 0, .int .i64 0, .int .i64 0, .int .i64 0, .int .i64 0] 45 (0, 0)) := by rw [← hw6]; exact heap_alloc_new w5 _
        have b46 : Below w4.heap.size w4 w6 := b5.trans (b6.mono b5.size)
        have r6 := (b6.block _ (heap_lt n5)).trans n5
        have n6 := (b46.block _ (heap_lt n4)).trans n4
        have tw6 := tw4.below b46
        have ho6 := own_below' ho4 b46
        have hb06 := hb04.trans (b46.mono hb04.size)
        have hr6 := (hr4.below b46).more b46.size
        have hob6 := own_below' hob b46
        have hk := (show _ from (by have e := hstats_prog tw6.h2.ph; rw [HR1.out] at e; dsimp only [stV] at e; exact e))
        have HKC := Lib.hid hk
        have HTW6 := Lib.hid tw6
        have HO6 := Lib.hid ho6
        have HB06 := Lib.hid hb06
        have HR6 := Lib.hid r6
        have HM6 := Lib.hid m6
        have HOB6 := Lib.hid hob6
        have HW5 := Lib.hid hw5
        have HW6 := Lib.hid hw6
        have HLT := Lib.hid (heap_lt n5)
        have HM6L := Lib.hid (heap_lt m6)
        have HWX := Lib.hid (Nat.le_trans HWR3.out (Nat.le_trans t4.size b5.size))
        have HOB4L := Lib.hid (fun k e => (hob.lt k e).2)
        clear y0 y1 y2 y3 y4 y5 hy3
        obtain ⟨y0, y1, y2, y3, y4, y5⟩ := cl_cells n6
        have hy6 := heap_lt' n6
        obtain ⟨⟨z0, z1, z2, z3, z4, z5, z6, z7, z8⟩, f0, f1, f2, f3, f4, f5, f6, f7, f8⟩ := rp_cells m6
        have hz6 := heap_lt' m6
        obtain ⟨⟨x0, x1, x2, x3, x4, x5, x6, x7, x8⟩, _⟩ := rp_cells r6
        have hx6 := heap_lt' r6
        have N6 := Lib.hid n6
        clear ht4 tw4 t4 n4 ho4 hb04 hr4 hw5 b5 n5 hw6 b6 m6 b46 r6 n6 tw6 ho6 hb06 hr6 hob hob6 hk HDO HTW3 HO3 HB03 HR3 HN3
        go_wp2_with (first | (rw [HW5.out]) | (rw [HW6.out]) | fail)
        refine HKC.out.mono ?_
        rintro e w7 ⟨rfl, hb7⟩
        have ht7 : PTurn g2 16 cap A2 H w6 w7 := HTW6.out.h2.ph.stay hb7
        obtain ⟨A2', c2', b2', tw7, t7⟩ := HTW6.out.two HB06.out.size ht7 HCP2.out
        have hlow7 : Below w.heap.size w6 w7 := HTW6.out.h2.low HB06.out.size t7
        obtain ⟨rfl, rfl, rfl, rfl, rfl, rfl, rfl, rfl, rfl⟩ := HLK.out
        obtain rfl : (0 : Nat) = cbl := HCBL.out
        have r7 := HTW6.out.h2.ph.locO t7 HR6.out (by decide) (by decide) (by decide)
        have m7 := HTW6.out.h2.ph.locO t7 HM6.out (by decide) (by decide) (by decide)
        have ho7 := HTW6.out.h2.ph.ownO t7 HO6.out (by decide) (by decide) (by decide)
        have hob7 := ownR_keep HOB6.out (fun k e => t7.block k (HOB6.out.lt k e).2 (fun hf => by
          have h1 := HF2.out k hf
          have h2 := (HOB6.out.lt k e).1
          omega))
        have hb07 := HB06.out.trans hlow7
        obtain ⟨w8, hw8⟩ : ∃ w8, ((((w7.setCell ⟨w5.heap.size, 4, none⟩ (.int .i64 (v0 : Int))).setCell ⟨w5.heap.size, 5, none⟩ (.int .i64 (v1 : Int))).setCell ⟨w5.heap.size, 6, none⟩ (.int .i64 (v2 : Int))).setCell ⟨w5.heap.size, 7, none⟩ (.int .i64 (v3 : Int))).setCell ⟨w5.heap.size, 8, none⟩ (.int .i64 (v4 : Int)) = w8 := ⟨_, rfl⟩
        have m8 : w8.heap[w5.heap.size]? = some (.cells #[.int .i64 0, .int .u64 0, .int .u64 0, .slice none 0 0, .int .i64 (v0 : Int), .int .i64 (v1 : Int), .int .i64 (v2 : Int), .int .i64 (v3 : Int), .int .i64 (v4 : Int)] 45 (0, 0)) := by rw [← hw8]; exact st_in m7 _ _ _ _ _
        have t8 : Tch (fun k => k = w5.heap.size) w7 w8 := by rw [← hw8]; exact st_tch _ _ _ _ _ _ _
        have HW8 := Lib.hid hw8
        clear hw8
        obtain ⟨w9, hw9⟩ : ∃ w9, w8.setCell ⟨w5.heap.size, 0, none⟩ (.int .i64 0) = w9 := ⟨_, rfl⟩
        have m9 : w9.heap[w5.heap.size]? = some (.cells #[.int .i64 0, .int .u64 0, .int .u64 0, .slice none 0 0, .int .i64 (v0 : Int), .int .i64 (v1 : Int), .int .i64 (v2 : Int), .int .i64 (v3 : Int), .int .i64 (v4 : Int)] 45 (0, 0)) := by rw [← hw9]; exact heap_setCell_same w8 w5.heap.size 0 _ _ _ m8
        have t9 : Tch (fun k => k = w5.heap.size) w8 w9 := by rw [← hw9]; exact Tch.set (S := fun k => k = w5.heap.size) w8 ⟨w5.heap.size, 0, none⟩ _ rfl
        have t79 : Tch (fun k => k = w5.heap.size) w7 w9 := t8.trans t9 (fun _ _ h => h)
        have hne : w4.heap.size ≠ w5.heap.size := fun e => by have h1 := HLT.out; omega
        have r9 := (t79.block _ (heap_lt r7) hne).trans r7
        have hob9 := ownR_keep hob7 (fun k e => t79.block k (hob7.lt k e).2 (fun hs => by
          have hs : k = w5.heap.size := hs
          have h1 := HOB4L.out k e
          have h2 := HLT.out
          omega))
        have hrb9 := Rd.ownR hob9
        have hsm := same_any w9 ⟨0, 0, 0, [], ⟨v0, v1, v2, v3, v4⟩⟩ none A' 0 c' Rd.nil_ hrb9
        unfold rpV rpRow at hsm
        dsimp only [St5.none] at hsm
        rw [show ([] : List UInt8).length = 0 from rfl] at hsm
        have HSM := Lib.hid hsm
        have HT79 := Lib.hid t79
        have HM7 := Lib.hid m7
        have HTWS := Lib.hid tw7
        have HO7 := Lib.hid ho7
        have HB07 := Lib.hid hb07
        have HR9 := Lib.hid r9
        clear z0 z1 z2 z3 z4 z5 z6 z7 z8 f0 f1 f2 f3 f4 f5 f6 f7 f8 hz6
        obtain ⟨⟨z0, z1, z2, z3, z4, z5, z6, z7, z8⟩, f0, f1, f2, f3, f4, f5, f6, f7, f8⟩ := rp_cells m7
        have hz7 := heap_lt' m7
        obtain ⟨⟨a0, a1, a2, a3, a4, a5, a6, a7, a8⟩, d0, d1, d2, d3, d4, d5, d6, d7, d8⟩ := rp_cells m8
        have hz8 := heap_lt' m8
        obtain ⟨⟨e0, e1, e2, e3, e4, e5, e6, e7, e8⟩, _⟩ := rp_cells m9
        have hz9 := heap_lt' m9
        obtain ⟨⟨x0, x1, x2, x3, x4, x5, x6, x7, x8⟩, _⟩ := rp_cells r9
        have hx9 := heap_lt' r9
        have HW9 := Lib.hid hw9
        have HCD := Lib.hid (code_nil w8)
        clear tw7 t7 hlow7 r7 m7 ho7 hob7 hb07 m8 t8 hw9 m9 t9 t79 hne r9 hob9 hsm HTW6 HO6 HB06 HR6 HM6 HOB6 hrb9 HKC ht7
        clear y0 y1 y2 y3 y4 y5 hy6
        go_wp2_with (first | (rw [HW8.out]) | fail)
        refine HCD.out.mono ?_
        rintro e w99 ⟨rfl, rfl⟩
        go_wp2_with (first | (rw [HW9.out]) | fail)
        refine HSM.out.mono ?_
        rintro e w10 ⟨rfl, hb10⟩
        have t710 : Tch (fun k => k = w5.heap.size) w7 w10 := HT79.out.trans (Tch.of_below (S := fun k => k = w5.heap.size) hb10) (fun _ _ h => h)
        have tw10 := HTWS.out.tchO t710 (fun k hk => by
          have hk : k = w5.heap.size := hk
          subst hk
          exact ⟨_, _, HM7.out, by decide, by decide, by decide⟩)
        have ho10 := ownR_keep HO7.out (fun k e => t710.block k (HO7.out.lt k e).2 (fun hs => by
          have hs : k = w5.heap.size := hs
          have h1 := (HOW.out.lt k e).2
          have h2 := HWX.out
          omega))
        have hb010 := HB07.out.trans (t710.below (B := w.heap.size) (fun k hk => by
          have hk : k = w5.heap.size := hk
          have h2 := HWX.out
          have h3 := HBB.out.size
          omega) HB07.out.size)
        have r10 := (hb10.block _ (heap_lt HR9.out)).trans HR9.out
        clear z0 z1 z2 z3 z4 z5 z6 z7 z8 f0 f1 f2 f3 f4 f5 f6 f7 f8 hz7 a0 a1 a2 a3 a4 a5 a6 a7 a8 d0 d1 d2 d3 d4 d5 d6 d7 d8 hz8 e0 e1 e2 e3 e4 e5 e6 e7 e8 hz9 x0 x1 x2 x3 x4 x5 x6 x7 x8 hx9
        obtain ⟨⟨x0, x1, x2, x3, x4, x5, x6, x7, x8⟩, _⟩ := rp_cells r10
        have hx10 := heap_lt' r10
        have HTW10 := Lib.hid tw10
        have HO10 := Lib.hid ho10
        have HB010 := Lib.hid hb010
        clear hb10 t710 tw10 ho10 hb010 r10 HSM HCD HT79 HM7 HTWS HO7 HB07 HR9 HW9
        go_wp2
        go_roundw
        case rel => exact ⟨j + 1, told, At, ct, H, g1, A1', c1', b1', g2, A2', c2', b2', rfl, by go_num, by omega, by omega, H64.out, HO10.out, HTW10.out, HB010.out⟩
        case measure => simp only [intOf]; omega
    · have HFIN := Lib.hid hb
      clear hb htw hown h64
      go_wp2
      go_ret
      exact ⟨rfl, HFIN.out⟩
theorem hc_any (w : World) (hE : ET w) (cap : Int) (hc : -9223372036854775808 ≤ cap ∧ cap ≤ 9223372036854775807) (A : Option Addr) (k : Nat) (l : List Cl) (hL : ClRd w w.heap.size A l) (hm : l.length ≤ maxLen) :
    Calls Tryz.prog 4 #[.int .i64 cap, .slice A l.length k] w fun e w' => e = .returned (.bool true) ∧ Below w.heap.size w w' := by
  by_cases hb : cap < 1024 ∨ 16384 < cap
  · exact hc_bad w cap hc hb A _ k
  · obtain ⟨n, rfl⟩ : ∃ n : Nat, cap = (n : Int) := ⟨cap.toNat, by omega⟩
    cases hs : smallC l 60 with
    | false => exact hc_long w n (by omega) (by omega) A k l hL hm hs
    | true => exact hc_main w hE n (by omega) (by omega) A k l hL hs
end Go.Proofs.YtbldlidpapdkbaaGreatDoor
