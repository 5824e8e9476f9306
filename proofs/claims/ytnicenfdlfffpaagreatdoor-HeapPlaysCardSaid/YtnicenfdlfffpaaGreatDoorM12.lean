/- Texts of mine, joined. -/
import Derived.Test.YtnicenfdlfffpaaGreatDoorM11
set_option maxRecDepth 100000
set_option maxHeartbeats 16000000
namespace Go.Proofs.YtnicenfdlfffpaaGreatDoor
open Go.RowKit
theorem ap4 (w : World) (base : Nat) (hb : base < 18446744073709551616) (cap : Int) (hc : -9223372036854775808 <= cap /\ cap <= 9223372036854775807) (hbad : base % 16 ≠ 0 \/ 4611686018427387904 < base \/ cap < 1024 \/ 16384 < cap) (A : Option Addr) (n k : Nat) (wide : Int) :
 Calls Tryz.prog 3 #[.int .u64 (base : Int), .int .i64 cap, .slice A n k, .int .i64 wide] w fun e w' => e = .returned (.bool true) /\ Below w.heap.size w w' := by
 have HUP := hE0 (ag2 w); have HN := hE0 (fun W => anA W base hb cap hc hbad); have HMY := hE0 (fun W => apr W base cap hbad); clear hbad; go_enter Tryz.func3, Tryz.ntmps3
 go_wp2_with fail
 refine HUP.out.mono ?_; rintro e w1 ⟨rfl, hb1⟩; have HB := hE0 hb1; clear hb1 HUP; go_wp2_with fail
 refine (HN.out w1).mono ?_; rintro e w2 ⟨rfl, rfl⟩; go_wp2_with fail
 refine (HMY.out w1).mono ?_; rintro e w2 ⟨rfl, rfl⟩; dsimp only [an1]; go_wp2_with fail
 refine (aeM w1 1 (by omega) (by omega)).mono ?_; rintro e w2 ⟨rfl, rfl⟩; go_wp2
 go_ret
 exact ⟨rfl, HB.out⟩
theorem apk (w : World) (base cap : Nat) (h1b : base % 16 = 0) (h2b : base <= 4611686018427387904) (h1 : 1024 <= cap) (h2 : cap <= 16384) (A : Option Addr) (k : Nat) (l : List Cl) (hL : ClRd w w.heap.size A l) (hm : l.length <= maxLen) (hs : adi l 80 = false) (wide : Int) :
 Calls Tryz.prog 3 #[.int .u64 (base : Int), .int .i64 (cap : Int), .slice A l.length k, .int .i64 wide] w fun e w' => e = .returned (.bool true) /\ Below w.heap.size w w' := by
 unfold maxLen at hm; have HUP := hE0 (ag2 w); have HN := hE0 (fun W => afr W base cap h1b h2b h1 h2); have HMY := hE0 (fun W => akI W base cap h1b h2b h1 h2); have hsm := fun W (hb : Below w.heap.size w W) => ah1 W A k l ((fun hn => by
  obtain ⟨b, o, e, hB, hc⟩ := (hL.below hb) hn; exact ⟨b, o, e, Nat.lt_of_lt_of_le hB hb.size, fun j x hx => by
   obtain ⟨y1, y2, y3⟩ := hc j x hx; exact ⟨y1, y2.more hb.size, y3⟩⟩ : ClRd W W.heap.size A l)) (by omega) 80 (by omega)
 rw [hs] at hsm; have HSM := hE0 hsm; obtain ⟨n, hn⟩ := nmE l.length; rw [hn] at HSM hm ⊢; clear hsm hs hL hn; go_enter Tryz.func3, Tryz.ntmps3
 go_wp2_with fail
 refine HUP.out.mono ?_; rintro e w1 ⟨rfl, hb1⟩; have HB := hE0 hb1; clear hb1 HUP; go_wp2_with fail
 refine (HN.out w1).mono ?_; intro e w2 hm2; obtain ⟨q1, g1, A1, c1, b1, rfl, hv1, hb2⟩ := hm2.hv; have HB2 := hE0 (HB.out.trans (hb2.mono HB.out.size)); clear hm2 hv1 hb2 HB; go_wp2_with fail
 refine (HMY.out w2).mono ?_; rintro e w3 ⟨rfl, rfl⟩; go_wp2_with fail
 refine (HSM.out w2 HB2.out).mono ?_; rintro e w4 ⟨rfl, rfl⟩; go_wp2
 go_ret
 exact ⟨rfl, HB2.out⟩
theorem apl (w : World) (hE : ET w) (base cap : Nat) (h1b : base % 16 = 0) (h2b : base <= 4611686018427387904) (h1 : 1024 <= cap) (h2 : cap <= 16384) (A : Option Addr) (k : Nat) (l : List Cl) (hL : ClRd w w.heap.size A l) (hs : adi l 80 = true) (wide : Int) (hwd : -9223372036854775808 <= wide /\ wide <= 9223372036854775807) :
 Calls Tryz.prog 3 #[.int .u64 (base : Int), .int .i64 (cap : Int), .slice A l.length k, .int .i64 wide] w fun e w' => e = .returned (.bool true) /\ Below w.heap.size w w' := by
 have hs' := hs; unfold adi at hs'; rw [Bool.and_eq_true, List.all_eq_true] at hs'; have hl80 : l.length <= 80 := of_decide_eq_true hs'.1; have HSB : Hid (∀ x ∈ l, x.b.length <= 2000) := fun x hx => of_decide_eq_true (hs'.2 x hx); have HUP := hE0 (ag2 w); have HN := hE0 (fun W => afr W base cap h1b h2b h1 h2); have HMY := hE0 (fun W => akI W base cap h1b h2b h1 h2); have HNM := hE0 (fun W => amO W cap); have hsm := fun W (hb : Below w.heap.size w W) => ah1 W A k l ((fun hn => by
  obtain ⟨b, o, e, hB, hc⟩ := (hL.below hb) hn; exact ⟨b, o, e, Nat.lt_of_lt_of_le hB hb.size, fun j x hx => by
   obtain ⟨y1, y2, y3⟩ := hc j x hx; exact ⟨y1, y2.more hb.size, y3⟩⟩ : ClRd W W.heap.size A l)) (by omega) 80 (by omega)
 rw [hs] at hsm; have HSM := hE0 hsm; obtain ⟨n, hn⟩ := nmE l.length; rw [hn] at HSM hl80 ⊢; have HNL := hE0 hn; have HL := hE0 hL; have HE := hE0 hE; clear hsm hs hs' hL hn hE; go_enter Tryz.func3, Tryz.ntmps3
 go_wp2_with fail
 refine HUP.out.mono ?_; rintro e w1 ⟨rfl, hb1⟩; have HB := hE0 hb1; clear hb1 HUP; go_wp2_with fail
 refine (HN.out w1).mono ?_; intro e w2 hm2; obtain ⟨q, g, A1, c1, b1, rfl, hv1, hb2⟩ := hm2.hv; have HB2 := hE0 (HB.out.trans (hb2.mono HB.out.size)); have HV1 := hE0 (hv1.less HB.out.size); clear hm2 hv1 hb2 HB; go_wp2_with fail
 refine (HMY.out w2).mono ?_; rintro e w3 ⟨rfl, rfl⟩; go_wp2_with fail
 refine (HSM.out w2 HB2.out).mono ?_; rintro e w3 ⟨rfl, rfl⟩; go_wp2_with fail
 refine (HNM.out w2).mono ?_; rintro e w3 ⟨p, rfl, hm3, hb3⟩; obtain ⟨F, G, hpw⟩ := Pw.made HV1.out hm3 hb3 HB2.out.size; have HB3 := hE0 (HB2.out.trans (hb3.mono HB2.out.size)); have HPW := hE0 hpw; clear hm3 hb3 hpw HV1 HB2 HSM HN HMY HNM; go_wp2
 go_loopw [14, 15] (fun t i wr => ∃ (j : Nat) (told : List Nat) (At : Option Addr) (ct : Nat) (H : Hp) (A1 : Option Addr) (c1 : Nat) (b1 : List UInt8) (F G : Nat -> Prop), t = .slice At told.length ct /\ i = .int .i64 (j : Int) /\ j <= n /\ told.length <= j /\ (∀ v ∈ told, v < 18446744073709551616) /\ wr.ownsRow w.heap.size 22 1 (.slice At told.length ct) told.length (told.map uV) /\ (∀ k, (Value.slice At told.length ct).ownBlock = some k -> ¬ (F k \/ G k)) /\ Pw w.heap.size wr q g base cap A1 c1 b1 H F G p H /\ Below w.heap.size w wr) (fun _ i _ => n - (intOf i).toNat)
 case atStart => exact ⟨0, [], none, 0, adQ cap, A1, c1, b1, F, G, rfl, rfl, Nat.zero_le _, Nat.le_refl _, (fun v hv => by cases hv), World.ownsRow_nil _ _ _ _, (fun k hk => by cases hk), HPW.out, HB3.out⟩
 case round =>
  clear HPW HB3; obtain ⟨j, told, At, ct, H, A1, c1, b1, F, G, rfl, rfl, hj, htl, h64, hown, htk, hpw, hb⟩ := hrel; by_cases hlt : j < n
  · obtain ⟨x, hx⟩ : ∃ x, l[j]? = some x := ⟨l[j]'(by rw [HNL.out]; exact hlt), List.getElem?_eq_getElem _⟩; obtain ⟨b, o, hA, hbB, hcx⟩ := (HL.out.below hb) (by rw [HNL.out]; omega); subst hA; obtain ⟨⟨i0, i1, i2, i3, i4, i5, i6⟩, hxr, hok⟩ := hcx j x hx; have hxr0 := ((HL.out (by rw [HNL.out]; omega))); obtain ⟨b', o', hA', _, hcx0⟩ := hxr0; have HXB := hE0 (hcx0 j x hx).2.1; clear hcx hcx0 hA' hxr; have hbl2 := HSB.out x (List.mem_of_getElem? hx); obtain ⟨o9, ho9⟩ := nmE (agc x); obtain ⟨p9, hp⟩ := nmE (agb x told); have hp64 : p9 < 18446744073709551616 := by rw [<- hp]; exact al7 x told hok.2.2.1
    have ho9l : o9 < 9 := by rw [<- ho9]; exact ah0 x
    have hM := ama wr x hok At ct told w.heap.size (Tl.own hown) (by omega) h64; rw [ho9, hp] at hM; obtain ⟨_, _, hh, hn, hm, ha, _⟩ := hok; obtain ⟨wh, xo, xh, xn, xm, xa, xA, xc, xb⟩ := x; dsimp only at i0 i1 i2 i3 i4 i5 i6 hM hbl2 hh hn hm ha HXB; obtain ⟨bl, hbl⟩ := nmE xb.length; rw [hbl] at i6 hM hbl2; have HBLN := hE0 hbl; have HPW := hE0 hpw; have HOW := hE0 hown; have HTK := hE0 htk; have H64 := hE0 h64; have HBB := hE0 hb; unfold aa6 at hM; clear hx hb hpw hown htk h64 hbl ho9 hp hh; have HM := hE0 hM; clear hM; go_wp2_with fail
    refine HM.out.mono ?_; rintro e w2 ⟨rfl, hb2⟩; obtain ⟨w3, hw3⟩ := nmE (w2.alloc (.cells #[.int .i64 (o9 : Int), .int .u64 (p9 : Int), .int .u64 (xn : Int), .int .u64 (xm : Int), .int .u64 (xa : Int), .slice xA bl xc] 38)); have n3 := anE hw3; have hb3 : Below wr.heap.size wr w3 := by rw [<- hw3]; exact hb2.alloc hb2.size _
    have pw3 := HPW.out.below hb3; have hb03 := HBB.out.trans (hb3.mono HBB.out.size); have hE3 := HE.out.keep (hb03.block 0 HE.out.lt); have ho3 := aay HOW.out hb3; have hr3 := ((HXB.out.below hb03).more hb03.size); have h03 : ¬ abg g A1 0 := fun hf => by
     have h1 := pw3.hv.fB hf; have h2 := HE.out.lt; omega
    have hd := aph pw3.hv.ph hE3 h03 o9 ho9l p9 xn xm xa bl xc xA xb hp64 hn hm ha HBLN.out hr3 (by omega); have hcap1 : (H.doC (o9 : Int) p9 xn xm xa xb).2.cap = cap := (apj ho9l).trans pw3.hv.ph.cp; have hch := ap3 pw3.hv.ph.rd (by rw [pw3.hv.ph.cp]; exact pw3.hv.ph.c16) ho9l p9 xn xm xa xb; obtain ⟨dc, hdc⟩ := nmE (H.doC (o9 : Int) p9 xn xm xa xb); rw [hdc] at hd hcap1 hch; have HDC := hE0 hdc; obtain ⟨⟨ck, ch, cn, cb, ⟨s0, s1, s2, s3, s4⟩⟩, H1⟩ := dc; unfold aa6 at hd; dsimp only at hd hcap1 hch; obtain ⟨cbl, hcbl⟩ := nmE cb.length; have HDO := hE0 hd; have HCP := hE0 hcap1; have HCH := hE0 hch; have HB03 := hE0 hb03; have HPW3 := hE0 pw3; have HO3 := hE0 ho3; have HN3 := hE0 n3; have HCBL := hE0 hcbl; have HFG : Hid (∀ k, F k \/ G k -> k < wr.heap.size) := fun k hk => HPW.out.hd.fg_lt hk; have HWR2 := hE0 hb2.size; have HWR3 := hE0 hb3.size; have HBG : Hid (∀ x, xA = some x -> 0 < xb.length -> ¬ G x.block) := fun x hx h0 hg => by
     obtain ⟨b9, o9, e9, l9, _⟩ := HXB.out.2 h0; rw [hx] at e9; injection e9 with e9; subst e9; have h1 := HPW.out.lo _ (.inr hg); dsimp only at h1; omega
    obtain ⟨y0, y1, y2, y3, y4, y5⟩ := aaB n3; have hy3 := aaa n3; have HW3 := hE0 hw3; clear hb2 hw3 n3 hb3 pw3 hb03 hE3 ho3 hr3 h03 hd hcap1 hch hdc hcbl HM; go_wp2_with (first | (rw [HW3.out]) | fail)
    refine HDO.out.mono ?_; rintro e w4 ⟨hdt, ht4⟩; obtain ⟨A', c', rfl, hob⟩ := hdt; unfold rpV aek; dsimp only at hob ⊢; rw [HCBL.out] at hob ⊢; obtain ⟨A1', c1', b1', pw4, t4⟩ := HPW3.out.one HB03.out.size ht4 HCP.out; have n4 := HPW3.out.hv.ph.locO t4 HN3.out (by decide) (by decide) (by decide); have ho4 := HPW3.out.hv.ph.ownO t4 HO3.out (by decide) (by decide) (by decide); have hb04 := HB03.out.trans (HPW3.out.hv.low HB03.out.size t4); have h34 : w3.heap.size <= w4.heap.size := t4.size; obtain ⟨w5, hw5⟩ := nmE (w4.alloc (.cells #[.int .i64 ck, .int .u64 (ch : Int), .int .u64 (cn : Int), .slice A' cbl c', .int .i64 (s0 : Int), .int .i64 (s1 : Int), .int .i64 (s2 : Int), .int .i64 (s3 : Int), .int .i64 (s4 : Int)] 45)); have b5 := abE hw5; have n5 := anE hw5; have m5 := (b5.block _ (aab n4)).trans n4; have pw5 := pw4.below b5; have ho5 := aay ho4 b5; have hob5 := aay hob b5; have hb05 := hb04.trans (b5.mono hb04.size); have hr5 := (HXB.out.below hb05).more hb05.size; have hm5 := api (out := b1') pw5.hd HPW.out.hv.ph.rd (by rw [HPW.out.hv.ph.cp]; exact HPW.out.hv.ph.c16) o9 ho9l p9 xn xm xa bl xc xA xb (by rw [HDC.out]; exact pw5.hv.ph.rd) (by rw [HDC.out]; dsimp only; rw [HCP.out]; exact HPW.out.hv.ph.c16) hp64 hn ha HBLN.out hr5 (by omega) HBG.out; rw [HDC.out] at hm5; unfold acs aa6 at hm5; dsimp only at hm5; have HMD := hE0 hm5; have HPW5 := hE0 pw5; have HO5 := hE0 ho5; have HOB5 := hE0 hob5; have HB05 := hE0 hb05; have HN5 := hE0 n5; have HM5 := hE0 m5; have H34 := hE0 h34; have HL4 := hE0 (aab n4); have HOLT5 := hE0 b5.size; have HOBL := hE0 (fun k e => hob.lt k e); have HW5 := hE0 hw5; clear y0 y1 y2 y3 y4 y5 hy3; obtain ⟨y0, y1, y2, y3, y4, y5⟩ := aaB m5; have hy5 := aaa m5; clear ht4 pw4 t4 n4 ho4 hb04 h34 hw5 b5 n5 m5 pw5 ho5 hob hob5 hb05 hr5 hm5 HDO HPW3 HO3 HB03 HN3; go_wp2_with (first | (rw [HW5.out]) | fail)
    refine HMD.out.mono ?_; rintro e w6 ⟨⟨A'', c'', rfl, hob6⟩, H2, ht6, hs6⟩; unfold rpV aek; dsimp only at hob6 hs6 ⊢; rw [HCBL.out] at hob6 ⊢; obtain ⟨F', G', pw6', t6, f6⟩ := HPW5.out.two HB05.out.size ht6; have pw6 := pw6'.same hs6.symm; have hb06 := HB05.out.trans (t6.below (B := w.heap.size) (fun k hk => HPW5.out.lo k hk) HB05.out.size); have ho6 := acb HO5.out (fun k e => t6.block k (HO5.out.lt k e).2 (fun hf => HTK.out k e hf)); have hob65 := acb HOB5.out (fun k e => t6.block k (HOB5.out.lt k e).2 (fun hf => by
     have h1 := HFG.out k hf; have h2 := (HOBL.out k e).1; have h3 := HWR3.out; omega))
    have n6 := (t6.block _ (aab HN5.out) (fun hf => by
     have h1 := HFG.out _ hf; have h3 := HWR3.out; have h4 := H34.out; omega)).trans HN5.out
    obtain ⟨w7, hw7⟩ := nmE (w6.alloc (.cells #[.int .i64 ck, .int .u64 (ch : Int), .int .u64 (cn : Int), .slice A'' cbl c'', .int .i64 (s0 : Int), .int .i64 (s1 : Int), .int .i64 (s2 : Int), .int .i64 (s3 : Int), .int .i64 (s4 : Int)] 45)); have b7 := abE hw7; have n7 := anE hw7; have m7 := (b7.block _ (aab n6)).trans n6; have pw7 := pw6.below b7; have ho7 := aay ho6 b7; have q1 := aay hob65 b7; have q2 := aay hob6 b7; have hb07 := hb06.trans (b7.mono hb06.size); have hsm7 := anJ w7 ⟨ck, ch, cn, cb, ⟨s0, s1, s2, s3, s4⟩⟩ A' A'' c' c'' (by dsimp only; rw [HCBL.out]; exact Rd.ownR q1) (by dsimp only; rw [HCBL.out]; exact Rd.ownR q2); unfold rpV aek at hsm7; dsimp only at hsm7; rw [HCBL.out] at hsm7; have htk7 : ∀ k, (Value.slice At told.length ct).ownBlock = some k -> ¬ (F' k \/ G' k) := fun k e hf => by
     rcases f6 k hf with h' | h'
     · exact HTK.out k e h'
     · have h1 := (HOW.out.lt k e).2; have h2 := HWR3.out; have h3 := H34.out; have h4 := HL4.out; have h5 := HOLT5.out; omega
    have HSM7 := hE0 hsm7; have HPW7 := hE0 pw7; have HO7 := hE0 ho7; have HB07 := hE0 hb07; have HTK7 := hE0 htk7; have HM7 := hE0 m7; have HW7 := hE0 hw7; clear y0 y1 y2 y3 y4 y5 hy5; obtain ⟨⟨z0, z1, z2, z3, z4, z5, z6, z7, z8⟩, _⟩ := aah m7; have hz7 := aaa m7; obtain ⟨⟨x0, x1, x2, x3, x4, x5, x6, x7, x8⟩, _⟩ := aah n7; have hx7 := aaa n7; clear hob6 ht6 hs6 pw6' t6 f6 pw6 hb06 ho6 hob65 n6 hw7 b7 n7 m7 pw7 ho7 q1 q2 hb07 hsm7 htk7 HMD HPW5 HO5 HOB5 HB05 HN5 HM5; go_wp2_with (first | (rw [HW7.out]) | fail)
    refine HSM7.out.mono ?_; rintro e w8 ⟨rfl, hb8⟩; have n8 := (hb8.block _ (aab HM7.out)).trans HM7.out; clear z0 z1 z2 z3 z4 z5 z6 z7 z8 hz7 x0 x1 x2 x3 x4 x5 x6 x7 x8 hx7; obtain ⟨⟨z0, z1, z2, z3, z4, z5, z6, z7, z8⟩, _⟩ := aah n8; have hz8 := aaa n8; have HPW8 := hE0 (HPW7.out.below hb8); have HO8 := hE0 (aay HO7.out hb8); have HB08 := hE0 (HB07.out.trans (hb8.mono HB07.out.size)); clear hb8 n8 HM7 HSM7 HPW7 HO7 HB07; by_cases hch0 : ch = 0
    · have gz : ((ch : Int) != 0) = false := by rw [bne_eq_false_iff_eq]; omega
      clear hch0; go_wp2
      go_roundw
      case rel => exact ⟨j + 1, told, At, ct, H2, A1', c1', b1', F', G', rfl, by go_num, by omega, by omega, H64.out, HO8.out, HTK7.out, HPW8.out, HB08.out⟩
      case measure => simp only [intOf]; omega
    · have gz : ((ch : Int) != 0) = true := by rw [bne_iff_ne]; omega
      obtain ⟨w9, hw9⟩ := nmE (w8.alloc (.cells #[.int .u64 (ch : Int)] 22)); have b9 := abE hw9; have n9 := anE hw9; have c9 : w9.cell? ⟨w8.heap.size, 0, none⟩ = some (uV ch) := by rw [cell_of_row w9 _ 0 _ _ (0, 0) n9]; rfl
      have HO9 := hE0 (aay HO8.out b9); have HPW9 := hE0 (HPW8.out.below b9); have HB09 := hE0 (HB08.out.trans (b9.mono HB08.out.size)); have HC9 := hE0 c9; have HW9 := hE0 hw9; have H641 : Hid (∀ v ∈ told ++ [ch], v < 18446744073709551616) := fun v hv => by
       rcases List.mem_append.1 hv with h | h
       · exact H64.out v h
       · simp at h; rw [h]; exact HCH.out
      clear hch0 hw9 b9 n9 c9; go_wp2_with (first
       | (rw [HW9.out])
       | (at_builtin; go_must (refine afE rfl _ _ rfl w.heap.size _ told.length told rfl HO9.out ⟨w8.heap.size, 0, none⟩ 1 ch rfl HC9.out (by omega) HB09.out.size ?_); intro x12 w12 own12 gr12 lie12;
          have HX12 : Hid (w12.ownsRow w.heap.size 22 1 x12 (told.length + 1) ((told ++ [ch]).map uV) /\ w9.grownBy w12 (Value.slice At told.length ct).ownBlock /\ (x12.ownBlock = (Value.slice At told.length ct).ownBlock \/ x12.ownBlock = some w9.heap.size)) := ⟨own12, gr12, lie12⟩; clear own12 gr12 lie12)
       | fail)
      go_roundw
      case rel =>
       obtain ⟨own12, gr12, lie12⟩ := HX12.out; obtain ⟨A12, c12, rfl⟩ := aa0 own12; have tg : Tch (fun k => (Value.slice At told.length ct).ownBlock = some k) w9 w12 := Tch.grown gr12 (fun k e => e); refine ⟨j + 1, told ++ [ch], A12, c12, H2, A1', c1', b1', F', G', by rw [List.length_append, List.length_singleton], by go_num, by omega, by rw [List.length_append, List.length_singleton]; omega, H641.out, by rw [List.length_append, List.length_singleton]; exact own12, fun k e hf => ?_, HPW9.out.tchO tg (fun k hk => apg HO9.out hk) (fun k hk => HTK7.out k hk), HB09.out.trans (tg.below (fun k hk => (HO9.out.lt k hk).1) HB09.out.size)⟩; rw [List.length_append, List.length_singleton] at e; rcases lie12 with h' | h'
       · rw [h'] at e; exact HTK7.out k e hf
       · rw [h'] at e; injection e with e; have h1 := HPW9.out.hd.fg_lt hf; omega
      case measure => simp only [intOf]; omega
  · have HFIN := hE0 hb; have HPW := hE0 hpw; clear hb hpw hown h64 htk; have HAR := hE0 (aey HPW.out.hv.ph); have HRT := hE0 HPW.out.hv.ph.rd.rt; have HCAP := hE0 HPW.out.hv.ph.cp; have HDL := hE0 HPW.out.hv.ph.rd.dl; have HOK := hE0 (HRT.out.ok (by rw [HCAP.out]; exact h2) HDL.out); go_wp2_with fail
    refine HAR.out.mono ?_; rintro e w2 ⟨g2, A2, c2, rfl, a2, hb2, k1, k2⟩; have hal := HPW.out.al HFIN.out a2 hb2 k1 k2; have HSAME := hE0 (aej afw anR ajG hal HRT.out HCAP.out h2b h2 HDL.out); obtain ⟨Vb, Vd, gl, cs, hmm⟩ := hal.hm; have hlen := aa8 hmm (by have := HOK.out.le; omega) (by have := HOK.out.n; omega); have hlen2 := abX a2; have eL := HRT.out.lenE; obtain ⟨nb, hnb⟩ := nmE b1.length; rw [hnb] at hlen2 eL; rw [eL] at hlen; have HLEN := hE0 hlen; have HLEN2 := hE0 hlen2; have HBASE := hE0 (acu a2); have HPW2 := hE0 (HPW.out.below hb2); have HFIN2 := hE0 (HFIN.out.trans (hb2.mono HFIN.out.size)); clear hal hmm hlen hlen2 eL hnb a2 hb2 k1 k2 HAR HPW HFIN; go_wp2_with fail
    refine HBASE.out.mono ?_; rintro e w3 ⟨rfl, rfl⟩; go_wp2_with fail
    refine HLEN2.out.mono ?_; rintro e w3 ⟨rfl, rfl⟩; go_wp2_with fail
    refine HLEN.out.mono ?_; rintro e w3 ⟨rfl, rfl⟩; go_wp2_with fail
    refine HSAME.out.mono ?_; rintro e w3 ⟨rfl, hb3⟩; have HPW3 := hE0 (HPW2.out.below hb3); have HFIN3 := hE0 (HFIN2.out.trans (hb3.mono HFIN2.out.size)); have HRB := hE0 (ahY HPW3.out.hv.ph); clear hb3 HPW2 HFIN2 HSAME HBASE HLEN HLEN2; go_wp2_with fail
    refine HRB.out.mono ?_; rintro e w4 ⟨rfl, out, hbe, hrt4⟩; have hc4 : H.rebuild.cap = cap := (acQ H).2.2.trans HCAP.out; have hlen4 : out.length <= cap := by rw [<- hc4]; exact hrt4.len
    obtain ⟨H0, hr0, hc0⟩ := apG hrt4.chk hlen4; obtain ⟨A4, c4, pw4, t4⟩ := HPW3.out.became HFIN3.out.size hbe hr0 hc0; have HFIN4 := hE0 (HFIN3.out.trans (HPW3.out.hv.low HFIN3.out.size t4)); obtain ⟨Vb, Vd, gl, cs, hm4⟩ := pw4.hd.hm; have HRM := hE0 (ank hm4 HOK.out); have HPW4 := hE0 pw4; have HRT4 := hE0 hrt4; have HR0 := hE0 hr0; have HC4 := hE0 hc4; have HC0 := hE0 hc0; have HDL4 : Hid H.rebuild.Dl := (show H.rebuild.ds.length = H.rebuild.blks.length by rw [(acQ H).1, (acQ H).2.1]; exact HDL.out); clear hbe hrt4 hc4 hlen4 hr0 hc0 pw4 t4 hm4 HRB HPW3 HFIN3 HRT HCAP HDL HOK; go_wp2_with fail
    refine HRM.out.mono ?_; rintro e w5 ⟨rfl, ht5⟩; obtain ⟨F5, G5, pw5, t5, _⟩ := HPW4.out.reb HFIN4.out.size ht5; have HFIN5 := hE0 (HFIN4.out.trans (HPW4.out.low HFIN4.out.size t5)); have HPW5 := hE0 pw5; clear ht5 pw5 t5 HRM HPW4 HFIN4; by_cases hw : (cap : Int) <= wide /\ wide <= 16384
    · obtain ⟨nw, rfl⟩ : ∃ nw : Nat, wide = (nw : Int) := ⟨wide.toNat, by omega⟩; have n1 : cap <= nw := by omega
      have n2 : nw <= 16384 := by omega
      have HWI := hE0 (aki HPW5.out.hv.ph nw n1 n2); clear hw; go_wp2_with fail
      refine HWI.out.mono ?_; rintro e w6 ⟨rfl, ht6⟩; dsimp only [af5]; obtain ⟨A6, c6, out6, pw6, t6⟩ := HPW5.out.wide HFIN5.out.size ht6 n2; have HFIN6 := hE0 (HFIN5.out.trans (HPW5.out.hv.low HFIN5.out.size t6)); obtain ⟨pw7, t7⟩ := pw6.mcap nw; obtain ⟨Vb, Vd, gl, cs, hm6⟩ := pw6.hd.hm; have k0 := hm6.c0; rw [HC4.out] at k0; have hpl := hm6.lt; have fz := frozen_of_row w6 p 0 _ _ hm6.obj; obtain ⟨w7, hw7⟩ := nmE (w6.setCell ⟨p, 0, none⟩ (.int .i64 (nw : Int))); rw [hw7] at pw7 t7; have HFIN7 := HFIN6.out.trans (t7.below (B := w.heap.size) (fun k hk => pw6.lo k hk) HFIN6.out.size); obtain ⟨wd, hwd'⟩ : ∃ wd, w7.drew = wd := ⟨_, rfl⟩; have hbd : Below w7.heap.size w7 wd := by rw [<- hwd']; exact (Below.refl _ _).drew
      have pwd := pw7.below hbd; have HFIND := hE0 (HFIN7.trans (hbd.mono HFIN7.size)); obtain ⟨Vb2, Vd2, gl2, cs2, hmd⟩ := pwd.hd.hm; have kd := hmd.c0; have hpld := hmd.lt; have kd : wd.cell? ⟨p, 0, none⟩ = some (.int .i64 (nw : Int)) := kd; have HAR := hE0 (aey pwd.hv.ph); have HPWD := hE0 pwd; have HW7 := hE0 hw7; have HWD := hE0 hwd'; have g1 : decide ((cap : Int) <= (nw : Int)) = true := decide_eq_true (by omega); have g2 : decide ((nw : Int) <= 16384) = true := decide_eq_true (by omega); have HE0 := hE0 (Rt.alike HRT4.out HR0.out.rt); clear ht6 pw6 t6 pw7 t7 hm6 hw7 HFIN7 hwd' hbd pwd hmd HWI HPW5 HFIN5 HFIN6; go_wp2_with (first | (rw [HW7.out]) | fail)
      refine aaf wd.heap.size [([0, 1, 2, 3, 4, 5, 6, 7, 8, 9, 10, 11, 12, 13, 14, 15, 16], 17), ([18, 19, 20, 21, 22, 24], 23), ([], 25)] [26, 27, 28] [] (by kernel_rfl) (by kernel_rfl) (by kernel_rfl) (fun _ _ _ _ _ h => h) ?_; rw [HWD.out]; have q0 := tfE kd hpld; refine aaj (l := ?segY1) ?hsegY1 ?_
      case hsegY1 => simp only [pick, lE1, lE2, lE3]; rfl
      repeat (go_big_quiet_step (fail))
      refine wpQuiet_nil ?_; clear q0 kd; refine adJ rfl (some 158) rfl rfl ⟨wd.heap.size, Nat.le_refl _, ?_⟩; simp only [Act.put, lE4, lE5, lE6]; refine aaj (l := ?segY2) ?hsegY2 ?_
      case hsegY2 => simp only [pick, lE1, lE2, lE3]; rfl
      repeat (go_big_quiet_step (fail))
      refine wpQuiet_nil ?_; refine aam (vs := #[.pointer (some ⟨q, 0, none⟩)]) Tryz.call14 rfl rfl rfl (R := fun r w' => ∃ g' A' c', r = .pointer (some ⟨g', 0, none⟩) /\ Al w w' g' base nw A' c' out6 F5 p (H.rebuild.capped nw) /\ Below wd.heap.size wd w') (HAR.out.mono ?_) wd.heap.size (Nat.le_refl _) ?_
      · rintro e w8 ⟨g8, A8, c8, rfl, a8, hb8, l1, l2⟩; exact ⟨_, rfl, hb8, g8, A8, c8, rfl, HPWD.out.al HFIND.out a8 hb8 l1 l2, hb8⟩
      rintro r w8 _ ⟨g8, A8, c8, rfl, al8, hb8⟩; simp only [Act.put, lE4, lE5, lE6]; refine aaj (l := []) rfl (wpQuiet_nil ?_); have hrt8 : Rt out6 (H.rebuild.capped nw) := HPWD.out.hv.ph.rd.rt.swap HE0.out.1.symm (fun d hd => (HE0.out.2 d hd).symm) (by have := HPWD.out.hv.ph.rd.rt.len; exact this); refine aam (vs := #[.pointer (some ⟨g8, 0, none⟩), .pointer (some ⟨p, 0, none⟩)]) Tryz.call18 rfl rfl rfl (R := fun r w' => r = .int .i64 1 /\ Below w8.heap.size w8 w') ((aej afw anR ajG al8 hrt8 rfl h2b n2 HDL4.out).mono ?_) wd.heap.size (Nat.le_refl _) ?_
      · rintro e w9 ⟨rfl, hb9⟩; exact ⟨_, rfl, hb9.mono hb8.size, rfl, hb9⟩
      rintro r w9 _ ⟨rfl, hb9⟩; have HF9 := hE0 (HFIND.out.trans ((hb8.trans (hb9.mono hb8.size)).mono HFIND.out.size)); clear hb8 al8 hrt8 hb9; simp only [Act.put, lE4, lE5, lE6]; refine aap (l := ?lastY) (t := []) ?hlastY ?htlastY ?_
      case hlastY => simp only [pick, lE1, lE2, lE3]; rfl
      case htlastY => rfl
      repeat (go_big_quiet_step (fail))
      refine wpQuiet_nil ?_; go_wp2
      go_ret
      exact ⟨rfl, HF9.out⟩
    · have hbw : wide < (cap : Int) \/ 16384 < wide := by omega
      have HWI := hE0 (al3 HPW5.out.hv.ph wide hbw); go_wp2_with fail
      refine HWI.out.mono ?_; rintro e w6 ⟨rfl, rfl⟩; dsimp only [an1]; obtain ⟨wd, hwd'⟩ : ∃ wd, w5.drew = wd := ⟨_, rfl⟩; have hbd : Below w5.heap.size w5 wd := by rw [<- hwd']; exact (Below.refl _ _).drew
      have pwd := HPW5.out.below hbd; have HFIND := hE0 (HFIN5.out.trans (hbd.mono HFIN5.out.size)); obtain ⟨Vb, Vd, gl, cs, hm5⟩ := HPW5.out.hd.hm; have k0 := hm5.c0; have hpl := hm5.lt; obtain ⟨Vb2, Vd2, gl2, cs2, hmd⟩ := pwd.hd.hm; have kd := hmd.c0; have hpld := hmd.lt; rw [HC4.out] at k0 kd; have HAR := hE0 (aey pwd.hv.ph); have HPWD := hE0 pwd; have HWD := hE0 hwd'; have HE0 := hE0 (Rt.alike HRT4.out HR0.out.rt); have hne : decide ((cap : Int) = wide) = false := decide_eq_false (by omega); have hne2 : ((cap : Int) == wide) = false := by rw [beq_eq_false_iff_ne]; omega
      clear hwd' hbd pwd hm5 hmd HWI HPW5 HFIN5; by_cases hlo : (cap : Int) <= wide
      · have g1 : decide ((cap : Int) <= wide) = true := decide_eq_true hlo; have g2 : decide (wide <= (16384 : Int)) = false := decide_eq_false (by omega); go_wp2_with fail
        refine aaf wd.heap.size [([0, 1, 2, 3, 4, 5, 6, 7, 8, 9, 10, 11, 12, 13, 14, 15, 16], 17), ([18, 19, 20, 21, 22, 24], 23), ([], 25)] [26, 27, 28] [] (by kernel_rfl) (by kernel_rfl) (by kernel_rfl) (fun _ _ _ _ _ h => h) ?_; rw [HWD.out]; have q0 := tfE kd hpld; refine aaj (l := ?segZ11) ?hsegZ11 ?_
        case hsegZ11 => simp only [pick, lE1, lE2, lE3]; rfl
        repeat (go_big_quiet_step (fail))
        refine wpQuiet_nil ?_; clear q0 kd; refine aam (vs := #[.iface 67 (.int .i64 1)]) Tryz.call7 rfl rfl rfl (R := fun r w' => r = .int .i64 1 /\ w' = wd) ((aeM wd 1 (by omega) (by omega)).mono ?_) wd.heap.size (Nat.le_refl _) ?_
        · rintro e w7 ⟨rfl, rfl⟩; exact ⟨_, rfl, Below.refl _ _, rfl, rfl⟩
        rintro r w7 _ ⟨rfl, rfl⟩; simp only [Act.put, lE4, lE5, lE6]; refine aaj (l := ?segZ12) ?hsegZ12 ?_
        case hsegZ12 => simp only [pick, lE1, lE2, lE3]; rfl
        repeat (go_big_quiet_step (fail))
        refine wpQuiet_nil ?_; refine aam (vs := #[.pointer (some ⟨q, 0, none⟩)]) Tryz.call14 rfl rfl rfl (R := fun r w' => ∃ g' A' c', r = .pointer (some ⟨g', 0, none⟩) /\ Al w w' g' base cap A' c' out F5 p H.rebuild /\ Below w7.heap.size w7 w') (HAR.out.mono ?_) w7.heap.size (Nat.le_refl _) ?_
        · rintro e w8 ⟨g8, A8, c8, rfl, a8, hb8, l1, l2⟩; exact ⟨_, rfl, hb8, g8, A8, c8, rfl, HPWD.out.al HFIND.out a8 hb8 l1 l2, hb8⟩
        rintro r w8 _ ⟨g8, A8, c8, rfl, al8, hb8⟩; simp only [Act.put, lE4, lE5, lE6]; refine aaj (l := []) rfl (wpQuiet_nil ?_); refine aam (vs := #[.pointer (some ⟨g8, 0, none⟩), .pointer (some ⟨p, 0, none⟩)]) Tryz.call18 rfl rfl rfl (R := fun r w' => r = .int .i64 1 /\ Below w8.heap.size w8 w') ((aej afw anR ajG al8 HRT4.out HC4.out h2b h2 HDL4.out).mono ?_) w7.heap.size (Nat.le_refl _) ?_
        · rintro e w9 ⟨rfl, hb9⟩; exact ⟨_, rfl, hb9.mono hb8.size, rfl, hb9⟩
        rintro r w9 _ ⟨rfl, hb9⟩; have HF9 := hE0 (HFIND.out.trans ((hb8.trans (hb9.mono hb8.size)).mono HFIND.out.size)); clear hb8 al8 hb9; simp only [Act.put, lE4, lE5, lE6]; refine aap (l := ?lastZ1) (t := []) ?hlastZ1 ?htlastZ1 ?_
        case hlastZ1 => simp only [pick, lE1, lE2, lE3]; rfl
        case htlastZ1 => rfl
        repeat (go_big_quiet_step (fail))
        refine wpQuiet_nil ?_; go_wp2
        go_ret
        exact ⟨rfl, HF9.out⟩
      · have g1 : decide ((cap : Int) <= wide) = false := decide_eq_false hlo; go_wp2_with fail
        refine aaf wd.heap.size [([0, 1, 2, 3, 4, 5, 6, 7, 8, 9, 10, 11, 12, 13, 14, 15, 16], 17), ([18, 19, 20, 21, 22, 24], 23), ([], 25)] [26, 27, 28] [] (by kernel_rfl) (by kernel_rfl) (by kernel_rfl) (fun _ _ _ _ _ h => h) ?_; rw [HWD.out]; have q0 := tfE kd hpld; refine aaj (l := ?segZ21) ?hsegZ21 ?_
        case hsegZ21 => simp only [pick, lE1, lE2, lE3]; rfl
        repeat (go_big_quiet_step (fail))
        refine wpQuiet_nil ?_; clear q0 kd; refine aam (vs := #[.iface 67 (.int .i64 1)]) Tryz.call7 rfl rfl rfl (R := fun r w' => r = .int .i64 1 /\ w' = wd) ((aeM wd 1 (by omega) (by omega)).mono ?_) wd.heap.size (Nat.le_refl _) ?_
        · rintro e w7 ⟨rfl, rfl⟩; exact ⟨_, rfl, Below.refl _ _, rfl, rfl⟩
        rintro r w7 _ ⟨rfl, rfl⟩; simp only [Act.put, lE4, lE5, lE6]; refine aaj (l := ?segZ22) ?hsegZ22 ?_
        case hsegZ22 => simp only [pick, lE1, lE2, lE3]; rfl
        repeat (go_big_quiet_step (fail))
        refine wpQuiet_nil ?_; refine aam (vs := #[.pointer (some ⟨q, 0, none⟩)]) Tryz.call14 rfl rfl rfl (R := fun r w' => ∃ g' A' c', r = .pointer (some ⟨g', 0, none⟩) /\ Al w w' g' base cap A' c' out F5 p H.rebuild /\ Below w7.heap.size w7 w') (HAR.out.mono ?_) w7.heap.size (Nat.le_refl _) ?_
        · rintro e w8 ⟨g8, A8, c8, rfl, a8, hb8, l1, l2⟩; exact ⟨_, rfl, hb8, g8, A8, c8, rfl, HPWD.out.al HFIND.out a8 hb8 l1 l2, hb8⟩
        rintro r w8 _ ⟨g8, A8, c8, rfl, al8, hb8⟩; simp only [Act.put, lE4, lE5, lE6]; refine aaj (l := []) rfl (wpQuiet_nil ?_); refine aam (vs := #[.pointer (some ⟨g8, 0, none⟩), .pointer (some ⟨p, 0, none⟩)]) Tryz.call18 rfl rfl rfl (R := fun r w' => r = .int .i64 1 /\ Below w8.heap.size w8 w') ((aej afw anR ajG al8 HRT4.out HC4.out h2b h2 HDL4.out).mono ?_) w7.heap.size (Nat.le_refl _) ?_
        · rintro e w9 ⟨rfl, hb9⟩; exact ⟨_, rfl, hb9.mono hb8.size, rfl, hb9⟩
        rintro r w9 _ ⟨rfl, hb9⟩; have HF9 := hE0 (HFIND.out.trans ((hb8.trans (hb9.mono hb8.size)).mono HFIND.out.size)); clear hb8 al8 hb9; simp only [Act.put, lE4, lE5, lE6]; refine aap (l := ?lastZ2) (t := []) ?hlastZ2 ?htlastZ2 ?_
        case hlastZ2 => simp only [pick, lE1, lE2, lE3]; rfl
        case htlastZ2 => rfl
        repeat (go_big_quiet_step (fail))
        refine wpQuiet_nil ?_; go_wp2
        go_ret
        exact ⟨rfl, HF9.out⟩
theorem ap5 (w : World) (hE : ET w) (base : Nat) (hb : base < 18446744073709551616) (cap : Int) (hc : -9223372036854775808 <= cap /\ cap <= 9223372036854775807) (A : Option Addr) (k : Nat) (l : List Cl) (hL : ClRd w w.heap.size A l) (hm : l.length <= maxLen) (wide : Int) (hw : -9223372036854775808 <= wide /\ wide <= 9223372036854775807) :
 Calls Tryz.prog 3 #[.int .u64 (base : Int), .int .i64 cap, .slice A l.length k, .int .i64 wide] w fun e w' => e = .returned (.bool true) /\ Below w.heap.size w w' := by
 by_cases hbad : base % 16 ≠ 0 \/ 4611686018427387904 < base \/ cap < 1024 \/ 16384 < cap
 · exact ap4 w base hb cap hc hbad A _ k wide
 · obtain ⟨n, rfl⟩ : ∃ n : Nat, cap = (n : Int) := ⟨cap.toNat, by omega⟩
   cases hs : adi l 80 with
   | false => exact apk w base n (by omega) (by omega) (by omega) (by omega) A k l hL hm hs wide
   | true => exact apl w hE base n (by omega) (by omega) (by omega) (by omega) A k l hL hs wide hw
end Go.Proofs.YtnicenfdlfffpaaGreatDoor
