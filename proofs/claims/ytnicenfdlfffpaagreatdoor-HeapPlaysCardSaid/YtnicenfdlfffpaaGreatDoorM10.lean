/- Texts of mine, joined. -/
import Derived.Great.BuildSlice
import Derived.Test.YtnicenfdlfffpaaGreatDoorM9
set_option maxRecDepth 100000
set_option maxHeartbeats 4000000
namespace Go.Proofs.YtnicenfdlfffpaaGreatDoor
open Go.RowKit
section
variable {F : Nat -> Prop} {w w' : World} {p : Nat} {H : Hp} {Vb Vd : Value} {gl : Nat} {cs : List Value}
theorem ai0 (h : Hm F w p H Vb Vd gl cs) (hl : lenB H.blks <= 100000) (hn : H.blks.length <= 100000) (hsz : ∀ x ∈ H.blks, 16 <= x.size) :
 Calls Tryz.prog 40 #[.pointer (some ⟨p, 0, none⟩)] w fun e w' => e = .returned (stV H.stats) /\ Below w.heap.size w w' := by
 have hst : H.stats = ⟨(aa2 H.blks).1, (aa2 H.blks).2.1, (aa2 H.blks).2.2, lenB H.blks, H.cap⟩ := rfl; rw [hst]; obtain ⟨A, cV, rfl⟩ := aa0 h.ob; have HLEN := hE0 (fun (W : World) (hW : Below w.heap.size w W) => aa8 (h.below hW) hl hn); have k0 := h.c0; have hlp : p < w.heap.size := aab h.obj; have hsum : abh H.blks <= 100000 := by unfold lenB at hl; omega
 obtain ⟨n, hN⟩ := nmE (lenB H.blks); obtain ⟨cap, hC⟩ := nmE H.cap; rw [hN] at HLEN hl ⊢; rw [hC] at k0 ⊢; obtain ⟨l, hL⟩ := nmE H.blks; obtain ⟨ln, hLN⟩ := nmE l.length; have HOB : Hid (∀ W, Below w.heap.size w W -> W.ownsRow 0 81 3 (.slice A ln cV) ln (aaU l) /\ W.cell? ⟨p, 1, none⟩ = some (.slice A ln cV)) := fun W hW => by
  have h1 := h.below hW; have e1 := h1.ob; have e2 := h1.c1; rw [hL, hLN] at e1 e2; exact ⟨e1, e2⟩
 rw [hL] at hn hsz hsum ⊢; rw [hLN] at hn; have HLN := hE0 hLN; have HSZ := hE0 hsz; obtain ⟨z1, hz1⟩ := nmE ((aa2 l).1); obtain ⟨z2, hz2⟩ := nmE ((aa2 l).2.1); obtain ⟨z3, hz3⟩ := nmE ((aa2 l).2.2); rw [hz1, hz2, hz3]; have HZ := hE0 (show (aa2 l).1 = z1 /\ (aa2 l).2.1 = z2 /\ (aa2 l).2.2 = z3 from ⟨hz1, hz2, hz3⟩); obtain ⟨w1, hw1⟩ := nmE (w.alloc (.cells #[.int .i64 0, .int .i64 0, .int .i64 0, .int .i64 0, .int .i64 0] 43)); obtain ⟨wd, hwd⟩ := nmE w1.drew; have hbd1 : Below w.heap.size w wd := by rw [<- hwd, <- hw1]; exact ((Below.refl _ _).alloc (Nat.le_refl _) _).drew
 have n1 : wd.heap[w.heap.size]? = some (.cells #[.int .i64 0, .int .i64 0, .int .i64 0, .int .i64 0, .int .i64 0] 43 (0, 0)) := by rw [<- hwd, <- hw1]; exact heap_alloc_new w _
 have hlq := Nat.lt_of_lt_of_le hlp hbd1.size; have k1 : wd.cell? ⟨p, 0, none⟩ = some (.int .i64 (cap : Int)) := (hbd1.cell (p := ⟨p, 0, none⟩) hlp).trans k0; have HW1 := hE0 hw1; have HWD := hE0 hwd; have HB1 := hE0 hbd1; have HN1 := hE0 n1; clear h hst hL hLN hz1 hz2 hz3 hw1 hwd hbd1 n1 hN hC k0 hsz; go_enter Tryz.func40, Tryz.ntmps40
 go_wp2_with (first | (rw [HW1.out]) | fail)
 refine Code.wp_mono (Q := fun ex a' w' => ex = .normal /\ ∃ pn, wd.heap.size <= pn /\ Below wd.heap.size wd w' /\ w'.heap[pn]? = some (.cells (afD 0 0 0 n cap) 43 (0, 0)) /\ a' = { tmps := #[.pointer (some ⟨p, 0, none⟩), undef, .pointer (some ⟨w.heap.size, 0, none⟩), .pointer (some ⟨pn, 0, none⟩), undef, .pointer (some ⟨p, 0, none⟩), .int .i64 (n : Int), .pointer (some ⟨p, 0, none⟩), .pointer (some ⟨p, 0, none⟩), .pointer (some ⟨p, 0, none⟩), .int .i64 (cap : Int), .agg #[.int .i64 0, .int .i64 0, .int .i64 0, .int .i64 (n : Int), .int .i64 (cap : Int)], undef, undef, undef, undef, undef, undef, undef, undef, undef, undef, undef, undef, undef, undef, undef, undef, undef, undef, undef, undef, undef, undef, undef, undef, undef, undef, undef, undef, undef, undef, undef, undef, undef, undef, undef, undef, undef, undef, undef], defers := [] }) ?cont ?reg
 case reg =>
  refine aan wd.heap.size (.two [0, 2, 3, 4, 5] 1 (.one [6] 7 (.fin [])) 7 (.one [] 1 (.fin [6]))) [8] (by kernel_rfl) (by kernel_rfl) (by kernel_rfl) (fun _ _ _ _ _ h => absurd h.1 (by nofun)) ?_; rw [HWD.out]; have q0 := tfE k1 hlq; refine aci (l := ?seg1) ?hseg1 ?_
  case hseg1 => simp only [pick, lE1, lE2, lE3]; rfl
  repeat (go_big_quiet_step (fail))
  refine wpQuiet_nil ?_; clear q0 k1; refine ⟨?wayA, ?wayC⟩
  case wayA =>
   refine aam (vs := #[.pointer (some ⟨p, 0, none⟩)]) Tryz.call17 rfl rfl rfl (R := fun r w' => r = .int .i64 (n : Int) /\ w' = wd) ((HLEN.out wd HB1.out).mono ?_) wd.heap.size (Nat.le_refl _) ?_
   · rintro e w' ⟨rfl, rfl⟩; exact ⟨_, rfl, Below.refl _ _, rfl, rfl⟩
   rintro r w3 _ ⟨rfl, rfl⟩; refine aau (l := ?seg2) ?hseg2 ?_
   case hseg2 => simp only [pick, lE1, lE2, lE3]; rfl
   simp only [Act.put, lE4, lE5, lE6]; repeat (go_big_quiet_step (fail))
   refine wpQuiet_nil ?_; refine aaA (some 3) rfl rfl rfl (adw _ _ rfl w3) ((Below.refl _ _).alloc (Nat.le_refl _) _) ⟨w3.heap.size, Nat.le_refl _, ?_⟩; simp only [Act.put, lE4, lE5, lE6]; refine aaO (l := []) (t := ?tl2) rfl ?htl2 (wpQuiet_nil ?_)
   case htl2 => simp only [pick, lE1, lE2, lE3]; rfl
   go_wp2
   exact ⟨w3.heap.size, Nat.le_refl _, (Below.refl _ _).alloc (Nat.le_refl _) _, heap_alloc_new w3 _, rfl⟩
  case wayC =>
   refine aaA (some 3) rfl rfl rfl (adw _ _ rfl wd) ((Below.refl _ _).alloc (Nat.le_refl _) _) ⟨wd.heap.size, Nat.le_refl _, ?_⟩; simp only [Act.put, lE4, lE5, lE6]; obtain ⟨w3, hw3⟩ := nmE (wd.alloc (.cells #[.int .i64 0, .int .i64 0, .int .i64 0, .int .i64 0, .int .i64 0] 43)); have hb3 := abE hw3; have n3 := anE hw3; rw [hw3]; have hb03 := HB1.out.trans (hb3.mono HB1.out.size); refine aau (l := []) rfl (wpQuiet_nil ?_); refine aam (vs := #[.pointer (some ⟨p, 0, none⟩)]) Tryz.call17 rfl rfl rfl (R := fun r w' => r = .int .i64 (n : Int) /\ w' = w3) ((HLEN.out w3 hb03).mono ?_) wd.heap.size (Nat.le_refl _) ?_
   · rintro e w' ⟨rfl, rfl⟩; exact ⟨_, rfl, Below.refl _ _, rfl, rfl⟩
   rintro r w4 _ ⟨rfl, rfl⟩; refine aaO (l := ?la4) (t := ?tl4) ?hla4 ?htl4 ?_
   case hla4 => simp only [pick, lE1, lE2, lE3]; rfl
   case htl4 => simp only [pick, lE1, lE2, lE3]; rfl
   simp only [Act.put, lE4, lE5, lE6]; repeat (go_big_quiet_step (fail))
   refine wpQuiet_nil ?_; obtain ⟨⟨c0, c1, c2, c3, c4⟩, f0, f1, f2, f3, f4⟩ := abV n3; have hlt3 := aab n3; have HB3 := hE0 hb3; have HN3 := hE0 n3; clear hw3 hb3 n3 hb03; go_wp2
   exact ⟨wd.heap.size, Nat.le_refl _, ((((HB3.out.setCell (Nat.le_refl _) _).setCell (Nat.le_refl _) _).setCell (Nat.le_refl _) _).setCell (Nat.le_refl _) _).setCell (Nat.le_refl _) _, ahV HN3.out _ _ _ _ _, rfl⟩
 case cont =>
  rintro ex a' w2 ⟨rfl, pn, hp, hb2, n2, rfl⟩; have HB3 := hE0 (HB1.out.trans (hb2.mono HB1.out.size)); have HN3 := hE0 n2; have HNR3 := hE0 ((hb2.block w.heap.size (aab HN1.out)).trans HN1.out); have HPW := hE0 (show pn ≠ w.heap.size from fun e => by have := aab HN1.out; omega); have HPG := hE0 (show w.heap.size <= pn from Nat.le_trans HB1.out.size hp); have hpl3 := aab n2; clear n2 hb2 hp HB1 HN1 HLEN HW1 HWD hlq k1; go_wp2
  go_loopw [4] (fun t wr => ∃ j : Nat, t = .int .i64 (j : Int) /\ j <= ln /\ Tch (fun k => k = pn) w2 wr /\ wr.heap[pn]? = some (.cells (afD (aa2 (l.take j)).1 (aa2 (l.take j)).2.1 (aa2 (l.take j)).2.2 n cap) 43 (0, 0))) (fun t _ => ln - (intOf t).toNat)
  case atStart => exact ⟨0, rfl, Nat.zero_le _, Tch.refl _ _, by rw [List.take_zero]; exact HN3.out⟩
  case round =>
   obtain ⟨j, rfl, hj, ht, hr⟩ := hrel; have hle := aeR (l.take j); have hsb := acP l j; have hlt0 : (l.take j).length <= 100000 := by rw [List.length_take]; have := HLN.out; omega
   have nR := (ht.block w.heap.size (aab HNR3.out) (Ne.symm HPW.out)).trans HNR3.out; have hfin : Below w.heap.size w wr := HB3.out.trans (ht.below (fun k hk => by rw [hk]; exact HPG.out) HB3.out.size); obtain ⟨hob, hc1⟩ := HOB.out wr hfin; by_cases hlt : j < ln
   · obtain ⟨x, hx⟩ : ∃ x, l[j]? = some x := ⟨l[j]'(by rw [HLN.out]; exact hlt), List.getElem?_eq_getElem _⟩; have htk : l.take (j + 1) = l.take j ++ [x] := by
      rw [List.take_add_one, hx]; rfl
     have hsn := af7 (l.take j) x; rw [<- htk] at hsn; have hsz := HSZ.out x (List.mem_of_getElem? hx); have hle2 := aeR (l.take (j + 1)); have hsb2 := acP l (j + 1); have hsx := ahu hx; obtain ⟨b2, c2, hV, hb2, _, hnc, _, _⟩ := ada (HOB.out w (Below.refl _ _)).1 hx; injection hV with hV1 _ hV3; subst hV1 hV3; obtain ⟨b3, c3, hV, _, _, _, ⟨r0, r1, r2⟩, _⟩ := ada hob hx; injection hV with hV1 _ hV3; injection hV1 with hV1; injection hV1 with hV1; subst hV1 hV3; obtain ⟨xo, xs, xu⟩ := x; dsimp only at r0 r1 r2 hsz hsn hsx; obtain ⟨s1, hs1⟩ := nmE ((aa2 (l.take j)).1); obtain ⟨s2, hs2⟩ := nmE ((aa2 (l.take j)).2.1); obtain ⟨s3, hs3⟩ := nmE ((aa2 (l.take j)).2.2); rw [hs1, hs2, hs3] at hr hle hsn; have hS : Hid (s1 <= 100000 /\ s2 <= 100000 /\ s3 <= 100000 /\ xs <= 100000) := (show _ from ⟨by omega, by omega, by omega, by omega⟩); obtain ⟨hs1', hs2', hs3', hxs⟩ := hS.out; have hltp := aab hr; obtain ⟨⟨v0, v1, v2, v3, v4⟩, f0, f1, f2, f3, f4⟩ := abV hr; have hbp : b2 ≠ pn := fun e => by have := HPG.out; omega
     have hji : (j : Int) < (ln : Int) := by omega
     cases xu with
     | true =>
      rw [if_pos rfl] at hsn; obtain ⟨s5, hs5⟩ := nmE (s1 + 1); obtain ⟨s7, hs7⟩ := nmE (s3 + xs); obtain ⟨s6, hs6⟩ := nmE (s3 + (xs - 16)); have e5 : (s1 : Int) + 1 = (s5 : Int) := by omega
      have e7 : (s3 : Int) + (xs : Int) = (s7 : Int) := by omega
      have e6 : (s7 : Int) - 16 = (s6 : Int) := by omega
      rw [hs5, hs6] at hsn; have HSN := hE0 hsn; have hs5' : s5 <= 100001 := by omega
      have hs6' : s6 <= 200000 := by omega
      have hs7' : s7 <= 200000 := by omega
      obtain ⟨w5, hw5⟩ := nmE (wr.setCell ⟨pn, 0, none⟩ (.int .i64 (s5 : Int))); obtain ⟨we, hwe⟩ := nmE w5.drew; have r5 : we.heap[pn]? = some (.cells (afD s5 s2 s3 n cap) 43 (0, 0)) := by
       rw [<- hwe, <- hw5]; exact heap_setCell_same wr pn 0 _ _ (.int .i64 (s5 : Int)) hr
      have T5 : Tch (fun k => k = pn) w2 we := by
       rw [<- hwe, <- hw5]; exact (ht.trans (Tch.set (S := fun k => k = pn) wr ⟨pn, 0, none⟩ _ rfl) (fun _ _ h => h)).drew
      have hfe : Below w.heap.size w we := HB3.out.trans (T5.below (fun k hk => by rw [hk]; exact HPG.out) HB3.out.size); obtain ⟨hoe, g1⟩ := HOB.out we hfe; obtain ⟨b3, c3, hV, hb3, _, _, ⟨_, g2, _⟩, _⟩ := ada hoe hx; injection hV with hV1 _ hV3; injection hV1 with hV1; injection hV1 with hV1; subst hV1 hV3; obtain ⟨⟨u0, u1, u2, u3, u4⟩, y0, y1, y2, y3, y4⟩ := abV r5; have hlp5 := Nat.lt_of_lt_of_le hlp hfe.size; have hltp5 := aab r5; have HW5 := hE0 hw5; have HWE := hE0 hwe; have HFN : Hid (Tch (fun k => k = pn) w2 (we.setCell ⟨pn, 2, none⟩ (.int .i64 (s6 : Int))) /\ (we.setCell ⟨pn, 2, none⟩ (.int .i64 (s6 : Int))).heap[pn]? = some (.cells (afD s5 s2 s6 n cap) 43 (0, 0))) :=
       ⟨T5.trans (Tch.set (S := fun k => k = pn) we ⟨pn, 2, none⟩ _ rfl) (fun _ _ h => h), heap_setCell_same we pn 2 _ _ (.int .i64 (s6 : Int)) r5⟩
      clear hx htk hsn hsz hob hoe hr hs1 hs2 hs3 hle hsb hlt0 hle2 hsb2 nR hfin hS hw5 hwe r5 T5 hs5 hs6 hs7 ht hfe hsx; go_wp2_with (first | (rw [HW5.out]) | fail)
      refine aaf we.heap.size [] [0, 1, 2, 3, 4, 5, 6, 7, 8, 9, 10, 11, 12] [13] (by kernel_rfl) (by kernel_rfl) (by kernel_rfl) (fun _ _ _ _ _ h => h) ?_; rw [HWE.out]; have x0 := tfE u2 hltp5; have x1 := tfE g1 hlp5; have x2 := tfE g2 hb3; refine aap (l := ?la6) (t := ?tl6) ?hla6 ?htl6 ?_
      case hla6 => simp only [pick, lE1, lE2, lE3]; rfl
      case htl6 => simp only [pick, lE1, lE2, lE3]; rfl
      repeat (go_big_quiet_step (fail))
      refine wpQuiet_nil ?_; go_wp2
      go_roundw
      case rel => exact ⟨j + 1, by go_num, by omega, HFN.out.1, by rw [HSN.out]; exact HFN.out.2⟩
      case measure => simp only [intOf]; omega
     | false =>
      rw [if_neg (by decide)] at hsn; obtain ⟨s5, hs5⟩ := nmE (s2 + 1); have e5 : (s2 : Int) + 1 = (s5 : Int) := by omega
      rw [hs5] at hsn; have HSN := hE0 hsn; have hs5' : s5 <= 100001 := by omega
      have HFN : Hid (Tch (fun k => k = pn) w2 (wr.setCell ⟨pn, 1, none⟩ (.int .i64 (s5 : Int))) /\ (wr.setCell ⟨pn, 1, none⟩ (.int .i64 (s5 : Int))).heap[pn]? = some (.cells (afD s1 s5 s3 n cap) 43 (0, 0))) :=
       ⟨ht.trans (Tch.set (S := fun k => k = pn) wr ⟨pn, 1, none⟩ _ rfl) (fun _ _ h => h), heap_setCell_same wr pn 1 _ _ (.int .i64 (s5 : Int)) hr⟩
      clear hx htk hsn hsz hob hr hs1 hs2 hs3 hle hsb hlt0 hle2 hsb2 nR hfin hS hs5 ht hsx; go_wp2
      go_roundw
      case rel => exact ⟨j + 1, by go_num, by omega, HFN.out.1, by rw [HSN.out]; exact HFN.out.2⟩
      case measure => simp only [intOf]; omega
   · have htl : l.take j = l := List.take_of_length_le (by have := HLN.out; omega); rw [htl, HZ.out.1, HZ.out.2.1, HZ.out.2.2] at hr; obtain ⟨⟨v0, v1, v2, v3, v4⟩, _⟩ := abV hr; obtain ⟨⟨c0, c1, c2, c3', c4⟩, f0, f1, f2, f3, f4⟩ := abV nR; have hltr := aaa nR; have hltp := aaa hr; have NR := hE0 nR; have HF := hE0 hfin; clear hr hle hsb hlt0 ht nR hfin htl hob; go_wp2
     (try simp only [Exit.inBlock, Exit.then])
     refine alU (g := w.heap.size) (x0 := (z1 : Int)) (x1 := (z2 : Int)) (x2 := (z3 : Int)) (x3 := (n : Int)) (x4 := (cap : Int)) Tryz.results40 ?_ ?_ (ahV NR.out _ _ _ _ _) ?_
     · rfl
     · rfl
     · exact ⟨rfl, ((((HF.out.setCell (Nat.le_refl _) _).setCell (Nat.le_refl _) _).setCell (Nat.le_refl _) _).setCell (Nat.le_refl _) _).setCell (Nat.le_refl _) _⟩
end
section
variable {F G : Nat -> Prop} {w w' : World} {p : Nat} {H : Hp}
theorem Hd.at_i (h : Hd F G w p H) (hok : H.Ok) {i : Nat} (hi : i < H.blks.length) : ∃ b2 c2 A c, w.cell? ⟨p, 2, none⟩ = some (.slice (some ⟨b2, 0, none⟩) H.blks.length c2) /\ p < w.heap.size /\ b2 < w.heap.size /\ H.blks.length <= c2 /\ w.cell? ⟨b2, i, none⟩ = some (.slice A (H.ds.getD i aaR).2.length c) /\
 (H.ds.getD i aaR).1 = .slice A (H.ds.getD i aaR).2.length c /\ H.ds.getD i aaR ∈ H.ds /\ (A = none -> (H.ds.getD i aaR).2 = [] /\ c = 0) /\ (∀ x, A = some x -> ∃ b, x = ⟨b, 0, none⟩ /\ G b /\ b < w.heap.size /\ w.ownsRow 0 5 1 (.slice A (H.ds.getD i aaR).2.length c) (H.ds.getD i aaR).2.length ((H.ds.getD i aaR).2.map bv)) := by
 obtain ⟨Vb, Vd, gl, cs, hmm⟩ := h.hm; obtain ⟨b2, c2, rfl, _, hnc2, _⟩ := aav hmm.od (by rw [hok.dl]; omega); have q2 := hmm.c2; have hod := hmm.od; have hb2l : b2 < w.heap.size := own_lt hod rfl; have hdl := hok.dl; obtain ⟨dv, k2, k3⟩ := aaW hod (j := i) (by omega); obtain ⟨dd, hdd⟩ := nmE (H.ds.getD i aaR); have hddm : dd ∈ H.ds /\ dv = dd.1 := by
  rw [List.getElem?_map] at k3; rw [List.getD_eq_getElem?_getD] at hdd
  cases h' : H.ds[i]? with
  | none => rw [h'] at k3; cases k3
  | some y =>
   rw [h'] at k3 hdd; injection k3 with k3; have hdd : y = dd := hdd; subst hdd; exact ⟨List.mem_of_getElem? h', k3.symm⟩
 obtain ⟨hddm, rfl⟩ := hddm; rw [hdd]; have hdat := h.dat dd hddm; obtain ⟨V, D⟩ := dd; dsimp only at hdat k2 ⊢; rw [hdl] at q2 hnc2; rcases hdat with ⟨rfl, rfl⟩ | ⟨b, c, rfl, hg, ho⟩
 · exact ⟨b2, c2, none, 0, q2, hmm.lt, hb2l, hnc2, k2, rfl, hddm, fun _ => ⟨rfl, rfl⟩, (fun x hx => by cases hx)⟩
 · exact ⟨b2, c2, some ⟨b, 0, none⟩, c, q2, hmm.lt, hb2l, hnc2, k2, rfl, hddm, (fun e => by cases e), (fun x hx => ⟨b, (Option.some.inj hx).symm, hg, h.gl b hg, ho⟩)⟩
def acs (F G : Nat -> Prop) (w : World) (p : Nat) (r : Rp × Hp) (e : Ending) (w' : World) : Prop := adx r.1 w e w' /\ ∃ H', Ht F G w p H' w' /\ H'.str = r.2.str
theorem aez (w : World) : (Instr.buildSlice 36 0 #[]).run Tryz.prog w = .ok (.slice (some ⟨w.heap.size, 0, none⟩) 0 0) (w.alloc (.cells #[] 5)) := by
 simp [go_sem]
theorem an5 {n size c : Nat} {t : TypeId} {A : Option Addr} {xs : List Value} (h : w.ownsRow 0 t size (.slice A n c) n xs) : n <= c := by
 rcases h.2 with ⟨_, h0⟩ | ⟨b, c', cur, e, _, _, hnc, _⟩
 · omega
 · injection e with _ _ e3; omega
theorem aba {w w3 : World} (h : Below w.heap.size w w3) {g : Nat} (hg : w.heap.size <= g) (x0 x1 x2 x3 x4 x5 x6 x7 x8 : Value) : Below w.heap.size w (ad1 w3 g x0 x1 x2 x3 x4 x5 x6 x7 x8) :=
 h.trans ((aaE w3 g x0 x1 x2 x3 x4 x5 x6 x7 x8).below (fun k hk => by rw [hk]; exact hg) h.size)
theorem ahZ (h : Hd F G w p H) (hok : H.Ok) (op : Int) (q n m a : Nat) (B : Option Addr) (b : List UInt8) (k : Nat) (hop : op = 5 \/ op = 6) (hq : q < 18446744073709551616) (hn : n < 18446744073709551616) (ha : a < 18446744073709551616)
 (hD : ∀ i, H.handleB q = some i -> (H.ds.getD i aaR).2.length <= 100000) :
 Calls Tryz.prog 39 #[.pointer (some ⟨p, 0, none⟩), aa6 op q n m a B b.length k] w fun e w' => acs F G w p (H.heldC op q n a b) e w' := by
 unfold aa6; obtain ⟨w1, hw1⟩ := nmE (w.alloc (.cells #[.int .i64 op, .int .u64 (q : Int), .int .u64 (n : Int), .int .u64 (m : Int), .int .u64 (a : Int), .slice B b.length k] 38)); obtain ⟨w2, hw2⟩ := nmE (w1.alloc (.cells rp0 45)); have hb1 := abE hw1; have n1 := anE hw1; have hb2 := abE hw2; have n2 := anE hw2; have m2 := (hb2.block w.heap.size (aab n1)).trans n1; obtain ⟨k0, k1, k2, k3, k4, k5⟩ := aaB m2; have hl1 := aaa m2; have hlr := aaa n2; have hb02 := hb1.trans (hb2.mono hb1.size); have HG := hE0 hb1.size; have h2 := h.below hb02; obtain ⟨Vb, Vd, gl, cs, hmm⟩ := h2.hm; have hn512 := hok.n; obtain ⟨x, hx⟩ := nmE (H.handleB q); have HHD := hE0 (adf hmm (by omega) q hq x hx); unfold rp0 at hw2 n2; obtain ⟨⟨z0, z1, z2, z3, z4, z5, z6, z7, z8⟩, f0, f1, f2, f3, f4, f5, f6, f7, f8⟩ := aah n2; have HW1 := hE0 hw1; have HW2 := hE0 hw2; have HN2 := hE0 n2; have HB2 := hE0 hb02; have H0 := hE0 h; clear hw1 hw2 n1 m2 n2 hb1 hb2 hb02 hmm
 cases x with
 | none =>
  have e : H.heldC op q n a b = (Rp.err 4, H) := by unfold Hp.heldC; rw [hx]
  rw [e]; have MF := hE0 (aa7 HN2.out (.int .i64 4) (.int .u64 0) (.int .u64 0) (.slice none 0 0) (.int .i64 0) (.int .i64 0) (.int .i64 0) (.int .i64 0) (.int .i64 0)); have BF := hE0 (aba HB2.out HG.out (.int .i64 4) (.int .u64 0) (.int .u64 0) (.slice none 0 0) (.int .i64 0) (.int .i64 0) (.int .i64 0) (.int .i64 0) (.int .i64 0)); clear hx h h2 e; go_enter Tryz.func39, Tryz.ntmps39
  go_wp2_with (first | (rw [HW1.out]) | (rw [HW2.out]) | fail)
  refine HHD.out.mono ?_; rintro e w3 ⟨rfl, rfl⟩; dsimp only [ixV]; go_wp2
  (try simp only [Exit.inBlock, Exit.then])
  refine aaN (g := w1.heap.size) Tryz.results39 ?_ ?_ MF.out ?_
  · rfl
  · rfl
  · exact ⟨⟨none, 0, rfl, World.ownsRow_nil _ _ _ _⟩, H, Ht.of H0.out BF.out, rfl⟩
 | some i =>
  have hi : i < H.blks.length := by
   obtain ⟨_, _, hu⟩ := abO hx; exact (abe hu).1
  obtain ⟨b2, c2, A, c, d0, d1, d2, d3, d4, _, _, d5, d6⟩ := h2.at_i hok hi; have hDi := hD i hx; unfold Hp.heldC; rw [hx]; dsimp only; obtain ⟨D, hDD⟩ := nmE ((H.ds.getD i aaR).2); rw [hDD] at d4 d5 d6 hDi ⊢; obtain ⟨L, hL⟩ := nmE D.length; rw [hL] at d4 d6 hDi ⊢; obtain ⟨ln, hln⟩ := nmE H.blks.length; rw [hln] at d0 d3 hi hn512; have hii : (i : Int) < (ln : Int) := by omega
  have hi0 : decide ((i : Int) < 0) = false := decide_eq_false (by omega); have HL := hE0 hL; have HD6 := hE0 d6; have HD5 := hE0 d5; clear h h2 hx hD d5 d6 hL hDD hln; by_cases h5 : op = 5
  · subst h5; rw [if_pos rfl]; have MF := hE0 (aa7 HN2.out (.int .i64 0) (.int .u64 0) (.int .u64 (L : Int)) (.slice none 0 0) (.int .i64 0) (.int .i64 0) (.int .i64 0) (.int .i64 0) (.int .i64 0)); have BF := hE0 (aba HB2.out HG.out (.int .i64 0) (.int .u64 0) (.int .u64 (L : Int)) (.slice none 0 0) (.int .i64 0) (.int .i64 0) (.int .i64 0) (.int .i64 0) (.int .i64 0)); clear hop; go_enter Tryz.func39, Tryz.ntmps39
    go_wp2_with (first | (rw [HW1.out]) | (rw [HW2.out]) | fail)
    refine HHD.out.mono ?_; rintro e w3 ⟨rfl, rfl⟩; dsimp only [ixV]; go_wp2
    (try simp only [Exit.inBlock, Exit.then])
    refine aaN (g := w1.heap.size) Tryz.results39 ?_ ?_ MF.out ?_
    · rfl
    · rfl
    · exact ⟨⟨none, 0, rfl, World.ownsRow_nil _ _ _ _⟩, H, Ht.of H0.out BF.out, rfl⟩
  · obtain rfl : op = 6 := by omega
    rw [if_neg (by decide), if_neg (show ¬ (6 : Int) = 7 by decide)]; by_cases hA : L < a
    · have hf : L < a + n := by omega
      rw [if_pos hf]; have MF := hE0 (aa7 HN2.out (.int .i64 2) (.int .u64 0) (.int .u64 0) (.slice none 0 0) (.int .i64 0) (.int .i64 0) (.int .i64 0) (.int .i64 0) (.int .i64 0)); have BF := hE0 (aba HB2.out HG.out (.int .i64 2) (.int .u64 0) (.int .u64 0) (.slice none 0 0) (.int .i64 0) (.int .i64 0) (.int .i64 0) (.int .i64 0) (.int .i64 0)); clear hf; have g1 : decide (L < a) = true := decide_eq_true hA; go_enter Tryz.func39, Tryz.ntmps39
      go_wp2_with (first | (rw [HW1.out]) | (rw [HW2.out]) | fail)
      refine HHD.out.mono ?_; rintro e w3 ⟨rfl, rfl⟩; dsimp only [ixV]; go_wp2
      (try simp only [Exit.inBlock, Exit.then])
      refine aaN (g := w1.heap.size) Tryz.results39 ?_ ?_ MF.out ?_
      · rfl
      · rfl
      · exact ⟨⟨none, 0, rfl, World.ownsRow_nil _ _ _ _⟩, H, Ht.of H0.out BF.out, rfl⟩
    by_cases hB : L < n
    · have hf : L < a + n := by omega
      rw [if_pos hf]; have MF := hE0 (aa7 HN2.out (.int .i64 2) (.int .u64 0) (.int .u64 0) (.slice none 0 0) (.int .i64 0) (.int .i64 0) (.int .i64 0) (.int .i64 0) (.int .i64 0)); have BF := hE0 (aba HB2.out HG.out (.int .i64 2) (.int .u64 0) (.int .u64 0) (.slice none 0 0) (.int .i64 0) (.int .i64 0) (.int .i64 0) (.int .i64 0) (.int .i64 0)); clear hf; have g1 : decide (L < a) = false := decide_eq_false hA; have g2 : decide (L < n) = true := decide_eq_true hB; go_enter Tryz.func39, Tryz.ntmps39
      go_wp2_with (first | (rw [HW1.out]) | (rw [HW2.out]) | fail)
      refine HHD.out.mono ?_; rintro e w3 ⟨rfl, rfl⟩; dsimp only [ixV]; go_wp2
      (try simp only [Exit.inBlock, Exit.then])
      refine aaN (g := w1.heap.size) Tryz.results39 ?_ ?_ MF.out ?_
      · rfl
      · rfl
      · exact ⟨⟨none, 0, rfl, World.ownsRow_nil _ _ _ _⟩, H, Ht.of H0.out BF.out, rfl⟩
    obtain ⟨sm, hsm⟩ := nmE (a + n); have hsI : (a : Int) + (n : Int) = (sm : Int) := by omega
    have hs2 : sm <= 200000 := by omega
    rw [hsm]; by_cases hC : L < sm
    · have hf := hC; rw [if_pos hf]; have MF := hE0 (aa7 HN2.out (.int .i64 2) (.int .u64 0) (.int .u64 0) (.slice none 0 0) (.int .i64 0) (.int .i64 0) (.int .i64 0) (.int .i64 0) (.int .i64 0)); have BF := hE0 (aba HB2.out HG.out (.int .i64 2) (.int .u64 0) (.int .u64 0) (.slice none 0 0) (.int .i64 0) (.int .i64 0) (.int .i64 0) (.int .i64 0) (.int .i64 0)); clear hf; have g1 : decide (L < a) = false := decide_eq_false hA; have g2 : decide (L < n) = false := decide_eq_false hB; have g3 : decide (L < sm) = true := decide_eq_true hC; clear hsm; go_enter Tryz.func39, Tryz.ntmps39
      go_wp2_with (first | (rw [HW1.out]) | (rw [HW2.out]) | fail)
      refine HHD.out.mono ?_; rintro e w3 ⟨rfl, rfl⟩; dsimp only [ixV]; go_wp2
      (try simp only [Exit.inBlock, Exit.then])
      refine aaN (g := w1.heap.size) Tryz.results39 ?_ ?_ MF.out ?_
      · rfl
      · rfl
      · exact ⟨⟨none, 0, rfl, World.ownsRow_nil _ _ _ _⟩, H, Ht.of H0.out BF.out, rfl⟩
    rw [if_neg hC, if_pos rfl]; have g1 : decide (L < a) = false := decide_eq_false hA; have g2 : decide (L < n) = false := decide_eq_false hB; have g3 : decide (L < sm) = false := decide_eq_false hC; have HSM := hE0 hsm; obtain ⟨wd, hwd⟩ := nmE w2.drew; have hbd : Below w.heap.size w wd := by rw [<- hwd]; exact HB2.out.drew
    have hbd2 := adE hwd; have HWD := hE0 hwd; have HBD := hE0 hbd; have e0 : wd.cell? ⟨p, 2, none⟩ = some (.slice (some ⟨b2, 0, none⟩) ln c2) := (hbd2.cell (p := ⟨p, 2, none⟩) d1).trans d0; have e1 : p < wd.heap.size := Nat.lt_of_lt_of_le d1 hbd2.size; have e2 : b2 < wd.heap.size := Nat.lt_of_lt_of_le d2 hbd2.size; have e4 : wd.cell? ⟨b2, i, none⟩ = some (.slice A L c) := (hbd2.cell (p := ⟨b2, i, none⟩) d2).trans d4; have e5 : w.heap.size < wd.heap.size := Nat.lt_of_lt_of_le hl1 hbd2.size; have e6 : wd.cell? ⟨w.heap.size, 2, none⟩ = some (.int .u64 (n : Int)) := (hbd2.cell (p := ⟨w.heap.size, 2, none⟩) hl1).trans k2; have e7 : wd.cell? ⟨w.heap.size, 4, none⟩ = some (.int .u64 (a : Int)) := (hbd2.cell (p := ⟨w.heap.size, 4, none⟩) hl1).trans k4; have n2d : wd.heap[w1.heap.size]? = _ := (hbd2.block w1.heap.size (aab HN2.out)).trans HN2.out; have ND := hE0 n2d; have s2 : (0 : Int) <= (sm : Int) := by omega
    have s4 : ((sm : Int)).toNat = sm := Int.toNat_natCast sm; have s5 : (a : Int) <= (sm : Int) := by omega
    have s6 : ((a : Int)).toNat = a := Int.toNat_natCast a; have hsn : sm - a = n := by omega
    have HBD2 := hE0 hbd2; obtain ⟨ys, hys0⟩ := nmE ((D.drop a).take n); have hyl : ys.length = n := by rw [<- hys0, List.length_take, List.length_drop]; have := HL.out; omega
    have YE := hE0 hys0; have YL := hE0 hyl; have HSN := hE0 hsn; have haL : a <= 100000 := by omega
    have HCC : Hid (L <= c) := by
     cases hA' : A with
     | none => have := (HD5.out hA'); rw [this.1] at HL; have := HL.out; simp at this; show L <= c; omega
     | some y =>
      obtain ⟨b7, rfl, _, _, ho⟩ := HD6.out y hA'; subst hA'; exact an5 ho
    have s3 : (sm : Int) <= (c : Int) := by have := HCC.out; omega
    clear hsm hop hwd hbd hbd2 n2d hsn hys0 hyl
    cases A with
    | none =>
     have hD0 := HD5.out rfl; have HL0 : Hid (L = 0) := by have := HL.out; rw [hD0.1] at this; exact this.symm
     have HC0 : Hid (c = 0) := hD0.2; have HN0 : Hid (n = 0) := by have := HL0.out; show n = 0; omega
     have s7 : c = a := by have := HL0.out; have := HC0.out; omega
     clear hD0 HD6 HD5; go_enter Tryz.func39, Tryz.ntmps39
     go_wp2_with (first | (rw [HW1.out]) | (rw [HW2.out]) | fail)
     refine HHD.out.mono ?_; rintro e w3 ⟨rfl, rfl⟩; dsimp only [ixV]; go_wp2_with fail
     refine aaf wd.heap.size [([1, 2, 3, 4, 5, 6, 7, 8, 9, 10, 11, 12, 13, 14, 15, 16], 0), ([], 17)] [] [18, 19] (by kernel_rfl) (by kernel_rfl) (by kernel_rfl) (fun _ _ _ _ _ h => h) ?_; rw [HWD.out]; have q0 := tfE e0 e1; have q1 := tfE e4 e2; have q2 := tfE e6 e5; have q4 := tfE e7 e5; refine aaj (l := ?seg5) ?hseg5 ?_
     case hseg5 => simp only [pick, lE1, lE2, lE3]; rfl
     repeat (go_big_quiet_step (fail))
     refine wpQuiet_nil ?_; refine aaA (some 60) (w1 := wd.alloc (.cells #[] 5)) (v := .slice (some ⟨wd.heap.size, 0, none⟩) 0 0) rfl rfl rfl (aaw rfl rfl (aez wd)) ((Below.refl _ _).alloc (Nat.le_refl _) _) ⟨wd.heap.size, Nat.le_refl _, ?_⟩; clear q0 q1 q2 q4; simp only [Act.put, lE4, lE5, lE6]; obtain ⟨w4, hw4⟩ := nmE (wd.alloc (.cells #[] 5)); have own4 : w4.ownsRow wd.heap.size 5 1 (.slice (some ⟨wd.heap.size, 0, none⟩) 0 0) 0 (([] : List UInt8).map bv) := by rw [<- hw4]; exact World.ownsRow_lit wd _ 0 (Nat.le_refl _) (by unfold maxLen; omega) rfl
     have hb4 := abE hw4; rw [hw4]; have HB4 := hE0 hb4; have OWN4 := hE0 own4; clear hw4 hb4 own4; refine aaj (l := ?seg6) ?hseg6 ?_
     case hseg6 => rfl
     refine wpQuiet_nil ?_; have hy0 : ys = [] := List.eq_nil_of_length_eq_zero (by have := YL.out; have := HN0.out; omega); have HY0 := hE0 hy0; clear hy0; refine aaQ (some 77) (.tmp 60) (.tmp 76) 36 5 rfl rfl rfl rfl Tryz.underlying36 (.int .u8 0) 1 1 aeA rfl (by decide) wd.heap.size (.slice (some ⟨wd.heap.size, 0, none⟩) 0 0) 0 (([] : List UInt8).map bv) rfl OWN4.out (Nat.le_refl _) HB4.out.size _ _ _ (ys.map bv) rfl ?hlen2 ?hsrc2 (aeT ys) ?h632 (by decide) ?_
     case hlen2 => rw [HY0.out]; have := HN0.out; simp; omega
     case hsrc2 => rw [HY0.out]; have := HN0.out; have := HC0.out; exact ⟨(fun _ => ⟨by omega, by omega, rfl⟩), fun ad e => by cases e⟩
     case h632 => omega
     intro x5 w5 own5 hb5 _; have own5 : w5.ownsRow wd.heap.size 5 1 x5 n (ys.map bv) := by
      have e9 : n = sm - a := HSN.out.symm; rw [List.map_nil, List.nil_append, Nat.zero_add] at own5; rw [e9]; exact own5
     obtain ⟨A5, c5, rfl⟩ := aa0 (aaI own5 (Nat.zero_le _)); have hb25 : Below wd.heap.size wd w5 := HB4.out.trans hb5; have n5 := (hb25.block w1.heap.size (aab ND.out)).trans ND.out; have hlr5 := aaa n5; obtain ⟨⟨z0, z1, z2, z3, z4, z5, z6, z7, z8⟩, f0, f1, f2, f3, f4, f5, f6, f7, f8⟩ := aah n5; have hbw5 := HBD.out.trans (hb25.mono HBD.out.size); have MF := hE0 (aa7 n5 (.int .i64 0) (.int .u64 0) (.int .u64 0) (.slice A5 n c5) (.int .i64 0) (.int .i64 0) (.int .i64 0) (.int .i64 0) (.int .i64 0)); have BF := hE0 (aba hbw5 HG.out (.int .i64 0) (.int .u64 0) (.int .u64 0) (.slice A5 n c5) (.int .i64 0) (.int .i64 0) (.int .i64 0) (.int .i64 0) (.int .i64 0)); have ow : (ad1 w5 w1.heap.size (.int .i64 0) (.int .u64 0) (.int .u64 0) (.slice A5 n c5) (.int .i64 0) (.int .i64 0) (.int .i64 0) (.int .i64 0) (.int .i64 0)).ownsRow w.heap.size 5 1 (.slice A5 n c5) n (ys.map bv) := acb (aaI own5 HBD.out.size) fun k hk => by
      obtain ⟨l1, l2⟩ := own5.lt k hk; have l3 := aab ND.out; exact (aaE _ _ _ _ _ _ _ _ _ _ _).block k l2 (fun e => by have e : k = w1.heap.size := e; omega)
     have OW := hE0 ow; refine ⟨wd.heap.size, Nat.le_refl _, ?_⟩; clear own5 hb5 hb25 n5 hbw5 ow; refine aap (l := []) (t := ?tl8) rfl ?htl8 (wpQuiet_nil ?_)
     case htl8 => simp only [pick, lE1, lE2, lE3]; rfl
     simp only [Act.put, lE4, lE5, lE6]; go_wp2
     (try simp only [Exit.inBlock, Exit.then])
     refine aaN (g := w1.heap.size) Tryz.results39 ?_ ?_ MF.out ?_
     · rfl
     · rfl
     · exact ⟨⟨A5, c5, by unfold rpV aek; dsimp only; rw [YE.out, YL.out]; rfl, by dsimp only; rw [YE.out, YL.out]; exact OW.out⟩, H, Ht.of H0.out BF.out, rfl⟩
    | some y =>
     obtain ⟨b9, rfl, hg9, hb9, ho9⟩ := HD6.out y rfl; have H9 := hE0 ho9; clear ho9 HD6 HD5; by_cases hca : c = a
     · have s7 : c = a := hca; have HN0 : Hid (n = 0) := by have := HCC.out; show n = 0; omega
       go_enter Tryz.func39, Tryz.ntmps39
       go_wp2_with (first | (rw [HW1.out]) | (rw [HW2.out]) | fail)
       refine HHD.out.mono ?_; rintro e w3 ⟨rfl, rfl⟩; dsimp only [ixV]; go_wp2_with fail
       refine aaf wd.heap.size [([1, 2, 3, 4, 5, 6, 7, 8, 9, 10, 11, 12, 13, 14, 15, 16], 0), ([], 17)] [] [18, 19] (by kernel_rfl) (by kernel_rfl) (by kernel_rfl) (fun _ _ _ _ _ h => h) ?_; rw [HWD.out]; have q0 := tfE e0 e1; have q1 := tfE e4 e2; have q2 := tfE e6 e5; have q4 := tfE e7 e5; refine aaj (l := ?seg3) ?hseg3 ?_
       case hseg3 => simp only [pick, lE1, lE2, lE3]; rfl
       repeat (go_big_quiet_step (fail))
       refine wpQuiet_nil ?_; refine aaA (some 60) (w1 := wd.alloc (.cells #[] 5)) (v := .slice (some ⟨wd.heap.size, 0, none⟩) 0 0) rfl rfl rfl (aaw rfl rfl (aez wd)) ((Below.refl _ _).alloc (Nat.le_refl _) _) ⟨wd.heap.size, Nat.le_refl _, ?_⟩; clear q0 q1 q2 q4; simp only [Act.put, lE4, lE5, lE6]; obtain ⟨w4, hw4⟩ := nmE (wd.alloc (.cells #[] 5)); have own4 : w4.ownsRow wd.heap.size 5 1 (.slice (some ⟨wd.heap.size, 0, none⟩) 0 0) 0 (([] : List UInt8).map bv) := by rw [<- hw4]; exact World.ownsRow_lit wd _ 0 (Nat.le_refl _) (by unfold maxLen; omega) rfl
       have hb4 := abE hw4; rw [hw4]; have HB4 := hE0 hb4; have OWN4 := hE0 own4; clear hw4 hb4 own4; refine aaj (l := ?seg4) ?hseg4 ?_
       case hseg4 => rfl
       refine wpQuiet_nil ?_; have hy0 : ys = [] := List.eq_nil_of_length_eq_zero (by have := YL.out; have := HN0.out; omega); have HY0 := hE0 hy0; clear hy0; refine aaQ (some 77) (.tmp 60) (.tmp 76) 36 5 rfl rfl rfl rfl Tryz.underlying36 (.int .u8 0) 1 1 aeA rfl (by decide) wd.heap.size (.slice (some ⟨wd.heap.size, 0, none⟩) 0 0) 0 (([] : List UInt8).map bv) rfl OWN4.out (Nat.le_refl _) HB4.out.size _ _ _ (ys.map bv) rfl ?hlen1 ?hsrc1 (aeT ys) ?h631 (by decide) ?_
       case hlen1 => rw [HY0.out]; have := HN0.out; simp; omega
       case hsrc1 => rw [HY0.out]; exact ⟨(fun e => by cases e), fun ad e j u hu => by simp at hu⟩
       case h631 => omega
       intro x5 w5 own5 hb5 _; have own5 : w5.ownsRow wd.heap.size 5 1 x5 n (ys.map bv) := by
        have e9 : n = sm - a := HSN.out.symm; rw [List.map_nil, List.nil_append, Nat.zero_add] at own5; rw [e9]; exact own5
       obtain ⟨A5, c5, rfl⟩ := aa0 (aaI own5 (Nat.zero_le _)); have hb25 : Below wd.heap.size wd w5 := HB4.out.trans hb5; have n5 := (hb25.block w1.heap.size (aab ND.out)).trans ND.out; have hlr5 := aaa n5; obtain ⟨⟨z0, z1, z2, z3, z4, z5, z6, z7, z8⟩, f0, f1, f2, f3, f4, f5, f6, f7, f8⟩ := aah n5; have hbw5 := HBD.out.trans (hb25.mono HBD.out.size); have MF := hE0 (aa7 n5 (.int .i64 0) (.int .u64 0) (.int .u64 0) (.slice A5 n c5) (.int .i64 0) (.int .i64 0) (.int .i64 0) (.int .i64 0) (.int .i64 0)); have BF := hE0 (aba hbw5 HG.out (.int .i64 0) (.int .u64 0) (.int .u64 0) (.slice A5 n c5) (.int .i64 0) (.int .i64 0) (.int .i64 0) (.int .i64 0) (.int .i64 0)); have ow : (ad1 w5 w1.heap.size (.int .i64 0) (.int .u64 0) (.int .u64 0) (.slice A5 n c5) (.int .i64 0) (.int .i64 0) (.int .i64 0) (.int .i64 0) (.int .i64 0)).ownsRow w.heap.size 5 1 (.slice A5 n c5) n (ys.map bv) := acb (aaI own5 HBD.out.size) fun k hk => by
        obtain ⟨l1, l2⟩ := own5.lt k hk; have l3 := aab ND.out; exact (aaE _ _ _ _ _ _ _ _ _ _ _).block k l2 (fun e => by have e : k = w1.heap.size := e; omega)
       have OW := hE0 ow; refine ⟨wd.heap.size, Nat.le_refl _, ?_⟩; clear own5 hb5 hb25 n5 hbw5 ow; refine aap (l := []) (t := ?tl7) rfl ?htl7 (wpQuiet_nil ?_)
       case htl7 => simp only [pick, lE1, lE2, lE3]; rfl
       simp only [Act.put, lE4, lE5, lE6]; go_wp2
       (try simp only [Exit.inBlock, Exit.then])
       refine aaN (g := w1.heap.size) Tryz.results39 ?_ ?_ MF.out ?_
       · rfl
       · rfl
       · exact ⟨⟨A5, c5, by unfold rpV aek; dsimp only; rw [YE.out, YL.out]; rfl, by dsimp only; rw [YE.out, YL.out]; exact OW.out⟩, H, Ht.of H0.out BF.out, rfl⟩
     · have s7 : ¬ c = a := hca; go_enter Tryz.func39, Tryz.ntmps39
       go_wp2_with (first | (rw [HW1.out]) | (rw [HW2.out]) | fail)
       refine HHD.out.mono ?_; rintro e w3 ⟨rfl, rfl⟩; dsimp only [ixV]; go_wp2_with fail
       refine aaf wd.heap.size [([1, 2, 3, 4, 5, 6, 7, 8, 9, 10, 11, 12, 13, 14, 15, 16], 0), ([], 17)] [] [18, 19] (by kernel_rfl) (by kernel_rfl) (by kernel_rfl) (fun _ _ _ _ _ h => h) ?_; rw [HWD.out]; have q0 := tfE e0 e1; have q1 := tfE e4 e2; have q2 := tfE e6 e5; have q4 := tfE e7 e5; refine aaj (l := ?seg1) ?hseg1 ?_
       case hseg1 => simp only [pick, lE1, lE2, lE3]; rfl
       repeat (go_big_quiet_step (fail))
       refine wpQuiet_nil ?_; refine aaA (some 60) (w1 := wd.alloc (.cells #[] 5)) (v := .slice (some ⟨wd.heap.size, 0, none⟩) 0 0) rfl rfl rfl (aaw rfl rfl (aez wd)) ((Below.refl _ _).alloc (Nat.le_refl _) _) ⟨wd.heap.size, Nat.le_refl _, ?_⟩; clear q0 q1 q2 q4; simp only [Act.put, lE4, lE5, lE6]; obtain ⟨w4, hw4⟩ := nmE (wd.alloc (.cells #[] 5)); have hb9d : b9 < wd.heap.size := Nat.lt_of_lt_of_le hb9 HBD2.out.size; have own4 : w4.ownsRow wd.heap.size 5 1 (.slice (some ⟨wd.heap.size, 0, none⟩) 0 0) 0 (([] : List UInt8).map bv) := by rw [<- hw4]; exact World.ownsRow_lit wd _ 0 (Nat.le_refl _) (by unfold maxLen; omega) rfl
       have hb4 := abE hw4; rw [hw4]; have HB4 := hE0 hb4; have OWN4 := hE0 own4; clear hw4 hb4 own4; refine aaj (l := ?seg2) ?hseg2 ?_
       case hseg2 => rfl
       refine wpQuiet_nil ?_; have hys : ((ys).map bv).length = (sm - a) * 1 := by rw [List.length_map, YL.out, HSN.out, Nat.mul_one]
       have hsrc : Src w4 (some ⟨b9, a, none⟩) (sm - a) (c - a) (ys.map bv) := ⟨(fun e => by cases e), fun ad e j u hu => by
        injection e with e; subst e; rw [List.getElem?_map] at hu; have e9 : (⟨b9, a, none⟩ : Addr).add j = ⟨b9, a + j, none⟩ := by unfold Addr.add; split <;> simp_all
        rw [e9]; have hj : a + j < D.length := by
         cases h7 : ys[j]? with
         | none => rw [h7] at hu; cases hu
         | some y =>
          have := aa5 h7; have e1 := YL.out; have e2 := HL.out; have e3 := HSM.out; omega
        have h1 := H9.out.cellAt (a + j) (by have := HL.out; omega); have e8 : ys[j]? = D[a + j]? := by
         rw [<- YE.out, List.getElem?_take, if_pos (by
          cases h7 : ys[j]? with
          | none => rw [h7] at hu; cases hu
          | some y => have := aa5 h7; rw [YL.out] at this; exact this), List.getElem?_drop]
        rw [e8] at hu; rw [List.getElem?_map, hu] at h1; exact ((HB4.out.cell (p := ⟨b9, a + j, none⟩) hb9d).trans (HBD2.out.cell (p := ⟨b9, a + j, none⟩) hb9)).trans h1⟩
       refine aaQ (some 77) (.tmp 60) (.tmp 76) 36 5 rfl rfl rfl rfl Tryz.underlying36 (.int .u8 0) 1 1 aeA rfl (by decide) wd.heap.size (.slice (some ⟨wd.heap.size, 0, none⟩) 0 0) 0 (([] : List UInt8).map bv) rfl OWN4.out (Nat.le_refl _) HB4.out.size (some ⟨b9, a, none⟩) (sm - a) (c - a) (ys.map bv) rfl hys hsrc (aeT ys) (by omega) (by decide) ?_; intro x5 w5 own5 hb5 _; rw [List.map_nil, List.nil_append, Nat.zero_add, HSN.out] at own5; obtain ⟨A5, c5, rfl⟩ := aa0 (aaI own5 (Nat.zero_le _)); have hb25 : Below wd.heap.size wd w5 := HB4.out.trans hb5; have n5 := (hb25.block w1.heap.size (aab ND.out)).trans ND.out; have hlr5 := aaa n5; obtain ⟨⟨z0, z1, z2, z3, z4, z5, z6, z7, z8⟩, f0, f1, f2, f3, f4, f5, f6, f7, f8⟩ := aah n5; have hbw5 := HBD.out.trans (hb25.mono HBD.out.size); have MF := hE0 (aa7 n5 (.int .i64 0) (.int .u64 0) (.int .u64 0) (.slice A5 n c5) (.int .i64 0) (.int .i64 0) (.int .i64 0) (.int .i64 0) (.int .i64 0)); have BF := hE0 (aba hbw5 HG.out (.int .i64 0) (.int .u64 0) (.int .u64 0) (.slice A5 n c5) (.int .i64 0) (.int .i64 0) (.int .i64 0) (.int .i64 0) (.int .i64 0)); have ow : (ad1 w5 w1.heap.size (.int .i64 0) (.int .u64 0) (.int .u64 0) (.slice A5 n c5) (.int .i64 0) (.int .i64 0) (.int .i64 0) (.int .i64 0) (.int .i64 0)).ownsRow w.heap.size 5 1 (.slice A5 n c5) n (ys.map bv) := acb (aaI own5 HBD.out.size) fun k hk => by
        obtain ⟨l1, l2⟩ := own5.lt k hk; have l3 := aab ND.out; exact (aaE _ _ _ _ _ _ _ _ _ _ _).block k l2 (fun e => by have e : k = w1.heap.size := e; omega)
       have OW := hE0 ow; refine ⟨wd.heap.size, Nat.le_refl _, ?_⟩; clear own5 hb5 hb25 n5 hbw5 ow hys hsrc; refine aap (l := []) (t := ?tl6) rfl ?htl6 (wpQuiet_nil ?_)
       case htl6 => simp only [pick, lE1, lE2, lE3]; rfl
       simp only [Act.put, lE4, lE5, lE6]; go_wp2
       (try simp only [Exit.inBlock, Exit.then])
       refine aaN (g := w1.heap.size) Tryz.results39 ?_ ?_ MF.out ?_
       · rfl
       · rfl
       · exact ⟨⟨A5, c5, by unfold rpV aek; dsimp only; rw [YE.out, YL.out]; rfl, by dsimp only; rw [YE.out, YL.out]; exact OW.out⟩, H, Ht.of H0.out BF.out, rfl⟩
end
section
variable {F G : Nat -> Prop} {w w' : World} {p : Nat} {H : Hp}
theorem ai1 {ds : List Dt} {i : Nat} {V : Value} {l : List UInt8} (hi : i < ds.length) (hV : (ds.getD i aaR).1 = V) : (ds.set i (V, l)).map Prod.fst = ds.map Prod.fst := by
 refine List.ext_getElem? fun j => ?_; rw [List.getElem?_map, List.getElem?_map, List.getElem?_set]; by_cases e : i = j
 · subst e; rw [if_pos rfl, if_pos hi, List.getElem?_eq_getElem hi]; rw [List.getD_eq_getElem?_getD, List.getElem?_eq_getElem hi] at hV; exact congrArg some hV.symm
 · rw [if_neg e]
theorem HM.dput {ds : List Dt} (h : HM F w p H) (hl : ds.length = H.ds.length) (hf : ds.map Prod.fst = H.ds.map Prod.fst) : HM F w p { H with ds := ds } := by
 obtain ⟨Vb, Vd, gl, cs, hm⟩ := h; refine ⟨Vb, Vd, gl, cs, hm.obj, hm.ob, ?_, hm.row, hm.len, hm.at_, hm.fp, hm.fl, hm.fb, hm.fd, hm.fi, fun d hd => ?_⟩
 · show w.ownsRow 0 36 1 Vd ds.length (ds.map Prod.fst); rw [hl, hf]; exact hm.od
 · have h1 : d.1 ∈ ds.map Prod.fst := List.mem_map_of_mem hd; rw [hf] at h1; obtain ⟨d', hd', e⟩ := List.mem_map.1 h1; rw [<- e]; exact hm.sl d' hd'
theorem ap2 {α : Type} {l l' : List (Value × α)} (e : l.map Prod.fst = l'.map Prod.fst) (h : l'.Pairwise fun a b => ∀ k, a.1.ownBlock = some k -> b.1.ownBlock ≠ some k) : l.Pairwise fun a b => ∀ k, a.1.ownBlock = some k -> b.1.ownBlock ≠ some k := by
 have h1 : (l'.map Prod.fst).Pairwise fun a b : Value => ∀ k, a.ownBlock = some k -> b.ownBlock ≠ some k := List.pairwise_map.2 h; rw [<- e] at h1; exact List.pairwise_map.1 h1
theorem Hd.dput (h : Hd F G w p H) {i b9 c n : Nat} (hi : i < H.ds.length) (hV : (H.ds.getD i aaR).1 = .slice (some ⟨b9, 0, none⟩) n c) (hg : G b9) {l : List UInt8} (hl : l.length = n) (ht : Tch (fun k => k = b9) w w')
 (hown : w'.ownsRow 0 5 1 (.slice (some ⟨b9, 0, none⟩) n c) n (l.map bv)) : Hd F G w' p (H.dset i (.slice (some ⟨b9, 0, none⟩) n c, l)) := by
 have hfs := ai1 (l := l) hi hV; have hm1 : HM F w' p H := h.hm.tch ht (fun k hk e => h.gf b9 hg (by rw [<- e]; exact hk)); have hm2 := hm1.dput (ds := H.ds.set i (.slice (some ⟨b9, 0, none⟩) n c, l)) (List.length_set) hfs; have hdi : H.ds[i]? = some (H.ds.getD i aaR) := by rw [List.getD_eq_getElem?_getD, List.getElem?_eq_getElem hi]; rfl
 refine ⟨hm2, fun d hd => ?_, ap2 hfs h.sep, h.gf, fun k hk => Nat.lt_of_lt_of_le (h.gl k hk) ht.size, fun k hk => Nat.lt_of_lt_of_le (h.fl k hk) ht.size⟩; have hd : d ∈ H.ds.set i (.slice (some ⟨b9, 0, none⟩) n c, l) := hd; obtain ⟨j, hj⟩ := List.getElem?_of_mem hd; rw [List.getElem?_set] at hj; by_cases e : i = j
 · rw [if_pos e, if_pos hi] at hj; injection hj with hj; subst hj; refine .inr ⟨b9, c, ?_, hg, ?_⟩
   · rw [hl]
   · show w'.ownsRow 0 5 1 (.slice (some ⟨b9, 0, none⟩) n c) l.length (l.map bv); rw [hl]; exact hown
 · rw [if_neg e] at hj; refine (h.dat d (List.mem_of_getElem? hj)).imp id fun ⟨b', c', e1, g, o⟩ => ⟨b', c', e1, g, aaD o fun k hk => ?_⟩; refine ht.block k (by rw [e1] at hk; injection hk with hk; have hk : b' = k := hk; rw [<- hk]; exact h.gl b' g) (fun ek => ?_); have ek : k = b9 := ek; subst ek; have hp := List.pairwise_iff_getElem.1 h.sep; have hj' := aa5 hj; have e3 : H.ds[j] = d := by rw [List.getElem?_eq_getElem hj'] at hj; exact Option.some.inj hj
   have e4 : H.ds[i].1.ownBlock = some k := by
    have : H.ds[i] = H.ds.getD i aaR := by rw [List.getElem?_eq_getElem hi] at hdi; exact Option.some.inj hdi
    rw [this, hV]; rfl
   rcases Nat.lt_or_ge i j with hij | hij
   · exact hp i j hi hj' hij k e4 (by rw [e3]; exact hk)
   · exact hp j i hj' hi (by omega) k (by rw [e3]; exact hk) e4
theorem anI {D b : List UInt8} {a k : Nat} {u : UInt8} (hk : b[k]? = some u) (hl : a + b.length <= D.length) : (lay D a (b.take k)).set (a + k) u = lay D a (b.take (k + 1)) := by
 have hkl := aa5 hk; have e1 : (b.take k).length = k := by rw [List.length_take]; omega
 have e2 : (b.take (k + 1)).length = k + 1 := by rw [List.length_take]; omega
 unfold lay; rw [e1, e2]; have e3 : (D.take a).length = a := by rw [List.length_take]; omega
 rw [List.set_append_right _ _ (by omega), e3]; have e4 : a + k - a = k := by omega
 rw [e4, List.set_append_right _ _ (by omega), e1, Nat.sub_self]; congr 1; have hdr : D.drop (a + k) = D[a + k]'(by omega) :: D.drop (a + k + 1) := List.drop_eq_getElem_cons (by omega); rw [hdr, List.set_cons_zero, List.take_add_one, hk]; simp [Nat.add_assoc]
end
section
variable {F G : Nat -> Prop} {w w' : World} {p : Nat} {H : Hp}
theorem Hd.cell2 (h : Hd F G w p H) {b2 ln c2 : Nat} (hc : w.cell? ⟨p, 2, none⟩ = some (.slice (some ⟨b2, 0, none⟩) ln c2)) : F p /\ F b2 := by
 obtain ⟨Vb, Vd, gl, cs, hm⟩ := h.hm; have h2 := hm.c2; rw [hc] at h2; injection h2 with h2; exact ⟨hm.fp, hm.fd b2 (by rw [<- h2]; rfl)⟩
theorem akj (h : Hd F G w p H) (hok : H.Ok) (q n m a : Nat) (B : Option Addr) (b : List UInt8) (k : Nat) (hq : q < 18446744073709551616) (ha : a < 18446744073709551616)
 (hD : ∀ i, H.handleB q = some i -> (H.ds.getD i aaR).2.length <= 100000) (hbl : b.length <= 100000) (hr : Rd w w.heap.size B b.length b) (hBG : ∀ x, B = some x -> 0 < b.length -> ¬ G x.block) :
 Calls Tryz.prog 39 #[.pointer (some ⟨p, 0, none⟩), aa6 7 q n m a B b.length k] w fun e w' => acs F G w p (H.heldC 7 q n a b) e w' := by
 unfold aa6; have HR := hE0 hr; have HBG := hE0 hBG; obtain ⟨bl, hbl0⟩ := nmE b.length; rw [hbl0] at hbl; rw [hbl0]; have HBL := hE0 hbl0; clear hr hBG hbl0; obtain ⟨w1, hw1⟩ := nmE (w.alloc (.cells #[.int .i64 7, .int .u64 (q : Int), .int .u64 (n : Int), .int .u64 (m : Int), .int .u64 (a : Int), .slice B bl k] 38)); obtain ⟨w2, hw2⟩ := nmE (w1.alloc (.cells rp0 45)); have hb1 := abE hw1; have n1 := anE hw1; have hb2 := abE hw2; have n2 := anE hw2; have m2 := (hb2.block w.heap.size (aab n1)).trans n1; obtain ⟨k0, k1, k2, k3, k4, k5⟩ := aaB m2; have hl1 := aaa m2; have hlr := aaa n2; have hb02 := hb1.trans (hb2.mono hb1.size); have HG := hE0 hb1.size; have h2 := h.below hb02; obtain ⟨Vb, Vd, gl, cs, hmm⟩ := h2.hm; have hn512 := hok.n; obtain ⟨x, hx⟩ := nmE (H.handleB q); have HHD := hE0 (adf hmm (by omega) q hq x hx); unfold rp0 at hw2 n2; obtain ⟨⟨z0, z1, z2, z3, z4, z5, z6, z7, z8⟩, f0, f1, f2, f3, f4, f5, f6, f7, f8⟩ := aah n2; have HW1 := hE0 hw1; have HW2 := hE0 hw2; have HN2 := hE0 n2; have HB2 := hE0 hb02; have H0 := hE0 h; clear hw1 hw2 n1 m2 n2 hb1 hb2 hb02 hmm
 cases x with
 | none =>
  have e : H.heldC 7 q n a b = (Rp.err 4, H) := by unfold Hp.heldC; rw [hx]
  rw [e]; have MF := hE0 (aa7 HN2.out (.int .i64 4) (.int .u64 0) (.int .u64 0) (.slice none 0 0) (.int .i64 0) (.int .i64 0) (.int .i64 0) (.int .i64 0) (.int .i64 0)); have BF := hE0 (aba HB2.out HG.out (.int .i64 4) (.int .u64 0) (.int .u64 0) (.slice none 0 0) (.int .i64 0) (.int .i64 0) (.int .i64 0) (.int .i64 0) (.int .i64 0)); clear hx h h2 e; go_enter Tryz.func39, Tryz.ntmps39
  go_wp2_with (first | (rw [HW1.out]) | (rw [HW2.out]) | fail)
  refine HHD.out.mono ?_; rintro e w3 ⟨rfl, rfl⟩; dsimp only [ixV]; go_wp2
  (try simp only [Exit.inBlock, Exit.then])
  refine aaN (g := w1.heap.size) Tryz.results39 ?_ ?_ MF.out ?_
  · rfl
  · rfl
  · exact ⟨⟨none, 0, rfl, World.ownsRow_nil _ _ _ _⟩, H, Ht.of H0.out BF.out, rfl⟩
 | some i =>
  have hi : i < H.blks.length := by
   obtain ⟨_, _, hu⟩ := abO hx; exact (abe hu).1
  obtain ⟨b2, c2, A, c, d0, d1, d2, d3, d4, dV, _, d5, d6⟩ := h2.at_i hok hi; obtain ⟨fp, fb2⟩ := h2.cell2 d0; have hids : i < H.ds.length := by rw [hok.dl]; exact hi
  have H2 := hE0 h2; have HIDS := hE0 hids; clear hids; have hDi := hD i hx; unfold Hp.heldC; rw [hx]; dsimp only; obtain ⟨D, hDD⟩ := nmE ((H.ds.getD i aaR).2); rw [hDD] at d4 d5 d6 hDi dV ⊢; have HDD := hE0 hDD; obtain ⟨L, hL⟩ := nmE D.length; rw [hL] at d4 d6 hDi dV ⊢; have HDV := hE0 dV; clear dV; obtain ⟨ln, hln⟩ := nmE H.blks.length; rw [hln] at d0 d3 hi hn512; have hii : (i : Int) < (ln : Int) := by omega
  have hi0 : decide ((i : Int) < 0) = false := decide_eq_false (by omega); have HL := hE0 hL; have HD6 := hE0 d6; have HD5 := hE0 d5; clear h h2 hx hD d5 d6 hL hDD hln; rw [if_neg (show ¬ (7 : Int) = 5 by decide), if_pos (show (7 : Int) = 7 by rfl), if_neg (show ¬ (7 : Int) = 6 by decide), HBL.out]; by_cases hA : L < a
  · have hf : L < a + bl := by omega
    rw [if_pos hf]; have MF := hE0 (aa7 HN2.out (.int .i64 2) (.int .u64 0) (.int .u64 0) (.slice none 0 0) (.int .i64 0) (.int .i64 0) (.int .i64 0) (.int .i64 0) (.int .i64 0)); have BF := hE0 (aba HB2.out HG.out (.int .i64 2) (.int .u64 0) (.int .u64 0) (.slice none 0 0) (.int .i64 0) (.int .i64 0) (.int .i64 0) (.int .i64 0) (.int .i64 0)); clear hf; have g1 : decide (L < a) = true := decide_eq_true hA; go_enter Tryz.func39, Tryz.ntmps39
    go_wp2_with (first | (rw [HW1.out]) | (rw [HW2.out]) | fail)
    refine HHD.out.mono ?_; rintro e w3 ⟨rfl, rfl⟩; dsimp only [ixV]; go_wp2
    (try simp only [Exit.inBlock, Exit.then])
    refine aaN (g := w1.heap.size) Tryz.results39 ?_ ?_ MF.out ?_
    · rfl
    · rfl
    · exact ⟨⟨none, 0, rfl, World.ownsRow_nil _ _ _ _⟩, H, Ht.of H0.out BF.out, rfl⟩
  by_cases hB : L < bl
  · have hf : L < a + bl := by omega
    rw [if_pos hf]; have MF := hE0 (aa7 HN2.out (.int .i64 2) (.int .u64 0) (.int .u64 0) (.slice none 0 0) (.int .i64 0) (.int .i64 0) (.int .i64 0) (.int .i64 0) (.int .i64 0)); have BF := hE0 (aba HB2.out HG.out (.int .i64 2) (.int .u64 0) (.int .u64 0) (.slice none 0 0) (.int .i64 0) (.int .i64 0) (.int .i64 0) (.int .i64 0) (.int .i64 0)); clear hf; have g1 : decide (L < a) = false := decide_eq_false hA; have g2 : decide (L < bl) = true := decide_eq_true hB; go_enter Tryz.func39, Tryz.ntmps39
    go_wp2_with (first | (rw [HW1.out]) | (rw [HW2.out]) | fail)
    refine HHD.out.mono ?_; rintro e w3 ⟨rfl, rfl⟩; dsimp only [ixV]; go_wp2
    (try simp only [Exit.inBlock, Exit.then])
    refine aaN (g := w1.heap.size) Tryz.results39 ?_ ?_ MF.out ?_
    · rfl
    · rfl
    · exact ⟨⟨none, 0, rfl, World.ownsRow_nil _ _ _ _⟩, H, Ht.of H0.out BF.out, rfl⟩
  obtain ⟨sm, hsm⟩ := nmE (a + bl); have hsI : (a : Int) + (bl : Int) = (sm : Int) := by omega
  have hs2 : sm <= 200000 := by omega
  rw [hsm]; by_cases hC : L < sm
  · have hf := hC; rw [if_pos hf]; have MF := hE0 (aa7 HN2.out (.int .i64 2) (.int .u64 0) (.int .u64 0) (.slice none 0 0) (.int .i64 0) (.int .i64 0) (.int .i64 0) (.int .i64 0) (.int .i64 0)); have BF := hE0 (aba HB2.out HG.out (.int .i64 2) (.int .u64 0) (.int .u64 0) (.slice none 0 0) (.int .i64 0) (.int .i64 0) (.int .i64 0) (.int .i64 0) (.int .i64 0)); clear hf; have g1 : decide (L < a) = false := decide_eq_false hA; have g2 : decide (L < bl) = false := decide_eq_false hB; have g3 : decide (L < sm) = true := decide_eq_true hC; clear hsm; go_enter Tryz.func39, Tryz.ntmps39
    go_wp2_with (first | (rw [HW1.out]) | (rw [HW2.out]) | fail)
    refine HHD.out.mono ?_; rintro e w3 ⟨rfl, rfl⟩; dsimp only [ixV]; go_wp2
    (try simp only [Exit.inBlock, Exit.then])
    refine aaN (g := w1.heap.size) Tryz.results39 ?_ ?_ MF.out ?_
    · rfl
    · rfl
    · exact ⟨⟨none, 0, rfl, World.ownsRow_nil _ _ _ _⟩, H, Ht.of H0.out BF.out, rfl⟩
  rw [if_neg hC]; have g1 : decide (L < a) = false := decide_eq_false hA; have g2 : decide (L < bl) = false := decide_eq_false hB; have g3 : decide (L < sm) = false := decide_eq_false hC; have HSM := hE0 hsm; have haL : a <= 100000 := by omega
  clear hsm
  cases A with
  | none =>
   have hD0 := HD5.out rfl; have HL0 : Hid (L = 0) := by have := HL.out; rw [hD0.1] at this; exact this.symm
   have hbl0 : bl = 0 := by have := HL0.out; omega
   have ha0 : a = 0 := by have := HL0.out; omega
   have hb0 : b = [] := List.eq_nil_of_length_eq_zero (by rw [HBL.out]; exact hbl0); have ehf : H.dset i ((H.ds.getD i aaR).1, lay D a b) = H := by
    have e1 : ((H.ds.getD i aaR).1, lay D a b) = H.ds.getD i aaR := by rw [hb0, agi, <- HDD.out]
    have e2 : H.ds[i]? = some (H.ds.getD i aaR) := by rw [List.getD_eq_getElem?_getD, List.getElem?_eq_getElem HIDS.out]; rfl
    have e3 : H.ds.set i (H.ds.getD i aaR) = H.ds := by
     have e4 : H.ds.getD i aaR = H.ds[i]'HIDS.out := by rw [List.getElem?_eq_getElem HIDS.out] at e2; exact (Option.some.inj e2).symm
     rw [e4]; exact List.set_getElem_self HIDS.out
    rw [e1]; unfold Hp.dset; rw [e3]
   rw [ehf]; have MF := hE0 (aa7 HN2.out (.int .i64 0) (.int .u64 0) (.int .u64 0) (.slice none 0 0) (.int .i64 0) (.int .i64 0) (.int .i64 0) (.int .i64 0) (.int .i64 0)); have HF := hE0 (Ht.of H0.out (aba HB2.out HG.out (.int .i64 0) (.int .u64 0) (.int .u64 0) (.slice none 0 0) (.int .i64 0) (.int .i64 0) (.int .i64 0) (.int .i64 0) (.int .i64 0))); have HBL0 := hE0 hbl0; clear hD0 HD6 HD5 hbl0 ha0 hb0 ehf g1 g2 g3 HSM; go_enter Tryz.func39, Tryz.ntmps39
   go_wp2_with (first | (rw [HW1.out]) | (rw [HW2.out]) | fail)
   refine HHD.out.mono ?_; rintro e w3 ⟨rfl, rfl⟩; dsimp only [ixV]; go_wp2
   go_loopw [8] (fun t wr => t = .int .i64 0 /\ w2 = wr) (fun _ _ => 0)
   case atStart => exact ⟨rfl, rfl⟩
   case round =>
    obtain ⟨rfl, rfl⟩ := hrel; have hbI : (bl : Int) = 0 := by have := HBL0.out; omega
    go_wp2
    (try simp only [Exit.inBlock, Exit.then])
    refine aaN (g := w1.heap.size) Tryz.results39 ?_ ?_ MF.out ?_
    · rfl
    · rfl
    · exact ⟨⟨none, 0, rfl, World.ownsRow_nil _ _ _ _⟩, _, HF.out, rfl⟩
  | some y =>
   obtain ⟨b9, rfl, hg9, hb9, ho9⟩ := HD6.out y rfl; rw [HDV.out]; have hb9w : b9 < w.heap.size := H0.out.gl b9 hg9; have np : p ≠ b9 := fun e => H0.out.gf b9 hg9 (e ▸ fp); have nb2 : b2 ≠ b9 := fun e => H0.out.gf b9 hg9 (e ▸ fb2); have nx : w.heap.size ≠ b9 := by omega
   have ng : w1.heap.size ≠ b9 := by have := HG.out; omega
   have HNP := hE0 np; have HNB2 := hE0 nb2; have HNX := hE0 nx; have HNG := hE0 ng; have HG9 := hE0 hg9; have H9 := hE0 ho9; have HLC := hE0 (an5 ho9); have HK := hE0 (show (w2.cell? ⟨p, 2, none⟩ = some (.slice (some ⟨b2, 0, none⟩) ln c2) /\ w2.cell? ⟨b2, i, none⟩ = some (.slice (some ⟨b9, 0, none⟩) L c)) /\ w2.cell? ⟨w.heap.size, 4, none⟩ = some (.int .u64 (a : Int)) /\ w2.cell? ⟨w.heap.size, 5, none⟩ = some (.slice B bl k) from ⟨⟨d0, d4⟩, k4, k5⟩); clear np nb2 nx ng hg9 ho9 HD6 HD5 fp fb2; go_enter Tryz.func39, Tryz.ntmps39
   go_wp2_with (first | (rw [HW1.out]) | (rw [HW2.out]) | fail)
   refine HHD.out.mono ?_; rintro e w3 ⟨rfl, rfl⟩; dsimp only [ixV]; go_wp2
   go_loopw [8] (fun t wr => ∃ j : Nat, t = .int .i64 (j : Int) /\ j <= bl /\ Tch (fun k => k = b9) w2 wr /\ wr.ownsRow 0 5 1 (.slice (some ⟨b9, 0, none⟩) L c) L ((lay D a (b.take j)).map bv)) (fun t _ => bl - (intOf t).toNat)
   case atStart => exact ⟨0, rfl, Nat.zero_le _, Tch.refl _ _, by rw [List.take_zero, agi]; exact H9.out⟩
   case round =>
    obtain ⟨j, rfl, hj, ht, hown⟩ := hrel; obtain ⟨⟨c0, c1⟩, c2', c3⟩ := HK.out; have x0 := ht.cell c0 HNP.out; have x1 := ht.cell c1 HNB2.out; have x2 := ht.cell c2' HNX.out; have x3 := ht.cell c3 HNX.out; have l1 : p < wr.heap.size := Nat.lt_of_lt_of_le d1 ht.size; have l2 : b2 < wr.heap.size := Nat.lt_of_lt_of_le d2 ht.size; have l3 : w.heap.size < wr.heap.size := Nat.lt_of_lt_of_le hl1 ht.size; have l9 : b9 < wr.heap.size := Nat.lt_of_lt_of_le hb9 ht.size; clear k0 k1 k2 k3 k4 k5 d0 d4 z0 z1 z2 z3 z4 z5 z6 z7 z8 f0 f1 f2 f3 f4 f5 f6 f7 f8 c0 c1 c2' c3; by_cases hlt : j < bl
    · have hji : (j : Int) < (bl : Int) := by omega
      obtain ⟨u, hu⟩ : ∃ u, b[j]? = some u := ⟨b[j]'(by rw [HBL.out]; exact hlt), List.getElem?_eq_getElem _⟩; obtain ⟨bB, oB, hB, hBw, hBc⟩ := HR.out.2 (by rw [HBL.out]; omega); subst hB; have nB : bB ≠ b9 := fun e => HBG.out _ rfl (by rw [HBL.out]; omega) (e ▸ HG9.out); have u0 := hBc j u hu; have u1 := (HB2.out.cell (p := ⟨bB, oB + j, none⟩) hBw).trans u0; have u2 := ht.cell u1 nB; have lB : bB < wr.heap.size := Nat.lt_of_lt_of_le (Nat.lt_of_lt_of_le hBw HB2.out.size) ht.size; obtain ⟨we, hwe⟩ := nmE wr.drew; have hbe := adE hwe; have Te : Tch (fun k => k = b9) w2 we := ht.trans (Tch.of_below (S := fun k => k = b9) hbe) (fun _ _ h => h); have owe := aay hown hbe; have fz := aas owe (a + j); have hln := anI (D := D) (a := a) hu (by rw [HBL.out]; have := HL.out; have := HSM.out; omega); have own6 := adX owe (a + j) (bv u); have HWE := hE0 hwe; have HBE := hE0 hbe; obtain ⟨aj, haj⟩ := nmE (a + j); have haI : (a : Int) + (j : Int) = (aj : Int) := by omega
      rw [haj] at fz hln own6; have haj2 : aj < L := by have := HSM.out; omega
      have hajI : (aj : Int) < (L : Int) := by omega
      have hLC : (L : Int) <= (c : Int) := by have := HLC.out; omega
      have r9 : b9 < we.heap.size := Nat.lt_of_lt_of_le l9 hbe.size; have v9 : ∃ v, we.cell? ⟨b9, aj, none⟩ = some v := by
       have := owe.cellAt aj (by omega); rw [List.getElem?_map] at this
       cases hh : (lay D a (b.take j))[aj]? with
       | none =>
        have e1 := List.getElem?_eq_none_iff.1 hh; have e2 : (lay D a (b.take j)).length = D.length := acB _ _ _ (by rw [List.length_take]; have := HL.out; have := HSM.out; omega); have := HL.out; omega
       | some v => rw [hh] at this; exact ⟨_, this⟩
      obtain ⟨v9, hv9⟩ := v9; have e0 : we.cell? ⟨p, 2, none⟩ = some (.slice (some ⟨b2, 0, none⟩) ln c2) := (hbe.cell (p := ⟨p, 2, none⟩) l1).trans x0; have e1 : we.cell? ⟨b2, i, none⟩ = some (.slice (some ⟨b9, 0, none⟩) L c) := (hbe.cell (p := ⟨b2, i, none⟩) l2).trans x1; have e2 : we.cell? ⟨w.heap.size, 4, none⟩ = some (.int .u64 (a : Int)) := (hbe.cell (p := ⟨w.heap.size, 4, none⟩) l3).trans x2; have e3 : we.cell? ⟨w.heap.size, 5, none⟩ = some (.slice (some ⟨bB, oB, none⟩) bl k) := (hbe.cell (p := ⟨w.heap.size, 5, none⟩) l3).trans x3; have e5 : we.cell? ⟨bB, oB + j, none⟩ = some (.int .u8 (u.toNat : Int)) := (hbe.cell (p := ⟨bB, oB + j, none⟩) lB).trans u2; have m1 := Nat.lt_of_lt_of_le l1 hbe.size; have m2 := Nat.lt_of_lt_of_le l2 hbe.size; have m3 := Nat.lt_of_lt_of_le l3 hbe.size; have mB := Nat.lt_of_lt_of_le lB hbe.size; have HFN : Hid (Tch (fun k => k = b9) w2 (we.setCell ⟨b9, aj, none⟩ (.int .u8 (u.toNat : Int))) /\ (we.setCell ⟨b9, aj, none⟩ (.int .u8 (u.toNat : Int))).ownsRow 0 5 1 (.slice (some ⟨b9, 0, none⟩) L c) L ((lay D a (b.take (j + 1))).map bv)) :=
       ⟨Te.trans (Tch.set (S := fun k => k = b9) we ⟨b9, aj, none⟩ _ rfl) (fun _ _ h => h), by rw [<- hln, List.map_set]; exact own6⟩
      clear ht hown hu hBc u0 u1 hwe hbe Te owe hln own6 haj; go_wp2_with fail
      refine aaf we.heap.size [] [0, 1, 2, 3, 4, 5, 6, 7, 8, 9, 10, 11, 12, 13, 14, 15, 16, 17] [18] (by kernel_rfl) (by kernel_rfl) (by kernel_rfl) (fun _ _ _ _ _ h => h) ?_; rw [HWE.out]; have q0 := tfE e0 m1; have q1 := tfE e1 m2; have q2 := tfE e2 m3; have q3 := tfE e3 m3; have q5 := tfE e5 mB; refine aap (l := ?la6) (t := ?tl6) ?hla6 ?htl6 ?_
      case hla6 => simp only [pick, lE1, lE2, lE3]; rfl
      case htl6 => simp only [pick, lE1, lE2, lE3]; rfl
      repeat (go_big_quiet_step (fail))
      refine wpQuiet_nil ?_; go_wp2
      go_roundw
      case rel => exact ⟨j + 1, by go_num, by omega, HFN.out.1, HFN.out.2⟩
      case measure => simp only [intOf]; omega
    · obtain rfl : bl = j := by omega
      have htk : b.take bl = b := List.take_of_length_le (by rw [HBL.out]; exact Nat.le_refl _); rw [htk] at hown; have hd1 := H2.out.dput (i := i) HIDS.out HDV.out HG9.out (l := lay D a b) (by rw [acB _ _ _ (by rw [HBL.out]; have := HL.out; have := HSM.out; omega)]; exact HL.out) ht hown; have ngr : ∀ k, k = w1.heap.size -> w.heap.size <= k := fun k e => by rw [e]; exact HG.out
      have hd2 := hd1.tch (aaE wr w1.heap.size (.int .i64 0) (.int .u64 0) (.int .u64 0) (.slice none 0 0) (.int .i64 0) (.int .i64 0) (.int .i64 0) (.int .i64 0) (.int .i64 0)) (fun k hk e => by have := H0.out.fl k hk; have := ngr k e; omega) (fun k hk e => by have := H0.out.gl k hk; have := ngr k e; omega); have HF : Hid (Ht F G w p (H.dset i (.slice (some ⟨b9, 0, none⟩) L c, lay D a b)) (ad1 wr w1.heap.size (.int .i64 0) (.int .u64 0) (.int .u64 0) (.slice none 0 0) (.int .i64 0) (.int .i64 0) (.int .i64 0) (.int .i64 0) (.int .i64 0))) :=
       ⟨F, G, hd2, ((Tch.of_below (S := fun k => F k \/ G k) HB2.out).trans ht (fun k _ e => .inr (by have e : k = b9 := e; rw [e]; exact HG9.out))).trans (aaE wr w1.heap.size (.int .i64 0) (.int .u64 0) (.int .u64 0) (.slice none 0 0) (.int .i64 0) (.int .i64 0) (.int .i64 0) (.int .i64 0) (.int .i64 0)) (fun k hlt e => by have := ngr k e; omega), fun k hk => .inl hk⟩
      have nr := (ht.block w1.heap.size (aab HN2.out) HNG.out).trans HN2.out; have MF := hE0 (aa7 nr (.int .i64 0) (.int .u64 0) (.int .u64 0) (.slice none 0 0) (.int .i64 0) (.int .i64 0) (.int .i64 0) (.int .i64 0) (.int .i64 0)); have hlr5 := aaa nr; obtain ⟨⟨z0, z1, z2, z3, z4, z5, z6, z7, z8⟩, f0, f1, f2, f3, f4, f5, f6, f7, f8⟩ := aah nr; clear ht hown htk hd1 hd2 nr ngr; go_wp2
      (try simp only [Exit.inBlock, Exit.then])
      refine aaN (g := w1.heap.size) Tryz.results39 ?_ ?_ MF.out ?_
      · rfl
      · rfl
      · exact ⟨⟨none, 0, rfl, World.ownsRow_nil _ _ _ _⟩, _, HF.out, rfl⟩
end
theorem Ht.ends {F G : Nat -> Prop} {w w3 w4 w5 : World} {p b4 b5 : Nat} {H0 H' : Hp} (h0 : Hd F G w p H0) (hb : Below w.heap.size w w3) (h : Ht F G w3 p H' w4) (ht : Tch (fun k => k = b4 \/ k = b5) w4 w5) (l4 : w.heap.size <= b4) (l5 : w.heap.size <= b5) (u4 : b4 < w3.heap.size) (u5 : b5 < w3.heap.size) : Ht F G w p H' w5 := by
 obtain ⟨F', G', hd, t, f⟩ := h; have no : ∀ k, F' k \/ G' k -> ¬ (k = b4 \/ k = b5) := fun k hk e => by
  have hs : w.heap.size <= k /\ k < w3.heap.size := by
   rcases e with rfl | rfl
   · exact ⟨l4, u4⟩
   · exact ⟨l5, u5⟩
  rcases f k hk with h' | h'
  · rcases h' with h' | h'
    · have := h0.fl k h'; omega
    · have := h0.gl k h'; omega
  · omega
 refine ⟨F', G', hd.tch ht (fun k hk => no k (.inl hk)) (fun k hk => no k (.inr hk)), ((Tch.of_below (S := fun k => F k \/ G k) hb).trans t (fun _ _ h => h)).trans ht (fun k hk e => ?_), fun k hk => ?_⟩
 · rcases e with rfl | rfl <;> omega
 · rcases f k hk with h' | h'
   · exact .inl h'
   · exact .inr (Nat.le_trans hb.size h')
theorem aqF {F G : Nat -> Prop} {w : World} {p : Nat} {H : Hp} (h : Hd F G w p H) (q n m a bl k : Nat) (B : Option Addr) (r : (Nat × Int) × Hp) (hc : ∀ W, Below w.heap.size w W -> Calls Tryz.prog 34 #[.pointer (some ⟨p, 0, none⟩), .int .u64 (n : Int), .int .u8 165] W fun e w' => apm F G W p r e w') :
 Calls Tryz.prog 12 #[.pointer (some ⟨p, 0, none⟩), aa6 1 q n m a B bl k] w fun e w' => acs F G w p (akq r) e w' := by
 unfold aa6; have hd := Do3.made w #[.int .i64 1, .int .u64 (q : Int), .int .u64 (n : Int), .int .u64 (m : Int), .int .u64 (a : Int), .slice B bl k]; obtain ⟨w1, hw1⟩ := nmE (w.alloc (.cells #[.int .i64 1, .int .u64 (q : Int), .int .u64 (n : Int), .int .u64 (m : Int), .int .u64 (a : Int), .slice B bl k] 38)); rw [hw1] at hd; obtain ⟨w2, hw2⟩ := nmE (w1.alloc (.cells rp0 45)); rw [hw2] at hd; obtain ⟨w3, hw3⟩ := nmE (w2.alloc (.cells rp0 45)); rw [hw3] at hd; unfold rp0 at hw2 hw3; obtain ⟨z0, z1, z2, z3, z4, z5⟩ := aaB hd.n3; have hz := aaa hd.n3; have HD := hE0 hd; have HH := hE0 h; have HW1 := hE0 hw1; have HW2 := hE0 hw2; have HW3 := hE0 hw3; obtain ⟨⟨ph, pc⟩, H2⟩ := r; have HC := hE0 (hc w3 hd.bel); clear h hd hw1 hw2 hw3 hc; go_enter Tryz.func12, Tryz.ntmps12
 go_wp2_with (first | (rw [HW1.out]) | (rw [HW2.out]) | (rw [HW3.out]) | fail)
 refine HC.out.mono ?_; rintro e w4 ⟨rfl, H', ht, hs⟩; dsimp only at hs ⊢; have no : ∀ k, w.heap.size <= k -> ¬ (F k \/ G k) := fun k hk e => by
  rcases e with e | e
  · have := HH.out.fl k e; omega
  · have := HH.out.gl k e; omega
 obtain ⟨F', G', hd4, t4, f4⟩ := ht; have m4 := (t4.block _ (aab HD.out.n4) (no _ HD.out.l4)).trans HD.out.n4; have m5 := (t4.block _ (aab HD.out.n5) (no _ HD.out.l5)).trans HD.out.n5; have HHT : Hid (Ht F G w3 p H' w4) := ⟨F', G', hd4, t4, f4⟩; have HS := hE0 hs; obtain ⟨w5, hw5⟩ := nmE (w4.setCell ⟨w2.heap.size, 1, none⟩ (.int .u64 (ph : Int))); have n5 : w5.heap[w2.heap.size]? = some (.cells #[.int .i64 0, .int .u64 (ph : Int), .int .u64 0, .slice none 0 0, .int .i64 0, .int .i64 0, .int .i64 0, .int .i64 0, .int .i64 0] 45 (0, 0)) := by rw [<- hw5]; exact heap_setCell_same w4 w2.heap.size 1 _ _ _ m5
 have p5 : w5.heap[w1.heap.size]? = some (.cells rp0 45 (0, 0)) := by rw [<- hw5]; exact (Below.heap_setCell w4 ⟨w2.heap.size, 1, none⟩ _ w1.heap.size HD.out.ne).trans m4
 have t5 : Tch (fun k => k = w2.heap.size) w4 w5 := by rw [<- hw5]; exact Tch.set (S := fun k => k = w2.heap.size) w4 ⟨w2.heap.size, 1, none⟩ _ rfl
 obtain ⟨w6, hw6⟩ := nmE (w5.setCell ⟨w2.heap.size, 0, none⟩ (.int .i64 pc)); have n6 : w6.heap[w2.heap.size]? = some (.cells #[.int .i64 pc, .int .u64 (ph : Int), .int .u64 0, .slice none 0 0, .int .i64 0, .int .i64 0, .int .i64 0, .int .i64 0, .int .i64 0] 45 (0, 0)) := by rw [<- hw6]; exact heap_setCell_same w5 w2.heap.size 0 _ _ _ n5
 have p6 : w6.heap[w1.heap.size]? = some (.cells rp0 45 (0, 0)) := by rw [<- hw6]; exact (Below.heap_setCell w5 ⟨w2.heap.size, 0, none⟩ _ w1.heap.size HD.out.ne).trans p5
 have t6 : Tch (fun k => k = w2.heap.size) w5 w6 := by rw [<- hw6]; exact Tch.set (S := fun k => k = w2.heap.size) w5 ⟨w2.heap.size, 0, none⟩ _ rfl
 have tf : Tch (fun k => k = w1.heap.size \/ k = w2.heap.size) w4 (ad1 w6 w1.heap.size (.int .i64 pc) (.int .u64 (ph : Int)) (.int .u64 0) (.slice none 0 0) (.int .i64 0) (.int .i64 0) (.int .i64 0) (.int .i64 0) (.int .i64 0)) :=
  (((Tch.refl (fun k => k = w1.heap.size \/ k = w2.heap.size) w4).trans t5 (fun _ _ e => .inr e)).trans t6 (fun _ _ e => .inr e)).trans (aaE w6 w1.heap.size (.int .i64 pc) (.int .u64 (ph : Int)) (.int .u64 0) (.slice none 0 0) (.int .i64 0) (.int .i64 0) (.int .i64 0) (.int .i64 0) (.int .i64 0)) (fun _ _ e => .inl e)
 have TF := hE0 tf; have MF := hE0 (aa7 p6 (.int .i64 pc) (.int .u64 (ph : Int)) (.int .u64 0) (.slice none 0 0) (.int .i64 0) (.int .i64 0) (.int .i64 0) (.int .i64 0) (.int .i64 0)); obtain ⟨⟨y0, y1, y2, y3, y4, y5, y6, y7, y8⟩, f0, f1, f2, f3, f4, f5, f6, f7, f8⟩ := aah m5; have hy := aaa m5; obtain ⟨⟨u0, u1, u2, u3, u4, u5, u6, u7, u8⟩, v0, v1, v2, v3, v4, v5, v6, v7, v8⟩ := aah n5; have hu := aaa n5; obtain ⟨⟨x0, x1, x2, x3, x4, x5, x6, x7, x8⟩, _⟩ := aah n6; have hx := aaa n6; obtain ⟨⟨s0, s1, s2, s3, s4, s5, s6, s7, s8⟩, e0, e1, e2, e3, e4, e5, e6, e7, e8⟩ := aah p6; have hs6 := aaa p6; have HW5 := hE0 hw5; have HW6 := hE0 hw6; clear z0 z1 z2 z3 z4 z5 hs no hd4 t4 f4 HC m4 m5 hw5 n5 p5 t5 hw6 n6 p6 t6 tf; go_wp2_with (first | (rw [HW5.out]) | (rw [HW6.out]) | fail)
 (try simp only [Exit.inBlock, Exit.then])
 refine aaN (g := w1.heap.size) Tryz.results12 ?_ ?_ MF.out ?_
 · rfl
 · rfl
 · exact ⟨⟨none, 0, rfl, World.ownsRow_nil _ _ _ _⟩, H', HHT.out.ends HH.out HD.out.bel TF.out HD.out.l4 HD.out.l5 (aab HD.out.n4) (aab HD.out.n5), HS.out⟩
theorem aqG {F G : Nat -> Prop} {w : World} {p : Nat} {H : Hp} (h : Hd F G w p H) (q n m a bl k : Nat) (B : Option Addr) (r : (Nat × Int) × Hp) (hc : ∀ W, Below w.heap.size w W -> Calls Tryz.prog 35 #[.pointer (some ⟨p, 0, none⟩), .int .u64 (n : Int), .int .u64 (m : Int)] W fun e w' => apm F G W p r e w') :
 Calls Tryz.prog 12 #[.pointer (some ⟨p, 0, none⟩), aa6 2 q n m a B bl k] w fun e w' => acs F G w p (akq r) e w' := by
 unfold aa6; have hd := Do3.made w #[.int .i64 2, .int .u64 (q : Int), .int .u64 (n : Int), .int .u64 (m : Int), .int .u64 (a : Int), .slice B bl k]; obtain ⟨w1, hw1⟩ := nmE (w.alloc (.cells #[.int .i64 2, .int .u64 (q : Int), .int .u64 (n : Int), .int .u64 (m : Int), .int .u64 (a : Int), .slice B bl k] 38)); rw [hw1] at hd; obtain ⟨w2, hw2⟩ := nmE (w1.alloc (.cells rp0 45)); rw [hw2] at hd; obtain ⟨w3, hw3⟩ := nmE (w2.alloc (.cells rp0 45)); rw [hw3] at hd; unfold rp0 at hw2 hw3; obtain ⟨z0, z1, z2, z3, z4, z5⟩ := aaB hd.n3; have hz := aaa hd.n3; have HD := hE0 hd; have HH := hE0 h; have HW1 := hE0 hw1; have HW2 := hE0 hw2; have HW3 := hE0 hw3; obtain ⟨⟨ph, pc⟩, H2⟩ := r; have HC := hE0 (hc w3 hd.bel); clear h hd hw1 hw2 hw3 hc; go_enter Tryz.func12, Tryz.ntmps12
 go_wp2_with (first | (rw [HW1.out]) | (rw [HW2.out]) | (rw [HW3.out]) | fail)
 refine HC.out.mono ?_; rintro e w4 ⟨rfl, H', ht, hs⟩; dsimp only at hs ⊢; have no : ∀ k, w.heap.size <= k -> ¬ (F k \/ G k) := fun k hk e => by
  rcases e with e | e
  · have := HH.out.fl k e; omega
  · have := HH.out.gl k e; omega
 obtain ⟨F', G', hd4, t4, f4⟩ := ht; have m4 := (t4.block _ (aab HD.out.n4) (no _ HD.out.l4)).trans HD.out.n4; have m5 := (t4.block _ (aab HD.out.n5) (no _ HD.out.l5)).trans HD.out.n5; have HHT : Hid (Ht F G w3 p H' w4) := ⟨F', G', hd4, t4, f4⟩; have HS := hE0 hs; obtain ⟨w5, hw5⟩ := nmE (w4.setCell ⟨w2.heap.size, 1, none⟩ (.int .u64 (ph : Int))); have n5 : w5.heap[w2.heap.size]? = some (.cells #[.int .i64 0, .int .u64 (ph : Int), .int .u64 0, .slice none 0 0, .int .i64 0, .int .i64 0, .int .i64 0, .int .i64 0, .int .i64 0] 45 (0, 0)) := by rw [<- hw5]; exact heap_setCell_same w4 w2.heap.size 1 _ _ _ m5
 have p5 : w5.heap[w1.heap.size]? = some (.cells rp0 45 (0, 0)) := by rw [<- hw5]; exact (Below.heap_setCell w4 ⟨w2.heap.size, 1, none⟩ _ w1.heap.size HD.out.ne).trans m4
 have t5 : Tch (fun k => k = w2.heap.size) w4 w5 := by rw [<- hw5]; exact Tch.set (S := fun k => k = w2.heap.size) w4 ⟨w2.heap.size, 1, none⟩ _ rfl
 obtain ⟨w6, hw6⟩ := nmE (w5.setCell ⟨w2.heap.size, 0, none⟩ (.int .i64 pc)); have n6 : w6.heap[w2.heap.size]? = some (.cells #[.int .i64 pc, .int .u64 (ph : Int), .int .u64 0, .slice none 0 0, .int .i64 0, .int .i64 0, .int .i64 0, .int .i64 0, .int .i64 0] 45 (0, 0)) := by rw [<- hw6]; exact heap_setCell_same w5 w2.heap.size 0 _ _ _ n5
 have p6 : w6.heap[w1.heap.size]? = some (.cells rp0 45 (0, 0)) := by rw [<- hw6]; exact (Below.heap_setCell w5 ⟨w2.heap.size, 0, none⟩ _ w1.heap.size HD.out.ne).trans p5
 have t6 : Tch (fun k => k = w2.heap.size) w5 w6 := by rw [<- hw6]; exact Tch.set (S := fun k => k = w2.heap.size) w5 ⟨w2.heap.size, 0, none⟩ _ rfl
 have tf : Tch (fun k => k = w1.heap.size \/ k = w2.heap.size) w4 (ad1 w6 w1.heap.size (.int .i64 pc) (.int .u64 (ph : Int)) (.int .u64 0) (.slice none 0 0) (.int .i64 0) (.int .i64 0) (.int .i64 0) (.int .i64 0) (.int .i64 0)) :=
  (((Tch.refl (fun k => k = w1.heap.size \/ k = w2.heap.size) w4).trans t5 (fun _ _ e => .inr e)).trans t6 (fun _ _ e => .inr e)).trans (aaE w6 w1.heap.size (.int .i64 pc) (.int .u64 (ph : Int)) (.int .u64 0) (.slice none 0 0) (.int .i64 0) (.int .i64 0) (.int .i64 0) (.int .i64 0) (.int .i64 0)) (fun _ _ e => .inl e)
 have TF := hE0 tf; have MF := hE0 (aa7 p6 (.int .i64 pc) (.int .u64 (ph : Int)) (.int .u64 0) (.slice none 0 0) (.int .i64 0) (.int .i64 0) (.int .i64 0) (.int .i64 0) (.int .i64 0)); obtain ⟨⟨y0, y1, y2, y3, y4, y5, y6, y7, y8⟩, f0, f1, f2, f3, f4, f5, f6, f7, f8⟩ := aah m5; have hy := aaa m5; obtain ⟨⟨u0, u1, u2, u3, u4, u5, u6, u7, u8⟩, v0, v1, v2, v3, v4, v5, v6, v7, v8⟩ := aah n5; have hu := aaa n5; obtain ⟨⟨x0, x1, x2, x3, x4, x5, x6, x7, x8⟩, _⟩ := aah n6; have hx := aaa n6; obtain ⟨⟨s0, s1, s2, s3, s4, s5, s6, s7, s8⟩, e0, e1, e2, e3, e4, e5, e6, e7, e8⟩ := aah p6; have hs6 := aaa p6; have HW5 := hE0 hw5; have HW6 := hE0 hw6; clear z0 z1 z2 z3 z4 z5 hs no hd4 t4 f4 HC m4 m5 hw5 n5 p5 t5 hw6 n6 p6 t6 tf; go_wp2_with (first | (rw [HW5.out]) | (rw [HW6.out]) | fail)
 (try simp only [Exit.inBlock, Exit.then])
 refine aaN (g := w1.heap.size) Tryz.results12 ?_ ?_ MF.out ?_
 · rfl
 · rfl
 · exact ⟨⟨none, 0, rfl, World.ownsRow_nil _ _ _ _⟩, H', HHT.out.ends HH.out HD.out.bel TF.out HD.out.l4 HD.out.l5 (aab HD.out.n4) (aab HD.out.n5), HS.out⟩
theorem aqH {F G : Nat -> Prop} {w : World} {p : Nat} {H : Hp} (h : Hd F G w p H) (q n m a bl k : Nat) (B : Option Addr) (r : (Nat × Int) × Hp) (hc : ∀ W, Below w.heap.size w W -> Calls Tryz.prog 38 #[.pointer (some ⟨p, 0, none⟩), .int .u64 (q : Int), .int .u64 (n : Int)] W fun e w' => apm F G W p r e w') :
 Calls Tryz.prog 12 #[.pointer (some ⟨p, 0, none⟩), aa6 4 q n m a B bl k] w fun e w' => acs F G w p (akq r) e w' := by
 unfold aa6; have hd := Do3.made w #[.int .i64 4, .int .u64 (q : Int), .int .u64 (n : Int), .int .u64 (m : Int), .int .u64 (a : Int), .slice B bl k]; obtain ⟨w1, hw1⟩ := nmE (w.alloc (.cells #[.int .i64 4, .int .u64 (q : Int), .int .u64 (n : Int), .int .u64 (m : Int), .int .u64 (a : Int), .slice B bl k] 38)); rw [hw1] at hd; obtain ⟨w2, hw2⟩ := nmE (w1.alloc (.cells rp0 45)); rw [hw2] at hd; obtain ⟨w3, hw3⟩ := nmE (w2.alloc (.cells rp0 45)); rw [hw3] at hd; unfold rp0 at hw2 hw3; obtain ⟨z0, z1, z2, z3, z4, z5⟩ := aaB hd.n3; have hz := aaa hd.n3; have HD := hE0 hd; have HH := hE0 h; have HW1 := hE0 hw1; have HW2 := hE0 hw2; have HW3 := hE0 hw3; obtain ⟨⟨ph, pc⟩, H2⟩ := r; have HC := hE0 (hc w3 hd.bel); clear h hd hw1 hw2 hw3 hc; go_enter Tryz.func12, Tryz.ntmps12
 go_wp2_with (first | (rw [HW1.out]) | (rw [HW2.out]) | (rw [HW3.out]) | fail)
 refine HC.out.mono ?_; rintro e w4 ⟨rfl, H', ht, hs⟩; dsimp only at hs ⊢; have no : ∀ k, w.heap.size <= k -> ¬ (F k \/ G k) := fun k hk e => by
  rcases e with e | e
  · have := HH.out.fl k e; omega
  · have := HH.out.gl k e; omega
 obtain ⟨F', G', hd4, t4, f4⟩ := ht; have m4 := (t4.block _ (aab HD.out.n4) (no _ HD.out.l4)).trans HD.out.n4; have m5 := (t4.block _ (aab HD.out.n5) (no _ HD.out.l5)).trans HD.out.n5; have HHT : Hid (Ht F G w3 p H' w4) := ⟨F', G', hd4, t4, f4⟩; have HS := hE0 hs; obtain ⟨w5, hw5⟩ := nmE (w4.setCell ⟨w2.heap.size, 1, none⟩ (.int .u64 (ph : Int))); have n5 : w5.heap[w2.heap.size]? = some (.cells #[.int .i64 0, .int .u64 (ph : Int), .int .u64 0, .slice none 0 0, .int .i64 0, .int .i64 0, .int .i64 0, .int .i64 0, .int .i64 0] 45 (0, 0)) := by rw [<- hw5]; exact heap_setCell_same w4 w2.heap.size 1 _ _ _ m5
 have p5 : w5.heap[w1.heap.size]? = some (.cells rp0 45 (0, 0)) := by rw [<- hw5]; exact (Below.heap_setCell w4 ⟨w2.heap.size, 1, none⟩ _ w1.heap.size HD.out.ne).trans m4
 have t5 : Tch (fun k => k = w2.heap.size) w4 w5 := by rw [<- hw5]; exact Tch.set (S := fun k => k = w2.heap.size) w4 ⟨w2.heap.size, 1, none⟩ _ rfl
 obtain ⟨w6, hw6⟩ := nmE (w5.setCell ⟨w2.heap.size, 0, none⟩ (.int .i64 pc)); have n6 : w6.heap[w2.heap.size]? = some (.cells #[.int .i64 pc, .int .u64 (ph : Int), .int .u64 0, .slice none 0 0, .int .i64 0, .int .i64 0, .int .i64 0, .int .i64 0, .int .i64 0] 45 (0, 0)) := by rw [<- hw6]; exact heap_setCell_same w5 w2.heap.size 0 _ _ _ n5
 have p6 : w6.heap[w1.heap.size]? = some (.cells rp0 45 (0, 0)) := by rw [<- hw6]; exact (Below.heap_setCell w5 ⟨w2.heap.size, 0, none⟩ _ w1.heap.size HD.out.ne).trans p5
 have t6 : Tch (fun k => k = w2.heap.size) w5 w6 := by rw [<- hw6]; exact Tch.set (S := fun k => k = w2.heap.size) w5 ⟨w2.heap.size, 0, none⟩ _ rfl
 have tf : Tch (fun k => k = w1.heap.size \/ k = w2.heap.size) w4 (ad1 w6 w1.heap.size (.int .i64 pc) (.int .u64 (ph : Int)) (.int .u64 0) (.slice none 0 0) (.int .i64 0) (.int .i64 0) (.int .i64 0) (.int .i64 0) (.int .i64 0)) :=
  (((Tch.refl (fun k => k = w1.heap.size \/ k = w2.heap.size) w4).trans t5 (fun _ _ e => .inr e)).trans t6 (fun _ _ e => .inr e)).trans (aaE w6 w1.heap.size (.int .i64 pc) (.int .u64 (ph : Int)) (.int .u64 0) (.slice none 0 0) (.int .i64 0) (.int .i64 0) (.int .i64 0) (.int .i64 0) (.int .i64 0)) (fun _ _ e => .inl e)
 have TF := hE0 tf; have MF := hE0 (aa7 p6 (.int .i64 pc) (.int .u64 (ph : Int)) (.int .u64 0) (.slice none 0 0) (.int .i64 0) (.int .i64 0) (.int .i64 0) (.int .i64 0) (.int .i64 0)); obtain ⟨⟨y0, y1, y2, y3, y4, y5, y6, y7, y8⟩, f0, f1, f2, f3, f4, f5, f6, f7, f8⟩ := aah m5; have hy := aaa m5; obtain ⟨⟨u0, u1, u2, u3, u4, u5, u6, u7, u8⟩, v0, v1, v2, v3, v4, v5, v6, v7, v8⟩ := aah n5; have hu := aaa n5; obtain ⟨⟨x0, x1, x2, x3, x4, x5, x6, x7, x8⟩, _⟩ := aah n6; have hx := aaa n6; obtain ⟨⟨s0, s1, s2, s3, s4, s5, s6, s7, s8⟩, e0, e1, e2, e3, e4, e5, e6, e7, e8⟩ := aah p6; have hs6 := aaa p6; have HW5 := hE0 hw5; have HW6 := hE0 hw6; clear z0 z1 z2 z3 z4 z5 hs no hd4 t4 f4 HC m4 m5 hw5 n5 p5 t5 hw6 n6 p6 t6 tf; go_wp2_with (first | (rw [HW5.out]) | (rw [HW6.out]) | fail)
 (try simp only [Exit.inBlock, Exit.then])
 refine aaN (g := w1.heap.size) Tryz.results12 ?_ ?_ MF.out ?_
 · rfl
 · rfl
 · exact ⟨⟨none, 0, rfl, World.ownsRow_nil _ _ _ _⟩, H', HHT.out.ends HH.out HD.out.bel TF.out HD.out.l4 HD.out.l5 (aab HD.out.n4) (aab HD.out.n5), HS.out⟩
theorem aqI {F G : Nat -> Prop} {w : World} {p : Nat} {H : Hp} (h : Hd F G w p H) (q n m a bl k : Nat) (B : Option Addr) :
 Calls Tryz.prog 12 #[.pointer (some ⟨p, 0, none⟩), aa6 0 q n m a B bl k] w fun e w' => acs F G w p (Rp.err 1, H) e w' := by
 unfold aa6; have hd := Do3.made w #[.int .i64 0, .int .u64 (q : Int), .int .u64 (n : Int), .int .u64 (m : Int), .int .u64 (a : Int), .slice B bl k]; obtain ⟨w1, hw1⟩ := nmE (w.alloc (.cells #[.int .i64 0, .int .u64 (q : Int), .int .u64 (n : Int), .int .u64 (m : Int), .int .u64 (a : Int), .slice B bl k] 38)); rw [hw1] at hd; obtain ⟨w2, hw2⟩ := nmE (w1.alloc (.cells rp0 45)); rw [hw2] at hd; obtain ⟨w3, hw3⟩ := nmE (w2.alloc (.cells rp0 45)); rw [hw3] at hd; unfold rp0 at hw2 hw3; obtain ⟨z0, z1, z2, z3, z4, z5⟩ := aaB hd.n3; have hz := aaa hd.n3; have HD := hE0 hd; have HH := hE0 h; have HW1 := hE0 hw1; have HW2 := hE0 hw2; have HW3 := hE0 hw3; clear h hd hw1 hw2 hw3; go_enter Tryz.func12, Tryz.ntmps12
 have HHT : Hid (Ht F G w3 p H w3) := Ht.of (HH.out.below HD.out.bel) (Below.refl _ _); have m4 := HD.out.n4; have m5 := HD.out.n5; obtain ⟨w5, hw5⟩ := nmE (w3.setCell ⟨w2.heap.size, 1, none⟩ (.int .u64 0)); have n5 : w5.heap[w2.heap.size]? = some (.cells #[.int .i64 0, .int .u64 0, .int .u64 0, .slice none 0 0, .int .i64 0, .int .i64 0, .int .i64 0, .int .i64 0, .int .i64 0] 45 (0, 0)) := by rw [<- hw5]; exact heap_setCell_same w3 w2.heap.size 1 _ _ _ m5
 have p5 : w5.heap[w1.heap.size]? = some (.cells rp0 45 (0, 0)) := by rw [<- hw5]; exact (Below.heap_setCell w3 ⟨w2.heap.size, 1, none⟩ _ w1.heap.size HD.out.ne).trans m4
 have t5 : Tch (fun k => k = w2.heap.size) w3 w5 := by rw [<- hw5]; exact Tch.set (S := fun k => k = w2.heap.size) w3 ⟨w2.heap.size, 1, none⟩ _ rfl
 obtain ⟨w6, hw6⟩ := nmE (w5.setCell ⟨w2.heap.size, 0, none⟩ (.int .i64 1)); have n6 : w6.heap[w2.heap.size]? = some (.cells #[.int .i64 1, .int .u64 0, .int .u64 0, .slice none 0 0, .int .i64 0, .int .i64 0, .int .i64 0, .int .i64 0, .int .i64 0] 45 (0, 0)) := by rw [<- hw6]; exact heap_setCell_same w5 w2.heap.size 0 _ _ _ n5
 have p6 : w6.heap[w1.heap.size]? = some (.cells rp0 45 (0, 0)) := by rw [<- hw6]; exact (Below.heap_setCell w5 ⟨w2.heap.size, 0, none⟩ _ w1.heap.size HD.out.ne).trans p5
 have t6 : Tch (fun k => k = w2.heap.size) w5 w6 := by rw [<- hw6]; exact Tch.set (S := fun k => k = w2.heap.size) w5 ⟨w2.heap.size, 0, none⟩ _ rfl
 have tf : Tch (fun k => k = w1.heap.size \/ k = w2.heap.size) w3 (ad1 w6 w1.heap.size (.int .i64 1) (.int .u64 0) (.int .u64 0) (.slice none 0 0) (.int .i64 0) (.int .i64 0) (.int .i64 0) (.int .i64 0) (.int .i64 0)) :=
  (((Tch.refl (fun k => k = w1.heap.size \/ k = w2.heap.size) w3).trans t5 (fun _ _ e => .inr e)).trans t6 (fun _ _ e => .inr e)).trans (aaE w6 w1.heap.size (.int .i64 1) (.int .u64 0) (.int .u64 0) (.slice none 0 0) (.int .i64 0) (.int .i64 0) (.int .i64 0) (.int .i64 0) (.int .i64 0)) (fun _ _ e => .inl e)
 have TF := hE0 tf; have MF := hE0 (aa7 p6 (.int .i64 1) (.int .u64 0) (.int .u64 0) (.slice none 0 0) (.int .i64 0) (.int .i64 0) (.int .i64 0) (.int .i64 0) (.int .i64 0)); obtain ⟨⟨y0, y1, y2, y3, y4, y5, y6, y7, y8⟩, f0, f1, f2, f3, f4, f5, f6, f7, f8⟩ := aah m5; have hy := aaa m5; obtain ⟨⟨u0, u1, u2, u3, u4, u5, u6, u7, u8⟩, v0, v1, v2, v3, v4, v5, v6, v7, v8⟩ := aah n5; have hu := aaa n5; obtain ⟨⟨x0, x1, x2, x3, x4, x5, x6, x7, x8⟩, _⟩ := aah n6; have hx := aaa n6; obtain ⟨⟨s0, s1, s2, s3, s4, s5, s6, s7, s8⟩, e0, e1, e2, e3, e4, e5, e6, e7, e8⟩ := aah p6; have hs6 := aaa p6; have HW5 := hE0 hw5; have HW6 := hE0 hw6; clear m4 m5 hw5 n5 p5 t5 hw6 n6 p6 t6 tf; go_wp2_with (first | (rw [HW1.out]) | (rw [HW2.out]) | (rw [HW3.out]) | (rw [HW5.out]) | (rw [HW6.out]) | fail)
 (try simp only [Exit.inBlock, Exit.then])
 refine aaN (g := w1.heap.size) Tryz.results12 ?_ ?_ MF.out ?_
 · rfl
 · rfl
 · exact ⟨⟨none, 0, rfl, World.ownsRow_nil _ _ _ _⟩, H, HHT.out.ends HH.out HD.out.bel TF.out HD.out.l4 HD.out.l5 (aab HD.out.n4) (aab HD.out.n5), rfl⟩
theorem aqJ {F G : Nat -> Prop} {w : World} {p : Nat} {H : Hp} (h : Hd F G w p H) (q n m a bl k : Nat) (B : Option Addr) (r : Rp × Hp) (hc : ∀ W, Below w.heap.size w W -> Calls Tryz.prog 39 #[.pointer (some ⟨p, 0, none⟩), aa6 5 q n m a B bl k] W fun e w' => acs F G W p r e w') :
 Calls Tryz.prog 12 #[.pointer (some ⟨p, 0, none⟩), aa6 5 q n m a B bl k] w fun e w' => acs F G w p r e w' := by
 unfold aa6 at hc ⊢; have hd := Do3.made w #[.int .i64 5, .int .u64 (q : Int), .int .u64 (n : Int), .int .u64 (m : Int), .int .u64 (a : Int), .slice B bl k]; obtain ⟨w1, hw1⟩ := nmE (w.alloc (.cells #[.int .i64 5, .int .u64 (q : Int), .int .u64 (n : Int), .int .u64 (m : Int), .int .u64 (a : Int), .slice B bl k] 38)); rw [hw1] at hd; obtain ⟨w2, hw2⟩ := nmE (w1.alloc (.cells rp0 45)); rw [hw2] at hd; obtain ⟨w3, hw3⟩ := nmE (w2.alloc (.cells rp0 45)); rw [hw3] at hd; unfold rp0 at hw2 hw3; obtain ⟨z0, z1, z2, z3, z4, z5⟩ := aaB hd.n3; have hz := aaa hd.n3; have HD := hE0 hd; have HH := hE0 h; have HW1 := hE0 hw1; have HW2 := hE0 hw2; have HW3 := hE0 hw3; obtain ⟨⟨rc, rh, rn, rb, ⟨s0, s1, s2, s3, s4⟩⟩, H2⟩ := r; have HC := hE0 (hc w3 hd.bel); clear h hd hw1 hw2 hw3 hc; go_enter Tryz.func12, Tryz.ntmps12
 go_wp2_with (first | (rw [HW1.out]) | (rw [HW2.out]) | (rw [HW3.out]) | fail)
 refine HC.out.mono ?_; rintro e w4 ⟨⟨A', c', rfl, hown⟩, H', ht, hs⟩; dsimp only at hs hown ⊢; have no : ∀ k, w.heap.size <= k -> ¬ (F k \/ G k) := fun k hk e => by
  rcases e with e | e
  · have := HH.out.fl k e; omega
  · have := HH.out.gl k e; omega
 obtain ⟨F', G', hd4, t4, f4⟩ := ht; have m4 := (t4.block _ (aab HD.out.n4) (no _ HD.out.l4)).trans HD.out.n4; have HHT : Hid (Ht F G w3 p H' w4) := ⟨F', G', hd4, t4, f4⟩; have HS := hE0 hs; obtain ⟨rl, hrl⟩ := nmE rb.length; unfold rpV aek; dsimp only; rw [hrl] at hown ⊢; have HRL := hE0 hrl; have tf : Tch (fun k => k = w1.heap.size \/ k = w2.heap.size) w4 (ad1 w4 w1.heap.size (.int .i64 rc) (.int .u64 (rh : Int)) (.int .u64 (rn : Int)) (.slice A' rl c') (.int .i64 (s0 : Int)) (.int .i64 (s1 : Int)) (.int .i64 (s2 : Int)) (.int .i64 (s3 : Int)) (.int .i64 (s4 : Int))) :=
  (Tch.refl (fun k => k = w1.heap.size \/ k = w2.heap.size) w4).trans (aaE w4 w1.heap.size (.int .i64 rc) (.int .u64 (rh : Int)) (.int .u64 (rn : Int)) (.slice A' rl c') (.int .i64 (s0 : Int)) (.int .i64 (s1 : Int)) (.int .i64 (s2 : Int)) (.int .i64 (s3 : Int)) (.int .i64 (s4 : Int))) (fun _ _ e => .inl e)
 have TF := hE0 tf; have MF := hE0 (aa7 m4 (.int .i64 rc) (.int .u64 (rh : Int)) (.int .u64 (rn : Int)) (.slice A' rl c') (.int .i64 (s0 : Int)) (.int .i64 (s1 : Int)) (.int .i64 (s2 : Int)) (.int .i64 (s3 : Int)) (.int .i64 (s4 : Int))); have ow : (ad1 w4 w1.heap.size (.int .i64 rc) (.int .u64 (rh : Int)) (.int .u64 (rn : Int)) (.slice A' rl c') (.int .i64 (s0 : Int)) (.int .i64 (s1 : Int)) (.int .i64 (s2 : Int)) (.int .i64 (s3 : Int)) (.int .i64 (s4 : Int))).ownsRow w.heap.size 5 1 (.slice A' rl c') rl (rb.map bv) := acb (aaI hown HD.out.bel.size) fun k hk => by
  obtain ⟨l1, l2⟩ := hown.lt k hk; have l3 := aab HD.out.n4; exact (aaE _ _ _ _ _ _ _ _ _ _ _).block k l2 (fun e => by have e : k = w1.heap.size := e; omega)
 have OW := hE0 ow; obtain ⟨⟨y0, y1, y2, y3, y4, y5, y6, y7, y8⟩, e0, e1, e2, e3, e4, e5, e6, e7, e8⟩ := aah m4; have hy := aaa m4; clear z0 z1 z2 z3 z4 z5 hs no hd4 t4 f4 HC hrl hown m4 tf ow; go_wp2
 (try simp only [Exit.inBlock, Exit.then])
 refine aaN (g := w1.heap.size) Tryz.results12 ?_ ?_ MF.out ?_
 · rfl
 · rfl
 · exact ⟨⟨A', c', by unfold rpV aek; dsimp only; rw [HRL.out], by dsimp only; rw [HRL.out]; exact OW.out⟩, H', HHT.out.ends HH.out HD.out.bel TF.out HD.out.l4 HD.out.l5 (aab HD.out.n4) (aab HD.out.n5), HS.out⟩
theorem aqK {F G : Nat -> Prop} {w : World} {p : Nat} {H : Hp} (h : Hd F G w p H) (q n m a bl k : Nat) (B : Option Addr) (r : Rp × Hp) (hc : ∀ W, Below w.heap.size w W -> Calls Tryz.prog 39 #[.pointer (some ⟨p, 0, none⟩), aa6 6 q n m a B bl k] W fun e w' => acs F G W p r e w') :
 Calls Tryz.prog 12 #[.pointer (some ⟨p, 0, none⟩), aa6 6 q n m a B bl k] w fun e w' => acs F G w p r e w' := by
 unfold aa6 at hc ⊢; have hd := Do3.made w #[.int .i64 6, .int .u64 (q : Int), .int .u64 (n : Int), .int .u64 (m : Int), .int .u64 (a : Int), .slice B bl k]; obtain ⟨w1, hw1⟩ := nmE (w.alloc (.cells #[.int .i64 6, .int .u64 (q : Int), .int .u64 (n : Int), .int .u64 (m : Int), .int .u64 (a : Int), .slice B bl k] 38)); rw [hw1] at hd; obtain ⟨w2, hw2⟩ := nmE (w1.alloc (.cells rp0 45)); rw [hw2] at hd; obtain ⟨w3, hw3⟩ := nmE (w2.alloc (.cells rp0 45)); rw [hw3] at hd; unfold rp0 at hw2 hw3; obtain ⟨z0, z1, z2, z3, z4, z5⟩ := aaB hd.n3; have hz := aaa hd.n3; have HD := hE0 hd; have HH := hE0 h; have HW1 := hE0 hw1; have HW2 := hE0 hw2; have HW3 := hE0 hw3; obtain ⟨⟨rc, rh, rn, rb, ⟨s0, s1, s2, s3, s4⟩⟩, H2⟩ := r; have HC := hE0 (hc w3 hd.bel); clear h hd hw1 hw2 hw3 hc; go_enter Tryz.func12, Tryz.ntmps12
 go_wp2_with (first | (rw [HW1.out]) | (rw [HW2.out]) | (rw [HW3.out]) | fail)
 refine HC.out.mono ?_; rintro e w4 ⟨⟨A', c', rfl, hown⟩, H', ht, hs⟩; dsimp only at hs hown ⊢; have no : ∀ k, w.heap.size <= k -> ¬ (F k \/ G k) := fun k hk e => by
  rcases e with e | e
  · have := HH.out.fl k e; omega
  · have := HH.out.gl k e; omega
 obtain ⟨F', G', hd4, t4, f4⟩ := ht; have m4 := (t4.block _ (aab HD.out.n4) (no _ HD.out.l4)).trans HD.out.n4; have HHT : Hid (Ht F G w3 p H' w4) := ⟨F', G', hd4, t4, f4⟩; have HS := hE0 hs; obtain ⟨rl, hrl⟩ := nmE rb.length; unfold rpV aek; dsimp only; rw [hrl] at hown ⊢; have HRL := hE0 hrl; have tf : Tch (fun k => k = w1.heap.size \/ k = w2.heap.size) w4 (ad1 w4 w1.heap.size (.int .i64 rc) (.int .u64 (rh : Int)) (.int .u64 (rn : Int)) (.slice A' rl c') (.int .i64 (s0 : Int)) (.int .i64 (s1 : Int)) (.int .i64 (s2 : Int)) (.int .i64 (s3 : Int)) (.int .i64 (s4 : Int))) :=
  (Tch.refl (fun k => k = w1.heap.size \/ k = w2.heap.size) w4).trans (aaE w4 w1.heap.size (.int .i64 rc) (.int .u64 (rh : Int)) (.int .u64 (rn : Int)) (.slice A' rl c') (.int .i64 (s0 : Int)) (.int .i64 (s1 : Int)) (.int .i64 (s2 : Int)) (.int .i64 (s3 : Int)) (.int .i64 (s4 : Int))) (fun _ _ e => .inl e)
 have TF := hE0 tf; have MF := hE0 (aa7 m4 (.int .i64 rc) (.int .u64 (rh : Int)) (.int .u64 (rn : Int)) (.slice A' rl c') (.int .i64 (s0 : Int)) (.int .i64 (s1 : Int)) (.int .i64 (s2 : Int)) (.int .i64 (s3 : Int)) (.int .i64 (s4 : Int))); have ow : (ad1 w4 w1.heap.size (.int .i64 rc) (.int .u64 (rh : Int)) (.int .u64 (rn : Int)) (.slice A' rl c') (.int .i64 (s0 : Int)) (.int .i64 (s1 : Int)) (.int .i64 (s2 : Int)) (.int .i64 (s3 : Int)) (.int .i64 (s4 : Int))).ownsRow w.heap.size 5 1 (.slice A' rl c') rl (rb.map bv) := acb (aaI hown HD.out.bel.size) fun k hk => by
  obtain ⟨l1, l2⟩ := hown.lt k hk; have l3 := aab HD.out.n4; exact (aaE _ _ _ _ _ _ _ _ _ _ _).block k l2 (fun e => by have e : k = w1.heap.size := e; omega)
 have OW := hE0 ow; obtain ⟨⟨y0, y1, y2, y3, y4, y5, y6, y7, y8⟩, e0, e1, e2, e3, e4, e5, e6, e7, e8⟩ := aah m4; have hy := aaa m4; clear z0 z1 z2 z3 z4 z5 hs no hd4 t4 f4 HC hrl hown m4 tf ow; go_wp2
 (try simp only [Exit.inBlock, Exit.then])
 refine aaN (g := w1.heap.size) Tryz.results12 ?_ ?_ MF.out ?_
 · rfl
 · rfl
 · exact ⟨⟨A', c', by unfold rpV aek; dsimp only; rw [HRL.out], by dsimp only; rw [HRL.out]; exact OW.out⟩, H', HHT.out.ends HH.out HD.out.bel TF.out HD.out.l4 HD.out.l5 (aab HD.out.n4) (aab HD.out.n5), HS.out⟩
theorem aqL {F G : Nat -> Prop} {w : World} {p : Nat} {H : Hp} (h : Hd F G w p H) (q n m a bl k : Nat) (B : Option Addr) (r : Rp × Hp) (hc : ∀ W, Below w.heap.size w W -> Calls Tryz.prog 39 #[.pointer (some ⟨p, 0, none⟩), aa6 7 q n m a B bl k] W fun e w' => acs F G W p r e w') :
 Calls Tryz.prog 12 #[.pointer (some ⟨p, 0, none⟩), aa6 7 q n m a B bl k] w fun e w' => acs F G w p r e w' := by
 unfold aa6 at hc ⊢; have hd := Do3.made w #[.int .i64 7, .int .u64 (q : Int), .int .u64 (n : Int), .int .u64 (m : Int), .int .u64 (a : Int), .slice B bl k]; obtain ⟨w1, hw1⟩ := nmE (w.alloc (.cells #[.int .i64 7, .int .u64 (q : Int), .int .u64 (n : Int), .int .u64 (m : Int), .int .u64 (a : Int), .slice B bl k] 38)); rw [hw1] at hd; obtain ⟨w2, hw2⟩ := nmE (w1.alloc (.cells rp0 45)); rw [hw2] at hd; obtain ⟨w3, hw3⟩ := nmE (w2.alloc (.cells rp0 45)); rw [hw3] at hd; unfold rp0 at hw2 hw3; obtain ⟨z0, z1, z2, z3, z4, z5⟩ := aaB hd.n3; have hz := aaa hd.n3; have HD := hE0 hd; have HH := hE0 h; have HW1 := hE0 hw1; have HW2 := hE0 hw2; have HW3 := hE0 hw3; obtain ⟨⟨rc, rh, rn, rb, ⟨s0, s1, s2, s3, s4⟩⟩, H2⟩ := r; have HC := hE0 (hc w3 hd.bel); clear h hd hw1 hw2 hw3 hc; go_enter Tryz.func12, Tryz.ntmps12
 go_wp2_with (first | (rw [HW1.out]) | (rw [HW2.out]) | (rw [HW3.out]) | fail)
 refine HC.out.mono ?_; rintro e w4 ⟨⟨A', c', rfl, hown⟩, H', ht, hs⟩; dsimp only at hs hown ⊢; have no : ∀ k, w.heap.size <= k -> ¬ (F k \/ G k) := fun k hk e => by
  rcases e with e | e
  · have := HH.out.fl k e; omega
  · have := HH.out.gl k e; omega
 obtain ⟨F', G', hd4, t4, f4⟩ := ht; have m4 := (t4.block _ (aab HD.out.n4) (no _ HD.out.l4)).trans HD.out.n4; have HHT : Hid (Ht F G w3 p H' w4) := ⟨F', G', hd4, t4, f4⟩; have HS := hE0 hs; obtain ⟨rl, hrl⟩ := nmE rb.length; unfold rpV aek; dsimp only; rw [hrl] at hown ⊢; have HRL := hE0 hrl; have tf : Tch (fun k => k = w1.heap.size \/ k = w2.heap.size) w4 (ad1 w4 w1.heap.size (.int .i64 rc) (.int .u64 (rh : Int)) (.int .u64 (rn : Int)) (.slice A' rl c') (.int .i64 (s0 : Int)) (.int .i64 (s1 : Int)) (.int .i64 (s2 : Int)) (.int .i64 (s3 : Int)) (.int .i64 (s4 : Int))) :=
  (Tch.refl (fun k => k = w1.heap.size \/ k = w2.heap.size) w4).trans (aaE w4 w1.heap.size (.int .i64 rc) (.int .u64 (rh : Int)) (.int .u64 (rn : Int)) (.slice A' rl c') (.int .i64 (s0 : Int)) (.int .i64 (s1 : Int)) (.int .i64 (s2 : Int)) (.int .i64 (s3 : Int)) (.int .i64 (s4 : Int))) (fun _ _ e => .inl e)
 have TF := hE0 tf; have MF := hE0 (aa7 m4 (.int .i64 rc) (.int .u64 (rh : Int)) (.int .u64 (rn : Int)) (.slice A' rl c') (.int .i64 (s0 : Int)) (.int .i64 (s1 : Int)) (.int .i64 (s2 : Int)) (.int .i64 (s3 : Int)) (.int .i64 (s4 : Int))); have ow : (ad1 w4 w1.heap.size (.int .i64 rc) (.int .u64 (rh : Int)) (.int .u64 (rn : Int)) (.slice A' rl c') (.int .i64 (s0 : Int)) (.int .i64 (s1 : Int)) (.int .i64 (s2 : Int)) (.int .i64 (s3 : Int)) (.int .i64 (s4 : Int))).ownsRow w.heap.size 5 1 (.slice A' rl c') rl (rb.map bv) := acb (aaI hown HD.out.bel.size) fun k hk => by
  obtain ⟨l1, l2⟩ := hown.lt k hk; have l3 := aab HD.out.n4; exact (aaE _ _ _ _ _ _ _ _ _ _ _).block k l2 (fun e => by have e : k = w1.heap.size := e; omega)
 have OW := hE0 ow; obtain ⟨⟨y0, y1, y2, y3, y4, y5, y6, y7, y8⟩, e0, e1, e2, e3, e4, e5, e6, e7, e8⟩ := aah m4; have hy := aaa m4; clear z0 z1 z2 z3 z4 z5 hs no hd4 t4 f4 HC hrl hown m4 tf ow; go_wp2
 (try simp only [Exit.inBlock, Exit.then])
 refine aaN (g := w1.heap.size) Tryz.results12 ?_ ?_ MF.out ?_
 · rfl
 · rfl
 · exact ⟨⟨A', c', by unfold rpV aek; dsimp only; rw [HRL.out], by dsimp only; rw [HRL.out]; exact OW.out⟩, H', HHT.out.ends HH.out HD.out.bel TF.out HD.out.l4 HD.out.l5 (aab HD.out.n4) (aab HD.out.n5), HS.out⟩
theorem aqM {F G : Nat -> Prop} {w : World} {p : Nat} {H : Hp} (h : Hd F G w p H) (q n m a bl k : Nat) (B : Option Addr) (hok : H.Ok) (hq : q < 18446744073709551616) (N : Nat) (hf : H.Few N) (hN : N <= 50000) (H2 : Hp) (code : Int) (hr : (match H.handleB q with
 | none => (code = 4 /\ H2 = H)
 | some i => (code = 0 /\ H2 = H.give i /\ DsS H.ds (H.give i).ds))) :
 Calls Tryz.prog 12 #[.pointer (some ⟨p, 0, none⟩), aa6 3 q n m a B bl k] w fun e w' => acs F G w p (Rp.err code, H2) e w' := by
 unfold aa6; have hd := Do3.made w #[.int .i64 3, .int .u64 (q : Int), .int .u64 (n : Int), .int .u64 (m : Int), .int .u64 (a : Int), .slice B bl k]; obtain ⟨w1, hw1⟩ := nmE (w.alloc (.cells #[.int .i64 3, .int .u64 (q : Int), .int .u64 (n : Int), .int .u64 (m : Int), .int .u64 (a : Int), .slice B bl k] 38)); rw [hw1] at hd; obtain ⟨w2, hw2⟩ := nmE (w1.alloc (.cells rp0 45)); rw [hw2] at hd; obtain ⟨w3, hw3⟩ := nmE (w2.alloc (.cells rp0 45)); rw [hw3] at hd; unfold rp0 at hw2 hw3; obtain ⟨z0, z1, z2, z3, z4, z5⟩ := aaB hd.n3; have hz := aaa hd.n3; have HD := hE0 hd; have HH := hE0 h; have HW1 := hE0 hw1; have HW2 := hE0 hw2; have HW3 := hE0 hw3; obtain ⟨Vb, Vd, gl, cs, hmm⟩ := (h.below hd.bel).hm; have hn512 := hok.n; obtain ⟨x, hx⟩ := nmE (H.handleB q); have HHD := hE0 (adf hmm (by omega) q hq x hx); rw [hx] at hr
 cases x with
 | none =>
  dsimp only at hr; obtain ⟨rfl, rfl⟩ := hr; clear h hd hw1 hw2 hw3 hmm hx hok hf; go_enter Tryz.func12, Tryz.ntmps12
  have HHT : Hid (Ht F G w3 p H2 w3) := Ht.of (HH.out.below HD.out.bel) (Below.refl _ _); have m4 := HD.out.n4; have m5 := HD.out.n5; obtain ⟨w5, hw5⟩ := nmE (w3.setCell ⟨w2.heap.size, 1, none⟩ (.int .u64 0)); have n5 : w5.heap[w2.heap.size]? = some (.cells #[.int .i64 0, .int .u64 0, .int .u64 0, .slice none 0 0, .int .i64 0, .int .i64 0, .int .i64 0, .int .i64 0, .int .i64 0] 45 (0, 0)) := by rw [<- hw5]; exact heap_setCell_same w3 w2.heap.size 1 _ _ _ m5
  have p5 : w5.heap[w1.heap.size]? = some (.cells rp0 45 (0, 0)) := by rw [<- hw5]; exact (Below.heap_setCell w3 ⟨w2.heap.size, 1, none⟩ _ w1.heap.size HD.out.ne).trans m4
  have t5 : Tch (fun k => k = w2.heap.size) w3 w5 := by rw [<- hw5]; exact Tch.set (S := fun k => k = w2.heap.size) w3 ⟨w2.heap.size, 1, none⟩ _ rfl
  obtain ⟨w6, hw6⟩ := nmE (w5.setCell ⟨w2.heap.size, 0, none⟩ (.int .i64 4)); have n6 : w6.heap[w2.heap.size]? = some (.cells #[.int .i64 4, .int .u64 0, .int .u64 0, .slice none 0 0, .int .i64 0, .int .i64 0, .int .i64 0, .int .i64 0, .int .i64 0] 45 (0, 0)) := by rw [<- hw6]; exact heap_setCell_same w5 w2.heap.size 0 _ _ _ n5
  have p6 : w6.heap[w1.heap.size]? = some (.cells rp0 45 (0, 0)) := by rw [<- hw6]; exact (Below.heap_setCell w5 ⟨w2.heap.size, 0, none⟩ _ w1.heap.size HD.out.ne).trans p5
  have t6 : Tch (fun k => k = w2.heap.size) w5 w6 := by rw [<- hw6]; exact Tch.set (S := fun k => k = w2.heap.size) w5 ⟨w2.heap.size, 0, none⟩ _ rfl
  have tf : Tch (fun k => k = w1.heap.size \/ k = w2.heap.size) w3 (ad1 w6 w1.heap.size (.int .i64 4) (.int .u64 0) (.int .u64 0) (.slice none 0 0) (.int .i64 0) (.int .i64 0) (.int .i64 0) (.int .i64 0) (.int .i64 0)) :=
   (((Tch.refl (fun k => k = w1.heap.size \/ k = w2.heap.size) w3).trans t5 (fun _ _ e => .inr e)).trans t6 (fun _ _ e => .inr e)).trans (aaE w6 w1.heap.size (.int .i64 4) (.int .u64 0) (.int .u64 0) (.slice none 0 0) (.int .i64 0) (.int .i64 0) (.int .i64 0) (.int .i64 0) (.int .i64 0)) (fun _ _ e => .inl e)
  have TF := hE0 tf; have MF := hE0 (aa7 p6 (.int .i64 4) (.int .u64 0) (.int .u64 0) (.slice none 0 0) (.int .i64 0) (.int .i64 0) (.int .i64 0) (.int .i64 0) (.int .i64 0)); obtain ⟨⟨y0, y1, y2, y3, y4, y5, y6, y7, y8⟩, f0, f1, f2, f3, f4, f5, f6, f7, f8⟩ := aah m5; have hy := aaa m5; obtain ⟨⟨u0, u1, u2, u3, u4, u5, u6, u7, u8⟩, v0, v1, v2, v3, v4, v5, v6, v7, v8⟩ := aah n5; have hu := aaa n5; obtain ⟨⟨x0, x1, x2, x3, x4, x5, x6, x7, x8⟩, _⟩ := aah n6; have hx := aaa n6; obtain ⟨⟨s0, s1, s2, s3, s4, s5, s6, s7, s8⟩, e0, e1, e2, e3, e4, e5, e6, e7, e8⟩ := aah p6; have hs6 := aaa p6; have HW5 := hE0 hw5; have HW6 := hE0 hw6; clear m4 m5 hw5 n5 p5 t5 hw6 n6 p6 t6 tf; go_wp2_with (first | (rw [HW1.out]) | (rw [HW2.out]) | (rw [HW3.out]) | fail)
  refine HHD.out.mono ?_; rintro e w4 ⟨rfl, rfl⟩; dsimp only [ixV]; go_wp2_with (first | (rw [HW5.out]) | (rw [HW6.out]) | fail)
  (try simp only [Exit.inBlock, Exit.then])
  refine aaN (g := w1.heap.size) Tryz.results12 ?_ ?_ MF.out ?_
  · rfl
  · rfl
  · exact ⟨⟨none, 0, rfl, World.ownsRow_nil _ _ _ _⟩, H2, HHT.out.ends HH.out HD.out.bel TF.out HD.out.l4 HD.out.l5 (aab HD.out.n4) (aab HD.out.n5), rfl⟩
 | some i =>
  dsimp only at hr; obtain ⟨rfl, rfl, hds⟩ := hr; have hi : i < H.blks.length := by
   obtain ⟨_, _, hu⟩ := abO hx; exact (abe hu).1
  have HGV := hE0 (afb hmm hok N hf hN i hi); have HDS := hE0 hds; have hi0 : decide ((0 : Int) <= (i : Int)) = true := decide_eq_true (by omega); clear h hd hw1 hw2 hw3 hmm hx hok hf hds; go_enter Tryz.func12, Tryz.ntmps12
  go_wp2_with (first | (rw [HW1.out]) | (rw [HW2.out]) | (rw [HW3.out]) | fail)
  refine HHD.out.mono ?_; rintro e w4 ⟨rfl, rfl⟩; dsimp only [ixV]; go_wp2_with fail
  refine HGV.out.mono ?_; rintro e w4 ⟨rfl, htt⟩; have ht := (HH.out.below HD.out.bel).ht htt HDS.out.1 (HDS.out.2 HH.out.sep); have no : ∀ k, w.heap.size <= k -> ¬ (F k \/ G k) := fun k hk e => by
   rcases e with e | e
   · have := HH.out.fl k e; omega
   · have := HH.out.gl k e; omega
  obtain ⟨F', G', hd4, t4, f4⟩ := ht; have m4 := (t4.block _ (aab HD.out.n4) (no _ HD.out.l4)).trans HD.out.n4; have m5 := (t4.block _ (aab HD.out.n5) (no _ HD.out.l5)).trans HD.out.n5; have HHT : Hid (Ht F G w3 p (H.give i) w4) := ⟨F', G', hd4, t4, f4⟩; obtain ⟨w5, hw5⟩ := nmE (w4.setCell ⟨w2.heap.size, 1, none⟩ (.int .u64 0)); have n5 : w5.heap[w2.heap.size]? = some (.cells #[.int .i64 0, .int .u64 0, .int .u64 0, .slice none 0 0, .int .i64 0, .int .i64 0, .int .i64 0, .int .i64 0, .int .i64 0] 45 (0, 0)) := by rw [<- hw5]; exact heap_setCell_same w4 w2.heap.size 1 _ _ _ m5
  have p5 : w5.heap[w1.heap.size]? = some (.cells rp0 45 (0, 0)) := by rw [<- hw5]; exact (Below.heap_setCell w4 ⟨w2.heap.size, 1, none⟩ _ w1.heap.size HD.out.ne).trans m4
  have t5 : Tch (fun k => k = w2.heap.size) w4 w5 := by rw [<- hw5]; exact Tch.set (S := fun k => k = w2.heap.size) w4 ⟨w2.heap.size, 1, none⟩ _ rfl
  obtain ⟨w6, hw6⟩ := nmE (w5.setCell ⟨w2.heap.size, 0, none⟩ (.int .i64 0)); have n6 : w6.heap[w2.heap.size]? = some (.cells #[.int .i64 0, .int .u64 0, .int .u64 0, .slice none 0 0, .int .i64 0, .int .i64 0, .int .i64 0, .int .i64 0, .int .i64 0] 45 (0, 0)) := by rw [<- hw6]; exact heap_setCell_same w5 w2.heap.size 0 _ _ _ n5
  have p6 : w6.heap[w1.heap.size]? = some (.cells rp0 45 (0, 0)) := by rw [<- hw6]; exact (Below.heap_setCell w5 ⟨w2.heap.size, 0, none⟩ _ w1.heap.size HD.out.ne).trans p5
  have t6 : Tch (fun k => k = w2.heap.size) w5 w6 := by rw [<- hw6]; exact Tch.set (S := fun k => k = w2.heap.size) w5 ⟨w2.heap.size, 0, none⟩ _ rfl
  have tf : Tch (fun k => k = w1.heap.size \/ k = w2.heap.size) w4 (ad1 w6 w1.heap.size (.int .i64 0) (.int .u64 0) (.int .u64 0) (.slice none 0 0) (.int .i64 0) (.int .i64 0) (.int .i64 0) (.int .i64 0) (.int .i64 0)) :=
   (((Tch.refl (fun k => k = w1.heap.size \/ k = w2.heap.size) w4).trans t5 (fun _ _ e => .inr e)).trans t6 (fun _ _ e => .inr e)).trans (aaE w6 w1.heap.size (.int .i64 0) (.int .u64 0) (.int .u64 0) (.slice none 0 0) (.int .i64 0) (.int .i64 0) (.int .i64 0) (.int .i64 0) (.int .i64 0)) (fun _ _ e => .inl e)
  have TF := hE0 tf; have MF := hE0 (aa7 p6 (.int .i64 0) (.int .u64 0) (.int .u64 0) (.slice none 0 0) (.int .i64 0) (.int .i64 0) (.int .i64 0) (.int .i64 0) (.int .i64 0)); obtain ⟨⟨y0, y1, y2, y3, y4, y5, y6, y7, y8⟩, f0, f1, f2, f3, f4, f5, f6, f7, f8⟩ := aah m5; have hy := aaa m5; obtain ⟨⟨u0, u1, u2, u3, u4, u5, u6, u7, u8⟩, v0, v1, v2, v3, v4, v5, v6, v7, v8⟩ := aah n5; have hu := aaa n5; obtain ⟨⟨x0, x1, x2, x3, x4, x5, x6, x7, x8⟩, _⟩ := aah n6; have hx := aaa n6; obtain ⟨⟨s0, s1, s2, s3, s4, s5, s6, s7, s8⟩, e0, e1, e2, e3, e4, e5, e6, e7, e8⟩ := aah p6; have hs6 := aaa p6; have HW5 := hE0 hw5; have HW6 := hE0 hw6; clear z0 z1 z2 z3 z4 z5 no hd4 t4 f4 HGV HHD htt m4 m5 hw5 n5 p5 t5 hw6 n6 p6 t6 tf; go_wp2_with (first | (rw [HW5.out]) | (rw [HW6.out]) | fail)
  (try simp only [Exit.inBlock, Exit.then])
  refine aaN (g := w1.heap.size) Tryz.results12 ?_ ?_ MF.out ?_
  · rfl
  · rfl
  · exact ⟨⟨none, 0, rfl, World.ownsRow_nil _ _ _ _⟩, H.give i, HHT.out.ends HH.out HD.out.bel TF.out HD.out.l4 HD.out.l5 (aab HD.out.n4) (aab HD.out.n5), rfl⟩
theorem aqN {F G : Nat -> Prop} {w : World} {p : Nat} {H : Hp} (h : Hd F G w p H) (q n m a bl k : Nat) (B : Option Addr) (r : St5) (hc : ∀ W, Below w.heap.size w W -> Calls Tryz.prog 40 #[.pointer (some ⟨p, 0, none⟩)] W fun e w' => e = .returned (stV r) /\ Below W.heap.size W w') :
 Calls Tryz.prog 12 #[.pointer (some ⟨p, 0, none⟩), aa6 8 q n m a B bl k] w fun e w' => acs F G w p (⟨0, 0, 0, [], r⟩, H) e w' := by
 unfold aa6; have hd := Do3.made w #[.int .i64 8, .int .u64 (q : Int), .int .u64 (n : Int), .int .u64 (m : Int), .int .u64 (a : Int), .slice B bl k]; obtain ⟨w1, hw1⟩ := nmE (w.alloc (.cells #[.int .i64 8, .int .u64 (q : Int), .int .u64 (n : Int), .int .u64 (m : Int), .int .u64 (a : Int), .slice B bl k] 38)); rw [hw1] at hd; obtain ⟨w2, hw2⟩ := nmE (w1.alloc (.cells rp0 45)); rw [hw2] at hd; obtain ⟨w3, hw3⟩ := nmE (w2.alloc (.cells rp0 45)); rw [hw3] at hd; unfold rp0 at hw2 hw3; obtain ⟨z0, z1, z2, z3, z4, z5⟩ := aaB hd.n3; have hz := aaa hd.n3; have HD := hE0 hd; have HH := hE0 h; have HW1 := hE0 hw1; have HW2 := hE0 hw2; have HW3 := hE0 hw3; have hO := hc w3 hd.bel; obtain ⟨s0, s1, s2, s3, s4⟩ := r; dsimp only [stV] at hO; have HO := hE0 hO; clear h hd hw1 hw2 hw3 hc hO; go_enter Tryz.func12, Tryz.ntmps12
 go_wp2_with (first | (rw [HW1.out]) | (rw [HW2.out]) | (rw [HW3.out]) | fail)
 refine HO.out.mono ?_; rintro e w4 ⟨rfl, hb4⟩; have HHT : Hid (Ht F G w3 p H w4) := Ht.of (HH.out.below HD.out.bel) hb4; have m4 := (hb4.block _ (aab HD.out.n4)).trans HD.out.n4; have m5 := (hb4.block _ (aab HD.out.n5)).trans HD.out.n5; obtain ⟨⟨y0, y1, y2, y3, y4, y5, y6, y7, y8⟩, f0, f1, f2, f3, f4, f5, f6, f7, f8⟩ := aah m5; have hy := aaa m5; clear z0 z1 z2 z3 z4 z5 hz HO hb4; obtain ⟨w7, hw7⟩ := nmE (((((w4.setCell ⟨w2.heap.size, 4, none⟩ (.int .i64 (s0 : Int))).setCell ⟨w2.heap.size, 5, none⟩ (.int .i64 (s1 : Int))).setCell ⟨w2.heap.size, 6, none⟩ (.int .i64 (s2 : Int))).setCell ⟨w2.heap.size, 7, none⟩ (.int .i64 (s3 : Int))).setCell ⟨w2.heap.size, 8, none⟩ (.int .i64 (s4 : Int))); have m7 : w7.heap[w2.heap.size]? = some (.cells #[.int .i64 0, .int .u64 0, .int .u64 0, .slice none 0 0, .int .i64 (s0 : Int), .int .i64 (s1 : Int), .int .i64 (s2 : Int), .int .i64 (s3 : Int), .int .i64 (s4 : Int)] 45 (0, 0)) := by rw [<- hw7]; exact ap1 m5 _ _ _ _ _
 have t7 : Tch (fun k => k = w2.heap.size) w4 w7 := by rw [<- hw7]; exact an4 _ _ _ _ _ _ _
 have m47 : w7.heap[w1.heap.size]? = some (.cells rp0 45 (0, 0)) := (t7.block _ (aab m4) HD.out.ne).trans m4; have HW7 := hE0 hw7; have T7 := hE0 t7; clear hw7 t7 m4 m5; obtain ⟨w5, hw5⟩ := nmE (w7.setCell ⟨w2.heap.size, 1, none⟩ (.int .u64 0)); have n5 : w5.heap[w2.heap.size]? = some (.cells #[.int .i64 0, .int .u64 0, .int .u64 0, .slice none 0 0, .int .i64 (s0 : Int), .int .i64 (s1 : Int), .int .i64 (s2 : Int), .int .i64 (s3 : Int), .int .i64 (s4 : Int)] 45 (0, 0)) := by rw [<- hw5]; exact heap_setCell_same w7 w2.heap.size 1 _ _ _ m7
 have p5 : w5.heap[w1.heap.size]? = some (.cells rp0 45 (0, 0)) := by rw [<- hw5]; exact (Below.heap_setCell w7 ⟨w2.heap.size, 1, none⟩ _ w1.heap.size HD.out.ne).trans m47
 have t5 : Tch (fun k => k = w2.heap.size) w7 w5 := by rw [<- hw5]; exact Tch.set (S := fun k => k = w2.heap.size) w7 ⟨w2.heap.size, 1, none⟩ _ rfl
 obtain ⟨w6, hw6⟩ := nmE (w5.setCell ⟨w2.heap.size, 0, none⟩ (.int .i64 0)); have n6 : w6.heap[w2.heap.size]? = some (.cells #[.int .i64 0, .int .u64 0, .int .u64 0, .slice none 0 0, .int .i64 (s0 : Int), .int .i64 (s1 : Int), .int .i64 (s2 : Int), .int .i64 (s3 : Int), .int .i64 (s4 : Int)] 45 (0, 0)) := by rw [<- hw6]; exact heap_setCell_same w5 w2.heap.size 0 _ _ _ n5
 have p6 : w6.heap[w1.heap.size]? = some (.cells rp0 45 (0, 0)) := by rw [<- hw6]; exact (Below.heap_setCell w5 ⟨w2.heap.size, 0, none⟩ _ w1.heap.size HD.out.ne).trans p5
 have t6 : Tch (fun k => k = w2.heap.size) w5 w6 := by rw [<- hw6]; exact Tch.set (S := fun k => k = w2.heap.size) w5 ⟨w2.heap.size, 0, none⟩ _ rfl
 have tf : Tch (fun k => k = w1.heap.size \/ k = w2.heap.size) w7 (ad1 w6 w1.heap.size (.int .i64 0) (.int .u64 0) (.int .u64 0) (.slice none 0 0) (.int .i64 (s0 : Int)) (.int .i64 (s1 : Int)) (.int .i64 (s2 : Int)) (.int .i64 (s3 : Int)) (.int .i64 (s4 : Int))) :=
  (((Tch.refl (fun k => k = w1.heap.size \/ k = w2.heap.size) w7).trans t5 (fun _ _ e => .inr e)).trans t6 (fun _ _ e => .inr e)).trans (aaE w6 w1.heap.size (.int .i64 0) (.int .u64 0) (.int .u64 0) (.slice none 0 0) (.int .i64 (s0 : Int)) (.int .i64 (s1 : Int)) (.int .i64 (s2 : Int)) (.int .i64 (s3 : Int)) (.int .i64 (s4 : Int))) (fun _ _ e => .inl e)
 have TF := hE0 tf; have MF := hE0 (aa7 p6 (.int .i64 0) (.int .u64 0) (.int .u64 0) (.slice none 0 0) (.int .i64 (s0 : Int)) (.int .i64 (s1 : Int)) (.int .i64 (s2 : Int)) (.int .i64 (s3 : Int)) (.int .i64 (s4 : Int))); obtain ⟨⟨b0, b1, b2, b3, b4, b5, b6, b7, b8⟩, g0, g1, g2, g3, g4, g5, g6, g7, g8⟩ := aah m7; have hb := aaa m7; obtain ⟨⟨u0, u1, u2, u3, u4, u5, u6, u7, u8⟩, v0, v1, v2, v3, v4, v5, v6, v7, v8⟩ := aah n5; have hu := aaa n5; obtain ⟨⟨x0, x1, x2, x3, x4, x5, x6, x7, x8⟩, _⟩ := aah n6; have hx := aaa n6; obtain ⟨⟨s0, s1, s2, s3, s4, s5, s6, s7, s8⟩, e0, e1, e2, e3, e4, e5, e6, e7, e8⟩ := aah p6; have hs6 := aaa p6; have HW5 := hE0 hw5; have HW6 := hE0 hw6; clear m47 m7 hw5 n5 p5 t5 hw6 n6 p6 t6 tf; go_wp2_with (first | (rw [HW7.out]) | (rw [HW5.out]) | (rw [HW6.out]) | fail)
 (try simp only [Exit.inBlock, Exit.then])
 refine aaN (g := w1.heap.size) Tryz.results12 ?_ ?_ MF.out ?_
 · rfl
 · rfl
 · exact ⟨⟨none, 0, rfl, World.ownsRow_nil _ _ _ _⟩, H, HHT.out.ends HH.out HD.out.bel (((Tch.refl (fun k => k = w1.heap.size \/ k = w2.heap.size) w4).trans T7.out (fun _ _ e => .inr e)).trans TF.out (fun _ _ e => e)) HD.out.l4 HD.out.l5 (aab HD.out.n4) (aab HD.out.n5), rfl⟩
section
variable {H : Hp}
theorem ai2 {n : Nat} {x : UInt8} : (H.get n x).2.cap = H.cap := by
 unfold Hp.get; split
 · rfl
 · split
   · rfl
   · dsimp only; split
     · exact take_cap
     · exact take_cap
theorem calloc_cap {n m : Nat} : (H.calloc n m).2.cap = H.cap := by
 unfold Hp.calloc; split
 · rfl
 · exact ai2
theorem ai3 {p n : Nat} : (H.realloc p n).2.cap = H.cap := by
 unfold Hp.realloc; split
 · rfl
 · split
   · rfl
   · split
     · dsimp only; split
       · exact resize_cap
       · exact resize_cap
     · exact resize_cap
theorem al5 {p : Nat} : (H.freeP p).2.cap = H.cap := by
 unfold Hp.freeP; split
 · rfl
 · exact aeO
theorem akk {p a : Nat} {b : List UInt8} : (H.writeP p a b).2.cap = H.cap := by
 unfold Hp.writeP; split
 · rfl
 · split <;> rfl
end
structure Hv (B : Nat) (w : World) (q g base cap : Nat) (A : Option Addr) (c : Nat) (bs : List UInt8) (H : Hp) : Prop where
 ph : PH w q g base cap A c bs H
 qB : B <= q
 gB : B <= g
 aB : ∀ a, A = some a -> B <= a.block
section
variable {B : Nat} {w w' : World} {q g base cap c : Nat} {A : Option Addr} {bs : List UInt8} {H H' : Hp}
theorem Hv.fB (h : Hv B w q g base cap A c bs H) {k : Nat} (hk : abg g A k) : B <= k := by
 rcases hk with rfl | ⟨a, e, rfl⟩
 · exact h.gB
 · exact h.aB a e
theorem Hv.below (h : Hv B w q g base cap A c bs H) (hb : Below w.heap.size w w') : Hv B w' q g base cap A c bs H := ⟨h.ph.below hb, h.qB, h.gB, h.aB⟩
theorem Hv.turn (h : Hv B w q g base cap A c bs H) (hB : B <= w.heap.size) (ht : PTurn g base cap A H' w w') (hc : H'.cap = cap) : ∃ A' c' bs', Hv B w' q g base cap A' c' bs' H' /\ Tch (abg g A) w w' /\ (A' = A \/ ∀ a, A' = some a -> w.heap.size <= a.block) := by
 obtain ⟨A', c', out, h1, h2, h3⟩ := ht.ph h.ph hc; refine ⟨A', c', out, ⟨h1, h.qB, h.gB, fun a e => ?_⟩, h2, h3⟩; rcases h3 with h3 | h3
 · exact h.aB a (h3 ▸ e)
 · exact Nat.le_trans hB (h3 a e)
theorem Hv.low (h : Hv B w q g base cap A c bs H) (hB : B <= w.heap.size) (ht : Tch (abg g A) w w') : Below B w w' := ht.below (fun _ hk => h.fB hk) hB
theorem PMade.hv {e : Ending} (h : PMade base cap H w e w') : ∃ q g A c bs, e = .returned (.tuple #[.pointer (some ⟨q, 0, none⟩), .nilIface]) /\ Hv w.heap.size w' q g base cap A c bs H /\ Below w.heap.size w w' := by
 obtain ⟨q, g, A, c, bs, he, hp, hb, h1, h2, h3⟩ := h; exact ⟨q, g, A, c, bs, he, ⟨hp, h1, h2, h3⟩, hb⟩
theorem Hv.less {B' : Nat} (h : Hv B w q g base cap A c bs H) (hB : B' <= B) : Hv B' w q g base cap A c bs H := ⟨h.ph, Nat.le_trans hB h.qB, Nat.le_trans hB h.gB, fun a e => Nat.le_trans hB (h.aB a e)⟩
theorem al6 (h : PH w q g base cap A c bs H) (p : Nat) (hp : p < 18446744073709551616) (hh : H.handleB p = none) :
 Calls Tryz.prog 26 #[.pointer (some ⟨q, 0, none⟩), .int .u64 (p : Int)] w fun e w' => e = .returned (.iface 67 (.int .i64 4)) /\ Below w.heap.size w w' := by
 have hF := acK h p hp; rw [hh] at hF; dsimp only [bkV, aaz, Option.map, Option.isSome] at hF; have HF := hE0 hF; clear h hF hh; go_enter Tryz.func26, Tryz.ntmps26
 go_wp2_with fail
 refine HF.out.mono ?_; rintro e w2 ⟨rfl, hb⟩; have HT := hE0 (hb.alloc hb.size (.cells #[.int .i64 0, .int .i64 0, .bool false] 81)); clear hb HF; go_wp2
 go_ret
 exact ⟨rfl, HT.out⟩
end
theorem akl (w : World) (x : UInt8) : (Instr.buildSlice 36 1 #[(0, .int .u8 (x.toNat : Int))]).run Tryz.prog w = .ok (.slice (some ⟨w.heap.size, 0, none⟩) 1 1) (w.alloc (.cells (afG [x]) 5)) := by
 obtain ⟨i0, hi, hz0, hz1, hz2⟩ := info_parts aeA; refine run_buildSlice w 36 5 1 _ _ i0 _ Tryz.underlying36 hi hz0 (by omega) (by omega) ?_; rw [hz1]; have e : Array.range (1 * 1) = #[0] := by decide
 rw [e]; simp [Instr.fill, Value.cells, afG, bv]
theorem afs {w : World} {B n : Nat} {A : Option Addr} {bs : List UInt8} (h : Rd w B A n bs) (c : Nat) (x : LaterB B w) : (convert 36 9 (.slice A n c)).run Tryz.prog x.val = .ok (.string (ap6 bs)) x.val := ah7 (h.below x.ext)
theorem Rd.ownR {w : World} {base n c : Nat} {A : Option Addr} {bs : List UInt8} (h : w.ownsRow base 5 1 (.slice A n c) n (bs.map bv)) : Rd w w.heap.size A n bs := by
 obtain ⟨A', c', e, _, hr⟩ := ah5 h; injection e with e1; subst e1; exact hr
def up14A : Hp := ((adQ 1024).get 5 165).2
def up14B : Hp := (up14A.calloc 3 4).2
theorem ag2 (w : World) :
 Calls Tryz.prog 4 #[] w fun e w' => e = .returned (.bool true) /\ Below w.heap.size w w' := by
 have t1 : ((adQ 1024).get 5 165).1 = (192, 0) := by kernel_rfl
 have t2 : up14A.usableP 192 = (16, 0) := by kernel_rfl
 obtain ⟨y, hy⟩ : ∃ y : List UInt8, [165] = y := ⟨_, rfl⟩; have t3 : up14A.readP 192 0 1 = (y, 0) := by rw [<- hy]; kernel_rfl
 have hyl : y.length = 1 := by rw [<- hy]; rfl
 have HBS : Hid (∀ W : World, (Instr.buildSlice 36 1 #[(0, .int .u8 165)]).run Tryz.prog W = .ok (.slice (some ⟨W.heap.size, 0, none⟩) 1 1) (W.alloc (.cells (afG y) 5))) := fun W => by rw [<- hy]; exact akl W 165
 have t4 : (up14A.calloc 3 4).1 = (224, 0) := by kernel_rfl
 obtain ⟨z, hz⟩ := nmE (List.replicate 16 (0 : UInt8)); have t5 : up14B.readP 224 0 16 = (z, 0) := by rw [<- hz]; kernel_rfl
 have hzl : z.length = 16 := by rw [<- hz]; exact List.length_replicate
 have t6 : up14B.handleB 193 = none := by kernel_rfl
 have c1 : up14A.cap = 1024 := ai2; have c2 : up14B.cap = 1024 := calloc_cap.trans c1; have HMK : ∀ W : World, (Instr.makeSlice 36 (.int .i64 16) (.int .i64 16)).run Tryz.prog W = .ok (.slice (some ⟨W.heap.size, 0, none⟩) 16 16) (W.alloc (.cells (afG z) 5)) := aos 16 (by omega) z hz; have HMK := hE0 HMK; have T1 := hE0 t1; have T2 := hE0 t2; have T3 := hE0 t3; have T4 := hE0 t4; have T5 := hE0 t5; have T6 := hE0 t6; have C1 := hE0 c1; have C2 := hE0 c2; have ZL := hE0 hzl; have YL := hE0 hyl; have HN := hE0 (afr w 64 1024 (by omega) (by omega) (by omega) (by omega)); clear hz t1 t2 t3 t4 t5 t6 c1 c2 hzl hy hyl; go_enter Tryz.func4, Tryz.ntmps4
 go_wp2_with fail
 refine HN.out.mono ?_; intro e w1 hm; obtain ⟨q, g, A, c, bs, rfl, hv, hb⟩ := hm.hv; have HB1 := hE0 hb; have HV1 := hE0 hv; clear hm hb hv HN; go_wp2_with fail
 refine (afn HV1.out.ph 5 (by omega)).mono ?_; rintro e w2 ⟨rfl, ht⟩; obtain ⟨A2, cc2, bs2, hv2, tc2, _⟩ := HV1.out.turn HB1.out.size ht C1.out; have HB2 := hE0 (HB1.out.trans (HV1.out.low HB1.out.size tc2)); have HV2 : Hid (Hv w.heap.size w2 q g 64 1024 A2 cc2 bs2 up14A) := hv2; clear ht hv2 tc2 HV1 HB1; rw [T1.out]; dsimp only [af5]; go_wp2_with fail
 refine (aeI HV2.out.ph 192 (by omega)).mono ?_; rintro e w3 ⟨rfl, hb3⟩; have HV3 := hE0 (HV2.out.below hb3); have HB3 := hE0 (HB2.out.trans (hb3.mono HB2.out.size)); clear hb3 HV2 HB2; rw [T2.out]; dsimp only [af5]; go_wp2_with fail
 refine (afq HV3.out.ph 192 0 1 (by omega) (by omega) (by omega)).mono ?_; rintro e w4 ⟨A4, c4, rfl, ho4, hb4⟩; rw [T3.out] at ho4 ⊢; dsimp only at ho4 ⊢; rw [YL.out] at ho4 ⊢; have HR4 := hE0 (Rd.ownR ho4); have HV4 := hE0 (HV3.out.below hb4); have HB4 := hE0 (HB3.out.trans (hb4.mono HB3.out.size)); have HO4 := hE0 ho4; have HS4 := hE0 HV3.out.ph.ar; clear ho4 hb4 HB3; dsimp only [af5]; go_wp2_with fail
 refine (aeH HV4.out.ph 3 4 (by omega) (by omega)).mono ?_; rintro e w5 ⟨rfl, ht⟩; obtain ⟨A5, c5, bs5, hv5, tc5, _⟩ := HV4.out.turn HB4.out.size ht (calloc_cap.trans C1.out); have HV5 : Hid (Hv w.heap.size w5 q g 64 1024 A5 c5 bs5 up14B) := hv5; have HB5 := hE0 (HB4.out.trans (HV4.out.low HB4.out.size tc5)); have HR5 := hE0 (HR4.out.tch tc5 (fun a e hk => by
  have h1 := (HO4.out.lt a.block (by rw [e]; rfl)).1; have h2 := HV3.out.ph.ar.foot_lt hk; omega))
 clear ht hv5 tc5 HV4 HB4 HR4 HO4 HS4 HV3; rw [T4.out]; dsimp only [af5]; go_wp2_with fail
 refine (afq HV5.out.ph 224 0 16 (by omega) (by omega) (by omega)).mono ?_; rintro e w6 ⟨A6, c6, rfl, ho6, hb6⟩; rw [T5.out] at ho6 ⊢; dsimp only at ho6 ⊢; rw [ZL.out] at ho6 ⊢; obtain ⟨wd, hwd⟩ := nmE w6.drew; have hbd : Below w5.heap.size w5 wd := by rw [<- hwd]; exact hb6.drew
 have r6 : Rd wd wd.heap.size A6 16 z := by rw [<- hwd]; exact (Rd.ownR ho6).drew
 have r5 := (HR5.out.below hbd).more hbd.size; have HR6 := hE0 r6; have HV6 := hE0 (HV5.out.below hbd); have HB6 := hE0 (HB5.out.trans (hbd.mono HB5.out.size)); have HWD := hE0 hwd; have q1 := afs r5 c4; have q2 := afs r6 c6; clear ho6 hb6 hbd r6 r5 hwd HV5 HB5 HR5; dsimp only [af5]; go_wp2_with fail
 refine aaf wd.heap.size [([0, 1, 2, 3, 4, 5, 6, 7, 8, 9, 10, 11, 12, 13, 14, 15, 16, 17, 18, 19, 20, 21, 22, 23, 24, 25, 26, 27, 28], 29), ([30, 31, 32, 33, 34, 35, 36, 37, 38, 39], 40), ([41, 42, 43, 44, 45], 46), ([], 47)] [48, 49, 50] [] (by kernel_rfl) (by kernel_rfl) (by kernel_rfl) (fun _ _ _ _ _ h => h) ?_; rw [HWD.out]; refine aaj (l := ?seg1) ?hseg1 ?_
 case hseg1 => simp only [pick, lE1, lE2, lE3]; rfl
 repeat (go_big_quiet_step (fail))
 refine wpQuiet_nil ?_; obtain ⟨w7, hw7⟩ := nmE (wd.alloc (.cells (afG y) 5)); have hb7 := abE hw7; have f7 : Fill w7 wd.heap.size 5 y := by rw [<- hw7]; exact Fill.made wd _ _
 have r7 := f7.reads; rw [YL.out] at r7; have HR7 := hE0 r7; have HB7 := hE0 hb7; refine aaA (some 80) (w1 := w7) (v := .slice (some ⟨wd.heap.size, 0, none⟩) 1 1) rfl rfl rfl (aaw rfl rfl (by rw [<- hw7]; exact HBS.out wd)) hb7 ?_; refine ⟨w7.heap.size, hb7.size, ?_⟩; clear q1 q2 hw7 hb7 f7 r7; have q2 := afs ((HR6.out.below HB7.out).more HB7.out.size) c6; have q3 := afs HR7.out 1; refine aaj (l := ?seg2) ?hseg2 ?_
 case hseg2 => simp only [pick, lE1, lE2, lE3]; rfl
 simp only [Act.put, lE4, lE5, lE6]; repeat (go_big_quiet_step (fail))
 refine wpQuiet_nil ?_; clear q2 q3; obtain ⟨w8, hw8⟩ := nmE (w7.alloc (.cells (afG z) 5)); have hb8 := abE hw8; have f8 : Fill w8 w7.heap.size 5 z := by rw [<- hw8]; exact Fill.made w7 _ _
 have r8 := f8.reads; rw [ZL.out] at r8; have HB8 := hE0 hb8; refine aaA (some 91) (w1 := w8) (v := .slice (some ⟨w7.heap.size, 0, none⟩) 16 16) rfl rfl rfl (apu rfl rfl rfl (by rw [<- hw8]; exact HMK.out w7)) hb8 ?_; refine ⟨w8.heap.size, hb8.size, ?_⟩; have q2 := afs r8 16; clear hw8 hb8 f8 r8; refine aaj (l := ?seg3) ?hseg3 ?_
 case hseg3 => simp only [pick, lE1, lE2, lE3]; rfl
 simp only [Act.put, lE4, lE5, lE6]; repeat (go_big_quiet_step (fail))
 refine wpQuiet_nil ?_; clear q2; have hb78 := HB7.out.trans (HB8.out.mono HB7.out.size); have HV8 := hE0 (HV6.out.below hb78); have HB68 := hE0 (HB6.out.trans (hb78.mono HB6.out.size)); refine aam (vs := #[.pointer (some ⟨q, 0, none⟩), .int .u64 193]) Tryz.call26 rfl rfl rfl (R := fun r w' => r = .iface 67 (.int .i64 4) /\ Below w8.heap.size w8 w') ((al6 HV8.out.ph 193 (by omega) T6.out).mono ?_) w8.heap.size (Nat.le_refl _) ?_
 · rintro e w' ⟨rfl, hb⟩; exact ⟨_, rfl, hb, rfl, hb⟩
 rintro r w9 _ ⟨rfl, hb9⟩; have HB9 := hE0 (HB68.out.trans (hb9.mono HB68.out.size)); refine aaj (l := []) rfl (wpQuiet_nil ?_); simp only [Act.put, lE4, lE5, lE6]; refine aam (vs := #[.iface 67 (.int .i64 4)]) Tryz.call7 rfl rfl rfl (R := fun r w' => r = .int .i64 4 /\ w' = w9) ((aeM w9 4 (by omega) (by omega)).mono ?_) w8.heap.size (Nat.le_refl _) ?_
 · rintro e w' ⟨rfl, rfl⟩; exact ⟨_, rfl, Below.refl _ _, rfl, rfl⟩
 rintro r w10 _ ⟨rfl, rfl⟩; refine aap (l := ?la4) (t := []) ?hla4 ?htl4 ?_
 case hla4 => simp only [pick, lE1, lE2, lE3]; rfl
 case htl4 => rfl
 simp only [Act.put, lE4, lE5, lE6]; repeat (go_big_quiet_step (fail))
 refine wpQuiet_nil ?_; clear hb9; go_wp2
 go_ret
 exact ⟨rfl, HB9.out⟩
structure Cl where
 which : Int
 op : Int
 h : Nat
 n : Nat
 m : Nat
 at_ : Nat
 A : Option Addr
 c : Nat
 b : List UInt8
def Cl.ok (x : Cl) : Prop := (-9223372036854775808 <= x.which /\ x.which <= 9223372036854775807) /\ (-9223372036854775808 <= x.op /\ x.op <= 9223372036854775807) /\ x.h < 18446744073709551616 /\ x.n < 18446744073709551616 /\ x.m < 18446744073709551616 /\ x.at_ < 18446744073709551616 /\ x.b.length <= maxLen
def ClRd (w : World) (B : Nat) (A : Option Addr) (l : List Cl) : Prop := 0 < l.length -> ∃ b o, A = some ⟨b, o, none⟩ /\ b < B /\ ∀ j x, l[j]? = some x ->
 (w.cell? ⟨b, o + j * 7, none⟩ = some (.int .i64 x.which) /\ w.cell? ⟨b, o + j * 7 + 1, none⟩ = some (.int .i64 x.op) /\ w.cell? ⟨b, o + j * 7 + 2, none⟩ = some (.int .u64 (x.h : Int)) /\ w.cell? ⟨b, o + j * 7 + 3, none⟩ = some (.int .u64 (x.n : Int)) /\
 w.cell? ⟨b, o + j * 7 + 4, none⟩ = some (.int .u64 (x.m : Int)) /\ w.cell? ⟨b, o + j * 7 + 5, none⟩ = some (.int .u64 (x.at_ : Int)) /\ w.cell? ⟨b, o + j * 7 + 6, none⟩ = some (.slice x.A x.b.length x.c)) /\ Rd w B x.A x.b.length x.b /\ x.ok
theorem ClRd.below {w w' : World} {B : Nat} {A : Option Addr} {l : List Cl} (h : ClRd w B A l) (hb : Below B w w') : ClRd w' B A l := fun hn => by
 obtain ⟨b, o, e, hB, hc⟩ := h hn; refine ⟨b, o, e, hB, fun j x hx => ?_⟩; obtain ⟨⟨h0, h1, h2, h3, h4, h5, h6⟩, h7, h8⟩ := hc j x hx; exact ⟨⟨(hb.cell (p := ⟨b, _, none⟩) hB).trans h0, (hb.cell (p := ⟨b, _, none⟩) hB).trans h1, (hb.cell (p := ⟨b, _, none⟩) hB).trans h2, (hb.cell (p := ⟨b, _, none⟩) hB).trans h3, (hb.cell (p := ⟨b, _, none⟩) hB).trans h4, (hb.cell (p := ⟨b, _, none⟩) hB).trans h5, (hb.cell (p := ⟨b, _, none⟩) hB).trans h6⟩, h7.below hb, h8⟩
def uV (n : Nat) : Value := .int .u64 (n : Int)
def an6 (x : Cl) (told : List Nat) : Nat := (x.which % (told.length : Int)).toNat
def agb (x : Cl) (told : List Nat) : Nat := if 0 <= x.which /\ 0 < told.length then (told.getD (an6 x told) 0 + x.h) % 18446744073709551616 else x.h
def agc (x : Cl) : Nat := (x.op % 9).toNat
theorem ah0 (x : Cl) : agc x < 9 := by
 unfold agc; have h1 := Int.emod_nonneg x.op (b := 9) (by omega); have h2 := Int.emod_lt_of_pos x.op (b := 9) (by omega); omega
theorem al7 (x : Cl) (told : List Nat) (hx : x.h < 18446744073709551616) : agb x told < 18446744073709551616 := by
 unfold agb; split
 · omega
 · exact hx
theorem al9 {w : World} {y0 y1 y2 y3 y4 y5 : Value} {g : Nat} {t : TypeId} (h : w.heap[g]? = some (.cells #[y0, y1, y2, y3, y4, y5] t (0, 0))) (x0 x1 x2 x3 x4 x5 : Value) :
 ((((((w.setCell ⟨g, 0, none⟩ x0).setCell ⟨g, 1, none⟩ x1).setCell ⟨g, 2, none⟩ x2).setCell ⟨g, 3, none⟩ x3).setCell ⟨g, 4, none⟩ x4).setCell ⟨g, 5, none⟩ x5).heap[g]? = some (.cells #[x0, x1, x2, x3, x4, x5] t (0, 0)) := by
 have h1 := heap_setCell_same _ g 0 _ _ x0 h; have h1 : (_ : Option Obj) = some (.cells #[x0, y1, y2, y3, y4, y5] t (0, 0)) := h1; have h2 := heap_setCell_same _ g 1 _ _ x1 h1; have h2 : (_ : Option Obj) = some (.cells #[x0, x1, y2, y3, y4, y5] t (0, 0)) := h2; have h3 := heap_setCell_same _ g 2 _ _ x2 h2; have h3 : (_ : Option Obj) = some (.cells #[x0, x1, x2, y3, y4, y5] t (0, 0)) := h3; have h4 := heap_setCell_same _ g 3 _ _ x3 h3; have h4 : (_ : Option Obj) = some (.cells #[x0, x1, x2, x3, y4, y5] t (0, 0)) := h4; have h5 := heap_setCell_same _ g 4 _ _ x4 h4; have h5 : (_ : Option Obj) = some (.cells #[x0, x1, x2, x3, x4, y5] t (0, 0)) := h5; have h6 := heap_setCell_same _ g 5 _ _ x5 h5; have h6 : (_ : Option Obj) = some (.cells #[x0, x1, x2, x3, x4, x5] t (0, 0)) := h6; exact h6
theorem aft {w : World} {y0 y1 y2 y3 y4 y5 : Value} {g : Nat} {t : TypeId} (h : w.heap[g]? = some (.cells #[y0, y1, y2, y3, y4, y5] t (0, 0))) : w.frozen? ⟨g, 0, none⟩ = false /\ w.frozen? ⟨g, 1, none⟩ = false /\ w.frozen? ⟨g, 2, none⟩ = false /\ w.frozen? ⟨g, 3, none⟩ = false /\ w.frozen? ⟨g, 4, none⟩ = false /\ w.frozen? ⟨g, 5, none⟩ = false :=
 ⟨frozen_of_row w g 0 _ _ h, frozen_of_row w g 1 _ _ h, frozen_of_row w g 2 _ _ h, frozen_of_row w g 3 _ _ h, frozen_of_row w g 4 _ _ h, frozen_of_row w g 5 _ _ h⟩
theorem ag3 {w : World} {x0 x1 x2 x3 x4 x5 x6 : Value} {g : Nat} {t : TypeId} (h : w.heap[g]? = some (.cells #[x0, x1, x2, x3, x4, x5, x6] t (0, 0))) :
 w.cell? ⟨g, 0, none⟩ = some x0 /\ w.cell? ⟨g, 1, none⟩ = some x1 /\ w.cell? ⟨g, 2, none⟩ = some x2 /\ w.cell? ⟨g, 3, none⟩ = some x3 /\ w.cell? ⟨g, 4, none⟩ = some x4 /\ w.cell? ⟨g, 5, none⟩ = some x5 /\ w.cell? ⟨g, 6, none⟩ = some x6 := by
 refine ⟨?_, ?_, ?_, ?_, ?_, ?_, ?_⟩
 · rw [cell_of_row w g 0 _ _ (0, 0) h]; rfl
 · rw [cell_of_row w g 1 _ _ (0, 0) h]; rfl
 · rw [cell_of_row w g 2 _ _ (0, 0) h]; rfl
 · rw [cell_of_row w g 3 _ _ (0, 0) h]; rfl
 · rw [cell_of_row w g 4 _ _ (0, 0) h]; rfl
 · rw [cell_of_row w g 5 _ _ (0, 0) h]; rfl
 · rw [cell_of_row w g 6 _ _ (0, 0) h]; rfl
theorem ag4 {fn : Func} {R : Ending -> World -> Prop} {a : Act} {w : World} {p : Tmp} {g : Nat} {x0 x1 x2 x3 x4 x5 : Value} (hres : fn.results = #[.cell p 38]) (hp : a.tmps.getD p undef = .pointer (some ⟨g, 0, none⟩)) (hd : a.defers = [])
 (hg : w.heap[g]? = some (.cells #[x0, x1, x2, x3, x4, x5] 38 (0, 0))) (hR : R (.returned (.agg #[x0, x1, x2, x3, x4, x5])) w) : bodyPost Tryz.prog fn R .ret a w := by
 refine bodyPost_ret (v := .agg #[x0, x1, x2, x3, x4, x5]) ?_ hd hR; exact results_cell_row hres _ _ g _ _ _ _ hp hg rfl rfl rfl
def Tl (w : World) (B : Nat) (A : Option Addr) (told : List Nat) : Prop := 0 < told.length -> ∃ b, A = some ⟨b, 0, none⟩ /\ B <= b /\ b < w.heap.size /\ ∀ (j v : Nat), told[j]? = some v -> w.cell? ⟨b, j, none⟩ = some (.int .u64 (v : Int))
theorem ama (w : World) (x : Cl) (hx : x.ok) (A1 : Option Addr) (c1 : Nat) (told : List Nat) (B : Nat) (ht : Tl w B A1 told) (hl : told.length <= 1000) (h64 : ∀ v ∈ told, v < 18446744073709551616) :
 Calls Tryz.prog 10 #[.agg #[.int .i64 x.which, .int .i64 x.op, .int .u64 (x.h : Int), .int .u64 (x.n : Int), .int .u64 (x.m : Int), .int .u64 (x.at_ : Int), .slice x.A x.b.length x.c], .slice A1 told.length c1] w
  fun e w' => e = .returned (aa6 (agc x : Int) (agb x told) x.n x.m x.at_ x.A x.b.length x.c) /\ Below w.heap.size w w' := by
 obtain ⟨hw, ho, hh, hn, hm, ha, _⟩ := hx; have hPK := fun W => akU x.op 9 W (by omega) (by omega) (agc x) rfl; have hol := ah0 x; obtain ⟨o9, ho9⟩ := nmE (agc x); rw [ho9] at hPK hol ⊢; obtain ⟨p, hp⟩ := nmE (agb x told); rw [hp]; have HPV := hE0 hp; unfold agb an6 at hp; obtain ⟨wh, xo, xh, xn, xm, xa, xA, xc, xb⟩ := x; dsimp only at hw ho hh hn hm ha hp hPK ⊢; obtain ⟨bl, hbl⟩ := nmE xb.length; obtain ⟨tl, htl⟩ := nmE told.length; rw [hbl]; rw [htl] at hp hl ⊢; have HPK := hE0 hPK; have HT := hE0 ht; have HTL := hE0 htl; have H64 := hE0 h64; obtain ⟨w1, hw1⟩ := nmE (w.alloc (.cells #[.int .i64 wh, .int .i64 xo, .int .u64 (xh : Int), .int .u64 (xn : Int), .int .u64 (xm : Int), .int .u64 (xa : Int), .slice xA bl xc] 41)); have b1 := abE hw1; have n1 := anE hw1; obtain ⟨w2, hw2⟩ := nmE (w1.alloc (.cells #[.int .i64 0, .int .u64 0, .int .u64 0, .int .u64 0, .int .u64 0, .slice none 0 0] 38)); have b2 := abE hw2; have n2 := anE hw2; have m2 := (b2.block _ (aab n1)).trans n1; obtain ⟨w3, hw3⟩ := nmE (w2.alloc (.cells #[.int .i64 xo, .int .u64 (xh : Int), .int .u64 (xn : Int), .int .u64 (xm : Int), .int .u64 (xa : Int), .slice xA bl xc] 38)); have b3 := abE hw3; have n3 := anE hw3; have m3 := (b3.block _ (aab m2)).trans m2; have k3 := (b3.block _ (aab n2)).trans n2; obtain ⟨w4, hw4⟩ := nmE (w3.setCell ⟨w2.heap.size, 0, none⟩ (.int .i64 (o9 : Int))); have hne1 : w2.heap.size ≠ w.heap.size := fun e => by have := aab m2; omega
 have hne2 : w2.heap.size ≠ w1.heap.size := fun e => by have := aab n2; omega
 have n4 : w4.heap[w2.heap.size]? = some (.cells #[.int .i64 (o9 : Int), .int .u64 (xh : Int), .int .u64 (xn : Int), .int .u64 (xm : Int), .int .u64 (xa : Int), .slice xA bl xc] 38 (0, 0)) := by rw [<- hw4]; exact heap_setCell_same w3 w2.heap.size 0 _ _ _ n3
 have m4 : w4.heap[w.heap.size]? = some (.cells #[.int .i64 wh, .int .i64 xo, .int .u64 (xh : Int), .int .u64 (xn : Int), .int .u64 (xm : Int), .int .u64 (xa : Int), .slice xA bl xc] 41 (0, 0)) := by rw [<- hw4]; exact (Below.heap_setCell w3 ⟨w2.heap.size, 0, none⟩ _ w.heap.size (Ne.symm hne1)).trans m3
 have k4 : w4.heap[w1.heap.size]? = some (.cells #[.int .i64 0, .int .u64 0, .int .u64 0, .int .u64 0, .int .u64 0, .slice none 0 0] 38 (0, 0)) := by rw [<- hw4]; exact (Below.heap_setCell w3 ⟨w2.heap.size, 0, none⟩ _ w1.heap.size (Ne.symm hne2)).trans k3
 have b03 : Below w.heap.size w w3 := b1.trans ((b2.mono b1.size).trans (b3.mono (Nat.le_trans b1.size b2.size))); have b04 : Below w.heap.size w w4 := by rw [<- hw4]; exact b03.setCell (Nat.le_trans b1.size b2.size) _
 have HW1 := hE0 hw1; have HW2 := hE0 hw2; have HW3 := hE0 hw3; have HW4 := hE0 hw4; have HB4 := hE0 b04; have HN4 := hE0 n4; have HM4 := hE0 m4; have HK4 := hE0 k4; have HNE1 := hE0 hne1; have HNE2 := hE0 hne2; obtain ⟨z0, z1, z2, z3, z4, z5, z6⟩ := ag3 m2; have hz2 := aaa m2; obtain ⟨y0, y1, y2, y3, y4, y5⟩ := aaB n3; obtain ⟨f0, f1, f2, f3, f4, f5⟩ := aft n3; have hy3 := aaa n3; have HL1 := hE0 b1.size; have HL2 := hE0 (Nat.le_trans b1.size b2.size); clear hPK ht htl h64 hbl hw1 hw2 hw3 hw4 b1 b2 b3 n1 n2 n3 n4 m2 m3 m4 k3 k4 b03 b04 hne1 hne2; unfold aa6; go_enter Tryz.func10, Tryz.ntmps10
 go_wp2_with (first | (rw [HW1.out]) | (rw [HW2.out]) | (rw [HW3.out]) | fail)
 refine (HPK.out _).mono ?_; rintro e w5 ⟨rfl, rfl⟩; clear z0 z1 z2 z3 z4 z5 z6; obtain ⟨z0, z1, z2, z3, z4, z5, z6⟩ := ag3 HM4.out; have hz4 := aaa HM4.out; by_cases hw0 : 0 <= wh /\ 0 < tl
 · rw [if_pos hw0] at hp; obtain ⟨hwh, htl0⟩ := hw0; have hm1 := Int.emod_nonneg wh (b := (tl : Int)) (by omega); have hm2 := Int.emod_lt_of_pos wh (b := (tl : Int)) (by omega); obtain ⟨i, hi⟩ := nmE ((wh % (tl : Int)).toNat); rw [hi] at hp; have em : Int.tmod wh (tl : Int) = (i : Int) := by rw [Int.tmod_eq_emod_of_nonneg hwh]; omega
   have hil : i < tl := by omega
   obtain ⟨b, rfl, hbB, hbl, hcell⟩ := HT.out (by rw [HTL.out]; exact htl0); obtain ⟨v, hv⟩ : ∃ v, told[i]? = some v := ⟨told[i]'(by rw [HTL.out]; exact hil), List.getElem?_eq_getElem _⟩; have hgd : told.getD i 0 = v := by rw [List.getD_eq_getElem?_getD, hv]; rfl
   rw [hgd] at hp; have hv64 := H64.out v (List.mem_of_getElem? hv); have ev : IntKind.u64.wrap ((v : Int) + (xh : Int)) = (p : Int) := by rw [IntKind.wrap_u64]; omega
   have cb := hcell i v hv; have g1 : decide ((0 : Int) <= wh) = true := decide_eq_true hwh; have g2 : decide (0 < tl) = true := decide_eq_true htl0; obtain ⟨wd, hwd⟩ := nmE w4.drew; have bd : Below w.heap.size w wd := by rw [<- hwd]; exact HB4.out.drew
   have nd : wd.heap[w2.heap.size]? = some (.cells #[.int .i64 (o9 : Int), .int .u64 (xh : Int), .int .u64 (xn : Int), .int .u64 (xm : Int), .int .u64 (xa : Int), .slice xA bl xc] 38 (0, 0)) := by rw [<- hwd]; exact HN4.out
   have kd : wd.heap[w1.heap.size]? = some (.cells #[.int .i64 0, .int .u64 0, .int .u64 0, .int .u64 0, .int .u64 0, .slice none 0 0] 38 (0, 0)) := by rw [<- hwd]; exact HK4.out
   have md : wd.heap[w.heap.size]? = some (.cells #[.int .i64 wh, .int .i64 xo, .int .u64 (xh : Int), .int .u64 (xn : Int), .int .u64 (xm : Int), .int .u64 (xa : Int), .slice xA bl xc] 41 (0, 0)) := by rw [<- hwd]; exact HM4.out
   have hltm := aaa md; have hltn := aaa nd; have hltb : b < wd.heap.size := Nat.lt_of_lt_of_le hbl bd.size; have cbd : wd.cell? ⟨b, i, none⟩ = some (.int .u64 (v : Int)) := (bd.cell (p := ⟨b, i, none⟩) hbl).trans cb; obtain ⟨u0, u1, u2, u3, u4, u5, u6⟩ := ag3 md; obtain ⟨w5, hw5⟩ := nmE (wd.setCell ⟨w2.heap.size, 1, none⟩ (.int .u64 (p : Int))); have n5 : w5.heap[w2.heap.size]? = some (.cells #[.int .i64 (o9 : Int), .int .u64 (p : Int), .int .u64 (xn : Int), .int .u64 (xm : Int), .int .u64 (xa : Int), .slice xA bl xc] 38 (0, 0)) := by rw [<- hw5]; exact heap_setCell_same wd w2.heap.size 1 _ _ _ nd
   have KW : Hid (w5.heap[w1.heap.size]? = some (.cells #[.int .i64 0, .int .u64 0, .int .u64 0, .int .u64 0, .int .u64 0, .slice none 0 0] 38 (0, 0))) := (show _ by rw [<- hw5]; exact (Below.heap_setCell wd ⟨w2.heap.size, 1, none⟩ _ w1.heap.size (Ne.symm HNE2.out)).trans kd); have BW : Hid (Below w.heap.size w w5) := (show Below _ _ _ by rw [<- hw5]; exact bd.setCell HL2.out _); obtain ⟨y0', y1', y2', y3', y4', y5'⟩ := aaB nd; obtain ⟨g0', g1', g2', g3', g4', g5'⟩ := aft nd; obtain ⟨v0, v1, v2, v3, v4, v5⟩ := aaB n5; have hltn5 := aaa n5; have HW5 := hE0 hw5; have HWD := hE0 hwd; clear hp hm1 hm2 hi hcell hv hgd cb bd nd kd md hw5 n5 hwd HT H64 HPK; go_wp2_with (first | (rw [HW4.out]) | fail)
   refine aaf wd.heap.size [] [0, 1, 2, 3, 4, 5, 6, 7, 8, 9, 10, 11, 12] [13] (by kernel_rfl) (by kernel_rfl) (by kernel_rfl) (fun _ _ _ _ _ h => h) ?_; rw [HWD.out]; have q0 := tfE u0 hltm; have q1 := tfE u2 hltm; have q2 := tfE cbd hltb; refine aap (l := ?la2) (t := ?tl2) ?hla2 ?htl2 ?_
   case hla2 => simp only [pick, lE1, lE2, lE3]; rfl
   case htl2 => simp only [pick, lE1, lE2, lE3]; rfl
   repeat (go_big_quiet_step (fail))
   refine wpQuiet_nil ?_; clear q0 q1 q2; obtain ⟨⟨k0, k1, k2, k3, k4, k5⟩, e0, e1, e2, e3, e4, e5⟩ := (show _ /\ _ from ⟨aaB KW.out, aft KW.out⟩); have hk9 := aaa KW.out; have MF := hE0 (al9 KW.out (.int .i64 (o9 : Int)) (.int .u64 (p : Int)) (.int .u64 (xn : Int)) (.int .u64 (xm : Int)) (.int .u64 (xa : Int)) (.slice xA bl xc)); have BF := hE0 ((((((BW.out.setCell (p := ⟨w1.heap.size, 0, none⟩) HL1.out (.int .i64 (o9 : Int))).setCell (p := ⟨w1.heap.size, 1, none⟩) HL1.out (.int .u64 (p : Int))).setCell (p := ⟨w1.heap.size, 2, none⟩) HL1.out (.int .u64 (xn : Int))).setCell (p := ⟨w1.heap.size, 3, none⟩) HL1.out (.int .u64 (xm : Int))).setCell (p := ⟨w1.heap.size, 4, none⟩) HL1.out (.int .u64 (xa : Int))).setCell (p := ⟨w1.heap.size, 5, none⟩) HL1.out (.slice xA bl xc)); go_wp2_with (first | (rw [HW5.out]) | fail)
   (try simp only [Exit.inBlock, Exit.then])
   refine ag4 (g := w1.heap.size) Tryz.results10 ?_ ?_ MF.out ?_
   · rfl
   · rfl
   · exact ⟨rfl, BF.out⟩
 · rw [if_neg hw0] at hp; subst hp; have KW := HK4; have BW := HB4; obtain ⟨y0', y1', y2', y3', y4', y5'⟩ := aaB HN4.out; have hltn5 := aaa HN4.out; clear HT H64 HPK; by_cases hwh : 0 <= wh
   · have htl0 : ¬ 0 < tl := fun h => hw0 ⟨hwh, h⟩; have g1 : decide ((0 : Int) <= wh) = true := decide_eq_true hwh; have g2 : decide (0 < tl) = false := decide_eq_false htl0; obtain ⟨⟨k0, k1, k2, k3, k4, k5⟩, e0, e1, e2, e3, e4, e5⟩ := (show _ /\ _ from ⟨aaB KW.out, aft KW.out⟩); have hk9 := aaa KW.out; have MF := hE0 (al9 KW.out (.int .i64 (o9 : Int)) (.int .u64 (xh : Int)) (.int .u64 (xn : Int)) (.int .u64 (xm : Int)) (.int .u64 (xa : Int)) (.slice xA bl xc)); have BF := hE0 ((((((BW.out.setCell (p := ⟨w1.heap.size, 0, none⟩) HL1.out (.int .i64 (o9 : Int))).setCell (p := ⟨w1.heap.size, 1, none⟩) HL1.out (.int .u64 (xh : Int))).setCell (p := ⟨w1.heap.size, 2, none⟩) HL1.out (.int .u64 (xn : Int))).setCell (p := ⟨w1.heap.size, 3, none⟩) HL1.out (.int .u64 (xm : Int))).setCell (p := ⟨w1.heap.size, 4, none⟩) HL1.out (.int .u64 (xa : Int))).setCell (p := ⟨w1.heap.size, 5, none⟩) HL1.out (.slice xA bl xc)); go_wp2_with (first | (rw [HW4.out]) | fail)
     (try simp only [Exit.inBlock, Exit.then])
     refine ag4 (g := w1.heap.size) Tryz.results10 ?_ ?_ MF.out ?_
     · rfl
     · rfl
     · exact ⟨rfl, BF.out⟩
   · have g1 : decide ((0 : Int) <= wh) = false := decide_eq_false hwh; obtain ⟨⟨k0, k1, k2, k3, k4, k5⟩, e0, e1, e2, e3, e4, e5⟩ := (show _ /\ _ from ⟨aaB KW.out, aft KW.out⟩); have hk9 := aaa KW.out; have MF := hE0 (al9 KW.out (.int .i64 (o9 : Int)) (.int .u64 (xh : Int)) (.int .u64 (xn : Int)) (.int .u64 (xm : Int)) (.int .u64 (xa : Int)) (.slice xA bl xc)); have BF := hE0 ((((((BW.out.setCell (p := ⟨w1.heap.size, 0, none⟩) HL1.out (.int .i64 (o9 : Int))).setCell (p := ⟨w1.heap.size, 1, none⟩) HL1.out (.int .u64 (xh : Int))).setCell (p := ⟨w1.heap.size, 2, none⟩) HL1.out (.int .u64 (xn : Int))).setCell (p := ⟨w1.heap.size, 3, none⟩) HL1.out (.int .u64 (xm : Int))).setCell (p := ⟨w1.heap.size, 4, none⟩) HL1.out (.int .u64 (xa : Int))).setCell (p := ⟨w1.heap.size, 5, none⟩) HL1.out (.slice xA bl xc)); go_wp2_with (first | (rw [HW4.out]) | fail)
     (try simp only [Exit.inBlock, Exit.then])
     refine ag4 (g := w1.heap.size) Tryz.results10 ?_ ?_ MF.out ?_
     · rfl
     · rfl
     · exact ⟨rfl, BF.out⟩
end Go.Proofs.YtnicenfdlfffpaaGreatDoor
