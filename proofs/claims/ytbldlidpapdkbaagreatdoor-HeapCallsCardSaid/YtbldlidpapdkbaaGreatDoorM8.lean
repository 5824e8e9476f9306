/- Texts of mine, joined: Rez2, Rez3, Rez4, Rez5, Rez6, Rez7, As, Hea1, Hea2. -/
import Derived.WalkKit
import Derived.LaidEql
import Derived.Stop.Asserts
import Derived.RowKitTokens
import Derived.Test.YtbldlidpapdkbaaGreatDoorM7

/- What a resize holds, plain: a block that stands elsewhere, a block that has got more bytes in its place. -/
namespace Go.Proofs.YtbldlidpapdkbaaGreatDoor

theorem Held.moved {H H' : Hp} {bs out : List UInt8} {o : Int} {p : Nat} (h : Held H bs H' out) (hp : (p : Int) = o) : Moved H bs o H' out p := by
  intro x hx hu hxo y hy hyu hyp i i1 i2 i3
  have e : x.off = p := by omega
  have := h x hx hu y hy hyu (by omega) (x.off + i) (by omega) (by omega) (by omega)
  rw [e] at this ⊢
  exact this
theorem Held.self (H : Hp) (bs : List UInt8) : Held H bs H bs := fun _ _ _ _ _ _ _ _ _ _ _ => rfl
theorem moveD_lists {H : Hp} {p o : Int} : (H.moveD p o).lists = H.lists := by unfold Hp.moveD; split <;> rfl
section
variable {bs : List UInt8} {H : Hp}
theorem Rt.moveD {p o : Int} (h : Rt bs H) : Rt bs (H.moveD p o) := ⟨by rw [moveD_blks]; exact h.walk, fun c hc => by rw [moveD_lists]; exact h.all_ c hc, h.chk, by rw [moveD_cap]; exact h.len⟩

/-- What is held when a block has been moved. -/
theorem Rt.moved (h : Rt bs H) {s i q : Nat} (hs : isSz (s : Int) = true) {o : Int} (hi : usedB H.blks o = some i) {xo xs : Nat} (hx : bkAt H.blks i = ⟨xo, xs, true⟩) (hlt : xs < s) (hq : (H.take s).1 = some q) {bs1 : List UInt8} (h1 : Rt bs1 (H.take s).2) (hh1 : Held H bs (H.take s).2 bs1) :
    q + 8 + (xs - 16) ≤ bs1.length ∧ xo + 8 + (xs - 16) ≤ bs1.length ∧ 32 ≤ xs ∧ Rt (lay bs1 (q + 8) ((bs1.drop (xo + 8)).take (xs - 16))) ((H.take s).2.moveD (q : Int) o) ∧ (∃ j, usedB ((H.take s).2.moveD (q : Int) o).blks o = some j) ∧
      ∀ H' out, Held ((H.take s).2.moveD (q : Int) o) (lay bs1 (q + 8) ((bs1.drop (xo + 8)).take (xs - 16))) H' out → Held H bs H' out ∧ Moved H bs o H' out q := by
  obtain ⟨i1, i2, i3⟩ := used_at hi
  have hxm : (⟨xo, xs, true⟩ : Bk) ∈ H.blks := by rw [← hx]; exact List.mem_of_getElem? (bkAt_get i1)
  rw [hx] at i2
  dsimp only at i2
  have ht : tile 184 H.blks (Go.Proofs.YtbldlidpapdkbaaGreatDoor.lenB H.blks) := by rw [h.lenE]; exact (walkB_tiles h.walk).2.1
  have tm : ∀ z ∈ H.blks, z.used = true → z ∈ (H.take s).2.blks := fun z hz hu => take_mem ht hs (fun j hj => by obtain ⟨a, _, c⟩ := h.found hs hj; exact ⟨a, c⟩) hz hu
  obtain ⟨y, n1, n2, n3, n4, n5, n6⟩ := h.what hs hq
  have ht1 := (walkB_tiles h1.walk).2.1
  obtain ⟨y1, y2, y3, _⟩ := (tile_mem _ _ _ ht1).2 y n1
  obtain ⟨x1, x2, x3, _⟩ := (tile_mem _ _ _ ht1).2 _ (tm _ hxm rfl)
  dsimp only at x1 x2 x3
  have sx := (isSz_iff _).1 x3
  have hap := n6 _ hxm rfl
  dsimp only at hap
  obtain ⟨cs, hcs⟩ : ∃ cs, (bs1.drop (xo + 8)).take (xs - 16) = cs := ⟨_, rfl⟩
  have hcl : cs.length = xs - 16 := by rw [← hcs, List.length_take, List.length_drop]; omega
  rw [hcs]
  have ag : AgreeB bs1 (lay bs1 (q + 8) cs) y := agree_lay (x := y) (q + 8) cs (by omega) (by omega) (by omega)
  have hR2 : Rt (lay bs1 (q + 8) cs) (H.take s).2 := h1.fill n1 n3 ag
  refine ⟨by omega, by omega, by omega, hR2.moveD, ?_, fun H' out hH => ⟨?_, ?_⟩⟩
  · rw [moveD_blks]
    obtain ⟨j, hj⟩ := List.mem_iff_getElem?.1 (tm _ hxm rfl)
    have := used_hit ht1 hj i2 rfl
    cases hu : usedB (H.take s).2.blks o with
    | none => rw [hu] at this; cases this
    | some k => exact ⟨k, rfl⟩
  · intro z hz hzu v hv hvu e k k1 k2 k3
    have a := hH z (by rw [moveD_blks]; exact tm z hz hzu) hzu v hv hvu e k k1 k2 k3
    have b := ag.2 k (by have := n6 z hz hzu; omega)
    have d := hh1 z hz hzu z (tm z hz hzu) hzu rfl k k1 k2 k2
    rw [a, b, d]
  · intro x' hx' hxu' hxo' v hv hvu hvp k k1 k2 k3
    obtain rfl : x' = ⟨xo, xs, true⟩ := by
      have sz := (isSz_iff _).1 ((tile_mem _ _ _ ht).2 x' hx').2.2.1
      rcases tile_apart _ _ _ ht x' hx' _ hxm with e | e | e
      · exact e
      · dsimp only at e; omega
      · dsimp only at e; omega
    dsimp only at k2 ⊢
    have a := hH y (by rw [moveD_blks]; exact n1) n3 v hv hvu (by omega) (q + k) (by omega) (by omega) (by omega)
    have b := lay_in bs1 (q + 8) cs (by omega) (k - 8) (by omega)
    rw [show q + 8 + (k - 8) = q + k by omega] at b
    have d : cs[k - 8]? = bs1[xo + k]? := by
      rw [← hcs, List.getElem?_take_of_lt (by omega), List.getElem?_drop, show xo + 8 + (k - 8) = xo + k by omega]
    have f := hh1 _ hxm rfl _ (tm _ hxm rfl) rfl rfl (xo + k) (by dsimp only; omega) (by dsimp only; omega) (by dsimp only; omega)
    rw [a, b, d, f]

/-- What is held when a block has got more bytes in its place. -/
theorem Rt.wideHeld (h : Rt bs H) {A B1 : List Bk} {n : Option Bk} {xo xs t : Nat} (hb : H.blks = A ++ ⟨xo, xs, true⟩ :: (n.toList ++ B1)) (hf : ∀ y, n = some y → y.used = false) (hxt : xs ≤ t) {b2 : List UInt8} {H' : Hp} (hb' : H'.blks = A ++ ⟨xo, t, true⟩ :: B1)
    (h1 : ∀ z ∈ H.blks, z.used = true → z.off ≠ xo → ∀ i, Pay z i → b2[i]? = bs[i]?) (h2 : ∀ i, Pay ⟨xo, xs, true⟩ i → b2[i]? = bs[i]?) {H'' : Hp} {out : List UInt8} (hH : Held H' b2 H'' out) : Held H bs H'' out := by
  intro z hz hzu v hv hvu e k k1 k2 k3
  have ht : tile 184 H.blks (Go.Proofs.YtbldlidpapdkbaaGreatDoor.lenB H.blks) := by rw [h.lenE]; exact (walkB_tiles h.walk).2.1
  have hxm : (⟨xo, xs, true⟩ : Bk) ∈ H.blks := by rw [hb]; simp
  by_cases hzo : z.off = xo
  · obtain rfl : z = ⟨xo, xs, true⟩ := by
      have sz := (isSz_iff _).1 ((tile_mem _ _ _ ht).2 z hz).2.2.1
      have sx := (isSz_iff _).1 ((tile_mem _ _ _ ht).2 _ hxm).2.2.1
      dsimp only at sx
      rcases tile_apart _ _ _ ht z hz _ hxm with e | e | e
      · exact e
      · dsimp only at e; omega
      · dsimp only at e; omega
    dsimp only at k1 k2 e
    rw [hH ⟨xo, t, true⟩ (by rw [hb']; simp) rfl v hv hvu e k k1 (by dsimp only; omega) k3, h2 k ⟨k1, k2⟩]
  · have hm : z ∈ H'.blks := by
      rw [hb]  at hz
      rw [hb']
      rcases List.mem_append.1 hz with hz | hz
      · simp [hz]
      · rcases List.mem_cons.1 hz with rfl | hz
        · exact absurd rfl hzo
        · rcases List.mem_append.1 hz with hz | hz
          · have := hf z (by simpa using hz)
            rw [hzu] at this; cases this
          · simp [hz]
    rw [hH z hm hzu v hv hvu e k k1 k2 k3, h1 z hz hzu hzo k ⟨k1, k2⟩]
end
end Go.Proofs.YtbldlidpapdkbaaGreatDoor

/- The program's move (layer 13): what a block holds is laid into another one. -/
namespace Go.Proofs.YtbldlidpapdkbaaGreatDoor
open Go.RowKit

section
variable {w : World} {g base cap c : Nat} {A : Option Addr} {bs : List UInt8} {H : Hp}
set_option maxRecDepth 100000 in
set_option maxHeartbeats 2000000 in
theorem move_no (h : Ar w 80 g base cap A c bs) (hbase : base ≤ 4611686018427387904) (hcap : cap ≤ 16384) (hc : H.cap = cap) (hR : Rt bs H) (xo xs s : Nat) (hs : isSz (s : Int) = true) (hq : (H.take s).1 = none) :
    Calls Tryz.prog 125 #[.pointer (some ⟨g, 0, none⟩), .agg #[.int .i64 (xo : Int), .int .i64 (xs : Int), .bool true], .int .i64 (s : Int)] w fun e w' => e = .returned (.tuple #[.int .i64 0, errV false 5]) ∧ Below w.heap.size w w' := by
  have ss := (isSz_iff _).1 hs
  obtain ⟨w0, hw0⟩ : ∃ w0, w.alloc (.cells #[.int .i64 (xo : Int), .int .i64 (xs : Int), .bool true] 82) = w0 := ⟨_, rfl⟩
  have hb0 : Below w.heap.size w w0 := by rw [← hw0]; exact (Below.refl _ _).alloc (Nat.le_refl _) _
  have hT := (takeK w0 g base cap c A bs H (s : Int) (h.below hb0) hbase hcap hc hR ⟨by omega, by omega⟩).2 hs
  rw [Int.toNat_natCast] at hT
  unfold TurnedAt at hT
  rw [hq] at hT
  dsimp only [errV] at hT ⊢
  have HT := Lib.hid hT
  have HW0 := Lib.hid hw0
  have HB0 := Lib.hid hb0
  clear hT hw0 hb0 h hR hq hs
  go_enter Tryz.func125, Tryz.ntmps125
  go_wp2_with (first | (rw [HW0.out]) | fail)
  refine HT.out.mono ?_
  rintro e w2 ⟨rfl, hb2⟩
  have HB2 := Lib.hid (HB0.out.trans (hb2.mono HB0.out.size))
  clear hb2 HT
  go_wp2
  go_ret2
  exact ⟨rfl, HB2.out⟩

set_option maxRecDepth 100000 in
set_option maxHeartbeats 2000000 in
theorem move_yes (h : Ar w 80 g base cap A c bs) (hbase : base ≤ 4611686018427387904) (hcap : cap ≤ 16384) (hc : H.cap = cap) (hR : Rt bs H) {xo xs s i q : Nat} (hs : isSz (s : Int) = true) (hi : usedB H.blks (xo : Int) = some i) (hx : bkAt H.blks i = ⟨xo, xs, true⟩) (hlt : xs < s) (hq : (H.take s).1 = some q) :
    Calls Tryz.prog 125 #[.pointer (some ⟨g, 0, none⟩), .agg #[.int .i64 (xo : Int), .int .i64 (xs : Int), .bool true], .int .i64 (s : Int)] w fun e w' => e = .returned (.tuple #[.int .i64 (q : Int), errV true 5]) ∧ ∃ out, Became 80 g base cap A out w w' ∧
      Rt out ((((H.take s).2.moveD (q : Int) (xo : Int)).giveO (xo : Int)).getD ((H.take s).2.moveD (q : Int) (xo : Int))) ∧ Held H bs ((((H.take s).2.moveD (q : Int) (xo : Int)).giveO (xo : Int)).getD ((H.take s).2.moveD (q : Int) (xo : Int))) out ∧
      Moved H bs (xo : Int) ((((H.take s).2.moveD (q : Int) (xo : Int)).giveO (xo : Int)).getD ((H.take s).2.moveD (q : Int) (xo : Int))) out q := by
  have ss := (isSz_iff _).1 hs
  obtain ⟨w0, hw0⟩ : ∃ w0, w.alloc (.cells #[.int .i64 (xo : Int), .int .i64 (xs : Int), .bool true] 82) = w0 := ⟨_, rfl⟩
  have hb0 : Below w.heap.size w w0 := by rw [← hw0]; exact (Below.refl _ _).alloc (Nat.le_refl _) _
  have n0 : w0.heap[w.heap.size]? = some (.cells #[.int .i64 (xo : Int), .int .i64 (xs : Int), .bool true] 82 (0, 0)) := by rw [← hw0]; exact heap_alloc_new w _
  have h0 := h.below hb0
  have hT := (takeK w0 g base cap c A bs H (s : Int) h0 hbase hcap hc hR ⟨by omega, by omega⟩).2 hs
  rw [Int.toNat_natCast] at hT
  unfold TurnedAt at hT
  rw [hq] at hT
  have hcap2 : (H.take s).2.cap = cap := take_cap.trans hc
  have HM := Lib.hid (fun bs1 (h1 : Rt bs1 (H.take s).2) hh1 => hR.moved hs hi hx hlt hq h1 hh1)
  have HBD := Lib.hid (fun bs1 (h1 : Rt bs1 (H.take s).2) => h1.bound (by omega))
  obtain ⟨H1, hH1⟩ : ∃ H1, (H.take s).2 = H1 := ⟨_, rfl⟩
  rw [hH1] at hT HM HBD hcap2 ⊢
  have hcap3 : (H1.moveD (q : Int) (xo : Int)).cap = cap := moveD_cap.trans hcap2
  obtain ⟨H2, hH2⟩ : ∃ H2, H1.moveD (q : Int) (xo : Int) = H2 := ⟨_, rfl⟩
  rw [hH2] at HM hcap3 ⊢
  dsimp only [errV] at hT ⊢
  have HT := Lib.hid hT
  have HW0 := Lib.hid hw0
  have HB0 := Lib.hid hb0
  have HN0 := Lib.hid n0
  have HA0 := Lib.hid h0
  clear hT hw0 hb0 n0 h0 h hR hq hs hi hx hlt hH1 hH2 hc hcap2
  go_enter Tryz.func125, Tryz.ntmps125
  go_wp2_with (first | (rw [HW0.out]) | fail)
  refine HT.out.mono ?_
  rintro e w2 ⟨rfl, bs1, hB2, hR1, hh1⟩
  obtain ⟨l1, l2, l3, hR2, ⟨j, hj⟩, hfin⟩ := HM.out bs1 hR1 hh1
  have hbl := (HBD.out bs1 hR1).1
  obtain ⟨bs2, hbs2⟩ : ∃ bs2, lay bs1 (q + 8) ((bs1.drop (xo + 8)).take (xs - 16)) = bs2 := ⟨_, rfl⟩
  rw [hbs2] at hR2 hfin
  have hg : H2.giveO (xo : Int) = some (H2.give j) := by unfold Hp.giveO; rw [hj]; rfl
  have HGV := Lib.hid (show (H2.giveO (xo : Int)).getD H2 = H2.give j by rw [hg]; rfl)
  obtain ⟨A2, c2, a2, t2, k2⟩ := hB2
  have n2 := Loc.tch HA0.out t2 _ _ HN0.out
  obtain ⟨v1, hv1⟩ : ∃ v1 : Int, ((base + q + 8 : Nat) : Int) = v1 := ⟨_, rfl⟩
  obtain ⟨v2, hv2⟩ : ∃ v2 : Int, ((base + xo + 8 : Nat) : Int) = v2 := ⟨_, rfl⟩
  have H1 := Lib.hid (heldAt_any a2.drew hbase q (by omega))
  have H2' := Lib.hid (heldAt_any a2.drew hbase xo (by omega))
  have HC := Lib.hid (copy_ok a2.drew (by omega) (base + q + 8) (base + xo + 8) (xs - 16) (q + 8) (xo + 8) (by omega) (by omega) (by omega) (by omega) (by omega) (by omega) (by omega) (by omega) (by omega))
  rw [hbs2] at HC
  rw [hv1] at H1 HC
  rw [hv2] at H2' HC
  have e16 : ((xs - 16 : Nat) : Int) = (xs : Int) - 16 := by omega
  rw [e16] at HC
  have ew : IntKind.u64.wrap ((xs : Int) - 16) = (xs : Int) - 16 := IntWalk.u64_in _ (by omega)
  obtain ⟨⟨d0, d1, d2⟩, _⟩ := blk_cells n2
  have hlt2 := heap_lt' n2
  have HN2 := Lib.hid n2
  have HGK := Lib.hid (fun w3 c3 A3 (a3 : Ar w3 80 g base cap A3 c3 bs2) => giveK w3 g base cap c3 A3 bs2 H2 (xo : Int) a3 hbase hcap hcap3 hR2 ⟨by omega, by omega⟩)
  rw [hg] at HGK
  dsimp only [Turned, errV] at HGK
  have HTR := Lib.hid (fun b3 w4 (k : Became 80 g base cap A2 b3 w2 w4) => Became.trans a2 t2 k2 k)
  have HFIN := Lib.hid hfin
  clear hfin hR2 hj hg hR1 hh1 HM HBD HT HA0 HN0 n2 t2 k2 hbs2 hv1 hv2
  go_wp2_with fail
  refine wp_region_tail w2.heap.size [([0, 1, 2, 4, 5, 6, 8, 9, 10, 11], 3), ([], 7)] [] [12] (by kernel_rfl) (by kernel_rfl) (by kernel_rfl) (fun _ _ _ _ _ h => h) ?_
  have q0 : ∀ z : LaterB w2.heap.size w2.drew, z.val.cell? ⟨w.heap.size, 0, none⟩ = some (.int .i64 (xo : Int)) := fun z => (z.ext.cell (p := ⟨w.heap.size, 0, none⟩) hlt2).trans d0
  have q1 : ∀ z : LaterB w2.heap.size w2.drew, z.val.cell? ⟨w.heap.size, 1, none⟩ = some (.int .i64 (xs : Int)) := fun z => (z.ext.cell (p := ⟨w.heap.size, 1, none⟩) hlt2).trans d1
  refine tail_cons (l := ?seg1) ?hseg1 ?_
  case hseg1 => simp only [pick, List.getElem?_toArray, List.getElem?_cons_succ, List.getElem?_cons_zero]; rfl
  repeat (go_big_quiet_step (fail))
  refine wpQuiet_nil ?_
  clear q0 q1
  refine tail_call (vs := #[.pointer (some ⟨g, 0, none⟩), .int .i64 (q : Int)]) Tryz.call138 rfl rfl rfl (R := fun r w' => r = .int .u64 v1 ∧ w' = w2.drew) (H1.out.mono ?_) w2.heap.size (Nat.le_refl _) ?_
  · rintro e w' ⟨rfl, rfl⟩
    exact ⟨_, rfl, Below.refl _ _, rfl, rfl⟩
  rintro r w3 _ ⟨rfl, rfl⟩
  refine tail_cons (l := []) rfl ?_
  refine wpQuiet_nil ?_
  refine tail_call (vs := #[.pointer (some ⟨g, 0, none⟩), .int .i64 (xo : Int)]) Tryz.call138 rfl rfl rfl (R := fun r w' => r = .int .u64 v2 ∧ w' = w2.drew) (H2'.out.mono ?_) w2.heap.size (Nat.le_refl _) ?_
  · rintro e w' ⟨rfl, rfl⟩
    exact ⟨_, rfl, Below.refl _ _, rfl, rfl⟩
  rintro r w3 _ ⟨rfl, rfl⟩
  refine tail_last (l := []) (t := ?tl1) rfl ?htl1 ?_
  case htl1 => simp only [pick, List.getElem?_toArray, List.getElem?_cons_succ, List.getElem?_cons_zero]; rfl
  refine wpQuiet_nil ?_
  simp only [Act.put, List.setIfInBounds_toArray, List.set_cons_zero, List.set_cons_succ]
  clear d0 d1 d2 hlt2 H1 H2'
  go_wp2_with fail
  refine HC.out.mono ?_
  rintro e w3 ⟨rfl, hB3⟩
  have hB3' := hB3
  obtain ⟨A3, c3, a3, t3, k3⟩ := hB3'
  have n3 := Loc.tch a2.drew t3 _ _ HN2.out
  have HG := Lib.hid (HGK.out w3 c3 A3 a3)
  have HTR3 := Lib.hid (fun b3 w4 (k : Became 80 g base cap A3 b3 w3 w4) => HTR.out b3 w4 (Became.of_drew (Became.trans a3 t3 k3 k)))
  obtain ⟨⟨d0, d1, d2⟩, _⟩ := blk_cells n3
  have hlt3 := heap_lt' n3
  clear hB3 HGK HTR n3 a3 t3 k3 HC HN2 a2
  go_wp2_with fail
  refine HG.out.mono ?_
  clear d0 d1 d2 hlt3
  rintro e w4 ⟨rfl, out, hB4, hR4, hh4⟩
  have hBo := HTR3.out out w4 hB4
  have HBo := Lib.hid (hBo.after HB0.out)
  have HR4 := Lib.hid hR4
  have HF4 := Lib.hid (HFIN.out _ _ hh4)
  have HS := Lib.hid (settled_ok (w := w4) (q : Int))
  clear hB4 hBo hR4 hh4 HG HTR3 HFIN HB0
  go_wp2_with fail
  refine HS.out.mono ?_
  rintro e w5 ⟨rfl, rfl⟩
  clear HS
  go_wp2
  go_ret2
  refine ⟨rfl, out, HBo.out, ?_⟩
  rw [HGV.out]
  exact ⟨HR4.out, HF4.out.1, HF4.out.2⟩
end
end Go.Proofs.YtbldlidpapdkbaaGreatDoor

/- A block that gets more bytes in its place, plain: what the program's steps come to. -/
namespace Go.Proofs.YtbldlidpapdkbaaGreatDoor

theorem used_idx {l : List Bk} {e : Nat} (ht : tile 184 l e) {i : Nat} {x : Bk} {o : Int} (hx : l[i]? = some x) (ho : (x.off : Int) = o) (hu : x.used = true) : usedB l o = some i := by
  have h := used_hit ht hx ho hu
  cases hk : usedB l o with
  | none => rw [hk] at h; cases h
  | some k =>
    obtain ⟨k1, k2, k3⟩ := used_at hk
    rw [hk, Option.map_some] at h
    injection h with h
    have hkx := bkAt_get k1
    rw [h] at hkx
    have hpw := List.pairwise_iff_getElem.1 (tile_ne _ _ _ ht)
    have hi1 := lst_lt hx
    have e1 : l[i] = x := by rw [List.getElem?_eq_getElem hi1] at hx; exact Option.some.inj hx
    have e2 : l[k] = x := by rw [List.getElem?_eq_getElem k1] at hkx; exact Option.some.inj hkx
    rcases Nat.lt_trichotomy k i with h' | h' | h'
    · exact absurd (by rw [e1, e2]) (hpw k i k1 hi1 h')
    · rw [h']
    · exact absurd (by rw [e1, e2]) (hpw i k hi1 k1 h')
section
variable {bs : List UInt8} {H : Hp} {A1 B1 : List Bk} {p n : Option Bk} {xo xs z : Nat}
theorem Rt.widened (h : Rt bs H) (hc : H.cap ≤ 16384) (hb : H.blks = (A1 ++ p.toList) ++ ⟨xo, xs, true⟩ :: (n.toList ++ B1)) (hN : Near A1 p n B1) (hz : (n.map Bk.size).getD 0 = z) :
    ∃ b1 b2, outB bs n = some b1 ∧ setB b1 (xo : Int) ((xs + z : Nat) : Int) true = some b2 ∧ b1.length = bs.length ∧ Rt b2 (H.widen (A1 ++ p.toList).length) ∧ usedB (H.widen (A1 ++ p.toList).length).blks (xo : Int) = some (A1 ++ p.toList).length ∧
      bkAt (H.widen (A1 ++ p.toList).length).blks (A1 ++ p.toList).length = ⟨xo, xs + z, true⟩ ∧ ∀ H'' out, Held (H.widen (A1 ++ p.toList).length) b2 H'' out → Held H bs H'' out := by
  obtain ⟨w1, w2, w3, w4⟩ := widen_at hb hN.nf hN.nu
  rw [hz] at w1 w3
  obtain ⟨A, hA⟩ : ∃ A, A1 ++ p.toList = A := ⟨_, rfl⟩
  rw [hA] at hb w1 w2 w3 w4 ⊢
  obtain ⟨hl, hbd⟩ := h.bound hc
  have ht : tile 184 H.blks bs.length := (walkB_tiles h.walk).2.1
  have htm := (tile_mem _ _ _ ht).2
  have hxm : (⟨xo, xs, true⟩ : Bk) ∈ H.blks := by rw [hb]; simp
  have sx := (isSz_iff _).1 (htm _ hxm).2.2.1
  have hx8 := (htm _ hxm).2.1
  dsimp only at sx hx8
  have hsz : isSz ((xs + z : Nat) : Int) = true := by
    rw [isSz_iff]
    cases n with
    | none => simp at hz; omega
    | some m =>
      have hmm : m ∈ H.blks := by rw [hb]; simp
      have sm := (isSz_iff _).1 (htm _ hmm).2.2.1
      have hm8 := htm _ hmm
      have hz : m.size = z := hz
      rw [hb, tile_app] at ht
      obtain ⟨_, _, _, t3⟩ := ht
      obtain ⟨t4, _⟩ := t3
      dsimp only at t4
      omega
  obtain ⟨b1, e1, e2, l1, l2, hRt, hP1, hP2⟩ := h.wide hc (n0 := 0) (t := xs + z) hb hN.nf (by rw [hz]; omega) (.inl rfl) hsz (by have := h.len; omega)
  rw [List.replicate_zero, List.append_nil] at e1
  have hR2 := hRt (H.widen A.length) w1 w2 widen_cap
  obtain ⟨b2, hb2⟩ : ∃ b2, setT b1 ⟨xo, xs + z, true⟩ = b2 := ⟨_, rfl⟩
  rw [hb2] at e2 hR2 hP1 hP2 l2
  have hat : (H.widen A.length).blks[A.length]? = some ⟨xo, xs + z, true⟩ := by rw [w1]; simp
  exact ⟨b1, b2, e1, e2, by omega, hR2, used_idx (walkB_tiles hR2.walk).2.1 hat rfl rfl, bkAt_of hat, fun H'' out hH => h.wideHeld hb hN.nf (by omega) w1 hP1 hP2 hH⟩

theorem Rt.grown (h : Rt bs H) (hc : H.cap ≤ 16384) (hb : H.blks = (A1 ++ p.toList) ++ ⟨xo, xs, true⟩ :: (n.toList ++ B1)) (hN : Near A1 p n B1) (hz : (n.map Bk.size).getD 0 = z) {s : Nat} (hs : isSz (s : Int) = true) (hlt : xs + z < s) (hend : xo + (xs + z) = bs.length) (hcap : bs.length + (s - (xs + z)) ≤ H.cap) :
    ∃ b1 b2, outB (bs ++ List.replicate (s - (xs + z)) 0) n = some b1 ∧ setB b1 (xo : Int) (s : Int) true = some b2 ∧ b1.length = bs.length + (s - (xs + z)) ∧ Rt b2 ((H.widen (A1 ++ p.toList).length).size (A1 ++ p.toList).length s) ∧ Held H bs ((H.widen (A1 ++ p.toList).length).size (A1 ++ p.toList).length s) b2 := by
  obtain ⟨w1, w2, w3, w4⟩ := widen_at hb hN.nf hN.nu
  rw [hz] at w1 w3
  obtain ⟨A, hA⟩ : ∃ A, A1 ++ p.toList = A := ⟨_, rfl⟩
  rw [hA] at hb w1 w2 w3 w4 ⊢
  have ht : tile 184 H.blks bs.length := (walkB_tiles h.walk).2.1
  have hB1 : B1 = [] := by
    rw [hb, tile_app] at ht
    obtain ⟨_, t1, _, t3⟩ := ht
    dsimp only at t1
    rw [tile_app] at t3
    have hzn : sumB n.toList = z := by rw [← hz]; cases n <;> simp [sumB]
    rw [hzn] at t3
    have t4 := t3.2
    dsimp only at t4
    cases B1 with
    | nil => rfl
    | cons y r =>
      have := (tile_mem _ _ _ t4).2 y (by simp)
      have sy := (isSz_iff _).1 this.2.2.1
      omega
  obtain ⟨b1, e1, e2, l1, l2, hRt, hP1, hP2⟩ := h.wide hc (n0 := s - (xs + z)) (t := s) hb hN.nf (by rw [hz]; omega) (.inr hB1) hs hcap
  have hat : (H.widen A.length).blks[A.length]? = some ⟨xo, xs + z, true⟩ := by rw [w1]; simp
  have hb' : ((H.widen A.length).size A.length s).blks = A ++ ⟨xo, s, true⟩ :: B1 := by
    show (H.widen A.length).blks.set A.length { bkAt (H.widen A.length).blks A.length with size := s } = _
    rw [bkAt_of hat, w1, List.set_append_right _ _ (Nat.le_refl _), Nat.sub_self]
    rfl
  have hR2 := hRt ((H.widen A.length).size A.length s) hb' w2 widen_cap
  exact ⟨b1, _, e1, e2, by omega, hR2, h.wideHeld hb hN.nf (by omega) hb' hP1 hP2 (Held.self _ _)⟩
end
end Go.Proofs.YtbldlidpapdkbaaGreatDoor

/- The program's enlarge (layer 13): a used block gets more bytes than it has. -/
namespace Go.Proofs.YtbldlidpapdkbaaGreatDoor
open Go.RowKit

section
variable {w : World} {g base cap c : Nat} {A : Option Addr} {bs : List UInt8} {H : Hp} {A1 B1 : List Bk} {p n : Option Bk} {xo xs z s : Nat}
set_option maxRecDepth 100000 in
set_option maxHeartbeats 2000000 in
/-- The second way. -/
theorem enlarge_two (h : Ar w 80 g base cap A c bs) (hbase : base ≤ 4611686018427387904) (hcap : cap ≤ 16384) (hc : H.cap = cap) (hR : Rt bs H) (hb : H.blks = (A1 ++ p.toList) ++ ⟨xo, xs, true⟩ :: (n.toList ++ B1)) (hN : Near A1 p n B1) (hz : (n.map Bk.size).getD 0 = z) (hs : isSz (s : Int) = true) (hle : s ≤ xs + z) :
    Calls Tryz.prog 90 #[.pointer (some ⟨g, 0, none⟩), .agg #[.int .i64 (xo : Int), .int .i64 (xs : Int), .bool true], .int .i64 (s : Int)] w fun e w' => e = .returned (.tuple #[.int .i64 (xo : Int), errV true 0]) ∧
      ∃ out, Became 80 g base cap A out w w' ∧ Rt out ((H.widen (A1 ++ p.toList).length).cut (A1 ++ p.toList).length s) ∧ Held H bs ((H.widen (A1 ++ p.toList).length).cut (A1 ++ p.toList).length s) out := by
  have ss := (isSz_iff _).1 hs
  obtain ⟨hl, hbd⟩ := hR.bound (by omega)
  have hx := hbd ⟨xo, xs, true⟩ (by rw [hb]; simp)
  dsimp only at hx
  have hn : ∀ y, n = some y → 0 < y.size ∧ y.off ≤ 16384 := fun y hy => by have := hbd y (by rw [hb, hy]; simp); omega
  have hzl : xs + z ≤ 16384 := by
    cases n with
    | none => simp at hz; omega
    | some m =>
      have hz : m.size = z := hz
      have hM := hR.md (by omega)
      have ht := hM.tl
      rw [hb, tile_app] at ht
      obtain ⟨_, t1, _, t3⟩ := ht
      obtain ⟨t4, _⟩ := t3
      have := hbd m (by rw [hb]; simp)
      dsimp only at t1 t4
      omega
  have hy := (hR.md (by omega)).behind hb hN
  dsimp only at hy
  obtain ⟨b1, b2, e1, e2, l1, hR2, hu2, hk2, hH2⟩ := hR.widened (by omega) hb hN hz
  have l2 : b2.length ≤ 16384 := (hR2.bound (by rw [widen_cap]; omega)).1
  obtain ⟨i, hi⟩ : ∃ i, (A1 ++ p.toList).length = i := ⟨_, rfl⟩
  rw [hi] at hR2 hu2 hk2 hH2 ⊢
  obtain ⟨H2, hH⟩ : ∃ H2, H.widen i = H2 := ⟨_, rfl⟩
  have hcap2 : H2.cap = cap := by rw [← hH]; exact widen_cap.trans hc
  rw [hH] at hR2 hu2 hk2 hH2 ⊢
  have htr : H2.trimO (xo : Int) s = some (H2.cut i s) := by
    unfold Hp.trimO
    rw [hu2]
    dsimp only
    rw [hk2]
    dsimp only
    rw [if_neg (by omega)]
  obtain ⟨w0, hw0⟩ : ∃ w0, w.alloc (.cells #[.int .i64 (xo : Int), .int .i64 (xs : Int), .bool true] 82) = w0 := ⟨_, rfl⟩
  have hb0 : Below w.heap.size w w0 := by rw [← hw0]; exact (Below.refl _ _).alloc (Nat.le_refl _) _
  have n0 : w0.heap[w.heap.size]? = some (.cells #[.int .i64 (xo : Int), .int .i64 (xs : Int), .bool true] 82 (0, 0)) := by rw [← hw0]; exact heap_alloc_new w _
  have hF := behind_any (h.below hb0) hbase hl xo xs (by omega) (by omega) n hy
  have ef := frV_eq 0 n
  rw [hz] at ef
  obtain ⟨fo, hfo⟩ : ∃ fo : Int, (n.map fun z => (z.off : Int)).getD 0 = fo := ⟨_, rfl⟩
  rw [hfo] at ef
  rw [ef] at hF
  have HJ := Lib.hid (fun w2 (hb2 : Below w.heap.size w w2) => join_any (w := w2) (w1 := w2) ⟨A, c, h.below hb2, Tch.refl _ _, .inl rfl⟩ hbase hl xo xs (xs + z) n (by omega) hn hzl (by omega) e1 e2)
  rw [ef] at HJ
  have ez : ((xs + z : Nat) : Int) = (xs : Int) + (z : Int) := by omega
  rw [ez] at HJ
  have HTK := Lib.hid (fun w3 c3 A3 (a3 : Ar w3 80 g base cap A3 c3 b2) => (trimK w3 g base cap c3 A3 b2 H2 (xo : Int) (s : Int) a3 hbase hcap hcap2 hR2 ⟨by omega, by omega⟩ ⟨by omega, by omega⟩).2 hs)
  rw [Int.toNat_natCast, htr] at HTK
  dsimp only [Turned, errV] at HTK
  have HF := Lib.hid hF
  have HA := Lib.hid h
  have HW0 := Lib.hid hw0
  have HB0 := Lib.hid hb0
  have HN0 := Lib.hid n0
  have HFIN := Lib.hid hH2
  have g1 : ((s : Int) ≤ (xs : Int) + (z : Int)) := by omega
  obtain ⟨⟨d0, d1, d2⟩, _⟩ := blk_cells n0
  have hlt0 := heap_lt' n0
  dsimp only [errV]
  clear hF hw0 hb0 n0 h hR hb hN hz hy hn hbd hs hle e1 e2 l1 hR2 hu2 hk2 hH2 hi hH hcap2 htr ef hfo ez hc
  go_enter Tryz.func90, Tryz.ntmps90
  go_wp2_with (first | (rw [HW0.out]) | fail)
  refine HF.out.mono ?_
  clear d0 d1 d2 hlt0
  rintro e w1 ⟨rfl, hb1⟩
  have n1 := Loc.below hb1 _ _ HN0.out
  obtain ⟨w2, hw2⟩ : ∃ w2, w1.alloc (.cells #[.int .i64 fo, .int .i64 (z : Int), .bool false] 82) = w2 := ⟨_, rfl⟩
  have m2 : w2.heap[w1.heap.size]? = some (.cells #[.int .i64 fo, .int .i64 (z : Int), .bool false] 82 (0, 0)) := by rw [← hw2]; exact heap_alloc_new w1 _
  have n2 : w2.heap[w.heap.size]? = some (.cells #[.int .i64 (xo : Int), .int .i64 (xs : Int), .bool true] 82 (0, 0)) := by rw [← hw2]; exact (heap_alloc_old _ _ (heap_lt n1)).trans n1
  have hb01 := HB0.out.trans (hb1.mono HB0.out.size)
  have hb2 : Below w.heap.size w w2 := by rw [← hw2]; exact hb01.alloc hb01.size _
  have HJ2 := Lib.hid (HJ.out w2 hb2)
  obtain ⟨⟨d0, d1, d2⟩, _⟩ := blk_cells n2
  have hlt2 := heap_lt' n2
  obtain ⟨⟨c0, c1, c2⟩, _⟩ := blk_cells m2
  have hlt3 := heap_lt' m2
  have HW2 := Lib.hid hw2
  have HN2 := Lib.hid n2
  have HB2 := Lib.hid hb2
  clear hb1 n1 hw2 m2 n2 hb01 hb2 HF HJ HN0
  go_wp2_with (first | (rw [HW2.out]) | fail)
  refine HJ2.out.mono ?_
  clear d0 d1 d2 hlt2 c0 c1 c2 hlt3
  rintro e w3 ⟨rfl, hB3⟩
  obtain ⟨A3, c3, a3, t3, k3⟩ := hB3
  have n3 := Loc.tch (HA.out.below HB2.out) t3 _ _ HN2.out
  have hnf := ar_ne a3 n3
  have HT3 := Lib.hid (HTK.out w3.drew c3 A3 a3.drew)
  have HTR := Lib.hid (fun b4 w4 (k : Became 80 g base cap A3 b4 w3.drew w4) => (Became.trans a3 t3 k3 (Became.of_drew k)).after HB2.out)
  obtain ⟨⟨d0, d1, d2⟩, _⟩ := blk_cells n3
  have hlt3 := heap_lt' n3
  have HNF := Lib.hid hnf
  clear a3 t3 k3 n3 hnf HJ2 HTK HN2 HB2 HA
  go_wp2_with fail
  refine wp_region_set (foot g A3) [([0, 1, 2, 3, 4, 5], 6), ([], 7)] [8, 9, 10, 11] [] (by kernel_rfl) (by kernel_rfl) (by kernel_rfl) (fun _ _ _ _ _ h => h) ?_
  have q0 : ∀ z : LaterS (foot g A3) w3.drew, z.val.cell? ⟨w.heap.size, 0, none⟩ = some (.int .i64 (xo : Int)) := fun z => z.ext.cell d0 HNF.out
  clear d0 d1 d2
  refine set_cons (l := ?seg1) ?hseg1 ?_
  case hseg1 => simp only [pick, List.getElem?_toArray, List.getElem?_cons_succ, List.getElem?_cons_zero]; rfl
  repeat (go_big_quiet_step (fail))
  refine wpQuiet_nil ?_
  clear q0
  refine set_call (vs := #[.pointer (some ⟨g, 0, none⟩), .int .i64 (xo : Int), .int .i64 (s : Int)]) Tryz.call88 rfl rfl rfl (R := fun r w' => r = .nilIface ∧ ∃ out, Became 80 g base cap A3 out w3.drew w' ∧ Rt out (H2.cut i s) ∧ Held H2 b2 (H2.cut i s) out) (HT3.out.mono ?_) ?_
  · rintro e w' ⟨rfl, out, hB, hR, hH⟩
    have hB' := hB
    obtain ⟨_, _, _, ht, _⟩ := hB'
    exact ⟨_, rfl, ht, rfl, out, hB, hR, hH⟩
  rintro r w4 _ ⟨rfl, out, hB4, hR4, hH4⟩
  have HB4 := Lib.hid (HTR.out out w4 hB4)
  have HR4 := Lib.hid hR4
  have HH4 := Lib.hid (HFIN.out _ _ hH4)
  clear hB4 hR4 hH4 HT3 HTR HFIN
  refine ⟨foot g A3, fun _ _ h => h, ?_⟩
  refine set_cons (l := []) rfl ?_
  refine wpQuiet_nil ?_
  refine set_call (vs := #[.int .i64 (xo : Int), .nilIface]) Tryz.call124 rfl rfl rfl (R := fun r w' => r = .tuple #[.int .i64 (xo : Int), .nilIface] ∧ w' = w4) ((settled_ok (w := w4) (xo : Int)).mono ?_) ?_
  · rintro e w' ⟨rfl, rfl⟩
    exact ⟨_, rfl, Tch.refl _ _, rfl, rfl⟩
  rintro r w5 _ ⟨rfl, rfl⟩
  refine ⟨foot g A3, fun _ _ h => h, ?_⟩
  refine set_last (l := ?la4) (t := []) ?hla4 ?htl4 ?_
  case hla4 => simp only [pick, List.getElem?_toArray, List.getElem?_cons_succ, List.getElem?_cons_zero]; rfl
  case htl4 => rfl
  simp only [Act.put, List.setIfInBounds_toArray, List.set_cons_zero, List.set_cons_succ]
  repeat (go_big_quiet_step (fail))
  refine wpQuiet_nil ?_
  go_wp2
  go_ret2
  exact ⟨rfl, out, HB4.out, HR4.out, HH4.out⟩
end
end Go.Proofs.YtbldlidpapdkbaaGreatDoor

/- The program's enlarge (layer 13): the third way (the arena grows), the fourth (it is moved). -/
namespace Go.Proofs.YtbldlidpapdkbaaGreatDoor
open Go.RowKit

section
variable {P : Program} {ops : Array Oper} {Q : Exit → Act → World → Prop}
/-- An operation that isn't wanted. -/
theorem set_skip {i : Nat} {S : Nat → Prop} {o : Oper} {a : Act} {w : World} {K : (Nat → Prop) → Act → World → Prop} (d : Option Tmp) (ho : ops[i]? = some o) (hd : o.dst = d) (hw : Region.wanted o (yielded ops a.tmps) = false) (hk : K S (a.put d undef) w) :
    wpOp P ops Q i (fun a'' w'' => Tch S w w'' ∧ ∃ S' : Nat → Prop, (∀ k, k < w.heap.size → S' k → S k) ∧ K S' a'' w'') a w := by
  subst hd
  unfold wpOp
  simp only [ho]
  rw [if_neg (by rw [hw]; decide)]
  exact ⟨Tch.refl _ _, S, fun _ _ h => h, hk⟩
end

/-- What a move comes to. -/
def moveR (H : Hp) (o : Int) (s : Nat) : (Nat × Int) × Hp := match (H.take s).1 with
  | none => ((0, 5), H)
  | some p => ((p, 0), (((H.take s).2.moveD (p : Int) o).giveO o).getD ((H.take s).2.moveD (p : Int) o))

section
variable {w w1 w' : World} {g base cap c : Nat} {A : Option Addr} {bs : List UInt8} {H : Hp} {o : Int} {r : (Nat × Int) × Hp} {e : Ending}
theorem RezTold.after (h : RezTold g base cap A bs H o r w1 e w') (hb : Below w.heap.size w w1) : RezTold g base cap A bs H o r w e w' := by
  refine ⟨fun hr => ?_, fun hr => ?_⟩
  · obtain ⟨h1, out, h2, h3⟩ := h.1 hr
    exact ⟨h1, out, h2.after hb, h3⟩
  · obtain ⟨h1, h2⟩ := h.2 hr
    exact ⟨h1, hb.trans (h2.mono hb.size)⟩
theorem RezTold.shape (h : RezTold g base cap A bs H o r w e w') : ∃ (v : Int) (x : Value), e = .returned (.tuple #[.int .i64 v, x]) := by
  by_cases hr : r.1.2 = 0
  · exact ⟨_, _, (h.1 hr).1⟩
  · exact ⟨_, _, (h.2 hr).1⟩
theorem RezTold.yes {p : Nat} {H' : Hp} {out : List UInt8} (hb : Became 80 g base cap A out w w') (h1 : Rt out H') (h2 : Held H bs H' out) (h3 : Moved H bs o H' out p) : RezTold g base cap A bs H o ((p, 0), H') w (.returned (.tuple #[.int .i64 (p : Int), errV true 0])) w' :=
  ⟨fun _ => ⟨rfl, out, hb, h1, h2, h3⟩, fun hr => absurd rfl hr⟩
theorem RezTold.no {k : Int} (hk : k ≠ 0) (hb : Below w.heap.size w w') : RezTold g base cap A bs H o ((0, k), H) w (.returned (.tuple #[.int .i64 0, errV false k])) w' :=
  ⟨fun hr => absurd hr hk, fun _ => ⟨rfl, hb⟩⟩

theorem move_any (h : Ar w 80 g base cap A c bs) (hbase : base ≤ 4611686018427387904) (hcap : cap ≤ 16384) (hc : H.cap = cap) (hR : Rt bs H) {xo xs s i : Nat} (hs : isSz (s : Int) = true) (hi : usedB H.blks (xo : Int) = some i) (hx : bkAt H.blks i = ⟨xo, xs, true⟩) (hlt : xs < s) :
    Calls Tryz.prog 125 #[.pointer (some ⟨g, 0, none⟩), .agg #[.int .i64 (xo : Int), .int .i64 (xs : Int), .bool true], .int .i64 (s : Int)] w fun e w' => RezTold g base cap A bs H (xo : Int) (moveR H (xo : Int) s) w e w' := by
  unfold moveR
  cases hq : (H.take s).1 with
  | none =>
    refine (move_no h hbase hcap hc hR xo xs s hs hq).mono ?_
    rintro e w' ⟨rfl, hb⟩
    exact RezTold.no (by decide) hb
  | some q =>
    refine (move_yes h hbase hcap hc hR hs hi hx hlt hq).mono ?_
    rintro e w' ⟨rfl, out, hb, h1, h2, h3⟩
    exact RezTold.yes hb h1 h2 h3
end

section
variable {w : World} {g base cap c : Nat} {A : Option Addr} {bs : List UInt8} {H : Hp} {A1 B1 : List Bk} {p n : Option Bk} {xo xs z s : Nat}
set_option maxRecDepth 100000 in
set_option maxHeartbeats 2000000 in
/-- The third way. -/
theorem enlarge_three (h : Ar w 80 g base cap A c bs) (hbase : base ≤ 4611686018427387904) (hcap : cap ≤ 16384) (hc : H.cap = cap) (hR : Rt bs H) (hb : H.blks = (A1 ++ p.toList) ++ ⟨xo, xs, true⟩ :: (n.toList ++ B1)) (hN : Near A1 p n B1) (hz : (n.map Bk.size).getD 0 = z) (hs : isSz (s : Int) = true) (hle : xs + z < s) (hend : xo + (xs + z) = bs.length) (hroom : bs.length + (s - (xs + z)) ≤ cap) :
    Calls Tryz.prog 90 #[.pointer (some ⟨g, 0, none⟩), .agg #[.int .i64 (xo : Int), .int .i64 (xs : Int), .bool true], .int .i64 (s : Int)] w fun e w' => e = .returned (.tuple #[.int .i64 (xo : Int), errV true 0]) ∧
      ∃ out, Became 80 g base cap A out w w' ∧ Rt out ((H.widen (A1 ++ p.toList).length).size (A1 ++ p.toList).length s) ∧ Held H bs ((H.widen (A1 ++ p.toList).length).size (A1 ++ p.toList).length s) out := by
  have ss := (isSz_iff _).1 hs
  obtain ⟨hl, hbd⟩ := hR.bound (by omega)
  have hx := hbd ⟨xo, xs, true⟩ (by rw [hb]; simp)
  dsimp only at hx
  have hn : ∀ y, n = some y → 0 < y.size ∧ y.off ≤ 16384 := fun y hy => by have := hbd y (by rw [hb, hy]; simp); omega
  have hzl : xs + z ≤ 16384 := by omega
  have hy := (hR.md (by omega)).behind hb hN
  dsimp only at hy
  have ef := frV_eq 0 n
  rw [hz] at ef
  obtain ⟨fo, hfo⟩ : ∃ fo : Int, (n.map fun z => (z.off : Int)).getD 0 = fo := ⟨_, rfl⟩
  rw [hfo] at ef
  obtain ⟨b1, b2, e1, e2, l1, hR2, hH2⟩ := hR.grown (by omega) hb hN hz hs hle hend (by omega)
  obtain ⟨bz, hbz⟩ : ∃ bz, bs ++ List.replicate (s - (xs + z)) 0 = bz := ⟨_, rfl⟩
  have hbzl : bz.length ≤ 16384 := by rw [← hbz, List.length_append, List.length_replicate]; omega
  have HG := Lib.hid (fun w2 c2 A2 (a2 : Ar w2 80 g base cap A2 c2 bs) => grow_ok a2 (s - (xs + z)) (by omega) hcap hroom)
  rw [hbz] at HG e1
  have ez : ((s - (xs + z) : Nat) : Int) = (s : Int) - ((xs : Int) + (z : Int)) := by omega
  rw [ez] at HG
  have HJ := Lib.hid (fun w4 c4 A4 (a4 : Ar w4 80 g base cap A4 c4 bz) => join_any (w := w4) (w1 := w4) ⟨A4, c4, a4, Tch.refl _ _, .inl rfl⟩ hbase hbzl xo xs s n (by omega) hn (by omega) (by omega) e1 e2)
  rw [ef] at HJ
  have HR2 := Lib.hid hR2
  have HH2 := Lib.hid hH2
  have k1 : ((xo : Int) + ((xs : Int) + (z : Int)) == (bs.length : Int)) = true := by rw [beq_iff_eq]; omega
  obtain ⟨w0, hw0⟩ : ∃ w0, w.alloc (.cells #[.int .i64 (xo : Int), .int .i64 (xs : Int), .bool true] 82) = w0 := ⟨_, rfl⟩
  have hb0 : Below w.heap.size w w0 := by rw [← hw0]; exact (Below.refl _ _).alloc (Nat.le_refl _) _
  have n0 : w0.heap[w.heap.size]? = some (.cells #[.int .i64 (xo : Int), .int .i64 (xs : Int), .bool true] 82 (0, 0)) := by rw [← hw0]; exact heap_alloc_new w _
  have hF := behind_any (h.below hb0) hbase hl xo xs (by omega) (by omega) n hy
  rw [ef] at hF
  have HF := Lib.hid hF
  have HA := Lib.hid h
  have HW0 := Lib.hid hw0
  have HB0 := Lib.hid hb0
  have HN0 := Lib.hid n0
  have g1 : ((xs : Int) + (z : Int) < (s : Int)) := by omega
  obtain ⟨⟨d0, d1, d2⟩, _⟩ := blk_cells n0
  have hlt0 := heap_lt' n0
  dsimp only [errV]
  clear hF hw0 hb0 n0 h hR hb hN hz hy hn hbd hs hle ef hfo hc e1 e2 l1 hR2 hH2 hbz ez hend
  go_enter Tryz.func90, Tryz.ntmps90
  go_wp2_with (first | (rw [HW0.out]) | fail)
  refine HF.out.mono ?_
  clear d0 d1 d2 hlt0
  rintro e w1 ⟨rfl, hb1⟩
  have n1 := Loc.below hb1 _ _ HN0.out
  obtain ⟨w2, hw2⟩ : ∃ w2, w1.alloc (.cells #[.int .i64 fo, .int .i64 (z : Int), .bool false] 82) = w2 := ⟨_, rfl⟩
  have m2 : w2.heap[w1.heap.size]? = some (.cells #[.int .i64 fo, .int .i64 (z : Int), .bool false] 82 (0, 0)) := by rw [← hw2]; exact heap_alloc_new w1 _
  have n2 : w2.heap[w.heap.size]? = some (.cells #[.int .i64 (xo : Int), .int .i64 (xs : Int), .bool true] 82 (0, 0)) := by rw [← hw2]; exact (heap_alloc_old _ _ (heap_lt n1)).trans n1
  have hb01 := HB0.out.trans (hb1.mono HB0.out.size)
  have hb2 : Below w.heap.size w w2 := by rw [← hw2]; exact hb01.alloc hb01.size _
  obtain ⟨⟨d0, d1, d2⟩, _⟩ := blk_cells n2
  have hlt2 := heap_lt' n2
  obtain ⟨⟨c0, c1, c2⟩, _⟩ := blk_cells m2
  have hlt3 := heap_lt' m2
  have a2 := HA.out.below hb2
  have HNF := Lib.hid (ar_ne a2 n2)
  have HL := Lib.hid (len_any a2.drew)
  have HA2 := Lib.hid a2
  have HW2 := Lib.hid hw2
  have HN2 := Lib.hid n2
  have HM2 := Lib.hid m2
  have HB2 := Lib.hid hb2
  clear hb1 n1 hw2 m2 n2 hb01 hb2 HF HN0 a2 HA HB0
  go_wp2_with (first | (rw [HW2.out]) | fail)
  clear c0 c1 c2 hlt3 d1 d2
  refine wp_region_set (foot g A) [([0, 1, 2, 3, 4], 5), ([6, 7, 8, 9, 10, 11], 12)] [13, 14] [] (by kernel_rfl) (by kernel_rfl) (by kernel_rfl) (fun _ _ _ _ _ h => h) ?_
  have q0 : ∀ z : LaterS (foot g A) w2.drew, z.val.cell? ⟨w.heap.size, 0, none⟩ = some (.int .i64 (xo : Int)) := fun z => z.ext.cell d0 HNF.out
  clear d0
  refine set_cons (l := ?seg1) ?hseg1 ?_
  case hseg1 => simp only [pick, List.getElem?_toArray, List.getElem?_cons_succ, List.getElem?_cons_zero]; rfl
  repeat (go_big_quiet_step (fail))
  refine wpQuiet_nil ?_
  clear q0
  refine set_call (vs := #[.pointer (some ⟨g, 0, none⟩)]) Tryz.call17 rfl rfl rfl (R := fun r w' => r = .int .i64 (bs.length : Int) ∧ w' = w2.drew) (HL.out.mono ?_) ?_
  · rintro e w' ⟨rfl, rfl⟩
    exact ⟨_, rfl, Tch.refl _ _, rfl, rfl⟩
  rintro r w3 _ ⟨rfl, rfl⟩
  refine ⟨foot g A, fun _ _ h => h, ?_⟩
  clear HL
  refine set_cons (l := ?seg2) ?hseg2 ?_
  case hseg2 => simp only [pick, List.getElem?_toArray, List.getElem?_cons_succ, List.getElem?_cons_zero]; rfl
  simp only [Act.put, List.setIfInBounds_toArray, List.set_cons_zero, List.set_cons_succ]
  repeat (go_big_quiet_step (fail))
  refine wpQuiet_nil ?_
  refine set_call (vs := #[.pointer (some ⟨g, 0, none⟩), .int .i64 ((s : Int) - ((xs : Int) + (z : Int)))]) Tryz.call32 rfl rfl rfl (R := fun r w' => r = .nilIface ∧ Became 80 g base cap A bz w2.drew w') ((HG.out w2.drew c A HA2.out.drew).mono ?_) ?_
  · rintro e w' ⟨rfl, hB⟩
    have hB' := hB
    obtain ⟨_, _, _, ht, _⟩ := hB'
    exact ⟨_, rfl, ht, rfl, hB⟩
  rintro r w4 _ ⟨rfl, hB4⟩
  refine ⟨foot g A, fun _ _ h => h, ?_⟩
  clear k1
  refine set_last (l := ?la4) (t := []) ?hla4 ?htl4 ?_
  case hla4 => simp only [pick, List.getElem?_toArray, List.getElem?_cons_succ, List.getElem?_cons_zero]; rfl
  case htl4 => rfl
  simp only [Act.put, List.setIfInBounds_toArray, List.set_cons_zero, List.set_cons_succ]
  repeat (go_big_quiet_step (fail))
  refine wpQuiet_nil ?_
  obtain ⟨A4, c4, a4, t4, k4⟩ := hB4
  have n4 := Loc.tch HA2.out.drew t4 _ _ HN2.out
  have m4 := Loc.tch HA2.out.drew t4 _ _ HM2.out
  have HJ4 := Lib.hid (HJ.out w4 c4 A4 a4)
  have HTR := Lib.hid (fun b5 w5 (k : Became 80 g base cap A4 b5 w4 w5) => (Became.of_drew (Became.trans a4 t4 k4 k)).after HB2.out)
  have HA4 := Lib.hid a4
  have HN4 := Lib.hid n4
  obtain ⟨⟨d0, d1, d2⟩, _⟩ := blk_cells n4
  have hlt2 := heap_lt' n4
  obtain ⟨⟨c0, c1, c2⟩, _⟩ := blk_cells m4
  have hlt3 := heap_lt' m4
  clear a4 t4 k4 n4 m4 HJ HG HN2 HM2 HB2
  go_wp2_with fail
  refine HJ4.out.mono ?_
  clear d0 d1 d2 hlt2 c0 c1 c2 hlt3
  rintro e w5 ⟨rfl, hB5⟩
  have HB5 := Lib.hid (HTR.out b2 w5 hB5)
  obtain ⟨A5, c5, a5, t5, k5⟩ := hB5
  have n5 := Loc.tch HA4.out t5 _ _ HN4.out
  obtain ⟨⟨d0, d1, d2⟩, _⟩ := blk_cells n5
  have hlt2 := heap_lt' n5
  clear a5 t5 k5 n5 HJ4 HTR HA4 HN4
  go_wp2
  go_ret2
  exact ⟨rfl, b2, HB5.out, HR2.out, HH2.out⟩

set_option maxRecDepth 100000 in
set_option maxHeartbeats 2000000 in
/-- The fourth way: it is not the last one. -/
theorem enlarge_four_a (h : Ar w 80 g base cap A c bs) (hbase : base ≤ 4611686018427387904) (hcap : cap ≤ 16384) (hc : H.cap = cap) (hR : Rt bs H) (hb : H.blks = (A1 ++ p.toList) ++ ⟨xo, xs, true⟩ :: (n.toList ++ B1)) (hN : Near A1 p n B1) (hz : (n.map Bk.size).getD 0 = z) (hs : isSz (s : Int) = true) (hle : xs + z < s) {i : Nat} (hi : usedB H.blks (xo : Int) = some i) (hx0 : bkAt H.blks i = ⟨xo, xs, true⟩) (hend : xo + (xs + z) ≠ bs.length) :
    Calls Tryz.prog 90 #[.pointer (some ⟨g, 0, none⟩), .agg #[.int .i64 (xo : Int), .int .i64 (xs : Int), .bool true], .int .i64 (s : Int)] w fun e w' => RezTold g base cap A bs H (xo : Int) (moveR H (xo : Int) s) w e w' := by
  have ss := (isSz_iff _).1 hs
  obtain ⟨hl, hbd⟩ := hR.bound (by omega)
  have hx := hbd ⟨xo, xs, true⟩ (by rw [hb]; simp)
  dsimp only at hx
  have hn : ∀ y, n = some y → 0 < y.size ∧ y.off ≤ 16384 := fun y hy => by have := hbd y (by rw [hb, hy]; simp); omega
  have hzl : xs + z ≤ 16384 := by omega
  have hy := (hR.md (by omega)).behind hb hN
  dsimp only at hy
  have ef := frV_eq 0 n
  rw [hz] at ef
  obtain ⟨fo, hfo⟩ : ∃ fo : Int, (n.map fun z => (z.off : Int)).getD 0 = fo := ⟨_, rfl⟩
  rw [hfo] at ef
  have HMV := Lib.hid (fun w2 (hb2 : Below w.heap.size w w2) => move_any (h.below hb2) hbase hcap hc hR hs hi hx0 (by omega))
  obtain ⟨mr, hmr⟩ : ∃ mr, moveR H (xo : Int) s = mr := ⟨_, rfl⟩
  rw [hmr] at HMV ⊢
  have k1 : ((xo : Int) + ((xs : Int) + (z : Int)) == (bs.length : Int)) = false := by rw [beq_eq_false_iff_ne]; omega
  obtain ⟨w0, hw0⟩ : ∃ w0, w.alloc (.cells #[.int .i64 (xo : Int), .int .i64 (xs : Int), .bool true] 82) = w0 := ⟨_, rfl⟩
  have hb0 : Below w.heap.size w w0 := by rw [← hw0]; exact (Below.refl _ _).alloc (Nat.le_refl _) _
  have n0 : w0.heap[w.heap.size]? = some (.cells #[.int .i64 (xo : Int), .int .i64 (xs : Int), .bool true] 82 (0, 0)) := by rw [← hw0]; exact heap_alloc_new w _
  have hF := behind_any (h.below hb0) hbase hl xo xs (by omega) (by omega) n hy
  rw [ef] at hF
  have HF := Lib.hid hF
  have HA := Lib.hid h
  have HW0 := Lib.hid hw0
  have HB0 := Lib.hid hb0
  have HN0 := Lib.hid n0
  have g1 : ((xs : Int) + (z : Int) < (s : Int)) := by omega
  obtain ⟨⟨d0, d1, d2⟩, _⟩ := blk_cells n0
  have hlt0 := heap_lt' n0
  clear hF hw0 hb0 n0 h hR hb hN hz hy hn hbd hs hle ef hfo hc hend hi hx0 hmr
  go_enter Tryz.func90, Tryz.ntmps90
  go_wp2_with (first | (rw [HW0.out]) | fail)
  refine HF.out.mono ?_
  clear d0 d1 d2 hlt0
  rintro e w1 ⟨rfl, hb1⟩
  have n1 := Loc.below hb1 _ _ HN0.out
  obtain ⟨w2, hw2⟩ : ∃ w2, w1.alloc (.cells #[.int .i64 fo, .int .i64 (z : Int), .bool false] 82) = w2 := ⟨_, rfl⟩
  have m2 : w2.heap[w1.heap.size]? = some (.cells #[.int .i64 fo, .int .i64 (z : Int), .bool false] 82 (0, 0)) := by rw [← hw2]; exact heap_alloc_new w1 _
  have n2 : w2.heap[w.heap.size]? = some (.cells #[.int .i64 (xo : Int), .int .i64 (xs : Int), .bool true] 82 (0, 0)) := by rw [← hw2]; exact (heap_alloc_old _ _ (heap_lt n1)).trans n1
  have hb01 := HB0.out.trans (hb1.mono HB0.out.size)
  have hb2 : Below w.heap.size w w2 := by rw [← hw2]; exact hb01.alloc hb01.size _
  obtain ⟨⟨d0, d1, d2⟩, _⟩ := blk_cells n2
  have hlt2 := heap_lt' n2
  obtain ⟨⟨c0, c1, c2⟩, _⟩ := blk_cells m2
  have hlt3 := heap_lt' m2
  have a2 := HA.out.below hb2
  have HNF := Lib.hid (ar_ne a2 n2)
  have HL := Lib.hid (len_any a2.drew)
  have HA2 := Lib.hid a2
  have HW2 := Lib.hid hw2
  have HN2 := Lib.hid n2
  have HM2 := Lib.hid m2
  have HB2 := Lib.hid hb2
  clear hb1 n1 hw2 m2 n2 hb01 hb2 HF HN0 a2 HA HB0
  go_wp2_with (first | (rw [HW2.out]) | fail)
  clear c0 c1 c2 hlt3 d1 d2
  refine wp_region_set (foot g A) [([0, 1, 2, 3, 4], 5), ([6, 7, 8, 9, 10, 11], 12)] [13, 14] [] (by kernel_rfl) (by kernel_rfl) (by kernel_rfl) (fun _ _ _ _ _ h => h) ?_
  have q0 : ∀ z : LaterS (foot g A) w2.drew, z.val.cell? ⟨w.heap.size, 0, none⟩ = some (.int .i64 (xo : Int)) := fun z => z.ext.cell d0 HNF.out
  clear d0
  refine set_cons (l := ?seg1) ?hseg1 ?_
  case hseg1 => simp only [pick, List.getElem?_toArray, List.getElem?_cons_succ, List.getElem?_cons_zero]; rfl
  repeat (go_big_quiet_step (fail))
  refine wpQuiet_nil ?_
  clear q0
  refine set_call (vs := #[.pointer (some ⟨g, 0, none⟩)]) Tryz.call17 rfl rfl rfl (R := fun r w' => r = .int .i64 (bs.length : Int) ∧ w' = w2.drew) (HL.out.mono ?_) ?_
  · rintro e w' ⟨rfl, rfl⟩
    exact ⟨_, rfl, Tch.refl _ _, rfl, rfl⟩
  rintro r w3 _ ⟨rfl, rfl⟩
  refine ⟨foot g A, fun _ _ h => h, ?_⟩
  clear HL
  refine set_cons (l := ?seg2) ?hseg2 ?_
  case hseg2 => simp only [pick, List.getElem?_toArray, List.getElem?_cons_succ, List.getElem?_cons_zero]; rfl
  simp only [Act.put, List.setIfInBounds_toArray, List.set_cons_zero, List.set_cons_succ]
  repeat (go_big_quiet_step (fail))
  refine wpQuiet_nil ?_
  refine set_skip (some 48) rfl rfl rfl ?_
  clear k1
  refine set_last (l := ?la4) (t := []) ?hla4 ?htl4 ?_
  case hla4 => simp only [pick, List.getElem?_toArray, List.getElem?_cons_succ, List.getElem?_cons_zero]; rfl
  case htl4 => rfl
  simp only [Act.put, List.setIfInBounds_toArray, List.set_cons_zero, List.set_cons_succ]
  repeat (go_big_quiet_step (fail))
  refine wpQuiet_nil ?_
  obtain ⟨w3, hw3⟩ : ∃ w3, w2.drew = w3 := ⟨_, rfl⟩
  have hb3 : Below w.heap.size w w3 := by rw [← hw3]; exact HB2.out.drew
  have n3 : w3.heap[w.heap.size]? = some (.cells #[.int .i64 (xo : Int), .int .i64 (xs : Int), .bool true] 82 (0, 0)) := by rw [← hw3]; exact HN2.out
  rw [hw3]
  have HMV3 := Lib.hid (HMV.out w3 hb3)
  have HB3 := Lib.hid hb3
  obtain ⟨⟨d0, d1, d2⟩, _⟩ := blk_cells n3
  have hlt2 := heap_lt' n3
  clear n3 hb3 HMV HN2 HM2 HB2 HA2 hw3 HW2
  go_wp2_with fail
  refine HMV3.out.mono ?_
  clear d0 d1 d2 hlt2
  rintro e w4 hT
  obtain ⟨v, x, rfl⟩ := hT.shape
  have HT := Lib.hid (hT.after HB3.out)
  clear hT HMV3 HB3
  go_wp2
  go_ret2
  exact HT.out

set_option maxRecDepth 100000 in
set_option maxHeartbeats 2000000 in
/-- The fourth way: the arena cannot grow so far. -/
theorem enlarge_four_b (h : Ar w 80 g base cap A c bs) (hbase : base ≤ 4611686018427387904) (hcap : cap ≤ 16384) (hc : H.cap = cap) (hR : Rt bs H) (hb : H.blks = (A1 ++ p.toList) ++ ⟨xo, xs, true⟩ :: (n.toList ++ B1)) (hN : Near A1 p n B1) (hz : (n.map Bk.size).getD 0 = z) (hs : isSz (s : Int) = true) (hle : xs + z < s) {i : Nat} (hi : usedB H.blks (xo : Int) = some i) (hx0 : bkAt H.blks i = ⟨xo, xs, true⟩) (hend : xo + (xs + z) = bs.length) (hroom : cap < bs.length + (s - (xs + z))) :
    Calls Tryz.prog 90 #[.pointer (some ⟨g, 0, none⟩), .agg #[.int .i64 (xo : Int), .int .i64 (xs : Int), .bool true], .int .i64 (s : Int)] w fun e w' => RezTold g base cap A bs H (xo : Int) (moveR H (xo : Int) s) w e w' := by
  have ss := (isSz_iff _).1 hs
  obtain ⟨hl, hbd⟩ := hR.bound (by omega)
  have hx := hbd ⟨xo, xs, true⟩ (by rw [hb]; simp)
  dsimp only at hx
  have hn : ∀ y, n = some y → 0 < y.size ∧ y.off ≤ 16384 := fun y hy => by have := hbd y (by rw [hb, hy]; simp); omega
  have hzl : xs + z ≤ 16384 := by omega
  have hy := (hR.md (by omega)).behind hb hN
  dsimp only at hy
  have ef := frV_eq 0 n
  rw [hz] at ef
  obtain ⟨fo, hfo⟩ : ∃ fo : Int, (n.map fun z => (z.off : Int)).getD 0 = fo := ⟨_, rfl⟩
  rw [hfo] at ef
  have HMV := Lib.hid (fun w2 (hb2 : Below w.heap.size w w2) => move_any (h.below hb2) hbase hcap hc hR hs hi hx0 (by omega))
  obtain ⟨mr, hmr⟩ : ∃ mr, moveR H (xo : Int) s = mr := ⟨_, rfl⟩
  rw [hmr] at HMV ⊢
  have hlc : bs.length ≤ cap := by have := hR.len; omega
  have HG := Lib.hid (fun w2 c2 A2 (a2 : Ar w2 80 g base cap A2 c2 bs) => grow_full a2 (s - (xs + z)) hlc hcap hroom)
  have ez : ((s - (xs + z) : Nat) : Int) = (s : Int) - ((xs : Int) + (z : Int)) := by omega
  rw [ez] at HG
  have k1 : ((xo : Int) + ((xs : Int) + (z : Int)) == (bs.length : Int)) = true := by rw [beq_iff_eq]; omega
  obtain ⟨w0, hw0⟩ : ∃ w0, w.alloc (.cells #[.int .i64 (xo : Int), .int .i64 (xs : Int), .bool true] 82) = w0 := ⟨_, rfl⟩
  have hb0 : Below w.heap.size w w0 := by rw [← hw0]; exact (Below.refl _ _).alloc (Nat.le_refl _) _
  have n0 : w0.heap[w.heap.size]? = some (.cells #[.int .i64 (xo : Int), .int .i64 (xs : Int), .bool true] 82 (0, 0)) := by rw [← hw0]; exact heap_alloc_new w _
  have hF := behind_any (h.below hb0) hbase hl xo xs (by omega) (by omega) n hy
  rw [ef] at hF
  have HF := Lib.hid hF
  have HA := Lib.hid h
  have HW0 := Lib.hid hw0
  have HB0 := Lib.hid hb0
  have HN0 := Lib.hid n0
  have g1 : ((xs : Int) + (z : Int) < (s : Int)) := by omega
  obtain ⟨⟨d0, d1, d2⟩, _⟩ := blk_cells n0
  have hlt0 := heap_lt' n0
  clear hF hw0 hb0 n0 h hR hb hN hz hy hn hbd hs hle ef hfo hc hend hi hx0 hmr ez hroom
  go_enter Tryz.func90, Tryz.ntmps90
  go_wp2_with (first | (rw [HW0.out]) | fail)
  refine HF.out.mono ?_
  clear d0 d1 d2 hlt0
  rintro e w1 ⟨rfl, hb1⟩
  have n1 := Loc.below hb1 _ _ HN0.out
  obtain ⟨w2, hw2⟩ : ∃ w2, w1.alloc (.cells #[.int .i64 fo, .int .i64 (z : Int), .bool false] 82) = w2 := ⟨_, rfl⟩
  have m2 : w2.heap[w1.heap.size]? = some (.cells #[.int .i64 fo, .int .i64 (z : Int), .bool false] 82 (0, 0)) := by rw [← hw2]; exact heap_alloc_new w1 _
  have n2 : w2.heap[w.heap.size]? = some (.cells #[.int .i64 (xo : Int), .int .i64 (xs : Int), .bool true] 82 (0, 0)) := by rw [← hw2]; exact (heap_alloc_old _ _ (heap_lt n1)).trans n1
  have hb01 := HB0.out.trans (hb1.mono HB0.out.size)
  have hb2 : Below w.heap.size w w2 := by rw [← hw2]; exact hb01.alloc hb01.size _
  obtain ⟨⟨d0, d1, d2⟩, _⟩ := blk_cells n2
  have hlt2 := heap_lt' n2
  obtain ⟨⟨c0, c1, c2⟩, _⟩ := blk_cells m2
  have hlt3 := heap_lt' m2
  have a2 := HA.out.below hb2
  have HNF := Lib.hid (ar_ne a2 n2)
  have HL := Lib.hid (len_any a2.drew)
  have HA2 := Lib.hid a2
  have HW2 := Lib.hid hw2
  have HN2 := Lib.hid n2
  have HM2 := Lib.hid m2
  have HB2 := Lib.hid hb2
  clear hb1 n1 hw2 m2 n2 hb01 hb2 HF HN0 a2 HA HB0
  go_wp2_with (first | (rw [HW2.out]) | fail)
  clear c0 c1 c2 hlt3 d1 d2
  refine wp_region_set (foot g A) [([0, 1, 2, 3, 4], 5), ([6, 7, 8, 9, 10, 11], 12)] [13, 14] [] (by kernel_rfl) (by kernel_rfl) (by kernel_rfl) (fun _ _ _ _ _ h => h) ?_
  have q0 : ∀ z : LaterS (foot g A) w2.drew, z.val.cell? ⟨w.heap.size, 0, none⟩ = some (.int .i64 (xo : Int)) := fun z => z.ext.cell d0 HNF.out
  clear d0
  refine set_cons (l := ?seg1) ?hseg1 ?_
  case hseg1 => simp only [pick, List.getElem?_toArray, List.getElem?_cons_succ, List.getElem?_cons_zero]; rfl
  repeat (go_big_quiet_step (fail))
  refine wpQuiet_nil ?_
  clear q0
  refine set_call (vs := #[.pointer (some ⟨g, 0, none⟩)]) Tryz.call17 rfl rfl rfl (R := fun r w' => r = .int .i64 (bs.length : Int) ∧ w' = w2.drew) (HL.out.mono ?_) ?_
  · rintro e w' ⟨rfl, rfl⟩
    exact ⟨_, rfl, Tch.refl _ _, rfl, rfl⟩
  rintro r w3 _ ⟨rfl, rfl⟩
  refine ⟨foot g A, fun _ _ h => h, ?_⟩
  clear HL
  refine set_cons (l := ?seg2) ?hseg2 ?_
  case hseg2 => simp only [pick, List.getElem?_toArray, List.getElem?_cons_succ, List.getElem?_cons_zero]; rfl
  simp only [Act.put, List.setIfInBounds_toArray, List.set_cons_zero, List.set_cons_succ]
  repeat (go_big_quiet_step (fail))
  refine wpQuiet_nil ?_
  refine set_call (vs := #[.pointer (some ⟨g, 0, none⟩), .int .i64 ((s : Int) - ((xs : Int) + (z : Int)))]) Tryz.call32 rfl rfl rfl (R := fun r w' => r = .iface 68 (.int .i64 5) ∧ ∃ k, w' = w2.drew.drewN k) ((HG.out w2.drew c A HA2.out.drew).mono ?_) ?_
  · rintro e w' ⟨rfl, k, rfl⟩
    exact ⟨_, rfl, Tch.of_below (S := foot g A) ⟨rfl, rfl, rfl, Nat.le_refl _, fun _ _ => rfl⟩, rfl, k, rfl⟩
  rintro r w4 _ ⟨rfl, k, rfl⟩
  refine ⟨foot g A, fun _ _ h => h, ?_⟩
  clear k1
  refine set_last (l := ?la4) (t := []) ?hla4 ?htl4 ?_
  case hla4 => simp only [pick, List.getElem?_toArray, List.getElem?_cons_succ, List.getElem?_cons_zero]; rfl
  case htl4 => rfl
  simp only [Act.put, List.setIfInBounds_toArray, List.set_cons_zero, List.set_cons_succ]
  repeat (go_big_quiet_step (fail))
  refine wpQuiet_nil ?_
  obtain ⟨w3, hw3⟩ : ∃ w3, w2.drew.drewN k = w3 := ⟨_, rfl⟩
  have hb3 : Below w.heap.size w w3 := by
    rw [← hw3]
    have hd := HB2.out.drew
    exact ⟨hd.os, hd.tape, hd.output, hd.size, hd.block⟩
  have n3 : w3.heap[w.heap.size]? = some (.cells #[.int .i64 (xo : Int), .int .i64 (xs : Int), .bool true] 82 (0, 0)) := by rw [← hw3]; exact HN2.out
  rw [hw3]
  have HMV3 := Lib.hid (HMV.out w3 hb3)
  have HB3 := Lib.hid hb3
  obtain ⟨⟨d0, d1, d2⟩, _⟩ := blk_cells n3
  have hlt2 := heap_lt' n3
  clear n3 hb3 HMV HN2 HM2 HB2 HA2 hw3 HW2 HG
  go_wp2_with fail
  refine HMV3.out.mono ?_
  clear d0 d1 d2 hlt2
  rintro e w4 hT
  obtain ⟨v, x, rfl⟩ := hT.shape
  have HT := Lib.hid (hT.after HB3.out)
  clear hT HMV3 HB3
  go_wp2
  go_ret2
  exact HT.out

end
end Go.Proofs.YtbldlidpapdkbaaGreatDoor

/- The contract of the program's Resize (layer 13). -/
namespace Go.Proofs.YtbldlidpapdkbaaGreatDoor
open Go.RowKit

section
variable {w : World} {g base cap c : Nat} {A : Option Addr} {bs : List UInt8} {H : Hp} {xo xs s i : Nat}
theorem enlarge_any (h : Ar w 80 g base cap A c bs) (hbase : base ≤ 4611686018427387904) (hcap : cap ≤ 16384) (hc : H.cap = cap) (hR : Rt bs H) (hs : isSz (s : Int) = true) (hi : usedB H.blks (xo : Int) = some i) (hx : bkAt H.blks i = ⟨xo, xs, true⟩) (hlt : xs < s) :
    Calls Tryz.prog 90 #[.pointer (some ⟨g, 0, none⟩), .agg #[.int .i64 (xo : Int), .int .i64 (xs : Int), .bool true], .int .i64 (s : Int)] w fun e w' => RezTold g base cap A bs H (xo : Int) (H.resize (xo : Int) s) w e w' := by
  obtain ⟨i1, i2, i3⟩ := used_at hi
  obtain ⟨m1, m2⟩ := mid_split i1
  obtain ⟨A1, p, n, B1, eA, eB, hN⟩ := near_of (H.blks.take i) (H.blks.drop (i + 1))
  rw [hx] at m1
  have hb : H.blks = (A1 ++ p.toList) ++ ⟨xo, xs, true⟩ :: (n.toList ++ B1) := by rw [← eA, ← eB]; exact m1
  have hlen : (A1 ++ p.toList).length = i := by rw [← eA]; exact m2
  obtain ⟨z, hz⟩ : ∃ z, (n.map Bk.size).getD 0 = z := ⟨_, rfl⟩
  obtain ⟨_, _, w3, _⟩ := widen_at hb hN.nf hN.nu
  rw [hlen, hz] at w3
  have hlE := hR.lenE
  have hle := hR.len
  have er : H.resize (xo : Int) s = if s ≤ xs + z then ((xo, 0), (H.widen i).cut i s) else if growsB H i s = true then ((xo, 0), (H.widen i).size i s) else moveR H (xo : Int) s := by
    unfold Hp.resize
    rw [hi]
    dsimp only
    rw [hx, w3]
    dsimp only
    rw [if_neg (by omega)]
    rfl
  rw [er]
  by_cases h1 : s ≤ xs + z
  · rw [if_pos h1]
    have k := enlarge_two h hbase hcap hc hR hb hN hz hs h1
    rw [hlen] at k
    refine k.mono ?_
    rintro e w' ⟨rfl, out, k1, k2, k3⟩
    exact RezTold.yes k1 k2 k3 (k3.moved rfl)
  · rw [if_neg h1]
    by_cases h2 : xo + (xs + z) = bs.length
    · by_cases h3 : bs.length + (s - (xs + z)) ≤ cap
      · have hg : growsB H i s = true := by
          unfold growsB
          rw [hx, w3, hlE, Bool.and_eq_true, decide_eq_true_eq, decide_eq_true_eq]
          exact ⟨h2, by omega⟩
        rw [if_pos hg]
        have k := enlarge_three h hbase hcap hc hR hb hN hz hs (by omega) h2 h3
        rw [hlen] at k
        refine k.mono ?_
        rintro e w' ⟨rfl, out, k1, k2, k3⟩
        exact RezTold.yes k1 k2 k3 (k3.moved rfl)
      · have hg : ¬ growsB H i s = true := by
          unfold growsB
          rw [hx, w3, hlE, Bool.and_eq_true, decide_eq_true_eq, decide_eq_true_eq]
          rintro ⟨_, h4⟩
          omega
        rw [if_neg hg]
        exact enlarge_four_b h hbase hcap hc hR hb hN hz hs (by omega) hi hx h2 (by omega)
    · have hg : ¬ growsB H i s = true := by
        unfold growsB
        rw [hx, w3, hlE, Bool.and_eq_true, decide_eq_true_eq, decide_eq_true_eq]
        rintro ⟨h4, _⟩
        exact h2 h4
      rw [if_neg hg]
      exact enlarge_four_a h hbase hcap hc hR hb hN hz hs (by omega) hi hx h2
end

set_option maxRecDepth 100000 in
set_option maxHeartbeats 2000000 in
theorem resizeK : ResizeK := by
  intro w g base cap c A bs H o s h hbase hcap hc hR ho hsr
  have hT := trimK w g base cap c A bs H o s h hbase hcap hc hR ho hsr
  constructor
  · intro hs
    have HT := Lib.hid (hT.1 hs)
    dsimp only [errV] at HT ⊢
    clear hT hs h hR
    go_enter Tryz.func57, Tryz.ntmps57
    go_wp2_with fail
    refine HT.out.mono ?_
    rintro e w1 ⟨rfl, hb1⟩
    have HB1 := Lib.hid hb1
    have HI := Lib.hid (is_11 w1)
    clear hb1 HT
    go_wp2_with fail
    refine HI.out.mono ?_
    rintro e w2 ⟨rfl, rfl⟩
    clear HI
    go_wp2
    go_ret2
    exact ⟨rfl, HB1.out⟩
  · intro hs
    have hq := (isSz_iff _).1 hs
    obtain ⟨n, rfl⟩ : ∃ n : Nat, s = (n : Int) := ⟨s.toNat, by omega⟩
    rw [Int.toNat_natCast]
    have hT := hT.2 hs
    rw [Int.toNat_natCast] at hT
    have HUK := Lib.hid (fun w1 (hB : Below w.heap.size w w1) => usedK w1 g base cap c A bs H o (h.below hB) hbase hcap hc hR ho)
    cases hi : usedB H.blks o with
    | none =>
      have e1 : H.trimO o n = none := by unfold Hp.trimO; rw [hi]
      have e2 : H.resize o n = ((0, 3), H) := by unfold Hp.resize; rw [hi]
      rw [e1] at hT
      rw [e2]
      rw [hi] at HUK
      dsimp only [Turned, BlkTold, bkV, Bk.val, Option.isSome, errV, Option.map] at HUK hT
      have HT := Lib.hid hT
      clear hT hs h hR e1 e2 hi
      go_enter Tryz.func57, Tryz.ntmps57
      go_wp2_with fail
      refine HT.out.mono ?_
      rintro e w1 ⟨rfl, hb1⟩
      have HB1 := Lib.hid hb1
      have HI := Lib.hid (is_31 w1)
      have HU := Lib.hid (HUK.out w1 hb1)
      clear hb1 HT HUK
      go_wp2_with fail
      refine HI.out.mono ?_
      rintro e w2 ⟨rfl, rfl⟩
      clear HI
      go_wp2_with fail
      refine HU.out.mono ?_
      rintro e w3 ⟨rfl, hb3⟩
      have hb3' := HB1.out.trans (hb3.mono HB1.out.size)
      have HB3 := Lib.hid (hb3'.alloc hb3'.size (.cells #[.int .i64 0, .int .i64 0, .bool false] 82))
      clear hb3 hb3' HU HB1
      go_wp2
      go_ret2
      exact RezTold.no (by decide) HB3.out
    | some i =>
      obtain ⟨i1, i2, i3⟩ := used_at hi
      obtain ⟨x, hx⟩ : ∃ x, bkAt H.blks i = x := ⟨_, rfl⟩
      obtain ⟨xo, xs, xu⟩ := x
      rw [hx] at i2 i3
      dsimp only at i2 i3
      subst i3
      subst i2
      have hxb := (hR.bound (by omega)).2 _ (List.mem_of_getElem? (bkAt_get i1))
      rw [hx] at hxb
      dsimp only at hxb
      have hbl := (hR.bound (by omega)).1
      by_cases hle : n ≤ xs
      · have e1 : H.trimO (xo : Int) n = some (H.cut i n) := by
          unfold Hp.trimO
          rw [hi]
          dsimp only
          rw [hx]
          dsimp only
          rw [if_neg (by omega)]
        have e2 : H.resize (xo : Int) n = ((xo, 0), H.cut i n) := by
          unfold Hp.resize
          rw [hi]
          dsimp only
          rw [hx]
          dsimp only
          rw [if_pos hle]
        rw [e1] at hT
        rw [e2]
        dsimp only [Turned, errV] at hT
        have HT := Lib.hid hT
        clear hT hs h hR e1 e2 hi HUK
        go_enter Tryz.func57, Tryz.ntmps57
        go_wp2_with fail
        refine HT.out.mono ?_
        rintro e w1 ⟨rfl, out, hB, hR1, hH1⟩
        have HF := Lib.hid (RezTold.yes (o := (xo : Int)) hB hR1 hH1 (hH1.moved rfl))
        clear hB hR1 hH1 HT
        go_wp2
        go_ret2
        exact HF.out
      · have e1 : H.trimO (xo : Int) n = none := by
          unfold Hp.trimO
          rw [hi]
          dsimp only
          rw [hx]
          dsimp only
          rw [if_pos (by omega)]
        have HE := Lib.hid (fun w1 (hB : Below w.heap.size w w1) => enlarge_any (h.below hB) hbase hcap hc hR hs hi hx (by omega))
        obtain ⟨rr, hrr⟩ : ∃ rr, H.resize (xo : Int) n = rr := ⟨_, rfl⟩
        rw [hrr] at HE ⊢
        rw [e1] at hT
        rw [hi, Option.map_some, hx] at HUK
        dsimp only [Turned, BlkTold, bkV, Bk.val, Option.isSome, errV] at HUK hT
        have HT := Lib.hid hT
        clear hT hs h hR e1 hi hrr
        go_enter Tryz.func57, Tryz.ntmps57
        go_wp2_with fail
        refine HT.out.mono ?_
        rintro e w1 ⟨rfl, hb1⟩
        have HB1 := Lib.hid hb1
        have HI := Lib.hid (is_31 w1)
        have HU := Lib.hid (HUK.out w1 hb1)
        clear hb1 HT HUK
        go_wp2_with fail
        refine HI.out.mono ?_
        rintro e w2 ⟨rfl, rfl⟩
        clear HI
        go_wp2_with fail
        refine HU.out.mono ?_
        rintro e w3 ⟨rfl, hb3⟩
        have hb3' := HB1.out.trans (hb3.mono HB1.out.size)
        obtain ⟨w4, hw4⟩ : ∃ w4, w3.alloc (.cells #[.int .i64 (xo : Int), .int .i64 (xs : Int), .bool true] 82) = w4 := ⟨_, rfl⟩
        have hb4 : Below w.heap.size w w4 := by rw [← hw4]; exact hb3'.alloc hb3'.size _
        have n4 : w4.heap[w3.heap.size]? = some (.cells #[.int .i64 (xo : Int), .int .i64 (xs : Int), .bool true] 82 (0, 0)) := by rw [← hw4]; exact heap_alloc_new w3 _
        have HE4 := Lib.hid (HE.out w4 hb4)
        have HB4 := Lib.hid hb4
        have HW4 := Lib.hid hw4
        obtain ⟨⟨d0, d1, d2⟩, _⟩ := blk_cells n4
        have hlt4 := heap_lt' n4
        clear hb3 hb3' HU HB1 HE hb4 hw4 n4
        go_wp2_with (first | (rw [HW4.out]) | fail)
        refine HE4.out.mono ?_
        clear d0 d1 d2 hlt4
        rintro e w5 hT
        obtain ⟨v, x, rfl⟩ := hT.shape
        have HT := Lib.hid (hT.after HB4.out)
        clear hT HE4 HB4
        go_wp2
        go_ret2
        exact HT.out
end Go.Proofs.YtbldlidpapdkbaaGreatDoor

/- errors.As of one of the program's own errors, at a variable of that type: Go's own text, walked. -/
namespace Go.Proofs.YtbldlidpapdkbaaGreatDoor
open Go.RowKit Go.Extern.Stop Go.Stop Go.Extern

/-- What errors.errorType holds. -/
def ETV : Value := .iface 164 (.agg #[.pointer (some ⟨1, 27, none⟩)])
def ET (w : World) : Prop := w.cell? ⟨0, 0, none⟩ = some (.iface 164 (.agg #[.pointer (some ⟨1, 27, none⟩)]))

theorem as_nil (t : Value) (w : World) :
    Calls Tryz.prog 63 #[.nilIface, t] w fun e w' => e = .returned (.bool false) ∧ w' = w := by
  go_enter Tryz.func63, Tryz.ntmps63
  go_wp2
  go_ret
  exact ⟨rfl, rfl⟩

theorem as_valueOfP (t : Addr) (w : World) : (ReflectliteValue.unpack (.iface 107 (.pointer (some t)))).run Tryz.prog w
    = .ok (.agg #[.pointer (some ⟨1, 107, none⟩), .pointer (some ⟨w.heap.size, 0, none⟩), .int .u64 150]) (w.alloc (.cells #[.pointer (some t)] 107)) := by kernel_rfl
theorem as_typeP (a : Addr) (w : World) : (ReflectliteValue.methodAny (ReflectliteValue.valueError "reflectlite.Value.Type" 0) (fun t _ _ _ => ReflectliteType.toType t) #[.agg #[.pointer (some ⟨1, 107, none⟩), .pointer (some a), .int .u64 150]]).run Tryz.prog w
    = .ok (.iface 164 (.agg #[.pointer (some ⟨1, 107, none⟩)])) w := by kernel_rfl
theorem as_methodKind (h : Value) (w : World) : (Go.method 319 164 (.agg #[h]) "Kind").run Tryz.prog w = .ok (159, h) w := by kernel_rfl
theorem as_kindP (w : World) : ((ReflectliteType.abiMethod fun t => (fun a : Nat => Value.int IntKind.u8 (a : Int)) <$> Rtype.kind t) #[.pointer (some ⟨1, 107, none⟩)]).run Tryz.prog w = .ok (.int .u8 22) w := by kernel_rfl
theorem as_kindC (w : World) : ((ReflectliteType.abiMethod fun t => (fun a : Nat => Value.int IntKind.u8 (a : Int)) <$> Rtype.kind t) #[.pointer (some ⟨1, 68, none⟩)]).run Tryz.prog w = .ok (.int .u8 2) w := by kernel_rfl
theorem as_rlm (z : Sem Value) (f : TypeId → Addr → Nat → Nat → Sem Value) (v : Value) :
    ReflectliteValue.method z f #[v] = (do match ← ReflectliteValue.parts v with | none => z | some (t, a, fl) => f t a fl (fl % 32)) := rfl
theorem as_partsP (a : Addr) (w : World) : (ReflectliteValue.parts (.agg #[.pointer (some ⟨1, 107, none⟩), .pointer (some a), .int .u64 150])).run Tryz.prog w = .ok (some (107, a, 150)) w := by kernel_rfl
theorem as_isNilP (a p : Addr) (W : World) (ha : W.cell? a = some (.pointer (some p))) :
    (ReflectliteValue.method (ReflectliteValue.valueError "reflectlite.Value.IsNil" 0) ReflectliteValue.isNil #[.agg #[.pointer (some ⟨1, 107, none⟩), .pointer (some a), .int .u64 150]]).run Tryz.prog W = .ok (.bool false) W := by
  rw [as_rlm]
  simp only [Sem.run_bind, as_partsP, Result.andThen]
  simp [ReflectliteValue.isNil, loadVar, isAgg, underlying, Tryz.underlying107, ha, Result.andThen]
theorem as_methodElem (h : Value) (w : World) : (Go.method 319 164 (.agg #[h]) "Elem").run Tryz.prog w = .ok (169, .agg #[h]) w := by kernel_rfl
theorem as_methodImplements (h : Value) (w : World) : (Go.method 319 164 (.agg #[h]) "Implements").run Tryz.prog w = .ok (170, .agg #[h]) w := by kernel_rfl
theorem as_methodAssignableTo (h : Value) (w : World) : (Go.method 319 164 (.agg #[h]) "AssignableTo").run Tryz.prog w = .ok (167, .agg #[h]) w := by kernel_rfl
theorem as_elemP (w : World) : (ReflectliteType.method ReflectliteType.elem #[.agg #[.pointer (some ⟨1, 107, none⟩)]]).run Tryz.prog w = .ok (.iface 164 (.agg #[.pointer (some ⟨1, 68, none⟩)])) w := by kernel_rfl
theorem as_implC (w : World) : (ReflectliteType.relation "Implements" ReflectliteType.implements_ #[.agg #[.pointer (some ⟨1, 68, none⟩)], .iface 164 (.agg #[.pointer (some ⟨1, 27, none⟩)])]).run Tryz.prog w = .ok (.bool true) w := by kernel_rfl
theorem as_typeOfC (v : Value) (w : World) : (ReflectliteType.typeOf #[.iface 68 v]).run Tryz.prog w = .ok (.iface 164 (.agg #[.pointer (some ⟨1, 68, none⟩)])) w := by kernel_rfl
theorem as_assignC (w : World) : (ReflectliteType.relation "AssignableTo" ReflectliteType.assignableTo #[.agg #[.pointer (some ⟨1, 68, none⟩)], .iface 164 (.agg #[.pointer (some ⟨1, 68, none⟩)])]).run Tryz.prog w = .ok (.bool true) w := by kernel_rfl
theorem as_valueOfC (k : Int) (w : World) : (ReflectliteValue.unpack (.iface 68 (.int .i64 k))).run Tryz.prog w
    = .ok (.agg #[.pointer (some ⟨1, 68, none⟩), .pointer (some ⟨w.heap.size, 0, none⟩), .int .u64 130]) (w.alloc (.cells #[.int .i64 k] 68)) := by kernel_rfl
theorem as_elemOfP (w : World) : (Rtype.elem? 107).run Tryz.prog w = .ok (some 68) w := by kernel_rfl
theorem as_mkC (p : Addr) (w : World) : (ReflectliteValue.mk 68 p ReflectliteValue.flagAddr).run Tryz.prog w = .ok (.agg #[.pointer (some ⟨1, 68, none⟩), .pointer (some p), .int .u64 386]) w := by kernel_rfl
theorem as_elemVP (a p : Addr) (W : World) (ha : W.cell? a = some (.pointer (some p))) :
    (ReflectliteValue.method (ReflectliteValue.valueError "reflectlite.Value.Elem" 0) ReflectliteValue.elem #[.agg #[.pointer (some ⟨1, 107, none⟩), .pointer (some a), .int .u64 150]]).run Tryz.prog W
      = .ok (.agg #[.pointer (some ⟨1, 68, none⟩), .pointer (some p), .int .u64 386]) W := by
  rw [as_rlm]
  simp only [Sem.run_bind, as_partsP, Result.andThen]
  simp [ReflectliteValue.elem, loadVar, isAgg, underlying, Tryz.underlying107, ha, Result.andThen, as_elemOfP, as_mkC]
theorem as_rls (v x : Value) : ReflectliteValue.set #[v, x] = (do
    let (some (dst, a, fl), some (src, b, _)) := (← ReflectliteValue.parts v, ← ReflectliteValue.parts x)
      | unsupported (.noEntry "extern/(internal/reflectlite.Value).Set.zeroValue")
    if fl / ReflectliteValue.flagAddr % 2 == 0 then unsupported (.noEntry "extern/(internal/reflectlite.Value).Set.unaddressable")
    let val ← loadVar src b
    if ← Rtype.directlyAssignable dst src then storeVar dst a val
    else if ← Rtype.implements dst src then
      if (← Rtype.kind src) == 20 then
        match val with
        | .nilIface => unsupported (.noEntry "extern/reflectlite: a nil value of one interface type handed on as a value of another")
        | _ => storeVar dst a val
      else storeVar dst a (.iface src val)
    else panicString ("reflectlite.Set: value of type " ++ (← Rtype.spelt src) ++ " is not assignable to type " ++ (← Rtype.spelt dst))
    pure (.tuple #[])) := rfl
theorem as_partsCa (a : Addr) (w : World) : (ReflectliteValue.parts (.agg #[.pointer (some ⟨1, 68, none⟩), .pointer (some a), .int .u64 386])).run Tryz.prog w = .ok (some (68, a, 386)) w := by kernel_rfl
theorem as_partsC (a : Addr) (w : World) : (ReflectliteValue.parts (.agg #[.pointer (some ⟨1, 68, none⟩), .pointer (some a), .int .u64 130])).run Tryz.prog w = .ok (some (68, a, 130)) w := by kernel_rfl
theorem as_directC (w : World) : (Rtype.directlyAssignable 68 68).run Tryz.prog w = .ok true w := by kernel_rfl
theorem as_setC (ta b : Addr) (k : Int) (old : Value) (W : World) (hb : W.cell? b = some (.int .i64 k)) (ht : W.cell? ta = some old) (hf : W.frozen? ta = false) :
    (ReflectliteValue.set #[.agg #[.pointer (some ⟨1, 68, none⟩), .pointer (some ta), .int .u64 386], .agg #[.pointer (some ⟨1, 68, none⟩), .pointer (some b), .int .u64 130]]).run Tryz.prog W
      = .ok (.tuple #[]) (W.setCell ta (.int .i64 k)) := by
  rw [as_rls]
  simp only [Sem.run_bind, as_partsCa, as_partsC, Result.andThen]
  simp [ReflectliteValue.flagAddr, loadVar, isAgg, underlying, Tryz.underlying68, hb, Result.andThen, as_directC, storeVar, Value.cells, storeCells, Addr.add]
  rw [run_store Tryz.prog W ta _ _ (by rfl)]
  simp [ht, hf]

set_option maxHeartbeats 4000000 in
theorem as_hit (k : Int) (t : Addr) (old : Value) (w : World) (hg : ET w) (ht0 : w.cell? t = some old) (hf0 : w.frozen? t = false) :
    Calls Tryz.prog 63 #[.iface 68 (.int .i64 k), .iface 107 (.pointer (some t))] w fun ev w' => ev = .returned (.bool true) ∧ w' = ((((w.alloc (.cells #[.pointer (some t)] 107)).alloc (.cells #[.pointer (some ⟨1, 107, none⟩), .pointer (some ⟨w.heap.size, 0, none⟩), .int .u64 150] 135)).alloc (.cells #[.pointer (some ⟨1, 107, none⟩), .pointer (some ⟨w.heap.size, 0, none⟩), .int .u64 150] 135)).alloc (.cells #[.int .i64 k] 68)).setCell t (.int .i64 k) := by
  unfold ET at hg
  have h6 := @run_callFunc_extern Tryz.prog 93 _ (fun args => ReflectliteValue.unpack (args.getD 0 (.tuple #[]))) Tryz.func93 (by kernel_rfl) (by kernel_rfl) (by kernel_rfl) (by kernel_rfl)
  have h7 := @run_callFunc_extern Tryz.prog 94 _ (ReflectliteValue.methodAny (ReflectliteValue.valueError "reflectlite.Value.Type" 0) (fun t _ _ _ => ReflectliteType.toType t)) Tryz.func94 (by kernel_rfl) (by kernel_rfl) (by kernel_rfl) (by kernel_rfl)
  have h8 := @run_callFunc_extern Tryz.prog 95 _ (ReflectliteValue.method (ReflectliteValue.valueError "reflectlite.Value.IsNil" 0) ReflectliteValue.isNil) Tryz.func95 (by kernel_rfl) (by kernel_rfl) (by kernel_rfl) (by kernel_rfl)
  have h27 := @run_callFunc_extern Tryz.prog 159 _ (ReflectliteType.abiMethod fun t => do pure (.int .u8 (← Rtype.kind t))) Tryz.func159 (by kernel_rfl) (by kernel_rfl) (by kernel_rfl) (by kernel_rfl)
  have h37 := @run_callFunc_extern Tryz.prog 169 _ (ReflectliteType.method ReflectliteType.elem) Tryz.func169 (by kernel_rfl) (by kernel_rfl) (by kernel_rfl) (by kernel_rfl)
  have h38 := @run_callFunc_extern Tryz.prog 170 _ (ReflectliteType.relation "Implements" ReflectliteType.implements_) Tryz.func170 (by kernel_rfl) (by kernel_rfl) (by kernel_rfl) (by kernel_rfl)
  have h10 := @run_callFunc_extern Tryz.prog 120 _ ReflectliteType.typeOf Tryz.func120 (by kernel_rfl) (by kernel_rfl) (by kernel_rfl) (by kernel_rfl)
  have h35 := @run_callFunc_extern Tryz.prog 167 _ (ReflectliteType.relation "AssignableTo" ReflectliteType.assignableTo) Tryz.func167 (by kernel_rfl) (by kernel_rfl) (by kernel_rfl) (by kernel_rfl)
  have h11 := @run_callFunc_extern Tryz.prog 126 _ (ReflectliteValue.method (ReflectliteValue.valueError "reflectlite.Value.Elem" 0) ReflectliteValue.elem) Tryz.func126 (by kernel_rfl) (by kernel_rfl) (by kernel_rfl) (by kernel_rfl)
  have h12 := @run_callFunc_extern Tryz.prog 127 _ ReflectliteValue.set Tryz.func127 (by kernel_rfl) (by kernel_rfl) (by kernel_rfl) (by kernel_rfl)
  have tO := as_typeOfC
  have mA := as_methodAssignableTo
  have a25 := as_assignC
  have v25 := as_valueOfC
  have f6 := as_valueOfP
  have f7 := as_typeP
  have mK := as_methodKind
  have mE := as_methodElem
  have mI := as_methodImplements
  have k27 := as_kindP
  have k25 := as_kindC
  have e27 := as_elemP
  have i25 := as_implC
  have n8 := as_isNilP ⟨w.heap.size, 0, none⟩ t ((w.alloc (.cells #[.pointer (some t)] 107)).alloc (.cells #[.pointer (some ⟨1, 107, none⟩), .pointer (some ⟨w.heap.size, 0, none⟩), .int .u64 150] 135)) (by simp)
  have hlt : 0 < w.heap.size := by
    rcases Nat.eq_zero_or_pos w.heap.size with h0 | h
    · simp [World.cell?, h0] at hg
    · exact h
  have hg2 : ((w.alloc (.cells #[.pointer (some t)] 107)).alloc (.cells #[.pointer (some ⟨1, 107, none⟩), .pointer (some ⟨w.heap.size, 0, none⟩), .int .u64 150] 135)).cell? ⟨0, 0, none⟩ = some (.iface 164 (.agg #[.pointer (some ⟨1, 27, none⟩)])) := by
    rw [World.cell?_alloc_lt _ _ ⟨0, 0, none⟩ (by simp), World.cell?_alloc_lt _ _ ⟨0, 0, none⟩ hlt]; exact hg
  have htl : t.block < w.heap.size := by
    rcases Nat.lt_or_ge t.block w.heap.size with h | h
    · exact h
    · simp [World.cell?, Array.getElem?_eq_none h] at ht0
  have el := as_elemVP ⟨w.heap.size, 0, none⟩ t (((w.alloc (.cells #[.pointer (some t)] 107)).alloc (.cells #[.pointer (some ⟨1, 107, none⟩), .pointer (some ⟨w.heap.size, 0, none⟩), .int .u64 150] 135)).alloc (.cells #[.pointer (some ⟨1, 107, none⟩), .pointer (some ⟨w.heap.size, 0, none⟩), .int .u64 150] 135)) (by rw [World.cell?_alloc_lt _ _ ⟨w.heap.size, 0, none⟩ (by simp; omega)]; simp)
  have st := as_setC t ⟨w.heap.size + 1 + 1 + 1, 0, none⟩ k old ((((w.alloc (.cells #[.pointer (some t)] 107)).alloc (.cells #[.pointer (some ⟨1, 107, none⟩), .pointer (some ⟨w.heap.size, 0, none⟩), .int .u64 150] 135)).alloc (.cells #[.pointer (some ⟨1, 107, none⟩), .pointer (some ⟨w.heap.size, 0, none⟩), .int .u64 150] 135)).alloc (.cells #[.int .i64 k] 68))
    (by rw [World.cell?_alloc_at _ _ _ _ (by simp)]; rfl)
    (by rw [World.cell?_alloc_lt _ _ t (by simp; omega), World.cell?_alloc_lt _ _ t (by simp; omega), World.cell?_alloc_lt _ _ t (by simp; omega), World.cell?_alloc_lt _ _ t htl]; exact ht0)
    (by rw [World.frozen?_alloc_old _ _ t (by simp; omega), World.frozen?_alloc_old _ _ t (by simp; omega), World.frozen?_alloc_old _ _ t (by simp; omega), World.frozen?_alloc_old _ _ t (Nat.ne_of_lt htl)]; exact hf0)
  go_enter Tryz.func63, Tryz.ntmps63
  go_wp2
  refine wp_loop_rounds 1 ?_
  rw [rounds_succ]
  go_wp2
  go_ret
  exact ⟨rfl, rfl⟩
end Go.Proofs.YtbldlidpapdkbaaGreatDoor

/- The program's heap (layer 14): a block that tells an arena, whose bytes are a heap; usable, find. -/
namespace Go.Proofs.YtbldlidpapdkbaaGreatDoor
open Go.RowKit

/-- At block q lies a heap: it tells the arena at g, whose bytes are H. -/
structure PH (w : World) (q g base cap : Nat) (A : Option Addr) (c : Nat) (bs : List UInt8) (H : Hp) : Prop where
  obj : w.heap[q]? = some (.cells #[.pointer (some ⟨g, 0, none⟩)] 72 (0, 0))
  ar : Ar w 80 g base cap A c bs
  rd : RtD bs H
  cp : H.cap = cap
  c16 : cap ≤ 16384
  b62 : base ≤ 4611686018427387904
section
variable {w w' : World} {q g base cap c : Nat} {A : Option Addr} {bs out : List UInt8} {H H' : Hp}
theorem PH.lt (h : PH w q g base cap A c bs H) : q < w.heap.size := heap_lt h.obj
theorem PH.c0 (h : PH w q g base cap A c bs H) : w.cell? ⟨q, 0, none⟩ = some (.pointer (some ⟨g, 0, none⟩)) := by rw [cell_of_row w q 0 _ _ (0, 0) h.obj]; rfl
theorem PH.ap (h : PH w q g base cap A c bs H) : ¬ foot g A q := by
  rintro (rfl | ⟨a, ea, rfl⟩)
  · have h1 := h.ar.obj
    rw [h.obj] at h1
    injection h1 with h1
    injection h1 with _ h2 _
    exact absurd h2 (by decide)
  · obtain ⟨h', e, cur, hg, _⟩ := h.ar.row ea
    subst e
    rw [h.obj] at hg
    injection hg with hg
    injection hg with _ h2 _
    exact absurd h2 (by decide)
theorem PH.below (h : PH w q g base cap A c bs H) (hb : Below w.heap.size w w') : PH w' q g base cap A c bs H :=
  ⟨(hb.block q h.lt).trans h.obj, h.ar.below hb, h.rd, h.cp, h.c16, h.b62⟩
theorem PH.len (h : PH w q g base cap A c bs H) : bs.length ≤ 16384 := (h.rd.rt.bound (by rw [h.cp]; exact h.c16)).1
theorem PH.became (h : PH w q g base cap A c bs H) (hb : Became 80 g base cap A out w w') (rd : RtD out H') (hc : H'.cap = cap) :
    ∃ A' c', PH w' q g base cap A' c' out H' ∧ Tch (foot g A) w w' ∧ (A' = A ∨ ∀ a, A' = some a → w.heap.size ≤ a.block) := by
  obtain ⟨A', c', a, t, k⟩ := hb
  exact ⟨A', c', ⟨(t.block q h.lt h.ap).trans h.obj, a, rd, hc, h.c16, h.b62⟩, t, k⟩
theorem PH.same (h : PH w q g base cap A c bs H) : Became 80 g base cap A bs w w := ⟨A, c, h.ar, Tch.refl _ _, .inl rfl⟩

set_option maxRecDepth 100000 in
set_option maxHeartbeats 400000 in
theorem husable_any (w : World) (o : Int) (s : Nat) (u : Bool) (h1 : 16 ≤ s) (h2 : s ≤ 16384) :
    Calls Tryz.prog 59 #[.agg #[.int .i64 o, .int .i64 (s : Int), .bool u]] w fun e w' => e = .returned (.int .u64 ((s - 16 : Nat) : Int)) ∧ Below w.heap.size w w' := by
  have e : ((s - 16 : Nat) : Int) = (s : Int) - 16 := by omega
  rw [e]
  have ew : IntKind.u64.wrap ((s : Int) - 16) = (s : Int) - 16 := IntWalk.u64_in _ (by omega)
  clear e
  go_enter Tryz.func59, Tryz.ntmps59
  go_wp2
  go_ret
  exact ⟨rfl, (Below.refl _ _).alloc (Nat.le_refl _) _⟩

theorem handle_of (h : PH w q g base cap A c bs H) {p : Nat} (p8 : 8 ≤ p) (pl : p ≤ bs.length) : H.handleB p = usedB H.blks ((p : Int) - 8) := by
  have := h.len
  unfold Hp.handleB
  rw [if_neg (by omega)]
theorem handle_far (h : PH w q g base cap A c bs H) {p : Nat} (pl : bs.length < p) : H.handleB p = none := by
  unfold Hp.handleB
  split
  · rfl
  · refine used_miss fun i x hx hh => ?_
    have := (h.rd.rt.bound (by rw [h.cp]; exact h.c16)).2 x (List.mem_of_getElem? hx)
    omega
set_option maxRecDepth 100000 in
set_option maxHeartbeats 1000000 in
theorem pfind_any (h : PH w q g base cap A c bs H) (p : Nat) (hp : p < 18446744073709551616) :
    Calls Tryz.prog 54 #[.pointer (some ⟨q, 0, none⟩), .int .u64 (p : Int)] w fun e w' => e = .returned (.tuple #[bkV ((H.handleB p).map (bkAt H.blks)), errV (H.handleB p).isSome 4]) ∧ Below w.heap.size w w' := by
  obtain ⟨w1, hw1⟩ : ∃ w1, w.alloc (.cells #[.int .i64 0, .int .i64 0, .bool false] 82) = w1 := ⟨_, rfl⟩
  have hb1 : Below w.heap.size w w1 := by rw [← hw1]; exact (Below.refl _ _).alloc (Nat.le_refl _) _
  have n1 : w1.heap[w.heap.size]? = some (.cells #[.int .i64 0, .int .i64 0, .bool false] 82 (0, 0)) := by rw [← hw1]; exact heap_alloc_new w _
  have h1 := h.below hb1
  have hl := h.len
  obtain ⟨⟨c0, c1, c2⟩, f0, f1, f2⟩ := blk_cells n1
  have hlt1 := heap_lt' n1
  have HW1 := Lib.hid hw1
  have HB1 := Lib.hid hb1
  have HN1 := Lib.hid n1
  have k0 := h1.c0
  have HL := Lib.hid (len_any h1.ar)
  by_cases p8 : p < 8
  · have e : H.handleB p = none := by unfold Hp.handleB; rw [if_pos (.inl p8)]
    rw [e]
    dsimp only [bkV, errV, Option.map, Option.isSome]
    have g1 : decide ((p : Int) < 8) = true := decide_eq_true (by omega)
    clear e h h1 hw1 hb1 n1 k0 HL
    go_enter Tryz.func54, Tryz.ntmps54
    go_wp2_with (first | (rw [HW1.out]) | fail)
    (try simp only [Exit.inBlock, Exit.then])
    refine blk_ret (x := .iface 68 (.int .i64 4)) (g := w.heap.size) (o := 0) (s := 0) (b := false) Tryz.results54 ?_ ?_ ?_ (blk_set HN1.out _ _ _) ?_
    · rfl
    · rfl
    · rfl
    · exact ⟨rfl, ((HB1.out.setCell (Nat.le_refl _) _).setCell (Nat.le_refl _) _).setCell (Nat.le_refl _) _⟩
  · have g1 : decide ((p : Int) < 8) = false := decide_eq_false (by omega)
    obtain ⟨n, hn⟩ : ∃ n, bs.length = n := ⟨_, rfl⟩
    rw [hn] at HL hl
    by_cases pl : n < p
    · have e := handle_far h (p := p) (by omega)
      rw [e]
      dsimp only [bkV, errV, Option.map, Option.isSome]
      have g2 : decide ((n : Int) < (p : Int)) = true := decide_eq_true (by omega)
      clear e h h1 hw1 hb1 n1
      go_enter Tryz.func54, Tryz.ntmps54
      go_wp2_with (first | (rw [HW1.out]) | fail)
      refine HL.out.mono ?_
      rintro e w2 ⟨rfl, rfl⟩
      go_wp2
      (try simp only [Exit.inBlock, Exit.then])
      refine blk_ret (x := .iface 68 (.int .i64 4)) (g := w.heap.size) (o := 0) (s := 0) (b := false) Tryz.results54 ?_ ?_ ?_ (blk_set HN1.out _ _ _) ?_
      · rfl
      · rfl
      · rfl
      · exact ⟨rfl, ((HB1.out.setCell (Nat.le_refl _) _).setCell (Nat.le_refl _) _).setCell (Nat.le_refl _) _⟩
    · have g2 : decide ((n : Int) < (p : Int)) = false := decide_eq_false (by omega)
      have e := handle_of h (p := p) (by omega) (by omega)
      rw [e]
      obtain ⟨pz, hpz⟩ : ∃ pz : Int, (p : Int) - 8 = pz := ⟨_, rfl⟩
      have hU := usedK w1 g base cap c A bs H pz h1.ar h.b62 h.c16 h.cp h.rd.rt (by omega)
      rw [hpz]
      have ewp : IntKind.i64.wrap pz = pz := IntWalk.i64_in _ (by omega)
      cases hi : usedB H.blks pz with
      | none =>
        rw [hi] at hU
        dsimp only [BlkTold, bkV, errV, Option.map, Option.isSome] at hU ⊢
        have HU := Lib.hid hU
        clear e h h1 hw1 hb1 n1 hU hi
        go_enter Tryz.func54, Tryz.ntmps54
        go_wp2_with (first | (rw [HW1.out]) | fail)
        refine HL.out.mono ?_
        rintro e w2 ⟨rfl, rfl⟩
        go_wp2_with fail
        refine HU.out.mono ?_
        rintro e w2 ⟨rfl, hb2⟩
        have n2 := (hb2.block w.heap.size (heap_lt HN1.out)).trans HN1.out
        have n3 : (w2.alloc (.cells #[.int .i64 0, .int .i64 0, .bool false] 82)).heap[w.heap.size]? = some (.cells #[.int .i64 0, .int .i64 0, .bool false] 82 (0, 0)) := (heap_alloc_old _ _ (heap_lt n2)).trans n2
        have hb12 := HB1.out.trans (hb2.mono HB1.out.size)
        have hb3 : Below w.heap.size w (w2.alloc (.cells #[.int .i64 0, .int .i64 0, .bool false] 82)) := hb12.alloc hb12.size _
        clear c0 c1 c2 f0 f1 f2 hlt1 k0
        obtain ⟨⟨c0, c1, c2⟩, f0, f1, f2⟩ := blk_cells n3
        have hlt3 := heap_lt' n3
        have HB3 := Lib.hid hb3
        have HN3 := Lib.hid n3
        clear hb3 n3 n2 hb12 hb2 HU HL HN1 HB1 HW1
        go_wp2
        (try simp only [Exit.inBlock, Exit.then])
        refine blk_ret (x := .iface 68 (.int .i64 4)) (g := w.heap.size) (o := 0) (s := 0) (b := false) Tryz.results54 ?_ ?_ ?_ (blk_set HN3.out _ _ _) ?_
        · rfl
        · rfl
        · rfl
        · exact ⟨rfl, ((HB3.out.setCell (Nat.le_refl _) _).setCell (Nat.le_refl _) _).setCell (Nat.le_refl _) _⟩
      | some i =>
        rw [hi] at hU
        obtain ⟨x, hx⟩ : ∃ x, bkAt H.blks i = x := ⟨_, rfl⟩
        dsimp only [BlkTold, Option.map] at hU ⊢
        rw [hx] at hU ⊢
        obtain ⟨xo, xs, xu⟩ := x
        dsimp only [bkV, Bk.val, errV, Option.isSome] at hU ⊢
        have HU := Lib.hid hU
        clear e h h1 hw1 hb1 n1 hU hi hx
        go_enter Tryz.func54, Tryz.ntmps54
        go_wp2_with (first | (rw [HW1.out]) | fail)
        refine HL.out.mono ?_
        rintro e w2 ⟨rfl, rfl⟩
        go_wp2_with fail
        refine HU.out.mono ?_
        rintro e w2 ⟨rfl, hb2⟩
        have n2 := (hb2.block w.heap.size (heap_lt HN1.out)).trans HN1.out
        obtain ⟨w3, hw3⟩ : ∃ w3, w2.alloc (.cells #[.int .i64 (xo : Int), .int .i64 (xs : Int), .bool xu] 82) = w3 := ⟨_, rfl⟩
        have n3 : w3.heap[w.heap.size]? = some (.cells #[.int .i64 0, .int .i64 0, .bool false] 82 (0, 0)) := by rw [← hw3]; exact (heap_alloc_old _ _ (heap_lt n2)).trans n2
        have m3 : w3.heap[w2.heap.size]? = some (.cells #[.int .i64 (xo : Int), .int .i64 (xs : Int), .bool xu] 82 (0, 0)) := by rw [← hw3]; exact heap_alloc_new w2 _
        have hb12 := HB1.out.trans (hb2.mono HB1.out.size)
        have hb3 : Below w.heap.size w w3 := by rw [← hw3]; exact hb12.alloc hb12.size _
        have HNEQ := Lib.hid (show w2.heap.size ≠ w.heap.size from fun e => by have := heap_lt n2; omega)
        clear c0 c1 c2 f0 f1 f2 hlt1 k0
        obtain ⟨⟨c0, c1, c2⟩, f0, f1, f2⟩ := blk_cells n3
        obtain ⟨⟨d0, d1, d2⟩, _⟩ := blk_cells m3
        have hlt3 := heap_lt' n3
        have hlt4 := heap_lt' m3
        have HW3 := Lib.hid hw3
        have HB3 := Lib.hid hb3
        have HN3 := Lib.hid n3
        clear hw3 hb3 n3 n2 hb12 hb2 HU HL HN1 HB1 HW1 m3
        go_wp2_with (first | (rw [HW3.out]) | fail)
        (try simp only [Exit.inBlock, Exit.then])
        refine blk_ret (x := .nilIface) (g := w.heap.size) (o := (xo : Int)) (s := (xs : Int)) (b := xu) Tryz.results54 ?_ ?_ ?_ (blk_set HN3.out _ _ _) ?_
        · rfl
        · rfl
        · rfl
        · exact ⟨rfl, ((HB3.out.setCell (Nat.le_refl _) _).setCell (Nat.le_refl _) _).setCell (Nat.le_refl _) _⟩
end
end Go.Proofs.YtbldlidpapdkbaaGreatDoor

/- The program's heap (layer 14): place, fill. -/
namespace Go.Proofs.YtbldlidpapdkbaaGreatDoor
open Go.RowKit

section
variable {w w' : World} {q g base cap c : Nat} {A : Option Addr} {bs out : List UInt8} {H H' : Hp}
/-- The block of a handle. -/
theorem PH.blk (h : PH w q g base cap A c bs H) {p i : Nat} (hh : H.handleB p = some i) :
    ∃ xo xs, bkAt H.blks i = ⟨xo, xs, true⟩ ∧ p = xo + 8 ∧ 184 ≤ xo ∧ 32 ≤ xs ∧ xo + xs ≤ bs.length ∧ i < H.blks.length ∧ H.At i ⟨xo, xs, true⟩ (H.ds.getD i nilD) ∧ (H.ds.getD i nilD).2.length + 16 = xs ∧ xs ≤ 16384 ∧ usedB H.blks (xo : Int) = some i := by
  obtain ⟨p8, _, hu⟩ := handle_used hh
  obtain ⟨h1, h2, h3⟩ := used_at hu
  have hb := (h.rd.rt.bound (by rw [h.cp]; exact h.c16)).2 _ (List.mem_of_getElem? (bkAt_get h1))
  have hl := h.len
  have hdl : H.ds.length = H.blks.length := h.rd.dl
  have hat : H.At i (bkAt H.blks i) (H.ds.getD i nilD) := ⟨bkAt_get h1, by rw [List.getD_eq_getElem?_getD, List.getElem?_eq_getElem (by omega)]; rfl⟩
  have hd := (h.rd.ho i _ _ hat h3).1
  obtain ⟨x, hx⟩ : ∃ x, bkAt H.blks i = x := ⟨_, rfl⟩
  rw [hx] at h2 h3 hb hat hd ⊢
  obtain ⟨xo, xs, xu⟩ := x
  dsimp only at h2 h3 hb hat hd
  subst h3
  have hxo : (p : Int) - 8 = (xo : Int) := by omega
  rw [hxo] at hu
  exact ⟨xo, xs, rfl, by omega, by omega, by omega, by omega, h1, hat, hd, by omega, hu⟩

set_option maxRecDepth 100000 in
set_option maxHeartbeats 1000000 in
theorem hplace_none (h : PH w q g base cap A c bs H) (p a n : Nat) (hp : p < 18446744073709551616) (hh : H.handleB p = none) :
    Calls Tryz.prog 60 #[.pointer (some ⟨q, 0, none⟩), .int .u64 (p : Int), .int .u64 (a : Int), .int .u64 (n : Int)] w fun e w' => e = .returned (.tuple #[.int .u64 0, .iface 68 (.int .i64 4)]) ∧ Below w.heap.size w w' := by
  have hF := pfind_any h p hp
  rw [hh] at hF
  dsimp only [bkV, errV, Option.map, Option.isSome] at hF
  have HF := Lib.hid hF
  clear h hh hF
  go_enter Tryz.func60, Tryz.ntmps60
  go_wp2_with fail
  refine HF.out.mono ?_
  rintro e w2 ⟨rfl, hb⟩
  have HB := Lib.hid (hb.alloc hb.size (.cells #[.int .i64 0, .int .i64 0, .bool false] 82))
  clear hb HF
  go_wp2
  go_ret2
  exact ⟨rfl, HB.out⟩
set_option maxRecDepth 100000 in
set_option maxHeartbeats 1000000 in
theorem hplace_far (h : PH w q g base cap A c bs H) (p a n : Nat) (hp : p < 18446744073709551616) (ha : a < 18446744073709551616) (hn : n < 18446744073709551616) {i L : Nat} (hh : H.handleB p = some i) (hL : (H.ds.getD i nilD).2.length = L) (hf : L < a + n) :
    Calls Tryz.prog 60 #[.pointer (some ⟨q, 0, none⟩), .int .u64 (p : Int), .int .u64 (a : Int), .int .u64 (n : Int)] w fun e w' => e = .returned (.tuple #[.int .u64 0, .iface 68 (.int .i64 2)]) ∧ Below w.heap.size w w' := by
  have hF := pfind_any h p hp
  obtain ⟨xo, xs, hx, hpx, h184, h32, hle, hi, hat, hd, h16, hu⟩ := h.blk hh
  rw [hL] at hd
  rw [hh] at hF
  dsimp only [Option.map] at hF
  rw [hx] at hF
  dsimp only [bkV, Bk.val, errV, Option.isSome] at hF
  have HUS := Lib.hid (fun W => husable_any W (xo : Int) xs true (by omega) h16)
  have eL : xs - 16 = L := by omega
  rw [eL] at HUS
  have hL14 : L ≤ 16384 := by omega
  have HF := Lib.hid hF
  clear h hh hF hx hpx hat hu hi eL hd hL
  by_cases hal : L < a
  · have g1 : decide (L < a) = true := decide_eq_true (by omega)
    go_enter Tryz.func60, Tryz.ntmps60
    go_wp2_with fail
    refine HF.out.mono ?_
    rintro e w2 ⟨rfl, hb⟩
    obtain ⟨w3, hw3⟩ : ∃ w3, w2.alloc (.cells #[.int .i64 (xo : Int), .int .i64 (xs : Int), .bool true] 82) = w3 := ⟨_, rfl⟩
    have n3 : w3.heap[w2.heap.size]? = some (.cells #[.int .i64 (xo : Int), .int .i64 (xs : Int), .bool true] 82 (0, 0)) := by rw [← hw3]; exact heap_alloc_new w2 _
    have HB3 : Hid (Below w.heap.size w w3) := (show Below _ _ _ by rw [← hw3]; exact hb.alloc hb.size _)
    obtain ⟨⟨d0, d1, d2⟩, _⟩ := blk_cells n3
    have hlt3 := heap_lt' n3
    have HW3 := Lib.hid hw3
    clear hb HF hw3 n3
    go_wp2_with (first | (rw [HW3.out]) | fail)
    refine (HUS.out w3).mono ?_
    rintro e w4 ⟨rfl, hb4⟩
    have HB4 := Lib.hid (HB3.out.trans (hb4.mono HB3.out.size))
    clear hb4 d0 d1 d2 HB3
    go_wp2
    go_ret2
    exact ⟨rfl, HB4.out⟩
  · have g1 : decide (L < a) = false := decide_eq_false (by omega)
    obtain ⟨m, hm⟩ : ∃ m, L - a = m := ⟨_, rfl⟩
    have em : (L : Int) - (a : Int) = (m : Int) := by omega
    have g2 : decide (m < n) = true := decide_eq_true (by omega)
    have hm14 : m ≤ 16384 := by omega
    clear hm
    go_enter Tryz.func60, Tryz.ntmps60
    go_wp2_with fail
    refine HF.out.mono ?_
    rintro e w2 ⟨rfl, hb⟩
    obtain ⟨w3, hw3⟩ : ∃ w3, w2.alloc (.cells #[.int .i64 (xo : Int), .int .i64 (xs : Int), .bool true] 82) = w3 := ⟨_, rfl⟩
    have n3 : w3.heap[w2.heap.size]? = some (.cells #[.int .i64 (xo : Int), .int .i64 (xs : Int), .bool true] 82 (0, 0)) := by rw [← hw3]; exact heap_alloc_new w2 _
    have HB3 : Hid (Below w.heap.size w w3) := (show Below _ _ _ by rw [← hw3]; exact hb.alloc hb.size _)
    obtain ⟨⟨d0, d1, d2⟩, _⟩ := blk_cells n3
    have hlt3 := heap_lt' n3
    have HW3 := Lib.hid hw3
    have HN3 := Lib.hid n3
    clear hb HF hw3 n3
    go_wp2_with (first | (rw [HW3.out]) | fail)
    refine (HUS.out w3).mono ?_
    rintro e w4 ⟨rfl, hb4⟩
    have n4 := Loc.below hb4 _ _ HN3.out
    have HB4 := Lib.hid (HB3.out.trans (hb4.mono HB3.out.size))
    clear hb4 d0 d1 d2 HB3 hlt3
    obtain ⟨⟨d0, d1, d2⟩, _⟩ := blk_cells n4
    have hlt4 := heap_lt' n4
    clear n4 HN3 HW3
    go_wp2_with fail
    refine (HUS.out w4).mono ?_
    rintro e w5 ⟨rfl, hb5⟩
    have HB5 := Lib.hid (HB4.out.trans (hb5.mono HB4.out.size))
    clear hb5 d0 d1 d2 HB4 hlt4
    go_wp2
    go_ret2
    exact ⟨rfl, HB5.out⟩
set_option maxRecDepth 100000 in
set_option maxHeartbeats 1000000 in
theorem hplace_ok (h : PH w q g base cap A c bs H) (p a n : Nat) (hp : p < 18446744073709551616) (hn : n < 18446744073709551616) {i L x : Nat} (hh : H.handleB p = some i) (hL : (H.ds.getD i nilD).2.length = L) (hf : a + n ≤ L) (hx : base + p + a = x) :
    Calls Tryz.prog 60 #[.pointer (some ⟨q, 0, none⟩), .int .u64 (p : Int), .int .u64 (a : Int), .int .u64 (n : Int)] w fun e w' => e = .returned (.tuple #[.int .u64 (x : Int), .nilIface]) ∧ Below w.heap.size w w' := by
  have hF := pfind_any h p hp
  obtain ⟨xo, xs, hbk, hpx, h184, h32, hle, hi, hat, hd, h16, hu⟩ := h.blk hh
  rw [hL] at hd
  rw [hh] at hF
  dsimp only [Option.map] at hF
  rw [hbk] at hF
  dsimp only [bkV, Bk.val, errV, Option.isSome] at hF
  have HUS := Lib.hid (fun W => husable_any W (xo : Int) xs true (by omega) h16)
  have eL : xs - 16 = L := by omega
  rw [eL] at HUS
  have hL14 : L ≤ 16384 := by omega
  have HF := Lib.hid hF
  have H0 := Lib.hid h
  have hb62 := h.b62
  have hlen := h.len
  have hp14 : p ≤ 16384 := by omega
  clear h hh hF hbk hpx hat hu hi eL hd hL h184 h32 hle hlen
  have g1 : decide (L < a) = false := decide_eq_false (by omega)
  obtain ⟨m, hm⟩ : ∃ m, L - a = m := ⟨_, rfl⟩
  have em : (L : Int) - (a : Int) = (m : Int) := by omega
  have g2 : decide (m < n) = false := decide_eq_false (by omega)
  have hm14 : m ≤ 16384 := by omega
  have ha14 : a ≤ 16384 := by omega
  obtain ⟨y, hy⟩ : ∃ y, base + p = y := ⟨_, rfl⟩
  have ey : (base : Int) + (p : Int) = (y : Int) := by omega
  have ex : (y : Int) + (a : Int) = (x : Int) := by omega
  have hy63 : y ≤ 4611686018427404288 := by omega
  have hx63 : x ≤ 4611686018427420672 := by omega
  clear hm hf hy hx
  go_enter Tryz.func60, Tryz.ntmps60
  go_wp2_with fail
  refine HF.out.mono ?_
  rintro e w2 ⟨rfl, hb⟩
  obtain ⟨w3, hw3⟩ : ∃ w3, w2.alloc (.cells #[.int .i64 (xo : Int), .int .i64 (xs : Int), .bool true] 82) = w3 := ⟨_, rfl⟩
  have n3 : w3.heap[w2.heap.size]? = some (.cells #[.int .i64 (xo : Int), .int .i64 (xs : Int), .bool true] 82 (0, 0)) := by rw [← hw3]; exact heap_alloc_new w2 _
  have HB3 : Hid (Below w.heap.size w w3) := (show Below _ _ _ by rw [← hw3]; exact hb.alloc hb.size _)
  obtain ⟨⟨d0, d1, d2⟩, _⟩ := blk_cells n3
  have hlt3 := heap_lt' n3
  have HW3 := Lib.hid hw3
  have HN3 := Lib.hid n3
  clear hb HF hw3 n3
  go_wp2_with (first | (rw [HW3.out]) | fail)
  refine (HUS.out w3).mono ?_
  rintro e w4 ⟨rfl, hb4⟩
  have n4 := Loc.below hb4 _ _ HN3.out
  have HB4 := Lib.hid (HB3.out.trans (hb4.mono HB3.out.size))
  clear hb4 d0 d1 d2 HB3 hlt3
  obtain ⟨⟨d0, d1, d2⟩, _⟩ := blk_cells n4
  have hlt4 := heap_lt' n4
  clear n4 HN3 HW3
  go_wp2_with fail
  refine (HUS.out w4).mono ?_
  rintro e w5 ⟨rfl, hb5⟩
  have hb5' := HB4.out.trans (hb5.mono HB4.out.size)
  have h5 := H0.out.below hb5'
  have k0 := h5.c0
  have hlt5 := h5.lt
  have HBS := Lib.hid (base_any h5.ar)
  have HB5 := Lib.hid hb5'
  clear hb5 d0 d1 d2 HB4 hlt4 hb5' h5 H0
  go_wp2_with fail
  refine HBS.out.mono ?_
  rintro e w6 ⟨rfl, rfl⟩
  go_wp2
  go_ret2
  exact ⟨rfl, HB5.out⟩

set_option maxRecDepth 100000 in
set_option maxHeartbeats 1000000 in
theorem hfill_no (ho : w.heap[q]? = some (.cells #[.pointer (some ⟨g, 0, none⟩)] 72 (0, 0))) (ha : Ar w 80 g base cap A c bs) (hbase : base ≤ 4611686018427387904) (hl : bs.length ≤ 16384) (o s f p : Nat) (v : UInt8) {u : Bool} (hg : getB bs (o : Int) = some ⟨o, s, u⟩) (hs : 16 ≤ s) (hos : o + s ≤ bs.length) (hf : s - 16 ≤ f) (hp : o + 8 = p) :
    Calls Tryz.prog 58 #[.pointer (some ⟨q, 0, none⟩), .int .i64 (o : Int), .int .u64 (f : Int), .int .u8 (v.toNat : Int)] w fun e w' => e = .returned (.int .u64 (p : Int)) ∧ Below w.heap.size w w' := by
  have hG := getC w g base cap c A bs (o : Int) _ ha hbase hl (by omega) hg
  dsimp only [BlkTold, bkV, Bk.val, errV, Option.isSome] at hG
  have HUS := Lib.hid (fun W => husable_any W (o : Int) s u (by omega) (by omega))
  obtain ⟨L, hL⟩ : ∃ L, s - 16 = L := ⟨_, rfl⟩
  rw [hL] at HUS hf
  have g1 : decide (f < L) = false := decide_eq_false (by omega)
  have ep : (o : Int) + 8 = (p : Int) := by omega
  have hp14 : p ≤ 16384 := by omega
  have ho14 : o ≤ 16384 := by omega
  have k0 : w.cell? ⟨q, 0, none⟩ = some (.pointer (some ⟨g, 0, none⟩)) := by rw [cell_of_row w q 0 _ _ (0, 0) ho]; rfl
  have hlq := heap_lt' ho
  have HG := Lib.hid hG
  clear hG hg ha ho hL hf hp hos hs
  go_enter Tryz.func58, Tryz.ntmps58
  go_wp2_with fail
  refine HG.out.mono ?_
  rintro e w2 ⟨rfl, hb⟩
  obtain ⟨w3, hw3⟩ : ∃ w3, w2.alloc (.cells #[.int .i64 (o : Int), .int .i64 (s : Int), .bool u] 82) = w3 := ⟨_, rfl⟩
  have n3 : w3.heap[w2.heap.size]? = some (.cells #[.int .i64 (o : Int), .int .i64 (s : Int), .bool u] 82 (0, 0)) := by rw [← hw3]; exact heap_alloc_new w2 _
  have HB3 : Hid (Below w.heap.size w w3) := (show Below _ _ _ by rw [← hw3]; exact hb.alloc hb.size _)
  obtain ⟨⟨d0, d1, d2⟩, _⟩ := blk_cells n3
  have hlt3 := heap_lt' n3
  have HW3 := Lib.hid hw3
  clear hb HG hw3 n3 k0
  go_wp2_with (first | (rw [HW3.out]) | fail)
  refine (HUS.out w3).mono ?_
  rintro e w4 ⟨rfl, hb4⟩
  have HB4 := Lib.hid (HB3.out.trans (hb4.mono HB3.out.size))
  clear hb4 d0 d1 d2 HB3 hlt3
  go_wp2
  go_ret
  exact ⟨rfl, HB4.out⟩
set_option maxRecDepth 100000 in
set_option maxHeartbeats 2000000 in
theorem hfill_yes (ho : w.heap[q]? = some (.cells #[.pointer (some ⟨g, 0, none⟩)] 72 (0, 0))) (ha : Ar w 80 g base cap A c bs) (hbase : base ≤ 4611686018427387904) (hl : bs.length ≤ 16384) (o s f p : Nat) (v : UInt8) {u : Bool} (hg : getB bs (o : Int) = some ⟨o, s, u⟩) (hs : 16 ≤ s) (hos : o + s ≤ bs.length) (hf : f < s - 16) (hp : o + 8 = p) :
    Calls Tryz.prog 58 #[.pointer (some ⟨q, 0, none⟩), .int .i64 (o : Int), .int .u64 (f : Int), .int .u8 (v.toNat : Int)] w fun e w' => e = .returned (.int .u64 (p : Int)) ∧ Became 80 g base cap A (lay bs (p + f) (List.replicate (s - 16 - f) v)) w w' := by
  have hG := getC w g base cap c A bs (o : Int) _ ha hbase hl (by omega) hg
  dsimp only [BlkTold, bkV, Bk.val, errV, Option.isSome] at hG
  have HUS := Lib.hid (fun W => husable_any W (o : Int) s u (by omega) (by omega))
  obtain ⟨L, hL⟩ : ∃ L, s - 16 = L := ⟨_, rfl⟩
  rw [hL] at HUS hf ⊢
  obtain ⟨m, hm⟩ : ∃ m, L - f = m := ⟨_, rfl⟩
  rw [hm]
  have g1 : decide (f < L) = true := decide_eq_true (by omega)
  have ep : (o : Int) + 8 = (p : Int) := by omega
  have hp14 : p ≤ 16384 := by omega
  have ho14 : o ≤ 16384 := by omega
  have hf14 : f ≤ 16384 := by omega
  have hL14 : L ≤ 16384 := by omega
  have em : (L : Int) - (f : Int) = (m : Int) := by omega
  have hm14 : m ≤ 16384 := by omega
  obtain ⟨y, hy⟩ : ∃ y, base + p = y := ⟨_, rfl⟩
  obtain ⟨x, hx⟩ : ∃ x, y + f = x := ⟨_, rfl⟩
  have ey : (base : Int) + (p : Int) = (y : Int) := by omega
  have ex : (y : Int) + (f : Int) = (x : Int) := by omega
  have hy63 : y ≤ 4611686018427404288 := by omega
  have hx63 : x ≤ 4611686018427420672 := by omega
  have HFL := Lib.hid (fun W c' A' (a' : Ar W 80 g base cap A' c' bs) => fill_ok a' (by omega) x m (p + f) v (by omega) (by omega) (by omega) (by omega))
  have k0 : w.cell? ⟨q, 0, none⟩ = some (.pointer (some ⟨g, 0, none⟩)) := by rw [cell_of_row w q 0 _ _ (0, 0) ho]; rfl
  have hlq := heap_lt' ho
  have HG := Lib.hid hG
  have HA := Lib.hid ha
  have HO := Lib.hid ho
  clear hG hg ha ho hL hf hp hos hs hm hy hx
  go_enter Tryz.func58, Tryz.ntmps58
  go_wp2_with fail
  refine HG.out.mono ?_
  rintro e w2 ⟨rfl, hb⟩
  obtain ⟨w3, hw3⟩ : ∃ w3, w2.alloc (.cells #[.int .i64 (o : Int), .int .i64 (s : Int), .bool u] 82) = w3 := ⟨_, rfl⟩
  have n3 : w3.heap[w2.heap.size]? = some (.cells #[.int .i64 (o : Int), .int .i64 (s : Int), .bool u] 82 (0, 0)) := by rw [← hw3]; exact heap_alloc_new w2 _
  have HB3 : Hid (Below w.heap.size w w3) := (show Below _ _ _ by rw [← hw3]; exact hb.alloc hb.size _)
  obtain ⟨⟨d0, d1, d2⟩, _⟩ := blk_cells n3
  have hlt3 := heap_lt' n3
  have HW3 := Lib.hid hw3
  clear hb HG hw3 n3 k0
  go_wp2_with (first | (rw [HW3.out]) | fail)
  refine (HUS.out w3).mono ?_
  rintro e w4 ⟨rfl, hb4⟩
  have hb4' := HB3.out.trans (hb4.mono HB3.out.size)
  obtain ⟨wd, hwd⟩ : ∃ wd, w4.drew = wd := ⟨_, rfl⟩
  have hbd : Below w.heap.size w wd := by rw [← hwd]; exact hb4'.drew
  have had := HA.out.below hbd
  have k0 : wd.cell? ⟨q, 0, none⟩ = some (.pointer (some ⟨g, 0, none⟩)) := by rw [cell_of_row wd q 0 _ _ (0, 0) ((hbd.block q (heap_lt HO.out)).trans HO.out)]; rfl
  have hlq4 : q < wd.heap.size := Nat.lt_of_lt_of_le (heap_lt HO.out) hbd.size
  have HBS := Lib.hid (base_any had)
  have HF4 := Lib.hid (HFL.out wd c A had)
  have HBD := Lib.hid hbd
  have HWD := Lib.hid hwd
  clear hb4 d0 d1 d2 HB3 hlt3 hb4' had hbd hwd HA HO HFL
  go_wp2_with fail
  refine wp_region_tail wd.heap.size [([0, 1, 2, 3, 4, 5, 6, 7, 9, 11, 13, 14, 15, 16], 8)] [10, 12] [17] (by kernel_rfl) (by kernel_rfl) (by kernel_rfl) (fun _ _ _ _ _ h => h) ?_
  rw [HWD.out]
  have q0 : ∀ z : LaterB wd.heap.size wd, z.val.cell? ⟨q, 0, none⟩ = some (.pointer (some ⟨g, 0, none⟩)) := fun z => (z.ext.cell (p := ⟨q, 0, none⟩) hlq4).trans k0
  refine tail_cons (l := ?seg1) ?hseg1 ?_
  case hseg1 => simp only [pick, List.getElem?_toArray, List.getElem?_cons_succ, List.getElem?_cons_zero]; rfl
  repeat (go_big_quiet_step (fail))
  refine wpQuiet_nil ?_
  clear q0 k0
  refine tail_call (vs := #[.pointer (some ⟨g, 0, none⟩)]) Tryz.call16 rfl rfl rfl (R := fun r w' => r = .int .u64 (base : Int) ∧ w' = wd) (HBS.out.mono ?_) wd.heap.size (Nat.le_refl _) ?_
  · rintro e w' ⟨rfl, rfl⟩
    exact ⟨_, rfl, Below.refl _ _, rfl, rfl⟩
  rintro r w5 _ ⟨rfl, rfl⟩
  refine tail_last (l := ?la2) (t := ?tl2) ?hla2 ?htl2 ?_
  case hla2 => simp only [pick, List.getElem?_toArray, List.getElem?_cons_succ, List.getElem?_cons_zero]; rfl
  case htl2 => simp only [pick, List.getElem?_toArray, List.getElem?_cons_succ, List.getElem?_cons_zero]; rfl
  simp only [Act.put, List.setIfInBounds_toArray, List.set_cons_zero, List.set_cons_succ]
  repeat (go_big_quiet_step (fail))
  refine wpQuiet_nil ?_
  clear HBS
  go_wp2_with fail
  refine HF4.out.mono ?_
  rintro e w6 ⟨rfl, hbe⟩
  have HE := Lib.hid (hbe.after HBD.out)
  clear hbe HF4
  go_wp2
  go_ret
  exact ⟨rfl, HE.out⟩
end
end Go.Proofs.YtbldlidpapdkbaaGreatDoor
