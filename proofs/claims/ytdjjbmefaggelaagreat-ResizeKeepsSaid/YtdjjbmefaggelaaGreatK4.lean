/- Texts of mine, joined: Hm8, Hm9, Hm10, HpM4, HpM5, HpM6, HpM7, HpM8, HpM9, HpM10, Spec12, Law12a, Law12b, Law12c, Law12d. -/
import Derived.Test.YtdjjbmefaggelaaGreatK3

/- The contracts of the document's heap: cut, Give, Trim. -/
namespace Go.Proofs.YtdjjbmefaggelaaGreat
open Go.RowKit

section
variable {F : Nat → Prop} {w w' : World} {p gl : Nat} {H : Hp} {Vb Vd : Value} {cs : List Value}
set_option maxHeartbeats 2000000 in
theorem hcut_a (h : Hm F w p H Vb Vd gl cs) (hok : H.Ok) (i : Nat) (hi : i < H.blks.length) (s : Nat) (hs : s ≤ 16384) (hlt : (bkAt H.blks i).size < s + 32) :
    Calls Tryz.prog 37 #[.pointer (some ⟨p, 0, none⟩), .int .i64 (i : Int), .int .i64 (s : Int)] w fun e w' => e = .returned (.tuple #[]) ∧ HT F w p (H.cut i s) w' := by
  have hcut : H.cut i s = H.use i true := by unfold Hp.cut; rw [if_pos hlt]
  obtain ⟨b1, c1, rfl, hb1, hnc1, _⟩ := own_nn h.ob (by omega)
  have hn512 := hok.n
  have hsz := (isSz_iff _).1 (hok.sz hi)
  have d := h.at_n rfl hi
  have q1 := h.c1
  obtain ⟨xo, hxo⟩ : ∃ xo, (bkAt H.blks i).off = xo := ⟨_, rfl⟩
  obtain ⟨xs, hxs⟩ : ∃ xs, (bkAt H.blks i).size = xs := ⟨_, rfl⟩
  obtain ⟨xu, hxu⟩ : ∃ xu, (bkAt H.blks i).used = xu := ⟨_, rfl⟩
  rw [hxo, hxs, hxu] at d
  rw [hxs] at hsz hlt
  obtain ⟨d0, d1, d2⟩ := d
  obtain ⟨wa, hwa⟩ : ∃ wa, w.alloc (.cells #[.int .i64 (xo : Int), .int .i64 (xs : Int), .bool xu] 53) = wa := ⟨_, rfl⟩
  have hba : Below w.heap.size w wa := by rw [← hwa]; exact (Below.refl _ _).alloc (Nat.le_refl _) _
  obtain ⟨gx, hgx⟩ : ∃ gx, w.heap.size = gx := ⟨_, rfl⟩
  have hnx : wa.heap[gx]? = some (.cells #[.int .i64 (xo : Int), .int .i64 (xs : Int), .bool xu] 53 (0, 0)) := by rw [← hwa, ← hgx]; exact heap_alloc_new w _
  have za := (Hz.start h).below hba
  have z1 := za.set (a := ⟨b1, i * 3 + 2, none⟩) (u := .bool true) (h.fb b1 rfl) (za.hm.useM rfl hi true)
  obtain ⟨w1, hw1⟩ : ∃ w1, wa.setCell ⟨b1, i * 3 + 2, none⟩ (.bool true) = w1 := ⟨_, rfl⟩
  have qa := za.hm.c1
  have f1 := own_thaw za.hm.ob (i * 3 + 2)
  obtain ⟨_, qc⟩ : ∃ u, wa.cell? ⟨b1, i * 3 + 2, none⟩ = some u := ⟨_, (za.hm.at_n rfl hi).2.2⟩
  have hx1 : w1.cell? ⟨gx, 1, none⟩ = some (.int .i64 (xs : Int)) := by
    rw [← hw1]
    refine (World.cell?_of_block (w := wa) (Below.heap_setCell wa _ _ _ (by dsimp only; omega))).trans ?_
    exact (blk_cells hnx).1.2.1
  rw [hw1] at z1
  have HTO : Hid (HT F w p (H.cut i s) w1) := (show HT _ _ _ _ _ by rw [hcut]; exact z1.fin)
  have HWA := Lib.hid hwa
  have HW1 := Lib.hid hw1
  have HGX := Lib.hid hgx
  obtain ⟨n, hn⟩ : ∃ n, H.blks.length = n := ⟨_, rfl⟩
  rw [hn] at q1 qa hi
  have hin : (i : Int) < (n : Int) := by omega
  have hls : (xs : Int) - (s : Int) < 32 := by omega
  clear h hok hb1 hba hnx za z1 hwa hw1 hgx hxo hxs hxu hcut hlt hnc1 hn
  go_enter Tryz.func37, Tryz.ntmps37
  go_wp2_with (first | (rw [HWA.out, HGX.out]) | (rw [HW1.out]) | fail)
  refine bodyPost_ret (results_none rfl _ _ _) rfl ?_
  exact ⟨rfl, HTO.out⟩

set_option maxHeartbeats 2000000 in
theorem hcut_b (h : Hm F w p H Vb Vd gl cs) (hok : H.Ok) (N : Nat) (hf : H.Few N) (hN : N ≤ 50000) (i : Nat) (hi : i < H.blks.length) (s : Nat) (hs : isSz (s : Int) = true) (hle : s + 32 ≤ (bkAt H.blks i).size) :
    Calls Tryz.prog 37 #[.pointer (some ⟨p, 0, none⟩), .int .i64 (i : Int), .int .i64 (s : Int)] w fun e w' => e = .returned (.tuple #[]) ∧ HT F w p (H.cut i s) w' := by
  have hcut : H.cut i s = (((H.use i true).size i s).put (i + 1) ⟨(bkAt H.blks i).off + s, (bkAt H.blks i).size - s, true⟩).give (i + 1) := by unfold Hp.cut; rw [if_neg (by omega)]
  have hok2 := hok.cut hi hs hle
  have hln2 := cut_len (s := s) H hi ⟨(bkAt H.blks i).off + s, (bkAt H.blks i).size - s, true⟩
  obtain ⟨b1, c1, rfl, hb1, hnc1, _⟩ := own_nn h.ob (by omega)
  have hn512 := hok.n
  have hsz := (isSz_iff _).1 (hok.sz hi)
  have hss := (isSz_iff _).1 hs
  have hoff := (tile_mem _ _ _ (hok.at_ hi).1).1
  have hlen := (tile_mem _ _ _ (hok.at_ hi).2.2).1
  have hle3 := hok.le
  have d := h.at_n rfl hi
  have q1 := h.c1
  obtain ⟨xo, hxo⟩ : ∃ xo, (bkAt H.blks i).off = xo := ⟨_, rfl⟩
  obtain ⟨xs, hxs⟩ : ∃ xs, (bkAt H.blks i).size = xs := ⟨_, rfl⟩
  obtain ⟨xu, hxu⟩ : ∃ xu, (bkAt H.blks i).used = xu := ⟨_, rfl⟩
  rw [hxo, hxs, hxu] at d
  rw [hxs] at hsz hle
  rw [hxo, hxs] at hcut hok2 hln2 hlen
  rw [hxo] at hoff
  obtain ⟨d0, d1, d2⟩ := d
  obtain ⟨wa, hwa⟩ : ∃ wa, w.alloc (.cells #[.int .i64 (xo : Int), .int .i64 (xs : Int), .bool xu] 53) = wa := ⟨_, rfl⟩
  have hba : Below w.heap.size w wa := by rw [← hwa]; exact (Below.refl _ _).alloc (Nat.le_refl _) _
  obtain ⟨gx, hgx⟩ : ∃ gx, w.heap.size = gx := ⟨_, rfl⟩
  have hnx : wa.heap[gx]? = some (.cells #[.int .i64 (xo : Int), .int .i64 (xs : Int), .bool xu] 53 (0, 0)) := by rw [← hwa, ← hgx]; exact heap_alloc_new w _
  have za := (Hz.start h).below hba
  have z1 := za.set (a := ⟨b1, i * 3 + 2, none⟩) (u := .bool true) (h.fb b1 rfl) (za.hm.useM rfl hi true)
  have lnu : (H.use i true).blks.length = H.blks.length := List.length_set ..
  have z2 := z1.set (a := ⟨b1, i * 3 + 1, none⟩) (u := .int .i64 (s : Int)) (h.fb b1 rfl) (z1.hm.sizeM (by rw [lnu]) (by rw [lnu]; exact hi) s)
  obtain ⟨w1, hw1⟩ : ∃ w1, wa.setCell ⟨b1, i * 3 + 2, none⟩ (.bool true) = w1 := ⟨_, rfl⟩
  rw [hw1] at z1 z2
  obtain ⟨w2, hw2⟩ : ∃ w2, w1.setCell ⟨b1, i * 3 + 1, none⟩ (.int .i64 (s : Int)) = w2 := ⟨_, rfl⟩
  rw [hw2] at z2
  have qa := za.hm.c1
  have f1 := own_thaw za.hm.ob (i * 3 + 2)
  obtain ⟨_, qc⟩ : ∃ u, wa.cell? ⟨b1, i * 3 + 2, none⟩ = some u := ⟨_, (za.hm.at_n rfl hi).2.2⟩
  have qb := z1.hm.c1
  have f2 := own_thaw z1.hm.ob (i * 3 + 1)
  obtain ⟨_, qd⟩ : ∃ u, w1.cell? ⟨b1, i * 3 + 1, none⟩ = some u := ⟨_, (own_at (n := H.blks.length) (by have e := z1.hm.ob; rw [lnu] at e; exact e) (bkAt_get (l := (H.use i true).blks) (by rw [lnu]; exact hi))).1.2.1⟩
  have k1 : ∀ j, w1.cell? ⟨gx, j, none⟩ = wa.cell? ⟨gx, j, none⟩ := fun j => by rw [← hw1]; exact World.cell?_of_block (w := wa) (Below.heap_setCell wa _ _ _ (by dsimp only; omega))
  have k2 : ∀ j, w2.cell? ⟨gx, j, none⟩ = wa.cell? ⟨gx, j, none⟩ := fun j => by rw [← k1, ← hw2]; exact World.cell?_of_block (w := w1) (Below.heap_setCell w1 _ _ _ (by dsimp only; omega))
  have hx1 : w1.cell? ⟨gx, 1, none⟩ = some (.int .i64 (xs : Int)) := (k1 1).trans (blk_cells hnx).1.2.1
  have hx2 : w2.cell? ⟨gx, 0, none⟩ = some (.int .i64 (xo : Int)) := (k2 0).trans (blk_cells hnx).1.1
  have hx3 : w2.cell? ⟨gx, 1, none⟩ = some (.int .i64 (xs : Int)) := (k2 1).trans (blk_cells hnx).1.2.1
  have HCUT := Lib.hid hcut
  have HOK2 := Lib.hid hok2
  have HLN2 := Lib.hid hln2
  have HF := Lib.hid hf
  have HWA := Lib.hid hwa
  have HW1 := Lib.hid hw1
  have HW2 := Lib.hid hw2
  have HGX := Lib.hid hgx
  have Z2 := Lib.hid z2
  have HDL : Hid (H.ds.length = H.blks.length) := hok.dl
  have HLU : Hid (((H.use i true).size i s).blks.length = H.blks.length) := (show _ = _ from (List.length_set ..).trans lnu)
  obtain ⟨n, hn⟩ : ∃ n, H.blks.length = n := ⟨_, rfl⟩
  rw [hn] at q1 qa hi HLN2 HDL HLU hn512
  rw [hn] at qb
  have hin : (i : Int) < (n : Int) := by omega
  have hls : 32 ≤ (xs : Int) - (s : Int) := by omega
  have e1 : (xo : Int) + (s : Int) = ((xo + s : Nat) : Int) := by omega
  have e2 : (xs : Int) - (s : Int) = ((xs - s : Nat) : Int) := by omega
  obtain ⟨k, hk⟩ : ∃ k : Nat, (i : Int) + 1 = (k : Int) := ⟨i + 1, by omega⟩
  have HK : Hid (k = i + 1) := (show _ = _ by omega)
  have HE1 := Lib.hid e1
  have HE2 := Lib.hid e2
  clear h hok hb1 hba hnx za z1 z2 hwa hw1 hw2 hgx hxo hxs hxu hcut hnc1 hn lnu hok2 hln2 hf hs k1 k2 e1 e2
  go_enter Tryz.func37, Tryz.ntmps37
  go_wp2_with (first | (rw [HWA.out, HGX.out]) | (rw [HW1.out]) | (rw [HW2.out]) | fail)
  rw [HE1.out, HE2.out]
  refine (hput_any Z2.out.hm k (by rw [HLU.out]; omega) (by rw [HLU.out]; omega) (HDL.out.trans HLU.out.symm) ⟨xo + s, xs - s, true⟩).mono ?_
  rintro e w3 ⟨rfl, ht⟩
  obtain ⟨F3, Vb3, Vd3, gl3, cs3, z3⟩ := Z2.out.step ht
  have hcut := HCUT.out
  have hok2 := HOK2.out
  have hln2 := HLN2.out
  rw [← HK.out] at hcut hok2 hln2
  have HCUT2 := Lib.hid hcut
  have HOK3 := Lib.hid hok2
  have HLN3 := Lib.hid hln2
  have Z3 := Lib.hid z3
  clear z3 hcut hok2 hln2 ht q1 qa qb f1 f2 hx1 hx2 hx3 d0 d1 d2
  go_wp2_with fail
  refine (hgive_any Z3.out.hm HOK3.out N HF.out hN k (by rw [HLN3.out]; omega)).mono ?_
  rintro e w4 ⟨rfl, ht⟩
  have hto : HT F w p (H.cut i s) w4 := by
    rw [HCUT2.out]
    exact Z3.out.last ht
  have HTO := Lib.hid hto
  clear hto ht
  go_wp2
  go_end0
  exact ⟨rfl, HTO.out⟩
theorem hcut_any (h : Hm F w p H Vb Vd gl cs) (hok : H.Ok) (N : Nat) (hf : H.Few N) (hN : N ≤ 50000) (i : Nat) (hi : i < H.blks.length) (s : Nat) (hs : isSz (s : Int) = true) :
    Calls Tryz.prog 37 #[.pointer (some ⟨p, 0, none⟩), .int .i64 (i : Int), .int .i64 (s : Int)] w fun e w' => e = .returned (.tuple #[]) ∧ HT F w p (H.cut i s) w' := by
  rcases Nat.lt_or_ge (bkAt H.blks i).size (s + 32) with hlt | hle
  · exact hcut_a h hok i hi s (by have := (isSz_iff _).1 hs; omega) hlt
  · exact hcut_b h hok N hf hN i hi s hs hle

/-- Is what stands at o a used block? -/
theorem usedB_at {l : List Bk} {o : Int} {i : Nat} (h : usedB l o = some i) : i < l.length ∧ ((bkAt l i).off : Int) = o ∧ (bkAt l i).used = true := by
  unfold usedB at h
  split at h
  · cases h
  · rename_i j hj
    split at h
    · injection h with h
      subst h
      exact ⟨(atB_at hj).1, (atB_at hj).2, by assumption⟩
    · cases h
def badV (x : Option Hp) : Int := if x.isSome then 0 else 3
set_option maxHeartbeats 1000000 in
theorem hGive_any (h : Hm F w p H Vb Vd gl cs) (hok : H.Ok) (N : Nat) (hf : H.Few N) (hN : N ≤ 50000) (o : Int) (ho : -9223372036854775808 ≤ o ∧ o ≤ 9223372036854775807) :
    Calls Tryz.prog 28 #[.pointer (some ⟨p, 0, none⟩), .int .i64 o] w fun e w' => e = .returned (.int .i64 (badV (H.giveO o))) ∧ HT F w p ((H.giveO o).getD H) w' := by
  have hn512 := hok.n
  cases hu : usedB H.blks o with
  | none =>
    have e : H.giveO o = none := by unfold Hp.giveO; rw [hu]; rfl
    have HU := Lib.hid (husd_any h (by omega) o ho _ hu)
    have HE := Lib.hid e
    have HT0 : Hid (HT F w p H w) := HT.refl ⟨_, _, _, _, h⟩
    clear h hok hf hu e
    go_enter Tryz.func28, Tryz.ntmps28
    go_wp2_with fail
    refine HU.out.mono ?_
    rintro e w2 ⟨rfl, rfl⟩
    go_wp2
    go_ret
    exact ⟨rt_i (by rw [HE.out]; rfl), by rw [HE.out]; exact HT0.out⟩
  | some i =>
    have e : H.giveO o = some (H.give i) := by unfold Hp.giveO; rw [hu]; rfl
    have hi := (usedB_at hu).1
    have HU := Lib.hid (husd_any h (by omega) o ho _ hu)
    have HE := Lib.hid e
    have HG := Lib.hid (hgive_any h hok N hf hN i hi)
    have hi2 : i ≤ 512 := by omega
    clear h hok hf hu e hi hn512
    go_enter Tryz.func28, Tryz.ntmps28
    go_wp2_with fail
    refine HU.out.mono ?_
    rintro e w2 ⟨rfl, rfl⟩
    dsimp only [ixV]
    go_wp2_with fail
    refine HG.out.mono ?_
    rintro e w3 ⟨rfl, ht⟩
    have HTO := Lib.hid ht
    clear ht HU HG
    go_wp2
    go_ret
    exact ⟨rt_i (by rw [HE.out]; rfl), by rw [HE.out]; exact HTO.out⟩

set_option maxHeartbeats 1000000 in
theorem hTrim_any (h : Hm F w p H Vb Vd gl cs) (hok : H.Ok) (N : Nat) (hf : H.Few N) (hN : N ≤ 50000) (o : Int) (ho : -9223372036854775808 ≤ o ∧ o ≤ 9223372036854775807) (s : Nat) (hs : isSz (s : Int) = true) :
    Calls Tryz.prog 30 #[.pointer (some ⟨p, 0, none⟩), .int .i64 o, .int .i64 (s : Int)] w fun e w' => e = .returned (.int .i64 (badV (H.trimO o s))) ∧ HT F w p ((H.trimO o s).getD H) w' := by
  have hn512 := hok.n
  have hss := (isSz_iff _).1 hs
  cases hu : usedB H.blks o with
  | none =>
    have e : H.trimO o s = none := by unfold Hp.trimO; rw [hu]
    have HU := Lib.hid (husd_any h (by omega) o ho _ hu)
    have HE := Lib.hid e
    have HT0 : Hid (HT F w p H w) := HT.refl ⟨_, _, _, _, h⟩
    clear h hok hf hu e
    go_enter Tryz.func30, Tryz.ntmps30
    go_wp2_with fail
    refine HU.out.mono ?_
    rintro e w2 ⟨rfl, rfl⟩
    go_wp2
    go_ret
    exact ⟨rt_i (by rw [HE.out]; rfl), by rw [HE.out]; exact HT0.out⟩
  | some i =>
    have hi := (usedB_at hu).1
    have hsz := (isSz_iff _).1 (hok.sz hi)
    have HU := Lib.hid (husd_any h (by omega) o ho _ hu)
    have HC := Lib.hid (hcut_any h hok N hf hN i hi s hs)
    have HT0 : Hid (HT F w p H w) := HT.refl ⟨_, _, _, _, h⟩
    obtain ⟨b1, c1, rfl, hb1, hnc1, _⟩ := own_nn h.ob (by omega)
    have q1 := h.c1
    have d1 := (h.at_n rfl hi).2.1
    have hi2 : i ≤ 512 := by omega
    by_cases hlt : (bkAt H.blks i).size < s
    · have e : H.trimO o s = none := by unfold Hp.trimO; rw [hu]; dsimp only; rw [if_pos hlt]
      obtain ⟨xs, hxs⟩ : ∃ xs, (bkAt H.blks i).size = xs := ⟨_, rfl⟩
      rw [hxs] at d1 hlt hsz
      obtain ⟨n, hn⟩ : ∃ n, H.blks.length = n := ⟨_, rfl⟩
      rw [hn] at q1 hi
      have hin : (i : Int) < (n : Int) := by omega
      have hlt2 : (xs : Int) < (s : Int) := by omega
      have HE := Lib.hid e
      clear h hok hf hu e hn512 hb1 hnc1 hxs hn HC hs
      go_enter Tryz.func30, Tryz.ntmps30
      go_wp2_with fail
      refine HU.out.mono ?_
      rintro e w2 ⟨rfl, rfl⟩
      dsimp only [ixV]
      go_wp2
      go_ret
      exact ⟨rt_i (by rw [HE.out]; rfl), by rw [HE.out]; exact HT0.out⟩
    · have e : H.trimO o s = some (H.cut i s) := by unfold Hp.trimO; rw [hu]; dsimp only; rw [if_neg hlt]
      obtain ⟨xs, hxs⟩ : ∃ xs, (bkAt H.blks i).size = xs := ⟨_, rfl⟩
      rw [hxs] at d1 hlt hsz
      obtain ⟨n, hn⟩ : ∃ n, H.blks.length = n := ⟨_, rfl⟩
      rw [hn] at q1 hi
      have hin : (i : Int) < (n : Int) := by omega
      have hlt2 : (s : Int) ≤ (xs : Int) := by omega
      have HE := Lib.hid e
      clear h hok hf hu e hn512 hb1 hnc1 hxs hn HT0 hs
      go_enter Tryz.func30, Tryz.ntmps30
      go_wp2_with fail
      refine HU.out.mono ?_
      rintro e w2 ⟨rfl, rfl⟩
      dsimp only [ixV]
      go_wp2_with fail
      refine HC.out.mono ?_
      rintro e w3 ⟨rfl, ht⟩
      have HTO := Lib.hid ht
      clear ht HU HC q1 d1
      go_wp2
      go_ret
      exact ⟨rt_i (by rw [HE.out]; rfl), by rw [HE.out]; exact HTO.out⟩
end
end Go.Proofs.YtdjjbmefaggelaaGreat

/- The contracts of the document's heap: New, Find. -/
namespace Go.Proofs.YtdjjbmefaggelaaGreat
open Go.RowKit

set_option maxHeartbeats 1000000 in
theorem hNew_any (w : World) (cap : Nat) :
    Calls Tryz.prog 8 #[.int .i64 (cap : Int)] w fun e w' => ∃ p, e = .returned (.pointer (some ⟨p, 0, none⟩)) ∧ HM (fun k => w.heap.size ≤ k) w' p ⟨cap, [], [], fun _ => []⟩ ∧ Below w.heap.size w w' := by
  obtain ⟨c22, h22⟩ : ∃ c22 : List Value, List.replicate 22 (Value.slice none 0 0) = c22 := ⟨_, rfl⟩
  obtain ⟨wg, hwg⟩ : ∃ wg, w.alloc (.cells c22.toArray 73) = wg := ⟨_, rfl⟩
  obtain ⟨wo, hwo⟩ : ∃ wo, wg.alloc (.cells #[.int .i64 (cap : Int), .slice none 0 0, .slice none 0 0, .slice (some ⟨w.heap.size, 0, none⟩) 22 22] 69) = wo := ⟨_, rfl⟩
  have b1 : Below w.heap.size w wg := by rw [← hwg]; exact (Below.refl _ _).alloc (Nat.le_refl _) _
  have b2 : Below wg.heap.size wg wo := by rw [← hwo]; exact (Below.refl _ _).alloc (Nat.le_refl _) _
  have n1 : wg.heap[w.heap.size]? = some (.cells c22.toArray 73 (0, 0)) := by rw [← hwg]; exact heap_alloc_new w _
  have n2 : wo.heap[wg.heap.size]? = some (.cells #[.int .i64 (cap : Int), .slice none 0 0, .slice none 0 0, .slice (some ⟨w.heap.size, 0, none⟩) 22 22] 69 (0, 0)) := by rw [← hwo]; exact heap_alloc_new wg _
  have hm : HM (fun k => w.heap.size ≤ k) wo wg.heap.size ⟨cap, [], [], fun _ => []⟩ := by
    refine ⟨.slice none 0 0, .slice none 0 0, w.heap.size, c22, n2, World.ownsRow_nil _ _ _ _, World.ownsRow_nil _ _ _ _, (b2.block _ (heap_lt n1)).trans n1, by rw [← h22]; exact List.length_replicate, fun d hd => ⟨.slice none 0 0, ?_, World.ownsRow_nil _ _ _ _⟩, b1.size, Nat.le_refl _, fun k e => (by cases e), fun k e => (by cases e), fun d v k hd hv e => ?_, fun d hd => (by cases hd)⟩
    · rw [← h22, List.getElem?_replicate, if_pos hd]
    · rw [← h22, List.getElem?_replicate, if_pos hd] at hv
      injection hv with hv
      subst hv
      cases e
  have HM0 := Lib.hid hm
  have HB0 := Lib.hid (b1.trans (b2.mono b1.size))
  have HMS : ∀ W : World, (Instr.makeSlice 66 (.int .i64 22) (.int .i64 22)).run Tryz.prog W = .ok (.slice (some ⟨W.heap.size, 0, none⟩) 22 22) (W.alloc (.cells c22.toArray 73)) := fun W => by rw [← h22]; exact mk_sls W
  have HWG := Lib.hid hwg
  have HWO := Lib.hid hwo
  have HGI : Hid (wg.heap.size = w.heap.size + 1) := (show _ = _ by rw [← hwg]; simp)
  clear h22 hwg hwo b1 b2 n1 n2 hm
  go_enter Tryz.func8, Tryz.ntmps8
  go_wp2_with (first | (rw [HWG.out]) | (rw [HWO.out]) | fail)
  go_ret
  exact ⟨wg.heap.size, by first | rfl | rw [HGI.out], HM0.out, HB0.out⟩

theorem findL_drop {l : List Bk} {s : Nat} {LL : List Nat} {j y i : Nat} (hy : LL[j]? = some y) (ha : atB (y : Int) l = some i) : findL l s (LL.drop j) = if s ≤ (bkAt l i).size then some i else findL l s (LL.drop (j + 1)) := by
  have hj : j < LL.length := lst_lt hy
  have e : LL[j] = y := by rw [List.getElem?_eq_getElem hj] at hy; injection hy
  rw [List.drop_eq_getElem_cons hj, e]
  rw [findL, ha]
section
variable {F : Nat → Prop} {w w' : World} {p gl : Nat} {H : Hp} {Vb Vd : Value} {cs : List Value}
set_option maxHeartbeats 2000000 in
theorem hfind_any (h : Hm F w p H Vb Vd gl cs) (hok : H.Ok) (N : Nat) (hf : H.Few N) (hN : N ≤ 50000) (hL : H.Listed) (s : Nat) (hs : isSz (s : Int) = true) (x : Option Nat) (hx : H.find s = x) :
    Calls Tryz.prog 64 #[.pointer (some ⟨p, 0, none⟩), .int .i64 (s : Int)] w fun e w' => e = .returned (.int .i64 (ixV x)) ∧ w = w' := by
  obtain ⟨cl, hcl, hcl22⟩ : ∃ c : Nat, classI (s : Int) = (c : Int) ∧ c < 22 := class_nat (x := ⟨0, s, false⟩) hs
  have hss := (isSz_iff _).1 hs
  have hn512 := hok.n
  have hx' : H.findC s (22 - cl) cl = x := by rw [← hx]; unfold Hp.find; rw [hcl]; rfl
  have HC := Lib.hid (fun W => rclass_any W (s : Int) (by omega) (cl : Int) hcl)
  have HX := Lib.hid hx'
  have HH := Lib.hid h
  have HF := Lib.hid hf
  have HLI := Lib.hid hL
  have HOK := Lib.hid hok
  have c1 := h.c1
  have c3 := h.c3
  have HAT : Hid (∀ (y : Nat) (i : Nat), y ≤ 100000 → atB (y : Int) H.blks = some i → Calls Tryz.prog 41 #[.pointer (some ⟨p, 0, none⟩), .int .i64 (y : Int)] w fun e w' => e = .returned (.int .i64 (ixV (some i))) ∧ w = w') := fun y i hy ha => hat_any h (by omega) (y : Int) (by omega) _ ha
  clear h hf hL hok hx hx' hcl hs
  go_enter Tryz.func64, Tryz.ntmps64
  go_wp2_with fail
  refine (HC.out _).mono ?_
  rintro e w1 ⟨rfl, rfl⟩
  clear HC
  go_wp2
  go_loopw [5] (fun t wr => ∃ d k : Nat, t = .int .i64 (d : Int) ∧ d + k = 22 ∧ x = H.findC s k d ∧ w = wr) (fun t _ => 22 - (intOf t).toNat)
  case atStart => exact ⟨cl, 22 - cl, rfl, by omega, HX.out.symm, rfl⟩
  case round =>
    obtain ⟨d, k, rfl, hdk, hxf, rfl⟩ := hrel
    by_cases hd22 : d < 22
    · obtain ⟨k, rfl⟩ : ∃ k', k = k' + 1 := ⟨k - 1, by omega⟩
      obtain ⟨A, cc, hcell, hlo⟩ := HH.out.lcell hd22
      have hrw := (own_rw hlo).1
      have hfew := HF.out d hd22
      have hlst := HLI.out d hd22
      have hxf' : x = (match findL H.blks s (H.lists d) with
        | some i => some i
        | none => H.findC s k (d + 1)) := hxf
      obtain ⟨LL, hLL⟩ : ∃ LL, H.lists d = LL := ⟨_, rfl⟩
      rw [hLL] at hcell hrw hfew hlst hxf'
      obtain ⟨M, hM⟩ : ∃ M, LL.length = M := ⟨_, rfl⟩
      rw [hM] at hcell hfew
      have HM := Lib.hid hM
      have HXF := Lib.hid hxf'
      have HRW := Lib.hid hrw
      have HLS := Lib.hid hlst
      have hdi : (d : Int) < 22 := by omega
      clear hLL hM hxf hxf' hrw hlst hlo HX HF HLI
      go_wp2
      go_loopw [6] (fun i wr => ∃ j : Nat, j ≤ M ∧ i = .int .i64 (j : Int) ∧ findL H.blks s LL = findL H.blks s (LL.drop j) ∧ w = wr) (fun i _ => M - (intOf i).toNat)
      case atStart => exact ⟨0, Nat.zero_le _, rfl, rfl, rfl⟩
      case round =>
        obtain ⟨j, hj, rfl, hall, rfl⟩ := hrel
        by_cases hlt : j < M
        · obtain ⟨y, hy⟩ : ∃ y, LL[j]? = some y := ⟨LL[j]'(by rw [HM.out]; exact hlt), List.getElem?_eq_getElem _⟩
          obtain ⟨i, hi⟩ := HLS.out y (List.mem_of_getElem? hy)
          obtain ⟨bd, od, rfl, hbd, _, hcd⟩ := HRW.out (by rw [HM.out]; omega)
          have hyc := hcd j y hy
          obtain ⟨hib, hoff⟩ := atB_at hi
          have hst := findL_drop (s := s) hy hi
          have hsz := (isSz_iff _).1 (HOK.out.sz hib)
          have hy5 : y ≤ 100000 := by
            have h1 := (tile_mem _ _ _ (HOK.out.at_ hib).2.2).1
            have h2 := HOK.out.le
            omega
          have HA := Lib.hid (HAT.out y i hy5 hi)
          have hji : (j : Int) < (M : Int) := by omega
          have hi512 : i < 512 := by omega
          have HST : Hid (findL H.blks s LL = if s ≤ (bkAt H.blks i).size then some i else findL H.blks s (LL.drop (j + 1))) := (show _ = _ by rw [hall, hst])
          obtain ⟨b1, cb, rfl, _, hnb, _⟩ := own_nn HH.out.ob (by omega)
          have d1 := (HH.out.at_n rfl hib).2.1
          obtain ⟨n, hn⟩ : ∃ n, H.blks.length = n := ⟨_, rfl⟩
          rw [hn] at c1 hib hnb
          obtain ⟨xs, hxs⟩ : ∃ xs, (bkAt H.blks i).size = xs := ⟨_, rfl⟩
          rw [hxs] at d1 hsz HST
          have hin : (i : Int) < (n : Int) := by omega
          clear hi hy hoff hst hn hxs hbd hcd HAT HLS HOK HRW HH hall
          by_cases hge : s ≤ xs
          · have hx1 : x = some i := by rw [HXF.out, HST.out, if_pos hge]
            subst hx1
            have hge2 : (s : Int) ≤ (xs : Int) := by omega
            clear HXF HST
            go_wp2_with fail
            refine HA.out.mono ?_
            rintro e w2 ⟨rfl, rfl⟩
            clear HA
            dsimp only [ixV]
            go_wp2
            go_ret
            exact ⟨rfl, rfl⟩
          · have hge2 : (xs : Int) < (s : Int) := by omega
            have hst2 : findL H.blks s LL = findL H.blks s (LL.drop (j + 1)) := by rw [HST.out, if_neg hge]
            have HST2 := Lib.hid hst2
            clear hst2 HST
            go_wp2_with fail
            refine HA.out.mono ?_
            rintro e w2 ⟨rfl, rfl⟩
            clear HA
            dsimp only [ixV]
            go_wp2
            go_roundw
            case rel => exact ⟨j + 1, by omega, by go_num, HST2.out, trivial⟩
            case measure => simp only [intOf]; omega
        · obtain rfl : M = j := by omega
          have hx2 : x = H.findC s k (d + 1) := by
            rw [HXF.out, hall, List.drop_of_length_le (by rw [HM.out]; exact Nat.le_refl _)]
            rfl
          have HX2 := Lib.hid hx2
          clear hx2 hall HXF HRW HLS
          go_wp2
          go_roundw
          case rel => exact ⟨d + 1, k, by go_num, by omega, HX2.out, trivial⟩
          case measure => simp only [intOf]; omega
    · obtain ⟨rfl, rfl⟩ : d = 22 ∧ k = 0 := by omega
      obtain rfl : x = none := by rw [hxf]; rfl
      clear hxf HX HH HF HLI HAT HOK
      go_wp2
      go_ret
      exact ⟨rfl, rfl⟩
end
end Go.Proofs.YtdjjbmefaggelaaGreat

/- The contract of the document's heap: Take. -/
namespace Go.Proofs.YtdjjbmefaggelaaGreat
open Go.RowKit

def badT (x : Option Nat) : Int := if x.isSome then 0 else 5
theorem take_found {H : Hp} {s i : Nat} (h : H.find s = some i) : H.take s = (some (bkAt H.blks i).off, (H.out i).cut i s) := by
  unfold Hp.take
  rw [h]
theorem take_not {H : Hp} {s : Nat} (h : H.find s = none) : H.take s = if H.cap < lenB H.blks + s - tailF H.blks then (none, H)
    else if 0 < tailF H.blks then (some (bkAt H.blks (H.blks.length - 1)).off, ((H.out (H.blks.length - 1)).size (H.blks.length - 1) s).use (H.blks.length - 1) true)
    else (some (lenB H.blks), H.put H.blks.length ⟨lenB H.blks, s, true⟩) := by
  unfold Hp.take
  rw [h]
theorem tail_zero {l : List Bk} (h : l.length = 0) : tailF l = 0 := by unfold tailF; rw [if_pos h]
theorem tail_used {l : List Bk} {k : Nat} (h : l.length = k + 1) (hu : (bkAt l k).used = true) : tailF l = 0 := by unfold tailF; rw [if_neg (by omega), show l.length - 1 = k by omega, if_pos hu]
theorem tail_free {l : List Bk} {k : Nat} (h : l.length = k + 1) (hu : (bkAt l k).used = false) : tailF l = (bkAt l k).size := by unfold tailF; rw [if_neg (by omega), show l.length - 1 = k by omega, if_neg (by rw [hu]; decide)]
section
variable {F : Nat → Prop} {w w' : World} {p gl : Nat} {H : Hp} {Vb Vd : Value} {cs : List Value}
theorem find_listed {H : Hp} {s : Nat} : ∀ {i : Nat}, H.find s = some i → i < H.blks.length ∧ s ≤ (bkAt H.blks i).size := by
  have one : ∀ (LL : List Nat) (i : Nat), findL H.blks s LL = some i → i < H.blks.length ∧ s ≤ (bkAt H.blks i).size := by
    intro LL
    induction LL with
    | nil => intro i h; cases h
    | cons o r ih =>
      intro i h
      unfold findL at h
      split at h
      · cases h
      · rename_i j hj
        split at h
        · rename_i hs
          injection h with h
          subst h
          exact ⟨(atB_at hj).1, hs⟩
        · exact ih i h
  have go : ∀ (k c i : Nat), H.findC s k c = some i → i < H.blks.length ∧ s ≤ (bkAt H.blks i).size := by
    intro k
    induction k with
    | zero => intro c i h; cases h
    | succ k ih =>
      intro c i h
      unfold Hp.findC at h
      split at h
      · rename_i j hj
        injection h with h
        subst h
        exact one _ _ hj
      · exact ih _ _ h
  intro i h
  exact go _ _ _ h
set_option maxHeartbeats 2000000 in
theorem htake_f (h : Hm F w p H Vb Vd gl cs) (hok : H.Ok) (N : Nat) (hf : H.Few N) (hN : N ≤ 50000) (hL : H.Listed) (s : Nat) (hs : isSz (s : Int) = true) (i : Nat) (hx : H.find s = some i) :
    Calls Tryz.prog 33 #[.pointer (some ⟨p, 0, none⟩), .int .i64 (s : Int)] w fun e w' => e = .returned (.tuple #[.int .i64 (((H.take s).1.getD 0 : Nat) : Int), .int .i64 (badT (H.take s).1)]) ∧ HT F w p (H.take s).2 w' := by
  obtain ⟨hi, hle⟩ := find_listed hx
  have htk := take_found hx
  have hn512 := hok.n
  have HFI := Lib.hid (hfind_any h hok N hf hN hL s hs _ hx)
  have HOUT := Lib.hid (hout_any h i hi (hok.sz hi) (fun d hd => Nat.le_trans (hf d hd) (by omega)))
  have HH := Lib.hid h
  have HOK := Lib.hid (Hp.Ok.out (i := i) hok)
  have HFW := Lib.hid (Hp.Few.out (i := i) hf)
  have HTK := Lib.hid htk
  have HS := Lib.hid hs
  have hi2 : i < 512 := by omega
  have HI := Lib.hid hi
  clear h hok hf hL hs hx htk hle hi hn512
  go_enter Tryz.func33, Tryz.ntmps33
  go_wp2_with fail
  refine HFI.out.mono ?_
  rintro e w2 ⟨rfl, rfl⟩
  dsimp only [ixV]
  go_wp2_with fail
  refine HOUT.out.mono ?_
  rintro e w3 ⟨rfl, ht⟩
  obtain ⟨F3, Vb3, Vd3, gl3, cs3, z3⟩ := (Hz.start HH.out).step ht
  obtain ⟨b3, c3, rfl, hb3, hnc3, _⟩ := own_nn z3.hm.ob (by show 0 < H.blks.length; have := HI.out; omega)
  have q1 := z3.hm.c1
  have d0 := (z3.hm.at_n (show (H.out i).blks.length = H.blks.length from rfl) HI.out).1
  have e0 : (bkAt (H.out i).blks i).off = (bkAt H.blks i).off := rfl
  rw [e0] at d0
  have e1 : (H.out i).blks.length = H.blks.length := rfl
  rw [e1] at q1
  have HC := Lib.hid (hcut_any z3.hm HOK.out N HFW.out hN i HI.out s HS.out)
  have Z3 := Lib.hid z3
  obtain ⟨xo, hxo⟩ : ∃ xo, (bkAt H.blks i).off = xo := ⟨_, rfl⟩
  rw [hxo] at d0
  have HXO := Lib.hid hxo
  obtain ⟨n, hn⟩ : ∃ n, H.blks.length = n := ⟨_, rfl⟩
  rw [hn] at q1
  have hin : (i : Int) < (n : Int) := by have := HI.out; omega
  clear z3 ht hb3 hnc3 hxo hn e0 e1 HFI HOUT HH HOK HFW HS
  go_wp2_with fail
  refine HC.out.mono ?_
  rintro e w4 ⟨rfl, ht⟩
  have hto : HT F w p (H.take s).2 w4 := by
    rw [HTK.out]
    exact Z3.out.last ht
  have HTO := Lib.hid hto
  clear hto ht HC q1 d0
  go_wp2
  go_ret2
  exact ⟨by rw [HTK.out, HXO.out]; rfl, HTO.out⟩

set_option maxHeartbeats 2000000 in
theorem htake_ZN (h : Hm F w p H Vb Vd gl cs) (hok : H.Ok) (N : Nat) (hf : H.Few N) (hN : N ≤ 50000) (hL : H.Listed) (s : Nat) (hs : isSz (s : Int) = true) (hcap : H.cap ≤ 100000) (hx : H.find s = none) (hz : H.blks.length = 0) (hr : H.cap < lenB H.blks + s - tailF H.blks) :
    Calls Tryz.prog 33 #[.pointer (some ⟨p, 0, none⟩), .int .i64 (s : Int)] w fun e w' => e = .returned (.tuple #[.int .i64 (((H.take s).1.getD 0 : Nat) : Int), .int .i64 (badT (H.take s).1)]) ∧ HT F w p (H.take s).2 w' := by
  have htk := take_not hx
  have hn512 := hok.n
  have hle := hok.le
  have hss := (isSz_iff _).1 hs
  obtain ⟨A1, c1, rfl⟩ := own_sl h.ob
  have htf : tailF H.blks = 0 := tail_zero hz
  rw [if_pos hr] at htk
  rw [htf] at hr
  obtain ⟨wd, hwd⟩ : ∃ wd, w.drew = wd := ⟨_, rfl⟩
  have hbd : Below w.heap.size w wd := by rw [← hwd]; exact (Below.refl _ _).drew
  have hd := h.below hbd
  have HFI := Lib.hid (hfind_any h hok N hf hN hL s hs _ hx)
  have HLEN := Lib.hid (hlen_any hd (by omega) (by omega))
  have q1 := h.c1
  have r0 := hd.c0
  have hpd := hd.lt
  have HH := Lib.hid h
  have HD := Lib.hid hd
  have HBD := Lib.hid hbd
  have HWD := Lib.hid hwd
  have HTK := Lib.hid htk
  obtain ⟨ll, hll⟩ : ∃ ll, lenB H.blks = ll := ⟨_, rfl⟩
  rw [hll] at HLEN hr hle 
  obtain ⟨cap, hcp⟩ : ∃ cap, H.cap = cap := ⟨_, rfl⟩
  rw [hcp] at r0 hr hcap
  obtain ⟨n, hn⟩ : ∃ n, H.blks.length = n := ⟨_, rfl⟩
  rw [hn] at q1 hz hn512 
  have hz2 : (n : Int) - 1 = -1 := by omega
  have hz3 : (n : Int) ≤ 0 := by omega
  have hrm : (cap : Int) < (ll : Int) + (s : Int) := by omega
  have HZ := Lib.hid hz
  have HN := Lib.hid hn
  have HLL := Lib.hid hll
  clear h hd hbd hwd htk hx hok hL hs htf hr hcp hz hn hll hf
  go_enter Tryz.func33, Tryz.ntmps33
  go_wp2_with fail
  refine HFI.out.mono ?_
  rintro e w2 ⟨rfl, rfl⟩
  clear HFI
  dsimp only [ixV]
  go_wp2_with fail
  refine wp_region_tail wd.heap.size [([0, 2, 4, 6, 7, 8, 9], 1)] [3, 5, 10] [] (by kernel_rfl) (by kernel_rfl) (by kernel_rfl) (fun _ _ _ _ _ h => h) ?_
  rw [HWD.out]
  have t1 : ∀ z : LaterB wd.heap.size wd, z.val.cell? ⟨p, 0, none⟩ = some (.int .i64 (cap : Int)) := fun z => (z.ext.cell (p := ⟨p, 0, none⟩) hpd).trans r0
  refine tail_cons (l := ?segTZN) ?hsegTZN ?_
  case hsegTZN => simp only [pick, List.getElem?_toArray, List.getElem?_cons_succ, List.getElem?_cons_zero]; rfl
  repeat (go_big_quiet_step (fail))
  refine wpQuiet_nil ?_
  clear t1
  refine tail_call (vs := #[.pointer (some ⟨p, 0, none⟩)]) Tryz.call38 rfl rfl rfl (R := fun r w' => r = .int .i64 (ll : Int) ∧ w' = wd) (HLEN.out.mono ?_) wd.heap.size (Nat.le_refl _) ?_
  · rintro e w' ⟨rfl, rfl⟩
    exact ⟨_, rfl, Below.refl _ _, rfl, rfl⟩
  rintro r w11 _ ⟨rfl, rfl⟩
  refine tail_last (l := ?laTZN) (t := []) ?hlaTZN ?htlTZN ?_
  case hlaTZN => simp only [pick, List.getElem?_toArray, List.getElem?_cons_succ, List.getElem?_cons_zero]; rfl
  case htlTZN => rfl
  simp only [Act.put, List.setIfInBounds_toArray, List.set_cons_zero, List.set_cons_succ]
  repeat (go_big_quiet_step (fail))
  refine wpQuiet_nil ?_
  go_wp2
  go_ret2
  exact ⟨by rw [HTK.out]; rfl, by rw [HTK.out]; exact HT.of_below ⟨_, _, _, _, HH.out⟩ HBD.out⟩

set_option maxHeartbeats 2000000 in
theorem htake_ZR (h : Hm F w p H Vb Vd gl cs) (hok : H.Ok) (N : Nat) (hf : H.Few N) (hN : N ≤ 50000) (hL : H.Listed) (s : Nat) (hs : isSz (s : Int) = true) (hcap : H.cap ≤ 100000) (hx : H.find s = none) (hz : H.blks.length = 0) (hr : ¬ H.cap < lenB H.blks + s - tailF H.blks) :
    Calls Tryz.prog 33 #[.pointer (some ⟨p, 0, none⟩), .int .i64 (s : Int)] w fun e w' => e = .returned (.tuple #[.int .i64 (((H.take s).1.getD 0 : Nat) : Int), .int .i64 (badT (H.take s).1)]) ∧ HT F w p (H.take s).2 w' := by
  have htk := take_not hx
  have hn512 := hok.n
  have hle := hok.le
  have hss := (isSz_iff _).1 hs
  obtain ⟨A1, c1, rfl⟩ := own_sl h.ob
  have htf : tailF H.blks = 0 := tail_zero hz
  rw [if_neg hr, htf, if_neg (by omega)] at htk
  rw [htf] at hr
  obtain ⟨wd, hwd⟩ : ∃ wd, w.drew = wd := ⟨_, rfl⟩
  have hbd : Below w.heap.size w wd := by rw [← hwd]; exact (Below.refl _ _).drew
  have hd := h.below hbd
  have HFI := Lib.hid (hfind_any h hok N hf hN hL s hs _ hx)
  have HLEN := Lib.hid (hlen_any hd (by omega) (by omega))
  have q1 := h.c1
  have r0 := hd.c0
  have hpd := hd.lt
  have HH := Lib.hid h
  have HD := Lib.hid hd
  have HBD := Lib.hid hbd
  have HWD := Lib.hid hwd
  have HTK := Lib.hid htk
  have HPUT := Lib.hid (hput_any hd H.blks.length (Nat.le_refl _) (by omega) hok.dl ⟨lenB H.blks, s, true⟩)
  obtain ⟨ll, hll⟩ : ∃ ll, lenB H.blks = ll := ⟨_, rfl⟩
  rw [hll] at HLEN hr hle  HPUT
  obtain ⟨cap, hcp⟩ : ∃ cap, H.cap = cap := ⟨_, rfl⟩
  rw [hcp] at r0 hr hcap
  obtain ⟨n, hn⟩ : ∃ n, H.blks.length = n := ⟨_, rfl⟩
  rw [hn] at q1 hz hn512  HPUT
  have hz2 : (n : Int) - 1 = -1 := by omega
  have hz3 : (n : Int) ≤ 0 := by omega
  have hrm : (ll : Int) + (s : Int) ≤ (cap : Int) := by omega
  have HZ := Lib.hid hz
  have HN := Lib.hid hn
  have HLL := Lib.hid hll
  clear h hd hbd hwd htk hx hok hL hs htf hr hcp hz hn hll hf
  go_enter Tryz.func33, Tryz.ntmps33
  go_wp2_with fail
  refine HFI.out.mono ?_
  rintro e w2 ⟨rfl, rfl⟩
  clear HFI
  dsimp only [ixV]
  go_wp2_with fail
  refine wp_region_tail wd.heap.size [([0, 2, 4, 6, 7, 8, 9], 1)] [3, 5, 10] [] (by kernel_rfl) (by kernel_rfl) (by kernel_rfl) (fun _ _ _ _ _ h => h) ?_
  rw [HWD.out]
  have t1 : ∀ z : LaterB wd.heap.size wd, z.val.cell? ⟨p, 0, none⟩ = some (.int .i64 (cap : Int)) := fun z => (z.ext.cell (p := ⟨p, 0, none⟩) hpd).trans r0
  refine tail_cons (l := ?segTZR) ?hsegTZR ?_
  case hsegTZR => simp only [pick, List.getElem?_toArray, List.getElem?_cons_succ, List.getElem?_cons_zero]; rfl
  repeat (go_big_quiet_step (fail))
  refine wpQuiet_nil ?_
  clear t1
  refine tail_call (vs := #[.pointer (some ⟨p, 0, none⟩)]) Tryz.call38 rfl rfl rfl (R := fun r w' => r = .int .i64 (ll : Int) ∧ w' = wd) (HLEN.out.mono ?_) wd.heap.size (Nat.le_refl _) ?_
  · rintro e w' ⟨rfl, rfl⟩
    exact ⟨_, rfl, Below.refl _ _, rfl, rfl⟩
  rintro r w11 _ ⟨rfl, rfl⟩
  refine tail_last (l := ?laTZR) (t := []) ?hlaTZR ?htlTZR ?_
  case hlaTZR => simp only [pick, List.getElem?_toArray, List.getElem?_cons_succ, List.getElem?_cons_zero]; rfl
  case htlTZR => rfl
  simp only [Act.put, List.setIfInBounds_toArray, List.set_cons_zero, List.set_cons_succ]
  repeat (go_big_quiet_step (fail))
  refine wpQuiet_nil ?_
  go_wp2_with fail
  refine HLEN.out.mono ?_
  rintro e w12 ⟨rfl, rfl⟩
  have q2 := HD.out.c1
  rw [HN.out] at q2
  go_wp2_with fail
  refine HPUT.out.mono ?_
  rintro e w13 ⟨rfl, ht⟩
  have hto : HT F w p (H.take s).2 w13 := by
    rw [HTK.out]
    dsimp only
    rw [HN.out, HLL.out]
    exact HT.after HBD.out ht
  have HTO := Lib.hid hto
  clear hto ht HPUT HLEN q2
  go_wp2
  go_ret2
  exact ⟨by rw [HTK.out, HLL.out]; rfl, HTO.out⟩

set_option maxHeartbeats 2000000 in
theorem htake_UN (h : Hm F w p H Vb Vd gl cs) (hok : H.Ok) (N : Nat) (hf : H.Few N) (hN : N ≤ 50000) (hL : H.Listed) (s : Nat) (hs : isSz (s : Int) = true) (hcap : H.cap ≤ 100000) (hx : H.find s = none) (ln : Nat) (hz : H.blks.length = ln + 1) (hu : (bkAt H.blks ln).used = true) (hr : H.cap < lenB H.blks + s - tailF H.blks) :
    Calls Tryz.prog 33 #[.pointer (some ⟨p, 0, none⟩), .int .i64 (s : Int)] w fun e w' => e = .returned (.tuple #[.int .i64 (((H.take s).1.getD 0 : Nat) : Int), .int .i64 (badT (H.take s).1)]) ∧ HT F w p (H.take s).2 w' := by
  have htk := take_not hx
  have hn512 := hok.n
  have hle := hok.le
  have hss := (isSz_iff _).1 hs
  obtain ⟨A1, c1, rfl⟩ := own_sl h.ob
  have htf : tailF H.blks = 0 := tail_used hz hu
  rw [if_pos hr] at htk
  rw [htf] at hr
  obtain ⟨wd, hwd⟩ : ∃ wd, w.drew = wd := ⟨_, rfl⟩
  have hbd : Below w.heap.size w wd := by rw [← hwd]; exact (Below.refl _ _).drew
  have hd := h.below hbd
  have HFI := Lib.hid (hfind_any h hok N hf hN hL s hs _ hx)
  have HLEN := Lib.hid (hlen_any hd (by omega) (by omega))
  have q1 := h.c1
  have r0 := hd.c0
  have hpd := hd.lt
  have HH := Lib.hid h
  have HD := Lib.hid hd
  have HBD := Lib.hid hbd
  have HWD := Lib.hid hwd
  have HTK := Lib.hid htk
  obtain ⟨bb, cb, hVb, _, hnb, _⟩ := own_nn h.ob (by omega)
  injection hVb with e1 _ e3
  subst e1 e3
  have d := h.at_n rfl (i := ln) (by omega)
  obtain ⟨_, d1, d2⟩ := d
  rw [hu] at d2
  obtain ⟨ll, hll⟩ : ∃ ll, lenB H.blks = ll := ⟨_, rfl⟩
  rw [hll] at HLEN hr hle 
  obtain ⟨cap, hcp⟩ : ∃ cap, H.cap = cap := ⟨_, rfl⟩
  rw [hcp] at r0 hr hcap
  obtain ⟨n, hn⟩ : ∃ n, H.blks.length = n := ⟨_, rfl⟩
  rw [hn] at q1 hz hn512 hnb
  have hln : (n : Int) - 1 = (ln : Int) := by omega
  have hlt : (ln : Int) < (n : Int) := by omega
  have hrm : (cap : Int) < (ll : Int) + (s : Int) := by omega
  have HZ := Lib.hid hz
  have HN := Lib.hid hn
  have HLL := Lib.hid hll
  clear h hd hbd hwd htk hx hok hL hs htf hr hcp hz hn hll hf
  clear hu
  go_enter Tryz.func33, Tryz.ntmps33
  go_wp2_with fail
  refine HFI.out.mono ?_
  rintro e w2 ⟨rfl, rfl⟩
  clear HFI
  dsimp only [ixV]
  go_wp2_with fail
  refine wp_region_tail wd.heap.size [([0, 2, 4, 6, 7, 8, 9], 1)] [3, 5, 10] [] (by kernel_rfl) (by kernel_rfl) (by kernel_rfl) (fun _ _ _ _ _ h => h) ?_
  rw [HWD.out]
  have t1 : ∀ z : LaterB wd.heap.size wd, z.val.cell? ⟨p, 0, none⟩ = some (.int .i64 (cap : Int)) := fun z => (z.ext.cell (p := ⟨p, 0, none⟩) hpd).trans r0
  refine tail_cons (l := ?segTUN) ?hsegTUN ?_
  case hsegTUN => simp only [pick, List.getElem?_toArray, List.getElem?_cons_succ, List.getElem?_cons_zero]; rfl
  repeat (go_big_quiet_step (fail))
  refine wpQuiet_nil ?_
  clear t1
  refine tail_call (vs := #[.pointer (some ⟨p, 0, none⟩)]) Tryz.call38 rfl rfl rfl (R := fun r w' => r = .int .i64 (ll : Int) ∧ w' = wd) (HLEN.out.mono ?_) wd.heap.size (Nat.le_refl _) ?_
  · rintro e w' ⟨rfl, rfl⟩
    exact ⟨_, rfl, Below.refl _ _, rfl, rfl⟩
  rintro r w11 _ ⟨rfl, rfl⟩
  refine tail_last (l := ?laTUN) (t := []) ?hlaTUN ?htlTUN ?_
  case hlaTUN => simp only [pick, List.getElem?_toArray, List.getElem?_cons_succ, List.getElem?_cons_zero]; rfl
  case htlTUN => rfl
  simp only [Act.put, List.setIfInBounds_toArray, List.set_cons_zero, List.set_cons_succ]
  repeat (go_big_quiet_step (fail))
  refine wpQuiet_nil ?_
  go_wp2
  go_ret2
  exact ⟨by rw [HTK.out]; rfl, by rw [HTK.out]; exact HT.of_below ⟨_, _, _, _, HH.out⟩ HBD.out⟩

set_option maxHeartbeats 2000000 in
theorem htake_UR (h : Hm F w p H Vb Vd gl cs) (hok : H.Ok) (N : Nat) (hf : H.Few N) (hN : N ≤ 50000) (hL : H.Listed) (s : Nat) (hs : isSz (s : Int) = true) (hcap : H.cap ≤ 100000) (hx : H.find s = none) (ln : Nat) (hz : H.blks.length = ln + 1) (hu : (bkAt H.blks ln).used = true) (hr : ¬ H.cap < lenB H.blks + s - tailF H.blks) :
    Calls Tryz.prog 33 #[.pointer (some ⟨p, 0, none⟩), .int .i64 (s : Int)] w fun e w' => e = .returned (.tuple #[.int .i64 (((H.take s).1.getD 0 : Nat) : Int), .int .i64 (badT (H.take s).1)]) ∧ HT F w p (H.take s).2 w' := by
  have htk := take_not hx
  have hn512 := hok.n
  have hle := hok.le
  have hss := (isSz_iff _).1 hs
  obtain ⟨A1, c1, rfl⟩ := own_sl h.ob
  have htf : tailF H.blks = 0 := tail_used hz hu
  rw [if_neg hr, htf, if_neg (by omega)] at htk
  rw [htf] at hr
  obtain ⟨wd, hwd⟩ : ∃ wd, w.drew = wd := ⟨_, rfl⟩
  have hbd : Below w.heap.size w wd := by rw [← hwd]; exact (Below.refl _ _).drew
  have hd := h.below hbd
  have HFI := Lib.hid (hfind_any h hok N hf hN hL s hs _ hx)
  have HLEN := Lib.hid (hlen_any hd (by omega) (by omega))
  have q1 := h.c1
  have r0 := hd.c0
  have hpd := hd.lt
  have HH := Lib.hid h
  have HD := Lib.hid hd
  have HBD := Lib.hid hbd
  have HWD := Lib.hid hwd
  have HTK := Lib.hid htk
  obtain ⟨bb, cb, hVb, _, hnb, _⟩ := own_nn h.ob (by omega)
  injection hVb with e1 _ e3
  subst e1 e3
  have d := h.at_n rfl (i := ln) (by omega)
  obtain ⟨_, d1, d2⟩ := d
  rw [hu] at d2
  have HPUT := Lib.hid (hput_any hd H.blks.length (Nat.le_refl _) (by omega) hok.dl ⟨lenB H.blks, s, true⟩)
  obtain ⟨ll, hll⟩ : ∃ ll, lenB H.blks = ll := ⟨_, rfl⟩
  rw [hll] at HLEN hr hle  HPUT
  obtain ⟨cap, hcp⟩ : ∃ cap, H.cap = cap := ⟨_, rfl⟩
  rw [hcp] at r0 hr hcap
  obtain ⟨n, hn⟩ : ∃ n, H.blks.length = n := ⟨_, rfl⟩
  rw [hn] at q1 hz hn512 hnb HPUT
  have hln : (n : Int) - 1 = (ln : Int) := by omega
  have hlt : (ln : Int) < (n : Int) := by omega
  have hrm : (ll : Int) + (s : Int) ≤ (cap : Int) := by omega
  have HZ := Lib.hid hz
  have HN := Lib.hid hn
  have HLL := Lib.hid hll
  clear h hd hbd hwd htk hx hok hL hs htf hr hcp hz hn hll hf
  clear hu
  go_enter Tryz.func33, Tryz.ntmps33
  go_wp2_with fail
  refine HFI.out.mono ?_
  rintro e w2 ⟨rfl, rfl⟩
  clear HFI
  dsimp only [ixV]
  go_wp2_with fail
  refine wp_region_tail wd.heap.size [([0, 2, 4, 6, 7, 8, 9], 1)] [3, 5, 10] [] (by kernel_rfl) (by kernel_rfl) (by kernel_rfl) (fun _ _ _ _ _ h => h) ?_
  rw [HWD.out]
  have t1 : ∀ z : LaterB wd.heap.size wd, z.val.cell? ⟨p, 0, none⟩ = some (.int .i64 (cap : Int)) := fun z => (z.ext.cell (p := ⟨p, 0, none⟩) hpd).trans r0
  refine tail_cons (l := ?segTUR) ?hsegTUR ?_
  case hsegTUR => simp only [pick, List.getElem?_toArray, List.getElem?_cons_succ, List.getElem?_cons_zero]; rfl
  repeat (go_big_quiet_step (fail))
  refine wpQuiet_nil ?_
  clear t1
  refine tail_call (vs := #[.pointer (some ⟨p, 0, none⟩)]) Tryz.call38 rfl rfl rfl (R := fun r w' => r = .int .i64 (ll : Int) ∧ w' = wd) (HLEN.out.mono ?_) wd.heap.size (Nat.le_refl _) ?_
  · rintro e w' ⟨rfl, rfl⟩
    exact ⟨_, rfl, Below.refl _ _, rfl, rfl⟩
  rintro r w11 _ ⟨rfl, rfl⟩
  refine tail_last (l := ?laTUR) (t := []) ?hlaTUR ?htlTUR ?_
  case hlaTUR => simp only [pick, List.getElem?_toArray, List.getElem?_cons_succ, List.getElem?_cons_zero]; rfl
  case htlTUR => rfl
  simp only [Act.put, List.setIfInBounds_toArray, List.set_cons_zero, List.set_cons_succ]
  repeat (go_big_quiet_step (fail))
  refine wpQuiet_nil ?_
  go_wp2_with fail
  refine HLEN.out.mono ?_
  rintro e w12 ⟨rfl, rfl⟩
  have q2 := HD.out.c1
  rw [HN.out] at q2
  go_wp2_with fail
  refine HPUT.out.mono ?_
  rintro e w13 ⟨rfl, ht⟩
  have hto : HT F w p (H.take s).2 w13 := by
    rw [HTK.out]
    dsimp only
    rw [HN.out, HLL.out]
    exact HT.after HBD.out ht
  have HTO := Lib.hid hto
  clear hto ht HPUT HLEN q2
  go_wp2
  go_ret2
  exact ⟨by rw [HTK.out, HLL.out]; rfl, HTO.out⟩

set_option maxHeartbeats 2000000 in
theorem htake_YN (h : Hm F w p H Vb Vd gl cs) (hok : H.Ok) (N : Nat) (hf : H.Few N) (hN : N ≤ 50000) (hL : H.Listed) (s : Nat) (hs : isSz (s : Int) = true) (hcap : H.cap ≤ 100000) (hx : H.find s = none) (ln : Nat) (hz : H.blks.length = ln + 1) (hu : (bkAt H.blks ln).used = false) (hr : H.cap < lenB H.blks + s - tailF H.blks) :
    Calls Tryz.prog 33 #[.pointer (some ⟨p, 0, none⟩), .int .i64 (s : Int)] w fun e w' => e = .returned (.tuple #[.int .i64 (((H.take s).1.getD 0 : Nat) : Int), .int .i64 (badT (H.take s).1)]) ∧ HT F w p (H.take s).2 w' := by
  have htk := take_not hx
  have hn512 := hok.n
  have hle := hok.le
  have hss := (isSz_iff _).1 hs
  obtain ⟨A1, c1, rfl⟩ := own_sl h.ob
  have htf : tailF H.blks = (bkAt H.blks ln).size := tail_free hz hu
  have hsl := (isSz_iff _).1 (hok.sz (i := ln) (by omega))
  have hlenl := (tile_mem _ _ _ (hok.at_ (i := ln) (by omega)).2.2).1
  rw [if_pos hr] at htk
  rw [htf] at hr
  obtain ⟨wd, hwd⟩ : ∃ wd, w.drew = wd := ⟨_, rfl⟩
  have hbd : Below w.heap.size w wd := by rw [← hwd]; exact (Below.refl _ _).drew
  have hd := h.below hbd
  have HFI := Lib.hid (hfind_any h hok N hf hN hL s hs _ hx)
  have HLEN := Lib.hid (hlen_any hd (by omega) (by omega))
  have q1 := h.c1
  have r0 := hd.c0
  have hpd := hd.lt
  have HH := Lib.hid h
  have HD := Lib.hid hd
  have HBD := Lib.hid hbd
  have HWD := Lib.hid hwd
  have HTK := Lib.hid htk
  obtain ⟨bb, cb, hVb, _, hnb, _⟩ := own_nn h.ob (by omega)
  injection hVb with e1 _ e3
  subst e1 e3
  have d := h.at_n rfl (i := ln) (by omega)
  obtain ⟨_, d1, d2⟩ := d
  rw [hu] at d2
  have HOUT := Lib.hid (hout_any hd ln (by omega) (hok.sz (by omega)) (fun d hd => Nat.le_trans (hf d hd) (by omega)))
  obtain ⟨xs, hxs⟩ : ∃ xs, (bkAt H.blks ln).size = xs := ⟨_, rfl⟩
  rw [hxs] at d1 hr hsl hlenl
  obtain ⟨ll, hll⟩ : ∃ ll, lenB H.blks = ll := ⟨_, rfl⟩
  rw [hll] at HLEN hr hle hlenl
  obtain ⟨cap, hcp⟩ : ∃ cap, H.cap = cap := ⟨_, rfl⟩
  rw [hcp] at r0 hr hcap
  obtain ⟨n, hn⟩ : ∃ n, H.blks.length = n := ⟨_, rfl⟩
  rw [hn] at q1 hz hn512 hnb
  have hln : (n : Int) - 1 = (ln : Int) := by omega
  have hlt : (ln : Int) < (n : Int) := by omega
  have hrm : (cap : Int) < (ll : Int) + (s : Int) - (xs : Int) := by omega
  have hxp : 0 < (xs : Int) := by omega
  have HZ := Lib.hid hz
  have HN := Lib.hid hn
  have HLL := Lib.hid hll
  clear h hd hbd hwd htk hx hok hL hs htf hr hcp hz hn hll hf
  clear hu hxs
  go_enter Tryz.func33, Tryz.ntmps33
  go_wp2_with fail
  refine HFI.out.mono ?_
  rintro e w2 ⟨rfl, rfl⟩
  clear HFI
  dsimp only [ixV]
  go_wp2_with fail
  refine wp_region_tail wd.heap.size [([0, 2, 4, 6, 7, 8, 9], 1)] [3, 5, 10] [] (by kernel_rfl) (by kernel_rfl) (by kernel_rfl) (fun _ _ _ _ _ h => h) ?_
  rw [HWD.out]
  have t1 : ∀ z : LaterB wd.heap.size wd, z.val.cell? ⟨p, 0, none⟩ = some (.int .i64 (cap : Int)) := fun z => (z.ext.cell (p := ⟨p, 0, none⟩) hpd).trans r0
  refine tail_cons (l := ?segTYN) ?hsegTYN ?_
  case hsegTYN => simp only [pick, List.getElem?_toArray, List.getElem?_cons_succ, List.getElem?_cons_zero]; rfl
  repeat (go_big_quiet_step (fail))
  refine wpQuiet_nil ?_
  clear t1
  refine tail_call (vs := #[.pointer (some ⟨p, 0, none⟩)]) Tryz.call38 rfl rfl rfl (R := fun r w' => r = .int .i64 (ll : Int) ∧ w' = wd) (HLEN.out.mono ?_) wd.heap.size (Nat.le_refl _) ?_
  · rintro e w' ⟨rfl, rfl⟩
    exact ⟨_, rfl, Below.refl _ _, rfl, rfl⟩
  rintro r w11 _ ⟨rfl, rfl⟩
  refine tail_last (l := ?laTYN) (t := []) ?hlaTYN ?htlTYN ?_
  case hlaTYN => simp only [pick, List.getElem?_toArray, List.getElem?_cons_succ, List.getElem?_cons_zero]; rfl
  case htlTYN => rfl
  simp only [Act.put, List.setIfInBounds_toArray, List.set_cons_zero, List.set_cons_succ]
  repeat (go_big_quiet_step (fail))
  refine wpQuiet_nil ?_
  go_wp2
  go_ret2
  exact ⟨by rw [HTK.out]; rfl, by rw [HTK.out]; exact HT.of_below ⟨_, _, _, _, HH.out⟩ HBD.out⟩

set_option maxHeartbeats 2000000 in
theorem htake_YR (h : Hm F w p H Vb Vd gl cs) (hok : H.Ok) (N : Nat) (hf : H.Few N) (hN : N ≤ 50000) (hL : H.Listed) (s : Nat) (hs : isSz (s : Int) = true) (hcap : H.cap ≤ 100000) (hx : H.find s = none) (ln : Nat) (hz : H.blks.length = ln + 1) (hu : (bkAt H.blks ln).used = false) (hr : ¬ H.cap < lenB H.blks + s - tailF H.blks) :
    Calls Tryz.prog 33 #[.pointer (some ⟨p, 0, none⟩), .int .i64 (s : Int)] w fun e w' => e = .returned (.tuple #[.int .i64 (((H.take s).1.getD 0 : Nat) : Int), .int .i64 (badT (H.take s).1)]) ∧ HT F w p (H.take s).2 w' := by
  have htk := take_not hx
  have hn512 := hok.n
  have hle := hok.le
  have hss := (isSz_iff _).1 hs
  obtain ⟨A1, c1, rfl⟩ := own_sl h.ob
  have htf : tailF H.blks = (bkAt H.blks ln).size := tail_free hz hu
  have hsl := (isSz_iff _).1 (hok.sz (i := ln) (by omega))
  have hlenl := (tile_mem _ _ _ (hok.at_ (i := ln) (by omega)).2.2).1
  rw [if_neg hr, htf, if_pos (by omega), show H.blks.length - 1 = ln by omega] at htk
  rw [htf] at hr
  obtain ⟨wd, hwd⟩ : ∃ wd, w.drew = wd := ⟨_, rfl⟩
  have hbd : Below w.heap.size w wd := by rw [← hwd]; exact (Below.refl _ _).drew
  have hd := h.below hbd
  have HFI := Lib.hid (hfind_any h hok N hf hN hL s hs _ hx)
  have HLEN := Lib.hid (hlen_any hd (by omega) (by omega))
  have q1 := h.c1
  have r0 := hd.c0
  have hpd := hd.lt
  have HH := Lib.hid h
  have HD := Lib.hid hd
  have HBD := Lib.hid hbd
  have HWD := Lib.hid hwd
  have HTK := Lib.hid htk
  obtain ⟨bb, cb, hVb, _, hnb, _⟩ := own_nn h.ob (by omega)
  injection hVb with e1 _ e3
  subst e1 e3
  have d := h.at_n rfl (i := ln) (by omega)
  obtain ⟨_, d1, d2⟩ := d
  rw [hu] at d2
  have HOUT := Lib.hid (hout_any hd ln (by omega) (hok.sz (by omega)) (fun d hd => Nat.le_trans (hf d hd) (by omega)))
  obtain ⟨xs, hxs⟩ : ∃ xs, (bkAt H.blks ln).size = xs := ⟨_, rfl⟩
  rw [hxs] at d1 hr hsl hlenl
  obtain ⟨ll, hll⟩ : ∃ ll, lenB H.blks = ll := ⟨_, rfl⟩
  rw [hll] at HLEN hr hle hlenl
  obtain ⟨cap, hcp⟩ : ∃ cap, H.cap = cap := ⟨_, rfl⟩
  rw [hcp] at r0 hr hcap
  obtain ⟨n, hn⟩ : ∃ n, H.blks.length = n := ⟨_, rfl⟩
  rw [hn] at q1 hz hn512 hnb
  have hln : (n : Int) - 1 = (ln : Int) := by omega
  have hlt : (ln : Int) < (n : Int) := by omega
  have hrm : (ll : Int) + (s : Int) - (xs : Int) ≤ (cap : Int) := by omega
  have hxp : 0 < (xs : Int) := by omega
  have HZ := Lib.hid hz
  have HN := Lib.hid hn
  have HLL := Lib.hid hll
  clear h hd hbd hwd htk hx hok hL hs htf hr hcp hz hn hll hf
  clear hu hxs
  go_enter Tryz.func33, Tryz.ntmps33
  go_wp2_with fail
  refine HFI.out.mono ?_
  rintro e w2 ⟨rfl, rfl⟩
  clear HFI
  dsimp only [ixV]
  go_wp2_with fail
  refine wp_region_tail wd.heap.size [([0, 2, 4, 6, 7, 8, 9], 1)] [3, 5, 10] [] (by kernel_rfl) (by kernel_rfl) (by kernel_rfl) (fun _ _ _ _ _ h => h) ?_
  rw [HWD.out]
  have t1 : ∀ z : LaterB wd.heap.size wd, z.val.cell? ⟨p, 0, none⟩ = some (.int .i64 (cap : Int)) := fun z => (z.ext.cell (p := ⟨p, 0, none⟩) hpd).trans r0
  refine tail_cons (l := ?segTYR) ?hsegTYR ?_
  case hsegTYR => simp only [pick, List.getElem?_toArray, List.getElem?_cons_succ, List.getElem?_cons_zero]; rfl
  repeat (go_big_quiet_step (fail))
  refine wpQuiet_nil ?_
  clear t1
  refine tail_call (vs := #[.pointer (some ⟨p, 0, none⟩)]) Tryz.call38 rfl rfl rfl (R := fun r w' => r = .int .i64 (ll : Int) ∧ w' = wd) (HLEN.out.mono ?_) wd.heap.size (Nat.le_refl _) ?_
  · rintro e w' ⟨rfl, rfl⟩
    exact ⟨_, rfl, Below.refl _ _, rfl, rfl⟩
  rintro r w11 _ ⟨rfl, rfl⟩
  refine tail_last (l := ?laTYR) (t := []) ?hlaTYR ?htlTYR ?_
  case hlaTYR => simp only [pick, List.getElem?_toArray, List.getElem?_cons_succ, List.getElem?_cons_zero]; rfl
  case htlTYR => rfl
  simp only [Act.put, List.setIfInBounds_toArray, List.set_cons_zero, List.set_cons_succ]
  repeat (go_big_quiet_step (fail))
  refine wpQuiet_nil ?_
  go_wp2_with fail
  refine HOUT.out.mono ?_
  rintro e w13 ⟨rfl, ht⟩
  obtain ⟨F3, Vb3, Vd3, gl3, cs3, z3⟩ := ((Hz.start HH.out).below HBD.out).step ht
  obtain ⟨b3, c3, rfl, hb3, hnc3, _⟩ := own_nn z3.hm.ob (by show 0 < H.blks.length; rw [HN.out]; omega)
  have e3 : (H.out ln).blks.length = n := HN.out
  have k1 := z3.hm.c1
  rw [e3] at k1
  have f1 := own_thaw z3.hm.ob (ln * 3 + 1)
  have z4 := z3.set (a := ⟨b3, ln * 3 + 1, none⟩) (u := .int .i64 (s : Int)) (z3.hm.fb b3 rfl) (z3.hm.sizeM rfl (by rw [e3]; omega) s)
  have e4 : ((H.out ln).size ln s).blks.length = n := (List.length_set ..).trans e3
  rw [e3] at z3 z4
  have d3 := (z3.hm.at_n e3 (i := ln) (by omega)).2.1
  obtain ⟨w4, hw4⟩ : ∃ w4, w13.setCell ⟨b3, ln * 3 + 1, none⟩ (.int .i64 (s : Int)) = w4 := ⟨_, rfl⟩
  rw [hw4] at z4
  have k2 := z4.hm.c1
  have f2 := own_thaw z4.hm.ob (ln * 3 + 2)
  have d4 := (z4.hm.at_n e4 (i := ln) (by omega)).2.2
  have z5 := z4.set (a := ⟨b3, ln * 3 + 2, none⟩) (u := .bool true) (z4.hm.fb b3 rfl) (z4.hm.useM (by rw [e4]) (by rw [e4]; omega) true)
  obtain ⟨w5, hw5⟩ : ∃ w5, w4.setCell ⟨b3, ln * 3 + 2, none⟩ (.bool true) = w5 := ⟨_, rfl⟩
  rw [hw5] at z5
  have k3 := z5.hm.c1
  have e5 : (((H.out ln).size ln s).use ln true).blks.length = n := (List.length_set ..).trans e4
  have d5 := (z5.hm.at_n e5 (i := ln) (by omega)).1
  have e6 : (bkAt (((H.out ln).size ln s).use ln true).blks ln).off = (bkAt H.blks ln).off := by
    show (bkAt (((H.out ln).size ln s).blks.set ln _) ln).off = _
    rw [bkAt_set _ _ _ _ (by rw [e4]; omega), if_pos rfl]
    show (bkAt ((H.out ln).blks.set ln _) ln).off = _
    rw [bkAt_set _ _ _ _ (by rw [e3]; omega), if_pos rfl]
    rfl
  rw [e6] at d5
  obtain ⟨xo, hxo⟩ : ∃ xo, (bkAt H.blks ln).off = xo := ⟨_, rfl⟩
  rw [hxo] at d5
  have HXO := Lib.hid hxo
  have Z5 := Lib.hid z5
  have HW4 := Lib.hid hw4
  have HW5 := Lib.hid hw5
  clear ht hb3 z3 z4 z5 hw4 hw5 hxo e3 e4 e5 e6 HOUT HLEN HD q1 r0 hnc3
  go_wp2_with (first | (rw [HW4.out]) | (rw [HW5.out]) | fail)
  go_ret2
  exact ⟨by rw [HTK.out, HXO.out]; rfl, by rw [HTK.out]; exact Z5.out.fin⟩

theorem hTake_any (h : Hm F w p H Vb Vd gl cs) (hok : H.Ok) (N : Nat) (hf : H.Few N) (hN : N ≤ 50000) (hL : H.Listed) (s : Nat) (hs : isSz (s : Int) = true) (hcap : H.cap ≤ 100000) :
    Calls Tryz.prog 33 #[.pointer (some ⟨p, 0, none⟩), .int .i64 (s : Int)] w fun e w' => e = .returned (.tuple #[.int .i64 (((H.take s).1.getD 0 : Nat) : Int), .int .i64 (badT (H.take s).1)]) ∧ HT F w p (H.take s).2 w' := by
  cases hx : H.find s with
  | some i => exact htake_f h hok N hf hN hL s hs i hx
  | none =>
    obtain ⟨ln, hz⟩ : ∃ ln, H.blks.length = 0 ∨ H.blks.length = ln + 1 := ⟨H.blks.length - 1, by omega⟩
    by_cases hr : H.cap < lenB H.blks + s - tailF H.blks
    · rcases hz with hz | hz
      · exact htake_ZN h hok N hf hN hL s hs hcap hx hz hr
      · cases hu : (bkAt H.blks ln).used
        · exact htake_YN h hok N hf hN hL s hs hcap hx ln hz hu hr
        · exact htake_UN h hok N hf hN hL s hs hcap hx ln hz hu hr
    · rcases hz with hz | hz
      · exact htake_ZR h hok N hf hN hL s hs hcap hx hz hr
      · cases hu : (bkAt H.blks ln).used
        · exact htake_YR h hok N hf hN hL s hs hcap hx ln hz hu hr
        · exact htake_UR h hok N hf hN hL s hs hcap hx ln hz hu hr
end
end Go.Proofs.YtdjjbmefaggelaaGreat

/- The document's heap, plain: in a right one the lists have just the free blocks; Take tells that there is no room just if there is none, and what it tells is apart from all that is used. No program in sight. -/
namespace Go.Proofs.YtdjjbmefaggelaaGreat

theorem nodup_le {l : List Nat} : ∀ {r : List Nat}, l.Nodup → (∀ a ∈ l, a ∈ r) → l.length ≤ r.length := by
  induction l with
  | nil => intro r _ _; exact Nat.zero_le _
  | cons x l ih =>
    intro r hn hs
    obtain ⟨h1, h2⟩ := List.nodup_cons.1 hn
    have hx := hs x (by simp)
    have h3 := ih (r := r.erase x) h2 (fun a ha => (List.mem_erase_of_ne (fun e : a = x => h1 (by rw [← e]; exact ha))).2 (hs a (by simp [ha])))
    have h4 := List.length_erase_of_mem hx
    have h5 : 0 < r.length := List.length_pos_of_mem hx
    rw [List.length_cons]
    omega
theorem nodup_all {l r : List Nat} (hn : l.Nodup) (hs : ∀ a ∈ l, a ∈ r) (hl : r.length ≤ l.length) : ∀ b ∈ r, b ∈ l := fun b hb => by
  by_cases hin : b ∈ l
  · exact hin
  · have h1 := nodup_le (r := r.erase b) hn (fun a ha => (List.mem_erase_of_ne (fun e : a = b => hin (by rw [← e]; exact ha))).2 (hs a ha))
    have h2 := List.length_erase_of_mem hb
    have h3 : 0 < r.length := List.length_pos_of_mem hb
    omega
theorem nodup_count : ∀ {l : List Nat}, (∀ a ∈ l, l.count a = 1) → l.Nodup
  | [], _ => List.nodup_nil
  | x :: r, h => by
    have h1 := h x (by simp)
    rw [List.count_cons_self] at h1
    have hx : x ∉ r := List.count_eq_zero.1 (by omega)
    refine List.nodup_cons.2 ⟨hx, nodup_count fun a ha => ?_⟩
    have h2 := h a (by simp [ha])
    have hne : x ≠ a := fun e => hx (e ▸ ha)
    rw [List.count_cons_of_ne hne] at h2
    exact h2

section
variable {bs : List UInt8} {H : Hp}
theorem Rt.nfree (h : Rt bs H) : (∀ c, c < 22 → (H.lists c).Nodup ∧ ∀ o ∈ H.lists c, o ∈ freeL H.blks c) ∧ noAdj H.blks = true ∧ chkC bs H.blks 22 0 (cntFree H.blks) = true := by
  have hk := h.chk
  unfold checkB at hk
  rw [h.walk] at hk
  simp only [Bool.and_eq_true] at hk
  refine ⟨fun c hc => ?_, hk.2.1, hk.2.2⟩
  obtain ⟨al, h1, h2⟩ := chkC_true 22 0 _ hk.2.2 c (Nat.zero_le _) (by omega)
  rw [h.all_ c hc] at h1
  injection h1 with h1
  subst h1
  have h2' := List.all_eq_true.1 h2
  refine ⟨nodup_count fun a ha => ?_, fun o ho => ?_⟩
  · have := h2' a ha
    unfold okO at this
    rw [Bool.and_eq_true] at this
    simpa using this.2
  · have h3 := h2' o ho
    unfold okO at h3
    rw [Bool.and_eq_true] at h3
    have h4 := h3.1
    unfold foundB at h4
    obtain ⟨x, hx, hx2⟩ := List.any_eq_true.1 h4
    simp only [Bool.and_eq_true, beq_iff_eq] at hx2
    have hm := allB_member (h.all_ c hc) o ho
    have hg := (walkB_tiles h.walk).2.2 x hx
    unfold memberB at hm
    rw [← hx2.1, hg] at hm
    simp only [Bool.and_eq_true, beq_iff_eq] at hm
    rw [← hx2.1]
    exact mem_freeL hx (by simpa using hx2.2) hm.2.2
theorem lens_all {bs : List UInt8} {l : List Bk} {L : Nat → List Nat} (hL : ∀ c, c < 22 → allB bs c = some (L c)) (hs : ∀ c, c < 22 → (L c).length ≤ (freeL l c).length) :
    ∀ (k c : Nat) (fr : Int), c + k = 22 → chkC bs l k c fr = true → fr ≤ sumF l k c ∧ (fr = sumF l k c → ∀ d, c ≤ d → d < 22 → (freeL l d).length ≤ (L d).length)
  | 0, c, fr, hck, h => by
    unfold chkC at h
    have : fr = 0 := by simpa using h
    refine ⟨by subst this; exact Int.natCast_nonneg _, fun _ d h1 h2 => by omega⟩
  | k + 1, c, fr, hck, h => by
    unfold chkC at h
    rw [hL c (by omega)] at h
    dsimp only at h
    rw [Bool.and_eq_true] at h
    obtain ⟨i1, i2⟩ := lens_all hL hs k (c + 1) _ (by omega) h.2
    have h1 := hs c (by omega)
    have e : (sumF l (k + 1) c : Int) = ((freeL l c).length : Int) + (sumF l k (c + 1) : Int) := by
      show (((freeL l c).length + sumF l k (c + 1) : Nat) : Int) = _
      omega
    refine ⟨by omega, fun hfr d hd1 hd2 => ?_⟩
    rcases Nat.lt_or_ge c d with hlt | hge
    · exact i2 (by omega) d hlt hd2
    · obtain rfl : d = c := by omega
      omega
/-- The lists have all free blocks. -/
theorem Rt.complete (h : Rt bs H) : ∀ c, c < 22 → ∀ o ∈ freeL H.blks c, o ∈ H.lists c := fun c hc => by
  obtain ⟨h1, _, h3⟩ := h.nfree
  have ht := (walkB_tiles h.walk).2.1
  have hsz : ∀ x ∈ H.blks, isSz (x.size : Int) = true := fun x hx => ((tile_mem _ _ _ ht).2 x hx).2.2.1
  have hl := lens_all h.all_ (fun c hc => nodup_le (h1 c hc).1 (h1 c hc).2) 22 0 _ rfl h3
  exact nodup_all (h1 c hc).1 (h1 c hc).2 (hl.2 (by rw [sumF_all _ hsz]) c (Nat.zero_le _) hc)

theorem findL_none {l : List Bk} {s : Nat} : ∀ {L : List Nat}, findL l s L = none → (∀ o ∈ L, ∃ i, atB (o : Int) l = some i) → ∀ o ∈ L, ∀ i, atB (o : Int) l = some i → (bkAt l i).size < s
  | [], _, _, o, ho, _, _ => by cases ho
  | q :: r, h, hL, o, ho, i, hi => by
    obtain ⟨j, hj⟩ := hL q (by simp)
    unfold findL at h
    rw [hj] at h
    dsimp only at h
    split at h
    · cases h
    · rename_i hs
      rcases List.mem_cons.1 ho with rfl | ho
      · rw [hj] at hi
        injection hi with hi
        subst hi
        omega
      · exact findL_none h (fun a ha => hL a (by simp [ha])) o ho i hi
theorem findC_none {s : Nat} : ∀ {k c : Nat}, H.findC s k c = none → ∀ d, c ≤ d → d < c + k → findL H.blks s (H.lists d) = none
  | 0, c, _, d, h1, h2 => by omega
  | k + 1, c, h, d, h1, h2 => by
    unfold Hp.findC at h
    split at h
    · cases h
    · rename_i hn
      rcases Nat.lt_or_ge c d with hlt | hge
      · exact findC_none h d hlt (by omega)
      · obtain rfl : d = c := by omega
        exact hn
/-- Two blocks with one place are one. -/
theorem tile_one {l : List Bk} {o e : Nat} (h : tile o l e) {x y : Bk} (hx : x ∈ l) (hy : y ∈ l) (he : x.off = y.off) : x = y := by
  have h1 := (isSz_iff _).1 ((tile_mem _ _ _ h).2 x hx).2.2.1
  have h2 := (isSz_iff _).1 ((tile_mem _ _ _ h).2 y hy).2.2.1
  rcases tile_apart l o e h x hx y hy with h' | h' | h'
  · exact h'
  · omega
  · omega
theorem atB_of {l : List Bk} {o e : Nat} (h : tile o l e) {x : Bk} (hx : x ∈ l) : ∃ i, atB (x.off : Int) l = some i ∧ i < l.length ∧ bkAt l i = x := by
  obtain ⟨i, hi⟩ := atB_mem hx
  obtain ⟨h1, h2⟩ := atB_at hi
  refine ⟨i, hi, h1, tile_one h (List.mem_of_getElem? (bkAt_get h1)) hx (by omega)⟩
/-- What Find finds is free. -/
theorem Rt.found (h : Rt bs H) {s i : Nat} (hs : isSz (s : Int) = true) (hf : H.find s = some i) : i < H.blks.length ∧ s ≤ (bkAt H.blks i).size ∧ (bkAt H.blks i).used = false := by
  have ht := (walkB_tiles h.walk).2.1
  have one : ∀ (LL : List Nat), (∀ o ∈ LL, ∃ x ∈ H.blks, x.off = o ∧ x.used = false) → ∀ i, findL H.blks s LL = some i → i < H.blks.length ∧ s ≤ (bkAt H.blks i).size ∧ (bkAt H.blks i).used = false := by
    intro LL
    induction LL with
    | nil => intro _ i h; cases h
    | cons o r ih =>
      intro hL i h
      unfold findL at h
      split at h
      · cases h
      · rename_i j hj
        split at h
        · rename_i hs
          injection h with h
          subst h
          obtain ⟨x, hx, hxo, hxu⟩ := hL o (by simp)
          obtain ⟨h1, h2⟩ := atB_at hj
          have e := tile_one ht (List.mem_of_getElem? (bkAt_get h1)) hx (by omega)
          exact ⟨h1, hs, by rw [e]; exact hxu⟩
        · exact ih (fun a ha => hL a (by simp [ha])) i h
  have go : ∀ (k c i : Nat), c + k ≤ 22 → H.findC s k c = some i → i < H.blks.length ∧ s ≤ (bkAt H.blks i).size ∧ (bkAt H.blks i).used = false := by
    intro k
    induction k with
    | zero => intro c i _ h; cases h
    | succ k ih =>
      intro c i hck hh
      unfold Hp.findC at hh
      split at hh
      · rename_i j hj
        injection hh with hh
        subst hh
        refine one _ (fun o ho => ?_) _ hj
        obtain ⟨x, h1, h2, h3, _⟩ := freeL_mem ((h.nfree.1 c (by omega)).2 o ho)
        exact ⟨x, h1, h2, h3⟩
      · exact ih _ _ (by omega) hh
  obtain ⟨cl, hcl, hcl22⟩ : ∃ c : Nat, classI (s : Int) = (c : Int) ∧ c < 22 := class_nat (x := ⟨0, s, false⟩) hs
  unfold Hp.find at hf
  rw [hcl, Int.toNat_natCast] at hf
  exact go _ _ _ (by omega) hf
/-- Where Find finds nothing there is nothing. -/
theorem Rt.lost (h : Rt bs H) {s : Nat} (hs : isSz (s : Int) = true) (hf : H.find s = none) : ∀ x ∈ H.blks, x.used = false → x.size < s := fun x hx hu => by
  have ht := (walkB_tiles h.walk).2.1
  have hxs := ((tile_mem _ _ _ ht).2 x hx).2.2.1
  obtain ⟨cl, hcl, hcl22⟩ : ∃ c : Nat, classI (s : Int) = (c : Int) ∧ c < 22 := class_nat (x := ⟨0, s, false⟩) hs
  obtain ⟨cx, hcx, hcx22⟩ := class_nat hxs
  rcases Nat.lt_or_ge x.size s with h1 | h1
  · exact h1
  · have hm := classI_mono hs hxs (by omega)
    unfold Hp.find at hf
    rw [hcl, Int.toNat_natCast] at hf
    have hl := findC_none hf cx (by omega) (by omega)
    obtain ⟨i, hi, _, hb⟩ := atB_of ht hx
    have := findL_none hl (h.listed cx hcx22) x.off (h.complete cx hcx22 _ (mem_freeL hx hu hcx)) i hi
    rw [hb] at this
    exact this

end
end Go.Proofs.YtdjjbmefaggelaaGreat

/- The document's heap, plain: the block that Take tells. No program in sight. -/
namespace Go.Proofs.YtdjjbmefaggelaaGreat

section
variable {bs : List UInt8} {H : Hp}
theorem give_keep {i j : Nat} (hp : (bkAt H.blks (i - 1)).used = true) (hj : j < i) : (H.give i).blks[j]? = H.blks[j]? := by
  have e1 : ∀ k, k < i → ((H.use i false).wipe i).blks[k]? = H.blks[k]? := fun k hk => by
    show (H.blks.set i _)[k]? = _
    exact List.getElem?_set_ne (by omega)
  have l1 : ((H.use i false).wipe i).blks.length = H.blks.length := List.length_set ..
  unfold Hp.give
  obtain ⟨H1, hH1⟩ : ∃ H1, (H.use i false).wipe i = H1 := ⟨_, rfl⟩
  rw [hH1] at e1 l1 ⊢
  have e2 : ∀ k, k < i → (H1.giveB i).blks[k]? = H.blks[k]? := fun k hk => by
    rw [← e1 k hk]
    unfold Hp.giveB
    split
    · rename_i hn
      have hlt : i + 1 < H1.blks.length := by
        unfold nextF at hn
        rw [Bool.and_eq_true, decide_eq_true_eq] at hn
        exact hn.1
      rw [join_blks (H1.out (i + 1)) (i := i) hlt]
      rw [List.getElem?_append_left (by rw [List.length_take]; show k < min i H1.blks.length; omega)]
      exact List.getElem?_take_of_lt hk
    · rfl
  have hprev : prevF (H1.giveB i).blks i = false := by
    unfold prevF
    have h1 := e2 (i - 1) (by omega)
    have h2 : bkAt (H1.giveB i).blks (i - 1) = bkAt H.blks (i - 1) := by
      unfold bkAt
      rw [List.getD_eq_getElem?_getD, List.getD_eq_getElem?_getD, h1]
    rw [h2, hp, Bool.not_true, Bool.and_false]
  have e3 : ((H1.giveB i).giveC i).blks = (H1.giveB i).blks := by
    unfold Hp.giveC
    rw [hprev, if_neg (by decide)]
    rfl
  rw [e3]
  exact e2 j hj
/-- The block that a cut leaves. -/
theorem cut_has {i s : Nat} (hi : i < H.blks.length) (hle : s ≤ (bkAt H.blks i).size) : ∃ x ∈ (H.cut i s).blks, x.off = (bkAt H.blks i).off ∧ x.used = true ∧ s ≤ x.size ∧ x.size < s + 32 ∧ x.size ≤ (bkAt H.blks i).size := by
  unfold Hp.cut
  split
  · rename_i hlt
    refine ⟨{ bkAt H.blks i with used := true }, ?_, rfl, rfl, hle, hlt, Nat.le_refl _⟩
    exact List.mem_of_getElem? (i := i) (List.getElem?_set_self hi)
  · rename_i hge
    obtain ⟨y, hy⟩ : ∃ y : Bk, (⟨(bkAt H.blks i).off + s, (bkAt H.blks i).size - s, true⟩ : Bk) = y := ⟨_, rfl⟩
    rw [hy]
    have hb := cut_blks (s := s) H hi y
    have hln := cut_len (s := s) H hi y
    obtain ⟨H2, hH2⟩ : ∃ H2, ((H.use i true).size i s).put (i + 1) y = H2 := ⟨_, rfl⟩
    rw [hH2] at hb hln ⊢
    have hat : H2.blks[i]? = some { bkAt H.blks i with used := true, size := s } := by
      rw [hb, List.getElem?_append_right (by rw [List.length_take]; omega), List.length_take, show i - min i H.blks.length = 0 by omega]
      rfl
    have hk := give_keep (H := H2) (i := i + 1) (j := i) (by rw [show i + 1 - 1 = i by omega, bkAt_of hat]) (by omega)
    refine ⟨_, List.mem_of_getElem? (hk.trans hat), rfl, rfl, Nat.le_refl _, by show s < s + 32; omega, hle⟩
theorem Rt.what (h : Rt bs H) {s o : Nat} (hs : isSz (s : Int) = true) (hx : (H.take s).1 = some o) :
    ∃ x ∈ (H.take s).2.blks, x.off = o ∧ x.used = true ∧ s ≤ x.size ∧ x.size < s + 32 ∧ ∀ y ∈ H.blks, y.used = true → y.off + y.size ≤ x.off ∨ x.off + x.size ≤ y.off := by
  have ht : tile 184 H.blks (Go.Proofs.YtdjjbmefaggelaaGreat.lenB H.blks) := by rw [h.lenE]; exact (walkB_tiles h.walk).2.1
  cases hf : H.find s with
  | some i =>
    obtain ⟨h1, h2, h3⟩ := h.found hs hf
    have e : H.take s = (some (bkAt H.blks i).off, (H.out i).cut i s) := by unfold Hp.take; rw [hf]
    rw [e] at hx ⊢
    injection hx with hx
    obtain ⟨x, k1, k2, k3, k4, k5, k6⟩ := cut_has (H := H.out i) (i := i) (s := s) h1 h2
    have hb : bkAt (H.out i).blks i = bkAt H.blks i := rfl
    rw [hb] at k2 k6
    refine ⟨x, k1, by omega, k3, k4, k5, fun y hy hu => ?_⟩
    rcases tile_apart _ _ _ ht y hy _ (List.mem_of_getElem? (bkAt_get h1)) with h' | h' | h'
    · rw [h', h3] at hu; cases hu
    · exact .inl (by omega)
    · exact .inr (by omega)
  | none =>
    by_cases hr : H.cap < Go.Proofs.YtdjjbmefaggelaaGreat.lenB H.blks + s - tailF H.blks
    · have e : H.take s = (none, H) := by unfold Hp.take; rw [hf]; dsimp only; rw [if_pos hr]
      rw [e] at hx
      cases hx
    · by_cases htl : 0 < tailF H.blks
      · have e : H.take s = (some (bkAt H.blks (H.blks.length - 1)).off, ((H.out (H.blks.length - 1)).size (H.blks.length - 1) s).use (H.blks.length - 1) true) := by unfold Hp.take; rw [hf]; dsimp only; rw [if_neg hr, if_pos htl]
        have hn : 0 < H.blks.length := by
          rcases Nat.eq_zero_or_pos H.blks.length with h0 | h0
          · unfold tailF at htl; rw [if_pos h0] at htl; omega
          · exact h0
        have hu0 : (bkAt H.blks (H.blks.length - 1)).used = false := by
          cases hu : (bkAt H.blks (H.blks.length - 1)).used with
          | false => rfl
          | true => unfold tailF at htl; rw [if_neg (by omega), if_pos hu] at htl; omega
        obtain ⟨k, hk⟩ : ∃ k, H.blks.length - 1 = k := ⟨_, rfl⟩
        rw [hk] at e hu0
        have hkl : k < H.blks.length := by omega
        rw [e] at hx ⊢
        injection hx with hx
        have ha := tile_at ht (bkAt_get hkl)
        have hlast : (bkAt H.blks k).off + (bkAt H.blks k).size = Go.Proofs.YtdjjbmefaggelaaGreat.lenB H.blks := by
          have h4 := ha.2.2.2
          rw [List.drop_of_length_le (by omega)] at h4
          exact h4
        have hget : (((H.out k).size k s).use k true).blks[k]? = some ⟨(bkAt H.blks k).off, s, true⟩ := by
          show ((H.blks.set k _).set k _)[k]? = _
          rw [List.getElem?_set_self (by rw [List.length_set]; exact hkl)]
          have e2 : bkAt ((H.out k).size k s).blks k = { bkAt H.blks k with size := s } := by
            show bkAt (H.blks.set k _) k = _
            rw [bkAt_set _ _ _ _ hkl, if_pos rfl]
            rfl
          rw [e2]
        refine ⟨_, List.mem_of_getElem? hget, hx, rfl, Nat.le_refl _, by show s < s + 32; omega, fun y hy hu => .inl ?_⟩
        have hm := (tile_mem _ _ _ ht).2 y hy
        have hys := (isSz_iff _).1 hm.2.2.1
        show y.off + y.size ≤ (bkAt H.blks k).off
        rcases tile_apart _ _ _ ht y hy _ (List.mem_of_getElem? (bkAt_get hkl)) with h' | h' | h'
        · rw [h', hu0] at hu; cases hu
        · exact h'
        · omega
      · have e : H.take s = (some (Go.Proofs.YtdjjbmefaggelaaGreat.lenB H.blks), H.put H.blks.length ⟨Go.Proofs.YtdjjbmefaggelaaGreat.lenB H.blks, s, true⟩) := by unfold Hp.take; rw [hf]; dsimp only; rw [if_neg hr, if_neg htl]
        rw [e] at hx ⊢
        injection hx with hx
        refine ⟨⟨Go.Proofs.YtdjjbmefaggelaaGreat.lenB H.blks, s, true⟩, ?_, hx, rfl, Nat.le_refl _, by show s < s + 32; omega, fun y hy hu => .inl ((tile_mem _ _ _ ht).2 y hy).2.1⟩
        show _ ∈ H.blks.take _ ++ _ :: H.blks.drop _
        simp
end
end Go.Proofs.YtdjjbmefaggelaaGreat

/- The document's heap, plain: all stays one behind the other when a block is taken; what a resize comes to. No program in sight. -/
namespace Go.Proofs.YtdjjbmefaggelaaGreat

theorem find_lt {H : Hp} {s : Nat} : ∀ {i : Nat}, H.find s = some i → i < H.blks.length := by
  have one : ∀ (LL : List Nat) (i : Nat), findL H.blks s LL = some i → i < H.blks.length := by
    intro LL
    induction LL with
    | nil => intro i h; cases h
    | cons o r ih =>
      intro i h
      unfold findL at h
      split at h
      · cases h
      · rename_i j hj
        split at h
        · injection h with h
          subst h
          exact (atB_at hj).1
        · exact ih i h
  have go : ∀ (k c i : Nat), H.findC s k c = some i → i < H.blks.length := by
    intro k
    induction k with
    | zero => intro c i h; cases h
    | succ k ih =>
      intro c i h
      unfold Hp.findC at h
      split at h
      · rename_i j hj
        injection h with h
        subst h
        exact one _ _ hj
      · exact ih _ _ h
  intro i h
  exact go _ _ _ h
section
variable {H : Hp} {i s N : Nat}
theorem Hp.Ok.giveB (h : H.Ok) : (H.giveB i).Ok := by
  unfold Hp.giveB
  split
  · rename_i hn
    have hlt : i + 1 < H.blks.length := by
      unfold nextF at hn
      rw [Bool.and_eq_true, decide_eq_true_eq] at hn
      exact hn.1
    exact Hp.Ok.join (Hp.Ok.out h) hlt
  · exact h
theorem Hp.Ok.giveC (h : H.Ok) (hi : i < H.blks.length) : (H.giveC i).Ok := by
  unfold Hp.giveC
  split
  · rename_i hn
    have hlt : i - 1 + 1 < H.blks.length := by
      unfold prevF at hn
      rw [Bool.and_eq_true, decide_eq_true_eq] at hn
      have := hn.1
      omega
    exact Hp.Ok.in_ (Hp.Ok.join (Hp.Ok.out h) hlt)
  · exact Hp.Ok.in_ h
theorem giveB_lt (hi : i < H.blks.length) : i < (H.giveB i).blks.length := by
  unfold Hp.giveB
  split
  · rename_i hn
    have hlt : i + 1 < H.blks.length := by
      unfold nextF at hn
      rw [Bool.and_eq_true, decide_eq_true_eq] at hn
      exact hn.1
    exact (join_at (H.out (i + 1)) (i := i) hlt).1
  · exact hi
theorem Hp.Ok.give (h : H.Ok) (hi : i < H.blks.length) : (H.give i).Ok := by
  have h1 : ((H.use i false).wipe i).Ok := (h.use hi false).wipe
  have l1 : i < ((H.use i false).wipe i).blks.length := by
    show i < (H.blks.set i _).length
    rw [List.length_set]; exact hi
  exact (h1.giveB).giveC (giveB_lt l1)
theorem Hp.Ok.cutA (h : H.Ok) (hi : i < H.blks.length) (hs : isSz (s : Int) = true) : (H.cut i s).Ok := by
  unfold Hp.cut
  split
  · exact h.use hi true
  · rename_i hge
    exact (h.cut hi hs (by omega)).give (by rw [cut_len H hi]; omega)
theorem Hp.Few.giveB (h : H.Few N) : (H.giveB i).Few N := by
  unfold Hp.giveB
  split
  · exact Hp.Few.out (i := i + 1) h
  · exact h
theorem Hp.Few.giveC (h : H.Few N) : (H.giveC i).Few (N + 1) := by
  unfold Hp.giveC
  split
  · exact Hp.Few.in_ (i := i - 1) (H := (H.out (i - 1)).join (i - 1)) (Hp.Few.out (i := i - 1) h)
  · exact Hp.Few.in_ h
theorem Hp.Few.give (h : H.Few N) : (H.give i).Few (N + 1) := by
  unfold Hp.give
  exact Hp.Few.giveC (Hp.Few.giveB (H := (H.use i false).wipe i) h)
theorem Hp.Few.cut (h : H.Few N) : (H.cut i s).Few (N + 1) := by
  unfold Hp.cut
  split
  · exact Hp.Few.more (H := H.use i true) h (Nat.le_succ _)
  · exact Hp.Few.give (H := ((H.use i true).size i s).put (i + 1) _) h
theorem Hp.Few.take (h : H.Few N) : (H.take s).2.Few (N + 1) := by
  unfold Hp.take
  split
  · exact Hp.Few.cut (Hp.Few.out h)
  · split
    · exact h.more (Nat.le_succ _)
    · split
      · exact Hp.Few.more (H := ((H.out (H.blks.length - 1)).size (H.blks.length - 1) s).use (H.blks.length - 1) true) (Hp.Few.out (i := H.blks.length - 1) h) (Nat.le_succ _)
      · exact Hp.Few.more (H := H.put H.blks.length _) h (Nat.le_succ _)
/-- The last block has another size. -/
theorem Hp.Ok.last (h : H.Ok) {k : Nat} (hk : H.blks.length = k + 1) (u : Bool) (hs : isSz (s : Int) = true) (hle : (bkAt H.blks k).off + s ≤ 16384) : (((H.size k s).use k u)).Ok ∧ (H.size k s).Ok := by
  obtain ⟨a, b, c⟩ := h.at_ (i := k) (by omega)
  have hd : H.blks.drop (k + 1) = [] := List.drop_of_length_le (by omega)
  have go : ∀ y : Bk, y.off = (bkAt H.blks k).off → y.size = s → tile 184 (H.blks.set k y) ((bkAt H.blks k).off + s) := fun y ho hsz => by
    rw [lst_set y (bkAt_get (i := k) (by omega)), hd]
    exact tile_of (by rw [ho]; exact a) (by rw [hsz]; exact hs) (by rw [ho, hsz]; rfl)
  have e1 : ((H.size k s).use k u).blks = H.blks.set k { bkAt H.blks k with size := s, used := u } := by
    show (H.blks.set k _).set k _ = _
    rw [List.set_set]
    congr 1
    show { bkAt (H.blks.set k { bkAt H.blks k with size := s }) k with used := u } = _
    rw [bkAt_set _ _ _ _ (by omega), if_pos rfl]
  have t1 := go { bkAt H.blks k with size := s, used := u } rfl rfl
  have t2 := go { bkAt H.blks k with size := s } rfl rfl
  refine ⟨⟨?_, ?_, ?_⟩, ?_, ?_, ?_⟩
  · rw [e1, tile_len t1]; exact t1
  · rw [e1, tile_len t1]; exact hle
  · show H.ds.length = ((H.size k s).use k u).blks.length
    rw [e1, List.length_set]; exact h.dl
  · show tile 184 (H.blks.set k _) (lenB (H.blks.set k _))
    rw [tile_len t2]; exact t2
  · show lenB (H.blks.set k _) ≤ _
    rw [tile_len t2]; exact hle
  · show H.ds.length = (H.blks.set k _).length
    rw [List.length_set]; exact h.dl
theorem last_end (h : H.Ok) {k : Nat} (hk : H.blks.length = k + 1) : (bkAt H.blks k).off + (bkAt H.blks k).size = lenB H.blks := by
  have h4 := (h.at_ (i := k) (by omega)).2.2
  rw [List.drop_of_length_le (by omega)] at h4
  exact h4
theorem Hp.Ok.take (h : H.Ok) (hc : H.cap ≤ 16384) (hs : isSz (s : Int) = true) : (H.take s).2.Ok := by
  unfold Hp.take
  split
  · rename_i i hf
    exact Hp.Ok.cutA (Hp.Ok.out h) (find_lt (H := H) hf) hs
  · split
    · exact h
    · rename_i hr
      split
      · rename_i htl
        obtain ⟨k, hk⟩ : ∃ k, H.blks.length = 0 ∨ H.blks.length = k + 1 := ⟨H.blks.length - 1, by omega⟩
        rcases hk with hk | hk
        · unfold tailF at htl; rw [if_pos hk] at htl; omega
        · have he := last_end h hk
          have htf : tailF H.blks = (bkAt H.blks k).size := by
            unfold tailF at htl ⊢
            rw [if_neg (by omega), show H.blks.length - 1 = k by omega] at htl ⊢
            split at htl
            · omega
            · rename_i hu; rw [if_neg hu]
          rw [show H.blks.length - 1 = k by omega]
          exact (Hp.Ok.last (Hp.Ok.out (i := k) h) hk true hs (by show (bkAt H.blks k).off + s ≤ _; omega)).1
      · rename_i htl
        have ht : tile 184 (H.blks ++ [⟨lenB H.blks, s, true⟩]) (lenB H.blks + s) := tile_snoc _ _ _ _ h.tl rfl hs
        have e : (H.put H.blks.length ⟨lenB H.blks, s, true⟩).blks = H.blks ++ [⟨lenB H.blks, s, true⟩] := by
          show H.blks.take _ ++ _ :: H.blks.drop _ = _
          rw [List.take_length, List.drop_length]
        refine ⟨?_, ?_, ?_⟩
        · rw [e, tile_len ht]; exact ht
        · rw [e, tile_len ht]; omega
        · rw [e]
          show (H.ds.take _ ++ nilD :: H.ds.drop _).length = _
          have := h.dl
          simp only [List.length_append, List.length_take, List.length_drop, List.length_cons, List.length_nil]
          omega
end
end Go.Proofs.YtdjjbmefaggelaaGreat

/- The document's heap, plain: what a resize comes to. No program in sight. -/
namespace Go.Proofs.YtdjjbmefaggelaaGreat

/-- The free block behind the i-th is gone, if there is one. -/
def Hp.swallow (H : Hp) (i : Nat) : Hp := if nextF H.blks i = true then (H.out (i + 1)).drop (i + 1) else H
def bothN (l : List Bk) (i : Nat) : Nat := (bkAt l i).size + (if nextF l i = true then (bkAt l (i + 1)).size else 0)
def Hp.widen (H : Hp) (i : Nat) : Hp := (H.swallow i).size i (bothN H.blks i)
def Hp.copyD (H : Hp) (p o : Nat) : Hp := { H with ds := H.ds.set p (H.ds.getD o nilD) }
def Hp.moveD (H : Hp) (p o : Int) : Hp := match atB p H.blks, atB o H.blks with
  | some ip, some io => H.copyD ip io
  | _, _ => H
/-- Does it grow in its place? -/
def growsB (H : Hp) (i s : Nat) : Bool := decide ((bkAt H.blks i).off + bothN H.blks i = lenB H.blks) && decide (lenB H.blks + s - bothN H.blks i ≤ H.cap)
/-- Where it stands, an error's number, the heap then. -/
def Hp.resize (H : Hp) (o : Int) (s : Nat) : (Nat × Int) × Hp := match usedB H.blks o with
  | none => ((0, 3), H)
  | some i => if s ≤ (bkAt H.blks i).size then (((bkAt H.blks i).off, 0), H.cut i s)
    else if s ≤ bothN H.blks i then (((bkAt H.blks i).off, 0), (H.widen i).cut i s)
    else if growsB H i s = true then (((bkAt H.blks i).off, 0), (H.widen i).size i s)
    else match (H.take s).1 with
      | none => ((0, 5), H)
      | some p => ((p, 0), (((H.take s).2.moveD (p : Int) o).giveO o).getD ((H.take s).2.moveD (p : Int) o))

section
variable {H : Hp} {i s N : Nat}
theorem swallow_yes (h : nextF H.blks i = true) : H.swallow i = (H.out (i + 1)).drop (i + 1) := by unfold Hp.swallow; rw [if_pos h]
theorem swallow_no (h : nextF H.blks i = false) : H.swallow i = H := by unfold Hp.swallow; rw [h, if_neg (by decide)]
theorem both_yes (h : nextF H.blks i = true) : bothN H.blks i = (bkAt H.blks i).size + (bkAt H.blks (i + 1)).size := by unfold bothN; rw [if_pos h]
theorem both_no (h : nextF H.blks i = false) : bothN H.blks i = (bkAt H.blks i).size := by unfold bothN; rw [h, if_neg (by decide)]; rfl
theorem next_lt (h : nextF H.blks i = true) : i + 1 < H.blks.length := by
  unfold nextF at h
  rw [Bool.and_eq_true, decide_eq_true_eq] at h
  exact h.1
/-- It has the blocks of both joined. -/
theorem widen_blks (h : nextF H.blks i = true) : (H.widen i).blks = ((H.out (i + 1)).join i).blks ∧ (H.widen i).ds = ((H.out (i + 1)).join i).ds := by
  have hlt := next_lt h
  have hb : bkAt ((H.out (i + 1)).drop (i + 1)).blks i = bkAt H.blks i := by
    show bkAt (H.blks.take (i + 1) ++ H.blks.drop (i + 1 + 1)) i = _
    unfold bkAt
    rw [List.getD_eq_getElem?_getD, List.getElem?_append_left (by rw [List.length_take]; omega), List.getElem?_take_of_lt (by omega), ← List.getD_eq_getElem?_getD]
  unfold Hp.widen
  rw [swallow_yes h, both_yes h]
  refine ⟨?_, rfl⟩
  rw [join_blks (H.out (i + 1)) hlt]
  show (H.blks.take (i + 1) ++ H.blks.drop (i + 1 + 1)).set i { bkAt ((H.out (i + 1)).drop (i + 1)).blks i with size := _ } = _
  rw [hb, List.set_append_left _ _ (by rw [List.length_take]; omega)]
  rw [List.take_add_one, List.getElem?_eq_getElem (by omega)]
  rw [Option.toList_some, List.set_append_right _ _ (by rw [List.length_take]; omega), List.length_take, show i - min i H.blks.length = 0 by omega]
  simp
  rfl
theorem widen_same (h : nextF H.blks i = false) (hi : i < H.blks.length) : (H.widen i).blks = H.blks ∧ (H.widen i).ds = H.ds := by
  unfold Hp.widen
  rw [swallow_no h, both_no h]
  refine ⟨?_, rfl⟩
  show H.blks.set i { bkAt H.blks i with size := (bkAt H.blks i).size } = H.blks
  have e : ({ bkAt H.blks i with size := (bkAt H.blks i).size } : Bk) = bkAt H.blks i := rfl
  rw [e]
  have hg := bkAt_get hi
  rw [List.getElem?_eq_getElem hi] at hg
  injection hg with hg
  rw [← hg]
  exact List.set_getElem_self hi
theorem Hp.Ok.widen (h : H.Ok) (hi : i < H.blks.length) : (H.widen i).Ok ∧ i < (H.widen i).blks.length ∧ bkAt (H.widen i).blks i = { bkAt H.blks i with size := bothN H.blks i } := by
  cases hn : nextF H.blks i with
  | true =>
    obtain ⟨e1, e2⟩ := widen_blks hn
    have hj := Hp.Ok.join (Hp.Ok.out (i := i + 1) h) (next_lt hn)
    have ha := join_at (H.out (i + 1)) (i := i) (next_lt hn)
    refine ⟨⟨by rw [e1]; exact hj.tl, by rw [e1]; exact hj.le, by rw [e1, e2]; exact hj.dl⟩, by rw [e1]; exact ha.1, ?_⟩
    rw [e1, ha.2.1, both_yes hn]
    rfl
  | false =>
    obtain ⟨e1, e2⟩ := widen_same hn hi
    refine ⟨⟨by rw [e1]; exact h.tl, by rw [e1]; exact h.le, by rw [e1, e2]; exact h.dl⟩, by rw [e1]; exact hi, ?_⟩
    rw [e1, both_no hn]
theorem Hp.Few.widen (h : H.Few N) : (H.widen i).Few N := by
  unfold Hp.widen Hp.swallow
  split
  · exact Hp.Few.out (i := i + 1) h
  · exact h
theorem widen_cap : (H.widen i).cap = H.cap := by unfold Hp.widen Hp.swallow; split <;> rfl
theorem Hp.Dl.swallow (h : H.Dl) : (H.swallow i).Dl := by
  unfold Hp.swallow
  split
  · exact Hp.Dl.drop (Hp.Dl.out h)
  · exact h
theorem Hp.Dl.widen (h : H.Dl) : (H.widen i).Dl := Hp.Dl.size (Hp.Dl.swallow h)
theorem Hp.Dl.moveD {p o : Int} (h : H.Dl) : (H.moveD p o).Dl := by
  unfold Hp.moveD
  split
  · show (H.ds.set _ _).length = _
    rw [List.length_set]; exact h
  · exact h
theorem moveD_cap {p o : Int} : (H.moveD p o).cap = H.cap := by unfold Hp.moveD; split <;> rfl
theorem Hp.Dl.resize {o : Int} (h : H.Dl) : (H.resize o s).2.Dl := by
  unfold Hp.resize
  split
  · exact h
  · split
    · exact h.cut
    · split
      · exact h.widen.cut
      · split
        · exact h.widen.size
        · split
          · exact h
          · rename_i p _
            cases hg : ((H.take s).2.moveD (p : Int) o).giveO o with
            | none => exact h.take.moveD
            | some H2 => exact h.take.moveD.giveO hg
theorem resize_cap {o : Int} : (H.resize o s).2.cap = H.cap := by
  unfold Hp.resize
  split
  · rfl
  · split
    · exact cut_cap
    · split
      · exact cut_cap.trans widen_cap
      · split
        · exact widen_cap
        · split
          · rfl
          · rename_i p _
            cases hg : ((H.take s).2.moveD (p : Int) o).giveO o with
            | none => exact moveD_cap.trans take_cap
            | some H2 => exact (giveO_cap hg).trans (moveD_cap.trans take_cap)
end
end Go.Proofs.YtdjjbmefaggelaaGreat

/- The document's heap, plain: what is used stays when a block is given or taken. No program in sight. -/
namespace Go.Proofs.YtdjjbmefaggelaaGreat

theorem mem_set_ne {l : List Bk} {k : Nat} {v x : Bk} (hx : x ∈ l) (hne : x ≠ bkAt l k) : x ∈ l.set k v := by
  obtain ⟨j, hj⟩ := List.mem_iff_getElem?.1 hx
  have hjk : k ≠ j := fun e => by
    subst e
    exact hne (bkAt_of hj).symm
  exact List.mem_of_getElem? ((List.getElem?_set_ne hjk).trans hj)
section
variable {H : Hp} {i s : Nat} {x : Bk}
theorem join_mem (hi : i + 1 < H.blks.length) (h1 : (bkAt H.blks i).used = false) (h2 : (bkAt H.blks (i + 1)).used = false) (hx : x ∈ H.blks) (hu : x.used = true) : x ∈ (H.join i).blks := by
  obtain ⟨j, hj⟩ := List.mem_iff_getElem?.1 hx
  have e1 : j ≠ i := fun e => by subst e; rw [bkAt_of hj, hu] at h1; cases h1
  have e2 : j ≠ i + 1 := fun e => by subst e; rw [bkAt_of hj, hu] at h2; cases h2
  rw [join_blks H hi]
  rcases Nat.lt_or_ge j i with h | h
  · exact List.mem_append_left _ (List.mem_of_getElem? ((List.getElem?_take_of_lt h).trans hj))
  · refine List.mem_append_right _ (List.mem_cons_of_mem _ ?_)
    refine List.mem_of_getElem? (i := j - (i + 2)) ?_
    rw [List.getElem?_drop, show i + 2 + (j - (i + 2)) = j by omega]
    exact hj
theorem next_free (h : nextF H.blks i = true) : (bkAt H.blks (i + 1)).used = false := by
  unfold nextF at h
  rw [Bool.and_eq_true] at h
  simpa using h.2
theorem prev_free (h : prevF H.blks i = true) : 0 < i ∧ (bkAt H.blks (i - 1)).used = false := by
  unfold prevF at h
  rw [Bool.and_eq_true, decide_eq_true_eq] at h
  exact ⟨h.1, by simpa using h.2⟩
/-- What is used stays, but for the block itself. -/
theorem give_mem (hi : i < H.blks.length) (hx : x ∈ H.blks) (hu : x.used = true) (hne : x ≠ bkAt H.blks i) : x ∈ (H.give i).blks := by
  have m1 : x ∈ ((H.use i false).wipe i).blks := mem_set_ne (v := { bkAt H.blks i with used := false }) hx hne
  have f1 : bkAt ((H.use i false).wipe i).blks i = { bkAt H.blks i with used := false } := by
    show bkAt (H.blks.set i _) i = _
    rw [bkAt_set _ _ _ _ hi, if_pos rfl]
  have l1 : i < ((H.use i false).wipe i).blks.length := by show i < (H.blks.set i _).length; rw [List.length_set]; exact hi
  unfold Hp.give
  obtain ⟨H1, hH1⟩ : ∃ H1, (H.use i false).wipe i = H1 := ⟨_, rfl⟩
  rw [hH1] at m1 f1 l1 ⊢
  have f1u : (bkAt H1.blks i).used = false := by rw [f1]
  have m2 : x ∈ (H1.giveB i).blks := by
    unfold Hp.giveB
    split
    · rename_i hn
      exact join_mem (H := H1.out (i + 1)) (next_lt hn) f1u (next_free hn) m1 hu
    · exact m1
  have l2 := giveB_lt (H := H1) l1
  have f2 : (bkAt (H1.giveB i).blks i).used = false := by
    unfold Hp.giveB
    split
    · rename_i hn
      rw [(join_at (H1.out (i + 1)) (i := i) (next_lt hn)).2.1]
      exact f1u
    · exact f1u
  unfold Hp.giveC
  split
  · rename_i hp
    obtain ⟨hp1, hp2⟩ := prev_free hp
    have e : i - 1 + 1 = i := by omega
    exact join_mem (H := (H1.giveB i).out (i - 1)) (i := i - 1) (by show i - 1 + 1 < (H1.giveB i).blks.length; omega) hp2 (by rw [e]; exact f2) m2 hu
  · exact m2
/-- What is used stays when another block is cut. -/
theorem cut_mem (ht : tile 184 H.blks (lenB H.blks)) (hi : i < H.blks.length) (hs : isSz (s : Int) = true) (hx : x ∈ H.blks) (hu : x.used = true) (hne : x ≠ bkAt H.blks i) : x ∈ (H.cut i s).blks := by
  unfold Hp.cut
  split
  · exact mem_set_ne (v := { bkAt H.blks i with used := true }) hx hne
  · rename_i hge
    obtain ⟨y, hy⟩ : ∃ y : Bk, (⟨(bkAt H.blks i).off + s, (bkAt H.blks i).size - s, true⟩ : Bk) = y := ⟨_, rfl⟩
    rw [hy]
    have hb := cut_blks (s := s) H hi y
    have hln := cut_len (s := s) H hi y
    obtain ⟨H2, hH2⟩ : ∃ H2, ((H.use i true).size i s).put (i + 1) y = H2 := ⟨_, rfl⟩
    rw [hH2] at hb hln ⊢
    have hss := (isSz_iff _).1 hs
    have hx2 : x ∈ H2.blks := by
      rw [hb]
      obtain ⟨j, hj⟩ := List.mem_iff_getElem?.1 hx
      have e1 : j ≠ i := fun e => by subst e; exact hne (bkAt_of hj).symm
      rcases Nat.lt_or_ge j i with h | h
      · exact List.mem_append_left _ (List.mem_of_getElem? ((List.getElem?_take_of_lt h).trans hj))
      · refine List.mem_append_right _ (List.mem_cons_of_mem _ (List.mem_cons_of_mem _ ?_))
        refine List.mem_of_getElem? (i := j - (i + 1)) ?_
        rw [List.getElem?_drop, show i + 1 + (j - (i + 1)) = j by omega]
        exact hj
    have hat : bkAt H2.blks (i + 1) = y := bkAt_of (by
      rw [hb, List.getElem?_append_right (by rw [List.length_take]; omega), List.length_take, show i + 1 - min i H.blks.length = 1 by omega]
      rfl)
    refine give_mem (H := H2) (by omega) hx2 hu (fun e => ?_)
    rw [hat, ← hy] at e
    have hxs := (isSz_iff _).1 ((tile_mem _ _ _ ht).2 x hx).2.2.1
    have e2 : x.off = (bkAt H.blks i).off + s := by rw [e]
    rcases tile_apart _ _ _ ht x hx _ (List.mem_of_getElem? (bkAt_get hi)) with h | h | h
    · exact hne h
    · omega
    · omega
/-- What is used stays when a block is taken. -/
theorem take_mem (ht : tile 184 H.blks (lenB H.blks)) (hs : isSz (s : Int) = true) (hfr : ∀ i, H.find s = some i → i < H.blks.length ∧ (bkAt H.blks i).used = false) (hx : x ∈ H.blks) (hu : x.used = true) : x ∈ (H.take s).2.blks := by
  unfold Hp.take
  split
  · rename_i i hf
    obtain ⟨h1, h2⟩ := hfr i hf
    exact cut_mem (H := H.out i) ht h1 hs hx hu (fun e => by
      have e : x = bkAt H.blks i := e
      rw [e, h2] at hu; cases hu)
  · split
    · exact hx
    · split
      · rename_i htl
        have hn : 0 < H.blks.length := List.length_pos_of_mem hx
        have hu0 : (bkAt H.blks (H.blks.length - 1)).used = false := by
          cases hu' : (bkAt H.blks (H.blks.length - 1)).used with
          | false => rfl
          | true => unfold tailF at htl; rw [if_neg (by omega), if_pos hu'] at htl; omega
        obtain ⟨k, hk⟩ : ∃ k, H.blks.length - 1 = k := ⟨_, rfl⟩
        rw [hk] at hu0 ⊢
        have hne : x ≠ bkAt H.blks k := fun e => by rw [e, hu0] at hu; cases hu
        have m1 : x ∈ ((H.out k).size k s).blks := mem_set_ne (v := { bkAt H.blks k with size := s }) hx hne
        refine mem_set_ne (l := ((H.out k).size k s).blks) (k := k) (v := { bkAt ((H.out k).size k s).blks k with used := true }) m1 (fun e => ?_)
        have e2 : bkAt ((H.out k).size k s).blks k = { bkAt H.blks k with size := s } := by
          show bkAt (H.blks.set k _) k = _
          rw [bkAt_set _ _ _ _ (by omega), if_pos rfl]
          rfl
        rw [e2] at e
        rw [e] at hu
        have hu : (bkAt H.blks k).used = true := hu
        rw [hu0] at hu
        cases hu
      · show x ∈ H.blks.take _ ++ _ :: H.blks.drop _
        rw [List.take_length]
        exact List.mem_append_left _ hx
end
section
variable {bs : List UInt8} {H : Hp} {s : Nat}
/-- Where a block is moved, both are found. -/
theorem Rt.moves (h : Rt bs H) (hs : isSz (s : Int) = true) {o : Int} : ∀ i q, usedB H.blks o = some i → (H.take s).1 = some q → ∃ iq io, atB (q : Int) (H.take s).2.blks = some iq ∧ atB o (H.take s).2.blks = some io := fun i q hu hq => by
  have ht : tile 184 H.blks (Go.Proofs.YtdjjbmefaggelaaGreat.lenB H.blks) := by rw [h.lenE]; exact (walkB_tiles h.walk).2.1
  obtain ⟨x, hx, hxo, _⟩ := h.what hs hq
  obtain ⟨iq, hiq⟩ := atB_mem hx
  have hib : i < H.blks.length ∧ ((bkAt H.blks i).off : Int) = o ∧ (bkAt H.blks i).used = true := by
    unfold usedB at hu
    split at hu
    · cases hu
    · rename_i j hj
      split at hu
      · rename_i hus
        injection hu with hu
        subst hu
        exact ⟨(atB_at hj).1, (atB_at hj).2, hus⟩
      · cases hu
  obtain ⟨io, hio⟩ := atB_mem (take_mem ht hs (fun j hj => by obtain ⟨a, _, c⟩ := h.found hs hj; exact ⟨a, c⟩) (List.mem_of_getElem? (bkAt_get hib.1)) hib.2.2)
  rw [hxo] at hiq
  rw [hib.2.1] at hio
  exact ⟨iq, io, hiq, hio⟩
end
end Go.Proofs.YtdjjbmefaggelaaGreat

/- The document's heap, plain: bytes within used blocks are no matter; marks in them. No program in sight. -/
namespace Go.Proofs.YtdjjbmefaggelaaGreat

/-- The same bytes but within a block, between its tags. -/
def AgreeB (bs bs' : List UInt8) (x : Bk) : Prop := bs'.length = bs.length ∧ ∀ q, (q < x.off + 8 ∨ x.off + x.size ≤ q + 8) → bs'[q]? = bs[q]?
theorem allF_congr {bs bs' : List UInt8} {c : Nat} : ∀ (k last p : Nat) (l : List Nat), allF bs c k last p = some l → (∀ o ∈ l, memberB bs' o (c : Int) = true ∧ wordN bs' (o + 16) = wordN bs (o + 16) ∧ wordN bs' (o + 8) = wordN bs (o + 8)) → allF bs' c k last p = some l
  | 0, last, p, l, h, _ => by
    unfold allF at h ⊢
    split at h
    · rename_i hp; rw [if_pos hp]; exact h
    · cases h
  | k + 1, last, p, l, h, hm => by
    unfold allF at h ⊢
    by_cases hp : p = 0
    · rw [if_pos hp] at h ⊢; exact h
    · rw [if_neg hp] at h ⊢
      dsimp only at h ⊢
      by_cases hc : memberB bs p (c : Int) = true ∧ wordN bs (p + 16) = last
      · rw [if_pos hc] at h
        cases hr : allF bs c k p (wordN bs (p + 8)) with
        | none => rw [hr] at h; cases h
        | some l' =>
          rw [hr] at h
          injection h with h
          subst h
          obtain ⟨m1, m2, m3⟩ := hm p (by simp)
          rw [if_pos ⟨m1, m2.trans hc.2⟩, m3, allF_congr k p _ l' hr (fun o ho => hm o (by simp [ho]))]
          rfl
      · rw [if_neg hc] at h; cases h
theorem chkC_congr {bs bs' : List UInt8} {l : List Bk} (h : ∀ c, c < 22 → allB bs' c = allB bs c) : ∀ (k c : Nat) (fr : Int), c + k = 22 → chkC bs' l k c fr = chkC bs l k c fr
  | 0, c, fr, _ => rfl
  | k + 1, c, fr, hck => by
    unfold chkC
    rw [h c (by omega)]
    split
    · rfl
    · rw [chkC_congr h k (c + 1) _ (by omega)]
section
variable {bs bs' : List UInt8} {H : Hp} {x : Bk}
theorem Rt.fill (h : Rt bs H) (hx : x ∈ H.blks) (hu : x.used = true) (ha : AgreeB bs bs' x) : Rt bs' H := by
  obtain ⟨h184, ht, hg⟩ := walkB_tiles h.walk
  obtain ⟨hl, hq⟩ := ha
  have hxm := (tile_mem _ _ _ ht).2 x hx
  have hxs := (isSz_iff _).1 hxm.2.2.1
  have hw : ∀ p, (p + 8 ≤ x.off + 8 ∨ x.off + x.size ≤ p + 8) → wordN bs' p = wordN bs p := fun p hp => wordN_congr bs bs' p fun i h1 h2 => hq i (by omega)
  have hget : ∀ y ∈ H.blks, getB bs' (y.off : Int) = some y := fun y hy => by
    have hym := (isSz_iff _).1 ((tile_mem _ _ _ ht).2 y hy).2.2.1
    refine getB_congr bs bs' y hl (hg y hy) ?_ ?_
    · rcases tile_apart _ _ _ ht y hy x hx with rfl | h' | h'
      · exact hw _ (.inl (by omega))
      · exact hw _ (.inl (by omega))
      · exact hw _ (.inr (by omega))
    · rcases tile_apart _ _ _ ht y hy x hx with rfl | h' | h'
      · exact hw _ (.inr (by omega))
      · exact hw _ (.inl (by omega))
      · exact hw _ (.inr (by omega))
  have hwalk : walkB bs' = some H.blks := walkB_tile (by rw [hl]; exact ht) hget
  have hall : ∀ c, c < 22 → allB bs' c = some (H.lists c) := fun c hc => by
    have h1 := h.all_ c hc
    unfold allB at h1 ⊢
    rw [hl, hw 0 (.inl (by omega)), hw (8 + 8 * c) (.inl (by omega))]
    split at h1
    · cases h1
    · rename_i hn
      rw [if_neg hn]
      split at h1
      · cases h1
      · rename_i hb
        rw [if_neg hb]
        refine allF_congr _ _ _ _ h1 fun o ho => ?_
        obtain ⟨y, hy, hyo, hyu, hyc⟩ := freeL_mem ((h.nfree.1 c hc).2 o ho)
        have hym := (isSz_iff _).1 ((tile_mem _ _ _ ht).2 y hy).2.2.1
        have hye := ((tile_mem _ _ _ ht).2 y hy).2.1
        have hmm := memberB_get (allB_member (h.all_ c hc) o ho)
        subst hyo
        have hap : y.off + y.size ≤ x.off ∨ x.off + x.size ≤ y.off := by
          rcases tile_apart _ _ _ ht y hy x hx with h' | h' | h'
          · rw [h', hu] at hyu; cases hyu
          · exact .inl h'
          · exact .inr h'
        refine ⟨?_, ?_, ?_⟩
        · unfold memberB
          rw [hget y hy]
          simp only [Bool.and_eq_true, decide_eq_true_eq, beq_iff_eq, Bool.not_eq_true']
          exact ⟨hmm.1, hyu, hyc⟩
        · rcases hap with h' | h'
          · exact hw _ (.inl (by omega))
          · exact hw _ (.inr (by omega))
        · rcases hap with h' | h'
          · exact hw _ (.inl (by omega))
          · exact hw _ (.inr (by omega))
  refine ⟨hwalk, hall, ?_, by rw [hl]; exact h.len⟩
  have hk := h.chk
  unfold checkB at hk ⊢
  rw [h.walk] at hk
  rw [hwalk]
  dsimp only at hk ⊢
  have hn0 : numO bs' 0 = numO bs 0 := by
    unfold numO word?
    rw [hl]
    split
    · show (some (wordN bs' 0)).getD 0 = (some (wordN bs 0)).getD 0
      rw [hw 0 (.inl (by omega))]
    · rfl
  rw [hn0, chkC_congr (fun c hc => (hall c hc).trans (h.all_ c hc).symm) 22 0 _ rfl]
  exact hk
/-- A stretch laid within a block. -/
theorem agree_lay (d : Nat) (cs : List UInt8) (h1 : x.off + 8 ≤ d) (h2 : d + cs.length + 8 ≤ x.off + x.size) (h3 : x.off + x.size ≤ bs.length) : AgreeB bs (lay bs d cs) x := by
  have hle : d ≤ bs.length := by omega
  refine ⟨?_, fun q hq => ?_⟩
  · unfold lay
    simp only [List.length_append, List.length_take, List.length_drop]
    omega
  · unfold lay
    rcases Nat.lt_or_ge q d with h | h
    · rw [List.getElem?_append_left (by rw [List.length_take]; omega), List.getElem?_take_of_lt h]
    · have hq2 : d + cs.length ≤ q := by omega
      rw [List.getElem?_append_right (by rw [List.length_take]; omega), List.length_take, List.getElem?_append_right (by omega), List.getElem?_drop]
      congr 1
      omega
theorem lay_in (bs : List UInt8) (d : Nat) (cs : List UInt8) (hd : d ≤ bs.length) (k : Nat) (hk : k < cs.length) : (lay bs d cs)[d + k]? = cs[k]? := by
  unfold lay
  rw [List.getElem?_append_right (by rw [List.length_take]; omega), List.length_take, List.getElem?_append_left (by omega), show d + k - min d bs.length = k by omega]
end
/-- What is marked: each used block with its number, the one at o with marks of its own, k of them. -/
def markOf (i : Nat) : UInt8 := UInt8.ofNat i
def Marks (l : List Bk) (o : Nat) (j : Nat) (bs : List UInt8) : Prop :=
  ∀ i x, i < j → l[i]? = some x → x.used = true → (x.off ≠ o → ∀ k, 8 ≤ k → k + 8 < x.size → bs[x.off + k]? = some (markOf i)) ∧ (x.off = o → ∀ k, k + 16 < x.size → bs[o + 8 + k]? = some (markOf (7 * k + 1)))
theorem Marks.agree {l : List Bk} {o j e : Nat} {bs bs' : List UInt8} {x : Bk} (ht : tile 184 l e) (h : Marks l o j bs) (hx : l[j]? = some x) (ha : AgreeB bs bs' x) : Marks l o j bs' := fun i y hi hy hu => by
  obtain ⟨m1, m2⟩ := h i y hi hy hu
  have hap : y.off + y.size ≤ x.off ∨ x.off + x.size ≤ y.off := by
    rcases tile_apart _ _ _ ht y (List.mem_of_getElem? hy) x (List.mem_of_getElem? hx) with h' | h' | h'
    · exfalso
      have hne := List.pairwise_iff_getElem.1 (tile_ne _ _ _ ht) i j (lst_lt hy) (lst_lt hx) hi
      rw [List.getElem?_eq_getElem (lst_lt hy)] at hy
      rw [List.getElem?_eq_getElem (lst_lt hx)] at hx
      injection hy with hy
      injection hx with hx
      exact hne (by rw [hy, hx, h'])
    · exact .inl h'
    · exact .inr h'
  refine ⟨fun hne k h1 h2 => ?_, fun he k h1 => ?_⟩
  · rw [ha.2 _ (by omega)]
    exact m1 hne k h1 h2
  · rw [ha.2 _ (by omega)]
    exact m2 he k h1
end Go.Proofs.YtdjjbmefaggelaaGreat

/- The document's heap, plain: behind a resize all other used blocks stand, and the block has as many bytes as were asked for. No program in sight. -/
namespace Go.Proofs.YtdjjbmefaggelaaGreat

section
variable {bs : List UInt8} {H : Hp} {i s : Nat} {x : Bk}
theorem join_mem2 (hi : i + 1 < H.blks.length) (h1 : x ≠ bkAt H.blks i) (h2 : x ≠ bkAt H.blks (i + 1)) (hx : x ∈ H.blks) : x ∈ (H.join i).blks := by
  obtain ⟨j, hj⟩ := List.mem_iff_getElem?.1 hx
  have e1 : j ≠ i := fun e => by subst e; exact h1 (bkAt_of hj).symm
  have e2 : j ≠ i + 1 := fun e => by subst e; exact h2 (bkAt_of hj).symm
  rw [join_blks H hi]
  rcases Nat.lt_or_ge j i with h | h
  · exact List.mem_append_left _ (List.mem_of_getElem? ((List.getElem?_take_of_lt h).trans hj))
  · refine List.mem_append_right _ (List.mem_cons_of_mem _ ?_)
    refine List.mem_of_getElem? (i := j - (i + 2)) ?_
    rw [List.getElem?_drop, show i + 2 + (j - (i + 2)) = j by omega]
    exact hj
theorem widen_mem (hi : i < H.blks.length) (hx : x ∈ H.blks) (hu : x.used = true) (hne : x ≠ bkAt H.blks i) : x ∈ (H.widen i).blks := by
  cases hn : nextF H.blks i with
  | true =>
    rw [(widen_blks hn).1]
    refine join_mem2 (H := H.out (i + 1)) (next_lt hn) hne (fun e => ?_) hx
    have e : x = bkAt H.blks (i + 1) := e
    rw [e, next_free hn] at hu
    cases hu
  | false => rw [(widen_same hn hi).1]; exact hx
theorem used_some {l : List Bk} {o : Int} {i : Nat} (h : usedB l o = some i) : i < l.length ∧ ((bkAt l i).off : Int) = o ∧ (bkAt l i).used = true := by
  unfold usedB at h
  split at h
  · cases h
  · rename_i j hj
    split at h
    · rename_i hu
      injection h with h
      subst h
      exact ⟨(atB_at hj).1, (atB_at hj).2, hu⟩
    · cases h
theorem moveD_blks {p o : Int} : (H.moveD p o).blks = H.blks := by unfold Hp.moveD; split <;> rfl
theorem giveO_mem {o : Int} (hx : x ∈ H.blks) (hu : x.used = true) (hne : (x.off : Int) ≠ o) : x ∈ ((H.giveO o).getD H).blks := by
  unfold Hp.giveO
  cases h : usedB H.blks o with
  | none => exact hx
  | some j =>
    obtain ⟨h1, h2, _⟩ := used_some h
    exact give_mem h1 hx hu (fun e => hne (by rw [e]; exact h2))
/-- All other used blocks stand. -/
theorem Rt.rezMem (h : Rt bs H) (hok : H.Ok) (hs : isSz (s : Int) = true) {o : Int} (hx : x ∈ H.blks) (hu : x.used = true) (hne : (x.off : Int) ≠ o) : x ∈ (H.resize o s).2.blks := by
  unfold Hp.resize
  split
  · exact hx
  · rename_i i hi
    obtain ⟨h1, h2, h3⟩ := used_some hi
    have hxi : x ≠ bkAt H.blks i := fun e => hne (by rw [e]; exact h2)
    split
    · exact cut_mem hok.tl h1 hs hx hu hxi
    · have hw := hok.widen h1
      have hxw : x ≠ bkAt (H.widen i).blks i := fun e => by
        rw [hw.2.2] at e
        exact hne (by rw [e]; exact h2)
      split
      · exact cut_mem hw.1.tl hw.2.1 hs (widen_mem h1 hx hu hxi) hu hxw
      · split
        · exact mem_set_ne (l := (H.widen i).blks) (widen_mem h1 hx hu hxi) hxw
        · split
          · exact hx
          · refine giveO_mem (H := (H.take s).2.moveD _ o) ?_ hu hne
            rw [moveD_blks]
            exact take_mem hok.tl hs (fun j hj => by obtain ⟨a, _, c⟩ := h.found hs hj; exact ⟨a, c⟩) hx hu
/-- The block has as many bytes. -/
theorem Rt.rezHas (h : Rt bs H) (hok : H.Ok) (hs : isSz (s : Int) = true) {o : Int} (he : (H.resize o s).1.2 = 0) : ∃ y ∈ (H.resize o s).2.blks, y.used = true ∧ y.off = (H.resize o s).1.1 ∧ s ≤ y.size := by
  unfold Hp.resize at he ⊢
  split
  · rename_i hn
    rw [hn] at he
    cases he
  · rename_i i hi
    obtain ⟨h1, h2, h3⟩ := used_some hi
    rw [hi] at he
    dsimp only at he ⊢
    split
    · rename_i hle
      obtain ⟨y, a, b, c, d, _⟩ := cut_has h1 hle
      exact ⟨y, a, c, b, d⟩
    · rename_i hlt
      rw [if_neg hlt] at he
      have hw := hok.widen h1
      split
      · rename_i hb
        obtain ⟨y, a, b, c, d, _⟩ := cut_has (H := H.widen i) (s := s) hw.2.1 (by rw [hw.2.2]; exact hb)
        rw [hw.2.2] at b
        exact ⟨y, a, c, b, d⟩
      · rename_i hb
        rw [if_neg hb] at he
        split
        · have hat : ((H.widen i).size i s).blks[i]? = some { bkAt (H.widen i).blks i with size := s } := List.getElem?_set_self hw.2.1
          rw [hw.2.2] at hat
          exact ⟨_, List.mem_of_getElem? hat, h3, rfl, Nat.le_refl _⟩
        · rename_i hg
          rw [if_neg hg] at he
          split
          · rename_i hn
            rw [hn] at he
            cases he
          · rename_i q hq
            obtain ⟨y, a, b, c, d, _, ap⟩ := h.what hs hq
            refine ⟨y, ?_, c, b, d⟩
            refine giveO_mem (H := (H.take s).2.moveD (q : Int) o) (by rw [moveD_blks]; exact a) c (fun e => ?_)
            have hap := ap _ (List.mem_of_getElem? (bkAt_get h1)) h3
            have hsz := (isSz_iff _).1 (hok.sz h1)
            have hss := (isSz_iff _).1 hs
            omega
end
end Go.Proofs.YtdjjbmefaggelaaGreat

/- What the program's allocation (layer 12) is to tell. -/
namespace Go.Proofs.YtdjjbmefaggelaaGreat
open Go.RowKit

/-- The arena is another heap, or there is an error, and all is as it was. -/
def Turned (k : Int) (g base cap : Nat) (A : Option Addr) (bs : List UInt8) (H : Hp) (y : Option Hp) (w : World) (e : Ending) (w' : World) : Prop :=
  match y with
  | none => e = .returned (errV false k) ∧ Below w.heap.size w w'
  | some H' => e = .returned (errV true k) ∧ ∃ out, Became 88 g base cap A out w w' ∧ Rt out H' ∧ Held H bs H' out
def TurnedAt (g base cap : Nat) (A : Option Addr) (bs : List UInt8) (H : Hp) (y : Option Nat × Hp) (w : World) (e : Ending) (w' : World) : Prop :=
  match y.1 with
  | none => e = .returned (.tuple #[.int .i64 0, errV false 5]) ∧ Below w.heap.size w w'
  | some o => e = .returned (.tuple #[.int .i64 (o : Int), errV true 5]) ∧ ∃ out, Became 88 g base cap A out w w' ∧ Rt out y.2 ∧ Held H bs y.2 out

def TakeK : Prop := ∀ (w : World) (g base cap c : Nat) (A : Option Addr) (bs : List UInt8) (H : Hp) (s : Int), Ar w 88 g base cap A c bs → base ≤ 4611686018427387904 → cap ≤ 16384 → H.cap = cap → Rt bs H → (-9223372036854775808 ≤ s ∧ s ≤ 9223372036854775807) →
  (isSz s = false → Calls Tryz.prog 23 #[.pointer (some ⟨g, 0, none⟩), .int .i64 s] w fun e w' => e = .returned (.tuple #[.int .i64 0, errV false 1]) ∧ Below w.heap.size w w') ∧
  (isSz s = true → Calls Tryz.prog 23 #[.pointer (some ⟨g, 0, none⟩), .int .i64 s] w fun e w' => TurnedAt g base cap A bs H (H.take s.toNat) w e w')
def GiveK : Prop := ∀ (w : World) (g base cap c : Nat) (A : Option Addr) (bs : List UInt8) (H : Hp) (o : Int), Ar w 88 g base cap A c bs → base ≤ 4611686018427387904 → cap ≤ 16384 → H.cap = cap → Rt bs H → (-9223372036854775808 ≤ o ∧ o ≤ 9223372036854775807) →
  Calls Tryz.prog 27 #[.pointer (some ⟨g, 0, none⟩), .int .i64 o] w fun e w' => Turned 3 g base cap A bs H (H.giveO o) w e w'
def TrimK : Prop := ∀ (w : World) (g base cap c : Nat) (A : Option Addr) (bs : List UInt8) (H : Hp) (o s : Int), Ar w 88 g base cap A c bs → base ≤ 4611686018427387904 → cap ≤ 16384 → H.cap = cap → Rt bs H → (-9223372036854775808 ≤ o ∧ o ≤ 9223372036854775807) → (-9223372036854775808 ≤ s ∧ s ≤ 9223372036854775807) →
  (isSz s = false → Calls Tryz.prog 29 #[.pointer (some ⟨g, 0, none⟩), .int .i64 o, .int .i64 s] w fun e w' => e = .returned (errV false 1) ∧ Below w.heap.size w w') ∧
  (isSz s = true → Calls Tryz.prog 29 #[.pointer (some ⟨g, 0, none⟩), .int .i64 o, .int .i64 s] w fun e w' => Turned 3 g base cap A bs H (H.trimO o s.toNat) w e w')
def UsedK : Prop := ∀ (w : World) (g base cap c : Nat) (A : Option Addr) (bs : List UInt8) (H : Hp) (o : Int), Ar w 88 g base cap A c bs → base ≤ 4611686018427387904 → cap ≤ 16384 → H.cap = cap → Rt bs H → (-9223372036854775808 ≤ o ∧ o ≤ 9223372036854775807) →
  Calls Tryz.prog 31 #[.pointer (some ⟨g, 0, none⟩), .int .i64 o] w fun e w' => BlkTold ((usedB H.blks o).map (bkAt H.blks)) w e w'
end Go.Proofs.YtdjjbmefaggelaaGreat

/- How all stands in the laws of layers 12 and 13: an arena of the law's own, and the document's heap beside it. -/
namespace Go.Proofs.YtdjjbmefaggelaaGreat
open Go.RowKit

structure Al (wB W : World) (g base cap : Nat) (A : Option Addr) (c : Nat) (bs : List UInt8) (F : Nat → Prop) (p : Nat) (H : Hp) : Prop where
  st : St wB W g base cap A c bs []
  hm : HM F W p H
  lo : ∀ k, F k → wB.heap.size ≤ k
  hi : ∀ k, F k → k < W.heap.size
  ap : ∀ k, F k → ¬ foot g A k

section
variable {wB W W' : World} {g base cap c p : Nat} {A : Option Addr} {bs : List UInt8} {F : Nat → Prop} {H : Hp}
theorem HM.tight {w : World} (h : HM F w p H) : ∃ F', HM F' w p H ∧ (∀ k, F' k → F k) ∧ ∀ k, F' k → k < w.heap.size := by
  obtain ⟨Vb, Vd, gl, cs, h⟩ := h
  exact ⟨_, ⟨Vb, Vd, gl, cs, h.tight⟩, fun k hk => h.feetF hk, fun k hk => h.feet_lt hk⟩
theorem Al.below (h : Al wB W g base cap A c bs F p H) (hb : Below W.heap.size W W') : Al wB W' g base cap A c bs F p H :=
  ⟨h.st.below hb, h.hm.below hb, h.lo, fun k hk => Nat.lt_of_lt_of_le (h.hi k hk) hb.size, h.ap⟩
theorem Al.became {out : List UInt8} (h : Al wB W g base cap A c bs F p H) (hb : Became 88 g base cap A out W W') : ∃ A' c', Al wB W' g base cap A' c' out F p H := by
  obtain ⟨A', c', har, ht, hA⟩ := hb
  have hlow : ∀ a, A' = some a → wB.heap.size ≤ a.block := fun a ha => by
    rcases hA with e | e
    · exact h.st.aB a (e ▸ ha)
    · exact Nat.le_trans h.st.size (e a ha)
  refine ⟨A', c', ⟨h.st.bel.trans (ht.below (fun k hk => ?_) h.st.size), har, h.st.gB, hlow, fun q hq => by cases hq⟩, h.hm.tch ht h.ap, h.lo, fun k hk => Nat.lt_of_lt_of_le (h.hi k hk) ht.size, fun k hk hf => ?_⟩
  · rcases hk with rfl | ⟨a, e, rfl⟩
    · exact h.st.gB
    · exact h.st.aB a e
  · rcases hf with rfl | ⟨a, e, rfl⟩
    · exact h.ap _ hk (.inl rfl)
    · rcases hA with e2 | e2
      · exact h.ap _ hk (.inr ⟨a, e2 ▸ e, rfl⟩)
      · have h1 := e2 a e
        have h2 := h.hi _ hk
        omega
theorem Al.turn {H' : Hp} (h : Al wB W g base cap A c bs F p H) (ht : HT F W p H' W') : ∃ F', Al wB W' g base cap A c bs F' p H' := by
  obtain ⟨F1, h1, t1, f1⟩ := ht
  obtain ⟨F2, h2, s2, l2⟩ := HM.tight h1
  have hfar : ∀ k, foot g A k → ¬ F k := fun k hk hF => h.ap k hF hk
  refine ⟨F2, ⟨h.st.bel.trans (t1.below h.lo h.st.size), h.st.ar.tch t1 hfar, h.st.gB, h.st.aB, fun q hq => by cases hq⟩, h2, fun k hk => ?_, l2, fun k hk hf => ?_⟩
  · rcases f1 k (s2 k hk) with h' | h'
    · exact h.lo k h'
    · exact Nat.le_trans h.st.size h'
  · rcases f1 k (s2 k hk) with h' | h'
    · exact h.ap k h' hf
    · have := h.st.ar.foot_lt hf
      omega
theorem Al.made {W0 : World} (hs : St wB W0 g base cap A c bs []) (hm : HM (fun k => W0.heap.size ≤ k) W p H) (hb : Below W0.heap.size W0 W) : ∃ F, Al wB W g base cap A c bs F p H := by
  obtain ⟨F2, h2, s2, l2⟩ := HM.tight hm
  refine ⟨F2, hs.below hb, h2, fun k hk => Nat.le_trans hs.size (s2 k hk), l2, fun k hk hf => ?_⟩
  have h1 := s2 k hk
  have := hs.ar.foot_lt hf
  omega
theorem Al.size (h : Al wB W g base cap A c bs F p H) : wB.heap.size ≤ W.heap.size := h.st.size
end
end Go.Proofs.YtdjjbmefaggelaaGreat

/- The laws' words of layer 12: Used, Size, Same. -/
namespace Go.Proofs.YtdjjbmefaggelaaGreat
open Go.RowKit

/-- Where the used blocks stand; the n-th one. -/
def usedL (l : List Bk) : List Nat := (l.filter fun x => x.used).map Bk.off
def usedN (l : List Bk) (n : Int) : Nat := (usedL l).getD (n % ((usedL l).length : Int)).toNat 0
def sizeN (n : Int) (raw : Bool) : Int := if raw = true then n else 32 + 16 * (n % 40)
theorem usedL_step {l : List Bk} {j : Nat} {x : Bk} (hx : l[j]? = some x) : usedL (l.take (j + 1)) = if x.used = true then usedL (l.take j) ++ [x.off] else usedL (l.take j) := by
  unfold usedL
  rw [List.take_add_one, hx, List.filter_append, List.map_append]
  cases x with
  | mk o s u => cases u <;> simp
theorem usedL_len (l : List Bk) : (usedL l).length ≤ l.length := by unfold usedL; rw [List.length_map]; exact List.length_filter_le _ _
theorem usedN_nil {l : List Bk} (h : (usedL l).length = 0) (n : Int) : usedN l n = 0 := by
  unfold usedN
  rw [List.eq_nil_of_length_eq_zero h]
  rfl

section
variable {F : Nat → Prop} {w w' : World} {p gl : Nat} {H : Hp} {Vb Vd : Value} {cs : List Value}
set_option maxHeartbeats 1000000 in
theorem lsize_any (w : World) (n : Int) (_hn : -9223372036854775808 ≤ n ∧ n ≤ 9223372036854775807) (raw : Bool) :
    Calls Tryz.prog 11 #[.int .i64 n, .bool raw] w fun e w' => e = .returned (.int .i64 (sizeN n raw)) ∧ w = w' := by
  cases raw with
  | true =>
    go_enter Tryz.func11, Tryz.ntmps11
    go_wp2
    go_ret
    exact ⟨rfl, rfl⟩
  | false =>
    have h1 := Int.emod_nonneg n (b := 40) (by omega)
    have h2 := Int.emod_lt_of_pos n (b := 40) (by omega)
    have HP := Lib.hid (lpick_any n 40 w (by omega) (by omega) _ rfl)
    obtain ⟨k, hk⟩ : ∃ k : Nat, n % 40 = (k : Int) := ⟨(n % 40).toNat, by omega⟩
    have e : (n % ((40 : Nat) : Int)).toNat = k := by have : ((40 : Nat) : Int) = 40 := rfl; rw [this, hk]; rfl
    rw [e] at HP
    have hs : sizeN n false = 32 + 16 * (k : Int) := by unfold sizeN; rw [if_neg (by decide), hk]
    have HS := Lib.hid hs
    have hk40 : k < 40 := by omega
    clear h1 h2 hk e hs
    go_enter Tryz.func11, Tryz.ntmps11
    go_wp2_with fail
    refine HP.out.mono ?_
    rintro e w2 ⟨rfl, rfl⟩
    go_wp2
    go_ret
    exact ⟨rt_i (by rw [HS.out]), rfl⟩

set_option maxHeartbeats 2000000 in
theorem lused_any (h : Hm F w p H Vb Vd gl cs) (hn512 : H.blks.length ≤ 1000) (n : Int) :
    Calls Tryz.prog 10 #[.pointer (some ⟨p, 0, none⟩), .int .i64 n] w fun e w' => e = .returned (.int .i64 ((usedN H.blks n : Nat) : Int)) ∧ Below w.heap.size w w' := by
  have c1 := h.c1
  have hplt := h.lt
  obtain ⟨A, c, rfl⟩ := own_sl h.ob
  have HO := Lib.hid h.ob
  obtain ⟨l, hL⟩ : ∃ l, H.blks = l := ⟨_, rfl⟩
  obtain ⟨M, hM⟩ : ∃ M, l.length = M := ⟨_, rfl⟩
  rw [hL] at HO c1 hn512 ⊢
  rw [hM] at HO c1 hn512
  have HM := Lib.hid hM
  obtain ⟨B5, hB5⟩ : ∃ B5, w.heap.size = B5 := ⟨_, rfl⟩
  have HB5 := Lib.hid hB5
  have HCS : Hid (∀ W, Below B5 w W → W.cell? ⟨p, 1, none⟩ = some (.slice A M c)) := fun W h' => (h'.cell (p := ⟨p, 1, none⟩) (by rw [← hB5]; exact hplt)).trans c1
  have HPK : Hid (∀ (W : World) (m q : Nat), 0 < m → m ≤ 1000 → (n % (m : Int)).toNat = q → Calls Tryz.prog 19 #[.int .i64 n, .int .i64 (m : Int)] W fun e w' => e = .returned (.int .i64 (q : Int)) ∧ W = w') := fun W m q h1 h2 h3 => lpick_any n m W h1 (by omega) q h3
  clear h hL hM hB5 hplt c1
  go_enter Tryz.func10, Tryz.ntmps10
  go_wp2
  go_loopw [5, 6] (fun q i wr => ∃ (m r : Nat) (G : List Nat), i = .int .i64 (m : Int) ∧ m ≤ M ∧ G.length = r ∧ G = usedL (l.take m) ∧ wr.ownsRow B5 3 1 q r (G.map iV) ∧ Below B5 w wr) (fun _ i _ => M - (intOf i).toNat)
  case atStart => exact ⟨0, 0, [], rfl, Nat.zero_le _, rfl, rfl, World.ownsRow_nil _ _ _ _, Below.refl _ _⟩
  case round =>
    obtain ⟨m, r, G, rfl, hm, hGr, hG, hown, hb9⟩ := hrel
    obtain ⟨A9, c9, rfl⟩ := own_sl hown
    have hBw : B5 ≤ wr.heap.size := by have := hb9.size; have := HB5.out; omega
    have k1 := HCS.out wr hb9
    by_cases hlt : m < M
    · have hmi : (m : Int) < (M : Int) := by omega
      obtain ⟨x, hx⟩ : ∃ x, l[m]? = some x := ⟨l[m]'(by rw [HM.out]; exact hlt), List.getElem?_eq_getElem _⟩
      obtain ⟨b, c', hV, hb, _, hnc, ⟨d0, _, d2⟩, _⟩ := own_blk HO.out hx
      injection hV with hV1 _ hV3
      subst hV1 hV3
      have e0 := (hb9.cell (p := ⟨b, m * 3, none⟩) (by rw [← HB5.out]; exact hb)).trans d0
      have e2 := (hb9.cell (p := ⟨b, m * 3 + 2, none⟩) (by rw [← HB5.out]; exact hb)).trans d2
      have hst := usedL_step hx
      rw [← hG] at hst
      have hrM : r ≤ M := by rw [← hGr, hG]; exact Nat.le_trans (usedL_len _) (by rw [List.length_take]; omega)
      obtain ⟨xo, hxo⟩ : ∃ xo, x.off = xo := ⟨_, rfl⟩
      rw [hxo] at e0 hst
      have HALT : Hid (∀ k, (Value.slice A9 r c9).ownBlock = some k → B5 ≤ k) := fun k hk => (hown.lt k hk).1
      have HG := Lib.hid hGr
      have HOWN := Lib.hid hown
      have HB9 := Lib.hid hb9
      cases hu : x.used with
      | false =>
        rw [hu] at e2 hst
        rw [if_neg (by decide)] at hst
        have HST := Lib.hid hst
        clear hst hx hxo hu hG hGr hown hb9 hb d0 d2 e0
        go_wp2
        go_roundw
        case rel => exact ⟨m + 1, r, G, by go_num, by omega, HG.out, HST.out.symm, HOWN.out, HB9.out⟩
        case measure => simp only [intOf]; omega
      | true =>
        rw [hu] at e2 hst
        rw [if_pos rfl] at hst
        have HST := Lib.hid hst
        obtain ⟨w6, hw6⟩ : ∃ w6, wr.alloc (.cells #[.int .i64 (xo : Int)] 3) = w6 := ⟨_, rfl⟩
        have b6 : Below wr.heap.size wr w6 := by rw [← hw6]; exact (Below.refl _ _).alloc (Nat.le_refl _) _
        have n6 : w6.heap[wr.heap.size]? = some (.cells #[.int .i64 (xo : Int)] 3 (0, 0)) := by rw [← hw6]; exact heap_alloc_new wr _
        have own6 := own_below' hown b6
        have hr6 : Rw (fun _ => False) w6 (some ⟨wr.heap.size, 0, none⟩) [xo] := fun _ => ⟨wr.heap.size, 0, rfl, heap_lt n6, id, fun j y hy => by
          rw [Nat.zero_add, cell_of_row w6 _ j _ _ (0, 0) n6]
          match j, hy with
          | 0, hy => simp at hy; subst hy; rfl⟩
        have h6B : B5 ≤ w6.heap.size := Nat.le_trans hBw b6.size
        have OWN6 := Lib.hid own6
        have HR6 := Lib.hid hr6
        have HB6 := Lib.hid (hb9.trans (b6.mono hBw))
        have HW6 := Lib.hid hw6
        clear hst hx hxo hu hG hGr hown hb9 hb d0 d2 own6 hr6 b6 n6 hw6
        go_wp2_with (first
          | (rw [HW6.out])
          | (at_builtin; go_must (refine append_ints rfl _ _ rfl B5 _ r G rfl OWN6.out (fun _ => False) (some ⟨wr.heap.size, 0, none⟩) 1 [xo] rfl HR6.out (fun h => by cases h) (by rw [List.length_singleton]; omega) h6B ?_); intro x7 w7 own7 gr7;
             have HB7 : Hid (Below B5 w w7) := HB6.out.grown gr7 h6B (fun k hk => HALT.out k hk); have OWN7 : Hid (w7.ownsRow B5 3 1 x7 (r + 1) ((G ++ [xo]).map iV)) := own7; clear own7 gr7)
          | fail)
        go_roundw
        case rel => exact ⟨m + 1, r + 1, G ++ [xo], by go_num, by omega, by rw [List.length_append, List.length_singleton, HG.out], HST.out.symm, OWN7.out, HB7.out⟩
        case measure => simp only [intOf]; omega
    · obtain rfl : M = m := by omega
      rw [List.take_of_length_le (Nat.le_of_eq HM.out)] at hG
      have hrM : r ≤ M := by rw [← hGr, hG, ← HM.out]; exact usedL_len _
      have HB9 : Hid (Below w.heap.size w wr) := (show Below _ _ _ by rw [HB5.out]; exact hb9)
      have HG := Lib.hid hG
      have HGR := Lib.hid hGr
      rcases Nat.eq_zero_or_pos r with hr0 | hr0
      · have e : usedN l n = 0 := usedN_nil (by rw [← hG, hGr]; exact hr0) n
        have HE := Lib.hid e
        have hr1 : (r : Int) = 0 := by omega
        clear hG hGr hown hb9 e hr0
        go_wp2
        go_ret
        exact ⟨rt_i (by rw [HE.out]; rfl), HB9.out⟩
      · obtain ⟨q, hq⟩ : ∃ q, (n % (r : Int)).toNat = q := ⟨_, rfl⟩
        have h1 := Int.emod_nonneg n (b := (r : Int)) (by omega)
        have h2 := Int.emod_lt_of_pos n (b := (r : Int)) (by omega)
        have hqr : q < r := by omega
        obtain ⟨y, hy⟩ : ∃ y, G[q]? = some y := ⟨G[q]'(by omega), List.getElem?_eq_getElem _⟩
        have e : usedN l n = y := by
          unfold usedN
          rw [← hG, hGr, hq, List.getD_eq_getElem?_getD, hy]
          rfl
        obtain ⟨bd, hbd⟩ : ∃ bd, A9 = some ⟨bd, 0, none⟩ := by
          rcases hown.2 with ⟨_, h0⟩ | ⟨g, _, _, h', _⟩
          · omega
          · injection h' with e; exact ⟨g, e⟩
        subst hbd
        have hcell := hown.cellAt q (by omega)
        rw [List.getElem?_map, hy] at hcell
        have hce : wr.cell? ⟨bd, q, none⟩ = some (.int .i64 (y : Int)) := hcell
        have HP := Lib.hid (HPK.out wr r q hr0 (by omega) hq)
        have HE := Lib.hid e
        have hqi : (q : Int) < (r : Int) := by omega
        have hrp : 0 < (r : Int) := by omega
        clear hG hGr hown hb9 e hcell hy h1 h2 hq HPK
        go_wp2_with fail
        refine HP.out.mono ?_
        rintro e w2 ⟨rfl, rfl⟩
        go_wp2
        go_ret
        exact ⟨rt_i (by rw [HE.out]), HB9.out⟩
end
end Go.Proofs.YtdjjbmefaggelaaGreat

/- The laws' word of layer 12: Same. -/
namespace Go.Proofs.YtdjjbmefaggelaaGreat
open Go.RowKit

section
variable {wB W : World} {g base cap c p : Nat} {A : Option Addr} {bs : List UInt8} {F : Nat → Prop} {H : Hp}
end
end Go.Proofs.YtdjjbmefaggelaaGreat

/- The laws' word of layer 12: Do. -/
namespace Go.Proofs.YtdjjbmefaggelaaGreat
open Go.RowKit

/-- What a deed leaves. -/
def Did (wB : World) (g base cap p : Nat) (e : Ending) (w' : World) : Prop :=
  e = .returned (.int .i64 1) ∧ ∃ A c bs F H, Al wB w' g base cap A c bs F p H ∧ Rt bs H ∧ H.Dl ∧ H.cap = cap
def oN (H : Hp) (n : Int) (raw : Bool) : Int := if raw = true then n else ((usedN H.blks n : Nat) : Int)
theorem usedN_le {H : Hp} (hok : H.Ok) (n : Int) : usedN H.blks n ≤ 16384 := by
  unfold usedN
  rw [List.getD_eq_getElem?_getD]
  cases h : (usedL H.blks)[(n % ((usedL H.blks).length : Int)).toNat]? with
  | none => exact Nat.zero_le _
  | some y =>
    have hm := List.mem_of_getElem? h
    unfold usedL at hm
    obtain ⟨x, hx, rfl⟩ := List.mem_map.1 hm
    have h1 := (tile_mem _ _ _ hok.tl).2 x (List.mem_filter.1 hx).1
    have h2 := hok.le
    show x.off ≤ 16384
    omega
theorem oN_ok {H : Hp} (hok : H.Ok) (n : Int) (raw : Bool) (hn : -9223372036854775808 ≤ n ∧ n ≤ 9223372036854775807) : -9223372036854775808 ≤ oN H n raw ∧ oN H n raw ≤ 9223372036854775807 := by
  unfold oN
  split
  · exact hn
  · have := usedN_le hok n
    omega
theorem sizeN_ok (n : Int) (raw : Bool) (hn : -9223372036854775808 ≤ n ∧ n ≤ 9223372036854775807) : -9223372036854775808 ≤ sizeN n raw ∧ sizeN n raw ≤ 9223372036854775807 := by
  unfold sizeN
  split
  · exact hn
  · omega
theorem is_nat {s : Int} (h : isSz s = true) : s = ((s.toNat : Nat) : Int) := by
  have := (isSz_iff _).1 h
  omega
theorem did_of {wB w' : World} {g base cap c p : Nat} {A : Option Addr} {bs : List UInt8} {F : Nat → Prop} {H : Hp} (a : Al wB w' g base cap A c bs F p H) (rt : Rt bs H) (hd : H.Dl) (hc : H.cap = cap) : Did wB g base cap p (.returned (.int .i64 1)) w' := ⟨rfl, A, c, bs, F, H, a, rt, hd, hc⟩
theorem take_none_same {H : Hp} {s : Nat} (h : (H.take s).1 = none) : (H.take s).2 = H := by
  unfold Hp.take at h ⊢
  split
  · rename_i hf; rw [hf] at h; cases h
  · rename_i hf
    rw [hf] at h
    dsimp only at h ⊢
    split
    · rfl
    · rename_i hr
      rw [if_neg hr] at h
      split at h <;> cases h
section
variable {wB W : World} {g base cap c p : Nat} {A : Option Addr} {bs : List UInt8} {F : Nat → Prop} {H : Hp}

set_option maxRecDepth 100000 in
set_option maxHeartbeats 2000000 in
theorem ldo_r3n (HK : GiveK) (a : Al wB W g base cap A c bs F p H) (rt : Rt bs H) (hcap : H.cap = cap) (hbase : base ≤ 4611686018427387904) (hc16 : cap ≤ 16384) (hd : H.Dl) (what n m : Int) (hn : -9223372036854775808 ≤ n ∧ n ≤ 9223372036854775807) (hk : (what % ((6 : Nat) : Int)).toNat = 3) (hx : H.giveO (oN H n true) = none) :
    Calls Tryz.prog 9 #[.pointer (some ⟨g, 0, none⟩), .pointer (some ⟨p, 0, none⟩), .agg #[.int .i64 what, .int .i64 n, .int .i64 m, .bool true]] W fun e w' => Did wB g base cap p e w' := by
  have hok := rt.ok (hcap ▸ hc16) hd
  have hn512 := hok.n
  have ho := oN_ok hok n true hn
  obtain ⟨w0, hw0⟩ : ∃ w0, W.alloc (.cells #[.int .i64 what, .int .i64 n, .int .i64 m, .bool true] 32) = w0 := ⟨_, rfl⟩
  have hb0 : Below W.heap.size W w0 := by rw [← hw0]; exact (Below.refl _ _).alloc (Nat.le_refl _) _
  obtain ⟨gd, hgd⟩ : ∃ gd, W.heap.size = gd := ⟨_, rfl⟩
  have hnd : w0.heap[gd]? = some (.cells #[.int .i64 what, .int .i64 n, .int .i64 m, .bool true] 32 (0, 0)) := by rw [← hw0, ← hgd]; exact heap_alloc_new W _
  have hgdlt := heap_lt hnd
  have a0 := a.below hb0
  obtain ⟨Vb, Vd, gl, cs, hmm⟩ := a0.hm
  have HPK := Lib.hid (fun w => lpick_any what 6 w (by omega) (by omega) _ hk)
  obtain ⟨o, hO⟩ : ∃ o, oN H n true = o := ⟨_, rfl⟩
  rw [hO] at ho
  have hO2 : o = n := hO.symm
  subst hO2
  rw [hO] at hx
  have r0 : w0.cell? ⟨gd, 0, none⟩ = some (.int .i64 what) := by rw [cell_of_row w0 gd 0 _ _ (0, 0) hnd]; rfl
  have r1 : w0.cell? ⟨gd, 1, none⟩ = some (.int .i64 o) := by rw [cell_of_row w0 gd 1 _ _ (0, 0) hnd]; rfl
  have r2 : w0.cell? ⟨gd, 2, none⟩ = some (.int .i64 m) := by rw [cell_of_row w0 gd 2 _ _ (0, 0) hnd]; rfl
  have r3 : w0.cell? ⟨gd, 3, none⟩ = some (.bool true) := by rw [cell_of_row w0 gd 3 _ _ (0, 0) hnd]; rfl
  have HA0 := Lib.hid a0
  have HRT := Lib.hid rt
  have HOK := Lib.hid hok
  have HDL := Lib.hid hd
  have HCAP := Lib.hid hcap
  have HW0 := Lib.hid hw0
  have HGD := Lib.hid hgd
  have HKK := Lib.hid HK
  have HX := Lib.hid hx
  clear hx
  clear a a0 hmm rt hok hd hcap hw0 hgd hnd hb0 hO hk HK
  go_enter Tryz.func9, Tryz.ntmps9
  go_wp2_with (first | (rw [HW0.out, HGD.out]) | fail)
  have A1 := Lib.hid HA0.out
  generalize w0 = w1 at *
  refine (HPK.out _).mono ?_
  rintro e w2 ⟨rfl, rfl⟩
  clear HPK HA0 HW0 HGD
  go_wp2_with fail
  refine (HKK.out w1 g base cap c A bs H o A1.out.st.ar hbase hc16 HCAP.out HRT.out ho).mono ?_
  intro e w3 hT
  rw [HX.out] at hT
  obtain ⟨rfl, hb⟩ := hT
  have A3 := Lib.hid (A1.out.below hb)
  clear hb A1
  dsimp only [errV]
  go_wp2_with fail
  refine (code_err _ 3 (by omega) (by omega)).mono ?_
  rintro e w9 ⟨rfl, rfl⟩
  obtain ⟨Vb, Vd, gl, cs, hmm⟩ := A3.out.hm
  have HGV := Lib.hid (hGive_any hmm HOK.out 1024 HRT.out.few (by omega) o ho)
  clear hmm
  go_wp2_with fail
  refine HGV.out.mono ?_
  rintro e w10 ⟨rfl, ht⟩
  rw [HX.out] at ht ⊢
  obtain ⟨F4, a4⟩ := A3.out.turn ht
  have A4 := Lib.hid a4
  clear a4 ht HGV A3
  dsimp only [badV, Option.isSome]
  go_wp2
  go_ret
  exact did_of A4.out HRT.out HDL.out HCAP.out

set_option maxRecDepth 100000 in
set_option maxHeartbeats 2000000 in
theorem ldo_r3s (HK : GiveK) (a : Al wB W g base cap A c bs F p H) (rt : Rt bs H) (hcap : H.cap = cap) (hbase : base ≤ 4611686018427387904) (hc16 : cap ≤ 16384) (hd : H.Dl) (what n m : Int) (hn : -9223372036854775808 ≤ n ∧ n ≤ 9223372036854775807) (hk : (what % ((6 : Nat) : Int)).toNat = 3) (H2 : Hp) (hx : H.giveO (oN H n true) = some H2) :
    Calls Tryz.prog 9 #[.pointer (some ⟨g, 0, none⟩), .pointer (some ⟨p, 0, none⟩), .agg #[.int .i64 what, .int .i64 n, .int .i64 m, .bool true]] W fun e w' => Did wB g base cap p e w' := by
  have hok := rt.ok (hcap ▸ hc16) hd
  have hn512 := hok.n
  have ho := oN_ok hok n true hn
  obtain ⟨w0, hw0⟩ : ∃ w0, W.alloc (.cells #[.int .i64 what, .int .i64 n, .int .i64 m, .bool true] 32) = w0 := ⟨_, rfl⟩
  have hb0 : Below W.heap.size W w0 := by rw [← hw0]; exact (Below.refl _ _).alloc (Nat.le_refl _) _
  obtain ⟨gd, hgd⟩ : ∃ gd, W.heap.size = gd := ⟨_, rfl⟩
  have hnd : w0.heap[gd]? = some (.cells #[.int .i64 what, .int .i64 n, .int .i64 m, .bool true] 32 (0, 0)) := by rw [← hw0, ← hgd]; exact heap_alloc_new W _
  have hgdlt := heap_lt hnd
  have a0 := a.below hb0
  obtain ⟨Vb, Vd, gl, cs, hmm⟩ := a0.hm
  have HPK := Lib.hid (fun w => lpick_any what 6 w (by omega) (by omega) _ hk)
  obtain ⟨o, hO⟩ : ∃ o, oN H n true = o := ⟨_, rfl⟩
  rw [hO] at ho
  have hO2 : o = n := hO.symm
  subst hO2
  rw [hO] at hx
  have r0 : w0.cell? ⟨gd, 0, none⟩ = some (.int .i64 what) := by rw [cell_of_row w0 gd 0 _ _ (0, 0) hnd]; rfl
  have r1 : w0.cell? ⟨gd, 1, none⟩ = some (.int .i64 o) := by rw [cell_of_row w0 gd 1 _ _ (0, 0) hnd]; rfl
  have r2 : w0.cell? ⟨gd, 2, none⟩ = some (.int .i64 m) := by rw [cell_of_row w0 gd 2 _ _ (0, 0) hnd]; rfl
  have r3 : w0.cell? ⟨gd, 3, none⟩ = some (.bool true) := by rw [cell_of_row w0 gd 3 _ _ (0, 0) hnd]; rfl
  have HA0 := Lib.hid a0
  have HRT := Lib.hid rt
  have HOK := Lib.hid hok
  have HDL := Lib.hid hd
  have HCAP := Lib.hid hcap
  have HW0 := Lib.hid hw0
  have HGD := Lib.hid hgd
  have HKK := Lib.hid HK
  have HX := Lib.hid hx
  clear hx
  clear a a0 hmm rt hok hd hcap hw0 hgd hnd hb0 hO hk HK
  go_enter Tryz.func9, Tryz.ntmps9
  go_wp2_with (first | (rw [HW0.out, HGD.out]) | fail)
  have A1 := Lib.hid HA0.out
  generalize w0 = w1 at *
  refine (HPK.out _).mono ?_
  rintro e w2 ⟨rfl, rfl⟩
  clear HPK HA0 HW0 HGD
  go_wp2_with fail
  refine (HKK.out w1 g base cap c A bs H o A1.out.st.ar hbase hc16 HCAP.out HRT.out ho).mono ?_
  intro e w3 hT
  rw [HX.out] at hT
  obtain ⟨rfl, out, hbe, rt2, _⟩ := hT
  obtain ⟨A3', c3, a3⟩ := A1.out.became hbe
  have A3 := Lib.hid a3
  have RT2 := Lib.hid rt2
  clear hbe a3 rt2 A1
  dsimp only [errV]
  go_wp2_with fail
  refine (code_nil _).mono ?_
  rintro e w9 ⟨rfl, rfl⟩
  obtain ⟨Vb, Vd, gl, cs, hmm⟩ := A3.out.hm
  have HGV := Lib.hid (hGive_any hmm HOK.out 1024 HRT.out.few (by omega) o ho)
  clear hmm
  go_wp2_with fail
  refine HGV.out.mono ?_
  rintro e w10 ⟨rfl, ht⟩
  rw [HX.out] at ht ⊢
  obtain ⟨F4, a4⟩ := A3.out.turn ht
  have A4 := Lib.hid a4
  clear a4 ht HGV A3
  dsimp only [badV, Option.isSome]
  go_wp2
  go_ret
  exact did_of A4.out RT2.out (HDL.out.giveO HX.out) ((giveO_cap HX.out).trans HCAP.out)

set_option maxRecDepth 100000 in
set_option maxHeartbeats 2000000 in
theorem ldo_r4a (HK : TrimK) (a : Al wB W g base cap A c bs F p H) (rt : Rt bs H) (hcap : H.cap = cap) (hbase : base ≤ 4611686018427387904) (hc16 : cap ≤ 16384) (hd : H.Dl) (what n m : Int) (hn : -9223372036854775808 ≤ n ∧ n ≤ 9223372036854775807) (hm : -9223372036854775808 ≤ m ∧ m ≤ 9223372036854775807) (hk : (what % ((6 : Nat) : Int)).toNat = 4) (hs : isSz (sizeN m true) = false) :
    Calls Tryz.prog 9 #[.pointer (some ⟨g, 0, none⟩), .pointer (some ⟨p, 0, none⟩), .agg #[.int .i64 what, .int .i64 n, .int .i64 m, .bool true]] W fun e w' => Did wB g base cap p e w' := by
  have hok := rt.ok (hcap ▸ hc16) hd
  have hn512 := hok.n
  have ho := oN_ok hok n true hn
  obtain ⟨w0, hw0⟩ : ∃ w0, W.alloc (.cells #[.int .i64 what, .int .i64 n, .int .i64 m, .bool true] 32) = w0 := ⟨_, rfl⟩
  have hb0 : Below W.heap.size W w0 := by rw [← hw0]; exact (Below.refl _ _).alloc (Nat.le_refl _) _
  obtain ⟨gd, hgd⟩ : ∃ gd, W.heap.size = gd := ⟨_, rfl⟩
  have hnd : w0.heap[gd]? = some (.cells #[.int .i64 what, .int .i64 n, .int .i64 m, .bool true] 32 (0, 0)) := by rw [← hw0, ← hgd]; exact heap_alloc_new W _
  have hgdlt := heap_lt hnd
  have a0 := a.below hb0
  obtain ⟨Vb, Vd, gl, cs, hmm⟩ := a0.hm
  have HPK := Lib.hid (fun w => lpick_any what 6 w (by omega) (by omega) _ hk)
  have hsb := sizeN_ok m true hm
  have HSZ := Lib.hid (fun w => lsize_any w m hm true)
  obtain ⟨o, hO⟩ : ∃ o, oN H n true = o := ⟨_, rfl⟩
  rw [hO] at ho
  have hO2 : o = n := hO.symm
  subst hO2
  obtain ⟨s, hS⟩ : ∃ s, sizeN m true = s := ⟨_, rfl⟩
  rw [hS] at hsb hs HSZ
  obtain ⟨cl, hcl⟩ : ∃ cl, classI s = cl := ⟨_, rfl⟩
  have hcn : cl < 0 := by rw [← hcl]; exact (classI_neg s).2 hs
  have hcb := classI_bounds s
  rw [hcl] at hcb
  have HCL := Lib.hid (fun w => rclass_any w s hsb cl hcl)
  have r0 : w0.cell? ⟨gd, 0, none⟩ = some (.int .i64 what) := by rw [cell_of_row w0 gd 0 _ _ (0, 0) hnd]; rfl
  have r1 : w0.cell? ⟨gd, 1, none⟩ = some (.int .i64 o) := by rw [cell_of_row w0 gd 1 _ _ (0, 0) hnd]; rfl
  have r2 : w0.cell? ⟨gd, 2, none⟩ = some (.int .i64 m) := by rw [cell_of_row w0 gd 2 _ _ (0, 0) hnd]; rfl
  have r3 : w0.cell? ⟨gd, 3, none⟩ = some (.bool true) := by rw [cell_of_row w0 gd 3 _ _ (0, 0) hnd]; rfl
  have HA0 := Lib.hid a0
  have HRT := Lib.hid rt
  have HOK := Lib.hid hok
  have HDL := Lib.hid hd
  have HCAP := Lib.hid hcap
  have HW0 := Lib.hid hw0
  have HGD := Lib.hid hgd
  have HKK := Lib.hid HK
  clear a a0 hmm rt hok hd hcap hw0 hgd hnd hb0 hO hk HK
  have HSA := Lib.hid hs
  clear hS hs
  go_enter Tryz.func9, Tryz.ntmps9
  go_wp2_with (first | (rw [HW0.out, HGD.out]) | fail)
  have A1 := Lib.hid HA0.out
  generalize w0 = w1 at *
  refine (HPK.out _).mono ?_
  rintro e w2 ⟨rfl, rfl⟩
  clear HPK HA0 HW0 HGD
  go_wp2_with fail
  refine (HSZ.out _).mono ?_
  rintro e w3 ⟨rfl, rfl⟩
  go_wp2_with fail
  refine ((HKK.out w1 g base cap c A bs H o s A1.out.st.ar hbase hc16 HCAP.out HRT.out ho hsb).1 HSA.out).mono ?_
  rintro e w4 ⟨rfl, hb⟩
  have A3 := Lib.hid (A1.out.below hb)
  clear hb A1
  dsimp only [errV]
  go_wp2_with fail
  refine (code_err _ 1 (by omega) (by omega)).mono ?_
  rintro e w9 ⟨rfl, rfl⟩
  go_wp2_with fail
  refine (HCL.out _).mono ?_
  rintro e w10 ⟨rfl, rfl⟩
  go_wp2
  go_ret
  exact did_of A3.out HRT.out HDL.out HCAP.out

set_option maxRecDepth 100000 in
set_option maxHeartbeats 2000000 in
theorem ldo_r4n (HK : TrimK) (a : Al wB W g base cap A c bs F p H) (rt : Rt bs H) (hcap : H.cap = cap) (hbase : base ≤ 4611686018427387904) (hc16 : cap ≤ 16384) (hd : H.Dl) (what n m : Int) (hn : -9223372036854775808 ≤ n ∧ n ≤ 9223372036854775807) (hm : -9223372036854775808 ≤ m ∧ m ≤ 9223372036854775807) (hk : (what % ((6 : Nat) : Int)).toNat = 4) (hs : isSz (sizeN m true) = true) (hx : H.trimO (oN H n true) (sizeN m true).toNat = none) :
    Calls Tryz.prog 9 #[.pointer (some ⟨g, 0, none⟩), .pointer (some ⟨p, 0, none⟩), .agg #[.int .i64 what, .int .i64 n, .int .i64 m, .bool true]] W fun e w' => Did wB g base cap p e w' := by
  have hok := rt.ok (hcap ▸ hc16) hd
  have hn512 := hok.n
  have ho := oN_ok hok n true hn
  obtain ⟨w0, hw0⟩ : ∃ w0, W.alloc (.cells #[.int .i64 what, .int .i64 n, .int .i64 m, .bool true] 32) = w0 := ⟨_, rfl⟩
  have hb0 : Below W.heap.size W w0 := by rw [← hw0]; exact (Below.refl _ _).alloc (Nat.le_refl _) _
  obtain ⟨gd, hgd⟩ : ∃ gd, W.heap.size = gd := ⟨_, rfl⟩
  have hnd : w0.heap[gd]? = some (.cells #[.int .i64 what, .int .i64 n, .int .i64 m, .bool true] 32 (0, 0)) := by rw [← hw0, ← hgd]; exact heap_alloc_new W _
  have hgdlt := heap_lt hnd
  have a0 := a.below hb0
  obtain ⟨Vb, Vd, gl, cs, hmm⟩ := a0.hm
  have HPK := Lib.hid (fun w => lpick_any what 6 w (by omega) (by omega) _ hk)
  have hsb := sizeN_ok m true hm
  have HSZ := Lib.hid (fun w => lsize_any w m hm true)
  obtain ⟨o, hO⟩ : ∃ o, oN H n true = o := ⟨_, rfl⟩
  rw [hO] at ho
  have hO2 : o = n := hO.symm
  subst hO2
  rw [hO] at hx
  obtain ⟨s, hS⟩ : ∃ s, sizeN m true = s := ⟨_, rfl⟩
  rw [hS] at hsb hs HSZ hx
  have hsn := is_nat hs
  obtain ⟨t, ht⟩ : ∃ t, s.toNat = t := ⟨_, rfl⟩
  rw [ht] at hsn hx
  subst hsn
  obtain ⟨cl, hcl, hcl22⟩ : ∃ c : Nat, classI (t : Int) = (c : Int) ∧ c < 22 := class_nat (x := ⟨0, t, false⟩) hs
  have hcn : 0 ≤ (cl : Int) := by omega
  have HCL := Lib.hid (fun w => rclass_any w (t : Int) hsb (cl : Int) hcl)
  have HSS := Lib.hid hs
  have r0 : w0.cell? ⟨gd, 0, none⟩ = some (.int .i64 what) := by rw [cell_of_row w0 gd 0 _ _ (0, 0) hnd]; rfl
  have r1 : w0.cell? ⟨gd, 1, none⟩ = some (.int .i64 o) := by rw [cell_of_row w0 gd 1 _ _ (0, 0) hnd]; rfl
  have r2 : w0.cell? ⟨gd, 2, none⟩ = some (.int .i64 m) := by rw [cell_of_row w0 gd 2 _ _ (0, 0) hnd]; rfl
  have r3 : w0.cell? ⟨gd, 3, none⟩ = some (.bool true) := by rw [cell_of_row w0 gd 3 _ _ (0, 0) hnd]; rfl
  have HA0 := Lib.hid a0
  have HRT := Lib.hid rt
  have HOK := Lib.hid hok
  have HDL := Lib.hid hd
  have HCAP := Lib.hid hcap
  have HW0 := Lib.hid hw0
  have HGD := Lib.hid hgd
  have HKK := Lib.hid HK
  have HX := Lib.hid hx
  clear hx
  clear a a0 hmm rt hok hd hcap hw0 hgd hnd hb0 hO hk HK
  clear hS hs ht
  go_enter Tryz.func9, Tryz.ntmps9
  go_wp2_with (first | (rw [HW0.out, HGD.out]) | fail)
  have A1 := Lib.hid HA0.out
  generalize w0 = w1 at *
  refine (HPK.out _).mono ?_
  rintro e w2 ⟨rfl, rfl⟩
  clear HPK HA0 HW0 HGD
  go_wp2_with fail
  refine (HSZ.out _).mono ?_
  rintro e w3 ⟨rfl, rfl⟩
  go_wp2_with fail
  refine ((HKK.out w1 g base cap c A bs H o (t : Int) A1.out.st.ar hbase hc16 HCAP.out HRT.out ho hsb).2 HSS.out).mono ?_
  intro e w4 hT
  rw [Int.toNat_natCast, HX.out] at hT
  obtain ⟨rfl, hb⟩ := hT
  have A3 := Lib.hid (A1.out.below hb)
  clear hb A1
  dsimp only [errV]
  go_wp2_with fail
  refine (code_err _ 3 (by omega) (by omega)).mono ?_
  rintro e w9 ⟨rfl, rfl⟩
  go_wp2_with fail
  refine (HCL.out _).mono ?_
  rintro e w10 ⟨rfl, rfl⟩
  obtain ⟨Vb, Vd, gl, cs, hmm⟩ := A3.out.hm
  have HGV := Lib.hid (hTrim_any hmm HOK.out 1024 HRT.out.few (by omega) o ho t HSS.out)
  clear hmm
  go_wp2_with fail
  refine HGV.out.mono ?_
  rintro e w11 ⟨rfl, ht⟩
  rw [HX.out] at ht ⊢
  obtain ⟨F4, a4⟩ := A3.out.turn ht
  have A4 := Lib.hid a4
  clear a4 ht HGV A3
  dsimp only [badV, Option.isSome]
  go_wp2
  go_ret
  exact did_of A4.out HRT.out HDL.out HCAP.out

set_option maxRecDepth 100000 in
set_option maxHeartbeats 2000000 in
theorem ldo_r4s (HK : TrimK) (a : Al wB W g base cap A c bs F p H) (rt : Rt bs H) (hcap : H.cap = cap) (hbase : base ≤ 4611686018427387904) (hc16 : cap ≤ 16384) (hd : H.Dl) (what n m : Int) (hn : -9223372036854775808 ≤ n ∧ n ≤ 9223372036854775807) (hm : -9223372036854775808 ≤ m ∧ m ≤ 9223372036854775807) (hk : (what % ((6 : Nat) : Int)).toNat = 4) (hs : isSz (sizeN m true) = true) (H2 : Hp) (hx : H.trimO (oN H n true) (sizeN m true).toNat = some H2) :
    Calls Tryz.prog 9 #[.pointer (some ⟨g, 0, none⟩), .pointer (some ⟨p, 0, none⟩), .agg #[.int .i64 what, .int .i64 n, .int .i64 m, .bool true]] W fun e w' => Did wB g base cap p e w' := by
  have hok := rt.ok (hcap ▸ hc16) hd
  have hn512 := hok.n
  have ho := oN_ok hok n true hn
  obtain ⟨w0, hw0⟩ : ∃ w0, W.alloc (.cells #[.int .i64 what, .int .i64 n, .int .i64 m, .bool true] 32) = w0 := ⟨_, rfl⟩
  have hb0 : Below W.heap.size W w0 := by rw [← hw0]; exact (Below.refl _ _).alloc (Nat.le_refl _) _
  obtain ⟨gd, hgd⟩ : ∃ gd, W.heap.size = gd := ⟨_, rfl⟩
  have hnd : w0.heap[gd]? = some (.cells #[.int .i64 what, .int .i64 n, .int .i64 m, .bool true] 32 (0, 0)) := by rw [← hw0, ← hgd]; exact heap_alloc_new W _
  have hgdlt := heap_lt hnd
  have a0 := a.below hb0
  obtain ⟨Vb, Vd, gl, cs, hmm⟩ := a0.hm
  have HPK := Lib.hid (fun w => lpick_any what 6 w (by omega) (by omega) _ hk)
  have hsb := sizeN_ok m true hm
  have HSZ := Lib.hid (fun w => lsize_any w m hm true)
  obtain ⟨o, hO⟩ : ∃ o, oN H n true = o := ⟨_, rfl⟩
  rw [hO] at ho
  have hO2 : o = n := hO.symm
  subst hO2
  rw [hO] at hx
  obtain ⟨s, hS⟩ : ∃ s, sizeN m true = s := ⟨_, rfl⟩
  rw [hS] at hsb hs HSZ hx
  have hsn := is_nat hs
  obtain ⟨t, ht⟩ : ∃ t, s.toNat = t := ⟨_, rfl⟩
  rw [ht] at hsn hx
  subst hsn
  obtain ⟨cl, hcl, hcl22⟩ : ∃ c : Nat, classI (t : Int) = (c : Int) ∧ c < 22 := class_nat (x := ⟨0, t, false⟩) hs
  have hcn : 0 ≤ (cl : Int) := by omega
  have HCL := Lib.hid (fun w => rclass_any w (t : Int) hsb (cl : Int) hcl)
  have HSS := Lib.hid hs
  have r0 : w0.cell? ⟨gd, 0, none⟩ = some (.int .i64 what) := by rw [cell_of_row w0 gd 0 _ _ (0, 0) hnd]; rfl
  have r1 : w0.cell? ⟨gd, 1, none⟩ = some (.int .i64 o) := by rw [cell_of_row w0 gd 1 _ _ (0, 0) hnd]; rfl
  have r2 : w0.cell? ⟨gd, 2, none⟩ = some (.int .i64 m) := by rw [cell_of_row w0 gd 2 _ _ (0, 0) hnd]; rfl
  have r3 : w0.cell? ⟨gd, 3, none⟩ = some (.bool true) := by rw [cell_of_row w0 gd 3 _ _ (0, 0) hnd]; rfl
  have HA0 := Lib.hid a0
  have HRT := Lib.hid rt
  have HOK := Lib.hid hok
  have HDL := Lib.hid hd
  have HCAP := Lib.hid hcap
  have HW0 := Lib.hid hw0
  have HGD := Lib.hid hgd
  have HKK := Lib.hid HK
  have HX := Lib.hid hx
  clear hx
  clear a a0 hmm rt hok hd hcap hw0 hgd hnd hb0 hO hk HK
  clear hS hs ht
  go_enter Tryz.func9, Tryz.ntmps9
  go_wp2_with (first | (rw [HW0.out, HGD.out]) | fail)
  have A1 := Lib.hid HA0.out
  generalize w0 = w1 at *
  refine (HPK.out _).mono ?_
  rintro e w2 ⟨rfl, rfl⟩
  clear HPK HA0 HW0 HGD
  go_wp2_with fail
  refine (HSZ.out _).mono ?_
  rintro e w3 ⟨rfl, rfl⟩
  go_wp2_with fail
  refine ((HKK.out w1 g base cap c A bs H o (t : Int) A1.out.st.ar hbase hc16 HCAP.out HRT.out ho hsb).2 HSS.out).mono ?_
  intro e w4 hT
  rw [Int.toNat_natCast, HX.out] at hT
  obtain ⟨rfl, out, hbe, rt2, _⟩ := hT
  obtain ⟨A3', c3, a3⟩ := A1.out.became hbe
  have A3 := Lib.hid a3
  have RT2 := Lib.hid rt2
  clear hbe a3 rt2 A1
  dsimp only [errV]
  go_wp2_with fail
  refine (code_nil _).mono ?_
  rintro e w9 ⟨rfl, rfl⟩
  go_wp2_with fail
  refine (HCL.out _).mono ?_
  rintro e w10 ⟨rfl, rfl⟩
  obtain ⟨Vb, Vd, gl, cs, hmm⟩ := A3.out.hm
  have HGV := Lib.hid (hTrim_any hmm HOK.out 1024 HRT.out.few (by omega) o ho t HSS.out)
  clear hmm
  go_wp2_with fail
  refine HGV.out.mono ?_
  rintro e w11 ⟨rfl, ht⟩
  rw [HX.out] at ht ⊢
  obtain ⟨F4, a4⟩ := A3.out.turn ht
  have A4 := Lib.hid a4
  clear a4 ht HGV A3
  dsimp only [badV, Option.isSome]
  go_wp2
  go_ret
  exact did_of A4.out RT2.out (HDL.out.trimO HX.out) ((trimO_cap HX.out).trans HCAP.out)

set_option maxRecDepth 100000 in
set_option maxHeartbeats 2000000 in
theorem ldo_r5n (HK : UsedK) (a : Al wB W g base cap A c bs F p H) (rt : Rt bs H) (hcap : H.cap = cap) (hbase : base ≤ 4611686018427387904) (hc16 : cap ≤ 16384) (hd : H.Dl) (what n m : Int) (hn : -9223372036854775808 ≤ n ∧ n ≤ 9223372036854775807) (hk : (what % ((6 : Nat) : Int)).toNat = 5) (hx : usedB H.blks (oN H n true) = none) :
    Calls Tryz.prog 9 #[.pointer (some ⟨g, 0, none⟩), .pointer (some ⟨p, 0, none⟩), .agg #[.int .i64 what, .int .i64 n, .int .i64 m, .bool true]] W fun e w' => Did wB g base cap p e w' := by
  have hok := rt.ok (hcap ▸ hc16) hd
  have hn512 := hok.n
  have ho := oN_ok hok n true hn
  obtain ⟨w0, hw0⟩ : ∃ w0, W.alloc (.cells #[.int .i64 what, .int .i64 n, .int .i64 m, .bool true] 32) = w0 := ⟨_, rfl⟩
  have hb0 : Below W.heap.size W w0 := by rw [← hw0]; exact (Below.refl _ _).alloc (Nat.le_refl _) _
  obtain ⟨gd, hgd⟩ : ∃ gd, W.heap.size = gd := ⟨_, rfl⟩
  have hnd : w0.heap[gd]? = some (.cells #[.int .i64 what, .int .i64 n, .int .i64 m, .bool true] 32 (0, 0)) := by rw [← hw0, ← hgd]; exact heap_alloc_new W _
  have hgdlt := heap_lt hnd
  have a0 := a.below hb0
  obtain ⟨Vb, Vd, gl, cs, hmm⟩ := a0.hm
  have HPK := Lib.hid (fun w => lpick_any what 6 w (by omega) (by omega) _ hk)
  obtain ⟨o, hO⟩ : ∃ o, oN H n true = o := ⟨_, rfl⟩
  rw [hO] at ho
  have hO2 : o = n := hO.symm
  subst hO2
  rw [hO] at hx
  have r0 : w0.cell? ⟨gd, 0, none⟩ = some (.int .i64 what) := by rw [cell_of_row w0 gd 0 _ _ (0, 0) hnd]; rfl
  have r1 : w0.cell? ⟨gd, 1, none⟩ = some (.int .i64 o) := by rw [cell_of_row w0 gd 1 _ _ (0, 0) hnd]; rfl
  have r2 : w0.cell? ⟨gd, 2, none⟩ = some (.int .i64 m) := by rw [cell_of_row w0 gd 2 _ _ (0, 0) hnd]; rfl
  have r3 : w0.cell? ⟨gd, 3, none⟩ = some (.bool true) := by rw [cell_of_row w0 gd 3 _ _ (0, 0) hnd]; rfl
  have HA0 := Lib.hid a0
  have HRT := Lib.hid rt
  have HOK := Lib.hid hok
  have HDL := Lib.hid hd
  have HCAP := Lib.hid hcap
  have HW0 := Lib.hid hw0
  have HGD := Lib.hid hgd
  have HKK := Lib.hid HK
  have HX := Lib.hid hx
  clear hx
  clear a a0 hmm rt hok hd hcap hw0 hgd hnd hb0 hO hk HK
  go_enter Tryz.func9, Tryz.ntmps9
  go_wp2_with (first | (rw [HW0.out, HGD.out]) | fail)
  have A1 := Lib.hid HA0.out
  generalize w0 = w1 at *
  refine (HPK.out _).mono ?_
  rintro e w2 ⟨rfl, rfl⟩
  clear HPK HA0 HW0 HGD
  go_wp2_with fail
  refine (HKK.out w1 g base cap c A bs H o A1.out.st.ar hbase hc16 HCAP.out HRT.out ho).mono ?_
  intro e w3 hT
  rw [HX.out] at hT
  obtain ⟨rfl, hb⟩ := hT
  have a3 := A1.out.below hb
  clear hb A1
  dsimp only [errV, bkV, Option.map, Option.isSome]
  have hb4 : Below w3.heap.size w3 (w3.alloc (.cells #[.int .i64 0, .int .i64 0, .bool false] 53)) := (Below.refl _ _).alloc (Nat.le_refl _) _
  have a4 := a3.below hb4
  obtain ⟨Vb, Vd, gl, cs, hmm⟩ := a4.hm
  have HUS := Lib.hid (husd_any hmm (by omega) o ho _ HX.out)
  have A4 := Lib.hid a4
  clear hmm a4 hb4 a3
  go_wp2_with fail
  refine HUS.out.mono ?_
  rintro e w5 ⟨rfl, rfl⟩
  go_wp2_with fail
  refine (code_err _ 3 (by omega) (by omega)).mono ?_
  rintro e w9 ⟨rfl, rfl⟩
  dsimp only [ixV]
  go_wp2
  go_ret
  exact did_of A4.out HRT.out HDL.out HCAP.out

set_option maxRecDepth 100000 in
set_option maxHeartbeats 2000000 in
theorem ldo_r5s (HK : UsedK) (a : Al wB W g base cap A c bs F p H) (rt : Rt bs H) (hcap : H.cap = cap) (hbase : base ≤ 4611686018427387904) (hc16 : cap ≤ 16384) (hd : H.Dl) (what n m : Int) (hn : -9223372036854775808 ≤ n ∧ n ≤ 9223372036854775807) (hk : (what % ((6 : Nat) : Int)).toNat = 5) (i : Nat) (hx : usedB H.blks (oN H n true) = some i) :
    Calls Tryz.prog 9 #[.pointer (some ⟨g, 0, none⟩), .pointer (some ⟨p, 0, none⟩), .agg #[.int .i64 what, .int .i64 n, .int .i64 m, .bool true]] W fun e w' => Did wB g base cap p e w' := by
  have hok := rt.ok (hcap ▸ hc16) hd
  have hn512 := hok.n
  have ho := oN_ok hok n true hn
  obtain ⟨w0, hw0⟩ : ∃ w0, W.alloc (.cells #[.int .i64 what, .int .i64 n, .int .i64 m, .bool true] 32) = w0 := ⟨_, rfl⟩
  have hb0 : Below W.heap.size W w0 := by rw [← hw0]; exact (Below.refl _ _).alloc (Nat.le_refl _) _
  obtain ⟨gd, hgd⟩ : ∃ gd, W.heap.size = gd := ⟨_, rfl⟩
  have hnd : w0.heap[gd]? = some (.cells #[.int .i64 what, .int .i64 n, .int .i64 m, .bool true] 32 (0, 0)) := by rw [← hw0, ← hgd]; exact heap_alloc_new W _
  have hgdlt := heap_lt hnd
  have a0 := a.below hb0
  obtain ⟨Vb, Vd, gl, cs, hmm⟩ := a0.hm
  have HPK := Lib.hid (fun w => lpick_any what 6 w (by omega) (by omega) _ hk)
  obtain ⟨o, hO⟩ : ∃ o, oN H n true = o := ⟨_, rfl⟩
  rw [hO] at ho
  have hO2 : o = n := hO.symm
  subst hO2
  rw [hO] at hx
  have r0 : w0.cell? ⟨gd, 0, none⟩ = some (.int .i64 what) := by rw [cell_of_row w0 gd 0 _ _ (0, 0) hnd]; rfl
  have r1 : w0.cell? ⟨gd, 1, none⟩ = some (.int .i64 o) := by rw [cell_of_row w0 gd 1 _ _ (0, 0) hnd]; rfl
  have r2 : w0.cell? ⟨gd, 2, none⟩ = some (.int .i64 m) := by rw [cell_of_row w0 gd 2 _ _ (0, 0) hnd]; rfl
  have r3 : w0.cell? ⟨gd, 3, none⟩ = some (.bool true) := by rw [cell_of_row w0 gd 3 _ _ (0, 0) hnd]; rfl
  have HA0 := Lib.hid a0
  have HRT := Lib.hid rt
  have HOK := Lib.hid hok
  have HDL := Lib.hid hd
  have HCAP := Lib.hid hcap
  have HW0 := Lib.hid hw0
  have HGD := Lib.hid hgd
  have HKK := Lib.hid HK
  have HX := Lib.hid hx
  clear hx
  clear a a0 hmm rt hok hd hcap hw0 hgd hnd hb0 hO hk HK
  go_enter Tryz.func9, Tryz.ntmps9
  go_wp2_with (first | (rw [HW0.out, HGD.out]) | fail)
  have A1 := Lib.hid HA0.out
  generalize w0 = w1 at *
  refine (HPK.out _).mono ?_
  rintro e w2 ⟨rfl, rfl⟩
  clear HPK HA0 HW0 HGD
  go_wp2_with fail
  refine (HKK.out w1 g base cap c A bs H o A1.out.st.ar hbase hc16 HCAP.out HRT.out ho).mono ?_
  intro e w3 hT
  rw [HX.out] at hT
  obtain ⟨rfl, hb⟩ := hT
  have a3 := A1.out.below hb
  clear hb A1
  dsimp only [errV, bkV, Option.map, Option.isSome, Bk.val]
  obtain ⟨hib, _⟩ := usedB_at HX.out
  obtain ⟨xo, hxo⟩ : ∃ xo, (bkAt H.blks i).off = xo := ⟨_, rfl⟩
  obtain ⟨xs, hxs⟩ : ∃ xs, (bkAt H.blks i).size = xs := ⟨_, rfl⟩
  obtain ⟨xu, hxu⟩ : ∃ xu, (bkAt H.blks i).used = xu := ⟨_, rfl⟩
  rw [hxo, hxs, hxu]
  obtain ⟨w4, hw4⟩ : ∃ w4, w3.alloc (.cells #[.int .i64 (xo : Int), .int .i64 (xs : Int), .bool xu] 53) = w4 := ⟨_, rfl⟩
  have hb4 : Below w3.heap.size w3 w4 := by rw [← hw4]; exact (Below.refl _ _).alloc (Nat.le_refl _) _
  obtain ⟨gx, hgx⟩ : ∃ gx, w3.heap.size = gx := ⟨_, rfl⟩
  have hnx : w4.heap[gx]? = some (.cells #[.int .i64 (xo : Int), .int .i64 (xs : Int), .bool xu] 53 (0, 0)) := by rw [← hw4, ← hgx]; exact heap_alloc_new w3 _
  have a4 := a3.below hb4
  obtain ⟨Vb, Vd, gl, cs, hmm⟩ := a4.hm
  obtain ⟨b1, c1, rfl, _, hnc, _⟩ := own_nn hmm.ob (by omega)
  have q1 := hmm.c1
  obtain ⟨d0, d1, d2⟩ := hmm.at_n rfl hib
  rw [hxo] at d0
  rw [hxs] at d1
  rw [hxu] at d2
  obtain ⟨x0, x1, x2⟩ := (blk_cells hnx).1
  have HUS := Lib.hid (husd_any hmm (by omega) o ho _ HX.out)
  obtain ⟨nn, hnn⟩ : ∃ nn, H.blks.length = nn := ⟨_, rfl⟩
  rw [hnn] at q1 hib hnc hn512
  have hii : (i : Int) < (nn : Int) := by omega
  have hi512 : i < 512 := by omega
  have A4 := Lib.hid a4
  have HW4 := Lib.hid hw4
  have HGX := Lib.hid hgx
  clear hmm a4 hb4 hw4 a3 hgx hnx hxo hxs hxu hnn
  go_wp2_with (first | (rw [HW4.out, HGX.out]) | fail)
  refine HUS.out.mono ?_
  rintro e w5 ⟨rfl, rfl⟩
  dsimp only [ixV]
  go_wp2_with fail
  refine (code_nil _).mono ?_
  rintro e w9 ⟨rfl, rfl⟩
  go_wp2_with fail
  go_quiet (fail)
  have A5 := Lib.hid (A4.out.below ⟨rfl, rfl, rfl, Nat.le_refl _, fun _ _ => rfl⟩ : Al wB (w4.drewN nq) g base cap A c bs F p H)
  clear A4 d0 d1 d2 x0 x1 x2 q1
  generalize w4.drewN nq = w6 at A5 ⊢
  go_wp2
  go_ret
  exact did_of A5.out HRT.out HDL.out HCAP.out

set_option maxRecDepth 100000 in
set_option maxHeartbeats 2000000 in
theorem ldo_r0a (HK : TakeK) (a : Al wB W g base cap A c bs F p H) (rt : Rt bs H) (hcap : H.cap = cap) (hbase : base ≤ 4611686018427387904) (hc16 : cap ≤ 16384) (hd : H.Dl) (what n m : Int) (hn : -9223372036854775808 ≤ n ∧ n ≤ 9223372036854775807) (k6 : Nat) (hk : (what % ((6 : Nat) : Int)).toNat = k6) (h3 : k6 ≠ 3) (h4 : k6 ≠ 4) (h5 : k6 ≠ 5) (hs : isSz (sizeN n true) = false) :
    Calls Tryz.prog 9 #[.pointer (some ⟨g, 0, none⟩), .pointer (some ⟨p, 0, none⟩), .agg #[.int .i64 what, .int .i64 n, .int .i64 m, .bool true]] W fun e w' => Did wB g base cap p e w' := by
  have hok := rt.ok (hcap ▸ hc16) hd
  have hn512 := hok.n
  have ho := oN_ok hok n true hn
  obtain ⟨w0, hw0⟩ : ∃ w0, W.alloc (.cells #[.int .i64 what, .int .i64 n, .int .i64 m, .bool true] 32) = w0 := ⟨_, rfl⟩
  have hb0 : Below W.heap.size W w0 := by rw [← hw0]; exact (Below.refl _ _).alloc (Nat.le_refl _) _
  obtain ⟨gd, hgd⟩ : ∃ gd, W.heap.size = gd := ⟨_, rfl⟩
  have hnd : w0.heap[gd]? = some (.cells #[.int .i64 what, .int .i64 n, .int .i64 m, .bool true] 32 (0, 0)) := by rw [← hw0, ← hgd]; exact heap_alloc_new W _
  have hgdlt := heap_lt hnd
  have a0 := a.below hb0
  obtain ⟨Vb, Vd, gl, cs, hmm⟩ := a0.hm
  have HPK := Lib.hid (fun w => lpick_any what 6 w (by omega) (by omega) _ hk)
  have hsb := sizeN_ok n true hn
  have HSZ := Lib.hid (fun w => lsize_any w n hn true)
  obtain ⟨o, hO⟩ : ∃ o, oN H n true = o := ⟨_, rfl⟩
  rw [hO] at ho
  have hO2 : o = n := hO.symm
  subst hO2
  obtain ⟨s, hS⟩ : ∃ s, sizeN o true = s := ⟨_, rfl⟩
  rw [hS] at hsb hs HSZ
  obtain ⟨cl, hcl⟩ : ∃ cl, classI s = cl := ⟨_, rfl⟩
  have hcn : cl < 0 := by rw [← hcl]; exact (classI_neg s).2 hs
  have hcb := classI_bounds s
  rw [hcl] at hcb
  have HCL := Lib.hid (fun w => rclass_any w s hsb cl hcl)
  have e3 : ((k6 : Int) == 3) = false := by rw [beq_eq_false_iff_ne]; omega
  have e4 : ((k6 : Int) == 4) = false := by rw [beq_eq_false_iff_ne]; omega
  have e5 : ((k6 : Int) == 5) = false := by rw [beq_eq_false_iff_ne]; omega
  have hk6 : k6 < 6 := by
    rw [← hk]
    have h1 := Int.emod_nonneg what (b := ((6 : Nat) : Int)) (by omega)
    have h2 := Int.emod_lt_of_pos what (b := ((6 : Nat) : Int)) (by omega)
    omega
  have r0 : w0.cell? ⟨gd, 0, none⟩ = some (.int .i64 what) := by rw [cell_of_row w0 gd 0 _ _ (0, 0) hnd]; rfl
  have r1 : w0.cell? ⟨gd, 1, none⟩ = some (.int .i64 o) := by rw [cell_of_row w0 gd 1 _ _ (0, 0) hnd]; rfl
  have r2 : w0.cell? ⟨gd, 2, none⟩ = some (.int .i64 m) := by rw [cell_of_row w0 gd 2 _ _ (0, 0) hnd]; rfl
  have r3 : w0.cell? ⟨gd, 3, none⟩ = some (.bool true) := by rw [cell_of_row w0 gd 3 _ _ (0, 0) hnd]; rfl
  have HA0 := Lib.hid a0
  have HRT := Lib.hid rt
  have HOK := Lib.hid hok
  have HDL := Lib.hid hd
  have HCAP := Lib.hid hcap
  have HW0 := Lib.hid hw0
  have HGD := Lib.hid hgd
  have HKK := Lib.hid HK
  clear a a0 hmm rt hok hd hcap hw0 hgd hnd hb0 hO hk HK
  have HSA := Lib.hid hs
  clear hS hs
  go_enter Tryz.func9, Tryz.ntmps9
  go_wp2_with (first | (rw [HW0.out, HGD.out]) | fail)
  have A1 := Lib.hid HA0.out
  generalize w0 = w1 at *
  refine (HPK.out _).mono ?_
  rintro e w2 ⟨rfl, rfl⟩
  clear HPK HA0 HW0 HGD
  go_wp2_with fail
  refine (HSZ.out _).mono ?_
  rintro e w3 ⟨rfl, rfl⟩
  go_wp2_with fail
  refine ((HKK.out w1 g base cap c A bs H s A1.out.st.ar hbase hc16 HCAP.out HRT.out hsb).1 HSA.out).mono ?_
  rintro e w4 ⟨rfl, hb⟩
  have A3 := Lib.hid (A1.out.below hb)
  clear hb A1
  dsimp only [errV]
  go_wp2_with fail
  refine (code_err _ 1 (by omega) (by omega)).mono ?_
  rintro e w9 ⟨rfl, rfl⟩
  go_wp2_with fail
  refine (HCL.out _).mono ?_
  rintro e w10 ⟨rfl, rfl⟩
  go_wp2
  go_ret
  exact did_of A3.out HRT.out HDL.out HCAP.out

set_option maxRecDepth 100000 in
set_option maxHeartbeats 2000000 in
theorem ldo_r0n (HK : TakeK) (a : Al wB W g base cap A c bs F p H) (rt : Rt bs H) (hcap : H.cap = cap) (hbase : base ≤ 4611686018427387904) (hc16 : cap ≤ 16384) (hd : H.Dl) (what n m : Int) (hn : -9223372036854775808 ≤ n ∧ n ≤ 9223372036854775807) (k6 : Nat) (hk : (what % ((6 : Nat) : Int)).toNat = k6) (h3 : k6 ≠ 3) (h4 : k6 ≠ 4) (h5 : k6 ≠ 5) (hs : isSz (sizeN n true) = true) (hx : (H.take (sizeN n true).toNat).1 = none) :
    Calls Tryz.prog 9 #[.pointer (some ⟨g, 0, none⟩), .pointer (some ⟨p, 0, none⟩), .agg #[.int .i64 what, .int .i64 n, .int .i64 m, .bool true]] W fun e w' => Did wB g base cap p e w' := by
  have hok := rt.ok (hcap ▸ hc16) hd
  have hn512 := hok.n
  have ho := oN_ok hok n true hn
  obtain ⟨w0, hw0⟩ : ∃ w0, W.alloc (.cells #[.int .i64 what, .int .i64 n, .int .i64 m, .bool true] 32) = w0 := ⟨_, rfl⟩
  have hb0 : Below W.heap.size W w0 := by rw [← hw0]; exact (Below.refl _ _).alloc (Nat.le_refl _) _
  obtain ⟨gd, hgd⟩ : ∃ gd, W.heap.size = gd := ⟨_, rfl⟩
  have hnd : w0.heap[gd]? = some (.cells #[.int .i64 what, .int .i64 n, .int .i64 m, .bool true] 32 (0, 0)) := by rw [← hw0, ← hgd]; exact heap_alloc_new W _
  have hgdlt := heap_lt hnd
  have a0 := a.below hb0
  obtain ⟨Vb, Vd, gl, cs, hmm⟩ := a0.hm
  have HPK := Lib.hid (fun w => lpick_any what 6 w (by omega) (by omega) _ hk)
  have hsb := sizeN_ok n true hn
  have HSZ := Lib.hid (fun w => lsize_any w n hn true)
  obtain ⟨o, hO⟩ : ∃ o, oN H n true = o := ⟨_, rfl⟩
  rw [hO] at ho
  have hO2 : o = n := hO.symm
  subst hO2
  obtain ⟨s, hS⟩ : ∃ s, sizeN o true = s := ⟨_, rfl⟩
  rw [hS] at hsb hs HSZ hx
  have hsn := is_nat hs
  obtain ⟨t, ht⟩ : ∃ t, s.toNat = t := ⟨_, rfl⟩
  rw [ht] at hsn hx
  subst hsn
  obtain ⟨cl, hcl, hcl22⟩ : ∃ c : Nat, classI (t : Int) = (c : Int) ∧ c < 22 := class_nat (x := ⟨0, t, false⟩) hs
  have hcn : 0 ≤ (cl : Int) := by omega
  have HCL := Lib.hid (fun w => rclass_any w (t : Int) hsb (cl : Int) hcl)
  have HSS := Lib.hid hs
  have e3 : ((k6 : Int) == 3) = false := by rw [beq_eq_false_iff_ne]; omega
  have e4 : ((k6 : Int) == 4) = false := by rw [beq_eq_false_iff_ne]; omega
  have e5 : ((k6 : Int) == 5) = false := by rw [beq_eq_false_iff_ne]; omega
  have hk6 : k6 < 6 := by
    rw [← hk]
    have h1 := Int.emod_nonneg what (b := ((6 : Nat) : Int)) (by omega)
    have h2 := Int.emod_lt_of_pos what (b := ((6 : Nat) : Int)) (by omega)
    omega
  have r0 : w0.cell? ⟨gd, 0, none⟩ = some (.int .i64 what) := by rw [cell_of_row w0 gd 0 _ _ (0, 0) hnd]; rfl
  have r1 : w0.cell? ⟨gd, 1, none⟩ = some (.int .i64 o) := by rw [cell_of_row w0 gd 1 _ _ (0, 0) hnd]; rfl
  have r2 : w0.cell? ⟨gd, 2, none⟩ = some (.int .i64 m) := by rw [cell_of_row w0 gd 2 _ _ (0, 0) hnd]; rfl
  have r3 : w0.cell? ⟨gd, 3, none⟩ = some (.bool true) := by rw [cell_of_row w0 gd 3 _ _ (0, 0) hnd]; rfl
  have HA0 := Lib.hid a0
  have HRT := Lib.hid rt
  have HOK := Lib.hid hok
  have HDL := Lib.hid hd
  have HCAP := Lib.hid hcap
  have HW0 := Lib.hid hw0
  have HGD := Lib.hid hgd
  have HKK := Lib.hid HK
  have HX := Lib.hid hx
  clear hx
  clear a a0 hmm rt hok hd hcap hw0 hgd hnd hb0 hO hk HK
  clear hS hs ht
  go_enter Tryz.func9, Tryz.ntmps9
  go_wp2_with (first | (rw [HW0.out, HGD.out]) | fail)
  have A1 := Lib.hid HA0.out
  generalize w0 = w1 at *
  refine (HPK.out _).mono ?_
  rintro e w2 ⟨rfl, rfl⟩
  clear HPK HA0 HW0 HGD
  go_wp2_with fail
  refine (HSZ.out _).mono ?_
  rintro e w3 ⟨rfl, rfl⟩
  go_wp2_with fail
  refine ((HKK.out w1 g base cap c A bs H (t : Int) A1.out.st.ar hbase hc16 HCAP.out HRT.out hsb).2 HSS.out).mono ?_
  intro e w4 hT
  rw [Int.toNat_natCast] at hT
  unfold TurnedAt at hT
  rw [HX.out] at hT
  obtain ⟨rfl, hb⟩ := hT
  have A3 := Lib.hid (A1.out.below hb)
  clear hb A1
  dsimp only [errV]
  go_wp2_with fail
  refine (code_err _ 5 (by omega) (by omega)).mono ?_
  rintro e w9 ⟨rfl, rfl⟩
  go_wp2_with fail
  refine (HCL.out _).mono ?_
  rintro e w10 ⟨rfl, rfl⟩
  obtain ⟨Vb, Vd, gl, cs, hmm⟩ := A3.out.hm
  have HGV := Lib.hid (hTake_any hmm HOK.out 1024 HRT.out.few (by omega) HRT.out.listed t HSS.out (by rw [HCAP.out]; omega))
  clear hmm
  go_wp2_with fail
  refine HGV.out.mono ?_
  rintro e w11 ⟨rfl, ht⟩
  obtain ⟨F4, a4⟩ := A3.out.turn ht
  rw [HX.out]
  have A4 := Lib.hid a4
  clear a4 ht HGV A3
  dsimp only [badT, Option.isSome, Option.getD]
  have hsame := take_none_same HX.out
  have HSM := Lib.hid hsame
  clear hsame
  go_wp2
  go_ret
  exact did_of (HSM.out ▸ A4.out) HRT.out HDL.out HCAP.out

set_option maxRecDepth 100000 in
set_option maxHeartbeats 2000000 in
theorem ldo_r0s (HK : TakeK) (a : Al wB W g base cap A c bs F p H) (rt : Rt bs H) (hcap : H.cap = cap) (hbase : base ≤ 4611686018427387904) (hc16 : cap ≤ 16384) (hd : H.Dl) (what n m : Int) (hn : -9223372036854775808 ≤ n ∧ n ≤ 9223372036854775807) (k6 : Nat) (hk : (what % ((6 : Nat) : Int)).toNat = k6) (h3 : k6 ≠ 3) (h4 : k6 ≠ 4) (h5 : k6 ≠ 5) (hs : isSz (sizeN n true) = true) (o2 : Nat) (hx : (H.take (sizeN n true).toNat).1 = some o2) :
    Calls Tryz.prog 9 #[.pointer (some ⟨g, 0, none⟩), .pointer (some ⟨p, 0, none⟩), .agg #[.int .i64 what, .int .i64 n, .int .i64 m, .bool true]] W fun e w' => Did wB g base cap p e w' := by
  have hok := rt.ok (hcap ▸ hc16) hd
  have hn512 := hok.n
  have ho := oN_ok hok n true hn
  obtain ⟨w0, hw0⟩ : ∃ w0, W.alloc (.cells #[.int .i64 what, .int .i64 n, .int .i64 m, .bool true] 32) = w0 := ⟨_, rfl⟩
  have hb0 : Below W.heap.size W w0 := by rw [← hw0]; exact (Below.refl _ _).alloc (Nat.le_refl _) _
  obtain ⟨gd, hgd⟩ : ∃ gd, W.heap.size = gd := ⟨_, rfl⟩
  have hnd : w0.heap[gd]? = some (.cells #[.int .i64 what, .int .i64 n, .int .i64 m, .bool true] 32 (0, 0)) := by rw [← hw0, ← hgd]; exact heap_alloc_new W _
  have hgdlt := heap_lt hnd
  have a0 := a.below hb0
  obtain ⟨Vb, Vd, gl, cs, hmm⟩ := a0.hm
  have HPK := Lib.hid (fun w => lpick_any what 6 w (by omega) (by omega) _ hk)
  have hsb := sizeN_ok n true hn
  have HSZ := Lib.hid (fun w => lsize_any w n hn true)
  obtain ⟨o, hO⟩ : ∃ o, oN H n true = o := ⟨_, rfl⟩
  rw [hO] at ho
  have hO2 : o = n := hO.symm
  subst hO2
  obtain ⟨s, hS⟩ : ∃ s, sizeN o true = s := ⟨_, rfl⟩
  rw [hS] at hsb hs HSZ hx
  have hsn := is_nat hs
  obtain ⟨t, ht⟩ : ∃ t, s.toNat = t := ⟨_, rfl⟩
  rw [ht] at hsn hx
  subst hsn
  obtain ⟨cl, hcl, hcl22⟩ : ∃ c : Nat, classI (t : Int) = (c : Int) ∧ c < 22 := class_nat (x := ⟨0, t, false⟩) hs
  have hcn : 0 ≤ (cl : Int) := by omega
  have HCL := Lib.hid (fun w => rclass_any w (t : Int) hsb (cl : Int) hcl)
  have HSS := Lib.hid hs
  have e3 : ((k6 : Int) == 3) = false := by rw [beq_eq_false_iff_ne]; omega
  have e4 : ((k6 : Int) == 4) = false := by rw [beq_eq_false_iff_ne]; omega
  have e5 : ((k6 : Int) == 5) = false := by rw [beq_eq_false_iff_ne]; omega
  have hk6 : k6 < 6 := by
    rw [← hk]
    have h1 := Int.emod_nonneg what (b := ((6 : Nat) : Int)) (by omega)
    have h2 := Int.emod_lt_of_pos what (b := ((6 : Nat) : Int)) (by omega)
    omega
  have r0 : w0.cell? ⟨gd, 0, none⟩ = some (.int .i64 what) := by rw [cell_of_row w0 gd 0 _ _ (0, 0) hnd]; rfl
  have r1 : w0.cell? ⟨gd, 1, none⟩ = some (.int .i64 o) := by rw [cell_of_row w0 gd 1 _ _ (0, 0) hnd]; rfl
  have r2 : w0.cell? ⟨gd, 2, none⟩ = some (.int .i64 m) := by rw [cell_of_row w0 gd 2 _ _ (0, 0) hnd]; rfl
  have r3 : w0.cell? ⟨gd, 3, none⟩ = some (.bool true) := by rw [cell_of_row w0 gd 3 _ _ (0, 0) hnd]; rfl
  have HA0 := Lib.hid a0
  have HRT := Lib.hid rt
  have HOK := Lib.hid hok
  have HDL := Lib.hid hd
  have HCAP := Lib.hid hcap
  have HW0 := Lib.hid hw0
  have HGD := Lib.hid hgd
  have HKK := Lib.hid HK
  have HX := Lib.hid hx
  clear hx
  clear a a0 hmm rt hok hd hcap hw0 hgd hnd hb0 hO hk HK
  clear hS hs ht
  go_enter Tryz.func9, Tryz.ntmps9
  go_wp2_with (first | (rw [HW0.out, HGD.out]) | fail)
  have A1 := Lib.hid HA0.out
  generalize w0 = w1 at *
  refine (HPK.out _).mono ?_
  rintro e w2 ⟨rfl, rfl⟩
  clear HPK HA0 HW0 HGD
  go_wp2_with fail
  refine (HSZ.out _).mono ?_
  rintro e w3 ⟨rfl, rfl⟩
  go_wp2_with fail
  refine ((HKK.out w1 g base cap c A bs H (t : Int) A1.out.st.ar hbase hc16 HCAP.out HRT.out hsb).2 HSS.out).mono ?_
  intro e w4 hT
  rw [Int.toNat_natCast] at hT
  unfold TurnedAt at hT
  rw [HX.out] at hT
  obtain ⟨rfl, out, hbe, rt2, _⟩ := hT
  obtain ⟨A3', c3, a3⟩ := A1.out.became hbe
  have A3 := Lib.hid a3
  have RT2 := Lib.hid rt2
  clear hbe a3 rt2 A1
  dsimp only [errV]
  go_wp2_with fail
  refine (code_nil _).mono ?_
  rintro e w9 ⟨rfl, rfl⟩
  go_wp2_with fail
  refine (HCL.out _).mono ?_
  rintro e w10 ⟨rfl, rfl⟩
  obtain ⟨Vb, Vd, gl, cs, hmm⟩ := A3.out.hm
  have HGV := Lib.hid (hTake_any hmm HOK.out 1024 HRT.out.few (by omega) HRT.out.listed t HSS.out (by rw [HCAP.out]; omega))
  clear hmm
  go_wp2_with fail
  refine HGV.out.mono ?_
  rintro e w11 ⟨rfl, ht⟩
  obtain ⟨F4, a4⟩ := A3.out.turn ht
  rw [HX.out]
  have A4 := Lib.hid a4
  clear a4 ht HGV A3
  dsimp only [badT, Option.isSome, Option.getD]
  go_wp2
  go_ret
  exact did_of A4.out RT2.out HDL.out.take (take_cap.trans HCAP.out)

set_option maxRecDepth 100000 in
set_option maxHeartbeats 2000000 in
theorem ldo_u3n (HK : GiveK) (a : Al wB W g base cap A c bs F p H) (rt : Rt bs H) (hcap : H.cap = cap) (hbase : base ≤ 4611686018427387904) (hc16 : cap ≤ 16384) (hd : H.Dl) (what n m : Int) (hn : -9223372036854775808 ≤ n ∧ n ≤ 9223372036854775807) (hk : (what % ((6 : Nat) : Int)).toNat = 3) (hx : H.giveO (oN H n false) = none) :
    Calls Tryz.prog 9 #[.pointer (some ⟨g, 0, none⟩), .pointer (some ⟨p, 0, none⟩), .agg #[.int .i64 what, .int .i64 n, .int .i64 m, .bool false]] W fun e w' => Did wB g base cap p e w' := by
  have hok := rt.ok (hcap ▸ hc16) hd
  have hn512 := hok.n
  have ho := oN_ok hok n false hn
  obtain ⟨w0, hw0⟩ : ∃ w0, W.alloc (.cells #[.int .i64 what, .int .i64 n, .int .i64 m, .bool false] 32) = w0 := ⟨_, rfl⟩
  have hb0 : Below W.heap.size W w0 := by rw [← hw0]; exact (Below.refl _ _).alloc (Nat.le_refl _) _
  obtain ⟨gd, hgd⟩ : ∃ gd, W.heap.size = gd := ⟨_, rfl⟩
  have hnd : w0.heap[gd]? = some (.cells #[.int .i64 what, .int .i64 n, .int .i64 m, .bool false] 32 (0, 0)) := by rw [← hw0, ← hgd]; exact heap_alloc_new W _
  have hgdlt := heap_lt hnd
  have a0 := a.below hb0
  obtain ⟨Vb, Vd, gl, cs, hmm⟩ := a0.hm
  have HUD := Lib.hid (lused_any hmm (by omega) n)
  have HPK := Lib.hid (fun w => lpick_any what 6 w (by omega) (by omega) _ hk)
  obtain ⟨o, hO⟩ : ∃ o, oN H n false = o := ⟨_, rfl⟩
  rw [hO] at ho
  have hO2 : ((usedN H.blks n : Nat) : Int) = o := hO
  rw [hO2] at HUD
  rw [hO] at hx
  have r0 : w0.cell? ⟨gd, 0, none⟩ = some (.int .i64 what) := by rw [cell_of_row w0 gd 0 _ _ (0, 0) hnd]; rfl
  have r1 : w0.cell? ⟨gd, 1, none⟩ = some (.int .i64 n) := by rw [cell_of_row w0 gd 1 _ _ (0, 0) hnd]; rfl
  have r2 : w0.cell? ⟨gd, 2, none⟩ = some (.int .i64 m) := by rw [cell_of_row w0 gd 2 _ _ (0, 0) hnd]; rfl
  have r3 : w0.cell? ⟨gd, 3, none⟩ = some (.bool false) := by rw [cell_of_row w0 gd 3 _ _ (0, 0) hnd]; rfl
  have HA0 := Lib.hid a0
  have HRT := Lib.hid rt
  have HOK := Lib.hid hok
  have HDL := Lib.hid hd
  have HCAP := Lib.hid hcap
  have HW0 := Lib.hid hw0
  have HGD := Lib.hid hgd
  have HKK := Lib.hid HK
  have HX := Lib.hid hx
  clear hx
  clear a a0 hmm rt hok hd hcap hw0 hgd hnd hb0 hO hO2 hk HK
  go_enter Tryz.func9, Tryz.ntmps9
  go_wp2_with (first | (rw [HW0.out, HGD.out]) | fail)
  refine HUD.out.mono ?_
  rintro e w1 ⟨rfl, hb⟩
  have A1 := Lib.hid (HA0.out.below hb)
  have r0' := (hb.cell (p := ⟨gd, 0, none⟩) hgdlt).trans r0
  have r1' := (hb.cell (p := ⟨gd, 1, none⟩) hgdlt).trans r1
  have r2' := (hb.cell (p := ⟨gd, 2, none⟩) hgdlt).trans r2
  have r3' := (hb.cell (p := ⟨gd, 3, none⟩) hgdlt).trans r3
  clear hb r0 r1 r2 r3 HUD
  go_wp2_with fail
  refine (HPK.out _).mono ?_
  rintro e w2 ⟨rfl, rfl⟩
  clear HPK HA0 HW0 HGD
  go_wp2_with fail
  refine (HKK.out w1 g base cap c A bs H o A1.out.st.ar hbase hc16 HCAP.out HRT.out ho).mono ?_
  intro e w3 hT
  rw [HX.out] at hT
  obtain ⟨rfl, hb⟩ := hT
  have A3 := Lib.hid (A1.out.below hb)
  clear hb A1
  dsimp only [errV]
  go_wp2_with fail
  refine (code_err _ 3 (by omega) (by omega)).mono ?_
  rintro e w9 ⟨rfl, rfl⟩
  obtain ⟨Vb, Vd, gl, cs, hmm⟩ := A3.out.hm
  have HGV := Lib.hid (hGive_any hmm HOK.out 1024 HRT.out.few (by omega) o ho)
  clear hmm
  go_wp2_with fail
  refine HGV.out.mono ?_
  rintro e w10 ⟨rfl, ht⟩
  rw [HX.out] at ht ⊢
  obtain ⟨F4, a4⟩ := A3.out.turn ht
  have A4 := Lib.hid a4
  clear a4 ht HGV A3
  dsimp only [badV, Option.isSome]
  go_wp2
  go_ret
  exact did_of A4.out HRT.out HDL.out HCAP.out

set_option maxRecDepth 100000 in
set_option maxHeartbeats 2000000 in
theorem ldo_u3s (HK : GiveK) (a : Al wB W g base cap A c bs F p H) (rt : Rt bs H) (hcap : H.cap = cap) (hbase : base ≤ 4611686018427387904) (hc16 : cap ≤ 16384) (hd : H.Dl) (what n m : Int) (hn : -9223372036854775808 ≤ n ∧ n ≤ 9223372036854775807) (hk : (what % ((6 : Nat) : Int)).toNat = 3) (H2 : Hp) (hx : H.giveO (oN H n false) = some H2) :
    Calls Tryz.prog 9 #[.pointer (some ⟨g, 0, none⟩), .pointer (some ⟨p, 0, none⟩), .agg #[.int .i64 what, .int .i64 n, .int .i64 m, .bool false]] W fun e w' => Did wB g base cap p e w' := by
  have hok := rt.ok (hcap ▸ hc16) hd
  have hn512 := hok.n
  have ho := oN_ok hok n false hn
  obtain ⟨w0, hw0⟩ : ∃ w0, W.alloc (.cells #[.int .i64 what, .int .i64 n, .int .i64 m, .bool false] 32) = w0 := ⟨_, rfl⟩
  have hb0 : Below W.heap.size W w0 := by rw [← hw0]; exact (Below.refl _ _).alloc (Nat.le_refl _) _
  obtain ⟨gd, hgd⟩ : ∃ gd, W.heap.size = gd := ⟨_, rfl⟩
  have hnd : w0.heap[gd]? = some (.cells #[.int .i64 what, .int .i64 n, .int .i64 m, .bool false] 32 (0, 0)) := by rw [← hw0, ← hgd]; exact heap_alloc_new W _
  have hgdlt := heap_lt hnd
  have a0 := a.below hb0
  obtain ⟨Vb, Vd, gl, cs, hmm⟩ := a0.hm
  have HUD := Lib.hid (lused_any hmm (by omega) n)
  have HPK := Lib.hid (fun w => lpick_any what 6 w (by omega) (by omega) _ hk)
  obtain ⟨o, hO⟩ : ∃ o, oN H n false = o := ⟨_, rfl⟩
  rw [hO] at ho
  have hO2 : ((usedN H.blks n : Nat) : Int) = o := hO
  rw [hO2] at HUD
  rw [hO] at hx
  have r0 : w0.cell? ⟨gd, 0, none⟩ = some (.int .i64 what) := by rw [cell_of_row w0 gd 0 _ _ (0, 0) hnd]; rfl
  have r1 : w0.cell? ⟨gd, 1, none⟩ = some (.int .i64 n) := by rw [cell_of_row w0 gd 1 _ _ (0, 0) hnd]; rfl
  have r2 : w0.cell? ⟨gd, 2, none⟩ = some (.int .i64 m) := by rw [cell_of_row w0 gd 2 _ _ (0, 0) hnd]; rfl
  have r3 : w0.cell? ⟨gd, 3, none⟩ = some (.bool false) := by rw [cell_of_row w0 gd 3 _ _ (0, 0) hnd]; rfl
  have HA0 := Lib.hid a0
  have HRT := Lib.hid rt
  have HOK := Lib.hid hok
  have HDL := Lib.hid hd
  have HCAP := Lib.hid hcap
  have HW0 := Lib.hid hw0
  have HGD := Lib.hid hgd
  have HKK := Lib.hid HK
  have HX := Lib.hid hx
  clear hx
  clear a a0 hmm rt hok hd hcap hw0 hgd hnd hb0 hO hO2 hk HK
  go_enter Tryz.func9, Tryz.ntmps9
  go_wp2_with (first | (rw [HW0.out, HGD.out]) | fail)
  refine HUD.out.mono ?_
  rintro e w1 ⟨rfl, hb⟩
  have A1 := Lib.hid (HA0.out.below hb)
  have r0' := (hb.cell (p := ⟨gd, 0, none⟩) hgdlt).trans r0
  have r1' := (hb.cell (p := ⟨gd, 1, none⟩) hgdlt).trans r1
  have r2' := (hb.cell (p := ⟨gd, 2, none⟩) hgdlt).trans r2
  have r3' := (hb.cell (p := ⟨gd, 3, none⟩) hgdlt).trans r3
  clear hb r0 r1 r2 r3 HUD
  go_wp2_with fail
  refine (HPK.out _).mono ?_
  rintro e w2 ⟨rfl, rfl⟩
  clear HPK HA0 HW0 HGD
  go_wp2_with fail
  refine (HKK.out w1 g base cap c A bs H o A1.out.st.ar hbase hc16 HCAP.out HRT.out ho).mono ?_
  intro e w3 hT
  rw [HX.out] at hT
  obtain ⟨rfl, out, hbe, rt2, _⟩ := hT
  obtain ⟨A3', c3, a3⟩ := A1.out.became hbe
  have A3 := Lib.hid a3
  have RT2 := Lib.hid rt2
  clear hbe a3 rt2 A1
  dsimp only [errV]
  go_wp2_with fail
  refine (code_nil _).mono ?_
  rintro e w9 ⟨rfl, rfl⟩
  obtain ⟨Vb, Vd, gl, cs, hmm⟩ := A3.out.hm
  have HGV := Lib.hid (hGive_any hmm HOK.out 1024 HRT.out.few (by omega) o ho)
  clear hmm
  go_wp2_with fail
  refine HGV.out.mono ?_
  rintro e w10 ⟨rfl, ht⟩
  rw [HX.out] at ht ⊢
  obtain ⟨F4, a4⟩ := A3.out.turn ht
  have A4 := Lib.hid a4
  clear a4 ht HGV A3
  dsimp only [badV, Option.isSome]
  go_wp2
  go_ret
  exact did_of A4.out RT2.out (HDL.out.giveO HX.out) ((giveO_cap HX.out).trans HCAP.out)

set_option maxRecDepth 100000 in
set_option maxHeartbeats 2000000 in
theorem ldo_u4a (HK : TrimK) (a : Al wB W g base cap A c bs F p H) (rt : Rt bs H) (hcap : H.cap = cap) (hbase : base ≤ 4611686018427387904) (hc16 : cap ≤ 16384) (hd : H.Dl) (what n m : Int) (hn : -9223372036854775808 ≤ n ∧ n ≤ 9223372036854775807) (hm : -9223372036854775808 ≤ m ∧ m ≤ 9223372036854775807) (hk : (what % ((6 : Nat) : Int)).toNat = 4) (hs : isSz (sizeN m false) = false) :
    Calls Tryz.prog 9 #[.pointer (some ⟨g, 0, none⟩), .pointer (some ⟨p, 0, none⟩), .agg #[.int .i64 what, .int .i64 n, .int .i64 m, .bool false]] W fun e w' => Did wB g base cap p e w' := by
  have hok := rt.ok (hcap ▸ hc16) hd
  have hn512 := hok.n
  have ho := oN_ok hok n false hn
  obtain ⟨w0, hw0⟩ : ∃ w0, W.alloc (.cells #[.int .i64 what, .int .i64 n, .int .i64 m, .bool false] 32) = w0 := ⟨_, rfl⟩
  have hb0 : Below W.heap.size W w0 := by rw [← hw0]; exact (Below.refl _ _).alloc (Nat.le_refl _) _
  obtain ⟨gd, hgd⟩ : ∃ gd, W.heap.size = gd := ⟨_, rfl⟩
  have hnd : w0.heap[gd]? = some (.cells #[.int .i64 what, .int .i64 n, .int .i64 m, .bool false] 32 (0, 0)) := by rw [← hw0, ← hgd]; exact heap_alloc_new W _
  have hgdlt := heap_lt hnd
  have a0 := a.below hb0
  obtain ⟨Vb, Vd, gl, cs, hmm⟩ := a0.hm
  have HUD := Lib.hid (lused_any hmm (by omega) n)
  have HPK := Lib.hid (fun w => lpick_any what 6 w (by omega) (by omega) _ hk)
  have hsb := sizeN_ok m false hm
  have HSZ := Lib.hid (fun w => lsize_any w m hm false)
  obtain ⟨o, hO⟩ : ∃ o, oN H n false = o := ⟨_, rfl⟩
  rw [hO] at ho
  have hO2 : ((usedN H.blks n : Nat) : Int) = o := hO
  rw [hO2] at HUD
  obtain ⟨s, hS⟩ : ∃ s, sizeN m false = s := ⟨_, rfl⟩
  rw [hS] at hsb hs HSZ
  obtain ⟨cl, hcl⟩ : ∃ cl, classI s = cl := ⟨_, rfl⟩
  have hcn : cl < 0 := by rw [← hcl]; exact (classI_neg s).2 hs
  have hcb := classI_bounds s
  rw [hcl] at hcb
  have HCL := Lib.hid (fun w => rclass_any w s hsb cl hcl)
  have r0 : w0.cell? ⟨gd, 0, none⟩ = some (.int .i64 what) := by rw [cell_of_row w0 gd 0 _ _ (0, 0) hnd]; rfl
  have r1 : w0.cell? ⟨gd, 1, none⟩ = some (.int .i64 n) := by rw [cell_of_row w0 gd 1 _ _ (0, 0) hnd]; rfl
  have r2 : w0.cell? ⟨gd, 2, none⟩ = some (.int .i64 m) := by rw [cell_of_row w0 gd 2 _ _ (0, 0) hnd]; rfl
  have r3 : w0.cell? ⟨gd, 3, none⟩ = some (.bool false) := by rw [cell_of_row w0 gd 3 _ _ (0, 0) hnd]; rfl
  have HA0 := Lib.hid a0
  have HRT := Lib.hid rt
  have HOK := Lib.hid hok
  have HDL := Lib.hid hd
  have HCAP := Lib.hid hcap
  have HW0 := Lib.hid hw0
  have HGD := Lib.hid hgd
  have HKK := Lib.hid HK
  clear a a0 hmm rt hok hd hcap hw0 hgd hnd hb0 hO hO2 hk HK
  have HSA := Lib.hid hs
  clear hS hs
  go_enter Tryz.func9, Tryz.ntmps9
  go_wp2_with (first | (rw [HW0.out, HGD.out]) | fail)
  refine HUD.out.mono ?_
  rintro e w1 ⟨rfl, hb⟩
  have A1 := Lib.hid (HA0.out.below hb)
  have r0' := (hb.cell (p := ⟨gd, 0, none⟩) hgdlt).trans r0
  have r1' := (hb.cell (p := ⟨gd, 1, none⟩) hgdlt).trans r1
  have r2' := (hb.cell (p := ⟨gd, 2, none⟩) hgdlt).trans r2
  have r3' := (hb.cell (p := ⟨gd, 3, none⟩) hgdlt).trans r3
  clear hb r0 r1 r2 r3 HUD
  go_wp2_with fail
  refine (HPK.out _).mono ?_
  rintro e w2 ⟨rfl, rfl⟩
  clear HPK HA0 HW0 HGD
  go_wp2_with fail
  refine (HSZ.out _).mono ?_
  rintro e w3 ⟨rfl, rfl⟩
  go_wp2_with fail
  refine ((HKK.out w1 g base cap c A bs H o s A1.out.st.ar hbase hc16 HCAP.out HRT.out ho hsb).1 HSA.out).mono ?_
  rintro e w4 ⟨rfl, hb⟩
  have A3 := Lib.hid (A1.out.below hb)
  clear hb A1
  dsimp only [errV]
  go_wp2_with fail
  refine (code_err _ 1 (by omega) (by omega)).mono ?_
  rintro e w9 ⟨rfl, rfl⟩
  go_wp2_with fail
  refine (HCL.out _).mono ?_
  rintro e w10 ⟨rfl, rfl⟩
  go_wp2
  go_ret
  exact did_of A3.out HRT.out HDL.out HCAP.out

set_option maxRecDepth 100000 in
set_option maxHeartbeats 2000000 in
theorem ldo_u4n (HK : TrimK) (a : Al wB W g base cap A c bs F p H) (rt : Rt bs H) (hcap : H.cap = cap) (hbase : base ≤ 4611686018427387904) (hc16 : cap ≤ 16384) (hd : H.Dl) (what n m : Int) (hn : -9223372036854775808 ≤ n ∧ n ≤ 9223372036854775807) (hm : -9223372036854775808 ≤ m ∧ m ≤ 9223372036854775807) (hk : (what % ((6 : Nat) : Int)).toNat = 4) (hs : isSz (sizeN m false) = true) (hx : H.trimO (oN H n false) (sizeN m false).toNat = none) :
    Calls Tryz.prog 9 #[.pointer (some ⟨g, 0, none⟩), .pointer (some ⟨p, 0, none⟩), .agg #[.int .i64 what, .int .i64 n, .int .i64 m, .bool false]] W fun e w' => Did wB g base cap p e w' := by
  have hok := rt.ok (hcap ▸ hc16) hd
  have hn512 := hok.n
  have ho := oN_ok hok n false hn
  obtain ⟨w0, hw0⟩ : ∃ w0, W.alloc (.cells #[.int .i64 what, .int .i64 n, .int .i64 m, .bool false] 32) = w0 := ⟨_, rfl⟩
  have hb0 : Below W.heap.size W w0 := by rw [← hw0]; exact (Below.refl _ _).alloc (Nat.le_refl _) _
  obtain ⟨gd, hgd⟩ : ∃ gd, W.heap.size = gd := ⟨_, rfl⟩
  have hnd : w0.heap[gd]? = some (.cells #[.int .i64 what, .int .i64 n, .int .i64 m, .bool false] 32 (0, 0)) := by rw [← hw0, ← hgd]; exact heap_alloc_new W _
  have hgdlt := heap_lt hnd
  have a0 := a.below hb0
  obtain ⟨Vb, Vd, gl, cs, hmm⟩ := a0.hm
  have HUD := Lib.hid (lused_any hmm (by omega) n)
  have HPK := Lib.hid (fun w => lpick_any what 6 w (by omega) (by omega) _ hk)
  have hsb := sizeN_ok m false hm
  have HSZ := Lib.hid (fun w => lsize_any w m hm false)
  obtain ⟨o, hO⟩ : ∃ o, oN H n false = o := ⟨_, rfl⟩
  rw [hO] at ho
  have hO2 : ((usedN H.blks n : Nat) : Int) = o := hO
  rw [hO2] at HUD
  rw [hO] at hx
  obtain ⟨s, hS⟩ : ∃ s, sizeN m false = s := ⟨_, rfl⟩
  rw [hS] at hsb hs HSZ hx
  have hsn := is_nat hs
  obtain ⟨t, ht⟩ : ∃ t, s.toNat = t := ⟨_, rfl⟩
  rw [ht] at hsn hx
  subst hsn
  obtain ⟨cl, hcl, hcl22⟩ : ∃ c : Nat, classI (t : Int) = (c : Int) ∧ c < 22 := class_nat (x := ⟨0, t, false⟩) hs
  have hcn : 0 ≤ (cl : Int) := by omega
  have HCL := Lib.hid (fun w => rclass_any w (t : Int) hsb (cl : Int) hcl)
  have HSS := Lib.hid hs
  have r0 : w0.cell? ⟨gd, 0, none⟩ = some (.int .i64 what) := by rw [cell_of_row w0 gd 0 _ _ (0, 0) hnd]; rfl
  have r1 : w0.cell? ⟨gd, 1, none⟩ = some (.int .i64 n) := by rw [cell_of_row w0 gd 1 _ _ (0, 0) hnd]; rfl
  have r2 : w0.cell? ⟨gd, 2, none⟩ = some (.int .i64 m) := by rw [cell_of_row w0 gd 2 _ _ (0, 0) hnd]; rfl
  have r3 : w0.cell? ⟨gd, 3, none⟩ = some (.bool false) := by rw [cell_of_row w0 gd 3 _ _ (0, 0) hnd]; rfl
  have HA0 := Lib.hid a0
  have HRT := Lib.hid rt
  have HOK := Lib.hid hok
  have HDL := Lib.hid hd
  have HCAP := Lib.hid hcap
  have HW0 := Lib.hid hw0
  have HGD := Lib.hid hgd
  have HKK := Lib.hid HK
  have HX := Lib.hid hx
  clear hx
  clear a a0 hmm rt hok hd hcap hw0 hgd hnd hb0 hO hO2 hk HK
  clear hS hs ht
  go_enter Tryz.func9, Tryz.ntmps9
  go_wp2_with (first | (rw [HW0.out, HGD.out]) | fail)
  refine HUD.out.mono ?_
  rintro e w1 ⟨rfl, hb⟩
  have A1 := Lib.hid (HA0.out.below hb)
  have r0' := (hb.cell (p := ⟨gd, 0, none⟩) hgdlt).trans r0
  have r1' := (hb.cell (p := ⟨gd, 1, none⟩) hgdlt).trans r1
  have r2' := (hb.cell (p := ⟨gd, 2, none⟩) hgdlt).trans r2
  have r3' := (hb.cell (p := ⟨gd, 3, none⟩) hgdlt).trans r3
  clear hb r0 r1 r2 r3 HUD
  go_wp2_with fail
  refine (HPK.out _).mono ?_
  rintro e w2 ⟨rfl, rfl⟩
  clear HPK HA0 HW0 HGD
  go_wp2_with fail
  refine (HSZ.out _).mono ?_
  rintro e w3 ⟨rfl, rfl⟩
  go_wp2_with fail
  refine ((HKK.out w1 g base cap c A bs H o (t : Int) A1.out.st.ar hbase hc16 HCAP.out HRT.out ho hsb).2 HSS.out).mono ?_
  intro e w4 hT
  rw [Int.toNat_natCast, HX.out] at hT
  obtain ⟨rfl, hb⟩ := hT
  have A3 := Lib.hid (A1.out.below hb)
  clear hb A1
  dsimp only [errV]
  go_wp2_with fail
  refine (code_err _ 3 (by omega) (by omega)).mono ?_
  rintro e w9 ⟨rfl, rfl⟩
  go_wp2_with fail
  refine (HCL.out _).mono ?_
  rintro e w10 ⟨rfl, rfl⟩
  obtain ⟨Vb, Vd, gl, cs, hmm⟩ := A3.out.hm
  have HGV := Lib.hid (hTrim_any hmm HOK.out 1024 HRT.out.few (by omega) o ho t HSS.out)
  clear hmm
  go_wp2_with fail
  refine HGV.out.mono ?_
  rintro e w11 ⟨rfl, ht⟩
  rw [HX.out] at ht ⊢
  obtain ⟨F4, a4⟩ := A3.out.turn ht
  have A4 := Lib.hid a4
  clear a4 ht HGV A3
  dsimp only [badV, Option.isSome]
  go_wp2
  go_ret
  exact did_of A4.out HRT.out HDL.out HCAP.out

set_option maxRecDepth 100000 in
set_option maxHeartbeats 2000000 in
theorem ldo_u4s (HK : TrimK) (a : Al wB W g base cap A c bs F p H) (rt : Rt bs H) (hcap : H.cap = cap) (hbase : base ≤ 4611686018427387904) (hc16 : cap ≤ 16384) (hd : H.Dl) (what n m : Int) (hn : -9223372036854775808 ≤ n ∧ n ≤ 9223372036854775807) (hm : -9223372036854775808 ≤ m ∧ m ≤ 9223372036854775807) (hk : (what % ((6 : Nat) : Int)).toNat = 4) (hs : isSz (sizeN m false) = true) (H2 : Hp) (hx : H.trimO (oN H n false) (sizeN m false).toNat = some H2) :
    Calls Tryz.prog 9 #[.pointer (some ⟨g, 0, none⟩), .pointer (some ⟨p, 0, none⟩), .agg #[.int .i64 what, .int .i64 n, .int .i64 m, .bool false]] W fun e w' => Did wB g base cap p e w' := by
  have hok := rt.ok (hcap ▸ hc16) hd
  have hn512 := hok.n
  have ho := oN_ok hok n false hn
  obtain ⟨w0, hw0⟩ : ∃ w0, W.alloc (.cells #[.int .i64 what, .int .i64 n, .int .i64 m, .bool false] 32) = w0 := ⟨_, rfl⟩
  have hb0 : Below W.heap.size W w0 := by rw [← hw0]; exact (Below.refl _ _).alloc (Nat.le_refl _) _
  obtain ⟨gd, hgd⟩ : ∃ gd, W.heap.size = gd := ⟨_, rfl⟩
  have hnd : w0.heap[gd]? = some (.cells #[.int .i64 what, .int .i64 n, .int .i64 m, .bool false] 32 (0, 0)) := by rw [← hw0, ← hgd]; exact heap_alloc_new W _
  have hgdlt := heap_lt hnd
  have a0 := a.below hb0
  obtain ⟨Vb, Vd, gl, cs, hmm⟩ := a0.hm
  have HUD := Lib.hid (lused_any hmm (by omega) n)
  have HPK := Lib.hid (fun w => lpick_any what 6 w (by omega) (by omega) _ hk)
  have hsb := sizeN_ok m false hm
  have HSZ := Lib.hid (fun w => lsize_any w m hm false)
  obtain ⟨o, hO⟩ : ∃ o, oN H n false = o := ⟨_, rfl⟩
  rw [hO] at ho
  have hO2 : ((usedN H.blks n : Nat) : Int) = o := hO
  rw [hO2] at HUD
  rw [hO] at hx
  obtain ⟨s, hS⟩ : ∃ s, sizeN m false = s := ⟨_, rfl⟩
  rw [hS] at hsb hs HSZ hx
  have hsn := is_nat hs
  obtain ⟨t, ht⟩ : ∃ t, s.toNat = t := ⟨_, rfl⟩
  rw [ht] at hsn hx
  subst hsn
  obtain ⟨cl, hcl, hcl22⟩ : ∃ c : Nat, classI (t : Int) = (c : Int) ∧ c < 22 := class_nat (x := ⟨0, t, false⟩) hs
  have hcn : 0 ≤ (cl : Int) := by omega
  have HCL := Lib.hid (fun w => rclass_any w (t : Int) hsb (cl : Int) hcl)
  have HSS := Lib.hid hs
  have r0 : w0.cell? ⟨gd, 0, none⟩ = some (.int .i64 what) := by rw [cell_of_row w0 gd 0 _ _ (0, 0) hnd]; rfl
  have r1 : w0.cell? ⟨gd, 1, none⟩ = some (.int .i64 n) := by rw [cell_of_row w0 gd 1 _ _ (0, 0) hnd]; rfl
  have r2 : w0.cell? ⟨gd, 2, none⟩ = some (.int .i64 m) := by rw [cell_of_row w0 gd 2 _ _ (0, 0) hnd]; rfl
  have r3 : w0.cell? ⟨gd, 3, none⟩ = some (.bool false) := by rw [cell_of_row w0 gd 3 _ _ (0, 0) hnd]; rfl
  have HA0 := Lib.hid a0
  have HRT := Lib.hid rt
  have HOK := Lib.hid hok
  have HDL := Lib.hid hd
  have HCAP := Lib.hid hcap
  have HW0 := Lib.hid hw0
  have HGD := Lib.hid hgd
  have HKK := Lib.hid HK
  have HX := Lib.hid hx
  clear hx
  clear a a0 hmm rt hok hd hcap hw0 hgd hnd hb0 hO hO2 hk HK
  clear hS hs ht
  go_enter Tryz.func9, Tryz.ntmps9
  go_wp2_with (first | (rw [HW0.out, HGD.out]) | fail)
  refine HUD.out.mono ?_
  rintro e w1 ⟨rfl, hb⟩
  have A1 := Lib.hid (HA0.out.below hb)
  have r0' := (hb.cell (p := ⟨gd, 0, none⟩) hgdlt).trans r0
  have r1' := (hb.cell (p := ⟨gd, 1, none⟩) hgdlt).trans r1
  have r2' := (hb.cell (p := ⟨gd, 2, none⟩) hgdlt).trans r2
  have r3' := (hb.cell (p := ⟨gd, 3, none⟩) hgdlt).trans r3
  clear hb r0 r1 r2 r3 HUD
  go_wp2_with fail
  refine (HPK.out _).mono ?_
  rintro e w2 ⟨rfl, rfl⟩
  clear HPK HA0 HW0 HGD
  go_wp2_with fail
  refine (HSZ.out _).mono ?_
  rintro e w3 ⟨rfl, rfl⟩
  go_wp2_with fail
  refine ((HKK.out w1 g base cap c A bs H o (t : Int) A1.out.st.ar hbase hc16 HCAP.out HRT.out ho hsb).2 HSS.out).mono ?_
  intro e w4 hT
  rw [Int.toNat_natCast, HX.out] at hT
  obtain ⟨rfl, out, hbe, rt2, _⟩ := hT
  obtain ⟨A3', c3, a3⟩ := A1.out.became hbe
  have A3 := Lib.hid a3
  have RT2 := Lib.hid rt2
  clear hbe a3 rt2 A1
  dsimp only [errV]
  go_wp2_with fail
  refine (code_nil _).mono ?_
  rintro e w9 ⟨rfl, rfl⟩
  go_wp2_with fail
  refine (HCL.out _).mono ?_
  rintro e w10 ⟨rfl, rfl⟩
  obtain ⟨Vb, Vd, gl, cs, hmm⟩ := A3.out.hm
  have HGV := Lib.hid (hTrim_any hmm HOK.out 1024 HRT.out.few (by omega) o ho t HSS.out)
  clear hmm
  go_wp2_with fail
  refine HGV.out.mono ?_
  rintro e w11 ⟨rfl, ht⟩
  rw [HX.out] at ht ⊢
  obtain ⟨F4, a4⟩ := A3.out.turn ht
  have A4 := Lib.hid a4
  clear a4 ht HGV A3
  dsimp only [badV, Option.isSome]
  go_wp2
  go_ret
  exact did_of A4.out RT2.out (HDL.out.trimO HX.out) ((trimO_cap HX.out).trans HCAP.out)

set_option maxRecDepth 100000 in
set_option maxHeartbeats 2000000 in
theorem ldo_u5n (HK : UsedK) (a : Al wB W g base cap A c bs F p H) (rt : Rt bs H) (hcap : H.cap = cap) (hbase : base ≤ 4611686018427387904) (hc16 : cap ≤ 16384) (hd : H.Dl) (what n m : Int) (hn : -9223372036854775808 ≤ n ∧ n ≤ 9223372036854775807) (hk : (what % ((6 : Nat) : Int)).toNat = 5) (hx : usedB H.blks (oN H n false) = none) :
    Calls Tryz.prog 9 #[.pointer (some ⟨g, 0, none⟩), .pointer (some ⟨p, 0, none⟩), .agg #[.int .i64 what, .int .i64 n, .int .i64 m, .bool false]] W fun e w' => Did wB g base cap p e w' := by
  have hok := rt.ok (hcap ▸ hc16) hd
  have hn512 := hok.n
  have ho := oN_ok hok n false hn
  obtain ⟨w0, hw0⟩ : ∃ w0, W.alloc (.cells #[.int .i64 what, .int .i64 n, .int .i64 m, .bool false] 32) = w0 := ⟨_, rfl⟩
  have hb0 : Below W.heap.size W w0 := by rw [← hw0]; exact (Below.refl _ _).alloc (Nat.le_refl _) _
  obtain ⟨gd, hgd⟩ : ∃ gd, W.heap.size = gd := ⟨_, rfl⟩
  have hnd : w0.heap[gd]? = some (.cells #[.int .i64 what, .int .i64 n, .int .i64 m, .bool false] 32 (0, 0)) := by rw [← hw0, ← hgd]; exact heap_alloc_new W _
  have hgdlt := heap_lt hnd
  have a0 := a.below hb0
  obtain ⟨Vb, Vd, gl, cs, hmm⟩ := a0.hm
  have HUD := Lib.hid (lused_any hmm (by omega) n)
  have HPK := Lib.hid (fun w => lpick_any what 6 w (by omega) (by omega) _ hk)
  obtain ⟨o, hO⟩ : ∃ o, oN H n false = o := ⟨_, rfl⟩
  rw [hO] at ho
  have hO2 : ((usedN H.blks n : Nat) : Int) = o := hO
  rw [hO2] at HUD
  rw [hO] at hx
  have r0 : w0.cell? ⟨gd, 0, none⟩ = some (.int .i64 what) := by rw [cell_of_row w0 gd 0 _ _ (0, 0) hnd]; rfl
  have r1 : w0.cell? ⟨gd, 1, none⟩ = some (.int .i64 n) := by rw [cell_of_row w0 gd 1 _ _ (0, 0) hnd]; rfl
  have r2 : w0.cell? ⟨gd, 2, none⟩ = some (.int .i64 m) := by rw [cell_of_row w0 gd 2 _ _ (0, 0) hnd]; rfl
  have r3 : w0.cell? ⟨gd, 3, none⟩ = some (.bool false) := by rw [cell_of_row w0 gd 3 _ _ (0, 0) hnd]; rfl
  have HA0 := Lib.hid a0
  have HRT := Lib.hid rt
  have HOK := Lib.hid hok
  have HDL := Lib.hid hd
  have HCAP := Lib.hid hcap
  have HW0 := Lib.hid hw0
  have HGD := Lib.hid hgd
  have HKK := Lib.hid HK
  have HX := Lib.hid hx
  clear hx
  clear a a0 hmm rt hok hd hcap hw0 hgd hnd hb0 hO hO2 hk HK
  go_enter Tryz.func9, Tryz.ntmps9
  go_wp2_with (first | (rw [HW0.out, HGD.out]) | fail)
  refine HUD.out.mono ?_
  rintro e w1 ⟨rfl, hb⟩
  have A1 := Lib.hid (HA0.out.below hb)
  have r0' := (hb.cell (p := ⟨gd, 0, none⟩) hgdlt).trans r0
  have r1' := (hb.cell (p := ⟨gd, 1, none⟩) hgdlt).trans r1
  have r2' := (hb.cell (p := ⟨gd, 2, none⟩) hgdlt).trans r2
  have r3' := (hb.cell (p := ⟨gd, 3, none⟩) hgdlt).trans r3
  clear hb r0 r1 r2 r3 HUD
  go_wp2_with fail
  refine (HPK.out _).mono ?_
  rintro e w2 ⟨rfl, rfl⟩
  clear HPK HA0 HW0 HGD
  go_wp2_with fail
  refine (HKK.out w1 g base cap c A bs H o A1.out.st.ar hbase hc16 HCAP.out HRT.out ho).mono ?_
  intro e w3 hT
  rw [HX.out] at hT
  obtain ⟨rfl, hb⟩ := hT
  have a3 := A1.out.below hb
  clear hb A1
  dsimp only [errV, bkV, Option.map, Option.isSome]
  have hb4 : Below w3.heap.size w3 (w3.alloc (.cells #[.int .i64 0, .int .i64 0, .bool false] 53)) := (Below.refl _ _).alloc (Nat.le_refl _) _
  have a4 := a3.below hb4
  obtain ⟨Vb, Vd, gl, cs, hmm⟩ := a4.hm
  have HUS := Lib.hid (husd_any hmm (by omega) o ho _ HX.out)
  have A4 := Lib.hid a4
  clear hmm a4 hb4 a3
  go_wp2_with fail
  refine HUS.out.mono ?_
  rintro e w5 ⟨rfl, rfl⟩
  go_wp2_with fail
  refine (code_err _ 3 (by omega) (by omega)).mono ?_
  rintro e w9 ⟨rfl, rfl⟩
  dsimp only [ixV]
  go_wp2
  go_ret
  exact did_of A4.out HRT.out HDL.out HCAP.out

set_option maxRecDepth 100000 in
set_option maxHeartbeats 2000000 in
theorem ldo_u5s (HK : UsedK) (a : Al wB W g base cap A c bs F p H) (rt : Rt bs H) (hcap : H.cap = cap) (hbase : base ≤ 4611686018427387904) (hc16 : cap ≤ 16384) (hd : H.Dl) (what n m : Int) (hn : -9223372036854775808 ≤ n ∧ n ≤ 9223372036854775807) (hk : (what % ((6 : Nat) : Int)).toNat = 5) (i : Nat) (hx : usedB H.blks (oN H n false) = some i) :
    Calls Tryz.prog 9 #[.pointer (some ⟨g, 0, none⟩), .pointer (some ⟨p, 0, none⟩), .agg #[.int .i64 what, .int .i64 n, .int .i64 m, .bool false]] W fun e w' => Did wB g base cap p e w' := by
  have hok := rt.ok (hcap ▸ hc16) hd
  have hn512 := hok.n
  have ho := oN_ok hok n false hn
  obtain ⟨w0, hw0⟩ : ∃ w0, W.alloc (.cells #[.int .i64 what, .int .i64 n, .int .i64 m, .bool false] 32) = w0 := ⟨_, rfl⟩
  have hb0 : Below W.heap.size W w0 := by rw [← hw0]; exact (Below.refl _ _).alloc (Nat.le_refl _) _
  obtain ⟨gd, hgd⟩ : ∃ gd, W.heap.size = gd := ⟨_, rfl⟩
  have hnd : w0.heap[gd]? = some (.cells #[.int .i64 what, .int .i64 n, .int .i64 m, .bool false] 32 (0, 0)) := by rw [← hw0, ← hgd]; exact heap_alloc_new W _
  have hgdlt := heap_lt hnd
  have a0 := a.below hb0
  obtain ⟨Vb, Vd, gl, cs, hmm⟩ := a0.hm
  have HUD := Lib.hid (lused_any hmm (by omega) n)
  have HPK := Lib.hid (fun w => lpick_any what 6 w (by omega) (by omega) _ hk)
  obtain ⟨o, hO⟩ : ∃ o, oN H n false = o := ⟨_, rfl⟩
  rw [hO] at ho
  have hO2 : ((usedN H.blks n : Nat) : Int) = o := hO
  rw [hO2] at HUD
  rw [hO] at hx
  have r0 : w0.cell? ⟨gd, 0, none⟩ = some (.int .i64 what) := by rw [cell_of_row w0 gd 0 _ _ (0, 0) hnd]; rfl
  have r1 : w0.cell? ⟨gd, 1, none⟩ = some (.int .i64 n) := by rw [cell_of_row w0 gd 1 _ _ (0, 0) hnd]; rfl
  have r2 : w0.cell? ⟨gd, 2, none⟩ = some (.int .i64 m) := by rw [cell_of_row w0 gd 2 _ _ (0, 0) hnd]; rfl
  have r3 : w0.cell? ⟨gd, 3, none⟩ = some (.bool false) := by rw [cell_of_row w0 gd 3 _ _ (0, 0) hnd]; rfl
  have HA0 := Lib.hid a0
  have HRT := Lib.hid rt
  have HOK := Lib.hid hok
  have HDL := Lib.hid hd
  have HCAP := Lib.hid hcap
  have HW0 := Lib.hid hw0
  have HGD := Lib.hid hgd
  have HKK := Lib.hid HK
  have HX := Lib.hid hx
  clear hx
  clear a a0 hmm rt hok hd hcap hw0 hgd hnd hb0 hO hO2 hk HK
  go_enter Tryz.func9, Tryz.ntmps9
  go_wp2_with (first | (rw [HW0.out, HGD.out]) | fail)
  refine HUD.out.mono ?_
  rintro e w1 ⟨rfl, hb⟩
  have A1 := Lib.hid (HA0.out.below hb)
  have r0' := (hb.cell (p := ⟨gd, 0, none⟩) hgdlt).trans r0
  have r1' := (hb.cell (p := ⟨gd, 1, none⟩) hgdlt).trans r1
  have r2' := (hb.cell (p := ⟨gd, 2, none⟩) hgdlt).trans r2
  have r3' := (hb.cell (p := ⟨gd, 3, none⟩) hgdlt).trans r3
  clear hb r0 r1 r2 r3 HUD
  go_wp2_with fail
  refine (HPK.out _).mono ?_
  rintro e w2 ⟨rfl, rfl⟩
  clear HPK HA0 HW0 HGD
  go_wp2_with fail
  refine (HKK.out w1 g base cap c A bs H o A1.out.st.ar hbase hc16 HCAP.out HRT.out ho).mono ?_
  intro e w3 hT
  rw [HX.out] at hT
  obtain ⟨rfl, hb⟩ := hT
  have a3 := A1.out.below hb
  clear hb A1
  dsimp only [errV, bkV, Option.map, Option.isSome, Bk.val]
  obtain ⟨hib, _⟩ := usedB_at HX.out
  obtain ⟨xo, hxo⟩ : ∃ xo, (bkAt H.blks i).off = xo := ⟨_, rfl⟩
  obtain ⟨xs, hxs⟩ : ∃ xs, (bkAt H.blks i).size = xs := ⟨_, rfl⟩
  obtain ⟨xu, hxu⟩ : ∃ xu, (bkAt H.blks i).used = xu := ⟨_, rfl⟩
  rw [hxo, hxs, hxu]
  obtain ⟨w4, hw4⟩ : ∃ w4, w3.alloc (.cells #[.int .i64 (xo : Int), .int .i64 (xs : Int), .bool xu] 53) = w4 := ⟨_, rfl⟩
  have hb4 : Below w3.heap.size w3 w4 := by rw [← hw4]; exact (Below.refl _ _).alloc (Nat.le_refl _) _
  obtain ⟨gx, hgx⟩ : ∃ gx, w3.heap.size = gx := ⟨_, rfl⟩
  have hnx : w4.heap[gx]? = some (.cells #[.int .i64 (xo : Int), .int .i64 (xs : Int), .bool xu] 53 (0, 0)) := by rw [← hw4, ← hgx]; exact heap_alloc_new w3 _
  have a4 := a3.below hb4
  obtain ⟨Vb, Vd, gl, cs, hmm⟩ := a4.hm
  obtain ⟨b1, c1, rfl, _, hnc, _⟩ := own_nn hmm.ob (by omega)
  have q1 := hmm.c1
  obtain ⟨d0, d1, d2⟩ := hmm.at_n rfl hib
  rw [hxo] at d0
  rw [hxs] at d1
  rw [hxu] at d2
  obtain ⟨x0, x1, x2⟩ := (blk_cells hnx).1
  have HUS := Lib.hid (husd_any hmm (by omega) o ho _ HX.out)
  obtain ⟨nn, hnn⟩ : ∃ nn, H.blks.length = nn := ⟨_, rfl⟩
  rw [hnn] at q1 hib hnc hn512
  have hii : (i : Int) < (nn : Int) := by omega
  have hi512 : i < 512 := by omega
  have A4 := Lib.hid a4
  have HW4 := Lib.hid hw4
  have HGX := Lib.hid hgx
  clear hmm a4 hb4 hw4 a3 hgx hnx hxo hxs hxu hnn
  go_wp2_with (first | (rw [HW4.out, HGX.out]) | fail)
  refine HUS.out.mono ?_
  rintro e w5 ⟨rfl, rfl⟩
  dsimp only [ixV]
  go_wp2_with fail
  refine (code_nil _).mono ?_
  rintro e w9 ⟨rfl, rfl⟩
  go_wp2_with fail
  go_quiet (fail)
  have A5 := Lib.hid (A4.out.below ⟨rfl, rfl, rfl, Nat.le_refl _, fun _ _ => rfl⟩ : Al wB (w4.drewN nq) g base cap A c bs F p H)
  clear A4 d0 d1 d2 x0 x1 x2 q1
  generalize w4.drewN nq = w6 at A5 ⊢
  go_wp2
  go_ret
  exact did_of A5.out HRT.out HDL.out HCAP.out

set_option maxRecDepth 100000 in
set_option maxHeartbeats 2000000 in
theorem ldo_u0a (HK : TakeK) (a : Al wB W g base cap A c bs F p H) (rt : Rt bs H) (hcap : H.cap = cap) (hbase : base ≤ 4611686018427387904) (hc16 : cap ≤ 16384) (hd : H.Dl) (what n m : Int) (hn : -9223372036854775808 ≤ n ∧ n ≤ 9223372036854775807) (k6 : Nat) (hk : (what % ((6 : Nat) : Int)).toNat = k6) (h3 : k6 ≠ 3) (h4 : k6 ≠ 4) (h5 : k6 ≠ 5) (hs : isSz (sizeN n false) = false) :
    Calls Tryz.prog 9 #[.pointer (some ⟨g, 0, none⟩), .pointer (some ⟨p, 0, none⟩), .agg #[.int .i64 what, .int .i64 n, .int .i64 m, .bool false]] W fun e w' => Did wB g base cap p e w' := by
  have hok := rt.ok (hcap ▸ hc16) hd
  have hn512 := hok.n
  have ho := oN_ok hok n false hn
  obtain ⟨w0, hw0⟩ : ∃ w0, W.alloc (.cells #[.int .i64 what, .int .i64 n, .int .i64 m, .bool false] 32) = w0 := ⟨_, rfl⟩
  have hb0 : Below W.heap.size W w0 := by rw [← hw0]; exact (Below.refl _ _).alloc (Nat.le_refl _) _
  obtain ⟨gd, hgd⟩ : ∃ gd, W.heap.size = gd := ⟨_, rfl⟩
  have hnd : w0.heap[gd]? = some (.cells #[.int .i64 what, .int .i64 n, .int .i64 m, .bool false] 32 (0, 0)) := by rw [← hw0, ← hgd]; exact heap_alloc_new W _
  have hgdlt := heap_lt hnd
  have a0 := a.below hb0
  obtain ⟨Vb, Vd, gl, cs, hmm⟩ := a0.hm
  have HUD := Lib.hid (lused_any hmm (by omega) n)
  have HPK := Lib.hid (fun w => lpick_any what 6 w (by omega) (by omega) _ hk)
  have hsb := sizeN_ok n false hn
  have HSZ := Lib.hid (fun w => lsize_any w n hn false)
  obtain ⟨o, hO⟩ : ∃ o, oN H n false = o := ⟨_, rfl⟩
  rw [hO] at ho
  have hO2 : ((usedN H.blks n : Nat) : Int) = o := hO
  rw [hO2] at HUD
  obtain ⟨s, hS⟩ : ∃ s, sizeN n false = s := ⟨_, rfl⟩
  rw [hS] at hsb hs HSZ
  obtain ⟨cl, hcl⟩ : ∃ cl, classI s = cl := ⟨_, rfl⟩
  have hcn : cl < 0 := by rw [← hcl]; exact (classI_neg s).2 hs
  have hcb := classI_bounds s
  rw [hcl] at hcb
  have HCL := Lib.hid (fun w => rclass_any w s hsb cl hcl)
  have e3 : ((k6 : Int) == 3) = false := by rw [beq_eq_false_iff_ne]; omega
  have e4 : ((k6 : Int) == 4) = false := by rw [beq_eq_false_iff_ne]; omega
  have e5 : ((k6 : Int) == 5) = false := by rw [beq_eq_false_iff_ne]; omega
  have hk6 : k6 < 6 := by
    rw [← hk]
    have h1 := Int.emod_nonneg what (b := ((6 : Nat) : Int)) (by omega)
    have h2 := Int.emod_lt_of_pos what (b := ((6 : Nat) : Int)) (by omega)
    omega
  have r0 : w0.cell? ⟨gd, 0, none⟩ = some (.int .i64 what) := by rw [cell_of_row w0 gd 0 _ _ (0, 0) hnd]; rfl
  have r1 : w0.cell? ⟨gd, 1, none⟩ = some (.int .i64 n) := by rw [cell_of_row w0 gd 1 _ _ (0, 0) hnd]; rfl
  have r2 : w0.cell? ⟨gd, 2, none⟩ = some (.int .i64 m) := by rw [cell_of_row w0 gd 2 _ _ (0, 0) hnd]; rfl
  have r3 : w0.cell? ⟨gd, 3, none⟩ = some (.bool false) := by rw [cell_of_row w0 gd 3 _ _ (0, 0) hnd]; rfl
  have HA0 := Lib.hid a0
  have HRT := Lib.hid rt
  have HOK := Lib.hid hok
  have HDL := Lib.hid hd
  have HCAP := Lib.hid hcap
  have HW0 := Lib.hid hw0
  have HGD := Lib.hid hgd
  have HKK := Lib.hid HK
  clear a a0 hmm rt hok hd hcap hw0 hgd hnd hb0 hO hO2 hk HK
  have HSA := Lib.hid hs
  clear hS hs
  go_enter Tryz.func9, Tryz.ntmps9
  go_wp2_with (first | (rw [HW0.out, HGD.out]) | fail)
  refine HUD.out.mono ?_
  rintro e w1 ⟨rfl, hb⟩
  have A1 := Lib.hid (HA0.out.below hb)
  have r0' := (hb.cell (p := ⟨gd, 0, none⟩) hgdlt).trans r0
  have r1' := (hb.cell (p := ⟨gd, 1, none⟩) hgdlt).trans r1
  have r2' := (hb.cell (p := ⟨gd, 2, none⟩) hgdlt).trans r2
  have r3' := (hb.cell (p := ⟨gd, 3, none⟩) hgdlt).trans r3
  clear hb r0 r1 r2 r3 HUD
  go_wp2_with fail
  refine (HPK.out _).mono ?_
  rintro e w2 ⟨rfl, rfl⟩
  clear HPK HA0 HW0 HGD
  go_wp2_with fail
  refine (HSZ.out _).mono ?_
  rintro e w3 ⟨rfl, rfl⟩
  go_wp2_with fail
  refine ((HKK.out w1 g base cap c A bs H s A1.out.st.ar hbase hc16 HCAP.out HRT.out hsb).1 HSA.out).mono ?_
  rintro e w4 ⟨rfl, hb⟩
  have A3 := Lib.hid (A1.out.below hb)
  clear hb A1
  dsimp only [errV]
  go_wp2_with fail
  refine (code_err _ 1 (by omega) (by omega)).mono ?_
  rintro e w9 ⟨rfl, rfl⟩
  go_wp2_with fail
  refine (HCL.out _).mono ?_
  rintro e w10 ⟨rfl, rfl⟩
  go_wp2
  go_ret
  exact did_of A3.out HRT.out HDL.out HCAP.out

set_option maxRecDepth 100000 in
set_option maxHeartbeats 2000000 in
theorem ldo_u0n (HK : TakeK) (a : Al wB W g base cap A c bs F p H) (rt : Rt bs H) (hcap : H.cap = cap) (hbase : base ≤ 4611686018427387904) (hc16 : cap ≤ 16384) (hd : H.Dl) (what n m : Int) (hn : -9223372036854775808 ≤ n ∧ n ≤ 9223372036854775807) (k6 : Nat) (hk : (what % ((6 : Nat) : Int)).toNat = k6) (h3 : k6 ≠ 3) (h4 : k6 ≠ 4) (h5 : k6 ≠ 5) (hs : isSz (sizeN n false) = true) (hx : (H.take (sizeN n false).toNat).1 = none) :
    Calls Tryz.prog 9 #[.pointer (some ⟨g, 0, none⟩), .pointer (some ⟨p, 0, none⟩), .agg #[.int .i64 what, .int .i64 n, .int .i64 m, .bool false]] W fun e w' => Did wB g base cap p e w' := by
  have hok := rt.ok (hcap ▸ hc16) hd
  have hn512 := hok.n
  have ho := oN_ok hok n false hn
  obtain ⟨w0, hw0⟩ : ∃ w0, W.alloc (.cells #[.int .i64 what, .int .i64 n, .int .i64 m, .bool false] 32) = w0 := ⟨_, rfl⟩
  have hb0 : Below W.heap.size W w0 := by rw [← hw0]; exact (Below.refl _ _).alloc (Nat.le_refl _) _
  obtain ⟨gd, hgd⟩ : ∃ gd, W.heap.size = gd := ⟨_, rfl⟩
  have hnd : w0.heap[gd]? = some (.cells #[.int .i64 what, .int .i64 n, .int .i64 m, .bool false] 32 (0, 0)) := by rw [← hw0, ← hgd]; exact heap_alloc_new W _
  have hgdlt := heap_lt hnd
  have a0 := a.below hb0
  obtain ⟨Vb, Vd, gl, cs, hmm⟩ := a0.hm
  have HUD := Lib.hid (lused_any hmm (by omega) n)
  have HPK := Lib.hid (fun w => lpick_any what 6 w (by omega) (by omega) _ hk)
  have hsb := sizeN_ok n false hn
  have HSZ := Lib.hid (fun w => lsize_any w n hn false)
  obtain ⟨o, hO⟩ : ∃ o, oN H n false = o := ⟨_, rfl⟩
  rw [hO] at ho
  have hO2 : ((usedN H.blks n : Nat) : Int) = o := hO
  rw [hO2] at HUD
  obtain ⟨s, hS⟩ : ∃ s, sizeN n false = s := ⟨_, rfl⟩
  rw [hS] at hsb hs HSZ hx
  have hsn := is_nat hs
  obtain ⟨t, ht⟩ : ∃ t, s.toNat = t := ⟨_, rfl⟩
  rw [ht] at hsn hx
  subst hsn
  obtain ⟨cl, hcl, hcl22⟩ : ∃ c : Nat, classI (t : Int) = (c : Int) ∧ c < 22 := class_nat (x := ⟨0, t, false⟩) hs
  have hcn : 0 ≤ (cl : Int) := by omega
  have HCL := Lib.hid (fun w => rclass_any w (t : Int) hsb (cl : Int) hcl)
  have HSS := Lib.hid hs
  have e3 : ((k6 : Int) == 3) = false := by rw [beq_eq_false_iff_ne]; omega
  have e4 : ((k6 : Int) == 4) = false := by rw [beq_eq_false_iff_ne]; omega
  have e5 : ((k6 : Int) == 5) = false := by rw [beq_eq_false_iff_ne]; omega
  have hk6 : k6 < 6 := by
    rw [← hk]
    have h1 := Int.emod_nonneg what (b := ((6 : Nat) : Int)) (by omega)
    have h2 := Int.emod_lt_of_pos what (b := ((6 : Nat) : Int)) (by omega)
    omega
  have r0 : w0.cell? ⟨gd, 0, none⟩ = some (.int .i64 what) := by rw [cell_of_row w0 gd 0 _ _ (0, 0) hnd]; rfl
  have r1 : w0.cell? ⟨gd, 1, none⟩ = some (.int .i64 n) := by rw [cell_of_row w0 gd 1 _ _ (0, 0) hnd]; rfl
  have r2 : w0.cell? ⟨gd, 2, none⟩ = some (.int .i64 m) := by rw [cell_of_row w0 gd 2 _ _ (0, 0) hnd]; rfl
  have r3 : w0.cell? ⟨gd, 3, none⟩ = some (.bool false) := by rw [cell_of_row w0 gd 3 _ _ (0, 0) hnd]; rfl
  have HA0 := Lib.hid a0
  have HRT := Lib.hid rt
  have HOK := Lib.hid hok
  have HDL := Lib.hid hd
  have HCAP := Lib.hid hcap
  have HW0 := Lib.hid hw0
  have HGD := Lib.hid hgd
  have HKK := Lib.hid HK
  have HX := Lib.hid hx
  clear hx
  clear a a0 hmm rt hok hd hcap hw0 hgd hnd hb0 hO hO2 hk HK
  clear hS hs ht
  go_enter Tryz.func9, Tryz.ntmps9
  go_wp2_with (first | (rw [HW0.out, HGD.out]) | fail)
  refine HUD.out.mono ?_
  rintro e w1 ⟨rfl, hb⟩
  have A1 := Lib.hid (HA0.out.below hb)
  have r0' := (hb.cell (p := ⟨gd, 0, none⟩) hgdlt).trans r0
  have r1' := (hb.cell (p := ⟨gd, 1, none⟩) hgdlt).trans r1
  have r2' := (hb.cell (p := ⟨gd, 2, none⟩) hgdlt).trans r2
  have r3' := (hb.cell (p := ⟨gd, 3, none⟩) hgdlt).trans r3
  clear hb r0 r1 r2 r3 HUD
  go_wp2_with fail
  refine (HPK.out _).mono ?_
  rintro e w2 ⟨rfl, rfl⟩
  clear HPK HA0 HW0 HGD
  go_wp2_with fail
  refine (HSZ.out _).mono ?_
  rintro e w3 ⟨rfl, rfl⟩
  go_wp2_with fail
  refine ((HKK.out w1 g base cap c A bs H (t : Int) A1.out.st.ar hbase hc16 HCAP.out HRT.out hsb).2 HSS.out).mono ?_
  intro e w4 hT
  rw [Int.toNat_natCast] at hT
  unfold TurnedAt at hT
  rw [HX.out] at hT
  obtain ⟨rfl, hb⟩ := hT
  have A3 := Lib.hid (A1.out.below hb)
  clear hb A1
  dsimp only [errV]
  go_wp2_with fail
  refine (code_err _ 5 (by omega) (by omega)).mono ?_
  rintro e w9 ⟨rfl, rfl⟩
  go_wp2_with fail
  refine (HCL.out _).mono ?_
  rintro e w10 ⟨rfl, rfl⟩
  obtain ⟨Vb, Vd, gl, cs, hmm⟩ := A3.out.hm
  have HGV := Lib.hid (hTake_any hmm HOK.out 1024 HRT.out.few (by omega) HRT.out.listed t HSS.out (by rw [HCAP.out]; omega))
  clear hmm
  go_wp2_with fail
  refine HGV.out.mono ?_
  rintro e w11 ⟨rfl, ht⟩
  obtain ⟨F4, a4⟩ := A3.out.turn ht
  rw [HX.out]
  have A4 := Lib.hid a4
  clear a4 ht HGV A3
  dsimp only [badT, Option.isSome, Option.getD]
  have hsame := take_none_same HX.out
  have HSM := Lib.hid hsame
  clear hsame
  go_wp2
  go_ret
  exact did_of (HSM.out ▸ A4.out) HRT.out HDL.out HCAP.out

set_option maxRecDepth 100000 in
set_option maxHeartbeats 2000000 in
theorem ldo_u0s (HK : TakeK) (a : Al wB W g base cap A c bs F p H) (rt : Rt bs H) (hcap : H.cap = cap) (hbase : base ≤ 4611686018427387904) (hc16 : cap ≤ 16384) (hd : H.Dl) (what n m : Int) (hn : -9223372036854775808 ≤ n ∧ n ≤ 9223372036854775807) (k6 : Nat) (hk : (what % ((6 : Nat) : Int)).toNat = k6) (h3 : k6 ≠ 3) (h4 : k6 ≠ 4) (h5 : k6 ≠ 5) (hs : isSz (sizeN n false) = true) (o2 : Nat) (hx : (H.take (sizeN n false).toNat).1 = some o2) :
    Calls Tryz.prog 9 #[.pointer (some ⟨g, 0, none⟩), .pointer (some ⟨p, 0, none⟩), .agg #[.int .i64 what, .int .i64 n, .int .i64 m, .bool false]] W fun e w' => Did wB g base cap p e w' := by
  have hok := rt.ok (hcap ▸ hc16) hd
  have hn512 := hok.n
  have ho := oN_ok hok n false hn
  obtain ⟨w0, hw0⟩ : ∃ w0, W.alloc (.cells #[.int .i64 what, .int .i64 n, .int .i64 m, .bool false] 32) = w0 := ⟨_, rfl⟩
  have hb0 : Below W.heap.size W w0 := by rw [← hw0]; exact (Below.refl _ _).alloc (Nat.le_refl _) _
  obtain ⟨gd, hgd⟩ : ∃ gd, W.heap.size = gd := ⟨_, rfl⟩
  have hnd : w0.heap[gd]? = some (.cells #[.int .i64 what, .int .i64 n, .int .i64 m, .bool false] 32 (0, 0)) := by rw [← hw0, ← hgd]; exact heap_alloc_new W _
  have hgdlt := heap_lt hnd
  have a0 := a.below hb0
  obtain ⟨Vb, Vd, gl, cs, hmm⟩ := a0.hm
  have HUD := Lib.hid (lused_any hmm (by omega) n)
  have HPK := Lib.hid (fun w => lpick_any what 6 w (by omega) (by omega) _ hk)
  have hsb := sizeN_ok n false hn
  have HSZ := Lib.hid (fun w => lsize_any w n hn false)
  obtain ⟨o, hO⟩ : ∃ o, oN H n false = o := ⟨_, rfl⟩
  rw [hO] at ho
  have hO2 : ((usedN H.blks n : Nat) : Int) = o := hO
  rw [hO2] at HUD
  obtain ⟨s, hS⟩ : ∃ s, sizeN n false = s := ⟨_, rfl⟩
  rw [hS] at hsb hs HSZ hx
  have hsn := is_nat hs
  obtain ⟨t, ht⟩ : ∃ t, s.toNat = t := ⟨_, rfl⟩
  rw [ht] at hsn hx
  subst hsn
  obtain ⟨cl, hcl, hcl22⟩ : ∃ c : Nat, classI (t : Int) = (c : Int) ∧ c < 22 := class_nat (x := ⟨0, t, false⟩) hs
  have hcn : 0 ≤ (cl : Int) := by omega
  have HCL := Lib.hid (fun w => rclass_any w (t : Int) hsb (cl : Int) hcl)
  have HSS := Lib.hid hs
  have e3 : ((k6 : Int) == 3) = false := by rw [beq_eq_false_iff_ne]; omega
  have e4 : ((k6 : Int) == 4) = false := by rw [beq_eq_false_iff_ne]; omega
  have e5 : ((k6 : Int) == 5) = false := by rw [beq_eq_false_iff_ne]; omega
  have hk6 : k6 < 6 := by
    rw [← hk]
    have h1 := Int.emod_nonneg what (b := ((6 : Nat) : Int)) (by omega)
    have h2 := Int.emod_lt_of_pos what (b := ((6 : Nat) : Int)) (by omega)
    omega
  have r0 : w0.cell? ⟨gd, 0, none⟩ = some (.int .i64 what) := by rw [cell_of_row w0 gd 0 _ _ (0, 0) hnd]; rfl
  have r1 : w0.cell? ⟨gd, 1, none⟩ = some (.int .i64 n) := by rw [cell_of_row w0 gd 1 _ _ (0, 0) hnd]; rfl
  have r2 : w0.cell? ⟨gd, 2, none⟩ = some (.int .i64 m) := by rw [cell_of_row w0 gd 2 _ _ (0, 0) hnd]; rfl
  have r3 : w0.cell? ⟨gd, 3, none⟩ = some (.bool false) := by rw [cell_of_row w0 gd 3 _ _ (0, 0) hnd]; rfl
  have HA0 := Lib.hid a0
  have HRT := Lib.hid rt
  have HOK := Lib.hid hok
  have HDL := Lib.hid hd
  have HCAP := Lib.hid hcap
  have HW0 := Lib.hid hw0
  have HGD := Lib.hid hgd
  have HKK := Lib.hid HK
  have HX := Lib.hid hx
  clear hx
  clear a a0 hmm rt hok hd hcap hw0 hgd hnd hb0 hO hO2 hk HK
  clear hS hs ht
  go_enter Tryz.func9, Tryz.ntmps9
  go_wp2_with (first | (rw [HW0.out, HGD.out]) | fail)
  refine HUD.out.mono ?_
  rintro e w1 ⟨rfl, hb⟩
  have A1 := Lib.hid (HA0.out.below hb)
  have r0' := (hb.cell (p := ⟨gd, 0, none⟩) hgdlt).trans r0
  have r1' := (hb.cell (p := ⟨gd, 1, none⟩) hgdlt).trans r1
  have r2' := (hb.cell (p := ⟨gd, 2, none⟩) hgdlt).trans r2
  have r3' := (hb.cell (p := ⟨gd, 3, none⟩) hgdlt).trans r3
  clear hb r0 r1 r2 r3 HUD
  go_wp2_with fail
  refine (HPK.out _).mono ?_
  rintro e w2 ⟨rfl, rfl⟩
  clear HPK HA0 HW0 HGD
  go_wp2_with fail
  refine (HSZ.out _).mono ?_
  rintro e w3 ⟨rfl, rfl⟩
  go_wp2_with fail
  refine ((HKK.out w1 g base cap c A bs H (t : Int) A1.out.st.ar hbase hc16 HCAP.out HRT.out hsb).2 HSS.out).mono ?_
  intro e w4 hT
  rw [Int.toNat_natCast] at hT
  unfold TurnedAt at hT
  rw [HX.out] at hT
  obtain ⟨rfl, out, hbe, rt2, _⟩ := hT
  obtain ⟨A3', c3, a3⟩ := A1.out.became hbe
  have A3 := Lib.hid a3
  have RT2 := Lib.hid rt2
  clear hbe a3 rt2 A1
  dsimp only [errV]
  go_wp2_with fail
  refine (code_nil _).mono ?_
  rintro e w9 ⟨rfl, rfl⟩
  go_wp2_with fail
  refine (HCL.out _).mono ?_
  rintro e w10 ⟨rfl, rfl⟩
  obtain ⟨Vb, Vd, gl, cs, hmm⟩ := A3.out.hm
  have HGV := Lib.hid (hTake_any hmm HOK.out 1024 HRT.out.few (by omega) HRT.out.listed t HSS.out (by rw [HCAP.out]; omega))
  clear hmm
  go_wp2_with fail
  refine HGV.out.mono ?_
  rintro e w11 ⟨rfl, ht⟩
  obtain ⟨F4, a4⟩ := A3.out.turn ht
  rw [HX.out]
  have A4 := Lib.hid a4
  clear a4 ht HGV A3
  dsimp only [badT, Option.isSome, Option.getD]
  go_wp2
  go_ret
  exact did_of A4.out RT2.out HDL.out.take (take_cap.trans HCAP.out)

theorem ldo_any (HT : TakeK) (HG : GiveK) (HR : TrimK) (HU : UsedK) (a : Al wB W g base cap A c bs F p H) (rt : Rt bs H) (hcap : H.cap = cap) (hbase : base ≤ 4611686018427387904) (hc16 : cap ≤ 16384) (hd : H.Dl) (what n m : Int) (raw : Bool) (hn : -9223372036854775808 ≤ n ∧ n ≤ 9223372036854775807) (hm : -9223372036854775808 ≤ m ∧ m ≤ 9223372036854775807) :
    Calls Tryz.prog 9 #[.pointer (some ⟨g, 0, none⟩), .pointer (some ⟨p, 0, none⟩), .agg #[.int .i64 what, .int .i64 n, .int .i64 m, .bool raw]] W fun e w' => Did wB g base cap p e w' := by
  cases raw
  · by_cases h3 : (what % ((6 : Nat) : Int)).toNat = 3
    · cases hx : H.giveO (oN H n false) with
      | none => exact ldo_u3n HG a rt hcap hbase hc16 hd what n m hn h3 hx
      | some H2 => exact ldo_u3s HG a rt hcap hbase hc16 hd what n m hn h3 H2 hx
    · by_cases h4 : (what % ((6 : Nat) : Int)).toNat = 4
      · cases hs : isSz (sizeN m false) with
        | false => exact ldo_u4a HR a rt hcap hbase hc16 hd what n m hn hm h4 hs
        | true =>
          cases hx : H.trimO (oN H n false) (sizeN m false).toNat with
          | none => exact ldo_u4n HR a rt hcap hbase hc16 hd what n m hn hm h4 hs hx
          | some H2 => exact ldo_u4s HR a rt hcap hbase hc16 hd what n m hn hm h4 hs H2 hx
      · by_cases h5 : (what % ((6 : Nat) : Int)).toNat = 5
        · cases hx : usedB H.blks (oN H n false) with
          | none => exact ldo_u5n HU a rt hcap hbase hc16 hd what n m hn h5 hx
          | some i => exact ldo_u5s HU a rt hcap hbase hc16 hd what n m hn h5 i hx
        · cases hs : isSz (sizeN n false) with
          | false => exact ldo_u0a HT a rt hcap hbase hc16 hd what n m hn _ rfl h3 h4 h5 hs
          | true =>
            cases hx : (H.take (sizeN n false).toNat).1 with
            | none => exact ldo_u0n HT a rt hcap hbase hc16 hd what n m hn _ rfl h3 h4 h5 hs hx
            | some o2 => exact ldo_u0s HT a rt hcap hbase hc16 hd what n m hn _ rfl h3 h4 h5 hs o2 hx
  · by_cases h3 : (what % ((6 : Nat) : Int)).toNat = 3
    · cases hx : H.giveO (oN H n true) with
      | none => exact ldo_r3n HG a rt hcap hbase hc16 hd what n m hn h3 hx
      | some H2 => exact ldo_r3s HG a rt hcap hbase hc16 hd what n m hn h3 H2 hx
    · by_cases h4 : (what % ((6 : Nat) : Int)).toNat = 4
      · cases hs : isSz (sizeN m true) with
        | false => exact ldo_r4a HR a rt hcap hbase hc16 hd what n m hn hm h4 hs
        | true =>
          cases hx : H.trimO (oN H n true) (sizeN m true).toNat with
          | none => exact ldo_r4n HR a rt hcap hbase hc16 hd what n m hn hm h4 hs hx
          | some H2 => exact ldo_r4s HR a rt hcap hbase hc16 hd what n m hn hm h4 hs H2 hx
      · by_cases h5 : (what % ((6 : Nat) : Int)).toNat = 5
        · cases hx : usedB H.blks (oN H n true) with
          | none => exact ldo_r5n HU a rt hcap hbase hc16 hd what n m hn h5 hx
          | some i => exact ldo_r5s HU a rt hcap hbase hc16 hd what n m hn h5 i hx
        · cases hs : isSz (sizeN n true) with
          | false => exact ldo_r0a HT a rt hcap hbase hc16 hd what n m hn _ rfl h3 h4 h5 hs
          | true =>
            cases hx : (H.take (sizeN n true).toNat).1 with
            | none => exact ldo_r0n HT a rt hcap hbase hc16 hd what n m hn _ rfl h3 h4 h5 hs hx
            | some o2 => exact ldo_r0s HT a rt hcap hbase hc16 hd what n m hn _ rfl h3 h4 h5 hs o2 hx
end
end Go.Proofs.YtdjjbmefaggelaaGreat
