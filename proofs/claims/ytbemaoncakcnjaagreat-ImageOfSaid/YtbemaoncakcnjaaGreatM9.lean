/- Texts of mine, joined: Hm8, Hm9, Hm10, HpM4, HpM5, HpM6, HpM7, HpM8, HpM9, HpM10, HpM11, HpM12, HpD, HpM13, HpM14, HpM15, HpZ, TakM, TakM2, TakM3, TakM4. -/
import Derived.Test.YtbemaoncakcnjaaGreatM8

/- The contracts of the document's heap: cut, Give, Trim. -/
namespace Go.Proofs.YtbemaoncakcnjaaGreat
open Go.RowKit

section
variable {F : Nat → Prop} {w w' : World} {p gl : Nat} {H : Hp} {Vb Vd : Value} {cs : List Value}
set_option maxHeartbeats 2000000 in
theorem hcut_a (h : Hm F w p H Vb Vd gl cs) (hok : H.Ok) (i : Nat) (hi : i < H.blks.length) (s : Nat) (hs : s ≤ 16384) (hlt : (bkAt H.blks i).size < s + 32) :
    Calls Tryz.prog 68 #[.pointer (some ⟨p, 0, none⟩), .int .i64 (i : Int), .int .i64 (s : Int)] w fun e w' => e = .returned (.tuple #[]) ∧ HT F w p (H.cut i s) w' := by
  have hcut : H.cut i s = H.use i true := by unfold Hp.cut; rw [if_pos hlt]
  obtain ⟨b1, c1, rfl, hb1, hnc1, _⟩ := own_nn h.ob (by omega)
  have hn512 := hok.n
  have hsz := (isSz_iff _).1 (hok.sz hi)
  have d := h.at_n rfl hi
  have q1 := h.c1
  obtain ⟨xo, hxo⟩ : ∃ xo, (bkAt H.blks i).off = xo := ⟨_, rfl⟩
  obtain ⟨xs, hxs⟩ : ∃ xs, (bkAt H.blks i).size = xs := ⟨_, rfl⟩
  obtain ⟨xu, hxu⟩ : ∃ xu, (bkAt H.blks i).used = xu := ⟨_, rfl⟩
  rw [hxo, hxs, hxu] at d
  rw [hxs] at hsz hlt
  obtain ⟨d0, d1, d2⟩ := d
  obtain ⟨wa, hwa⟩ : ∃ wa, w.alloc (.cells #[.int .i64 (xo : Int), .int .i64 (xs : Int), .bool xu] 51) = wa := ⟨_, rfl⟩
  have hba : Below w.heap.size w wa := by rw [← hwa]; exact (Below.refl _ _).alloc (Nat.le_refl _) _
  obtain ⟨gx, hgx⟩ : ∃ gx, w.heap.size = gx := ⟨_, rfl⟩
  have hnx : wa.heap[gx]? = some (.cells #[.int .i64 (xo : Int), .int .i64 (xs : Int), .bool xu] 51 (0, 0)) := by rw [← hwa, ← hgx]; exact heap_alloc_new w _
  have za := (Hz.start h).below hba
  have z1 := za.set (a := ⟨b1, i * 3 + 2, none⟩) (u := .bool true) (h.fb b1 rfl) (za.hm.useM rfl hi true)
  obtain ⟨w1, hw1⟩ : ∃ w1, wa.setCell ⟨b1, i * 3 + 2, none⟩ (.bool true) = w1 := ⟨_, rfl⟩
  have qa := za.hm.c1
  have f1 := own_thaw za.hm.ob (i * 3 + 2)
  obtain ⟨_, qc⟩ : ∃ u, wa.cell? ⟨b1, i * 3 + 2, none⟩ = some u := ⟨_, (za.hm.at_n rfl hi).2.2⟩
  have hx1 : w1.cell? ⟨gx, 1, none⟩ = some (.int .i64 (xs : Int)) := by
    rw [← hw1]
    refine (World.cell?_of_block (w := wa) (Below.heap_setCell wa _ _ _ (by dsimp only; omega))).trans ?_
    exact (blk_cells hnx).1.2.1
  rw [hw1] at z1
  have HTO : Hid (HT F w p (H.cut i s) w1) := (show HT _ _ _ _ _ by rw [hcut]; exact z1.fin)
  have HWA := Lib.hid hwa
  have HW1 := Lib.hid hw1
  have HGX := Lib.hid hgx
  obtain ⟨n, hn⟩ : ∃ n, H.blks.length = n := ⟨_, rfl⟩
  rw [hn] at q1 qa hi
  have hin : (i : Int) < (n : Int) := by omega
  have hls : (xs : Int) - (s : Int) < 32 := by omega
  clear h hok hb1 hba hnx za z1 hwa hw1 hgx hxo hxs hxu hcut hlt hnc1 hn
  go_enter Tryz.func68, Tryz.ntmps68
  go_wp2_with (first | (rw [HWA.out, HGX.out]) | (rw [HW1.out]) | fail)
  refine bodyPost_ret (results_none rfl _ _ _) rfl ?_
  exact ⟨rfl, HTO.out⟩

set_option maxHeartbeats 2000000 in
theorem hcut_b (h : Hm F w p H Vb Vd gl cs) (hok : H.Ok) (N : Nat) (hf : H.Few N) (hN : N ≤ 50000) (i : Nat) (hi : i < H.blks.length) (s : Nat) (hs : isSz (s : Int) = true) (hle : s + 32 ≤ (bkAt H.blks i).size) :
    Calls Tryz.prog 68 #[.pointer (some ⟨p, 0, none⟩), .int .i64 (i : Int), .int .i64 (s : Int)] w fun e w' => e = .returned (.tuple #[]) ∧ HT F w p (H.cut i s) w' := by
  have hcut : H.cut i s = (((H.use i true).size i s).put (i + 1) ⟨(bkAt H.blks i).off + s, (bkAt H.blks i).size - s, true⟩).give (i + 1) := by unfold Hp.cut; rw [if_neg (by omega)]
  have hok2 := hok.cut hi hs hle
  have hln2 := cut_len (s := s) H hi ⟨(bkAt H.blks i).off + s, (bkAt H.blks i).size - s, true⟩
  obtain ⟨b1, c1, rfl, hb1, hnc1, _⟩ := own_nn h.ob (by omega)
  have hn512 := hok.n
  have hsz := (isSz_iff _).1 (hok.sz hi)
  have hss := (isSz_iff _).1 hs
  have hoff := (tile_mem _ _ _ (hok.at_ hi).1).1
  have hlen := (tile_mem _ _ _ (hok.at_ hi).2.2).1
  have hle3 := hok.le
  have d := h.at_n rfl hi
  have q1 := h.c1
  obtain ⟨xo, hxo⟩ : ∃ xo, (bkAt H.blks i).off = xo := ⟨_, rfl⟩
  obtain ⟨xs, hxs⟩ : ∃ xs, (bkAt H.blks i).size = xs := ⟨_, rfl⟩
  obtain ⟨xu, hxu⟩ : ∃ xu, (bkAt H.blks i).used = xu := ⟨_, rfl⟩
  rw [hxo, hxs, hxu] at d
  rw [hxs] at hsz hle
  rw [hxo, hxs] at hcut hok2 hln2 hlen
  rw [hxo] at hoff
  obtain ⟨d0, d1, d2⟩ := d
  obtain ⟨wa, hwa⟩ : ∃ wa, w.alloc (.cells #[.int .i64 (xo : Int), .int .i64 (xs : Int), .bool xu] 51) = wa := ⟨_, rfl⟩
  have hba : Below w.heap.size w wa := by rw [← hwa]; exact (Below.refl _ _).alloc (Nat.le_refl _) _
  obtain ⟨gx, hgx⟩ : ∃ gx, w.heap.size = gx := ⟨_, rfl⟩
  have hnx : wa.heap[gx]? = some (.cells #[.int .i64 (xo : Int), .int .i64 (xs : Int), .bool xu] 51 (0, 0)) := by rw [← hwa, ← hgx]; exact heap_alloc_new w _
  have za := (Hz.start h).below hba
  have z1 := za.set (a := ⟨b1, i * 3 + 2, none⟩) (u := .bool true) (h.fb b1 rfl) (za.hm.useM rfl hi true)
  have lnu : (H.use i true).blks.length = H.blks.length := List.length_set ..
  have z2 := z1.set (a := ⟨b1, i * 3 + 1, none⟩) (u := .int .i64 (s : Int)) (h.fb b1 rfl) (z1.hm.sizeM (by rw [lnu]) (by rw [lnu]; exact hi) s)
  obtain ⟨w1, hw1⟩ : ∃ w1, wa.setCell ⟨b1, i * 3 + 2, none⟩ (.bool true) = w1 := ⟨_, rfl⟩
  rw [hw1] at z1 z2
  obtain ⟨w2, hw2⟩ : ∃ w2, w1.setCell ⟨b1, i * 3 + 1, none⟩ (.int .i64 (s : Int)) = w2 := ⟨_, rfl⟩
  rw [hw2] at z2
  have qa := za.hm.c1
  have f1 := own_thaw za.hm.ob (i * 3 + 2)
  obtain ⟨_, qc⟩ : ∃ u, wa.cell? ⟨b1, i * 3 + 2, none⟩ = some u := ⟨_, (za.hm.at_n rfl hi).2.2⟩
  have qb := z1.hm.c1
  have f2 := own_thaw z1.hm.ob (i * 3 + 1)
  obtain ⟨_, qd⟩ : ∃ u, w1.cell? ⟨b1, i * 3 + 1, none⟩ = some u := ⟨_, (own_at (n := H.blks.length) (by have e := z1.hm.ob; rw [lnu] at e; exact e) (bkAt_get (l := (H.use i true).blks) (by rw [lnu]; exact hi))).1.2.1⟩
  have k1 : ∀ j, w1.cell? ⟨gx, j, none⟩ = wa.cell? ⟨gx, j, none⟩ := fun j => by rw [← hw1]; exact World.cell?_of_block (w := wa) (Below.heap_setCell wa _ _ _ (by dsimp only; omega))
  have k2 : ∀ j, w2.cell? ⟨gx, j, none⟩ = wa.cell? ⟨gx, j, none⟩ := fun j => by rw [← k1, ← hw2]; exact World.cell?_of_block (w := w1) (Below.heap_setCell w1 _ _ _ (by dsimp only; omega))
  have hx1 : w1.cell? ⟨gx, 1, none⟩ = some (.int .i64 (xs : Int)) := (k1 1).trans (blk_cells hnx).1.2.1
  have hx2 : w2.cell? ⟨gx, 0, none⟩ = some (.int .i64 (xo : Int)) := (k2 0).trans (blk_cells hnx).1.1
  have hx3 : w2.cell? ⟨gx, 1, none⟩ = some (.int .i64 (xs : Int)) := (k2 1).trans (blk_cells hnx).1.2.1
  have HCUT := Lib.hid hcut
  have HOK2 := Lib.hid hok2
  have HLN2 := Lib.hid hln2
  have HF := Lib.hid hf
  have HWA := Lib.hid hwa
  have HW1 := Lib.hid hw1
  have HW2 := Lib.hid hw2
  have HGX := Lib.hid hgx
  have Z2 := Lib.hid z2
  have HDL : Hid (H.ds.length = H.blks.length) := hok.dl
  have HLU : Hid (((H.use i true).size i s).blks.length = H.blks.length) := (show _ = _ from (List.length_set ..).trans lnu)
  obtain ⟨n, hn⟩ : ∃ n, H.blks.length = n := ⟨_, rfl⟩
  rw [hn] at q1 qa hi HLN2 HDL HLU hn512
  rw [hn] at qb
  have hin : (i : Int) < (n : Int) := by omega
  have hls : 32 ≤ (xs : Int) - (s : Int) := by omega
  have e1 : (xo : Int) + (s : Int) = ((xo + s : Nat) : Int) := by omega
  have e2 : (xs : Int) - (s : Int) = ((xs - s : Nat) : Int) := by omega
  obtain ⟨k, hk⟩ : ∃ k : Nat, (i : Int) + 1 = (k : Int) := ⟨i + 1, by omega⟩
  have HK : Hid (k = i + 1) := (show _ = _ by omega)
  have HE1 := Lib.hid e1
  have HE2 := Lib.hid e2
  clear h hok hb1 hba hnx za z1 z2 hwa hw1 hw2 hgx hxo hxs hxu hcut hnc1 hn lnu hok2 hln2 hf hs k1 k2 e1 e2
  go_enter Tryz.func68, Tryz.ntmps68
  go_wp2_with (first | (rw [HWA.out, HGX.out]) | (rw [HW1.out]) | (rw [HW2.out]) | fail)
  rw [HE1.out, HE2.out]
  refine (hput_any Z2.out.hm k (by rw [HLU.out]; omega) (by rw [HLU.out]; omega) (HDL.out.trans HLU.out.symm) ⟨xo + s, xs - s, true⟩).mono ?_
  rintro e w3 ⟨rfl, ht⟩
  obtain ⟨F3, Vb3, Vd3, gl3, cs3, z3⟩ := Z2.out.step ht
  have hcut := HCUT.out
  have hok2 := HOK2.out
  have hln2 := HLN2.out
  rw [← HK.out] at hcut hok2 hln2
  have HCUT2 := Lib.hid hcut
  have HOK3 := Lib.hid hok2
  have HLN3 := Lib.hid hln2
  have Z3 := Lib.hid z3
  clear z3 hcut hok2 hln2 ht q1 qa qb f1 f2 hx1 hx2 hx3 d0 d1 d2
  go_wp2_with fail
  refine (hgive_any Z3.out.hm HOK3.out N HF.out hN k (by rw [HLN3.out]; omega)).mono ?_
  rintro e w4 ⟨rfl, ht⟩
  have hto : HT F w p (H.cut i s) w4 := by
    rw [HCUT2.out]
    exact Z3.out.last ht
  have HTO := Lib.hid hto
  clear hto ht
  go_wp2
  go_end0
  exact ⟨rfl, HTO.out⟩
theorem hcut_any (h : Hm F w p H Vb Vd gl cs) (hok : H.Ok) (N : Nat) (hf : H.Few N) (hN : N ≤ 50000) (i : Nat) (hi : i < H.blks.length) (s : Nat) (hs : isSz (s : Int) = true) :
    Calls Tryz.prog 68 #[.pointer (some ⟨p, 0, none⟩), .int .i64 (i : Int), .int .i64 (s : Int)] w fun e w' => e = .returned (.tuple #[]) ∧ HT F w p (H.cut i s) w' := by
  rcases Nat.lt_or_ge (bkAt H.blks i).size (s + 32) with hlt | hle
  · exact hcut_a h hok i hi s (by have := (isSz_iff _).1 hs; omega) hlt
  · exact hcut_b h hok N hf hN i hi s hs hle

/-- Is what stands at o a used block? -/
theorem usedB_at {l : List Bk} {o : Int} {i : Nat} (h : usedB l o = some i) : i < l.length ∧ ((bkAt l i).off : Int) = o ∧ (bkAt l i).used = true := by
  unfold usedB at h
  split at h
  · cases h
  · rename_i j hj
    split at h
    · injection h with h
      subst h
      exact ⟨(atB_at hj).1, (atB_at hj).2, by assumption⟩
    · cases h
def badV (x : Option Hp) : Int := if x.isSome then 0 else 3
set_option maxHeartbeats 1000000 in
theorem hGive_any (h : Hm F w p H Vb Vd gl cs) (hok : H.Ok) (N : Nat) (hf : H.Few N) (hN : N ≤ 50000) (o : Int) (ho : -9223372036854775808 ≤ o ∧ o ≤ 9223372036854775807) :
    Calls Tryz.prog 35 #[.pointer (some ⟨p, 0, none⟩), .int .i64 o] w fun e w' => e = .returned (.int .i64 (badV (H.giveO o))) ∧ HT F w p ((H.giveO o).getD H) w' := by
  have hn512 := hok.n
  cases hu : usedB H.blks o with
  | none =>
    have e : H.giveO o = none := by unfold Hp.giveO; rw [hu]; rfl
    have HU := Lib.hid (husd_any h (by omega) o ho _ hu)
    have HE := Lib.hid e
    have HT0 : Hid (HT F w p H w) := HT.refl ⟨_, _, _, _, h⟩
    clear h hok hf hu e
    go_enter Tryz.func35, Tryz.ntmps35
    go_wp2_with fail
    refine HU.out.mono ?_
    rintro e w2 ⟨rfl, rfl⟩
    go_wp2
    go_ret
    exact ⟨rt_i (by rw [HE.out]; rfl), by rw [HE.out]; exact HT0.out⟩
  | some i =>
    have e : H.giveO o = some (H.give i) := by unfold Hp.giveO; rw [hu]; rfl
    have hi := (usedB_at hu).1
    have HU := Lib.hid (husd_any h (by omega) o ho _ hu)
    have HE := Lib.hid e
    have HG := Lib.hid (hgive_any h hok N hf hN i hi)
    have hi2 : i ≤ 512 := by omega
    clear h hok hf hu e hi hn512
    go_enter Tryz.func35, Tryz.ntmps35
    go_wp2_with fail
    refine HU.out.mono ?_
    rintro e w2 ⟨rfl, rfl⟩
    dsimp only [ixV]
    go_wp2_with fail
    refine HG.out.mono ?_
    rintro e w3 ⟨rfl, ht⟩
    have HTO := Lib.hid ht
    clear ht HU HG
    go_wp2
    go_ret
    exact ⟨rt_i (by rw [HE.out]; rfl), by rw [HE.out]; exact HTO.out⟩

set_option maxHeartbeats 1000000 in
theorem hTrim_any (h : Hm F w p H Vb Vd gl cs) (hok : H.Ok) (N : Nat) (hf : H.Few N) (hN : N ≤ 50000) (o : Int) (ho : -9223372036854775808 ≤ o ∧ o ≤ 9223372036854775807) (s : Nat) (hs : isSz (s : Int) = true) :
    Calls Tryz.prog 39 #[.pointer (some ⟨p, 0, none⟩), .int .i64 o, .int .i64 (s : Int)] w fun e w' => e = .returned (.int .i64 (badV (H.trimO o s))) ∧ HT F w p ((H.trimO o s).getD H) w' := by
  have hn512 := hok.n
  have hss := (isSz_iff _).1 hs
  cases hu : usedB H.blks o with
  | none =>
    have e : H.trimO o s = none := by unfold Hp.trimO; rw [hu]
    have HU := Lib.hid (husd_any h (by omega) o ho _ hu)
    have HE := Lib.hid e
    have HT0 : Hid (HT F w p H w) := HT.refl ⟨_, _, _, _, h⟩
    clear h hok hf hu e
    go_enter Tryz.func39, Tryz.ntmps39
    go_wp2_with fail
    refine HU.out.mono ?_
    rintro e w2 ⟨rfl, rfl⟩
    go_wp2
    go_ret
    exact ⟨rt_i (by rw [HE.out]; rfl), by rw [HE.out]; exact HT0.out⟩
  | some i =>
    have hi := (usedB_at hu).1
    have hsz := (isSz_iff _).1 (hok.sz hi)
    have HU := Lib.hid (husd_any h (by omega) o ho _ hu)
    have HC := Lib.hid (hcut_any h hok N hf hN i hi s hs)
    have HT0 : Hid (HT F w p H w) := HT.refl ⟨_, _, _, _, h⟩
    obtain ⟨b1, c1, rfl, hb1, hnc1, _⟩ := own_nn h.ob (by omega)
    have q1 := h.c1
    have d1 := (h.at_n rfl hi).2.1
    have hi2 : i ≤ 512 := by omega
    by_cases hlt : (bkAt H.blks i).size < s
    · have e : H.trimO o s = none := by unfold Hp.trimO; rw [hu]; dsimp only; rw [if_pos hlt]
      obtain ⟨xs, hxs⟩ : ∃ xs, (bkAt H.blks i).size = xs := ⟨_, rfl⟩
      rw [hxs] at d1 hlt hsz
      obtain ⟨n, hn⟩ : ∃ n, H.blks.length = n := ⟨_, rfl⟩
      rw [hn] at q1 hi
      have hin : (i : Int) < (n : Int) := by omega
      have hlt2 : (xs : Int) < (s : Int) := by omega
      have HE := Lib.hid e
      clear h hok hf hu e hn512 hb1 hnc1 hxs hn HC hs
      go_enter Tryz.func39, Tryz.ntmps39
      go_wp2_with fail
      refine HU.out.mono ?_
      rintro e w2 ⟨rfl, rfl⟩
      dsimp only [ixV]
      go_wp2
      go_ret
      exact ⟨rt_i (by rw [HE.out]; rfl), by rw [HE.out]; exact HT0.out⟩
    · have e : H.trimO o s = some (H.cut i s) := by unfold Hp.trimO; rw [hu]; dsimp only; rw [if_neg hlt]
      obtain ⟨xs, hxs⟩ : ∃ xs, (bkAt H.blks i).size = xs := ⟨_, rfl⟩
      rw [hxs] at d1 hlt hsz
      obtain ⟨n, hn⟩ : ∃ n, H.blks.length = n := ⟨_, rfl⟩
      rw [hn] at q1 hi
      have hin : (i : Int) < (n : Int) := by omega
      have hlt2 : (s : Int) ≤ (xs : Int) := by omega
      have HE := Lib.hid e
      clear h hok hf hu e hn512 hb1 hnc1 hxs hn HT0 hs
      go_enter Tryz.func39, Tryz.ntmps39
      go_wp2_with fail
      refine HU.out.mono ?_
      rintro e w2 ⟨rfl, rfl⟩
      dsimp only [ixV]
      go_wp2_with fail
      refine HC.out.mono ?_
      rintro e w3 ⟨rfl, ht⟩
      have HTO := Lib.hid ht
      clear ht HU HC q1 d1
      go_wp2
      go_ret
      exact ⟨rt_i (by rw [HE.out]; rfl), by rw [HE.out]; exact HTO.out⟩
end
end Go.Proofs.YtbemaoncakcnjaaGreat

/- The contracts of the document's heap: New, Find. -/
namespace Go.Proofs.YtbemaoncakcnjaaGreat
open Go.RowKit

set_option maxHeartbeats 1000000 in
theorem hNew_any (w : World) (cap : Nat) :
    Calls Tryz.prog 12 #[.int .i64 (cap : Int)] w fun e w' => ∃ p, e = .returned (.pointer (some ⟨p, 0, none⟩)) ∧ HM (fun k => w.heap.size ≤ k) w' p ⟨cap, [], [], fun _ => []⟩ ∧ Below w.heap.size w w' := by
  obtain ⟨c22, h22⟩ : ∃ c22 : List Value, List.replicate 22 (Value.slice none 0 0) = c22 := ⟨_, rfl⟩
  obtain ⟨wg, hwg⟩ : ∃ wg, w.alloc (.cells c22.toArray 73) = wg := ⟨_, rfl⟩
  obtain ⟨wo, hwo⟩ : ∃ wo, wg.alloc (.cells #[.int .i64 (cap : Int), .slice none 0 0, .slice none 0 0, .slice (some ⟨w.heap.size, 0, none⟩) 22 22] 49) = wo := ⟨_, rfl⟩
  have b1 : Below w.heap.size w wg := by rw [← hwg]; exact (Below.refl _ _).alloc (Nat.le_refl _) _
  have b2 : Below wg.heap.size wg wo := by rw [← hwo]; exact (Below.refl _ _).alloc (Nat.le_refl _) _
  have n1 : wg.heap[w.heap.size]? = some (.cells c22.toArray 73 (0, 0)) := by rw [← hwg]; exact heap_alloc_new w _
  have n2 : wo.heap[wg.heap.size]? = some (.cells #[.int .i64 (cap : Int), .slice none 0 0, .slice none 0 0, .slice (some ⟨w.heap.size, 0, none⟩) 22 22] 49 (0, 0)) := by rw [← hwo]; exact heap_alloc_new wg _
  have hm : HM (fun k => w.heap.size ≤ k) wo wg.heap.size ⟨cap, [], [], fun _ => []⟩ := by
    refine ⟨.slice none 0 0, .slice none 0 0, w.heap.size, c22, n2, World.ownsRow_nil _ _ _ _, World.ownsRow_nil _ _ _ _, (b2.block _ (heap_lt n1)).trans n1, by rw [← h22]; exact List.length_replicate, fun d hd => ⟨.slice none 0 0, ?_, World.ownsRow_nil _ _ _ _⟩, b1.size, Nat.le_refl _, fun k e => (by cases e), fun k e => (by cases e), fun d v k hd hv e => ?_, fun d hd => (by cases hd)⟩
    · rw [← h22, List.getElem?_replicate, if_pos hd]
    · rw [← h22, List.getElem?_replicate, if_pos hd] at hv
      injection hv with hv
      subst hv
      cases e
  have HM0 := Lib.hid hm
  have HB0 := Lib.hid (b1.trans (b2.mono b1.size))
  have HMS : ∀ W : World, (Instr.makeSlice 47 (.int .i64 22) (.int .i64 22)).run Tryz.prog W = .ok (.slice (some ⟨W.heap.size, 0, none⟩) 22 22) (W.alloc (.cells c22.toArray 73)) := fun W => by rw [← h22]; exact mk_sls W
  have HWG := Lib.hid hwg
  have HWO := Lib.hid hwo
  have HGI : Hid (wg.heap.size = w.heap.size + 1) := (show _ = _ by rw [← hwg]; simp)
  clear h22 hwg hwo b1 b2 n1 n2 hm
  go_enter Tryz.func12, Tryz.ntmps12
  go_wp2_with (first | (rw [HWG.out]) | (rw [HWO.out]) | fail)
  go_ret
  exact ⟨wg.heap.size, by first | rfl | rw [HGI.out], HM0.out, HB0.out⟩

theorem findL_drop {l : List Bk} {s : Nat} {LL : List Nat} {j y i : Nat} (hy : LL[j]? = some y) (ha : atB (y : Int) l = some i) : findL l s (LL.drop j) = if s ≤ (bkAt l i).size then some i else findL l s (LL.drop (j + 1)) := by
  have hj : j < LL.length := lst_lt hy
  have e : LL[j] = y := by rw [List.getElem?_eq_getElem hj] at hy; injection hy
  rw [List.drop_eq_getElem_cons hj, e]
  rw [findL, ha]
section
variable {F : Nat → Prop} {w w' : World} {p gl : Nat} {H : Hp} {Vb Vd : Value} {cs : List Value}
set_option maxHeartbeats 2000000 in
theorem hfind_any (h : Hm F w p H Vb Vd gl cs) (hok : H.Ok) (N : Nat) (hf : H.Few N) (hN : N ≤ 50000) (hL : H.Listed) (s : Nat) (hs : isSz (s : Int) = true) (x : Option Nat) (hx : H.find s = x) :
    Calls Tryz.prog 73 #[.pointer (some ⟨p, 0, none⟩), .int .i64 (s : Int)] w fun e w' => e = .returned (.int .i64 (ixV x)) ∧ w = w' := by
  obtain ⟨cl, hcl, hcl22⟩ : ∃ c : Nat, classI (s : Int) = (c : Int) ∧ c < 22 := class_nat (x := ⟨0, s, false⟩) hs
  have hss := (isSz_iff _).1 hs
  have hn512 := hok.n
  have hx' : H.findC s (22 - cl) cl = x := by rw [← hx]; unfold Hp.find; rw [hcl]; rfl
  have HC := Lib.hid (fun W => rclass_any W (s : Int) (by omega) (cl : Int) hcl)
  have HX := Lib.hid hx'
  have HH := Lib.hid h
  have HF := Lib.hid hf
  have HLI := Lib.hid hL
  have HOK := Lib.hid hok
  have c1 := h.c1
  have c3 := h.c3
  have HAT : Hid (∀ (y : Nat) (i : Nat), y ≤ 100000 → atB (y : Int) H.blks = some i → Calls Tryz.prog 69 #[.pointer (some ⟨p, 0, none⟩), .int .i64 (y : Int)] w fun e w' => e = .returned (.int .i64 (ixV (some i))) ∧ w = w') := fun y i hy ha => hat_any h (by omega) (y : Int) (by omega) _ ha
  clear h hf hL hok hx hx' hcl hs
  go_enter Tryz.func73, Tryz.ntmps73
  go_wp2_with fail
  refine (HC.out _).mono ?_
  rintro e w1 ⟨rfl, rfl⟩
  clear HC
  go_wp2
  go_loopw [5] (fun t wr => ∃ d k : Nat, t = .int .i64 (d : Int) ∧ d + k = 22 ∧ x = H.findC s k d ∧ w = wr) (fun t _ => 22 - (intOf t).toNat)
  case atStart => exact ⟨cl, 22 - cl, rfl, by omega, HX.out.symm, rfl⟩
  case round =>
    obtain ⟨d, k, rfl, hdk, hxf, rfl⟩ := hrel
    by_cases hd22 : d < 22
    · obtain ⟨k, rfl⟩ : ∃ k', k = k' + 1 := ⟨k - 1, by omega⟩
      obtain ⟨A, cc, hcell, hlo⟩ := HH.out.lcell hd22
      have hrw := (own_rw hlo).1
      have hfew := HF.out d hd22
      have hlst := HLI.out d hd22
      have hxf' : x = (match findL H.blks s (H.lists d) with
        | some i => some i
        | none => H.findC s k (d + 1)) := hxf
      obtain ⟨LL, hLL⟩ : ∃ LL, H.lists d = LL := ⟨_, rfl⟩
      rw [hLL] at hcell hrw hfew hlst hxf'
      obtain ⟨M, hM⟩ : ∃ M, LL.length = M := ⟨_, rfl⟩
      rw [hM] at hcell hfew
      have HM := Lib.hid hM
      have HXF := Lib.hid hxf'
      have HRW := Lib.hid hrw
      have HLS := Lib.hid hlst
      have hdi : (d : Int) < 22 := by omega
      clear hLL hM hxf hxf' hrw hlst hlo HX HF HLI
      go_wp2
      go_loopw [6] (fun i wr => ∃ j : Nat, j ≤ M ∧ i = .int .i64 (j : Int) ∧ findL H.blks s LL = findL H.blks s (LL.drop j) ∧ w = wr) (fun i _ => M - (intOf i).toNat)
      case atStart => exact ⟨0, Nat.zero_le _, rfl, rfl, rfl⟩
      case round =>
        obtain ⟨j, hj, rfl, hall, rfl⟩ := hrel
        by_cases hlt : j < M
        · obtain ⟨y, hy⟩ : ∃ y, LL[j]? = some y := ⟨LL[j]'(by rw [HM.out]; exact hlt), List.getElem?_eq_getElem _⟩
          obtain ⟨i, hi⟩ := HLS.out y (List.mem_of_getElem? hy)
          obtain ⟨bd, od, rfl, hbd, _, hcd⟩ := HRW.out (by rw [HM.out]; omega)
          have hyc := hcd j y hy
          obtain ⟨hib, hoff⟩ := atB_at hi
          have hst := findL_drop (s := s) hy hi
          have hsz := (isSz_iff _).1 (HOK.out.sz hib)
          have hy5 : y ≤ 100000 := by
            have h1 := (tile_mem _ _ _ (HOK.out.at_ hib).2.2).1
            have h2 := HOK.out.le
            omega
          have HA := Lib.hid (HAT.out y i hy5 hi)
          have hji : (j : Int) < (M : Int) := by omega
          have hi512 : i < 512 := by omega
          have HST : Hid (findL H.blks s LL = if s ≤ (bkAt H.blks i).size then some i else findL H.blks s (LL.drop (j + 1))) := (show _ = _ by rw [hall, hst])
          obtain ⟨b1, cb, rfl, _, hnb, _⟩ := own_nn HH.out.ob (by omega)
          have d1 := (HH.out.at_n rfl hib).2.1
          obtain ⟨n, hn⟩ : ∃ n, H.blks.length = n := ⟨_, rfl⟩
          rw [hn] at c1 hib hnb
          obtain ⟨xs, hxs⟩ : ∃ xs, (bkAt H.blks i).size = xs := ⟨_, rfl⟩
          rw [hxs] at d1 hsz HST
          have hin : (i : Int) < (n : Int) := by omega
          clear hi hy hoff hst hn hxs hbd hcd HAT HLS HOK HRW HH hall
          by_cases hge : s ≤ xs
          · have hx1 : x = some i := by rw [HXF.out, HST.out, if_pos hge]
            subst hx1
            have hge2 : (s : Int) ≤ (xs : Int) := by omega
            clear HXF HST
            go_wp2_with fail
            refine HA.out.mono ?_
            rintro e w2 ⟨rfl, rfl⟩
            clear HA
            dsimp only [ixV]
            go_wp2
            go_ret
            exact ⟨rfl, rfl⟩
          · have hge2 : (xs : Int) < (s : Int) := by omega
            have hst2 : findL H.blks s LL = findL H.blks s (LL.drop (j + 1)) := by rw [HST.out, if_neg hge]
            have HST2 := Lib.hid hst2
            clear hst2 HST
            go_wp2_with fail
            refine HA.out.mono ?_
            rintro e w2 ⟨rfl, rfl⟩
            clear HA
            dsimp only [ixV]
            go_wp2
            go_roundw
            case rel => exact ⟨j + 1, by omega, by go_num, HST2.out, trivial⟩
            case measure => simp only [intOf]; omega
        · obtain rfl : M = j := by omega
          have hx2 : x = H.findC s k (d + 1) := by
            rw [HXF.out, hall, List.drop_of_length_le (by rw [HM.out]; exact Nat.le_refl _)]
            rfl
          have HX2 := Lib.hid hx2
          clear hx2 hall HXF HRW HLS
          go_wp2
          go_roundw
          case rel => exact ⟨d + 1, k, by go_num, by omega, HX2.out, trivial⟩
          case measure => simp only [intOf]; omega
    · obtain ⟨rfl, rfl⟩ : d = 22 ∧ k = 0 := by omega
      obtain rfl : x = none := by rw [hxf]; rfl
      clear hxf HX HH HF HLI HAT HOK
      go_wp2
      go_ret
      exact ⟨rfl, rfl⟩
end
end Go.Proofs.YtbemaoncakcnjaaGreat

/- The contract of the document's heap: Take. -/
namespace Go.Proofs.YtbemaoncakcnjaaGreat
open Go.RowKit

def badT (x : Option Nat) : Int := if x.isSome then 0 else 5
theorem take_found {H : Hp} {s i : Nat} (h : H.find s = some i) : H.take s = (some (bkAt H.blks i).off, (H.out i).cut i s) := by
  unfold Hp.take
  rw [h]
theorem take_not {H : Hp} {s : Nat} (h : H.find s = none) : H.take s = if H.cap < lenB H.blks + s - tailF H.blks then (none, H)
    else if 0 < tailF H.blks then (some (bkAt H.blks (H.blks.length - 1)).off, ((H.out (H.blks.length - 1)).size (H.blks.length - 1) s).use (H.blks.length - 1) true)
    else (some (lenB H.blks), H.put H.blks.length ⟨lenB H.blks, s, true⟩) := by
  unfold Hp.take
  rw [h]
theorem tail_zero {l : List Bk} (h : l.length = 0) : tailF l = 0 := by unfold tailF; rw [if_pos h]
theorem tail_used {l : List Bk} {k : Nat} (h : l.length = k + 1) (hu : (bkAt l k).used = true) : tailF l = 0 := by unfold tailF; rw [if_neg (by omega), show l.length - 1 = k by omega, if_pos hu]
theorem tail_free {l : List Bk} {k : Nat} (h : l.length = k + 1) (hu : (bkAt l k).used = false) : tailF l = (bkAt l k).size := by unfold tailF; rw [if_neg (by omega), show l.length - 1 = k by omega, if_neg (by rw [hu]; decide)]
section
variable {F : Nat → Prop} {w w' : World} {p gl : Nat} {H : Hp} {Vb Vd : Value} {cs : List Value}
theorem find_listed {H : Hp} {s : Nat} : ∀ {i : Nat}, H.find s = some i → i < H.blks.length ∧ s ≤ (bkAt H.blks i).size := by
  have one : ∀ (LL : List Nat) (i : Nat), findL H.blks s LL = some i → i < H.blks.length ∧ s ≤ (bkAt H.blks i).size := by
    intro LL
    induction LL with
    | nil => intro i h; cases h
    | cons o r ih =>
      intro i h
      unfold findL at h
      split at h
      · cases h
      · rename_i j hj
        split at h
        · rename_i hs
          injection h with h
          subst h
          exact ⟨(atB_at hj).1, hs⟩
        · exact ih i h
  have go : ∀ (k c i : Nat), H.findC s k c = some i → i < H.blks.length ∧ s ≤ (bkAt H.blks i).size := by
    intro k
    induction k with
    | zero => intro c i h; cases h
    | succ k ih =>
      intro c i h
      unfold Hp.findC at h
      split at h
      · rename_i j hj
        injection h with h
        subst h
        exact one _ _ hj
      · exact ih _ _ h
  intro i h
  exact go _ _ _ h
set_option maxHeartbeats 2000000 in
theorem htake_f (h : Hm F w p H Vb Vd gl cs) (hok : H.Ok) (N : Nat) (hf : H.Few N) (hN : N ≤ 50000) (hL : H.Listed) (s : Nat) (hs : isSz (s : Int) = true) (i : Nat) (hx : H.find s = some i) :
    Calls Tryz.prog 43 #[.pointer (some ⟨p, 0, none⟩), .int .i64 (s : Int)] w fun e w' => e = .returned (.tuple #[.int .i64 (((H.take s).1.getD 0 : Nat) : Int), .int .i64 (badT (H.take s).1)]) ∧ HT F w p (H.take s).2 w' := by
  obtain ⟨hi, hle⟩ := find_listed hx
  have htk := take_found hx
  have hn512 := hok.n
  have HFI := Lib.hid (hfind_any h hok N hf hN hL s hs _ hx)
  have HOUT := Lib.hid (hout_any h i hi (hok.sz hi) (fun d hd => Nat.le_trans (hf d hd) (by omega)))
  have HH := Lib.hid h
  have HOK := Lib.hid (Hp.Ok.out (i := i) hok)
  have HFW := Lib.hid (Hp.Few.out (i := i) hf)
  have HTK := Lib.hid htk
  have HS := Lib.hid hs
  have hi2 : i < 512 := by omega
  have HI := Lib.hid hi
  clear h hok hf hL hs hx htk hle hi hn512
  go_enter Tryz.func43, Tryz.ntmps43
  go_wp2_with fail
  refine HFI.out.mono ?_
  rintro e w2 ⟨rfl, rfl⟩
  dsimp only [ixV]
  go_wp2_with fail
  refine HOUT.out.mono ?_
  rintro e w3 ⟨rfl, ht⟩
  obtain ⟨F3, Vb3, Vd3, gl3, cs3, z3⟩ := (Hz.start HH.out).step ht
  obtain ⟨b3, c3, rfl, hb3, hnc3, _⟩ := own_nn z3.hm.ob (by show 0 < H.blks.length; have := HI.out; omega)
  have q1 := z3.hm.c1
  have d0 := (z3.hm.at_n (show (H.out i).blks.length = H.blks.length from rfl) HI.out).1
  have e0 : (bkAt (H.out i).blks i).off = (bkAt H.blks i).off := rfl
  rw [e0] at d0
  have e1 : (H.out i).blks.length = H.blks.length := rfl
  rw [e1] at q1
  have HC := Lib.hid (hcut_any z3.hm HOK.out N HFW.out hN i HI.out s HS.out)
  have Z3 := Lib.hid z3
  obtain ⟨xo, hxo⟩ : ∃ xo, (bkAt H.blks i).off = xo := ⟨_, rfl⟩
  rw [hxo] at d0
  have HXO := Lib.hid hxo
  obtain ⟨n, hn⟩ : ∃ n, H.blks.length = n := ⟨_, rfl⟩
  rw [hn] at q1
  have hin : (i : Int) < (n : Int) := by have := HI.out; omega
  clear z3 ht hb3 hnc3 hxo hn e0 e1 HFI HOUT HH HOK HFW HS
  go_wp2_with fail
  refine HC.out.mono ?_
  rintro e w4 ⟨rfl, ht⟩
  have hto : HT F w p (H.take s).2 w4 := by
    rw [HTK.out]
    exact Z3.out.last ht
  have HTO := Lib.hid hto
  clear hto ht HC q1 d0
  go_wp2
  go_ret2
  exact ⟨by rw [HTK.out, HXO.out]; rfl, HTO.out⟩

set_option maxHeartbeats 2000000 in
theorem htake_ZN (h : Hm F w p H Vb Vd gl cs) (hok : H.Ok) (N : Nat) (hf : H.Few N) (hN : N ≤ 50000) (hL : H.Listed) (s : Nat) (hs : isSz (s : Int) = true) (hcap : H.cap ≤ 100000) (hx : H.find s = none) (hz : H.blks.length = 0) (hr : H.cap < lenB H.blks + s - tailF H.blks) :
    Calls Tryz.prog 43 #[.pointer (some ⟨p, 0, none⟩), .int .i64 (s : Int)] w fun e w' => e = .returned (.tuple #[.int .i64 (((H.take s).1.getD 0 : Nat) : Int), .int .i64 (badT (H.take s).1)]) ∧ HT F w p (H.take s).2 w' := by
  have htk := take_not hx
  have hn512 := hok.n
  have hle := hok.le
  have hss := (isSz_iff _).1 hs
  obtain ⟨A1, c1, rfl⟩ := own_sl h.ob
  have htf : tailF H.blks = 0 := tail_zero hz
  rw [if_pos hr] at htk
  rw [htf] at hr
  obtain ⟨wd, hwd⟩ : ∃ wd, w.drew = wd := ⟨_, rfl⟩
  have hbd : Below w.heap.size w wd := by rw [← hwd]; exact (Below.refl _ _).drew
  have hd := h.below hbd
  have HFI := Lib.hid (hfind_any h hok N hf hN hL s hs _ hx)
  have HLEN := Lib.hid (hlen_any hd (by omega) (by omega))
  have q1 := h.c1
  have r0 := hd.c0
  have hpd := hd.lt
  have HH := Lib.hid h
  have HD := Lib.hid hd
  have HBD := Lib.hid hbd
  have HWD := Lib.hid hwd
  have HTK := Lib.hid htk
  obtain ⟨ll, hll⟩ : ∃ ll, lenB H.blks = ll := ⟨_, rfl⟩
  rw [hll] at HLEN hr hle 
  obtain ⟨cap, hcp⟩ : ∃ cap, H.cap = cap := ⟨_, rfl⟩
  rw [hcp] at r0 hr hcap
  obtain ⟨n, hn⟩ : ∃ n, H.blks.length = n := ⟨_, rfl⟩
  rw [hn] at q1 hz hn512 
  have hz2 : (n : Int) - 1 = -1 := by omega
  have hz3 : (n : Int) ≤ 0 := by omega
  have hrm : (cap : Int) < (ll : Int) + (s : Int) := by omega
  have HZ := Lib.hid hz
  have HN := Lib.hid hn
  have HLL := Lib.hid hll
  clear h hd hbd hwd htk hx hok hL hs htf hr hcp hz hn hll hf
  go_enter Tryz.func43, Tryz.ntmps43
  go_wp2_with fail
  refine HFI.out.mono ?_
  rintro e w2 ⟨rfl, rfl⟩
  clear HFI
  dsimp only [ixV]
  go_wp2_with fail
  refine wp_region_tail wd.heap.size [([0, 2, 4, 6, 7, 8, 9], 1)] [3, 5, 10] [] (by kernel_rfl) (by kernel_rfl) (by kernel_rfl) (fun _ _ _ _ _ h => h) ?_
  rw [HWD.out]
  have t1 : ∀ z : LaterB wd.heap.size wd, z.val.cell? ⟨p, 0, none⟩ = some (.int .i64 (cap : Int)) := fun z => (z.ext.cell (p := ⟨p, 0, none⟩) hpd).trans r0
  refine tail_cons (l := ?segTZN) ?hsegTZN ?_
  case hsegTZN => simp only [pick, List.getElem?_toArray, List.getElem?_cons_succ, List.getElem?_cons_zero]; rfl
  repeat (go_big_quiet_step (fail))
  refine wpQuiet_nil ?_
  clear t1
  refine tail_call (vs := #[.pointer (some ⟨p, 0, none⟩)]) Tryz.call75 rfl rfl rfl (R := fun r w' => r = .int .i64 (ll : Int) ∧ w' = wd) (HLEN.out.mono ?_) wd.heap.size (Nat.le_refl _) ?_
  · rintro e w' ⟨rfl, rfl⟩
    exact ⟨_, rfl, Below.refl _ _, rfl, rfl⟩
  rintro r w11 _ ⟨rfl, rfl⟩
  refine tail_last (l := ?laTZN) (t := []) ?hlaTZN ?htlTZN ?_
  case hlaTZN => simp only [pick, List.getElem?_toArray, List.getElem?_cons_succ, List.getElem?_cons_zero]; rfl
  case htlTZN => rfl
  simp only [Act.put, List.setIfInBounds_toArray, List.set_cons_zero, List.set_cons_succ]
  repeat (go_big_quiet_step (fail))
  refine wpQuiet_nil ?_
  go_wp2
  go_ret2
  exact ⟨by rw [HTK.out]; rfl, by rw [HTK.out]; exact HT.of_below ⟨_, _, _, _, HH.out⟩ HBD.out⟩

set_option maxHeartbeats 2000000 in
theorem htake_ZR (h : Hm F w p H Vb Vd gl cs) (hok : H.Ok) (N : Nat) (hf : H.Few N) (hN : N ≤ 50000) (hL : H.Listed) (s : Nat) (hs : isSz (s : Int) = true) (hcap : H.cap ≤ 100000) (hx : H.find s = none) (hz : H.blks.length = 0) (hr : ¬ H.cap < lenB H.blks + s - tailF H.blks) :
    Calls Tryz.prog 43 #[.pointer (some ⟨p, 0, none⟩), .int .i64 (s : Int)] w fun e w' => e = .returned (.tuple #[.int .i64 (((H.take s).1.getD 0 : Nat) : Int), .int .i64 (badT (H.take s).1)]) ∧ HT F w p (H.take s).2 w' := by
  have htk := take_not hx
  have hn512 := hok.n
  have hle := hok.le
  have hss := (isSz_iff _).1 hs
  obtain ⟨A1, c1, rfl⟩ := own_sl h.ob
  have htf : tailF H.blks = 0 := tail_zero hz
  rw [if_neg hr, htf, if_neg (by omega)] at htk
  rw [htf] at hr
  obtain ⟨wd, hwd⟩ : ∃ wd, w.drew = wd := ⟨_, rfl⟩
  have hbd : Below w.heap.size w wd := by rw [← hwd]; exact (Below.refl _ _).drew
  have hd := h.below hbd
  have HFI := Lib.hid (hfind_any h hok N hf hN hL s hs _ hx)
  have HLEN := Lib.hid (hlen_any hd (by omega) (by omega))
  have q1 := h.c1
  have r0 := hd.c0
  have hpd := hd.lt
  have HH := Lib.hid h
  have HD := Lib.hid hd
  have HBD := Lib.hid hbd
  have HWD := Lib.hid hwd
  have HTK := Lib.hid htk
  have HPUT := Lib.hid (hput_any hd H.blks.length (Nat.le_refl _) (by omega) hok.dl ⟨lenB H.blks, s, true⟩)
  obtain ⟨ll, hll⟩ : ∃ ll, lenB H.blks = ll := ⟨_, rfl⟩
  rw [hll] at HLEN hr hle  HPUT
  obtain ⟨cap, hcp⟩ : ∃ cap, H.cap = cap := ⟨_, rfl⟩
  rw [hcp] at r0 hr hcap
  obtain ⟨n, hn⟩ : ∃ n, H.blks.length = n := ⟨_, rfl⟩
  rw [hn] at q1 hz hn512  HPUT
  have hz2 : (n : Int) - 1 = -1 := by omega
  have hz3 : (n : Int) ≤ 0 := by omega
  have hrm : (ll : Int) + (s : Int) ≤ (cap : Int) := by omega
  have HZ := Lib.hid hz
  have HN := Lib.hid hn
  have HLL := Lib.hid hll
  clear h hd hbd hwd htk hx hok hL hs htf hr hcp hz hn hll hf
  go_enter Tryz.func43, Tryz.ntmps43
  go_wp2_with fail
  refine HFI.out.mono ?_
  rintro e w2 ⟨rfl, rfl⟩
  clear HFI
  dsimp only [ixV]
  go_wp2_with fail
  refine wp_region_tail wd.heap.size [([0, 2, 4, 6, 7, 8, 9], 1)] [3, 5, 10] [] (by kernel_rfl) (by kernel_rfl) (by kernel_rfl) (fun _ _ _ _ _ h => h) ?_
  rw [HWD.out]
  have t1 : ∀ z : LaterB wd.heap.size wd, z.val.cell? ⟨p, 0, none⟩ = some (.int .i64 (cap : Int)) := fun z => (z.ext.cell (p := ⟨p, 0, none⟩) hpd).trans r0
  refine tail_cons (l := ?segTZR) ?hsegTZR ?_
  case hsegTZR => simp only [pick, List.getElem?_toArray, List.getElem?_cons_succ, List.getElem?_cons_zero]; rfl
  repeat (go_big_quiet_step (fail))
  refine wpQuiet_nil ?_
  clear t1
  refine tail_call (vs := #[.pointer (some ⟨p, 0, none⟩)]) Tryz.call75 rfl rfl rfl (R := fun r w' => r = .int .i64 (ll : Int) ∧ w' = wd) (HLEN.out.mono ?_) wd.heap.size (Nat.le_refl _) ?_
  · rintro e w' ⟨rfl, rfl⟩
    exact ⟨_, rfl, Below.refl _ _, rfl, rfl⟩
  rintro r w11 _ ⟨rfl, rfl⟩
  refine tail_last (l := ?laTZR) (t := []) ?hlaTZR ?htlTZR ?_
  case hlaTZR => simp only [pick, List.getElem?_toArray, List.getElem?_cons_succ, List.getElem?_cons_zero]; rfl
  case htlTZR => rfl
  simp only [Act.put, List.setIfInBounds_toArray, List.set_cons_zero, List.set_cons_succ]
  repeat (go_big_quiet_step (fail))
  refine wpQuiet_nil ?_
  go_wp2_with fail
  refine HLEN.out.mono ?_
  rintro e w12 ⟨rfl, rfl⟩
  have q2 := HD.out.c1
  rw [HN.out] at q2
  go_wp2_with fail
  refine HPUT.out.mono ?_
  rintro e w13 ⟨rfl, ht⟩
  have hto : HT F w p (H.take s).2 w13 := by
    rw [HTK.out]
    dsimp only
    rw [HN.out, HLL.out]
    exact HT.after HBD.out ht
  have HTO := Lib.hid hto
  clear hto ht HPUT HLEN q2
  go_wp2
  go_ret2
  exact ⟨by rw [HTK.out, HLL.out]; rfl, HTO.out⟩

set_option maxHeartbeats 2000000 in
theorem htake_UN (h : Hm F w p H Vb Vd gl cs) (hok : H.Ok) (N : Nat) (hf : H.Few N) (hN : N ≤ 50000) (hL : H.Listed) (s : Nat) (hs : isSz (s : Int) = true) (hcap : H.cap ≤ 100000) (hx : H.find s = none) (ln : Nat) (hz : H.blks.length = ln + 1) (hu : (bkAt H.blks ln).used = true) (hr : H.cap < lenB H.blks + s - tailF H.blks) :
    Calls Tryz.prog 43 #[.pointer (some ⟨p, 0, none⟩), .int .i64 (s : Int)] w fun e w' => e = .returned (.tuple #[.int .i64 (((H.take s).1.getD 0 : Nat) : Int), .int .i64 (badT (H.take s).1)]) ∧ HT F w p (H.take s).2 w' := by
  have htk := take_not hx
  have hn512 := hok.n
  have hle := hok.le
  have hss := (isSz_iff _).1 hs
  obtain ⟨A1, c1, rfl⟩ := own_sl h.ob
  have htf : tailF H.blks = 0 := tail_used hz hu
  rw [if_pos hr] at htk
  rw [htf] at hr
  obtain ⟨wd, hwd⟩ : ∃ wd, w.drew = wd := ⟨_, rfl⟩
  have hbd : Below w.heap.size w wd := by rw [← hwd]; exact (Below.refl _ _).drew
  have hd := h.below hbd
  have HFI := Lib.hid (hfind_any h hok N hf hN hL s hs _ hx)
  have HLEN := Lib.hid (hlen_any hd (by omega) (by omega))
  have q1 := h.c1
  have r0 := hd.c0
  have hpd := hd.lt
  have HH := Lib.hid h
  have HD := Lib.hid hd
  have HBD := Lib.hid hbd
  have HWD := Lib.hid hwd
  have HTK := Lib.hid htk
  obtain ⟨bb, cb, hVb, _, hnb, _⟩ := own_nn h.ob (by omega)
  injection hVb with e1 _ e3
  subst e1 e3
  have d := h.at_n rfl (i := ln) (by omega)
  obtain ⟨_, d1, d2⟩ := d
  rw [hu] at d2
  obtain ⟨ll, hll⟩ : ∃ ll, lenB H.blks = ll := ⟨_, rfl⟩
  rw [hll] at HLEN hr hle 
  obtain ⟨cap, hcp⟩ : ∃ cap, H.cap = cap := ⟨_, rfl⟩
  rw [hcp] at r0 hr hcap
  obtain ⟨n, hn⟩ : ∃ n, H.blks.length = n := ⟨_, rfl⟩
  rw [hn] at q1 hz hn512 hnb
  have hln : (n : Int) - 1 = (ln : Int) := by omega
  have hlt : (ln : Int) < (n : Int) := by omega
  have hrm : (cap : Int) < (ll : Int) + (s : Int) := by omega
  have HZ := Lib.hid hz
  have HN := Lib.hid hn
  have HLL := Lib.hid hll
  clear h hd hbd hwd htk hx hok hL hs htf hr hcp hz hn hll hf
  clear hu
  go_enter Tryz.func43, Tryz.ntmps43
  go_wp2_with fail
  refine HFI.out.mono ?_
  rintro e w2 ⟨rfl, rfl⟩
  clear HFI
  dsimp only [ixV]
  go_wp2_with fail
  refine wp_region_tail wd.heap.size [([0, 2, 4, 6, 7, 8, 9], 1)] [3, 5, 10] [] (by kernel_rfl) (by kernel_rfl) (by kernel_rfl) (fun _ _ _ _ _ h => h) ?_
  rw [HWD.out]
  have t1 : ∀ z : LaterB wd.heap.size wd, z.val.cell? ⟨p, 0, none⟩ = some (.int .i64 (cap : Int)) := fun z => (z.ext.cell (p := ⟨p, 0, none⟩) hpd).trans r0
  refine tail_cons (l := ?segTUN) ?hsegTUN ?_
  case hsegTUN => simp only [pick, List.getElem?_toArray, List.getElem?_cons_succ, List.getElem?_cons_zero]; rfl
  repeat (go_big_quiet_step (fail))
  refine wpQuiet_nil ?_
  clear t1
  refine tail_call (vs := #[.pointer (some ⟨p, 0, none⟩)]) Tryz.call75 rfl rfl rfl (R := fun r w' => r = .int .i64 (ll : Int) ∧ w' = wd) (HLEN.out.mono ?_) wd.heap.size (Nat.le_refl _) ?_
  · rintro e w' ⟨rfl, rfl⟩
    exact ⟨_, rfl, Below.refl _ _, rfl, rfl⟩
  rintro r w11 _ ⟨rfl, rfl⟩
  refine tail_last (l := ?laTUN) (t := []) ?hlaTUN ?htlTUN ?_
  case hlaTUN => simp only [pick, List.getElem?_toArray, List.getElem?_cons_succ, List.getElem?_cons_zero]; rfl
  case htlTUN => rfl
  simp only [Act.put, List.setIfInBounds_toArray, List.set_cons_zero, List.set_cons_succ]
  repeat (go_big_quiet_step (fail))
  refine wpQuiet_nil ?_
  go_wp2
  go_ret2
  exact ⟨by rw [HTK.out]; rfl, by rw [HTK.out]; exact HT.of_below ⟨_, _, _, _, HH.out⟩ HBD.out⟩

set_option maxHeartbeats 2000000 in
theorem htake_UR (h : Hm F w p H Vb Vd gl cs) (hok : H.Ok) (N : Nat) (hf : H.Few N) (hN : N ≤ 50000) (hL : H.Listed) (s : Nat) (hs : isSz (s : Int) = true) (hcap : H.cap ≤ 100000) (hx : H.find s = none) (ln : Nat) (hz : H.blks.length = ln + 1) (hu : (bkAt H.blks ln).used = true) (hr : ¬ H.cap < lenB H.blks + s - tailF H.blks) :
    Calls Tryz.prog 43 #[.pointer (some ⟨p, 0, none⟩), .int .i64 (s : Int)] w fun e w' => e = .returned (.tuple #[.int .i64 (((H.take s).1.getD 0 : Nat) : Int), .int .i64 (badT (H.take s).1)]) ∧ HT F w p (H.take s).2 w' := by
  have htk := take_not hx
  have hn512 := hok.n
  have hle := hok.le
  have hss := (isSz_iff _).1 hs
  obtain ⟨A1, c1, rfl⟩ := own_sl h.ob
  have htf : tailF H.blks = 0 := tail_used hz hu
  rw [if_neg hr, htf, if_neg (by omega)] at htk
  rw [htf] at hr
  obtain ⟨wd, hwd⟩ : ∃ wd, w.drew = wd := ⟨_, rfl⟩
  have hbd : Below w.heap.size w wd := by rw [← hwd]; exact (Below.refl _ _).drew
  have hd := h.below hbd
  have HFI := Lib.hid (hfind_any h hok N hf hN hL s hs _ hx)
  have HLEN := Lib.hid (hlen_any hd (by omega) (by omega))
  have q1 := h.c1
  have r0 := hd.c0
  have hpd := hd.lt
  have HH := Lib.hid h
  have HD := Lib.hid hd
  have HBD := Lib.hid hbd
  have HWD := Lib.hid hwd
  have HTK := Lib.hid htk
  obtain ⟨bb, cb, hVb, _, hnb, _⟩ := own_nn h.ob (by omega)
  injection hVb with e1 _ e3
  subst e1 e3
  have d := h.at_n rfl (i := ln) (by omega)
  obtain ⟨_, d1, d2⟩ := d
  rw [hu] at d2
  have HPUT := Lib.hid (hput_any hd H.blks.length (Nat.le_refl _) (by omega) hok.dl ⟨lenB H.blks, s, true⟩)
  obtain ⟨ll, hll⟩ : ∃ ll, lenB H.blks = ll := ⟨_, rfl⟩
  rw [hll] at HLEN hr hle  HPUT
  obtain ⟨cap, hcp⟩ : ∃ cap, H.cap = cap := ⟨_, rfl⟩
  rw [hcp] at r0 hr hcap
  obtain ⟨n, hn⟩ : ∃ n, H.blks.length = n := ⟨_, rfl⟩
  rw [hn] at q1 hz hn512 hnb HPUT
  have hln : (n : Int) - 1 = (ln : Int) := by omega
  have hlt : (ln : Int) < (n : Int) := by omega
  have hrm : (ll : Int) + (s : Int) ≤ (cap : Int) := by omega
  have HZ := Lib.hid hz
  have HN := Lib.hid hn
  have HLL := Lib.hid hll
  clear h hd hbd hwd htk hx hok hL hs htf hr hcp hz hn hll hf
  clear hu
  go_enter Tryz.func43, Tryz.ntmps43
  go_wp2_with fail
  refine HFI.out.mono ?_
  rintro e w2 ⟨rfl, rfl⟩
  clear HFI
  dsimp only [ixV]
  go_wp2_with fail
  refine wp_region_tail wd.heap.size [([0, 2, 4, 6, 7, 8, 9], 1)] [3, 5, 10] [] (by kernel_rfl) (by kernel_rfl) (by kernel_rfl) (fun _ _ _ _ _ h => h) ?_
  rw [HWD.out]
  have t1 : ∀ z : LaterB wd.heap.size wd, z.val.cell? ⟨p, 0, none⟩ = some (.int .i64 (cap : Int)) := fun z => (z.ext.cell (p := ⟨p, 0, none⟩) hpd).trans r0
  refine tail_cons (l := ?segTUR) ?hsegTUR ?_
  case hsegTUR => simp only [pick, List.getElem?_toArray, List.getElem?_cons_succ, List.getElem?_cons_zero]; rfl
  repeat (go_big_quiet_step (fail))
  refine wpQuiet_nil ?_
  clear t1
  refine tail_call (vs := #[.pointer (some ⟨p, 0, none⟩)]) Tryz.call75 rfl rfl rfl (R := fun r w' => r = .int .i64 (ll : Int) ∧ w' = wd) (HLEN.out.mono ?_) wd.heap.size (Nat.le_refl _) ?_
  · rintro e w' ⟨rfl, rfl⟩
    exact ⟨_, rfl, Below.refl _ _, rfl, rfl⟩
  rintro r w11 _ ⟨rfl, rfl⟩
  refine tail_last (l := ?laTUR) (t := []) ?hlaTUR ?htlTUR ?_
  case hlaTUR => simp only [pick, List.getElem?_toArray, List.getElem?_cons_succ, List.getElem?_cons_zero]; rfl
  case htlTUR => rfl
  simp only [Act.put, List.setIfInBounds_toArray, List.set_cons_zero, List.set_cons_succ]
  repeat (go_big_quiet_step (fail))
  refine wpQuiet_nil ?_
  go_wp2_with fail
  refine HLEN.out.mono ?_
  rintro e w12 ⟨rfl, rfl⟩
  have q2 := HD.out.c1
  rw [HN.out] at q2
  go_wp2_with fail
  refine HPUT.out.mono ?_
  rintro e w13 ⟨rfl, ht⟩
  have hto : HT F w p (H.take s).2 w13 := by
    rw [HTK.out]
    dsimp only
    rw [HN.out, HLL.out]
    exact HT.after HBD.out ht
  have HTO := Lib.hid hto
  clear hto ht HPUT HLEN q2
  go_wp2
  go_ret2
  exact ⟨by rw [HTK.out, HLL.out]; rfl, HTO.out⟩

set_option maxHeartbeats 2000000 in
theorem htake_YN (h : Hm F w p H Vb Vd gl cs) (hok : H.Ok) (N : Nat) (hf : H.Few N) (hN : N ≤ 50000) (hL : H.Listed) (s : Nat) (hs : isSz (s : Int) = true) (hcap : H.cap ≤ 100000) (hx : H.find s = none) (ln : Nat) (hz : H.blks.length = ln + 1) (hu : (bkAt H.blks ln).used = false) (hr : H.cap < lenB H.blks + s - tailF H.blks) :
    Calls Tryz.prog 43 #[.pointer (some ⟨p, 0, none⟩), .int .i64 (s : Int)] w fun e w' => e = .returned (.tuple #[.int .i64 (((H.take s).1.getD 0 : Nat) : Int), .int .i64 (badT (H.take s).1)]) ∧ HT F w p (H.take s).2 w' := by
  have htk := take_not hx
  have hn512 := hok.n
  have hle := hok.le
  have hss := (isSz_iff _).1 hs
  obtain ⟨A1, c1, rfl⟩ := own_sl h.ob
  have htf : tailF H.blks = (bkAt H.blks ln).size := tail_free hz hu
  have hsl := (isSz_iff _).1 (hok.sz (i := ln) (by omega))
  have hlenl := (tile_mem _ _ _ (hok.at_ (i := ln) (by omega)).2.2).1
  rw [if_pos hr] at htk
  rw [htf] at hr
  obtain ⟨wd, hwd⟩ : ∃ wd, w.drew = wd := ⟨_, rfl⟩
  have hbd : Below w.heap.size w wd := by rw [← hwd]; exact (Below.refl _ _).drew
  have hd := h.below hbd
  have HFI := Lib.hid (hfind_any h hok N hf hN hL s hs _ hx)
  have HLEN := Lib.hid (hlen_any hd (by omega) (by omega))
  have q1 := h.c1
  have r0 := hd.c0
  have hpd := hd.lt
  have HH := Lib.hid h
  have HD := Lib.hid hd
  have HBD := Lib.hid hbd
  have HWD := Lib.hid hwd
  have HTK := Lib.hid htk
  obtain ⟨bb, cb, hVb, _, hnb, _⟩ := own_nn h.ob (by omega)
  injection hVb with e1 _ e3
  subst e1 e3
  have d := h.at_n rfl (i := ln) (by omega)
  obtain ⟨_, d1, d2⟩ := d
  rw [hu] at d2
  have HOUT := Lib.hid (hout_any hd ln (by omega) (hok.sz (by omega)) (fun d hd => Nat.le_trans (hf d hd) (by omega)))
  obtain ⟨xs, hxs⟩ : ∃ xs, (bkAt H.blks ln).size = xs := ⟨_, rfl⟩
  rw [hxs] at d1 hr hsl hlenl
  obtain ⟨ll, hll⟩ : ∃ ll, lenB H.blks = ll := ⟨_, rfl⟩
  rw [hll] at HLEN hr hle hlenl
  obtain ⟨cap, hcp⟩ : ∃ cap, H.cap = cap := ⟨_, rfl⟩
  rw [hcp] at r0 hr hcap
  obtain ⟨n, hn⟩ : ∃ n, H.blks.length = n := ⟨_, rfl⟩
  rw [hn] at q1 hz hn512 hnb
  have hln : (n : Int) - 1 = (ln : Int) := by omega
  have hlt : (ln : Int) < (n : Int) := by omega
  have hrm : (cap : Int) < (ll : Int) + (s : Int) - (xs : Int) := by omega
  have hxp : 0 < (xs : Int) := by omega
  have HZ := Lib.hid hz
  have HN := Lib.hid hn
  have HLL := Lib.hid hll
  clear h hd hbd hwd htk hx hok hL hs htf hr hcp hz hn hll hf
  clear hu hxs
  go_enter Tryz.func43, Tryz.ntmps43
  go_wp2_with fail
  refine HFI.out.mono ?_
  rintro e w2 ⟨rfl, rfl⟩
  clear HFI
  dsimp only [ixV]
  go_wp2_with fail
  refine wp_region_tail wd.heap.size [([0, 2, 4, 6, 7, 8, 9], 1)] [3, 5, 10] [] (by kernel_rfl) (by kernel_rfl) (by kernel_rfl) (fun _ _ _ _ _ h => h) ?_
  rw [HWD.out]
  have t1 : ∀ z : LaterB wd.heap.size wd, z.val.cell? ⟨p, 0, none⟩ = some (.int .i64 (cap : Int)) := fun z => (z.ext.cell (p := ⟨p, 0, none⟩) hpd).trans r0
  refine tail_cons (l := ?segTYN) ?hsegTYN ?_
  case hsegTYN => simp only [pick, List.getElem?_toArray, List.getElem?_cons_succ, List.getElem?_cons_zero]; rfl
  repeat (go_big_quiet_step (fail))
  refine wpQuiet_nil ?_
  clear t1
  refine tail_call (vs := #[.pointer (some ⟨p, 0, none⟩)]) Tryz.call75 rfl rfl rfl (R := fun r w' => r = .int .i64 (ll : Int) ∧ w' = wd) (HLEN.out.mono ?_) wd.heap.size (Nat.le_refl _) ?_
  · rintro e w' ⟨rfl, rfl⟩
    exact ⟨_, rfl, Below.refl _ _, rfl, rfl⟩
  rintro r w11 _ ⟨rfl, rfl⟩
  refine tail_last (l := ?laTYN) (t := []) ?hlaTYN ?htlTYN ?_
  case hlaTYN => simp only [pick, List.getElem?_toArray, List.getElem?_cons_succ, List.getElem?_cons_zero]; rfl
  case htlTYN => rfl
  simp only [Act.put, List.setIfInBounds_toArray, List.set_cons_zero, List.set_cons_succ]
  repeat (go_big_quiet_step (fail))
  refine wpQuiet_nil ?_
  go_wp2
  go_ret2
  exact ⟨by rw [HTK.out]; rfl, by rw [HTK.out]; exact HT.of_below ⟨_, _, _, _, HH.out⟩ HBD.out⟩

set_option maxHeartbeats 2000000 in
theorem htake_YR (h : Hm F w p H Vb Vd gl cs) (hok : H.Ok) (N : Nat) (hf : H.Few N) (hN : N ≤ 50000) (hL : H.Listed) (s : Nat) (hs : isSz (s : Int) = true) (hcap : H.cap ≤ 100000) (hx : H.find s = none) (ln : Nat) (hz : H.blks.length = ln + 1) (hu : (bkAt H.blks ln).used = false) (hr : ¬ H.cap < lenB H.blks + s - tailF H.blks) :
    Calls Tryz.prog 43 #[.pointer (some ⟨p, 0, none⟩), .int .i64 (s : Int)] w fun e w' => e = .returned (.tuple #[.int .i64 (((H.take s).1.getD 0 : Nat) : Int), .int .i64 (badT (H.take s).1)]) ∧ HT F w p (H.take s).2 w' := by
  have htk := take_not hx
  have hn512 := hok.n
  have hle := hok.le
  have hss := (isSz_iff _).1 hs
  obtain ⟨A1, c1, rfl⟩ := own_sl h.ob
  have htf : tailF H.blks = (bkAt H.blks ln).size := tail_free hz hu
  have hsl := (isSz_iff _).1 (hok.sz (i := ln) (by omega))
  have hlenl := (tile_mem _ _ _ (hok.at_ (i := ln) (by omega)).2.2).1
  rw [if_neg hr, htf, if_pos (by omega), show H.blks.length - 1 = ln by omega] at htk
  rw [htf] at hr
  obtain ⟨wd, hwd⟩ : ∃ wd, w.drew = wd := ⟨_, rfl⟩
  have hbd : Below w.heap.size w wd := by rw [← hwd]; exact (Below.refl _ _).drew
  have hd := h.below hbd
  have HFI := Lib.hid (hfind_any h hok N hf hN hL s hs _ hx)
  have HLEN := Lib.hid (hlen_any hd (by omega) (by omega))
  have q1 := h.c1
  have r0 := hd.c0
  have hpd := hd.lt
  have HH := Lib.hid h
  have HD := Lib.hid hd
  have HBD := Lib.hid hbd
  have HWD := Lib.hid hwd
  have HTK := Lib.hid htk
  obtain ⟨bb, cb, hVb, _, hnb, _⟩ := own_nn h.ob (by omega)
  injection hVb with e1 _ e3
  subst e1 e3
  have d := h.at_n rfl (i := ln) (by omega)
  obtain ⟨_, d1, d2⟩ := d
  rw [hu] at d2
  have HOUT := Lib.hid (hout_any hd ln (by omega) (hok.sz (by omega)) (fun d hd => Nat.le_trans (hf d hd) (by omega)))
  obtain ⟨xs, hxs⟩ : ∃ xs, (bkAt H.blks ln).size = xs := ⟨_, rfl⟩
  rw [hxs] at d1 hr hsl hlenl
  obtain ⟨ll, hll⟩ : ∃ ll, lenB H.blks = ll := ⟨_, rfl⟩
  rw [hll] at HLEN hr hle hlenl
  obtain ⟨cap, hcp⟩ : ∃ cap, H.cap = cap := ⟨_, rfl⟩
  rw [hcp] at r0 hr hcap
  obtain ⟨n, hn⟩ : ∃ n, H.blks.length = n := ⟨_, rfl⟩
  rw [hn] at q1 hz hn512 hnb
  have hln : (n : Int) - 1 = (ln : Int) := by omega
  have hlt : (ln : Int) < (n : Int) := by omega
  have hrm : (ll : Int) + (s : Int) - (xs : Int) ≤ (cap : Int) := by omega
  have hxp : 0 < (xs : Int) := by omega
  have HZ := Lib.hid hz
  have HN := Lib.hid hn
  have HLL := Lib.hid hll
  clear h hd hbd hwd htk hx hok hL hs htf hr hcp hz hn hll hf
  clear hu hxs
  go_enter Tryz.func43, Tryz.ntmps43
  go_wp2_with fail
  refine HFI.out.mono ?_
  rintro e w2 ⟨rfl, rfl⟩
  clear HFI
  dsimp only [ixV]
  go_wp2_with fail
  refine wp_region_tail wd.heap.size [([0, 2, 4, 6, 7, 8, 9], 1)] [3, 5, 10] [] (by kernel_rfl) (by kernel_rfl) (by kernel_rfl) (fun _ _ _ _ _ h => h) ?_
  rw [HWD.out]
  have t1 : ∀ z : LaterB wd.heap.size wd, z.val.cell? ⟨p, 0, none⟩ = some (.int .i64 (cap : Int)) := fun z => (z.ext.cell (p := ⟨p, 0, none⟩) hpd).trans r0
  refine tail_cons (l := ?segTYR) ?hsegTYR ?_
  case hsegTYR => simp only [pick, List.getElem?_toArray, List.getElem?_cons_succ, List.getElem?_cons_zero]; rfl
  repeat (go_big_quiet_step (fail))
  refine wpQuiet_nil ?_
  clear t1
  refine tail_call (vs := #[.pointer (some ⟨p, 0, none⟩)]) Tryz.call75 rfl rfl rfl (R := fun r w' => r = .int .i64 (ll : Int) ∧ w' = wd) (HLEN.out.mono ?_) wd.heap.size (Nat.le_refl _) ?_
  · rintro e w' ⟨rfl, rfl⟩
    exact ⟨_, rfl, Below.refl _ _, rfl, rfl⟩
  rintro r w11 _ ⟨rfl, rfl⟩
  refine tail_last (l := ?laTYR) (t := []) ?hlaTYR ?htlTYR ?_
  case hlaTYR => simp only [pick, List.getElem?_toArray, List.getElem?_cons_succ, List.getElem?_cons_zero]; rfl
  case htlTYR => rfl
  simp only [Act.put, List.setIfInBounds_toArray, List.set_cons_zero, List.set_cons_succ]
  repeat (go_big_quiet_step (fail))
  refine wpQuiet_nil ?_
  go_wp2_with fail
  refine HOUT.out.mono ?_
  rintro e w13 ⟨rfl, ht⟩
  obtain ⟨F3, Vb3, Vd3, gl3, cs3, z3⟩ := ((Hz.start HH.out).below HBD.out).step ht
  obtain ⟨b3, c3, rfl, hb3, hnc3, _⟩ := own_nn z3.hm.ob (by show 0 < H.blks.length; rw [HN.out]; omega)
  have e3 : (H.out ln).blks.length = n := HN.out
  have k1 := z3.hm.c1
  rw [e3] at k1
  have f1 := own_thaw z3.hm.ob (ln * 3 + 1)
  have z4 := z3.set (a := ⟨b3, ln * 3 + 1, none⟩) (u := .int .i64 (s : Int)) (z3.hm.fb b3 rfl) (z3.hm.sizeM rfl (by rw [e3]; omega) s)
  have e4 : ((H.out ln).size ln s).blks.length = n := (List.length_set ..).trans e3
  rw [e3] at z3 z4
  have d3 := (z3.hm.at_n e3 (i := ln) (by omega)).2.1
  obtain ⟨w4, hw4⟩ : ∃ w4, w13.setCell ⟨b3, ln * 3 + 1, none⟩ (.int .i64 (s : Int)) = w4 := ⟨_, rfl⟩
  rw [hw4] at z4
  have k2 := z4.hm.c1
  have f2 := own_thaw z4.hm.ob (ln * 3 + 2)
  have d4 := (z4.hm.at_n e4 (i := ln) (by omega)).2.2
  have z5 := z4.set (a := ⟨b3, ln * 3 + 2, none⟩) (u := .bool true) (z4.hm.fb b3 rfl) (z4.hm.useM (by rw [e4]) (by rw [e4]; omega) true)
  obtain ⟨w5, hw5⟩ : ∃ w5, w4.setCell ⟨b3, ln * 3 + 2, none⟩ (.bool true) = w5 := ⟨_, rfl⟩
  rw [hw5] at z5
  have k3 := z5.hm.c1
  have e5 : (((H.out ln).size ln s).use ln true).blks.length = n := (List.length_set ..).trans e4
  have d5 := (z5.hm.at_n e5 (i := ln) (by omega)).1
  have e6 : (bkAt (((H.out ln).size ln s).use ln true).blks ln).off = (bkAt H.blks ln).off := by
    show (bkAt (((H.out ln).size ln s).blks.set ln _) ln).off = _
    rw [bkAt_set _ _ _ _ (by rw [e4]; omega), if_pos rfl]
    show (bkAt ((H.out ln).blks.set ln _) ln).off = _
    rw [bkAt_set _ _ _ _ (by rw [e3]; omega), if_pos rfl]
    rfl
  rw [e6] at d5
  obtain ⟨xo, hxo⟩ : ∃ xo, (bkAt H.blks ln).off = xo := ⟨_, rfl⟩
  rw [hxo] at d5
  have HXO := Lib.hid hxo
  have Z5 := Lib.hid z5
  have HW4 := Lib.hid hw4
  have HW5 := Lib.hid hw5
  clear ht hb3 z3 z4 z5 hw4 hw5 hxo e3 e4 e5 e6 HOUT HLEN HD q1 r0 hnc3
  go_wp2_with (first | (rw [HW4.out]) | (rw [HW5.out]) | fail)
  go_ret2
  exact ⟨by rw [HTK.out, HXO.out]; rfl, by rw [HTK.out]; exact Z5.out.fin⟩

theorem hTake_any (h : Hm F w p H Vb Vd gl cs) (hok : H.Ok) (N : Nat) (hf : H.Few N) (hN : N ≤ 50000) (hL : H.Listed) (s : Nat) (hs : isSz (s : Int) = true) (hcap : H.cap ≤ 100000) :
    Calls Tryz.prog 43 #[.pointer (some ⟨p, 0, none⟩), .int .i64 (s : Int)] w fun e w' => e = .returned (.tuple #[.int .i64 (((H.take s).1.getD 0 : Nat) : Int), .int .i64 (badT (H.take s).1)]) ∧ HT F w p (H.take s).2 w' := by
  cases hx : H.find s with
  | some i => exact htake_f h hok N hf hN hL s hs i hx
  | none =>
    obtain ⟨ln, hz⟩ : ∃ ln, H.blks.length = 0 ∨ H.blks.length = ln + 1 := ⟨H.blks.length - 1, by omega⟩
    by_cases hr : H.cap < lenB H.blks + s - tailF H.blks
    · rcases hz with hz | hz
      · exact htake_ZN h hok N hf hN hL s hs hcap hx hz hr
      · cases hu : (bkAt H.blks ln).used
        · exact htake_YN h hok N hf hN hL s hs hcap hx ln hz hu hr
        · exact htake_UN h hok N hf hN hL s hs hcap hx ln hz hu hr
    · rcases hz with hz | hz
      · exact htake_ZR h hok N hf hN hL s hs hcap hx hz hr
      · cases hu : (bkAt H.blks ln).used
        · exact htake_YR h hok N hf hN hL s hs hcap hx ln hz hu hr
        · exact htake_UR h hok N hf hN hL s hs hcap hx ln hz hu hr
end
end Go.Proofs.YtbemaoncakcnjaaGreat

/- The document's heap, plain: in a right one the lists have just the free blocks; Take tells that there is no room just if there is none, and what it tells is apart from all that is used. No program in sight. -/
namespace Go.Proofs.YtbemaoncakcnjaaGreat

theorem nodup_le {l : List Nat} : ∀ {r : List Nat}, l.Nodup → (∀ a ∈ l, a ∈ r) → l.length ≤ r.length := by
  induction l with
  | nil => intro r _ _; exact Nat.zero_le _
  | cons x l ih =>
    intro r hn hs
    obtain ⟨h1, h2⟩ := List.nodup_cons.1 hn
    have hx := hs x (by simp)
    have h3 := ih (r := r.erase x) h2 (fun a ha => (List.mem_erase_of_ne (fun e : a = x => h1 (by rw [← e]; exact ha))).2 (hs a (by simp [ha])))
    have h4 := List.length_erase_of_mem hx
    have h5 : 0 < r.length := List.length_pos_of_mem hx
    rw [List.length_cons]
    omega
theorem nodup_all {l r : List Nat} (hn : l.Nodup) (hs : ∀ a ∈ l, a ∈ r) (hl : r.length ≤ l.length) : ∀ b ∈ r, b ∈ l := fun b hb => by
  by_cases hin : b ∈ l
  · exact hin
  · have h1 := nodup_le (r := r.erase b) hn (fun a ha => (List.mem_erase_of_ne (fun e : a = b => hin (by rw [← e]; exact ha))).2 (hs a ha))
    have h2 := List.length_erase_of_mem hb
    have h3 : 0 < r.length := List.length_pos_of_mem hb
    omega
theorem nodup_count : ∀ {l : List Nat}, (∀ a ∈ l, l.count a = 1) → l.Nodup
  | [], _ => List.nodup_nil
  | x :: r, h => by
    have h1 := h x (by simp)
    rw [List.count_cons_self] at h1
    have hx : x ∉ r := List.count_eq_zero.1 (by omega)
    refine List.nodup_cons.2 ⟨hx, nodup_count fun a ha => ?_⟩
    have h2 := h a (by simp [ha])
    have hne : x ≠ a := fun e => hx (e ▸ ha)
    rw [List.count_cons_of_ne hne] at h2
    exact h2

section
variable {bs : List UInt8} {H : Hp}
theorem Rt.nfree (h : Rt bs H) : (∀ c, c < 22 → (H.lists c).Nodup ∧ ∀ o ∈ H.lists c, o ∈ freeL H.blks c) ∧ noAdj H.blks = true ∧ chkC bs H.blks 22 0 (cntFree H.blks) = true := by
  have hk := h.chk
  unfold checkB at hk
  rw [h.walk] at hk
  simp only [Bool.and_eq_true] at hk
  refine ⟨fun c hc => ?_, hk.2.1, hk.2.2⟩
  obtain ⟨al, h1, h2⟩ := chkC_true 22 0 _ hk.2.2 c (Nat.zero_le _) (by omega)
  rw [h.all_ c hc] at h1
  injection h1 with h1
  subst h1
  have h2' := List.all_eq_true.1 h2
  refine ⟨nodup_count fun a ha => ?_, fun o ho => ?_⟩
  · have := h2' a ha
    unfold okO at this
    rw [Bool.and_eq_true] at this
    simpa using this.2
  · have h3 := h2' o ho
    unfold okO at h3
    rw [Bool.and_eq_true] at h3
    have h4 := h3.1
    unfold foundB at h4
    obtain ⟨x, hx, hx2⟩ := List.any_eq_true.1 h4
    simp only [Bool.and_eq_true, beq_iff_eq] at hx2
    have hm := allB_member (h.all_ c hc) o ho
    have hg := (walkB_tiles h.walk).2.2 x hx
    unfold memberB at hm
    rw [← hx2.1, hg] at hm
    simp only [Bool.and_eq_true, beq_iff_eq] at hm
    rw [← hx2.1]
    exact mem_freeL hx (by simpa using hx2.2) hm.2.2
theorem lens_all {bs : List UInt8} {l : List Bk} {L : Nat → List Nat} (hL : ∀ c, c < 22 → allB bs c = some (L c)) (hs : ∀ c, c < 22 → (L c).length ≤ (freeL l c).length) :
    ∀ (k c : Nat) (fr : Int), c + k = 22 → chkC bs l k c fr = true → fr ≤ sumF l k c ∧ (fr = sumF l k c → ∀ d, c ≤ d → d < 22 → (freeL l d).length ≤ (L d).length)
  | 0, c, fr, hck, h => by
    unfold chkC at h
    have : fr = 0 := by simpa using h
    refine ⟨by subst this; exact Int.natCast_nonneg _, fun _ d h1 h2 => by omega⟩
  | k + 1, c, fr, hck, h => by
    unfold chkC at h
    rw [hL c (by omega)] at h
    dsimp only at h
    rw [Bool.and_eq_true] at h
    obtain ⟨i1, i2⟩ := lens_all hL hs k (c + 1) _ (by omega) h.2
    have h1 := hs c (by omega)
    have e : (sumF l (k + 1) c : Int) = ((freeL l c).length : Int) + (sumF l k (c + 1) : Int) := by
      show (((freeL l c).length + sumF l k (c + 1) : Nat) : Int) = _
      omega
    refine ⟨by omega, fun hfr d hd1 hd2 => ?_⟩
    rcases Nat.lt_or_ge c d with hlt | hge
    · exact i2 (by omega) d hlt hd2
    · obtain rfl : d = c := by omega
      omega
/-- The lists have all free blocks. -/
theorem Rt.complete (h : Rt bs H) : ∀ c, c < 22 → ∀ o ∈ freeL H.blks c, o ∈ H.lists c := fun c hc => by
  obtain ⟨h1, _, h3⟩ := h.nfree
  have ht := (walkB_tiles h.walk).2.1
  have hsz : ∀ x ∈ H.blks, isSz (x.size : Int) = true := fun x hx => ((tile_mem _ _ _ ht).2 x hx).2.2.1
  have hl := lens_all h.all_ (fun c hc => nodup_le (h1 c hc).1 (h1 c hc).2) 22 0 _ rfl h3
  exact nodup_all (h1 c hc).1 (h1 c hc).2 (hl.2 (by rw [sumF_all _ hsz]) c (Nat.zero_le _) hc)

theorem findL_none {l : List Bk} {s : Nat} : ∀ {L : List Nat}, findL l s L = none → (∀ o ∈ L, ∃ i, atB (o : Int) l = some i) → ∀ o ∈ L, ∀ i, atB (o : Int) l = some i → (bkAt l i).size < s
  | [], _, _, o, ho, _, _ => by cases ho
  | q :: r, h, hL, o, ho, i, hi => by
    obtain ⟨j, hj⟩ := hL q (by simp)
    unfold findL at h
    rw [hj] at h
    dsimp only at h
    split at h
    · cases h
    · rename_i hs
      rcases List.mem_cons.1 ho with rfl | ho
      · rw [hj] at hi
        injection hi with hi
        subst hi
        omega
      · exact findL_none h (fun a ha => hL a (by simp [ha])) o ho i hi
theorem findC_none {s : Nat} : ∀ {k c : Nat}, H.findC s k c = none → ∀ d, c ≤ d → d < c + k → findL H.blks s (H.lists d) = none
  | 0, c, _, d, h1, h2 => by omega
  | k + 1, c, h, d, h1, h2 => by
    unfold Hp.findC at h
    split at h
    · cases h
    · rename_i hn
      rcases Nat.lt_or_ge c d with hlt | hge
      · exact findC_none h d hlt (by omega)
      · obtain rfl : d = c := by omega
        exact hn
/-- Two blocks with one place are one. -/
theorem tile_one {l : List Bk} {o e : Nat} (h : tile o l e) {x y : Bk} (hx : x ∈ l) (hy : y ∈ l) (he : x.off = y.off) : x = y := by
  have h1 := (isSz_iff _).1 ((tile_mem _ _ _ h).2 x hx).2.2.1
  have h2 := (isSz_iff _).1 ((tile_mem _ _ _ h).2 y hy).2.2.1
  rcases tile_apart l o e h x hx y hy with h' | h' | h'
  · exact h'
  · omega
  · omega
theorem atB_of {l : List Bk} {o e : Nat} (h : tile o l e) {x : Bk} (hx : x ∈ l) : ∃ i, atB (x.off : Int) l = some i ∧ i < l.length ∧ bkAt l i = x := by
  obtain ⟨i, hi⟩ := atB_mem hx
  obtain ⟨h1, h2⟩ := atB_at hi
  refine ⟨i, hi, h1, tile_one h (List.mem_of_getElem? (bkAt_get h1)) hx (by omega)⟩
/-- What Find finds is free. -/
theorem Rt.found (h : Rt bs H) {s i : Nat} (hs : isSz (s : Int) = true) (hf : H.find s = some i) : i < H.blks.length ∧ s ≤ (bkAt H.blks i).size ∧ (bkAt H.blks i).used = false := by
  have ht := (walkB_tiles h.walk).2.1
  have one : ∀ (LL : List Nat), (∀ o ∈ LL, ∃ x ∈ H.blks, x.off = o ∧ x.used = false) → ∀ i, findL H.blks s LL = some i → i < H.blks.length ∧ s ≤ (bkAt H.blks i).size ∧ (bkAt H.blks i).used = false := by
    intro LL
    induction LL with
    | nil => intro _ i h; cases h
    | cons o r ih =>
      intro hL i h
      unfold findL at h
      split at h
      · cases h
      · rename_i j hj
        split at h
        · rename_i hs
          injection h with h
          subst h
          obtain ⟨x, hx, hxo, hxu⟩ := hL o (by simp)
          obtain ⟨h1, h2⟩ := atB_at hj
          have e := tile_one ht (List.mem_of_getElem? (bkAt_get h1)) hx (by omega)
          exact ⟨h1, hs, by rw [e]; exact hxu⟩
        · exact ih (fun a ha => hL a (by simp [ha])) i h
  have go : ∀ (k c i : Nat), c + k ≤ 22 → H.findC s k c = some i → i < H.blks.length ∧ s ≤ (bkAt H.blks i).size ∧ (bkAt H.blks i).used = false := by
    intro k
    induction k with
    | zero => intro c i _ h; cases h
    | succ k ih =>
      intro c i hck hh
      unfold Hp.findC at hh
      split at hh
      · rename_i j hj
        injection hh with hh
        subst hh
        refine one _ (fun o ho => ?_) _ hj
        obtain ⟨x, h1, h2, h3, _⟩ := freeL_mem ((h.nfree.1 c (by omega)).2 o ho)
        exact ⟨x, h1, h2, h3⟩
      · exact ih _ _ (by omega) hh
  obtain ⟨cl, hcl, hcl22⟩ : ∃ c : Nat, classI (s : Int) = (c : Int) ∧ c < 22 := class_nat (x := ⟨0, s, false⟩) hs
  unfold Hp.find at hf
  rw [hcl, Int.toNat_natCast] at hf
  exact go _ _ _ (by omega) hf
/-- Where Find finds nothing there is nothing. -/
theorem Rt.lost (h : Rt bs H) {s : Nat} (hs : isSz (s : Int) = true) (hf : H.find s = none) : ∀ x ∈ H.blks, x.used = false → x.size < s := fun x hx hu => by
  have ht := (walkB_tiles h.walk).2.1
  have hxs := ((tile_mem _ _ _ ht).2 x hx).2.2.1
  obtain ⟨cl, hcl, hcl22⟩ : ∃ c : Nat, classI (s : Int) = (c : Int) ∧ c < 22 := class_nat (x := ⟨0, s, false⟩) hs
  obtain ⟨cx, hcx, hcx22⟩ := class_nat hxs
  rcases Nat.lt_or_ge x.size s with h1 | h1
  · exact h1
  · have hm := classI_mono hs hxs (by omega)
    unfold Hp.find at hf
    rw [hcl, Int.toNat_natCast] at hf
    have hl := findC_none hf cx (by omega) (by omega)
    obtain ⟨i, hi, _, hb⟩ := atB_of ht hx
    have := findL_none hl (h.listed cx hcx22) x.off (h.complete cx hcx22 _ (mem_freeL hx hu hcx)) i hi
    rw [hb] at this
    exact this

end
end Go.Proofs.YtbemaoncakcnjaaGreat

/- The document's heap, plain: the block that Take tells. No program in sight. -/
namespace Go.Proofs.YtbemaoncakcnjaaGreat

section
variable {bs : List UInt8} {H : Hp}
end
end Go.Proofs.YtbemaoncakcnjaaGreat

/- The document's heap, plain: all stays one behind the other when a block is taken; what a resize comes to. No program in sight. -/
namespace Go.Proofs.YtbemaoncakcnjaaGreat

section
variable {H : Hp} {i s N : Nat}
end
end Go.Proofs.YtbemaoncakcnjaaGreat

/- The document's heap, plain: what a resize comes to. No program in sight. -/
namespace Go.Proofs.YtbemaoncakcnjaaGreat

section
variable {H : Hp} {i s N : Nat}
end
end Go.Proofs.YtbemaoncakcnjaaGreat

/- The document's heap, plain: what is used stays when a block is given or taken. No program in sight. -/
namespace Go.Proofs.YtbemaoncakcnjaaGreat

section
variable {H : Hp} {i s : Nat} {x : Bk}
end
section
variable {bs : List UInt8} {H : Hp} {s : Nat}
end
end Go.Proofs.YtbemaoncakcnjaaGreat

/- The document's heap, plain: bytes within used blocks are no matter; marks in them. No program in sight. -/
namespace Go.Proofs.YtbemaoncakcnjaaGreat

/-- The same bytes but within a block, between its tags. -/
def AgreeB (bs bs' : List UInt8) (x : Bk) : Prop := bs'.length = bs.length ∧ ∀ q, (q < x.off + 8 ∨ x.off + x.size ≤ q + 8) → bs'[q]? = bs[q]?
theorem allF_congr {bs bs' : List UInt8} {c : Nat} : ∀ (k last p : Nat) (l : List Nat), allF bs c k last p = some l → (∀ o ∈ l, memberB bs' o (c : Int) = true ∧ wordN bs' (o + 16) = wordN bs (o + 16) ∧ wordN bs' (o + 8) = wordN bs (o + 8)) → allF bs' c k last p = some l
  | 0, last, p, l, h, _ => by
    unfold allF at h ⊢
    split at h
    · rename_i hp; rw [if_pos hp]; exact h
    · cases h
  | k + 1, last, p, l, h, hm => by
    unfold allF at h ⊢
    by_cases hp : p = 0
    · rw [if_pos hp] at h ⊢; exact h
    · rw [if_neg hp] at h ⊢
      dsimp only at h ⊢
      by_cases hc : memberB bs p (c : Int) = true ∧ wordN bs (p + 16) = last
      · rw [if_pos hc] at h
        cases hr : allF bs c k p (wordN bs (p + 8)) with
        | none => rw [hr] at h; cases h
        | some l' =>
          rw [hr] at h
          injection h with h
          subst h
          obtain ⟨m1, m2, m3⟩ := hm p (by simp)
          rw [if_pos ⟨m1, m2.trans hc.2⟩, m3, allF_congr k p _ l' hr (fun o ho => hm o (by simp [ho]))]
          rfl
      · rw [if_neg hc] at h; cases h
theorem chkC_congr {bs bs' : List UInt8} {l : List Bk} (h : ∀ c, c < 22 → allB bs' c = allB bs c) : ∀ (k c : Nat) (fr : Int), c + k = 22 → chkC bs' l k c fr = chkC bs l k c fr
  | 0, c, fr, _ => rfl
  | k + 1, c, fr, hck => by
    unfold chkC
    rw [h c (by omega)]
    split
    · rfl
    · rw [chkC_congr h k (c + 1) _ (by omega)]
section
variable {bs bs' : List UInt8} {H : Hp} {x : Bk}
theorem Rt.fill (h : Rt bs H) (hx : x ∈ H.blks) (hu : x.used = true) (ha : AgreeB bs bs' x) : Rt bs' H := by
  obtain ⟨h184, ht, hg⟩ := walkB_tiles h.walk
  obtain ⟨hl, hq⟩ := ha
  have hxm := (tile_mem _ _ _ ht).2 x hx
  have hxs := (isSz_iff _).1 hxm.2.2.1
  have hw : ∀ p, (p + 8 ≤ x.off + 8 ∨ x.off + x.size ≤ p + 8) → wordN bs' p = wordN bs p := fun p hp => wordN_congr bs bs' p fun i h1 h2 => hq i (by omega)
  have hget : ∀ y ∈ H.blks, getB bs' (y.off : Int) = some y := fun y hy => by
    have hym := (isSz_iff _).1 ((tile_mem _ _ _ ht).2 y hy).2.2.1
    refine getB_congr bs bs' y hl (hg y hy) ?_ ?_
    · rcases tile_apart _ _ _ ht y hy x hx with rfl | h' | h'
      · exact hw _ (.inl (by omega))
      · exact hw _ (.inl (by omega))
      · exact hw _ (.inr (by omega))
    · rcases tile_apart _ _ _ ht y hy x hx with rfl | h' | h'
      · exact hw _ (.inr (by omega))
      · exact hw _ (.inl (by omega))
      · exact hw _ (.inr (by omega))
  have hwalk : walkB bs' = some H.blks := walkB_tile (by rw [hl]; exact ht) hget
  have hall : ∀ c, c < 22 → allB bs' c = some (H.lists c) := fun c hc => by
    have h1 := h.all_ c hc
    unfold allB at h1 ⊢
    rw [hl, hw 0 (.inl (by omega)), hw (8 + 8 * c) (.inl (by omega))]
    split at h1
    · cases h1
    · rename_i hn
      rw [if_neg hn]
      split at h1
      · cases h1
      · rename_i hb
        rw [if_neg hb]
        refine allF_congr _ _ _ _ h1 fun o ho => ?_
        obtain ⟨y, hy, hyo, hyu, hyc⟩ := freeL_mem ((h.nfree.1 c hc).2 o ho)
        have hym := (isSz_iff _).1 ((tile_mem _ _ _ ht).2 y hy).2.2.1
        have hye := ((tile_mem _ _ _ ht).2 y hy).2.1
        have hmm := memberB_get (allB_member (h.all_ c hc) o ho)
        subst hyo
        have hap : y.off + y.size ≤ x.off ∨ x.off + x.size ≤ y.off := by
          rcases tile_apart _ _ _ ht y hy x hx with h' | h' | h'
          · rw [h', hu] at hyu; cases hyu
          · exact .inl h'
          · exact .inr h'
        refine ⟨?_, ?_, ?_⟩
        · unfold memberB
          rw [hget y hy]
          simp only [Bool.and_eq_true, decide_eq_true_eq, beq_iff_eq, Bool.not_eq_true']
          exact ⟨hmm.1, hyu, hyc⟩
        · rcases hap with h' | h'
          · exact hw _ (.inl (by omega))
          · exact hw _ (.inr (by omega))
        · rcases hap with h' | h'
          · exact hw _ (.inl (by omega))
          · exact hw _ (.inr (by omega))
  refine ⟨hwalk, hall, ?_, by rw [hl]; exact h.len⟩
  have hk := h.chk
  unfold checkB at hk ⊢
  rw [h.walk] at hk
  rw [hwalk]
  dsimp only at hk ⊢
  have hn0 : numO bs' 0 = numO bs 0 := by
    unfold numO word?
    rw [hl]
    split
    · show (some (wordN bs' 0)).getD 0 = (some (wordN bs 0)).getD 0
      rw [hw 0 (.inl (by omega))]
    · rfl
  rw [hn0, chkC_congr (fun c hc => (hall c hc).trans (h.all_ c hc).symm) 22 0 _ rfl]
  exact hk
/-- A stretch laid within a block. -/
theorem agree_lay (d : Nat) (cs : List UInt8) (h1 : x.off + 8 ≤ d) (h2 : d + cs.length + 8 ≤ x.off + x.size) (h3 : x.off + x.size ≤ bs.length) : AgreeB bs (lay bs d cs) x := by
  have hle : d ≤ bs.length := by omega
  refine ⟨?_, fun q hq => ?_⟩
  · unfold lay
    simp only [List.length_append, List.length_take, List.length_drop]
    omega
  · unfold lay
    rcases Nat.lt_or_ge q d with h | h
    · rw [List.getElem?_append_left (by rw [List.length_take]; omega), List.getElem?_take_of_lt h]
    · have hq2 : d + cs.length ≤ q := by omega
      rw [List.getElem?_append_right (by rw [List.length_take]; omega), List.length_take, List.getElem?_append_right (by omega), List.getElem?_drop]
      congr 1
      omega
end
end Go.Proofs.YtbemaoncakcnjaaGreat

/- The document's heap, plain: behind a resize all other used blocks stand, and the block has as many bytes as were asked for. No program in sight. -/
namespace Go.Proofs.YtbemaoncakcnjaaGreat

section
variable {bs : List UInt8} {H : Hp} {i s : Nat} {x : Bk}
end
end Go.Proofs.YtbemaoncakcnjaaGreat

/- The document's heap, plain: what its blocks hold is moved, never copied, and no step looks at where it lies. No program in sight. -/
namespace Go.Proofs.YtbemaoncakcnjaaGreat

section
variable {H : Hp} {i s : Nat}
end
end Go.Proofs.YtbemaoncakcnjaaGreat

/- The document's heap, plain: where its slices lie is no matter. No program in sight. -/
namespace Go.Proofs.YtbemaoncakcnjaaGreat

section
variable {H : Hp} {i s : Nat}
end
end Go.Proofs.YtbemaoncakcnjaaGreat

/- The document's heap, plain: handles, lists made anew, what a block holds made as long as it is; what getting, and another size of a handle come to. No program in sight. -/
namespace Go.Proofs.YtbemaoncakcnjaaGreat

end Go.Proofs.YtbemaoncakcnjaaGreat

/- The document's heap, plain: each used block holds what it held, whatever is given, cut, taken, resized. No program in sight. -/
namespace Go.Proofs.YtbemaoncakcnjaaGreat

section
variable {H : Hp} {i j k s : Nat} {x : Bk} {d : Dt}
end
end Go.Proofs.YtbemaoncakcnjaaGreat

/- The document's heap, plain: each used block holds what it held when one is resized. No program in sight. -/
namespace Go.Proofs.YtbemaoncakcnjaaGreat

section
variable {H : Hp} {i j k s : Nat} {x : Bk} {d : Dt}
end
end Go.Proofs.YtbemaoncakcnjaaGreat

/- The document's heap, plain: a heap in bytes whose used blocks hold what they are to hold: kept by giving, getting, resizing, writing. No program in sight. -/
namespace Go.Proofs.YtbemaoncakcnjaaGreat

section
variable {bs out : List UInt8} {H H' : Hp} {s : Nat}
end
end Go.Proofs.YtbemaoncakcnjaaGreat

/- The document's heap, plain: one without blocks; lists made anew; one out of any bytes that are right. No program in sight. -/
namespace Go.Proofs.YtbemaoncakcnjaaGreat

/-- Bytes of 0 are a heap without blocks. -/
theorem rt_zero {z : List UInt8} (hz : List.replicate 184 (0 : UInt8) = z) (cap : Nat) (hc : 184 ≤ cap) : Rt z ⟨cap, [], [], fun _ => []⟩ := by
  have hl : z.length = 184 := by rw [← hz]; exact List.length_replicate
  have hw0 : ∀ p, p + 8 ≤ 184 → p % 8 = 0 → wordN z p = 0 := fun p hp _ => by
    have := wordN_zeros [] 184 p hp
    rw [List.append_nil, hz] at this
    exact this
  have hwk : walkB z = some [] := walkB_tile (by rw [hl]; rfl) (fun x hx => by cases hx)
  have hli : Lists z [] (fun _ => []) := lists_none (by omega) (by omega) ⟨fun x hx => (by cases hx), fun x hx => (by cases hx)⟩ hw0
  refine ⟨hwk, fun c hc => hli.all hc (Nat.zero_le _), ?_, by show z.length ≤ cap; omega⟩
  have e : freeL [] = fun _ => [] := rfl
  rw [checkB_lists hwk (by rw [e]; exact hli) (by rw [hw0 0 (by omega) rfl]; omega)]
  rfl
end Go.Proofs.YtbemaoncakcnjaaGreat

/- Taking and giving back, plain: what laying tags does to lists; a heap in bytes on the way, with lists that may lack a block. No program in sight. -/
namespace Go.Proofs.YtbemaoncakcnjaaGreat

theorem setT_get {bs : List UInt8} {x : Bk} (hs : isSz (x.size : Int) = true) (h : x.off + x.size ≤ bs.length) (i : Nat) (hi : (i < x.off ∨ x.off + 8 ≤ i) ∧ (i < x.off + x.size - 8 ∨ x.off + x.size ≤ i)) : (setT bs x)[i]? = bs[i]? := by
  have hs := (isSz_iff _).1 hs
  have e := lyN_length bs x.off (tagN x) (by omega)
  unfold setT
  rw [lyN_get _ _ _ _ (by omega) (by omega), lyN_get _ _ _ _ (by omega) (by omega)]
section
variable {bs : List UInt8} {P Q : List Bk} {L : Nat → List Nat}
/-- A block set where no listed one stands. -/
theorem Lists.set (h : Lists bs P L) {x : Bk} (x1 : 184 ≤ x.off) (x2 : x.off % 16 = 8) (x3 : x.off + x.size ≤ bs.length) (hs : isSz (x.size : Int) = true)
    (hQ : ∀ y ∈ Q, y = x ∨ (y ∈ P ∧ (y.off + y.size ≤ x.off ∨ x.off + x.size ≤ y.off)))
    (hL : ∀ c, c < 22 → ∀ o ∈ L c, ∃ y ∈ Q, y ∈ P ∧ y.off = o ∧ (y.off + y.size ≤ x.off ∨ x.off + x.size ≤ y.off)) : Lists (setT bs x) Q L := by
  have hl := setT_length hs x3
  have hlen := h.len
  have sz := (isSz_iff _).1 hs
  refine ⟨by omega, by rw [hl]; exact h.small, ⟨fun y hy => ?_, fun y hy z hz => ?_⟩, fun c hc => ?_, fun c hc => ?_, fun c hc o ho => ?_, fun c hc => ?_, h.nodup⟩
  · rcases hQ y hy with rfl | ⟨hy, hd⟩
    · exact setT_at x1 x2 x3 hs
    · exact setT_keep hs x3 (h.st.at_ y hy) hd
  · rcases hQ y hy with rfl | ⟨hy, hd⟩
    · rcases hQ z hz with rfl | ⟨hz, hd⟩
      · exact .inl rfl
      · exact .inr hd.symm
    · rcases hQ z hz with rfl | ⟨hz, _⟩
      · exact .inr hd
      · exact h.st.apart y hy z hz
  · rw [setT_same hs x3 _ (by omega)]; exact h.head c hc
  · rw [setT_same hs x3 _ (by omega)]; exact h.bit c hc
  · obtain ⟨y, hy, hyP, e, hd⟩ := hL c hc o ho
    obtain ⟨z, hz, ez, hu, hcl⟩ := h.mem c hc o ho
    have := h.st.uniq hyP hz (by omega)
    subst this
    exact ⟨y, hy, e, hu, hcl⟩
  · refine link_congr (L c) 0 0 (fun o ho => ?_) (h.links c hc)
    obtain ⟨y, hy, hyP, e, hd⟩ := hL c hc o ho
    have hf := h.st.facts hyP
    exact ⟨setT_same hs x3 _ (by omega), setT_same hs x3 _ (by omega)⟩
theorem more_get (bs : List UInt8) (n i : Nat) (h : i < bs.length) : (bs ++ List.replicate n (0 : UInt8))[i]? = bs[i]? := List.getElem?_append_left h
theorem more_word (bs : List UInt8) (n p : Nat) (h : p + 8 ≤ bs.length) : wordN (bs ++ List.replicate n 0) p = wordN bs p := wordN_congr _ _ _ fun i _ h2 => more_get bs n i (by omega)
/-- Zeros behind. -/
theorem Lists.more (h : Lists bs P L) (n : Nat) (hn : bs.length + n ≤ 16384) : Lists (bs ++ List.replicate n 0) P L := by
  have hlen := h.len
  have hl : (bs ++ List.replicate n (0 : UInt8)).length = bs.length + n := by rw [List.length_append, List.length_replicate]
  refine ⟨by omega, by omega, ⟨fun y hy => ?_, h.st.apart⟩, fun c hc => ?_, fun c hc => ?_, h.mem, fun c hc => ?_, h.nodup⟩
  · obtain ⟨_, g1, g2, g3, g4, g5, g6⟩ := getB_some (h.st.at_ y hy)
    have q := (isSz_iff _).1 g4
    refine getB_of g1 g2 (by omega) ?_ ?_
    · rw [more_word _ _ _ (by omega)]; exact g5
    · rw [more_word _ _ _ (by omega), more_word _ _ _ (by omega)]; exact g6
  · rw [more_word _ _ _ (by omega)]; exact h.head c hc
  · rw [more_word _ _ _ (by omega)]; exact h.bit c hc
  · refine link_congr (L c) 0 0 (fun o ho => ?_) (h.links c hc)
    obtain ⟨_, y, hyP, e, _⟩ := h.member hc ho
    have hf := h.st.facts hyP
    exact ⟨more_word _ _ _ (by omega), more_word _ _ _ (by omega)⟩
end
theorem memberB_lt {bs : List UInt8} {p : Nat} {c : Int} (h : memberB bs p c = true) : 184 ≤ p ∧ p + 32 ≤ bs.length := by
  unfold memberB at h
  cases hg : getB bs (p : Int) with
  | none => rw [hg] at h; simp at h
  | some y =>
    obtain ⟨r0, r1, _, r3, r4, _⟩ := getB_some hg
    have q := (isSz_iff _).1 r4
    omega
/-- The bits behind the classes stay. -/
theorem takeB_high {bs out : List UInt8} {o : Int} (hl : 184 ≤ bs.length) (h : takeB bs o = some out) : wordN out 0 / 4194304 = wordN bs 0 / 4194304 := by
  unfold takeB at h
  by_cases hf : freeI bs o < 0
  · rw [if_pos hf] at h; cases h
  rw [if_neg hf] at h
  have hb : freeI bs o < 22 := by
    unfold freeI
    split
    · rename_i x _
      have := classI_bounds (x.size : Int)
      split <;> omega
    · omega
  obtain ⟨c, hcc⟩ : ∃ c, (freeI bs o).toNat = c := ⟨_, rfl⟩
  have hc22 : c < 22 := by omega
  rw [hcc] at h
  dsimp only at h
  obtain ⟨n, hn⟩ : ∃ n, wordN bs (o.toNat + 8) = n := ⟨_, rfl⟩
  obtain ⟨p, hp⟩ : ∃ p, wordN bs (o.toNat + 16) = p := ⟨_, rfl⟩
  rw [hn, hp] at h
  split at h
  · cases h
  split at h
  · cases h
  rename_i hp2
  split at h
  · cases h
  rename_i hn2
  injection h with h
  have hpm : p ≠ 0 → 184 ≤ p ∧ p + 32 ≤ bs.length := fun e => by
    cases hm : memberB bs p (c : Int) with
    | true => exact memberB_lt hm
    | false => exact absurd ⟨e, .inl hm⟩ hp2
  have hnm : n ≠ 0 → 184 ≤ n ∧ n + 32 ≤ bs.length := fun e => by
    cases hm : memberB bs n (c : Int) with
    | true => exact memberB_lt hm
    | false => exact absurd ⟨e, .inl hm⟩ hn2
  obtain ⟨b1, hb1⟩ : ∃ b1, (if p = 0 then lyN bs (8 + 8 * c) n else lyN bs (p + 8) n) = b1 := ⟨_, rfl⟩
  have f1 : b1.length = bs.length ∧ wordN b1 0 = wordN bs 0 := by
    rw [← hb1]
    by_cases e : p = 0
    · rw [if_pos e]
      exact ⟨lyN_length _ _ _ (by omega), wordN_other _ _ _ _ (by omega) (by omega)⟩
    · have := hpm e
      rw [if_neg e]
      exact ⟨lyN_length _ _ _ (by omega), wordN_other _ _ _ _ (by omega) (by omega)⟩
  rw [hb1] at h
  obtain ⟨b2, hb2⟩ : ∃ b2, (if n ≠ 0 then lyN b1 (n + 16) p else b1) = b2 := ⟨_, rfl⟩
  have f2 : b2.length = bs.length ∧ wordN b2 0 = wordN bs 0 := by
    rw [← hb2]
    by_cases e : n ≠ 0
    · have := hnm e
      rw [if_pos e]
      exact ⟨(lyN_length _ _ _ (by omega)).trans f1.1, (wordN_other _ _ _ _ (by omega) (by omega)).trans f1.2⟩
    · rw [if_neg e]; exact f1
  rw [hb2] at h
  obtain ⟨b3, hb3⟩ : ∃ b3, (if p ≠ 0 ∧ (wordN bs (8 + 8 * c) : Int) = o then lyN b2 (8 + 8 * c) n else b2) = b3 := ⟨_, rfl⟩
  have f3 : b3.length = bs.length ∧ wordN b3 0 = wordN bs 0 := by
    rw [← hb3]
    by_cases e : p ≠ 0 ∧ (wordN bs (8 + 8 * c) : Int) = o
    · rw [if_pos e]
      exact ⟨(lyN_length _ _ _ (by omega)).trans f2.1, (wordN_other _ _ _ _ (by omega) (by omega)).trans f2.2⟩
    · rw [if_neg e]; exact f2
  rw [hb3] at h
  rw [← h, markB_high _ c hc22 (by omega), f3.2]

theorem tile_cnt : ∀ (l : List Bk) (o e : Nat), tile o l e → l.length * 32 + o ≤ e
  | [], o, e, h => by have : o = e := h; simp; omega
  | x :: r, o, e, ⟨_, b, c⟩ => by
    have q := (isSz_iff _).1 b
    have := tile_cnt r _ e c
    rw [List.length_cons]; omega
theorem freeL_nodup {l : List Bk} {o e : Nat} (ht : tile o l e) (c : Nat) : (freeL l c).Nodup := by
  unfold freeL
  have h := tile_ne l o e ht
  refine List.pairwise_map.2 (List.Pairwise.filter _ (List.pairwise_reverse.2 (h.imp fun h => h.symm)))
/-- From one on, all of a class are linked. -/
theorem allF_links {bs : List UInt8} {c : Nat} : ∀ (k last p : Nat) (l : List Nat), allF bs c k last p = some l → link bs last l 0 ∧ l.headD 0 = p
  | k, last, p, l, h => by
    unfold allF at h
    by_cases hp : p = 0
    · rw [if_pos hp] at h
      injection h with h
      subst h
      exact ⟨trivial, hp.symm⟩
    · rw [if_neg hp] at h
      cases k with
      | zero => cases h
      | succ k =>
        dsimp only at h
        split at h
        · rename_i hc
          cases hr : allF bs c k p (wordN bs (p + 8)) with
          | none => rw [hr] at h; cases h
          | some r =>
            rw [hr] at h
            injection h with h
            subst h
            obtain ⟨i1, i2⟩ := allF_links k _ _ r hr
            exact ⟨⟨hc.2, i2.symm, i1⟩, rfl⟩
        · cases h

/-- Bytes that are such a heap, its lists, which may lack a block. -/
structure Md (bs : List UInt8) (H : Hp) : Prop where
  tl : tile 184 H.blks bs.length
  ls : Lists bs H.blks H.lists
  hi : wordN bs 0 < 4194304
  len : bs.length ≤ H.cap
theorem Rt.md {bs : List UInt8} {H : Hp} (h : Rt bs H) (hc : H.cap ≤ 16384) : Md bs H := by
  obtain ⟨w1, w2, w3⟩ := walkB_tiles h.walk
  obtain ⟨n1, _, _⟩ := h.nfree
  have hl := h.len
  have hk := h.chk
  unfold checkB at hk
  rw [h.walk] at hk
  simp only [Bool.and_eq_true] at hk
  have h0 : wordN bs 0 < 4194304 := by
    have e0 : numO bs 0 = wordN bs 0 := by unfold numO word?; rw [if_pos (by omega)]; rfl
    rw [← e0]; exact of_decide_eq_true hk.1
  refine ⟨w2, ⟨w1, by omega, ⟨w3, tile_apart _ _ _ w2⟩, fun c hc => ?_, fun c hc => ?_, fun c hc o ho => freeL_mem ((n1 c hc).2 o ho), fun c hc => ?_, fun c hc => (n1 c hc).1⟩, h0, hl⟩
  · exact (allF_links _ _ _ _ (allB_bit (h.all_ c hc)).2).2.symm
  · obtain ⟨b1, b2⟩ := allB_bit (h.all_ c hc)
    have e := (allF_links _ _ _ _ b2).2
    rw [b1, ← e]
    cases hL : H.lists c with
    | nil => rfl
    | cons o r =>
      obtain ⟨x, hx, ex, _⟩ := freeL_mem ((n1 c hc).2 o (by rw [hL]; simp))
      have := ((tile_mem _ _ _ w2).2 x hx).1
      have : o ≠ 0 := by omega
      simp [this]
  · exact (allF_links _ _ _ _ (allB_bit (h.all_ c hc)).2).1
theorem chkC_full {bs : List UInt8} {l : List Bk} {L : Nat → List Nat} (h : Lists bs l L) (hl : ∀ c, c < 22 → (L c).length ≤ 1024) (hn : ∀ c, c < 22 → (L c).length = (freeL l c).length) : ∀ (k c : Nat) (fr : Int), c + k = 22 → chkC bs l k c fr = (fr - sumF l k c == 0)
  | 0, c, fr, _ => by unfold chkC sumF; simp
  | k + 1, c, fr, hc => by
    have ha := h.all (c := c) (by omega) (hl c (by omega))
    have hok : (L c).all (okO l (L c)) = true := by
      rw [List.all_eq_true]
      intro o ho
      unfold okO foundB
      rw [Bool.and_eq_true]
      constructor
      · rw [List.any_eq_true]
        obtain ⟨x, hx, e, hu, _⟩ := h.mem c (by omega) o ho
        exact ⟨x, hx, by simp [e, hu]⟩
      · rw [List.Nodup.count (h.nodup c (by omega)), if_pos ho]; rfl
    unfold chkC
    rw [ha]
    dsimp only
    rw [hok, Bool.true_and, chkC_full h hl hn k (c + 1) _ (by omega)]
    have e : fr - (sumF l (k + 1) c : Nat) = fr - ((L c).length : Int) - (sumF l k (c + 1) : Nat) := by
      have : sumF l (k + 1) c = (freeL l c).length + sumF l k (c + 1) := rfl
      have := hn c (by omega)
      omega
    rw [e]
theorem Md.sub {bs : List UInt8} {H : Hp} (h : Md bs H) {c : Nat} (hc : c < 22) : ∀ o ∈ H.lists c, o ∈ freeL H.blks c := fun o ho => by
  obtain ⟨x, hx, e, hu, hcl⟩ := h.ls.mem c hc o ho
  rw [← e]
  exact mem_freeL hx hu hcl
theorem Md.small {bs : List UInt8} {H : Hp} (h : Md bs H) {c : Nat} (hc : c < 22) : (H.lists c).length ≤ 1024 := by
  have h1 := nodup_le (h.ls.nodup c hc) (h.sub hc)
  have h2 := freeL_len H.blks c
  have h3 := tile_cnt _ _ _ h.tl
  have h4 := h.ls.small
  omega
/-- With all free ones in the lists, and no two together, it is right. -/
theorem Md.rt {bs : List UInt8} {H : Hp} (h : Md bs H) (hF : ∀ c, c < 22 → ∀ o ∈ freeL H.blks c, o ∈ H.lists c) (hn : noAdj H.blks = true) : Rt bs H := by
  have hw : walkB bs = some H.blks := walkB_tile h.tl h.ls.st.at_
  have hlen := h.ls.len
  refine ⟨hw, fun c hc => h.ls.all hc (h.small hc), ?_, h.len⟩
  have e0 : numO bs 0 = wordN bs 0 := by unfold numO word?; rw [if_pos (by omega)]; rfl
  have hnn : ∀ c, c < 22 → (H.lists c).length = (freeL H.blks c).length := fun c hc => Nat.le_antisymm (nodup_le (h.ls.nodup c hc) (h.sub hc)) (nodup_le (freeL_nodup h.tl c) (hF c hc))
  have hm := (tile_mem _ _ _ h.tl).2
  unfold checkB
  rw [hw]
  dsimp only
  rw [e0, decide_eq_true h.hi, hn, Bool.true_and, Bool.true_and, chkC_full h.ls (fun c hc => h.small hc) hnn 22 0 _ rfl, sumF_all H.blks (fun x hx => (hm x hx).2.2.1), Int.sub_self]
  rfl

/-- No two free ones together; u: is what is ahead used? -/
def nadj : Bool → List Bk → Bool
  | _, [] => true
  | u, x :: r => (u || x.used) && nadj x.used r
def lastU : Bool → List Bk → Bool
  | u, [] => u
  | _, x :: r => lastU x.used r
theorem nadj_app : ∀ (a b : List Bk) (u : Bool), nadj u (a ++ b) = (nadj u a && nadj (lastU u a) b)
  | [], b, u => by simp [nadj, lastU]
  | x :: r, b, u => by simp only [List.cons_append, nadj, lastU]; rw [nadj_app r b x.used, Bool.and_assoc]
theorem lastU_app : ∀ (a b : List Bk) (u : Bool), lastU u (a ++ b) = lastU (lastU u a) b
  | [], _, _ => rfl
  | x :: r, b, _ => lastU_app r b x.used
theorem tkUsed_of {l : List Bk} {j : Nat} {y : Bk} (h : l[j]? = some y) : usedAt l j = y.used := by unfold usedAt; rw [h]
theorem nadj_get : ∀ (l : List Bk) (u : Bool), nadj u l = true ↔ (∀ y, l[0]? = some y → u = true ∨ y.used = true) ∧ ∀ j, j + 1 < l.length → usedAt l (j + 1) = true ∨ usedAt l j = true
  | [], u => by simp [nadj]
  | x :: r, u => by
    unfold nadj
    rw [Bool.and_eq_true, Bool.or_eq_true, nadj_get r x.used]
    constructor
    · rintro ⟨h1, h2, h3⟩
      refine ⟨fun y hy => ?_, fun j hj => ?_⟩
      · injection hy with hy
        subst hy
        exact h1
      · rw [List.length_cons] at hj
        cases j with
        | zero =>
          obtain ⟨y, hy⟩ : ∃ y, r[0]? = some y := ⟨_, List.getElem?_eq_getElem (by omega)⟩
          rw [tkUsed_of (y := y) (by simpa using hy), tkUsed_of (y := x) rfl]
          exact (h2 y hy).symm
        | succ j => exact h3 j (by omega)
    · rintro ⟨h1, h2⟩
      refine ⟨h1 x rfl, fun y hy => ?_, fun j hj => ?_⟩
      · have hl := lst_lt hy
        have := h2 0 (by rw [List.length_cons]; omega)
        rw [tkUsed_of (y := y) (by simpa using hy), tkUsed_of (y := x) rfl] at this
        exact this.symm
      · exact h2 (j + 1) (by rw [List.length_cons]; omega)
theorem noAdj_nadj (l : List Bk) : noAdj l = nadj true l := by
  rw [Bool.eq_iff_iff, nadj_get]
  unfold noAdj
  rw [List.all_eq_true]
  constructor
  · intro h
    refine ⟨fun _ _ => .inl rfl, fun j hj => ?_⟩
    have := h (j + 1) (List.mem_range.2 hj)
    unfold pairOk at this
    rw [Bool.or_eq_true, Bool.or_eq_true, Nat.add_sub_cancel] at this
    rcases this with h1 | h1
    · simp at h1
    · exact h1
  · rintro ⟨_, h⟩ j hj
    have hj := List.mem_range.1 hj
    unfold pairOk
    cases j with
    | zero => rfl
    | succ j =>
      rw [Bool.or_eq_true, Bool.or_eq_true, Nat.add_sub_cancel]
      exact .inr (h j hj)
end Go.Proofs.YtbemaoncakcnjaaGreat

/- What giving a block back comes to, plain: the blocks and the lists then. No program in sight. -/
namespace Go.Proofs.YtbemaoncakcnjaaGreat

/-- A list without a block, and with it. -/
def tkL (L : Nat → List Nat) (y : Bk) : Nat → List Nat := setL L (clsB y) ((L (clsB y)).filter fun o => o != y.off)
def ptL (L : Nat → List Nat) (y : Bk) : Nat → List Nat := setL L (clsB y) (y.off :: L (clsB y))
def tkO (L : Nat → List Nat) : Option Bk → Nat → List Nat
  | none => L
  | some y => tkL L y
theorem mid_at (A : List Bk) (y : Bk) (B : List Bk) : bkAt (A ++ y :: B) A.length = y := bkAt_of (by rw [List.getElem?_append_right (Nat.le_refl _), Nat.sub_self]; rfl)
theorem mid_at1 (A : List Bk) (y z : Bk) (B : List Bk) : bkAt (A ++ y :: z :: B) (A.length + 1) = z := bkAt_of (by rw [List.getElem?_append_right (by omega), show A.length + 1 - A.length = 1 by omega]; rfl)
theorem mid_split {l : List Bk} {i : Nat} (hi : i < l.length) : l = l.take i ++ bkAt l i :: l.drop (i + 1) ∧ (l.take i).length = i := by
  refine ⟨?_, by rw [List.length_take]; omega⟩
  have e : l.drop i = bkAt l i :: l.drop (i + 1) := by
    have h := bkAt_get hi
    rw [List.getElem?_eq_getElem hi] at h
    injection h with h
    rw [List.drop_eq_getElem_cons hi, h]
  rw [← e, List.take_append_drop]
section
variable {H : Hp} {A B : List Bk} {y z : Bk} {i : Nat}
theorem mid_use (hb : H.blks = A ++ y :: B) (u : Bool) : (H.use A.length u).blks = A ++ { y with used := u } :: B := by
  show H.blks.set A.length { bkAt H.blks A.length with used := u } = _
  rw [hb, mid_at, List.set_append_right _ _ (Nat.le_refl _), Nat.sub_self]
  rfl
theorem mid_size (hb : H.blks = A ++ y :: B) (s : Nat) : (H.size A.length s).blks = A ++ { y with size := s } :: B := by
  show H.blks.set A.length { bkAt H.blks A.length with size := s } = _
  rw [hb, mid_at, List.set_append_right _ _ (Nat.le_refl _), Nat.sub_self]
  rfl
theorem mid_join (hb : H.blks = A ++ y :: z :: B) : (H.join A.length).blks = A ++ { y with size := y.size + z.size } :: B := by
  rw [join_blks H (i := A.length) (by rw [hb]; simp), hb, mid_at, mid_at1, List.take_left, show A ++ y :: z :: B = (A ++ [y, z]) ++ B by simp, List.drop_left' (by simp)]
theorem mid_out (hb : H.blks = A ++ y :: B) : (H.out A.length).lists = tkL H.lists y := by
  show setL H.lists (clsB (bkAt H.blks A.length)) _ = _
  rw [hb, mid_at]
  rfl
theorem mid_in (hb : H.blks = A ++ y :: B) : (H.in_ A.length).lists = ptL H.lists y := by
  show setL H.lists (clsB (bkAt H.blks A.length)) _ = _
  rw [hb, mid_at]
  rfl
end
theorem nextF_mid (A : List Bk) (x : Bk) (B : List Bk) : nextF (A ++ x :: B) A.length = match B with
  | [] => false
  | n :: _ => !n.used := by
  unfold nextF
  cases B with
  | nil => simp
  | cons n r =>
    rw [mid_at1]
    simp
theorem prevF_mid (A : List Bk) (p x : Bk) (B : List Bk) : prevF (A ++ p :: x :: B) (A.length + 1) = !p.used := by
  unfold prevF
  rw [Nat.add_sub_cancel, mid_at]
  simp

/-- What is free right behind, and what right ahead. -/
structure Near (A1 : List Bk) (p : Option Bk) (n : Option Bk) (B1 : List Bk) : Prop where
  pf : ∀ y, p = some y → y.used = false
  nf : ∀ y, n = some y → y.used = false
  pu : p = none → ∀ y r, A1 = r ++ [y] → y.used = true
  nu : n = none → ∀ y r, B1 = y :: r → y.used = true
theorem near_of (A B : List Bk) : ∃ A1 p n B1, A = A1 ++ p.toList ∧ B = n.toList ++ B1 ∧ Near A1 p n B1 := by
  have h1 : ∃ A1 p, A = A1 ++ p.toList ∧ (∀ y, p = some y → y.used = false) ∧ (p = none → ∀ y r, A1 = r ++ [y] → y.used = true) := by
    rcases List.eq_nil_or_concat A with e | ⟨r, y, e⟩
    · refine ⟨[], none, e, fun y hy => (by cases hy), fun _ y r h => ?_⟩
      have := congrArg List.length h
      simp at this
    · rw [List.concat_eq_append] at e
      cases hu : y.used with
      | false => exact ⟨r, some y, e, fun z hz => (by injection hz with hz; rw [← hz]; exact hu), fun h => (by cases h)⟩
      | true =>
        refine ⟨A, none, by simp, fun y hy => (by cases hy), fun _ z r2 h => ?_⟩
        rw [e] at h
        have := List.append_inj_right' h rfl
        injection this with h1
        rw [← h1]; exact hu
  have h2 : ∃ n B1, B = n.toList ++ B1 ∧ (∀ y, n = some y → y.used = false) ∧ (n = none → ∀ y r, B1 = y :: r → y.used = true) := by
    cases B with
    | nil => exact ⟨none, [], rfl, fun y hy => (by cases hy), fun _ y r h => (by cases h)⟩
    | cons y r =>
      cases hu : y.used with
      | false => exact ⟨some y, r, rfl, fun z hz => (by injection hz with hz; rw [← hz]; exact hu), fun h => (by cases h)⟩
      | true => exact ⟨none, y :: r, rfl, fun y hy => (by cases hy), fun _ z r2 h => (by injection h with h1 _; rw [← h1]; exact hu)⟩
  obtain ⟨A1, p, e1, e2, e3⟩ := h1
  obtain ⟨n, B1, f1, f2, f3⟩ := h2
  exact ⟨A1, p, n, B1, e1, f1, e2, f2, e3, f3⟩
/-- The whole that is free then. -/
def whole (p : Option Bk) (x : Bk) (n : Option Bk) : Bk := ⟨(p.getD x).off, (p.map Bk.size).getD 0 + x.size + (n.map Bk.size).getD 0, false⟩

/-- The blocks and the lists behind Give. -/
theorem give_at {H : Hp} {A1 B1 : List Bk} {p n : Option Bk} {x : Bk} (hb : H.blks = (A1 ++ p.toList) ++ x :: (n.toList ++ B1)) (hN : Near A1 p n B1) :
    (H.give (A1 ++ p.toList).length).blks = A1 ++ whole p x n :: B1 ∧ (H.give (A1 ++ p.toList).length).lists = ptL (tkO (tkO H.lists n) p) (whole p x n) := by
  obtain ⟨A, hA⟩ : ∃ A, A1 ++ p.toList = A := ⟨_, rfl⟩
  rw [hA] at hb ⊢
  obtain ⟨H0, hH0⟩ : ∃ H0, (H.use A.length false).wipe A.length = H0 := ⟨_, rfl⟩
  have b0 : H0.blks = A ++ { x with used := false } :: (n.toList ++ B1) := by rw [← hH0]; exact mid_use hb false
  have l0 : H0.lists = H.lists := by rw [← hH0]; rfl
  -- what is behind
  have h1 : (H0.giveB A.length).blks = A ++ ⟨x.off, x.size + (n.map Bk.size).getD 0, false⟩ :: B1 ∧ (H0.giveB A.length).lists = tkO H.lists n := by
    unfold Hp.giveB
    rw [b0, nextF_mid]
    cases n with
    | none =>
      have e : (match (none : Option Bk).toList ++ B1 with
        | [] => false
        | n :: _ => !n.used) = false := by
        cases B1 with
        | nil => rfl
        | cons y r =>
          show (!y.used) = false
          rw [hN.nu rfl y r rfl]; rfl
      rw [e, if_neg (by simp)]
      exact ⟨b0, l0⟩
    | some m =>
      have hm := hN.nf m rfl
      show (if (!m.used) = true then _ else _ : Hp).blks = _ ∧ (if (!m.used) = true then _ else _ : Hp).lists = _
      rw [hm, if_pos (by rfl)]
      constructor
      · exact mid_join (H := H0.out (A.length + 1)) (y := { x with used := false }) (z := m) b0
      · have b0' : H0.blks = (A ++ [{ x with used := false }]) ++ m :: B1 := by rw [b0]; simp
        have := mid_out b0'
        rw [List.length_append, List.length_singleton] at this
        show (H0.out (A.length + 1)).lists = _
        rw [this, l0]
        rfl
  obtain ⟨b1, l1⟩ := h1
  have e : H.give A.length = (H0.giveB A.length).giveC A.length := by rw [← hH0]; rfl
  rw [e]
  obtain ⟨G, hG⟩ : ∃ G, H0.giveB A.length = G := ⟨_, rfl⟩
  rw [hG] at b1 l1 ⊢
  -- what is ahead
  unfold Hp.giveC
  cases p with
  | none =>
    have hA : A1 = A := by rw [← hA]; simp
    have hp : prevF G.blks A.length = false := by
      rcases List.eq_nil_or_concat A with e | ⟨r, y, e⟩
      · rw [b1, e]; rfl
      · rw [List.concat_eq_append] at e
        have hu := hN.pu rfl y r (by rw [hA]; exact e)
        rw [b1, e, List.append_assoc, List.length_append]
        exact (prevF_mid r y _ B1).trans (by rw [hu]; rfl)
    rw [hp, if_neg (by simp)]
    have hw : whole none x n = ⟨x.off, x.size + (n.map Bk.size).getD 0, false⟩ := by unfold whole; simp
    rw [hw]
    refine ⟨by rw [hA]; exact b1, ?_⟩
    rw [mid_in b1, l1]
    rfl
  | some q =>
    have hq := hN.pf q rfl
    have hA' : A = A1 ++ [q] := by rw [← hA]; rfl
    have b1' : G.blks = A1 ++ q :: ⟨x.off, x.size + (n.map Bk.size).getD 0, false⟩ :: B1 := by rw [b1, hA']; simp
    have hlen : A.length = A1.length + 1 := by rw [hA']; simp
    rw [hlen, Nat.add_sub_cancel, b1', prevF_mid, hq, if_pos (by rfl)]
    have hw : whole (some q) x n = { q with size := q.size + (x.size + (n.map Bk.size).getD 0) } := by
      unfold whole
      show Bk.mk q.off (q.size + x.size + (n.map Bk.size).getD 0) false = Bk.mk q.off (q.size + (x.size + (n.map Bk.size).getD 0)) q.used
      rw [hq, Nat.add_assoc]
    have b2 : ((G.out A1.length).join A1.length).blks = A1 ++ whole (some q) x n :: B1 := by
      rw [hw]
      exact mid_join (H := G.out A1.length) b1'
    refine ⟨b2, ?_⟩
    rw [mid_in b2]
    show ptL (G.out A1.length).lists _ = _
    rw [mid_out b1', l1]
    rfl
end Go.Proofs.YtbemaoncakcnjaaGreat

/- Giving a block back in bytes, plain: each step of it, and that what stands then is the heap behind it. No program in sight. -/
namespace Go.Proofs.YtbemaoncakcnjaaGreat

/-- A byte of what a block holds. -/
def Pay (z : Bk) (i : Nat) : Prop := z.off + 8 ≤ i ∧ i + 8 < z.off + z.size
theorem Kept.pay {P : List Bk} {bs out : List UInt8} (h : Kept P bs out) (h1 : ∀ y ∈ P, 184 ≤ y.off ∧ 32 ≤ y.size) (ha : ∀ x ∈ P, ∀ y ∈ P, x = y ∨ x.off + x.size ≤ y.off ∨ y.off + y.size ≤ x.off) {z : Bk} (hz : z ∈ P) (hu : z.used = true) {i : Nat} (hi : Pay z i) : out[i]? = bs[i]? := by
  have hz1 := h1 z hz
  obtain ⟨p1, p2⟩ := hi
  refine h i (by omega) fun y hy hyu => ?_
  have hy1 := h1 y hy
  rcases ha z hz y hy with rfl | hd | hd
  · rw [hu] at hyu; cases hyu
  · omega
  · omega
theorem cls_of {y : Bk} (h : isSz (y.size : Int) = true) : classI (y.size : Int) = (clsB y : Int) ∧ clsB y < 22 := by
  obtain ⟨c, h1, h2⟩ := class_nat h
  unfold clsB
  rw [h1]
  exact ⟨rfl, h2⟩
theorem tkL_mem {L : Nat → List Nat} {y : Bk} {c o : Nat} : o ∈ tkL L y c ↔ o ∈ L c ∧ (c = clsB y → o ≠ y.off) := by
  unfold tkL setL
  by_cases h : c = clsB y
  · subst h
    rw [if_pos rfl, List.mem_filter]
    simp
  · rw [if_neg h]
    simp [h]
theorem tkO_mem {L : Nat → List Nat} {p : Option Bk} {c o : Nat} : o ∈ tkO L p c ↔ o ∈ L c ∧ ∀ y, p = some y → c = clsB y → o ≠ y.off := by
  cases p with
  | none => simp [tkO]
  | some y => simp [tkO, tkL_mem]
theorem ptL_mem {L : Nat → List Nat} {y : Bk} {c o : Nat} : o ∈ ptL L y c ↔ (c = clsB y ∧ o = y.off) ∨ o ∈ L c := by
  unfold ptL setL
  by_cases h : c = clsB y
  · subst h
    rw [if_pos rfl, List.mem_cons]
    simp
  · rw [if_neg h]
    simp [h]

theorem nadj_cons (u : Bool) (x : Bk) (r : List Bk) : nadj u (x :: r) = ((u || x.used) && nadj x.used r) := rfl
/-- What comes of taking a block out, if there is one. -/
def outB (bs : List UInt8) : Option Bk → Option (List UInt8)
  | none => some bs
  | some y => takeB bs (y.off : Int)
section
variable {bs : List UInt8} {H : Hp}
theorem Md.congr {H' : Hp} (h : Md bs H) (e1 : H'.blks = H.blks) (e2 : H'.lists = H.lists) (e3 : H'.cap = H.cap) : Md bs H' := ⟨by rw [e1]; exact h.tl, by rw [e1, e2]; exact h.ls, h.hi, by rw [e3]; exact h.len⟩
theorem Md.facts (h : Md bs H) : ∀ y ∈ H.blks, 184 ≤ y.off ∧ 32 ≤ y.size := fun y hy => by
  have := h.ls.st.facts hy
  omega
theorem Md.takeO (h : Md bs H) (n : Option Bk) (hn : ∀ y, n = some y → y ∈ H.blks ∧ y.off ∈ H.lists (clsB y)) : ∃ out, outB bs n = some out ∧ Md out { H with lists := tkO H.lists n } ∧ out.length = bs.length ∧ Kept H.blks bs out := by
  cases n with
  | none => exact ⟨bs, rfl, h, rfl, Kept.refl _ _⟩
  | some y =>
    obtain ⟨hy, hm⟩ := hn y rfl
    have hf := h.ls.st.facts hy
    obtain ⟨_, hc22⟩ := cls_of hf.2.2.2.2.2
    obtain ⟨out, h1, h2, h3, h4⟩ := h.ls.take hy hc22 hm
    have e : (fun q : Nat => decide (q ≠ y.off)) = (fun o => o != y.off) := by funext q; simp [bne]; rfl
    rw [e] at h2
    have h5 := takeB_high h.ls.len h1
    have h6 := h.hi
    exact ⟨out, h1, ⟨by rw [h3]; exact h.tl, h2, by omega, by rw [h3]; exact h.len⟩, h3, h4⟩
theorem Md.put (h : Md bs H) {y : Bk} (hy : y ∈ H.blks) (hu : y.used = false) (hm : y.off ∉ H.lists (clsB y)) : ∃ out, putB bs (y.off : Int) = some out ∧ Md out { H with lists := ptL H.lists y } ∧ out.length = bs.length ∧ Kept H.blks bs out := by
  have hf := h.ls.st.facts hy
  obtain ⟨hc, hc22⟩ := cls_of hf.2.2.2.2.2
  obtain ⟨out, h1, h2, h3, h4⟩ := h.ls.put hy hu hc hc22 hm
  have h5 := (putB_high h.ls.len h1).2
  have h6 := h.hi
  exact ⟨out, h1, ⟨by rw [h3]; exact h.tl, h2, by omega, by rw [h3]; exact h.len⟩, h3, h4⟩
/-- What is free of what was told. -/
def frO : Option Bk → Option Bk
  | none => none
  | some y => if y.used = true then none else some y
theorem getB_end (bs : List UInt8) : getB bs (bs.length : Int) = none := by
  cases h : getB bs (bs.length : Int) with
  | none => rfl
  | some x =>
    obtain ⟨h1, _, _, h2, h3, _⟩ := getB_some h
    have := (isSz_iff _).1 h3
    omega
theorem aheadB_184 (bs : List UInt8) : aheadB bs 184 = none := by
  unfold aheadB
  split
  · rfl
  · split
    · rfl
    · split
      · rfl
      · rename_i s u _ x hg
        obtain ⟨h1, h2, _, _, h3, _⟩ := getB_some hg
        have := (isSz_iff _).1 h3
        rw [if_neg (by omega)]
theorem Md.behind (h : Md bs H) {A1 B1 : List Bk} {p n : Option Bk} {x : Bk} (hb : H.blks = (A1 ++ p.toList) ++ x :: (n.toList ++ B1)) (hN : Near A1 p n B1) : frO (getB bs ((x.off : Int) + (x.size : Int))) = n := by
  have ht := h.tl
  rw [hb, tile_app] at ht
  obtain ⟨_, h1, _, h3⟩ := ht
  have e : (x.off : Int) + (x.size : Int) = ((184 + sumB (A1 ++ p.toList) + x.size : Nat) : Int) := by omega
  rw [e]
  obtain ⟨q, hq⟩ : ∃ q, 184 + sumB (A1 ++ p.toList) + x.size = q := ⟨_, rfl⟩
  rw [hq] at h3 ⊢
  cases n with
  | some m =>
    obtain ⟨a, _, _⟩ := h3
    rw [← a, h.ls.st.at_ m (by rw [hb]; simp)]
    show (if m.used = true then none else some m) = some m
    rw [hN.nf m rfl, if_neg (by simp)]
  | none =>
    cases B1 with
    | nil =>
      have e : q = bs.length := h3
      rw [e, getB_end]; rfl
    | cons y r =>
      obtain ⟨a, _, _⟩ := h3
      rw [← a, h.ls.st.at_ y (by rw [hb]; simp)]
      show (if y.used = true then none else some y) = none
      rw [hN.nu rfl y r rfl, if_pos rfl]
/-- What ends where these end. -/
theorem Md.ends (h : Md bs H) {A B : List Bk} (hb : H.blks = A ++ B) {o : Nat} (ho : o = 184 + sumB A) : (A = [] ∧ aheadB bs (o : Int) = none) ∨ ∃ r y, A = r ++ [y] ∧ aheadB bs (o : Int) = some y := by
  rcases List.eq_nil_or_concat A with e | ⟨r, y, e⟩
  · left
    subst e
    subst ho
    exact ⟨rfl, aheadB_184 bs⟩
  · right
    rw [List.concat_eq_append] at e
    refine ⟨r, y, e, ?_⟩
    have ht := h.tl
    rw [hb, e, List.append_assoc, tile_app] at ht
    obtain ⟨_, h1, _, _⟩ := ht
    have hy := aheadB_of (h.ls.st.at_ y (by rw [hb, e]; simp))
    have e2 : (o : Int) = (y.off : Int) + (y.size : Int) := by
      rw [ho, e, sumB_app]
      show ((184 + (sumB r + (y.size + 0)) : Nat) : Int) = _
      omega
    rw [e2]
    exact hy
theorem Md.ahead (h : Md bs H) {A1 B1 : List Bk} {p n : Option Bk} {x : Bk} (hb : H.blks = (A1 ++ p.toList) ++ x :: (n.toList ++ B1)) (hN : Near A1 p n B1) : frO (aheadB bs (x.off : Int)) = p := by
  have ht := h.tl
  rw [hb, tile_app] at ht
  obtain ⟨_, h1, _, _⟩ := ht
  rcases h.ends hb h1 with ⟨e, e2⟩ | ⟨r, y, e, e2⟩
  · rw [e2]
    cases p with
    | none => rfl
    | some q => simp at e
  · rw [e2]
    cases p with
    | none =>
      show (if y.used = true then none else some y) = none
      rw [hN.pu rfl y r (by simpa using e), if_pos rfl]
    | some q =>
      have h1 : q = y := by
        have := congrArg List.getLast? e
        simpa using this
      have hq := hN.pf q rfl
      rw [h1] at hq ⊢
      unfold frO
      dsimp only
      rw [hq, if_neg (by simp)]

/-- Giving back. -/
theorem Rt.gives (h : Rt bs H) (hc : H.cap ≤ 16384) {A1 B1 : List Bk} {p n : Option Bk} {x : Bk} (hb : H.blks = (A1 ++ p.toList) ++ x :: (n.toList ++ B1)) (hN : Near A1 p n B1) (hu : x.used = true) :
    ∃ b1 b2 out, outB bs n = some b1 ∧ outB b1 p = some b2 ∧ setB b2 ((whole p x n).off : Int) ((whole p x n).size : Int) false = some (setT b2 (whole p x n)) ∧ putB (setT b2 (whole p x n)) ((whole p x n).off : Int) = some out ∧
      b1.length = bs.length ∧ b2.length = bs.length ∧ (setT b2 (whole p x n)).length = bs.length ∧ out.length = bs.length ∧ Rt out (H.give (A1 ++ p.toList).length) ∧ ∀ z ∈ H.blks, z.used = true → z ≠ x → ∀ i, Pay z i → out[i]? = bs[i]? := by
  obtain ⟨gb, gl⟩ := give_at hb hN
  have gc : (H.give (A1 ++ p.toList).length).cap = H.cap := give_cap
  obtain ⟨w, hw⟩ : ∃ w, whole p x n = w := ⟨_, rfl⟩
  have hwu : w.used = false := by rw [← hw]; rfl
  rw [hw] at gb gl ⊢
  have hM := h.md hc
  have hF := h.complete
  have hadj : nadj true H.blks = true := by rw [← noAdj_nadj]; exact h.nfree.2.1
  have hsm := hM.ls.small
  -- where all stands
  have ht := hM.tl
  rw [hb, tile_app, tile_app, sumB_app] at ht
  obtain ⟨⟨t1, t2⟩, t3, t4, t5⟩ := ht
  obtain ⟨o1, ho1⟩ : ∃ o1, 184 + sumB A1 = o1 := ⟨_, rfl⟩
  obtain ⟨e, he⟩ : ∃ e, bs.length = e := ⟨_, rfl⟩
  rw [he] at t5
  have hp : (p = none ∧ w.off = o1 ∧ x.off = o1 ∧ w.size = x.size + (n.map Bk.size).getD 0) ∨ ∃ q, p = some q ∧ q.off = o1 ∧ isSz (q.size : Int) = true ∧ x.off = o1 + q.size ∧ w.off = o1 ∧ w.size = q.size + x.size + (n.map Bk.size).getD 0 := by
    cases p with
    | none =>
      left
      have e1 : x.off = o1 := by rw [t3, ← ho1]; simp [sumB]
      refine ⟨rfl, ?_, e1, ?_⟩
      · rw [← hw]; exact e1
      · rw [← hw]; show 0 + x.size + _ = _; omega
    | some q =>
      right
      obtain ⟨a, b, _⟩ := t2
      refine ⟨q, rfl, by rw [a, ho1], b, ?_, ?_, ?_⟩
      · rw [t3, ← ho1]; simp [sumB]; omega
      · rw [← hw]; show q.off = _; rw [a, ho1]
      · rw [← hw]; rfl
  have hxo : 184 + (sumB A1 + sumB p.toList) = x.off := t3.symm
  have t1' : tile 184 A1 o1 := by rw [← ho1]; exact t1
  rw [hxo] at t5
  rw [tile_app] at t5
  obtain ⟨t6, t7⟩ := t5
  have hn : (n = none ∧ (n.map Bk.size).getD 0 = 0 ∧ sumB n.toList = 0) ∨ ∃ m, n = some m ∧ m.off = x.off + x.size ∧ isSz (m.size : Int) = true ∧ (n.map Bk.size).getD 0 = m.size ∧ sumB n.toList = m.size := by
    cases n with
    | none => exact .inl ⟨rfl, rfl, rfl⟩
    | some m =>
      obtain ⟨a, b, _⟩ := t6
      exact .inr ⟨m, rfl, a, b, rfl, by simp [sumB]⟩
  obtain ⟨mA1, mA⟩ := tile_mem A1 _ _ t1'
  obtain ⟨mB1, mB⟩ := tile_mem B1 _ _ t7
  have sx := (isSz_iff _).1 t4
  have hwe : w.off + w.size = x.off + x.size + sumB n.toList ∧ w.off = o1 ∧ o1 ≤ x.off ∧ w.size % 16 = 0 ∧ 32 ≤ w.size := by
    rcases hp with ⟨_, p1, p2, p3⟩ | ⟨q, _, p1, p4, p2, p5, p3⟩
    · rcases hn with ⟨_, n1, n2⟩ | ⟨m, _, n0, n3, n1, n2⟩
      · omega
      · have := (isSz_iff _).1 n3; omega
    · have := (isSz_iff _).1 p4
      rcases hn with ⟨_, n1, n2⟩ | ⟨m, _, n0, n3, n1, n2⟩
      · omega
      · have := (isSz_iff _).1 n3; omega
  obtain ⟨w1, w2, w3, w4, w5⟩ := hwe
  have ho1e : o1 % 16 = 8 ∧ 184 ≤ o1 := by
    refine ⟨?_, by omega⟩
    have hxm := ((tile_mem _ _ _ hM.tl).2 x (by rw [hb]; simp)).2.2.2
    rcases hp with ⟨_, p1, p2, p3⟩ | ⟨q, _, p1, p4, p2, p5, p3⟩
    · omega
    · have := (isSz_iff _).1 p4; omega
  have hws : isSz (w.size : Int) = true := (isSz_iff _).2 (by omega)
  have inA : ∀ y ∈ A1, y.off + y.size ≤ w.off := fun y hy => by have := mA y hy; omega
  have inB : ∀ y ∈ B1, w.off + w.size ≤ y.off := fun y hy => by have := mB y hy; omega
  -- what is taken out
  have hn0 : ∀ y, n = some y → y ∈ H.blks ∧ y.off ∈ H.lists (clsB y) := fun y hy => by
    have hm : y ∈ H.blks := by rw [hb, hy]; simp
    obtain ⟨c1, c2⟩ := cls_of (hM.ls.st.facts hm).2.2.2.2.2
    exact ⟨hm, hF _ c2 _ (mem_freeL hm (hN.nf y hy) c1)⟩
  obtain ⟨b1, e1, M1, l1, k1⟩ := hM.takeO n hn0
  have hp0 : ∀ y, p = some y → y ∈ H.blks ∧ y.off ∈ tkO H.lists n (clsB y) := fun y hy => by
    have hm : y ∈ H.blks := by rw [hb, hy]; simp
    obtain ⟨c1, c2⟩ := cls_of (hM.ls.st.facts hm).2.2.2.2.2
    refine ⟨hm, tkO_mem.2 ⟨hF _ c2 _ (mem_freeL hm (hN.pf y hy) c1), fun z hz _ => ?_⟩⟩
    rcases hp with ⟨p0, _⟩ | ⟨q, p0, p1, p4, p2, _⟩
    · rw [p0] at hy; cases hy
    · rw [p0] at hy
      injection hy with hy
      subst hy
      rcases hn with ⟨n0, _⟩ | ⟨m, n0, n1, _⟩
      · rw [n0] at hz; cases hz
      · rw [n0] at hz
        injection hz with hz
        subst hz
        omega
  obtain ⟨b2, e2, M2, l2, k2⟩ := M1.takeO p hp0
  have k2 : Kept H.blks b1 b2 := k2
  have M2L : Lists b2 H.blks (tkO (tkO H.lists n) p) := M2.ls
  have hwl : w.off + w.size ≤ b2.length := by
    rcases B1 with _ | ⟨y, r⟩
    · have : x.off + x.size + sumB n.toList = e := t7
      omega
    · have := mB1; omega
  -- what is listed lies ahead, or behind
  have hL : ∀ c, c < 22 → ∀ o ∈ tkO (tkO H.lists n) p c, ∃ y ∈ A1 ++ w :: B1, y ∈ H.blks ∧ y.off = o ∧ (y.off + y.size ≤ w.off ∨ w.off + w.size ≤ y.off) := fun c hc o ho => by
    rw [tkO_mem, tkO_mem] at ho
    obtain ⟨⟨ho, hno⟩, hpo⟩ := ho
    obtain ⟨y, hy, ey, hyu, hyc⟩ := hM.ls.mem c hc o ho
    obtain ⟨c1, _⟩ := cls_of (hM.ls.st.facts hy).2.2.2.2.2
    have hcc : c = clsB y := by omega
    have hy' := hy
    rw [hb] at hy
    rcases List.mem_append.1 hy with hy | hy
    · rcases List.mem_append.1 hy with hy | hy
      · exact ⟨y, by simp [hy], hy', ey, .inl (inA y hy)⟩
      · exact absurd ey.symm (hpo y (by simpa using hy) hcc)
    · rcases List.mem_cons.1 hy with rfl | hy
      · rw [hu] at hyu; cases hyu
      · rcases List.mem_append.1 hy with hy | hy
        · exact absurd ey.symm (hno y (by simpa using hy) hcc)
        · exact ⟨y, by simp [hy], hy', ey, .inr (inB y hy)⟩
  have hQ : ∀ y ∈ A1 ++ w :: B1, y = w ∨ (y ∈ H.blks ∧ (y.off + y.size ≤ w.off ∨ w.off + w.size ≤ y.off)) := fun y hy => by
    rcases List.mem_append.1 hy with hy | hy
    · exact .inr ⟨by rw [hb]; simp [hy], .inl (inA y hy)⟩
    · rcases List.mem_cons.1 hy with rfl | hy
      · exact .inl rfl
      · exact .inr ⟨by rw [hb]; simp [hy], .inr (inB y hy)⟩
  have w184 : 184 ≤ w.off := by omega
  have w16 : w.off % 16 = 8 := by omega
  have LS := M2L.set w184 w16 hwl hws hQ hL
  have l3 := setT_length hws hwl
  have M3 : Md (setT b2 w) { H with blks := A1 ++ w :: B1, lists := tkO (tkO H.lists n) p } := by
    refine ⟨?_, LS, ?_, by rw [l3, l2, l1]; exact hM.len⟩
    · show tile 184 (A1 ++ w :: B1) _
      rw [l3, l2, l1, tile_app, ho1, he]
      refine ⟨t1', w2, hws, ?_⟩
      rw [show o1 + w.size = x.off + x.size + sumB n.toList by omega]
      exact t7
    · rw [setT_same hws hwl _ (by omega)]; exact M2.hi
  have hwm : w.off ∉ tkO (tkO H.lists n) p (clsB w) := fun hm => by
    obtain ⟨_, c2⟩ := cls_of hws
    obtain ⟨y, _, hyP, ey, hd⟩ := hL _ c2 _ hm
    have := hM.facts y hyP
    omega
  obtain ⟨out, e4, M4, l4, k4⟩ := M3.put (y := w) (by simp) hwu hwm
  refine ⟨b1, b2, out, e1, e2, ?_, e4, l1, by rw [l2, l1], by rw [l3, l2, l1], by rw [l4, l3, l2, l1], ?_, fun z hz hzu hzx i hi => ?_⟩
  · have := setB_of b2 w w184 w16 hwl hws
    rw [hwu] at this
    exact this
  · -- right
    refine Md.rt (M4.congr gb gl gc) (fun c hc o ho => ?_) ?_
    · rw [gb] at ho
      rw [gl, ptL_mem]
      obtain ⟨y, hy, ey, hyu, hyc⟩ := freeL_mem ho
      rcases hQ y hy with rfl | ⟨hyP, hd⟩
      · left
        obtain ⟨c1, _⟩ := cls_of hws
        exact ⟨by omega, ey.symm⟩
      · right
        rw [tkO_mem, tkO_mem]
        refine ⟨⟨by rw [← ey]; exact hF c hc _ (mem_freeL hyP hyu hyc), fun z hz _ => ?_⟩, fun z hz _ => ?_⟩
        · have hz0 : z.off = x.off + x.size ∧ z.off + z.size ≤ w.off + w.size := by
            rcases hn with ⟨n0, _⟩ | ⟨m, n0, n1, _, _, n4⟩
            · rw [n0] at hz; cases hz
            · rw [n0] at hz
              injection hz with hz
              subst hz
              omega
          have := hM.facts y hyP
          have := hM.facts z (hn0 z hz).1
          omega
        · have hz0 : z.off = o1 ∧ z.off + z.size ≤ w.off + w.size := by
            rcases hp with ⟨p0, _⟩ | ⟨q, p0, p1, p4, p2, _⟩
            · rw [p0] at hz; cases hz
            · rw [p0] at hz
              injection hz with hz
              subst hz
              omega
          have := hM.facts y hyP
          have := hM.facts z (hp0 z hz).1
          omega
    · rw [gb, noAdj_nadj, nadj_app]
      rw [hb, nadj_app, nadj_app, nadj_cons] at hadj
      rw [nadj_cons]
      simp only [Bool.and_eq_true, Bool.or_eq_true] at hadj ⊢
      obtain ⟨⟨a1, a2⟩, _, a3⟩ := hadj
      rw [hwu]
      refine ⟨a1, .inl ?_, ?_⟩
      · cases p with
        | none =>
          rcases List.eq_nil_or_concat A1 with e | ⟨r, y, e⟩
          · rw [e]; rfl
          · rw [List.concat_eq_append] at e
            rw [e, lastU_app]
            exact hN.pu rfl y r e
        | some q =>
          have hq := hN.pf q rfl
          have a2 : nadj (lastU true A1) [q] = true := a2
          rw [nadj_cons, hq, Bool.or_false, Bool.and_eq_true] at a2
          exact a2.1
      · rw [hu] at a3
        cases n with
        | none =>
          cases B1 with
          | nil => rfl
          | cons y r =>
            have hy := hN.nu rfl y r rfl
            have a3 : nadj true (y :: r) = true := a3
            rw [nadj_cons, hy, Bool.and_eq_true] at a3
            rw [nadj_cons, hy, Bool.and_eq_true]
            exact ⟨rfl, a3.2⟩
        | some m =>
          have hm := hN.nf m rfl
          have a3 : nadj true (m :: B1) = true := a3
          rw [nadj_cons, hm, Bool.and_eq_true] at a3
          exact a3.2
  · -- what is held
    have hz2 : z ∈ A1 ∨ z ∈ B1 := by
      rw [hb] at hz
      rcases List.mem_append.1 hz with hz | hz
      · rcases List.mem_append.1 hz with hz | hz
        · exact .inl hz
        · have := hN.pf z (by simpa using hz)
          rw [hzu] at this; cases this
      · rcases List.mem_cons.1 hz with hz | hz
        · exact absurd hz hzx
        · rcases List.mem_append.1 hz with hz | hz
          · have := hN.nf z (by simpa using hz)
            rw [hzu] at this; cases this
          · exact .inr hz
    have hzf := hM.facts z hz
    have ap := hM.ls.st.apart
    have zw : z.off + z.size ≤ w.off ∨ w.off + w.size ≤ z.off := by
      rcases hz2 with h2 | h2
      · exact .inl (inA z h2)
      · exact .inr (inB z h2)
    have zQ : z ∈ A1 ++ w :: B1 := by rcases hz2 with h2 | h2 <;> simp [h2]
    have s4 := k4.pay M3.facts M3.ls.st.apart (z := z) zQ hzu hi
    obtain ⟨i1, i2⟩ := hi
    have s3 := setT_get hws hwl i (by omega)
    rw [s4, s3, k2.pay hM.facts ap hz hzu ⟨i1, i2⟩, k1.pay hM.facts ap hz hzu ⟨i1, i2⟩]
end
end Go.Proofs.YtbemaoncakcnjaaGreat

/- Cutting and taking in bytes, plain: each step, and that what stands then is the heap behind it; what Find tells. No program in sight. -/
namespace Go.Proofs.YtbemaoncakcnjaaGreat

section
variable {bs : List UInt8} {H : Hp}
theorem Rt.congr {H' : Hp} (h : Rt bs H) (e1 : H'.blks = H.blks) (e2 : H'.lists = H.lists) (e3 : H'.cap = H.cap) : Rt bs H' := ⟨by rw [e1]; exact h.walk, by rw [e2]; exact h.all_, h.chk, by rw [e3]; exact h.len⟩
theorem Lists.takeO {P : List Bk} {L : Nat → List Nat} (h : Lists bs P L) (n : Option Bk) (hn : ∀ y, n = some y → y ∈ P ∧ y.off ∈ L (clsB y)) : ∃ out, outB bs n = some out ∧ Lists out P (tkO L n) ∧ out.length = bs.length ∧ Kept P bs out ∧ wordN out 0 / 4194304 = wordN bs 0 / 4194304 := by
  cases n with
  | none => exact ⟨bs, rfl, h, rfl, Kept.refl _ _, rfl⟩
  | some y =>
    obtain ⟨hy, hm⟩ := hn y rfl
    have hf := h.st.facts hy
    obtain ⟨_, hc22⟩ := cls_of hf.2.2.2.2.2
    obtain ⟨out, h1, h2, h3, h4⟩ := h.take hy hc22 hm
    have e : (fun q : Nat => decide (q ≠ y.off)) = (fun o => o != y.off) := by funext q; simp [bne]; rfl
    rw [e] at h2
    exact ⟨out, h1, h2, h3, h4, takeB_high h.len h1⟩
/-- Blocks one behind the other, one of them. -/
theorem tile_mid {A B : List Bk} {x : Bk} {e : Nat} (ht : tile 184 (A ++ x :: B) e) : tile 184 A x.off ∧ isSz (x.size : Int) = true ∧ tile (x.off + x.size) B e ∧ x.off % 16 = 8 ∧ 184 ≤ x.off ∧ x.off + x.size ≤ e ∧ (∀ y ∈ A, y.off + y.size ≤ x.off) ∧ ∀ y ∈ B, x.off + x.size ≤ y.off := by
  have hx := (tile_mem _ _ _ ht).2 x (by simp)
  rw [tile_app] at ht
  obtain ⟨t1, t2, t3, t4⟩ := ht
  rw [← t2] at t1 t4
  exact ⟨t1, t3, t4, by omega, by omega, by omega, fun y hy => ((tile_mem _ _ _ t1).2 y hy).2.1, fun y hy => ((tile_mem _ _ _ t4).2 y hy).1⟩
/-- A used block in two. -/
theorem Rt.cuts (h : Rt bs H) (hc : H.cap ≤ 16384) {A B : List Bk} {x : Bk} (hb : H.blks = A ++ x :: B) (hu : x.used = true) {s : Nat} (hs : isSz (s : Int) = true) (hle : s + 32 ≤ x.size) :
    setB bs (x.off : Int) (s : Int) true = some (setT bs ⟨x.off, s, true⟩) ∧
    setB (setT bs ⟨x.off, s, true⟩) ((x.off + s : Nat) : Int) ((x.size - s : Nat) : Int) true = some (setT (setT bs ⟨x.off, s, true⟩) ⟨x.off + s, x.size - s, true⟩) ∧
    (setT bs ⟨x.off, s, true⟩).length = bs.length ∧ (setT (setT bs ⟨x.off, s, true⟩) ⟨x.off + s, x.size - s, true⟩).length = bs.length ∧
    (((H.use A.length true).size A.length s).put (A.length + 1) ⟨x.off + s, x.size - s, true⟩).blks = (A ++ [⟨x.off, s, true⟩]) ++ ⟨x.off + s, x.size - s, true⟩ :: B ∧
    Rt (setT (setT bs ⟨x.off, s, true⟩) ⟨x.off + s, x.size - s, true⟩) (((H.use A.length true).size A.length s).put (A.length + 1) ⟨x.off + s, x.size - s, true⟩) ∧
    (∀ z ∈ H.blks, z ≠ x → ∀ i, Pay z i → (setT (setT bs ⟨x.off, s, true⟩) ⟨x.off + s, x.size - s, true⟩)[i]? = bs[i]?) ∧ (∀ i, Pay ⟨x.off, s, true⟩ i → (setT (setT bs ⟨x.off, s, true⟩) ⟨x.off + s, x.size - s, true⟩)[i]? = bs[i]?) := by
  have hM := h.md hc
  have hF := h.complete
  have hadj : nadj true H.blks = true := by rw [← noAdj_nadj]; exact h.nfree.2.1
  have ht := hM.tl
  rw [hb] at ht
  obtain ⟨t1, t2, t3, t4, t5, t6, tA, tB⟩ := tile_mid ht
  have sx := (isSz_iff _).1 t2
  have ss := (isSz_iff _).1 hs
  have hs2 : isSz ((x.size - s : Nat) : Int) = true := (isSz_iff _).2 (by omega)
  obtain ⟨y1, hy1⟩ : ∃ y1 : Bk, y1 = ⟨x.off, s, true⟩ := ⟨_, rfl⟩
  obtain ⟨y2, hy2⟩ : ∃ y2 : Bk, y2 = ⟨x.off + s, x.size - s, true⟩ := ⟨_, rfl⟩
  have o1 : y1.off = x.off := by rw [hy1]
  have z1 : y1.size = s := by rw [hy1]
  have u1 : y1.used = true := by rw [hy1]
  have o2 : y2.off = x.off + s := by rw [hy2]
  have z2 : y2.size = x.size - s := by rw [hy2]
  have u2 : y2.used = true := by rw [hy2]
  have s1 : setB bs (y1.off : Int) (y1.size : Int) y1.used = some (setT bs y1) := setB_of bs y1 (by omega) (by omega) (by omega) (by rw [z1]; exact hs)
  have l1 : (setT bs y1).length = bs.length := setT_length (by rw [z1]; exact hs) (by omega)
  have s2 : setB (setT bs y1) (y2.off : Int) (y2.size : Int) y2.used = some (setT (setT bs y1) y2) := setB_of _ y2 (by omega) (by omega) (by omega) (by rw [z2]; exact hs2)
  have l2 : (setT (setT bs y1) y2).length = bs.length := (setT_length (by rw [z2]; exact hs2) (by omega)).trans l1
  rw [o1, z1, u1] at s1
  rw [o2, z2, u2] at s2
  rw [← hy2, ← hy1]
  have hblk : (((H.use A.length true).size A.length s).put (A.length + 1) y2).blks = (A ++ [y1]) ++ y2 :: B := by
    have e : ((H.use A.length true).size A.length s).blks = (A ++ [y1]) ++ B := by
      rw [mid_size (mid_use hb true) s, hy1]
      simp
    show ((H.use A.length true).size A.length s).blks.take (A.length + 1) ++ y2 :: ((H.use A.length true).size A.length s).blks.drop (A.length + 1) = _
    rw [e, List.take_left' (by simp), List.drop_left' (by simp)]
  -- what is listed isn't x
  have hL : ∀ c, c < 22 → ∀ o ∈ H.lists c, ∃ y, (y ∈ A ∨ y ∈ B) ∧ y ∈ H.blks ∧ y.off = o ∧ (y.off + y.size ≤ x.off ∨ x.off + x.size ≤ y.off) := fun c hc o ho => by
    obtain ⟨y, hy, ey, hyu, _⟩ := hM.ls.mem c hc o ho
    have hy' := hy
    rw [hb] at hy
    rcases List.mem_append.1 hy with hy | hy
    · exact ⟨y, .inl hy, hy', ey, .inl (tA y hy)⟩
    · rcases List.mem_cons.1 hy with rfl | hy
      · rw [hu] at hyu; cases hyu
      · exact ⟨y, .inr hy, hy', ey, .inr (tB y hy)⟩
  have L1 : Lists (setT bs y1) (A ++ y1 :: B) H.lists := by
    refine hM.ls.set (by omega) (by omega) (by omega) (by rw [z1]; exact hs) (fun y hy => ?_) fun c hc o ho => ?_
    · rcases List.mem_append.1 hy with hy | hy
      · exact .inr ⟨by rw [hb]; simp [hy], .inl (by have := tA y hy; omega)⟩
      · rcases List.mem_cons.1 hy with rfl | hy
        · exact .inl rfl
        · exact .inr ⟨by rw [hb]; simp [hy], .inr (by have := tB y hy; omega)⟩
    · obtain ⟨y, hy, hyP, ey, hd⟩ := hL c hc o ho
      exact ⟨y, by rcases hy with hy | hy <;> simp [hy], hyP, ey, by omega⟩
  have L2 : Lists (setT (setT bs y1) y2) ((A ++ [y1]) ++ y2 :: B) H.lists := by
    refine L1.set (by omega) (by omega) (by omega) (by rw [z2]; exact hs2) (fun y hy => ?_) fun c hc o ho => ?_
    · rcases List.mem_append.1 hy with hy | hy
      · rcases List.mem_append.1 hy with hy | hy
        · exact .inr ⟨by simp [hy], .inl (by have := tA y hy; omega)⟩
        · rw [List.mem_singleton] at hy
          exact .inr ⟨by simp [hy], .inl (by rw [hy]; omega)⟩
      · rcases List.mem_cons.1 hy with rfl | hy
        · exact .inl rfl
        · exact .inr ⟨by simp [hy], .inr (by have := tB y hy; omega)⟩
    · obtain ⟨y, hy, hyP, ey, hd⟩ := hL c hc o ho
      exact ⟨y, by rcases hy with hy | hy <;> simp [hy], by rcases hy with hy | hy <;> simp [hy], ey, by omega⟩
  refine ⟨s1, s2, l1, l2, hblk, ?_, fun z hz hzx i hi => ?_, fun i hi => ?_⟩
  · have M : Md (setT (setT bs y1) y2) (((H.use A.length true).size A.length s).put (A.length + 1) y2) := by
      refine ⟨?_, by rw [hblk]; exact L2, ?_, by rw [l2]; exact hM.len⟩
      · rw [hblk, l2, List.append_assoc, tile_app]
        rw [tile_app] at ht
        obtain ⟨q1, q2, _⟩ := ht
        refine ⟨q1, by omega, by rw [z1]; exact hs, by omega, by rw [z2]; exact hs2, ?_⟩
        rw [← q2, show x.off + y1.size + y2.size = x.off + x.size by omega]
        exact t3
      · rw [setT_same (by rw [z2]; exact hs2) (by omega) _ (by omega), setT_same (by rw [z1]; exact hs) (by omega) _ (by omega)]
        exact hM.hi
    refine M.rt (fun c hc o ho => ?_) ?_
    · rw [hblk] at ho
      obtain ⟨y, hy, ey, hyu, hyc⟩ := freeL_mem ho
      have hyP : y ∈ H.blks := by
        rw [hb]
        rcases List.mem_append.1 hy with hy | hy
        · rcases List.mem_append.1 hy with hy | hy
          · simp [hy]
          · rw [List.mem_singleton] at hy
            rw [hy, u1] at hyu; cases hyu
        · rcases List.mem_cons.1 hy with rfl | hy
          · rw [u2] at hyu; cases hyu
          · simp [hy]
      rw [← ey]
      exact hF c hc _ (mem_freeL hyP hyu hyc)
    · rw [hblk, noAdj_nadj, nadj_app, nadj_app, nadj_cons, nadj_cons, lastU_app, u1, u2]
      rw [hb, nadj_app, nadj_cons, hu] at hadj
      simp only [Bool.and_eq_true, Bool.or_true] at hadj ⊢
      exact ⟨⟨hadj.1, trivial, rfl⟩, trivial, hadj.2.2⟩
  · obtain ⟨i1, i2⟩ := hi
    have hd : z.off + z.size ≤ x.off ∨ x.off + x.size ≤ z.off := by
      rw [hb] at hz
      rcases List.mem_append.1 hz with hz | hz
      · exact .inl (tA z hz)
      · rcases List.mem_cons.1 hz with hz | hz
        · exact absurd hz hzx
        · exact .inr (tB z hz)
    rw [setT_get (by rw [z2]; exact hs2) (by omega) i (by omega), setT_get (by rw [z1]; exact hs) (by omega) i (by omega)]
  · obtain ⟨i1, i2⟩ := hi
    rw [setT_get (by rw [z2]; exact hs2) (by omega) i (by omega), setT_get (by rw [z1]; exact hs) (by omega) i (by omega)]

/-- A free block is used. -/
theorem Rt.uses (h : Rt bs H) (hc : H.cap ≤ 16384) {A B : List Bk} {x : Bk} (hb : H.blks = A ++ x :: B) (hu : x.used = false) :
    ∃ b1, takeB bs (x.off : Int) = some b1 ∧ setB b1 (x.off : Int) (x.size : Int) true = some (setT b1 ⟨x.off, x.size, true⟩) ∧ b1.length = bs.length ∧ (setT b1 ⟨x.off, x.size, true⟩).length = bs.length ∧
      ((H.out A.length).use A.length true).blks = A ++ ⟨x.off, x.size, true⟩ :: B ∧ Rt (setT b1 ⟨x.off, x.size, true⟩) ((H.out A.length).use A.length true) ∧
      ∀ z ∈ H.blks, z.used = true → ∀ i, Pay z i → (setT b1 ⟨x.off, x.size, true⟩)[i]? = bs[i]? := by
  have hM := h.md hc
  have hF := h.complete
  have hadj : nadj true H.blks = true := by rw [← noAdj_nadj]; exact h.nfree.2.1
  have ht := hM.tl
  rw [hb] at ht
  obtain ⟨t1, t2, t3, t4, t5, t6, tA, tB⟩ := tile_mid ht
  have sx := (isSz_iff _).1 t2
  have hxP : x ∈ H.blks := by rw [hb]; simp
  obtain ⟨c1, c2⟩ := cls_of t2
  obtain ⟨b1, e1, L1, l1, k1, w1⟩ := hM.ls.takeO (some x) (fun y hy => by
    injection hy with hy
    subst hy
    exact ⟨hxP, hF _ c2 _ (mem_freeL hxP hu c1)⟩)
  obtain ⟨y1, hy1⟩ : ∃ y1 : Bk, y1 = ⟨x.off, x.size, true⟩ := ⟨_, rfl⟩
  have o1 : y1.off = x.off := by rw [hy1]
  have z1 : y1.size = x.size := by rw [hy1]
  have u1 : y1.used = true := by rw [hy1]
  have s1 : setB b1 (y1.off : Int) (y1.size : Int) y1.used = some (setT b1 y1) := setB_of b1 y1 (by omega) (by omega) (by omega) (by rw [z1]; exact t2)
  have l2 : (setT b1 y1).length = b1.length := setT_length (by rw [z1]; exact t2) (by omega)
  rw [o1, z1, u1] at s1
  rw [← hy1]
  have hblk : ((H.out A.length).use A.length true).blks = A ++ y1 :: B := by
    rw [mid_use (H := H.out A.length) (A := A) (y := x) (B := B) hb true, hy1]
  have hlst : ((H.out A.length).use A.length true).lists = tkL H.lists x := mid_out hb
  have hdA : ∀ y ∈ A ++ y1 :: B, y = y1 ∨ (y ∈ H.blks ∧ (y.off + y.size ≤ y1.off ∨ y1.off + y1.size ≤ y.off)) := fun y hy => by
    rcases List.mem_append.1 hy with hy | hy
    · exact .inr ⟨by rw [hb]; simp [hy], .inl (by have := tA y hy; omega)⟩
    · rcases List.mem_cons.1 hy with rfl | hy
      · exact .inl rfl
      · exact .inr ⟨by rw [hb]; simp [hy], .inr (by have := tB y hy; omega)⟩
  have L2 : Lists (setT b1 y1) (A ++ y1 :: B) (tkL H.lists x) := by
    refine L1.set (by omega) (by omega) (by omega) (by rw [z1]; exact t2) hdA fun c hc o ho => ?_
    have ho : o ∈ tkL H.lists x c := ho
    rw [tkL_mem] at ho
    obtain ⟨y, hy, ey, hyu, hyc⟩ := hM.ls.mem c hc o ho.1
    have hy' := hy
    rw [hb] at hy
    rcases List.mem_append.1 hy with hy | hy
    · exact ⟨y, by simp [hy], hy', ey, .inl (by have := tA y hy; omega)⟩
    · rcases List.mem_cons.1 hy with rfl | hy
      · exact absurd ey.symm (ho.2 (by omega))
      · exact ⟨y, by simp [hy], hy', ey, .inr (by have := tB y hy; omega)⟩
  refine ⟨b1, e1, s1, l1, l2.trans l1, hblk, ?_, fun z hz hzu i hi => ?_⟩
  · have hi := hM.hi
    have M : Md (setT b1 y1) ((H.out A.length).use A.length true) := by
      refine ⟨?_, by rw [hblk, hlst]; exact L2, ?_, by rw [l2, l1]; exact hM.len⟩
      · rw [hblk, l2, l1, tile_app]
        rw [tile_app] at ht
        obtain ⟨q1, q2, q3, q4⟩ := ht
        refine ⟨q1, by omega, by rw [z1]; exact t2, ?_⟩
        rw [z1]
        exact q4
      · rw [setT_same (by rw [z1]; exact t2) (by omega) _ (by omega)]
        omega
    refine M.rt (fun c hc o ho => ?_) ?_
    · rw [hblk] at ho
      rw [hlst, tkL_mem]
      obtain ⟨y, hy, ey, hyu, hyc⟩ := freeL_mem ho
      rcases hdA y hy with rfl | ⟨hyP, hd⟩
      · rw [u1] at hyu; cases hyu
      · have := hM.facts y hyP
        exact ⟨by rw [← ey]; exact hF c hc _ (mem_freeL hyP hyu hyc), fun _ => by omega⟩
    · rw [hblk, noAdj_nadj, nadj_app, nadj_cons, u1]
      rw [hb, nadj_app, nadj_cons, hu] at hadj
      simp only [Bool.and_eq_true, Bool.or_true] at hadj ⊢
      refine ⟨hadj.1, trivial, ?_⟩
      have h2 := hadj.2.2
      cases B with
      | nil => rfl
      | cons y r =>
        rw [nadj_cons] at h2 ⊢
        simp only [Bool.and_eq_true, Bool.or_eq_true, Bool.true_or, true_and] at h2 ⊢
        exact h2.2
  · have hd : z.off + z.size ≤ x.off ∨ x.off + x.size ≤ z.off := by
      rcases hM.ls.st.apart z hz x hxP with rfl | hd
      · rw [hu] at hzu; cases hzu
      · exact hd
    have k := k1.pay hM.facts hM.ls.st.apart hz hzu hi
    obtain ⟨i1, i2⟩ := hi
    rw [setT_get (by rw [z1]; exact t2) (by omega) i (by omega), k]

/-- A block behind all others, or in the last one's place. -/
theorem Rt.adds (h : Rt bs H) (hc : H.cap ≤ 16384) {A : List Bk} {p : Option Bk} {o s n : Nat} (hb : H.blks = A ++ p.toList) (hp : ∀ y, p = some y → y.used = false) (ho : o = 184 + sumB A) (hs : isSz (s : Int) = true) (hn : n + sumB p.toList = s) (hcap : bs.length + n ≤ H.cap) :
    ∃ b1, outB (bs ++ List.replicate n 0) p = some b1 ∧ setB b1 (o : Int) (s : Int) true = some (setT b1 ⟨o, s, true⟩) ∧ b1.length = bs.length + n ∧ (setT b1 ⟨o, s, true⟩).length = bs.length + n ∧
      (∀ H' : Hp, H'.blks = A ++ [⟨o, s, true⟩] → H'.lists = tkO H.lists p → H'.cap = H.cap → Rt (setT b1 ⟨o, s, true⟩) H') ∧
      ∀ z ∈ H.blks, z.used = true → ∀ i, Pay z i → (setT b1 ⟨o, s, true⟩)[i]? = bs[i]? := by
  have hM := h.md hc
  have hF := h.complete
  have hadj : nadj true H.blks = true := by rw [← noAdj_nadj]; exact h.nfree.2.1
  have ht := hM.tl
  rw [hb, tile_app, ← ho] at ht
  obtain ⟨t1, t2⟩ := ht
  have hlen : bs.length = o + sumB p.toList := tile_sum _ _ _ t2
  have ss := (isSz_iff _).1 hs
  have hA := (tile_mem _ _ _ t1).2
  have hpf : ∀ y, p = some y → y ∈ H.blks ∧ y.off = o := fun y hy => by
    rw [hy] at t2
    exact ⟨by rw [hb, hy]; simp, t2.1⟩
  have hlm : (bs ++ List.replicate n (0 : UInt8)).length = bs.length + n := by rw [List.length_append, List.length_replicate]
  have hl0 := hM.ls.len
  obtain ⟨b1, e1, L1, l1, k1, w1⟩ := (hM.ls.more n (by omega)).takeO p (fun y hy => by
    have hyP := (hpf y hy).1
    obtain ⟨c1, c2⟩ := cls_of (hM.ls.st.facts hyP).2.2.2.2.2
    exact ⟨hyP, hF _ c2 _ (mem_freeL hyP (hp y hy) c1)⟩)
  have o16 : o % 16 = 8 := by
    cases p with
    | none =>
      have e : tile 184 A o := t1
      rcases List.eq_nil_or_concat A with e1 | ⟨r, y, e1⟩
      · rw [e1] at ho
        have : o = 184 := ho
        omega
      · rw [List.concat_eq_append] at e1
        have hy := (tile_mem _ _ _ e).2 y (by rw [e1]; simp)
        rw [e1, tile_app] at e
        obtain ⟨_, q1, q2, q3⟩ := e
        have q3 : 184 + sumB r + y.size = o := q3
        have := (isSz_iff _).1 q2
        omega
    | some y =>
      have := hM.ls.st.facts (hpf y rfl).1
      have := (hpf y rfl).2
      omega
  have o184 : 184 ≤ o := by omega
  obtain ⟨y1, hy1⟩ : ∃ y1 : Bk, y1 = ⟨o, s, true⟩ := ⟨_, rfl⟩
  have o1 : y1.off = o := by rw [hy1]
  have z1 : y1.size = s := by rw [hy1]
  have u1 : y1.used = true := by rw [hy1]
  have hs1 : isSz (y1.size : Int) = true := by rw [z1]; exact hs
  have hle : y1.off + y1.size ≤ b1.length := by omega
  have s1 : setB b1 (y1.off : Int) (y1.size : Int) y1.used = some (setT b1 y1) := setB_of b1 y1 (by omega) (by omega) hle hs1
  have l2 : (setT b1 y1).length = b1.length := setT_length hs1 hle
  rw [o1, z1, u1] at s1
  rw [← hy1]
  have hdA : ∀ y ∈ A ++ [y1], y = y1 ∨ (y ∈ H.blks ∧ y ∈ A ∧ (y.off + y.size ≤ y1.off ∨ y1.off + y1.size ≤ y.off)) := fun y hy => by
    rcases List.mem_append.1 hy with hy | hy
    · exact .inr ⟨by rw [hb]; simp [hy], hy, .inl (by have := hA y hy; omega)⟩
    · exact .inl (by simpa using hy)
  have L2 : Lists (setT b1 y1) (A ++ [y1]) (tkO H.lists p) := by
    refine L1.set (by omega) (by omega) hle hs1 (fun y hy => (hdA y hy).imp id fun h => ⟨h.1, h.2.2⟩) fun c hc q hq => ?_
    rw [tkO_mem] at hq
    obtain ⟨y, hy, ey, hyu, hyc⟩ := hM.ls.mem c hc q hq.1
    have hy' := hy
    rw [hb] at hy
    rcases List.mem_append.1 hy with hy | hy
    · exact ⟨y, by simp [hy], hy', ey, .inl (by have := hA y hy; omega)⟩
    · obtain ⟨c1, _⟩ := cls_of (hM.ls.st.facts hy').2.2.2.2.2
      exact absurd ey.symm (hq.2 y (by simpa using hy) (by omega))
  refine ⟨b1, e1, s1, by omega, by omega, fun H' g1 g2 g3 => ?_, fun z hz hzu i hi => ?_⟩
  · have hi := hM.hi
    have hi2 : wordN (bs ++ List.replicate n (0 : UInt8)) 0 = wordN bs 0 := more_word _ _ _ (by omega)
    have M : Md (setT b1 y1) H' := by
      refine ⟨?_, by rw [g1, g2]; exact L2, ?_, by rw [g3]; omega⟩
      · rw [g1, tile_app, ← ho]
        exact ⟨t1, o1, hs1, by show o + y1.size = _; omega⟩
      · rw [setT_same hs1 hle _ (by omega)]
        omega
    refine M.rt (fun c hc q hq => ?_) ?_
    · rw [g1] at hq
      rw [g2, tkO_mem]
      obtain ⟨y, hy, ey, hyu, hyc⟩ := freeL_mem hq
      rcases hdA y hy with rfl | ⟨hyP, hyA, hd⟩
      · rw [u1] at hyu; cases hyu
      · have := hM.facts y hyP
        refine ⟨by rw [← ey]; exact hF c hc _ (mem_freeL hyP hyu hyc), fun z hz _ => ?_⟩
        have := (hpf z hz).2
        have := hA y hyA
        omega
    · rw [g1, noAdj_nadj, nadj_app, nadj_cons, u1]
      rw [hb, nadj_app] at hadj
      simp only [Bool.and_eq_true, Bool.or_true] at hadj ⊢
      exact ⟨hadj.1, trivial, rfl⟩
  · have hzf := hM.facts z hz
    have hzA : z ∈ A := by
      rw [hb] at hz
      rcases List.mem_append.1 hz with hz | hz
      · exact hz
      · have := hp z (by simpa using hz)
        rw [hzu] at this; cases this
    have hd := hA z hzA
    have k := k1.pay hM.facts hM.ls.st.apart hz hzu hi
    obtain ⟨i1, i2⟩ := hi
    rw [setT_get hs1 hle i (by omega), k, more_get _ _ _ (by omega)]

/-- What Find tells. -/
theorem findL_find (hg : ∀ x ∈ H.blks, getB bs (x.off : Int) = some x) (s : Nat) : ∀ L : List Nat, (∀ o ∈ L, ∃ i, atB (o : Int) H.blks = some i) → L.find? (fun o => decide ((s : Int) ≤ (szB bs o : Int))) = (findL H.blks s L).map fun i => (bkAt H.blks i).off
  | [], _ => rfl
  | o :: r, hL => by
    obtain ⟨i, hi⟩ := hL o (by simp)
    obtain ⟨h1, h2⟩ := atB_at hi
    have h2 : (bkAt H.blks i).off = o := by omega
    have hz : szB bs o = (bkAt H.blks i).size := by
      rw [← h2]
      exact szB_of (hg _ (List.mem_of_getElem? (bkAt_get h1)))
    have ih := findL_find hg s r fun q hq => hL q (by simp [hq])
    unfold findL
    rw [hi]
    dsimp only
    by_cases hle : s ≤ (bkAt H.blks i).size
    · rw [List.find?_cons_of_pos (by rw [hz]; exact decide_eq_true (by omega)), if_pos hle, Option.map_some, h2]
    · rw [List.find?_cons_of_neg (by rw [hz]; simp; omega), if_neg hle]
      exact ih
theorem Rt.findsC (h : Rt bs H) (s : Nat) : ∀ k c, c + k = 22 → findF bs (s : Int) k c = some (((H.findC s k c).map fun i => (bkAt H.blks i).off).getD 0)
  | 0, _, _ => rfl
  | k + 1, c, hc => by
    unfold findF Hp.findC
    rw [h.all_ c (by omega)]
    dsimp only
    rw [findL_find (walkB_tiles h.walk).2.2 s (H.lists c) (h.listed c (by omega))]
    cases findL H.blks s (H.lists c) with
    | none => exact h.findsC s k (c + 1) (by omega)
    | some i => rfl
theorem Rt.finds (h : Rt bs H) {s : Nat} (hs : isSz (s : Int) = true) : findB bs (s : Int) = some (((H.find s).map fun i => (bkAt H.blks i).off).getD 0) := by
  unfold findB Hp.find
  refine h.findsC s _ _ ?_
  obtain ⟨c, h1, h2⟩ := class_nat (x := ⟨0, s, false⟩) hs
  have h1 : classI (s : Int) = (c : Int) := h1
  omega
end
end Go.Proofs.YtbemaoncakcnjaaGreat
