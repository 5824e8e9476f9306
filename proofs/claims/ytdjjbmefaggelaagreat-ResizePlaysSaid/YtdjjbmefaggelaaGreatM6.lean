/- Texts of mine, joined: Hm7, Hm8, Hm9, Hm10, HpM4. -/
import Derived.Test.YtdjjbmefaggelaaGreatM5

/- The contract of the document's heap: give. -/
namespace Go.Proofs.YtdjjbmefaggelaaGreat
open Go.RowKit

theorem give_stay {H : Hp} {i : Nat} (h : nextF ((H.use i false).wipe i).blks i = false) : H.give i = ((H.use i false).wipe i).giveC i := by
  unfold Hp.give Hp.giveB
  rw [h, if_neg (by decide)]
theorem give_join {H : Hp} {i : Nat} (h : nextF ((H.use i false).wipe i).blks i = true) : H.give i = ((((H.use i false).wipe i).out (i + 1)).join i).giveC i := by
  unfold Hp.give Hp.giveB
  rw [if_pos h]
theorem giveC_stay {H : Hp} {i : Nat} (h : prevF H.blks i = false) : H.giveC i = H.in_ i := by
  unfold Hp.giveC
  rw [h, if_neg (by decide)]
theorem giveC_join {H : Hp} {i : Nat} (h : prevF H.blks i = true) : H.giveC i = ((H.out (i - 1)).join (i - 1)).in_ (i - 1) := by
  unfold Hp.giveC
  rw [if_pos h]
theorem own_thaw {w : World} {base n m size b c : Nat} {t : TypeId} {xs : List Value} (h : w.ownsRow base t size (.slice (some ⟨b, 0, none⟩) m c) n xs) (j : Nat) : w.frozen? ⟨b, j, none⟩ = false := by
  rcases h.2 with ⟨h0, _⟩ | ⟨b', c', cur, hv, _, hh, _⟩
  · cases h0
  · injection hv with e1
    injection e1 with e1
    injection e1 with e1
    subst e1
    exact frozen_of_row w b j _ _ hh
section
variable {F : Nat → Prop} {w w' : World} {p gl : Nat} {H : Hp} {Vb Vd : Value} {cs : List Value}
theorem own_cell1 {w : World} {base n b c : Nat} {t : TypeId} {xs : List Value} (h : w.ownsRow base t 1 (.slice (some ⟨b, 0, none⟩) n c) n xs) {j : Nat} (hj : j < n) : ∃ v, w.cell? ⟨b, j, none⟩ = some v ∧ xs[j]? = some v := by
  have hl := h.1
  rw [Nat.mul_one] at hl
  exact ⟨xs[j]'(by omega), by rw [h.cellAt j (by omega)]; exact List.getElem?_eq_getElem _, List.getElem?_eq_getElem _⟩
/-- The cells of a block, where the row's length is named. -/
theorem Hm.at_n {n b c : Nat} (h : Hm F w p H (.slice (some ⟨b, 0, none⟩) n c) Vd gl cs) (hn : H.blks.length = n) {i : Nat} (hi : i < n) : w.cell? ⟨b, i * 3, none⟩ = some (.int .i64 ((bkAt H.blks i).off : Int)) ∧ w.cell? ⟨b, i * 3 + 1, none⟩ = some (.int .i64 ((bkAt H.blks i).size : Int)) ∧ w.cell? ⟨b, i * 3 + 2, none⟩ = some (.bool (bkAt H.blks i).used) := by
  have e := h.ob
  rw [hn] at e
  exact (own_at e (bkAt_get (by omega))).1

set_option maxHeartbeats 2000000 in
theorem hgive_EZ (h : Hm F w p H Vb Vd gl cs) (hok : H.Ok) (N : Nat) (hf : H.Few N) (hN : N ≤ 50000) (i : Nat) (hi : i < H.blks.length) (hE : H.blks.length ≤ i + 1) (hZ : i = 0) :
    Calls Tryz.prog 61 #[.pointer (some ⟨p, 0, none⟩), .int .i64 (i : Int)] w fun e w' => e = .returned (.tuple #[]) ∧ HT F w p (H.give i) w' := by
  obtain ⟨b1, c1, rfl, hb1, hnc1, _⟩ := own_nn h.ob (by omega)
  obtain ⟨b2, c2, rfl, hb2, hnc2, _⟩ := own_nn h.od (by rw [hok.dl]; omega)
  have hn512 := hok.n
  have z1 := (Hz.start h).set (a := ⟨b1, i * 3 + 2, none⟩) (u := .bool false) (h.fb b1 rfl) (h.useM rfl hi false)
  have z2 := z1.set (a := ⟨b2, i, none⟩) (u := .slice none 0 0) (h.fd b2 rfl) (z1.hm.wipeM (i := i) rfl)
  obtain ⟨w1, hw1⟩ : ∃ w1, w.setCell ⟨b1, i * 3 + 2, none⟩ (.bool false) = w1 := ⟨_, rfl⟩
  rw [hw1] at z1 z2
  obtain ⟨w2, hw2⟩ : ∃ w2, w1.setCell ⟨b2, i, none⟩ (.slice none 0 0) = w2 := ⟨_, rfl⟩
  rw [hw2] at z2
  have ok1 : ((H.use i false).wipe i).Ok := (hok.use hi false).wipe
  have fw1 : ((H.use i false).wipe i).Few N := hf
  have bl1 : ∀ k, bkAt ((H.use i false).wipe i).blks k = if k = i then { bkAt H.blks i with used := false } else bkAt H.blks k := fun k => bkAt_set H.blks i k _ hi
  have ln1 : ((H.use i false).wipe i).blks.length = H.blks.length := List.length_set ..
  have dl1 : ((H.use i false).wipe i).ds.length = H.blks.length := ok1.dl.trans ln1
  have hnx : nextF ((H.use i false).wipe i).blks i = false := by unfold nextF; rw [ln1, decide_eq_false (by omega)]; rfl
  have hgv := give_stay hnx
  clear hnx
  obtain ⟨H1, hH1⟩ : ∃ H1, (H.use i false).wipe i = H1 := ⟨_, rfl⟩
  rw [hH1] at hgv z2 ok1 fw1 bl1 ln1 dl1
  obtain ⟨n, hn⟩ : ∃ n, H.blks.length = n := ⟨_, rfl⟩
  have hdl0 : H.ds.length = n := hok.dl.trans hn
  rw [hn] at ln1 dl1 hi hnc1 hE hn512
  have q1 := h.c1
  rw [hn] at q1
  have f1 := own_thaw h.ob (i * 3 + 2)
  have q2 : w1.cell? ⟨p, 2, none⟩ = some (.slice (some ⟨b2, 0, none⟩) n c2) := by have e := z1.hm.c2; rw [hdl0] at e; exact e
  have f2 := own_thaw z1.hm.od i
  obtain ⟨_, q1b⟩ : ∃ u, w.cell? ⟨b1, i * 3 + 2, none⟩ = some u := ⟨_, (h.at_n rfl (by omega)).2.2⟩
  obtain ⟨_, q2b, _⟩ := own_cell1 z1.hm.od (j := i) (by show i < H.ds.length; omega)
  have q3 : w2.cell? ⟨p, 1, none⟩ = some (.slice (some ⟨b1, 0, none⟩) n c1) := by have e := z2.hm.c1; rw [hn] at e; exact e
  rw [hn, hdl0] at z2
  have HW1 := Lib.hid hw1
  have HW2 := Lib.hid hw2
  have hin : (i : Int) < (n : Int) := by omega
  have hie : (n : Int) ≤ (i : Int) + 1 := by omega
  have hiz : (i : Int) ≤ 0 := by omega
  have HZ := Lib.hid hZ
  have HGV := Lib.hid hgv
  have HOK1 := Lib.hid ok1
  have HFW1 := Lib.hid fw1
  have HBL1 := Lib.hid bl1
  have HLN1 := Lib.hid ln1
  have HDL1 := Lib.hid dl1
  have HN := Lib.hid hn
  have Z2 := Lib.hid z2
  clear h hok hf hb1 hb2 hw1 hw2 hH1 hZ hgv ok1 fw1 bl1 ln1 dl1 hn z1 z2 hE hdl0
  go_enter Tryz.func61, Tryz.ntmps61
  go_wp2_with (first | (rw [HW1.out]) | (rw [HW2.out]) | fail)
  have hprev : prevF H1.blks i = false := by unfold prevF; rw [decide_eq_false (by omega)]; rfl
  refine (hin_any Z2.out.hm i (by rw [HLN1.out]; omega) (HOK1.out.sz (by rw [HLN1.out]; omega)) (fun d hd => Nat.le_trans (HFW1.out d hd) (by omega))).mono ?_
  rintro e w9 ⟨rfl, ht⟩
  have hto : HT F w p (H.give i) w9 := by
    rw [HGV.out, giveC_stay hprev]
    exact Z2.out.last ht
  have HTO := Lib.hid hto
  clear hto ht hprev q3
  go_wp2
  go_end0
  exact ⟨rfl, HTO.out⟩

set_option maxHeartbeats 2000000 in
theorem hgive_EU (h : Hm F w p H Vb Vd gl cs) (hok : H.Ok) (N : Nat) (hf : H.Few N) (hN : N ≤ 50000) (i : Nat) (hi : i < H.blks.length) (hE : H.blks.length ≤ i + 1) (j : Nat) (hZ : i = j + 1) (hP : (bkAt H.blks j).used = true) :
    Calls Tryz.prog 61 #[.pointer (some ⟨p, 0, none⟩), .int .i64 (i : Int)] w fun e w' => e = .returned (.tuple #[]) ∧ HT F w p (H.give i) w' := by
  obtain ⟨b1, c1, rfl, hb1, hnc1, _⟩ := own_nn h.ob (by omega)
  obtain ⟨b2, c2, rfl, hb2, hnc2, _⟩ := own_nn h.od (by rw [hok.dl]; omega)
  have hn512 := hok.n
  have z1 := (Hz.start h).set (a := ⟨b1, i * 3 + 2, none⟩) (u := .bool false) (h.fb b1 rfl) (h.useM rfl hi false)
  have z2 := z1.set (a := ⟨b2, i, none⟩) (u := .slice none 0 0) (h.fd b2 rfl) (z1.hm.wipeM (i := i) rfl)
  obtain ⟨w1, hw1⟩ : ∃ w1, w.setCell ⟨b1, i * 3 + 2, none⟩ (.bool false) = w1 := ⟨_, rfl⟩
  rw [hw1] at z1 z2
  obtain ⟨w2, hw2⟩ : ∃ w2, w1.setCell ⟨b2, i, none⟩ (.slice none 0 0) = w2 := ⟨_, rfl⟩
  rw [hw2] at z2
  have ok1 : ((H.use i false).wipe i).Ok := (hok.use hi false).wipe
  have fw1 : ((H.use i false).wipe i).Few N := hf
  have bl1 : ∀ k, bkAt ((H.use i false).wipe i).blks k = if k = i then { bkAt H.blks i with used := false } else bkAt H.blks k := fun k => bkAt_set H.blks i k _ hi
  have ln1 : ((H.use i false).wipe i).blks.length = H.blks.length := List.length_set ..
  have dl1 : ((H.use i false).wipe i).ds.length = H.blks.length := ok1.dl.trans ln1
  have hnx : nextF ((H.use i false).wipe i).blks i = false := by unfold nextF; rw [ln1, decide_eq_false (by omega)]; rfl
  have hgv := give_stay hnx
  clear hnx
  obtain ⟨H1, hH1⟩ : ∃ H1, (H.use i false).wipe i = H1 := ⟨_, rfl⟩
  rw [hH1] at hgv z2 ok1 fw1 bl1 ln1 dl1
  obtain ⟨n, hn⟩ : ∃ n, H.blks.length = n := ⟨_, rfl⟩
  have hdl0 : H.ds.length = n := hok.dl.trans hn
  rw [hn] at ln1 dl1 hi hnc1 hE hn512
  have q1 := h.c1
  rw [hn] at q1
  have f1 := own_thaw h.ob (i * 3 + 2)
  have q2 : w1.cell? ⟨p, 2, none⟩ = some (.slice (some ⟨b2, 0, none⟩) n c2) := by have e := z1.hm.c2; rw [hdl0] at e; exact e
  have f2 := own_thaw z1.hm.od i
  obtain ⟨_, q1b⟩ : ∃ u, w.cell? ⟨b1, i * 3 + 2, none⟩ = some u := ⟨_, (h.at_n rfl (by omega)).2.2⟩
  obtain ⟨_, q2b, _⟩ := own_cell1 z1.hm.od (j := i) (by show i < H.ds.length; omega)
  have q3 : w2.cell? ⟨p, 1, none⟩ = some (.slice (some ⟨b1, 0, none⟩) n c1) := by have e := z2.hm.c1; rw [hn] at e; exact e
  rw [hn, hdl0] at z2
  have HW1 := Lib.hid hw1
  have HW2 := Lib.hid hw2
  have hin : (i : Int) < (n : Int) := by omega
  have hie : (n : Int) ≤ (i : Int) + 1 := by omega
  have hiz : 0 < (i : Int) := by omega
  have hji : j < i := by omega
  have hjz : (i : Int) - 1 = (j : Int) := by omega
  have bj := bl1 j
  rw [if_neg (by omega)] at bj
  have HZ := Lib.hid hZ
  have HGV := Lib.hid hgv
  have HOK1 := Lib.hid ok1
  have HFW1 := Lib.hid fw1
  have HBL1 := Lib.hid bl1
  have HLN1 := Lib.hid ln1
  have HDL1 := Lib.hid dl1
  have HN := Lib.hid hn
  have Z2 := Lib.hid z2
  have HBJ := Lib.hid bj
  have HP := Lib.hid hP
  clear bj hP
  clear h hok hf hb1 hb2 hw1 hw2 hH1 hZ hgv ok1 fw1 bl1 ln1 dl1 hn z1 z2 hE hdl0
  have q5 := (Z2.out.hm.at_n HLN1.out (i := j) (by omega)).2.2
  rw [HBJ.out, HP.out] at q5
  go_enter Tryz.func61, Tryz.ntmps61
  go_wp2_with (first | (rw [HW1.out]) | (rw [HW2.out]) | fail)
  have hprev : prevF H1.blks i = false := by unfold prevF; rw [show i - 1 = j by omega, HBJ.out, HP.out, Bool.not_true, Bool.and_false]
  refine (hin_any Z2.out.hm i (by rw [HLN1.out]; omega) (HOK1.out.sz (by rw [HLN1.out]; omega)) (fun d hd => Nat.le_trans (HFW1.out d hd) (by omega))).mono ?_
  rintro e w9 ⟨rfl, ht⟩
  have hto : HT F w p (H.give i) w9 := by
    rw [HGV.out, giveC_stay hprev]
    exact Z2.out.last ht
  have HTO := Lib.hid hto
  clear hto ht hprev q3
  go_wp2
  go_end0
  exact ⟨rfl, HTO.out⟩

set_option maxHeartbeats 2000000 in
theorem hgive_EY (h : Hm F w p H Vb Vd gl cs) (hok : H.Ok) (N : Nat) (hf : H.Few N) (hN : N ≤ 50000) (i : Nat) (hi : i < H.blks.length) (hE : H.blks.length ≤ i + 1) (j : Nat) (hZ : i = j + 1) (hP : (bkAt H.blks j).used = false) :
    Calls Tryz.prog 61 #[.pointer (some ⟨p, 0, none⟩), .int .i64 (i : Int)] w fun e w' => e = .returned (.tuple #[]) ∧ HT F w p (H.give i) w' := by
  obtain ⟨b1, c1, rfl, hb1, hnc1, _⟩ := own_nn h.ob (by omega)
  obtain ⟨b2, c2, rfl, hb2, hnc2, _⟩ := own_nn h.od (by rw [hok.dl]; omega)
  have hn512 := hok.n
  have z1 := (Hz.start h).set (a := ⟨b1, i * 3 + 2, none⟩) (u := .bool false) (h.fb b1 rfl) (h.useM rfl hi false)
  have z2 := z1.set (a := ⟨b2, i, none⟩) (u := .slice none 0 0) (h.fd b2 rfl) (z1.hm.wipeM (i := i) rfl)
  obtain ⟨w1, hw1⟩ : ∃ w1, w.setCell ⟨b1, i * 3 + 2, none⟩ (.bool false) = w1 := ⟨_, rfl⟩
  rw [hw1] at z1 z2
  obtain ⟨w2, hw2⟩ : ∃ w2, w1.setCell ⟨b2, i, none⟩ (.slice none 0 0) = w2 := ⟨_, rfl⟩
  rw [hw2] at z2
  have ok1 : ((H.use i false).wipe i).Ok := (hok.use hi false).wipe
  have fw1 : ((H.use i false).wipe i).Few N := hf
  have bl1 : ∀ k, bkAt ((H.use i false).wipe i).blks k = if k = i then { bkAt H.blks i with used := false } else bkAt H.blks k := fun k => bkAt_set H.blks i k _ hi
  have ln1 : ((H.use i false).wipe i).blks.length = H.blks.length := List.length_set ..
  have dl1 : ((H.use i false).wipe i).ds.length = H.blks.length := ok1.dl.trans ln1
  have hnx : nextF ((H.use i false).wipe i).blks i = false := by unfold nextF; rw [ln1, decide_eq_false (by omega)]; rfl
  have hgv := give_stay hnx
  clear hnx
  obtain ⟨H1, hH1⟩ : ∃ H1, (H.use i false).wipe i = H1 := ⟨_, rfl⟩
  rw [hH1] at hgv z2 ok1 fw1 bl1 ln1 dl1
  obtain ⟨n, hn⟩ : ∃ n, H.blks.length = n := ⟨_, rfl⟩
  have hdl0 : H.ds.length = n := hok.dl.trans hn
  rw [hn] at ln1 dl1 hi hnc1 hE hn512
  have q1 := h.c1
  rw [hn] at q1
  have f1 := own_thaw h.ob (i * 3 + 2)
  have q2 : w1.cell? ⟨p, 2, none⟩ = some (.slice (some ⟨b2, 0, none⟩) n c2) := by have e := z1.hm.c2; rw [hdl0] at e; exact e
  have f2 := own_thaw z1.hm.od i
  obtain ⟨_, q1b⟩ : ∃ u, w.cell? ⟨b1, i * 3 + 2, none⟩ = some u := ⟨_, (h.at_n rfl (by omega)).2.2⟩
  obtain ⟨_, q2b, _⟩ := own_cell1 z1.hm.od (j := i) (by show i < H.ds.length; omega)
  have q3 : w2.cell? ⟨p, 1, none⟩ = some (.slice (some ⟨b1, 0, none⟩) n c1) := by have e := z2.hm.c1; rw [hn] at e; exact e
  rw [hn, hdl0] at z2
  have HW1 := Lib.hid hw1
  have HW2 := Lib.hid hw2
  have hin : (i : Int) < (n : Int) := by omega
  have hie : (n : Int) ≤ (i : Int) + 1 := by omega
  have hiz : 0 < (i : Int) := by omega
  have hji : j < i := by omega
  have hjz : (i : Int) - 1 = (j : Int) := by omega
  have bj := bl1 j
  rw [if_neg (by omega)] at bj
  have HZ := Lib.hid hZ
  have HGV := Lib.hid hgv
  have HOK1 := Lib.hid ok1
  have HFW1 := Lib.hid fw1
  have HBL1 := Lib.hid bl1
  have HLN1 := Lib.hid ln1
  have HDL1 := Lib.hid dl1
  have HN := Lib.hid hn
  have Z2 := Lib.hid z2
  have HBJ := Lib.hid bj
  have HP := Lib.hid hP
  clear bj hP
  clear h hok hf hb1 hb2 hw1 hw2 hH1 hZ hgv ok1 fw1 bl1 ln1 dl1 hn z1 z2 hE hdl0
  have q5 := (Z2.out.hm.at_n HLN1.out (i := j) (by omega)).2.2
  rw [HBJ.out, HP.out] at q5
  go_enter Tryz.func61, Tryz.ntmps61
  go_wp2_with (first | (rw [HW1.out]) | (rw [HW2.out]) | fail)
  have hprev : prevF H1.blks i = true := by unfold prevF; rw [show i - 1 = j by omega, HBJ.out, HP.out, decide_eq_true (by omega)]; rfl
  clear q5
  refine (hout_any Z2.out.hm j (by rw [HLN1.out]; omega) (HOK1.out.sz (by rw [HLN1.out]; omega)) (fun d hd => Nat.le_trans (HFW1.out d hd) (by omega))).mono ?_
  rintro e w6 ⟨rfl, ht⟩
  obtain ⟨F6, Vb6, Vd6, gl6, cs6, z6⟩ := Z2.out.step ht
  obtain ⟨b6, c6, rfl, hb6, hnc6, _⟩ := own_nn z6.hm.ob (by show 0 < H1.blks.length; rw [HLN1.out]; omega)
  have e6 : (H1.out j).blks.length = n := HLN1.out
  rw [e6] at z6 hnc6
  obtain ⟨wx, hwx⟩ : ∃ wx, w6.drew = wx := ⟨_, rfl⟩
  have hbx : Below w6.heap.size w6 wx := by rw [← hwx]; exact (Below.refl _ _).drew
  have zx := z6.below hbx
  have r1 := zx.hm.c1
  have r2 := (zx.hm.at_n e6 (i := j) (by omega)).2.1
  have r3 := (zx.hm.at_n e6 (i := i) (by omega)).2.1
  have rf := own_thaw zx.hm.ob (j * 3 + 1)
  have hpx := zx.hm.lt
  have hbx6 : b6 < wx.heap.size := own_lt zx.hm.ob rfl
  obtain ⟨s5, hs5⟩ : ∃ s5, (bkAt (H1.out j).blks j).size = s5 := ⟨_, rfl⟩
  obtain ⟨s6, hs6⟩ : ∃ s6, (bkAt (H1.out j).blks i).size = s6 := ⟨_, rfl⟩
  rw [hs5] at r2
  rw [hs6] at r3
  have z7 := zx.set (a := ⟨b6, j * 3 + 1, none⟩) (u := .int .i64 ((s5 + s6 : Nat) : Int)) (zx.hm.fb b6 rfl) (zx.hm.sizeM (by rw [e6]) (by rw [e6]; omega) (s5 + s6))
  rw [Int.natCast_add] at z7
  have hs56 : s5 + s6 ≤ 16384 := by
    have e := (HOK1.out.two (i := j) (by rw [HLN1.out]; omega)).2
    rw [← HZ.out] at e
    rw [← hs5, ← hs6]; exact e
  obtain ⟨w7, hw7⟩ : ∃ w7, wx.setCell ⟨b6, j * 3 + 1, none⟩ (.int .i64 ((s5 : Int) + (s6 : Int))) = w7 := ⟨_, rfl⟩
  rw [hw7] at z7
  have HW7 := Lib.hid hw7
  have HWX := Lib.hid hwx
  have Z7 := Lib.hid z7
  have HS5 := Lib.hid hs5
  have HS6 := Lib.hid hs6
  have HRX := Lib.hid rf
  have HPV := Lib.hid hprev
  clear z6 zx z7 hw7 hwx hs5 hs6 ht hb6 rf hprev q3
  go_wp2_with fail
  refine wp_region_plan wx.heap.size (.fin [0, 1, 2, 3, 4, 5, 6, 7, 8, 9, 10, 11, 12, 13, 14, 15, 16, 17, 18, 19, 20, 21, 22, 23, 24, 25]) [26] (by kernel_rfl) (by kernel_rfl) (by kernel_rfl) (fun _ _ _ _ _ h => h) ?_
  rw [HWX.out]
  have t1 : ∀ z : LaterB wx.heap.size wx, z.val.cell? ⟨p, 1, none⟩ = some (.slice (some ⟨b6, 0, none⟩) n c6) := fun z => (z.ext.cell (p := ⟨p, 1, none⟩) hpx).trans r1
  have t2 : ∀ z : LaterB wx.heap.size wx, z.val.cell? ⟨b6, j * 3 + 1, none⟩ = some (.int .i64 (s5 : Int)) := fun z => (z.ext.cell (p := ⟨b6, j * 3 + 1, none⟩) hbx6).trans r2
  have t3 : ∀ z : LaterB wx.heap.size wx, z.val.cell? ⟨b6, i * 3 + 1, none⟩ = some (.int .i64 (s6 : Int)) := fun z => (z.ext.cell (p := ⟨b6, i * 3 + 1, none⟩) hbx6).trans r3
  refine plan_fin (l := ?laBEY) (t := ?tlBEY) ?hlaBEY ?htlBEY ?_
  case hlaBEY => simp only [pick, List.getElem?_toArray, List.getElem?_cons_succ, List.getElem?_cons_zero]; rfl
  case htlBEY => simp only [pick, List.getElem?_toArray, List.getElem?_cons_succ, List.getElem?_cons_zero]; rfl
  repeat (go_big_quiet_step (fail))
  refine wpQuiet_nil ?_
  clear t1 t2 t3 r1 r3
  have rf := HRX.out
  go_wp2_with (first | (rw [HW7.out]) | fail)
  clear rf r2
  have lnT : (((H1.out j).size j (s5 + s6))).blks.length = n := (List.length_set ..).trans HLN1.out
  refine (hdrop_any Z7.out.hm i (by rw [lnT]; omega) (by rw [lnT]; omega) (HDL1.out.trans lnT.symm)).mono ?_
  rintro e w8 ⟨rfl, ht⟩
  obtain ⟨F8, Vb8, Vd8, gl8, cs8, z8⟩ := Z7.out.step ht
  have eK : (((H1.out j).size j (s5 + s6))).drop i = (H1.out j).join j := by
    show _ = ((H1.out j).size j _).drop (j + 1)
    rw [← HZ.out, HS5.out, HS6.out]
  rw [eK] at z8
  have ok3 : ((H1.out j).join j).Ok := (Hp.Ok.out (i := j) HOK1.out).join (by rw [e6]; omega)
  have fw3 : ((H1.out j).join j).Few N := Hp.Few.out (i := j) HFW1.out
  have jb := (join_at (H1.out j) (i := j) (by rw [e6]; omega)).1
  have hg3 := giveC_join HPV.out
  rw [show i - 1 = j by omega] at hg3
  obtain ⟨H3, hH3⟩ : ∃ H3, (H1.out j).join j = H3 := ⟨_, rfl⟩
  rw [hH3] at z8 ok3 fw3 jb hg3
  have hgf := HGV.out
  rw [hg3] at hgf
  have HGF := Lib.hid hgf
  have HOK3 := Lib.hid ok3
  have HFW3 := Lib.hid fw3
  have HJB := Lib.hid jb
  have Z8 := Lib.hid z8
  clear hgf hg3 ok3 fw3 jb z8 hH3 ht eK lnT e6 Z7 HW7 HWX HRX
  go_wp2_with fail
  refine (hin_any Z8.out.hm j HJB.out (HOK3.out.sz HJB.out) (fun d hd => Nat.le_trans (HFW3.out d hd) (by omega))).mono ?_
  rintro e w9 ⟨rfl, ht⟩
  have hto : HT F w p (H.give i) w9 := by
    rw [HGF.out]
    exact Z8.out.last ht
  have HTO := Lib.hid hto
  clear hto ht
  go_wp2
  go_end0
  exact ⟨rfl, HTO.out⟩

set_option maxHeartbeats 2000000 in
theorem hgive_UZ (h : Hm F w p H Vb Vd gl cs) (hok : H.Ok) (N : Nat) (hf : H.Few N) (hN : N ≤ 50000) (i : Nat) (hi : i < H.blks.length) (hE : i + 1 < H.blks.length) (hU : (bkAt H.blks (i + 1)).used = true) (hZ : i = 0) :
    Calls Tryz.prog 61 #[.pointer (some ⟨p, 0, none⟩), .int .i64 (i : Int)] w fun e w' => e = .returned (.tuple #[]) ∧ HT F w p (H.give i) w' := by
  obtain ⟨b1, c1, rfl, hb1, hnc1, _⟩ := own_nn h.ob (by omega)
  obtain ⟨b2, c2, rfl, hb2, hnc2, _⟩ := own_nn h.od (by rw [hok.dl]; omega)
  have hn512 := hok.n
  have z1 := (Hz.start h).set (a := ⟨b1, i * 3 + 2, none⟩) (u := .bool false) (h.fb b1 rfl) (h.useM rfl hi false)
  have z2 := z1.set (a := ⟨b2, i, none⟩) (u := .slice none 0 0) (h.fd b2 rfl) (z1.hm.wipeM (i := i) rfl)
  obtain ⟨w1, hw1⟩ : ∃ w1, w.setCell ⟨b1, i * 3 + 2, none⟩ (.bool false) = w1 := ⟨_, rfl⟩
  rw [hw1] at z1 z2
  obtain ⟨w2, hw2⟩ : ∃ w2, w1.setCell ⟨b2, i, none⟩ (.slice none 0 0) = w2 := ⟨_, rfl⟩
  rw [hw2] at z2
  have ok1 : ((H.use i false).wipe i).Ok := (hok.use hi false).wipe
  have fw1 : ((H.use i false).wipe i).Few N := hf
  have bl1 : ∀ k, bkAt ((H.use i false).wipe i).blks k = if k = i then { bkAt H.blks i with used := false } else bkAt H.blks k := fun k => bkAt_set H.blks i k _ hi
  have ln1 : ((H.use i false).wipe i).blks.length = H.blks.length := List.length_set ..
  have dl1 : ((H.use i false).wipe i).ds.length = H.blks.length := ok1.dl.trans ln1
  have hnx : nextF ((H.use i false).wipe i).blks i = false := by unfold nextF; rw [bl1, if_neg (by omega), hU, Bool.not_true, Bool.and_false]
  have hgv := give_stay hnx
  clear hnx
  obtain ⟨H1, hH1⟩ : ∃ H1, (H.use i false).wipe i = H1 := ⟨_, rfl⟩
  rw [hH1] at hgv z2 ok1 fw1 bl1 ln1 dl1
  obtain ⟨n, hn⟩ : ∃ n, H.blks.length = n := ⟨_, rfl⟩
  have u2 := bl1 (i + 1)
  rw [if_neg (by omega)] at u2
  have hdl0 : H.ds.length = n := hok.dl.trans hn
  rw [hn] at ln1 dl1 hi hnc1 hE hn512
  have q1 := h.c1
  rw [hn] at q1
  have f1 := own_thaw h.ob (i * 3 + 2)
  have q2 : w1.cell? ⟨p, 2, none⟩ = some (.slice (some ⟨b2, 0, none⟩) n c2) := by have e := z1.hm.c2; rw [hdl0] at e; exact e
  have f2 := own_thaw z1.hm.od i
  obtain ⟨_, q1b⟩ : ∃ u, w.cell? ⟨b1, i * 3 + 2, none⟩ = some u := ⟨_, (h.at_n rfl (by omega)).2.2⟩
  obtain ⟨_, q2b, _⟩ := own_cell1 z1.hm.od (j := i) (by show i < H.ds.length; omega)
  have q3 : w2.cell? ⟨p, 1, none⟩ = some (.slice (some ⟨b1, 0, none⟩) n c1) := by have e := z2.hm.c1; rw [hn] at e; exact e
  rw [hn, hdl0] at z2
  obtain ⟨k, hk⟩ : ∃ k : Nat, (i : Int) + 1 = (k : Int) := ⟨i + 1, by omega⟩
  have HK : Hid (k = i + 1) := (show _ = _ by omega)
  have q4 := (z2.hm.at_n ln1 (i := i + 1) (by omega)).2.2
  rw [u2, hU, ← HK.out] at q4
  have HW1 := Lib.hid hw1
  have HW2 := Lib.hid hw2
  have hin : (i : Int) < (n : Int) := by omega
  have hie : (i : Int) + 1 < (n : Int) := by omega
  have hiz : (i : Int) ≤ 0 := by omega
  have HZ := Lib.hid hZ
  have HGV := Lib.hid hgv
  have HOK1 := Lib.hid ok1
  have HFW1 := Lib.hid fw1
  have HBL1 := Lib.hid bl1
  have HLN1 := Lib.hid ln1
  have HDL1 := Lib.hid dl1
  have HN := Lib.hid hn
  have Z2 := Lib.hid z2
  have HU2 := Lib.hid u2
  have HU := Lib.hid hU
  clear u2 hU
  clear h hok hf hb1 hb2 hw1 hw2 hH1 hZ hgv ok1 fw1 bl1 ln1 dl1 hn z1 z2 hE hdl0
  go_enter Tryz.func61, Tryz.ntmps61
  go_wp2_with (first | (rw [HW1.out]) | (rw [HW2.out]) | fail)
  have hprev : prevF H1.blks i = false := by unfold prevF; rw [decide_eq_false (by omega)]; rfl
  refine (hin_any Z2.out.hm i (by rw [HLN1.out]; omega) (HOK1.out.sz (by rw [HLN1.out]; omega)) (fun d hd => Nat.le_trans (HFW1.out d hd) (by omega))).mono ?_
  rintro e w9 ⟨rfl, ht⟩
  have hto : HT F w p (H.give i) w9 := by
    rw [HGV.out, giveC_stay hprev]
    exact Z2.out.last ht
  have HTO := Lib.hid hto
  clear hto ht hprev q3
  go_wp2
  go_end0
  exact ⟨rfl, HTO.out⟩

set_option maxHeartbeats 2000000 in
theorem hgive_UU (h : Hm F w p H Vb Vd gl cs) (hok : H.Ok) (N : Nat) (hf : H.Few N) (hN : N ≤ 50000) (i : Nat) (hi : i < H.blks.length) (hE : i + 1 < H.blks.length) (hU : (bkAt H.blks (i + 1)).used = true) (j : Nat) (hZ : i = j + 1) (hP : (bkAt H.blks j).used = true) :
    Calls Tryz.prog 61 #[.pointer (some ⟨p, 0, none⟩), .int .i64 (i : Int)] w fun e w' => e = .returned (.tuple #[]) ∧ HT F w p (H.give i) w' := by
  obtain ⟨b1, c1, rfl, hb1, hnc1, _⟩ := own_nn h.ob (by omega)
  obtain ⟨b2, c2, rfl, hb2, hnc2, _⟩ := own_nn h.od (by rw [hok.dl]; omega)
  have hn512 := hok.n
  have z1 := (Hz.start h).set (a := ⟨b1, i * 3 + 2, none⟩) (u := .bool false) (h.fb b1 rfl) (h.useM rfl hi false)
  have z2 := z1.set (a := ⟨b2, i, none⟩) (u := .slice none 0 0) (h.fd b2 rfl) (z1.hm.wipeM (i := i) rfl)
  obtain ⟨w1, hw1⟩ : ∃ w1, w.setCell ⟨b1, i * 3 + 2, none⟩ (.bool false) = w1 := ⟨_, rfl⟩
  rw [hw1] at z1 z2
  obtain ⟨w2, hw2⟩ : ∃ w2, w1.setCell ⟨b2, i, none⟩ (.slice none 0 0) = w2 := ⟨_, rfl⟩
  rw [hw2] at z2
  have ok1 : ((H.use i false).wipe i).Ok := (hok.use hi false).wipe
  have fw1 : ((H.use i false).wipe i).Few N := hf
  have bl1 : ∀ k, bkAt ((H.use i false).wipe i).blks k = if k = i then { bkAt H.blks i with used := false } else bkAt H.blks k := fun k => bkAt_set H.blks i k _ hi
  have ln1 : ((H.use i false).wipe i).blks.length = H.blks.length := List.length_set ..
  have dl1 : ((H.use i false).wipe i).ds.length = H.blks.length := ok1.dl.trans ln1
  have hnx : nextF ((H.use i false).wipe i).blks i = false := by unfold nextF; rw [bl1, if_neg (by omega), hU, Bool.not_true, Bool.and_false]
  have hgv := give_stay hnx
  clear hnx
  obtain ⟨H1, hH1⟩ : ∃ H1, (H.use i false).wipe i = H1 := ⟨_, rfl⟩
  rw [hH1] at hgv z2 ok1 fw1 bl1 ln1 dl1
  obtain ⟨n, hn⟩ : ∃ n, H.blks.length = n := ⟨_, rfl⟩
  have u2 := bl1 (i + 1)
  rw [if_neg (by omega)] at u2
  have hdl0 : H.ds.length = n := hok.dl.trans hn
  rw [hn] at ln1 dl1 hi hnc1 hE hn512
  have q1 := h.c1
  rw [hn] at q1
  have f1 := own_thaw h.ob (i * 3 + 2)
  have q2 : w1.cell? ⟨p, 2, none⟩ = some (.slice (some ⟨b2, 0, none⟩) n c2) := by have e := z1.hm.c2; rw [hdl0] at e; exact e
  have f2 := own_thaw z1.hm.od i
  obtain ⟨_, q1b⟩ : ∃ u, w.cell? ⟨b1, i * 3 + 2, none⟩ = some u := ⟨_, (h.at_n rfl (by omega)).2.2⟩
  obtain ⟨_, q2b, _⟩ := own_cell1 z1.hm.od (j := i) (by show i < H.ds.length; omega)
  have q3 : w2.cell? ⟨p, 1, none⟩ = some (.slice (some ⟨b1, 0, none⟩) n c1) := by have e := z2.hm.c1; rw [hn] at e; exact e
  rw [hn, hdl0] at z2
  obtain ⟨k, hk⟩ : ∃ k : Nat, (i : Int) + 1 = (k : Int) := ⟨i + 1, by omega⟩
  have HK : Hid (k = i + 1) := (show _ = _ by omega)
  have q4 := (z2.hm.at_n ln1 (i := i + 1) (by omega)).2.2
  rw [u2, hU, ← HK.out] at q4
  have HW1 := Lib.hid hw1
  have HW2 := Lib.hid hw2
  have hin : (i : Int) < (n : Int) := by omega
  have hie : (i : Int) + 1 < (n : Int) := by omega
  have hiz : 0 < (i : Int) := by omega
  have hji : j < i := by omega
  have hjz : (i : Int) - 1 = (j : Int) := by omega
  have bj := bl1 j
  rw [if_neg (by omega)] at bj
  have HZ := Lib.hid hZ
  have HGV := Lib.hid hgv
  have HOK1 := Lib.hid ok1
  have HFW1 := Lib.hid fw1
  have HBL1 := Lib.hid bl1
  have HLN1 := Lib.hid ln1
  have HDL1 := Lib.hid dl1
  have HN := Lib.hid hn
  have Z2 := Lib.hid z2
  have HBJ := Lib.hid bj
  have HP := Lib.hid hP
  clear bj hP
  have HU2 := Lib.hid u2
  have HU := Lib.hid hU
  clear u2 hU
  clear h hok hf hb1 hb2 hw1 hw2 hH1 hZ hgv ok1 fw1 bl1 ln1 dl1 hn z1 z2 hE hdl0
  have q5 := (Z2.out.hm.at_n HLN1.out (i := j) (by omega)).2.2
  rw [HBJ.out, HP.out] at q5
  go_enter Tryz.func61, Tryz.ntmps61
  go_wp2_with (first | (rw [HW1.out]) | (rw [HW2.out]) | fail)
  have hprev : prevF H1.blks i = false := by unfold prevF; rw [show i - 1 = j by omega, HBJ.out, HP.out, Bool.not_true, Bool.and_false]
  refine (hin_any Z2.out.hm i (by rw [HLN1.out]; omega) (HOK1.out.sz (by rw [HLN1.out]; omega)) (fun d hd => Nat.le_trans (HFW1.out d hd) (by omega))).mono ?_
  rintro e w9 ⟨rfl, ht⟩
  have hto : HT F w p (H.give i) w9 := by
    rw [HGV.out, giveC_stay hprev]
    exact Z2.out.last ht
  have HTO := Lib.hid hto
  clear hto ht hprev q3
  go_wp2
  go_end0
  exact ⟨rfl, HTO.out⟩

set_option maxHeartbeats 2000000 in
theorem hgive_UY (h : Hm F w p H Vb Vd gl cs) (hok : H.Ok) (N : Nat) (hf : H.Few N) (hN : N ≤ 50000) (i : Nat) (hi : i < H.blks.length) (hE : i + 1 < H.blks.length) (hU : (bkAt H.blks (i + 1)).used = true) (j : Nat) (hZ : i = j + 1) (hP : (bkAt H.blks j).used = false) :
    Calls Tryz.prog 61 #[.pointer (some ⟨p, 0, none⟩), .int .i64 (i : Int)] w fun e w' => e = .returned (.tuple #[]) ∧ HT F w p (H.give i) w' := by
  obtain ⟨b1, c1, rfl, hb1, hnc1, _⟩ := own_nn h.ob (by omega)
  obtain ⟨b2, c2, rfl, hb2, hnc2, _⟩ := own_nn h.od (by rw [hok.dl]; omega)
  have hn512 := hok.n
  have z1 := (Hz.start h).set (a := ⟨b1, i * 3 + 2, none⟩) (u := .bool false) (h.fb b1 rfl) (h.useM rfl hi false)
  have z2 := z1.set (a := ⟨b2, i, none⟩) (u := .slice none 0 0) (h.fd b2 rfl) (z1.hm.wipeM (i := i) rfl)
  obtain ⟨w1, hw1⟩ : ∃ w1, w.setCell ⟨b1, i * 3 + 2, none⟩ (.bool false) = w1 := ⟨_, rfl⟩
  rw [hw1] at z1 z2
  obtain ⟨w2, hw2⟩ : ∃ w2, w1.setCell ⟨b2, i, none⟩ (.slice none 0 0) = w2 := ⟨_, rfl⟩
  rw [hw2] at z2
  have ok1 : ((H.use i false).wipe i).Ok := (hok.use hi false).wipe
  have fw1 : ((H.use i false).wipe i).Few N := hf
  have bl1 : ∀ k, bkAt ((H.use i false).wipe i).blks k = if k = i then { bkAt H.blks i with used := false } else bkAt H.blks k := fun k => bkAt_set H.blks i k _ hi
  have ln1 : ((H.use i false).wipe i).blks.length = H.blks.length := List.length_set ..
  have dl1 : ((H.use i false).wipe i).ds.length = H.blks.length := ok1.dl.trans ln1
  have hnx : nextF ((H.use i false).wipe i).blks i = false := by unfold nextF; rw [bl1, if_neg (by omega), hU, Bool.not_true, Bool.and_false]
  have hgv := give_stay hnx
  clear hnx
  obtain ⟨H1, hH1⟩ : ∃ H1, (H.use i false).wipe i = H1 := ⟨_, rfl⟩
  rw [hH1] at hgv z2 ok1 fw1 bl1 ln1 dl1
  obtain ⟨n, hn⟩ : ∃ n, H.blks.length = n := ⟨_, rfl⟩
  have u2 := bl1 (i + 1)
  rw [if_neg (by omega)] at u2
  have hdl0 : H.ds.length = n := hok.dl.trans hn
  rw [hn] at ln1 dl1 hi hnc1 hE hn512
  have q1 := h.c1
  rw [hn] at q1
  have f1 := own_thaw h.ob (i * 3 + 2)
  have q2 : w1.cell? ⟨p, 2, none⟩ = some (.slice (some ⟨b2, 0, none⟩) n c2) := by have e := z1.hm.c2; rw [hdl0] at e; exact e
  have f2 := own_thaw z1.hm.od i
  obtain ⟨_, q1b⟩ : ∃ u, w.cell? ⟨b1, i * 3 + 2, none⟩ = some u := ⟨_, (h.at_n rfl (by omega)).2.2⟩
  obtain ⟨_, q2b, _⟩ := own_cell1 z1.hm.od (j := i) (by show i < H.ds.length; omega)
  have q3 : w2.cell? ⟨p, 1, none⟩ = some (.slice (some ⟨b1, 0, none⟩) n c1) := by have e := z2.hm.c1; rw [hn] at e; exact e
  rw [hn, hdl0] at z2
  obtain ⟨k, hk⟩ : ∃ k : Nat, (i : Int) + 1 = (k : Int) := ⟨i + 1, by omega⟩
  have HK : Hid (k = i + 1) := (show _ = _ by omega)
  have q4 := (z2.hm.at_n ln1 (i := i + 1) (by omega)).2.2
  rw [u2, hU, ← HK.out] at q4
  have HW1 := Lib.hid hw1
  have HW2 := Lib.hid hw2
  have hin : (i : Int) < (n : Int) := by omega
  have hie : (i : Int) + 1 < (n : Int) := by omega
  have hiz : 0 < (i : Int) := by omega
  have hji : j < i := by omega
  have hjz : (i : Int) - 1 = (j : Int) := by omega
  have bj := bl1 j
  rw [if_neg (by omega)] at bj
  have HZ := Lib.hid hZ
  have HGV := Lib.hid hgv
  have HOK1 := Lib.hid ok1
  have HFW1 := Lib.hid fw1
  have HBL1 := Lib.hid bl1
  have HLN1 := Lib.hid ln1
  have HDL1 := Lib.hid dl1
  have HN := Lib.hid hn
  have Z2 := Lib.hid z2
  have HBJ := Lib.hid bj
  have HP := Lib.hid hP
  clear bj hP
  have HU2 := Lib.hid u2
  have HU := Lib.hid hU
  clear u2 hU
  clear h hok hf hb1 hb2 hw1 hw2 hH1 hZ hgv ok1 fw1 bl1 ln1 dl1 hn z1 z2 hE hdl0
  have q5 := (Z2.out.hm.at_n HLN1.out (i := j) (by omega)).2.2
  rw [HBJ.out, HP.out] at q5
  go_enter Tryz.func61, Tryz.ntmps61
  go_wp2_with (first | (rw [HW1.out]) | (rw [HW2.out]) | fail)
  have hprev : prevF H1.blks i = true := by unfold prevF; rw [show i - 1 = j by omega, HBJ.out, HP.out, decide_eq_true (by omega)]; rfl
  clear q5
  refine (hout_any Z2.out.hm j (by rw [HLN1.out]; omega) (HOK1.out.sz (by rw [HLN1.out]; omega)) (fun d hd => Nat.le_trans (HFW1.out d hd) (by omega))).mono ?_
  rintro e w6 ⟨rfl, ht⟩
  obtain ⟨F6, Vb6, Vd6, gl6, cs6, z6⟩ := Z2.out.step ht
  obtain ⟨b6, c6, rfl, hb6, hnc6, _⟩ := own_nn z6.hm.ob (by show 0 < H1.blks.length; rw [HLN1.out]; omega)
  have e6 : (H1.out j).blks.length = n := HLN1.out
  rw [e6] at z6 hnc6
  obtain ⟨wx, hwx⟩ : ∃ wx, w6.drew = wx := ⟨_, rfl⟩
  have hbx : Below w6.heap.size w6 wx := by rw [← hwx]; exact (Below.refl _ _).drew
  have zx := z6.below hbx
  have r1 := zx.hm.c1
  have r2 := (zx.hm.at_n e6 (i := j) (by omega)).2.1
  have r3 := (zx.hm.at_n e6 (i := i) (by omega)).2.1
  have rf := own_thaw zx.hm.ob (j * 3 + 1)
  have hpx := zx.hm.lt
  have hbx6 : b6 < wx.heap.size := own_lt zx.hm.ob rfl
  obtain ⟨s5, hs5⟩ : ∃ s5, (bkAt (H1.out j).blks j).size = s5 := ⟨_, rfl⟩
  obtain ⟨s6, hs6⟩ : ∃ s6, (bkAt (H1.out j).blks i).size = s6 := ⟨_, rfl⟩
  rw [hs5] at r2
  rw [hs6] at r3
  have z7 := zx.set (a := ⟨b6, j * 3 + 1, none⟩) (u := .int .i64 ((s5 + s6 : Nat) : Int)) (zx.hm.fb b6 rfl) (zx.hm.sizeM (by rw [e6]) (by rw [e6]; omega) (s5 + s6))
  rw [Int.natCast_add] at z7
  have hs56 : s5 + s6 ≤ 16384 := by
    have e := (HOK1.out.two (i := j) (by rw [HLN1.out]; omega)).2
    rw [← HZ.out] at e
    rw [← hs5, ← hs6]; exact e
  obtain ⟨w7, hw7⟩ : ∃ w7, wx.setCell ⟨b6, j * 3 + 1, none⟩ (.int .i64 ((s5 : Int) + (s6 : Int))) = w7 := ⟨_, rfl⟩
  rw [hw7] at z7
  have HW7 := Lib.hid hw7
  have HWX := Lib.hid hwx
  have Z7 := Lib.hid z7
  have HS5 := Lib.hid hs5
  have HS6 := Lib.hid hs6
  have HRX := Lib.hid rf
  have HPV := Lib.hid hprev
  clear z6 zx z7 hw7 hwx hs5 hs6 ht hb6 rf hprev q3
  go_wp2_with fail
  refine wp_region_plan wx.heap.size (.fin [0, 1, 2, 3, 4, 5, 6, 7, 8, 9, 10, 11, 12, 13, 14, 15, 16, 17, 18, 19, 20, 21, 22, 23, 24, 25]) [26] (by kernel_rfl) (by kernel_rfl) (by kernel_rfl) (fun _ _ _ _ _ h => h) ?_
  rw [HWX.out]
  have t1 : ∀ z : LaterB wx.heap.size wx, z.val.cell? ⟨p, 1, none⟩ = some (.slice (some ⟨b6, 0, none⟩) n c6) := fun z => (z.ext.cell (p := ⟨p, 1, none⟩) hpx).trans r1
  have t2 : ∀ z : LaterB wx.heap.size wx, z.val.cell? ⟨b6, j * 3 + 1, none⟩ = some (.int .i64 (s5 : Int)) := fun z => (z.ext.cell (p := ⟨b6, j * 3 + 1, none⟩) hbx6).trans r2
  have t3 : ∀ z : LaterB wx.heap.size wx, z.val.cell? ⟨b6, i * 3 + 1, none⟩ = some (.int .i64 (s6 : Int)) := fun z => (z.ext.cell (p := ⟨b6, i * 3 + 1, none⟩) hbx6).trans r3
  refine plan_fin (l := ?laBUY) (t := ?tlBUY) ?hlaBUY ?htlBUY ?_
  case hlaBUY => simp only [pick, List.getElem?_toArray, List.getElem?_cons_succ, List.getElem?_cons_zero]; rfl
  case htlBUY => simp only [pick, List.getElem?_toArray, List.getElem?_cons_succ, List.getElem?_cons_zero]; rfl
  repeat (go_big_quiet_step (fail))
  refine wpQuiet_nil ?_
  clear t1 t2 t3 r1 r3
  have rf := HRX.out
  go_wp2_with (first | (rw [HW7.out]) | fail)
  clear rf r2
  have lnT : (((H1.out j).size j (s5 + s6))).blks.length = n := (List.length_set ..).trans HLN1.out
  refine (hdrop_any Z7.out.hm i (by rw [lnT]; omega) (by rw [lnT]; omega) (HDL1.out.trans lnT.symm)).mono ?_
  rintro e w8 ⟨rfl, ht⟩
  obtain ⟨F8, Vb8, Vd8, gl8, cs8, z8⟩ := Z7.out.step ht
  have eK : (((H1.out j).size j (s5 + s6))).drop i = (H1.out j).join j := by
    show _ = ((H1.out j).size j _).drop (j + 1)
    rw [← HZ.out, HS5.out, HS6.out]
  rw [eK] at z8
  have ok3 : ((H1.out j).join j).Ok := (Hp.Ok.out (i := j) HOK1.out).join (by rw [e6]; omega)
  have fw3 : ((H1.out j).join j).Few N := Hp.Few.out (i := j) HFW1.out
  have jb := (join_at (H1.out j) (i := j) (by rw [e6]; omega)).1
  have hg3 := giveC_join HPV.out
  rw [show i - 1 = j by omega] at hg3
  obtain ⟨H3, hH3⟩ : ∃ H3, (H1.out j).join j = H3 := ⟨_, rfl⟩
  rw [hH3] at z8 ok3 fw3 jb hg3
  have hgf := HGV.out
  rw [hg3] at hgf
  have HGF := Lib.hid hgf
  have HOK3 := Lib.hid ok3
  have HFW3 := Lib.hid fw3
  have HJB := Lib.hid jb
  have Z8 := Lib.hid z8
  clear hgf hg3 ok3 fw3 jb z8 hH3 ht eK lnT e6 Z7 HW7 HWX HRX
  go_wp2_with fail
  refine (hin_any Z8.out.hm j HJB.out (HOK3.out.sz HJB.out) (fun d hd => Nat.le_trans (HFW3.out d hd) (by omega))).mono ?_
  rintro e w9 ⟨rfl, ht⟩
  have hto : HT F w p (H.give i) w9 := by
    rw [HGF.out]
    exact Z8.out.last ht
  have HTO := Lib.hid hto
  clear hto ht
  go_wp2
  go_end0
  exact ⟨rfl, HTO.out⟩

set_option maxHeartbeats 2000000 in
theorem hgive_YZ (h : Hm F w p H Vb Vd gl cs) (hok : H.Ok) (N : Nat) (hf : H.Few N) (hN : N ≤ 50000) (i : Nat) (hi : i < H.blks.length) (hE : i + 1 < H.blks.length) (hU : (bkAt H.blks (i + 1)).used = false) (hZ : i = 0) :
    Calls Tryz.prog 61 #[.pointer (some ⟨p, 0, none⟩), .int .i64 (i : Int)] w fun e w' => e = .returned (.tuple #[]) ∧ HT F w p (H.give i) w' := by
  obtain ⟨b1, c1, rfl, hb1, hnc1, _⟩ := own_nn h.ob (by omega)
  obtain ⟨b2, c2, rfl, hb2, hnc2, _⟩ := own_nn h.od (by rw [hok.dl]; omega)
  have hn512 := hok.n
  have z1 := (Hz.start h).set (a := ⟨b1, i * 3 + 2, none⟩) (u := .bool false) (h.fb b1 rfl) (h.useM rfl hi false)
  have z2 := z1.set (a := ⟨b2, i, none⟩) (u := .slice none 0 0) (h.fd b2 rfl) (z1.hm.wipeM (i := i) rfl)
  obtain ⟨w1, hw1⟩ : ∃ w1, w.setCell ⟨b1, i * 3 + 2, none⟩ (.bool false) = w1 := ⟨_, rfl⟩
  rw [hw1] at z1 z2
  obtain ⟨w2, hw2⟩ : ∃ w2, w1.setCell ⟨b2, i, none⟩ (.slice none 0 0) = w2 := ⟨_, rfl⟩
  rw [hw2] at z2
  have ok1 : ((H.use i false).wipe i).Ok := (hok.use hi false).wipe
  have fw1 : ((H.use i false).wipe i).Few N := hf
  have bl1 : ∀ k, bkAt ((H.use i false).wipe i).blks k = if k = i then { bkAt H.blks i with used := false } else bkAt H.blks k := fun k => bkAt_set H.blks i k _ hi
  have ln1 : ((H.use i false).wipe i).blks.length = H.blks.length := List.length_set ..
  have dl1 : ((H.use i false).wipe i).ds.length = H.blks.length := ok1.dl.trans ln1
  have hnx : nextF ((H.use i false).wipe i).blks i = true := by unfold nextF; rw [ln1, bl1, if_neg (by omega), hU, decide_eq_true hE]; rfl
  have hgv := give_join hnx
  clear hnx
  obtain ⟨H1, hH1⟩ : ∃ H1, (H.use i false).wipe i = H1 := ⟨_, rfl⟩
  rw [hH1] at hgv z2 ok1 fw1 bl1 ln1 dl1
  obtain ⟨n, hn⟩ : ∃ n, H.blks.length = n := ⟨_, rfl⟩
  have u2 := bl1 (i + 1)
  rw [if_neg (by omega)] at u2
  have hdl0 : H.ds.length = n := hok.dl.trans hn
  rw [hn] at ln1 dl1 hi hnc1 hE hn512
  have q1 := h.c1
  rw [hn] at q1
  have f1 := own_thaw h.ob (i * 3 + 2)
  have q2 : w1.cell? ⟨p, 2, none⟩ = some (.slice (some ⟨b2, 0, none⟩) n c2) := by have e := z1.hm.c2; rw [hdl0] at e; exact e
  have f2 := own_thaw z1.hm.od i
  obtain ⟨_, q1b⟩ : ∃ u, w.cell? ⟨b1, i * 3 + 2, none⟩ = some u := ⟨_, (h.at_n rfl (by omega)).2.2⟩
  obtain ⟨_, q2b, _⟩ := own_cell1 z1.hm.od (j := i) (by show i < H.ds.length; omega)
  have q3 : w2.cell? ⟨p, 1, none⟩ = some (.slice (some ⟨b1, 0, none⟩) n c1) := by have e := z2.hm.c1; rw [hn] at e; exact e
  rw [hn, hdl0] at z2
  obtain ⟨k, hk⟩ : ∃ k : Nat, (i : Int) + 1 = (k : Int) := ⟨i + 1, by omega⟩
  have HK : Hid (k = i + 1) := (show _ = _ by omega)
  have q4 := (z2.hm.at_n ln1 (i := i + 1) (by omega)).2.2
  rw [u2, hU, ← HK.out] at q4
  have HW1 := Lib.hid hw1
  have HW2 := Lib.hid hw2
  have hin : (i : Int) < (n : Int) := by omega
  have hie : (i : Int) + 1 < (n : Int) := by omega
  have hiz : (i : Int) ≤ 0 := by omega
  have HZ := Lib.hid hZ
  have HGV := Lib.hid hgv
  have HOK1 := Lib.hid ok1
  have HFW1 := Lib.hid fw1
  have HBL1 := Lib.hid bl1
  have HLN1 := Lib.hid ln1
  have HDL1 := Lib.hid dl1
  have HN := Lib.hid hn
  have Z2 := Lib.hid z2
  have HU2 := Lib.hid u2
  have HU := Lib.hid hU
  clear u2 hU
  clear h hok hf hb1 hb2 hw1 hw2 hH1 hZ hgv ok1 fw1 bl1 ln1 dl1 hn z1 z2 hE hdl0
  go_enter Tryz.func61, Tryz.ntmps61
  go_wp2_with (first | (rw [HW1.out]) | (rw [HW2.out]) | fail)
  clear q1 q2 q4 f1 f2 q1b q2b HW1 HW2
  refine (hout_any Z2.out.hm k (by rw [HLN1.out]; omega) (HOK1.out.sz (by rw [HLN1.out]; omega)) (fun d hd => Nat.le_trans (HFW1.out d hd) (by omega))).mono ?_
  rintro e w3 ⟨rfl, ht⟩
  obtain ⟨F3, Vb3, Vd3, gl3, cs3, z3⟩ := Z2.out.step ht
  obtain ⟨b3, c3, rfl, hb3, hnc3, _⟩ := own_nn z3.hm.ob (by show 0 < H1.blks.length; rw [HLN1.out]; omega)
  have e3 : (H1.out k).blks.length = n := HLN1.out
  rw [e3] at z3 hnc3
  obtain ⟨wd, hwd⟩ : ∃ wd, w3.drew = wd := ⟨_, rfl⟩
  have hbd : Below w3.heap.size w3 wd := by rw [← hwd]; exact (Below.refl _ _).drew
  have zd := z3.below hbd
  have r1 := zd.hm.c1
  have r2 := (zd.hm.at_n e3 (i := i) hi).2.1
  have r3 := (zd.hm.at_n e3 (i := k) (by omega)).2.1
  have rf := own_thaw zd.hm.ob (i * 3 + 1)
  have hpd := zd.hm.lt
  have hbd3 : b3 < wd.heap.size := own_lt zd.hm.ob rfl
  obtain ⟨s1, hs1⟩ : ∃ s1, (bkAt (H1.out k).blks i).size = s1 := ⟨_, rfl⟩
  obtain ⟨s2, hs2⟩ : ∃ s2, (bkAt (H1.out k).blks k).size = s2 := ⟨_, rfl⟩
  rw [hs1] at r2
  rw [hs2] at r3
  have z4 := zd.set (a := ⟨b3, i * 3 + 1, none⟩) (u := .int .i64 ((s1 + s2 : Nat) : Int)) (zd.hm.fb b3 rfl) (zd.hm.sizeM (by rw [e3]) (by rw [e3]; exact hi) (s1 + s2))
  rw [Int.natCast_add] at z4
  have hs12 : s1 + s2 ≤ 16384 := by
    have e := (HOK1.out.two (i := i) (by rw [HLN1.out]; omega)).2
    rw [← HK.out] at e
    rw [← hs1, ← hs2]; exact e
  obtain ⟨w4, hw4⟩ : ∃ w4, wd.setCell ⟨b3, i * 3 + 1, none⟩ (.int .i64 ((s1 : Int) + (s2 : Int))) = w4 := ⟨_, rfl⟩
  rw [hw4] at z4
  have HW4 := Lib.hid hw4
  have HWD := Lib.hid hwd
  have Z4 := Lib.hid z4
  have HS1 := Lib.hid hs1
  have HS2 := Lib.hid hs2
  have HRF := Lib.hid rf
  clear z3 zd z4 hw4 hwd hs1 hs2 ht hb3 rf Z2 q3
  go_wp2_with fail
  refine wp_region_plan wd.heap.size (.fin [0, 1, 2, 3, 4, 5, 6, 7, 8, 9, 10, 11, 12, 13, 14, 15, 16, 17, 18, 19, 20, 21, 22, 23, 24]) [25] (by kernel_rfl) (by kernel_rfl) (by kernel_rfl) (fun _ _ _ _ _ h => h) ?_
  rw [HWD.out]
  have t1 : ∀ z : LaterB wd.heap.size wd, z.val.cell? ⟨p, 1, none⟩ = some (.slice (some ⟨b3, 0, none⟩) n c3) := fun z => (z.ext.cell (p := ⟨p, 1, none⟩) hpd).trans r1
  have t2 : ∀ z : LaterB wd.heap.size wd, z.val.cell? ⟨b3, i * 3 + 1, none⟩ = some (.int .i64 (s1 : Int)) := fun z => (z.ext.cell (p := ⟨b3, i * 3 + 1, none⟩) hbd3).trans r2
  have t3 : ∀ z : LaterB wd.heap.size wd, z.val.cell? ⟨b3, k * 3 + 1, none⟩ = some (.int .i64 (s2 : Int)) := fun z => (z.ext.cell (p := ⟨b3, k * 3 + 1, none⟩) hbd3).trans r3
  refine plan_fin (l := ?laAYZ) (t := ?tlAYZ) ?hlaAYZ ?htlAYZ ?_
  case hlaAYZ => simp only [pick, List.getElem?_toArray, List.getElem?_cons_succ, List.getElem?_cons_zero]; rfl
  case htlAYZ => simp only [pick, List.getElem?_toArray, List.getElem?_cons_succ, List.getElem?_cons_zero]; rfl
  repeat (go_big_quiet_step (fail))
  refine wpQuiet_nil ?_
  clear t1 t2 t3 r1 r3
  have rf := HRF.out
  go_wp2_with (first | (rw [HW4.out]) | fail)
  clear rf r2
  have lnS : (((H1.out k).size i (s1 + s2))).blks.length = n := (List.length_set ..).trans HLN1.out
  refine (hdrop_any Z4.out.hm k (by rw [lnS]; omega) (by rw [lnS]; omega) (HDL1.out.trans lnS.symm)).mono ?_
  rintro e w5 ⟨rfl, ht⟩
  obtain ⟨F5, Vb5, Vd5, gl5, cs5, z5⟩ := Z4.out.step ht
  have eJ : (((H1.out k).size i (s1 + s2))).drop k = (H1.out k).join i := by
    show _ = ((H1.out k).size i _).drop (i + 1)
    rw [← HK.out, HS1.out, HS2.out]
  rw [eJ] at z5
  have ok2 : ((H1.out k).join i).Ok := (Hp.Ok.out (i := k) HOK1.out).join (by rw [e3]; omega)
  have fw2 : ((H1.out k).join i).Few N := Hp.Few.out (i := k) HFW1.out
  have ja := join_at (H1.out k) (i := i) (by rw [e3]; omega)
  rw [e3] at ja
  have hgv := HGV.out
  rw [← HK.out] at hgv
  obtain ⟨H2, hH2⟩ : ∃ H2, (H1.out k).join i = H2 := ⟨_, rfl⟩
  rw [hH2] at z5 ok2 fw2 ja hgv
  obtain ⟨b5, c5, rfl, hb5, hnc5, _⟩ := own_nn z5.hm.ob (by omega)
  obtain ⟨n5, hn5⟩ : ∃ n5, H2.blks.length = n5 := ⟨_, rfl⟩
  rw [hn5] at z5 hnc5 ja
  obtain ⟨ja1, ja2, ja3⟩ := ja
  have dl2 : H2.ds.length = n5 := ok2.dl.trans hn5
  have q6 := z5.hm.c1
  have HLN2 := Lib.hid hn5
  have HDL2 := Lib.hid dl2
  have HOK2 := Lib.hid ok2
  have HFW2 := Lib.hid fw2
  have HGV2 := Lib.hid hgv
  have Z5 := Lib.hid z5
  have hi5 : (i : Int) < (n5 : Int) := by omega
  clear z5 ok2 fw2 hgv hH2 hn5 dl2 ht eJ lnS e3 ja2 Z4 HW4 HWD HRF hb5
  go_wp2_with fail
  have hprev : prevF H2.blks i = false := by unfold prevF; rw [decide_eq_false (by omega)]; rfl
  refine (hin_any Z5.out.hm i (by rw [HLN2.out]; omega) (HOK2.out.sz (by rw [HLN2.out]; omega)) (fun d hd => Nat.le_trans (HFW2.out d hd) (by omega))).mono ?_
  rintro e w9 ⟨rfl, ht⟩
  have hto : HT F w p (H.give i) w9 := by
    rw [HGV2.out, giveC_stay hprev]
    exact Z5.out.last ht
  have HTO := Lib.hid hto
  clear hto ht hprev q6
  go_wp2
  go_end0
  exact ⟨rfl, HTO.out⟩

set_option maxHeartbeats 2000000 in
theorem hgive_YU (h : Hm F w p H Vb Vd gl cs) (hok : H.Ok) (N : Nat) (hf : H.Few N) (hN : N ≤ 50000) (i : Nat) (hi : i < H.blks.length) (hE : i + 1 < H.blks.length) (hU : (bkAt H.blks (i + 1)).used = false) (j : Nat) (hZ : i = j + 1) (hP : (bkAt H.blks j).used = true) :
    Calls Tryz.prog 61 #[.pointer (some ⟨p, 0, none⟩), .int .i64 (i : Int)] w fun e w' => e = .returned (.tuple #[]) ∧ HT F w p (H.give i) w' := by
  obtain ⟨b1, c1, rfl, hb1, hnc1, _⟩ := own_nn h.ob (by omega)
  obtain ⟨b2, c2, rfl, hb2, hnc2, _⟩ := own_nn h.od (by rw [hok.dl]; omega)
  have hn512 := hok.n
  have z1 := (Hz.start h).set (a := ⟨b1, i * 3 + 2, none⟩) (u := .bool false) (h.fb b1 rfl) (h.useM rfl hi false)
  have z2 := z1.set (a := ⟨b2, i, none⟩) (u := .slice none 0 0) (h.fd b2 rfl) (z1.hm.wipeM (i := i) rfl)
  obtain ⟨w1, hw1⟩ : ∃ w1, w.setCell ⟨b1, i * 3 + 2, none⟩ (.bool false) = w1 := ⟨_, rfl⟩
  rw [hw1] at z1 z2
  obtain ⟨w2, hw2⟩ : ∃ w2, w1.setCell ⟨b2, i, none⟩ (.slice none 0 0) = w2 := ⟨_, rfl⟩
  rw [hw2] at z2
  have ok1 : ((H.use i false).wipe i).Ok := (hok.use hi false).wipe
  have fw1 : ((H.use i false).wipe i).Few N := hf
  have bl1 : ∀ k, bkAt ((H.use i false).wipe i).blks k = if k = i then { bkAt H.blks i with used := false } else bkAt H.blks k := fun k => bkAt_set H.blks i k _ hi
  have ln1 : ((H.use i false).wipe i).blks.length = H.blks.length := List.length_set ..
  have dl1 : ((H.use i false).wipe i).ds.length = H.blks.length := ok1.dl.trans ln1
  have hnx : nextF ((H.use i false).wipe i).blks i = true := by unfold nextF; rw [ln1, bl1, if_neg (by omega), hU, decide_eq_true hE]; rfl
  have hgv := give_join hnx
  clear hnx
  obtain ⟨H1, hH1⟩ : ∃ H1, (H.use i false).wipe i = H1 := ⟨_, rfl⟩
  rw [hH1] at hgv z2 ok1 fw1 bl1 ln1 dl1
  obtain ⟨n, hn⟩ : ∃ n, H.blks.length = n := ⟨_, rfl⟩
  have u2 := bl1 (i + 1)
  rw [if_neg (by omega)] at u2
  have hdl0 : H.ds.length = n := hok.dl.trans hn
  rw [hn] at ln1 dl1 hi hnc1 hE hn512
  have q1 := h.c1
  rw [hn] at q1
  have f1 := own_thaw h.ob (i * 3 + 2)
  have q2 : w1.cell? ⟨p, 2, none⟩ = some (.slice (some ⟨b2, 0, none⟩) n c2) := by have e := z1.hm.c2; rw [hdl0] at e; exact e
  have f2 := own_thaw z1.hm.od i
  obtain ⟨_, q1b⟩ : ∃ u, w.cell? ⟨b1, i * 3 + 2, none⟩ = some u := ⟨_, (h.at_n rfl (by omega)).2.2⟩
  obtain ⟨_, q2b, _⟩ := own_cell1 z1.hm.od (j := i) (by show i < H.ds.length; omega)
  have q3 : w2.cell? ⟨p, 1, none⟩ = some (.slice (some ⟨b1, 0, none⟩) n c1) := by have e := z2.hm.c1; rw [hn] at e; exact e
  rw [hn, hdl0] at z2
  obtain ⟨k, hk⟩ : ∃ k : Nat, (i : Int) + 1 = (k : Int) := ⟨i + 1, by omega⟩
  have HK : Hid (k = i + 1) := (show _ = _ by omega)
  have q4 := (z2.hm.at_n ln1 (i := i + 1) (by omega)).2.2
  rw [u2, hU, ← HK.out] at q4
  have HW1 := Lib.hid hw1
  have HW2 := Lib.hid hw2
  have hin : (i : Int) < (n : Int) := by omega
  have hie : (i : Int) + 1 < (n : Int) := by omega
  have hiz : 0 < (i : Int) := by omega
  have hji : j < i := by omega
  have hjz : (i : Int) - 1 = (j : Int) := by omega
  have bj := bl1 j
  rw [if_neg (by omega)] at bj
  have HZ := Lib.hid hZ
  have HGV := Lib.hid hgv
  have HOK1 := Lib.hid ok1
  have HFW1 := Lib.hid fw1
  have HBL1 := Lib.hid bl1
  have HLN1 := Lib.hid ln1
  have HDL1 := Lib.hid dl1
  have HN := Lib.hid hn
  have Z2 := Lib.hid z2
  have HBJ := Lib.hid bj
  have HP := Lib.hid hP
  clear bj hP
  have HU2 := Lib.hid u2
  have HU := Lib.hid hU
  clear u2 hU
  clear h hok hf hb1 hb2 hw1 hw2 hH1 hZ hgv ok1 fw1 bl1 ln1 dl1 hn z1 z2 hE hdl0
  go_enter Tryz.func61, Tryz.ntmps61
  go_wp2_with (first | (rw [HW1.out]) | (rw [HW2.out]) | fail)
  clear q1 q2 q4 f1 f2 q1b q2b HW1 HW2
  refine (hout_any Z2.out.hm k (by rw [HLN1.out]; omega) (HOK1.out.sz (by rw [HLN1.out]; omega)) (fun d hd => Nat.le_trans (HFW1.out d hd) (by omega))).mono ?_
  rintro e w3 ⟨rfl, ht⟩
  obtain ⟨F3, Vb3, Vd3, gl3, cs3, z3⟩ := Z2.out.step ht
  obtain ⟨b3, c3, rfl, hb3, hnc3, _⟩ := own_nn z3.hm.ob (by show 0 < H1.blks.length; rw [HLN1.out]; omega)
  have e3 : (H1.out k).blks.length = n := HLN1.out
  rw [e3] at z3 hnc3
  obtain ⟨wd, hwd⟩ : ∃ wd, w3.drew = wd := ⟨_, rfl⟩
  have hbd : Below w3.heap.size w3 wd := by rw [← hwd]; exact (Below.refl _ _).drew
  have zd := z3.below hbd
  have r1 := zd.hm.c1
  have r2 := (zd.hm.at_n e3 (i := i) hi).2.1
  have r3 := (zd.hm.at_n e3 (i := k) (by omega)).2.1
  have rf := own_thaw zd.hm.ob (i * 3 + 1)
  have hpd := zd.hm.lt
  have hbd3 : b3 < wd.heap.size := own_lt zd.hm.ob rfl
  obtain ⟨s1, hs1⟩ : ∃ s1, (bkAt (H1.out k).blks i).size = s1 := ⟨_, rfl⟩
  obtain ⟨s2, hs2⟩ : ∃ s2, (bkAt (H1.out k).blks k).size = s2 := ⟨_, rfl⟩
  rw [hs1] at r2
  rw [hs2] at r3
  have z4 := zd.set (a := ⟨b3, i * 3 + 1, none⟩) (u := .int .i64 ((s1 + s2 : Nat) : Int)) (zd.hm.fb b3 rfl) (zd.hm.sizeM (by rw [e3]) (by rw [e3]; exact hi) (s1 + s2))
  rw [Int.natCast_add] at z4
  have hs12 : s1 + s2 ≤ 16384 := by
    have e := (HOK1.out.two (i := i) (by rw [HLN1.out]; omega)).2
    rw [← HK.out] at e
    rw [← hs1, ← hs2]; exact e
  obtain ⟨w4, hw4⟩ : ∃ w4, wd.setCell ⟨b3, i * 3 + 1, none⟩ (.int .i64 ((s1 : Int) + (s2 : Int))) = w4 := ⟨_, rfl⟩
  rw [hw4] at z4
  have HW4 := Lib.hid hw4
  have HWD := Lib.hid hwd
  have Z4 := Lib.hid z4
  have HS1 := Lib.hid hs1
  have HS2 := Lib.hid hs2
  have HRF := Lib.hid rf
  clear z3 zd z4 hw4 hwd hs1 hs2 ht hb3 rf Z2 q3
  go_wp2_with fail
  refine wp_region_plan wd.heap.size (.fin [0, 1, 2, 3, 4, 5, 6, 7, 8, 9, 10, 11, 12, 13, 14, 15, 16, 17, 18, 19, 20, 21, 22, 23, 24]) [25] (by kernel_rfl) (by kernel_rfl) (by kernel_rfl) (fun _ _ _ _ _ h => h) ?_
  rw [HWD.out]
  have t1 : ∀ z : LaterB wd.heap.size wd, z.val.cell? ⟨p, 1, none⟩ = some (.slice (some ⟨b3, 0, none⟩) n c3) := fun z => (z.ext.cell (p := ⟨p, 1, none⟩) hpd).trans r1
  have t2 : ∀ z : LaterB wd.heap.size wd, z.val.cell? ⟨b3, i * 3 + 1, none⟩ = some (.int .i64 (s1 : Int)) := fun z => (z.ext.cell (p := ⟨b3, i * 3 + 1, none⟩) hbd3).trans r2
  have t3 : ∀ z : LaterB wd.heap.size wd, z.val.cell? ⟨b3, k * 3 + 1, none⟩ = some (.int .i64 (s2 : Int)) := fun z => (z.ext.cell (p := ⟨b3, k * 3 + 1, none⟩) hbd3).trans r3
  refine plan_fin (l := ?laAYU) (t := ?tlAYU) ?hlaAYU ?htlAYU ?_
  case hlaAYU => simp only [pick, List.getElem?_toArray, List.getElem?_cons_succ, List.getElem?_cons_zero]; rfl
  case htlAYU => simp only [pick, List.getElem?_toArray, List.getElem?_cons_succ, List.getElem?_cons_zero]; rfl
  repeat (go_big_quiet_step (fail))
  refine wpQuiet_nil ?_
  clear t1 t2 t3 r1 r3
  have rf := HRF.out
  go_wp2_with (first | (rw [HW4.out]) | fail)
  clear rf r2
  have lnS : (((H1.out k).size i (s1 + s2))).blks.length = n := (List.length_set ..).trans HLN1.out
  refine (hdrop_any Z4.out.hm k (by rw [lnS]; omega) (by rw [lnS]; omega) (HDL1.out.trans lnS.symm)).mono ?_
  rintro e w5 ⟨rfl, ht⟩
  obtain ⟨F5, Vb5, Vd5, gl5, cs5, z5⟩ := Z4.out.step ht
  have eJ : (((H1.out k).size i (s1 + s2))).drop k = (H1.out k).join i := by
    show _ = ((H1.out k).size i _).drop (i + 1)
    rw [← HK.out, HS1.out, HS2.out]
  rw [eJ] at z5
  have ok2 : ((H1.out k).join i).Ok := (Hp.Ok.out (i := k) HOK1.out).join (by rw [e3]; omega)
  have fw2 : ((H1.out k).join i).Few N := Hp.Few.out (i := k) HFW1.out
  have ja := join_at (H1.out k) (i := i) (by rw [e3]; omega)
  rw [e3] at ja
  have hgv := HGV.out
  rw [← HK.out] at hgv
  have bj2 : bkAt ((H1.out k).join i).blks j = bkAt H.blks j := by
    rw [join_blks (H1.out k) (i := i) (by rw [e3]; omega)]
    unfold bkAt
    rw [List.getD_eq_getElem?_getD, List.getElem?_append_left (by rw [List.length_take, e3]; omega), List.getElem?_take_of_lt hji, ← List.getD_eq_getElem?_getD]
    exact HBJ.out
  have HBJ2 := Lib.hid bj2
  clear bj2
  obtain ⟨H2, hH2⟩ : ∃ H2, (H1.out k).join i = H2 := ⟨_, rfl⟩
  rw [hH2] at z5 ok2 fw2 ja hgv
  rw [hH2] at HBJ2
  obtain ⟨b5, c5, rfl, hb5, hnc5, _⟩ := own_nn z5.hm.ob (by omega)
  obtain ⟨n5, hn5⟩ : ∃ n5, H2.blks.length = n5 := ⟨_, rfl⟩
  rw [hn5] at z5 hnc5 ja
  obtain ⟨ja1, ja2, ja3⟩ := ja
  have dl2 : H2.ds.length = n5 := ok2.dl.trans hn5
  have q6 := z5.hm.c1
  have HLN2 := Lib.hid hn5
  have HDL2 := Lib.hid dl2
  have HOK2 := Lib.hid ok2
  have HFW2 := Lib.hid fw2
  have HGV2 := Lib.hid hgv
  have Z5 := Lib.hid z5
  have hi5 : (i : Int) < (n5 : Int) := by omega
  clear z5 ok2 fw2 hgv hH2 hn5 dl2 ht eJ lnS e3 ja2 Z4 HW4 HWD HRF hb5
  have q5 := (Z5.out.hm.at_n HLN2.out (i := j) (by omega)).2.2
  rw [HBJ2.out, HP.out] at q5
  go_wp2_with fail
  have hprev : prevF H2.blks i = false := by unfold prevF; rw [show i - 1 = j by omega, HBJ2.out, HP.out, Bool.not_true, Bool.and_false]
  refine (hin_any Z5.out.hm i (by rw [HLN2.out]; omega) (HOK2.out.sz (by rw [HLN2.out]; omega)) (fun d hd => Nat.le_trans (HFW2.out d hd) (by omega))).mono ?_
  rintro e w9 ⟨rfl, ht⟩
  have hto : HT F w p (H.give i) w9 := by
    rw [HGV2.out, giveC_stay hprev]
    exact Z5.out.last ht
  have HTO := Lib.hid hto
  clear hto ht hprev q6
  go_wp2
  go_end0
  exact ⟨rfl, HTO.out⟩

set_option maxHeartbeats 2000000 in
theorem hgive_YY (h : Hm F w p H Vb Vd gl cs) (hok : H.Ok) (N : Nat) (hf : H.Few N) (hN : N ≤ 50000) (i : Nat) (hi : i < H.blks.length) (hE : i + 1 < H.blks.length) (hU : (bkAt H.blks (i + 1)).used = false) (j : Nat) (hZ : i = j + 1) (hP : (bkAt H.blks j).used = false) :
    Calls Tryz.prog 61 #[.pointer (some ⟨p, 0, none⟩), .int .i64 (i : Int)] w fun e w' => e = .returned (.tuple #[]) ∧ HT F w p (H.give i) w' := by
  obtain ⟨b1, c1, rfl, hb1, hnc1, _⟩ := own_nn h.ob (by omega)
  obtain ⟨b2, c2, rfl, hb2, hnc2, _⟩ := own_nn h.od (by rw [hok.dl]; omega)
  have hn512 := hok.n
  have z1 := (Hz.start h).set (a := ⟨b1, i * 3 + 2, none⟩) (u := .bool false) (h.fb b1 rfl) (h.useM rfl hi false)
  have z2 := z1.set (a := ⟨b2, i, none⟩) (u := .slice none 0 0) (h.fd b2 rfl) (z1.hm.wipeM (i := i) rfl)
  obtain ⟨w1, hw1⟩ : ∃ w1, w.setCell ⟨b1, i * 3 + 2, none⟩ (.bool false) = w1 := ⟨_, rfl⟩
  rw [hw1] at z1 z2
  obtain ⟨w2, hw2⟩ : ∃ w2, w1.setCell ⟨b2, i, none⟩ (.slice none 0 0) = w2 := ⟨_, rfl⟩
  rw [hw2] at z2
  have ok1 : ((H.use i false).wipe i).Ok := (hok.use hi false).wipe
  have fw1 : ((H.use i false).wipe i).Few N := hf
  have bl1 : ∀ k, bkAt ((H.use i false).wipe i).blks k = if k = i then { bkAt H.blks i with used := false } else bkAt H.blks k := fun k => bkAt_set H.blks i k _ hi
  have ln1 : ((H.use i false).wipe i).blks.length = H.blks.length := List.length_set ..
  have dl1 : ((H.use i false).wipe i).ds.length = H.blks.length := ok1.dl.trans ln1
  have hnx : nextF ((H.use i false).wipe i).blks i = true := by unfold nextF; rw [ln1, bl1, if_neg (by omega), hU, decide_eq_true hE]; rfl
  have hgv := give_join hnx
  clear hnx
  obtain ⟨H1, hH1⟩ : ∃ H1, (H.use i false).wipe i = H1 := ⟨_, rfl⟩
  rw [hH1] at hgv z2 ok1 fw1 bl1 ln1 dl1
  obtain ⟨n, hn⟩ : ∃ n, H.blks.length = n := ⟨_, rfl⟩
  have u2 := bl1 (i + 1)
  rw [if_neg (by omega)] at u2
  have hdl0 : H.ds.length = n := hok.dl.trans hn
  rw [hn] at ln1 dl1 hi hnc1 hE hn512
  have q1 := h.c1
  rw [hn] at q1
  have f1 := own_thaw h.ob (i * 3 + 2)
  have q2 : w1.cell? ⟨p, 2, none⟩ = some (.slice (some ⟨b2, 0, none⟩) n c2) := by have e := z1.hm.c2; rw [hdl0] at e; exact e
  have f2 := own_thaw z1.hm.od i
  obtain ⟨_, q1b⟩ : ∃ u, w.cell? ⟨b1, i * 3 + 2, none⟩ = some u := ⟨_, (h.at_n rfl (by omega)).2.2⟩
  obtain ⟨_, q2b, _⟩ := own_cell1 z1.hm.od (j := i) (by show i < H.ds.length; omega)
  have q3 : w2.cell? ⟨p, 1, none⟩ = some (.slice (some ⟨b1, 0, none⟩) n c1) := by have e := z2.hm.c1; rw [hn] at e; exact e
  rw [hn, hdl0] at z2
  obtain ⟨k, hk⟩ : ∃ k : Nat, (i : Int) + 1 = (k : Int) := ⟨i + 1, by omega⟩
  have HK : Hid (k = i + 1) := (show _ = _ by omega)
  have q4 := (z2.hm.at_n ln1 (i := i + 1) (by omega)).2.2
  rw [u2, hU, ← HK.out] at q4
  have HW1 := Lib.hid hw1
  have HW2 := Lib.hid hw2
  have hin : (i : Int) < (n : Int) := by omega
  have hie : (i : Int) + 1 < (n : Int) := by omega
  have hiz : 0 < (i : Int) := by omega
  have hji : j < i := by omega
  have hjz : (i : Int) - 1 = (j : Int) := by omega
  have bj := bl1 j
  rw [if_neg (by omega)] at bj
  have HZ := Lib.hid hZ
  have HGV := Lib.hid hgv
  have HOK1 := Lib.hid ok1
  have HFW1 := Lib.hid fw1
  have HBL1 := Lib.hid bl1
  have HLN1 := Lib.hid ln1
  have HDL1 := Lib.hid dl1
  have HN := Lib.hid hn
  have Z2 := Lib.hid z2
  have HBJ := Lib.hid bj
  have HP := Lib.hid hP
  clear bj hP
  have HU2 := Lib.hid u2
  have HU := Lib.hid hU
  clear u2 hU
  clear h hok hf hb1 hb2 hw1 hw2 hH1 hZ hgv ok1 fw1 bl1 ln1 dl1 hn z1 z2 hE hdl0
  go_enter Tryz.func61, Tryz.ntmps61
  go_wp2_with (first | (rw [HW1.out]) | (rw [HW2.out]) | fail)
  clear q1 q2 q4 f1 f2 q1b q2b HW1 HW2
  refine (hout_any Z2.out.hm k (by rw [HLN1.out]; omega) (HOK1.out.sz (by rw [HLN1.out]; omega)) (fun d hd => Nat.le_trans (HFW1.out d hd) (by omega))).mono ?_
  rintro e w3 ⟨rfl, ht⟩
  obtain ⟨F3, Vb3, Vd3, gl3, cs3, z3⟩ := Z2.out.step ht
  obtain ⟨b3, c3, rfl, hb3, hnc3, _⟩ := own_nn z3.hm.ob (by show 0 < H1.blks.length; rw [HLN1.out]; omega)
  have e3 : (H1.out k).blks.length = n := HLN1.out
  rw [e3] at z3 hnc3
  obtain ⟨wd, hwd⟩ : ∃ wd, w3.drew = wd := ⟨_, rfl⟩
  have hbd : Below w3.heap.size w3 wd := by rw [← hwd]; exact (Below.refl _ _).drew
  have zd := z3.below hbd
  have r1 := zd.hm.c1
  have r2 := (zd.hm.at_n e3 (i := i) hi).2.1
  have r3 := (zd.hm.at_n e3 (i := k) (by omega)).2.1
  have rf := own_thaw zd.hm.ob (i * 3 + 1)
  have hpd := zd.hm.lt
  have hbd3 : b3 < wd.heap.size := own_lt zd.hm.ob rfl
  obtain ⟨s1, hs1⟩ : ∃ s1, (bkAt (H1.out k).blks i).size = s1 := ⟨_, rfl⟩
  obtain ⟨s2, hs2⟩ : ∃ s2, (bkAt (H1.out k).blks k).size = s2 := ⟨_, rfl⟩
  rw [hs1] at r2
  rw [hs2] at r3
  have z4 := zd.set (a := ⟨b3, i * 3 + 1, none⟩) (u := .int .i64 ((s1 + s2 : Nat) : Int)) (zd.hm.fb b3 rfl) (zd.hm.sizeM (by rw [e3]) (by rw [e3]; exact hi) (s1 + s2))
  rw [Int.natCast_add] at z4
  have hs12 : s1 + s2 ≤ 16384 := by
    have e := (HOK1.out.two (i := i) (by rw [HLN1.out]; omega)).2
    rw [← HK.out] at e
    rw [← hs1, ← hs2]; exact e
  obtain ⟨w4, hw4⟩ : ∃ w4, wd.setCell ⟨b3, i * 3 + 1, none⟩ (.int .i64 ((s1 : Int) + (s2 : Int))) = w4 := ⟨_, rfl⟩
  rw [hw4] at z4
  have HW4 := Lib.hid hw4
  have HWD := Lib.hid hwd
  have Z4 := Lib.hid z4
  have HS1 := Lib.hid hs1
  have HS2 := Lib.hid hs2
  have HRF := Lib.hid rf
  clear z3 zd z4 hw4 hwd hs1 hs2 ht hb3 rf Z2 q3
  go_wp2_with fail
  refine wp_region_plan wd.heap.size (.fin [0, 1, 2, 3, 4, 5, 6, 7, 8, 9, 10, 11, 12, 13, 14, 15, 16, 17, 18, 19, 20, 21, 22, 23, 24]) [25] (by kernel_rfl) (by kernel_rfl) (by kernel_rfl) (fun _ _ _ _ _ h => h) ?_
  rw [HWD.out]
  have t1 : ∀ z : LaterB wd.heap.size wd, z.val.cell? ⟨p, 1, none⟩ = some (.slice (some ⟨b3, 0, none⟩) n c3) := fun z => (z.ext.cell (p := ⟨p, 1, none⟩) hpd).trans r1
  have t2 : ∀ z : LaterB wd.heap.size wd, z.val.cell? ⟨b3, i * 3 + 1, none⟩ = some (.int .i64 (s1 : Int)) := fun z => (z.ext.cell (p := ⟨b3, i * 3 + 1, none⟩) hbd3).trans r2
  have t3 : ∀ z : LaterB wd.heap.size wd, z.val.cell? ⟨b3, k * 3 + 1, none⟩ = some (.int .i64 (s2 : Int)) := fun z => (z.ext.cell (p := ⟨b3, k * 3 + 1, none⟩) hbd3).trans r3
  refine plan_fin (l := ?laAYY) (t := ?tlAYY) ?hlaAYY ?htlAYY ?_
  case hlaAYY => simp only [pick, List.getElem?_toArray, List.getElem?_cons_succ, List.getElem?_cons_zero]; rfl
  case htlAYY => simp only [pick, List.getElem?_toArray, List.getElem?_cons_succ, List.getElem?_cons_zero]; rfl
  repeat (go_big_quiet_step (fail))
  refine wpQuiet_nil ?_
  clear t1 t2 t3 r1 r3
  have rf := HRF.out
  go_wp2_with (first | (rw [HW4.out]) | fail)
  clear rf r2
  have lnS : (((H1.out k).size i (s1 + s2))).blks.length = n := (List.length_set ..).trans HLN1.out
  refine (hdrop_any Z4.out.hm k (by rw [lnS]; omega) (by rw [lnS]; omega) (HDL1.out.trans lnS.symm)).mono ?_
  rintro e w5 ⟨rfl, ht⟩
  obtain ⟨F5, Vb5, Vd5, gl5, cs5, z5⟩ := Z4.out.step ht
  have eJ : (((H1.out k).size i (s1 + s2))).drop k = (H1.out k).join i := by
    show _ = ((H1.out k).size i _).drop (i + 1)
    rw [← HK.out, HS1.out, HS2.out]
  rw [eJ] at z5
  have ok2 : ((H1.out k).join i).Ok := (Hp.Ok.out (i := k) HOK1.out).join (by rw [e3]; omega)
  have fw2 : ((H1.out k).join i).Few N := Hp.Few.out (i := k) HFW1.out
  have ja := join_at (H1.out k) (i := i) (by rw [e3]; omega)
  rw [e3] at ja
  have hgv := HGV.out
  rw [← HK.out] at hgv
  have bj2 : bkAt ((H1.out k).join i).blks j = bkAt H.blks j := by
    rw [join_blks (H1.out k) (i := i) (by rw [e3]; omega)]
    unfold bkAt
    rw [List.getD_eq_getElem?_getD, List.getElem?_append_left (by rw [List.length_take, e3]; omega), List.getElem?_take_of_lt hji, ← List.getD_eq_getElem?_getD]
    exact HBJ.out
  have HBJ2 := Lib.hid bj2
  clear bj2
  obtain ⟨H2, hH2⟩ : ∃ H2, (H1.out k).join i = H2 := ⟨_, rfl⟩
  rw [hH2] at z5 ok2 fw2 ja hgv
  rw [hH2] at HBJ2
  obtain ⟨b5, c5, rfl, hb5, hnc5, _⟩ := own_nn z5.hm.ob (by omega)
  obtain ⟨n5, hn5⟩ : ∃ n5, H2.blks.length = n5 := ⟨_, rfl⟩
  rw [hn5] at z5 hnc5 ja
  obtain ⟨ja1, ja2, ja3⟩ := ja
  have dl2 : H2.ds.length = n5 := ok2.dl.trans hn5
  have q6 := z5.hm.c1
  have HLN2 := Lib.hid hn5
  have HDL2 := Lib.hid dl2
  have HOK2 := Lib.hid ok2
  have HFW2 := Lib.hid fw2
  have HGV2 := Lib.hid hgv
  have Z5 := Lib.hid z5
  have hi5 : (i : Int) < (n5 : Int) := by omega
  clear z5 ok2 fw2 hgv hH2 hn5 dl2 ht eJ lnS e3 ja2 Z4 HW4 HWD HRF hb5
  have q5 := (Z5.out.hm.at_n HLN2.out (i := j) (by omega)).2.2
  rw [HBJ2.out, HP.out] at q5
  go_wp2_with fail
  have hprev : prevF H2.blks i = true := by unfold prevF; rw [show i - 1 = j by omega, HBJ2.out, HP.out, decide_eq_true (by omega)]; rfl
  clear q5
  refine (hout_any Z5.out.hm j (by rw [HLN2.out]; omega) (HOK2.out.sz (by rw [HLN2.out]; omega)) (fun d hd => Nat.le_trans (HFW2.out d hd) (by omega))).mono ?_
  rintro e w6 ⟨rfl, ht⟩
  obtain ⟨F6, Vb6, Vd6, gl6, cs6, z6⟩ := Z5.out.step ht
  obtain ⟨b6, c6, rfl, hb6, hnc6, _⟩ := own_nn z6.hm.ob (by show 0 < H2.blks.length; rw [HLN2.out]; omega)
  have e6 : (H2.out j).blks.length = n5 := HLN2.out
  rw [e6] at z6 hnc6
  obtain ⟨wx, hwx⟩ : ∃ wx, w6.drew = wx := ⟨_, rfl⟩
  have hbx : Below w6.heap.size w6 wx := by rw [← hwx]; exact (Below.refl _ _).drew
  have zx := z6.below hbx
  have r1 := zx.hm.c1
  have r2 := (zx.hm.at_n e6 (i := j) (by omega)).2.1
  have r3 := (zx.hm.at_n e6 (i := i) (by omega)).2.1
  have rf := own_thaw zx.hm.ob (j * 3 + 1)
  have hpx := zx.hm.lt
  have hbx6 : b6 < wx.heap.size := own_lt zx.hm.ob rfl
  obtain ⟨s5, hs5⟩ : ∃ s5, (bkAt (H2.out j).blks j).size = s5 := ⟨_, rfl⟩
  obtain ⟨s6, hs6⟩ : ∃ s6, (bkAt (H2.out j).blks i).size = s6 := ⟨_, rfl⟩
  rw [hs5] at r2
  rw [hs6] at r3
  have z7 := zx.set (a := ⟨b6, j * 3 + 1, none⟩) (u := .int .i64 ((s5 + s6 : Nat) : Int)) (zx.hm.fb b6 rfl) (zx.hm.sizeM (by rw [e6]) (by rw [e6]; omega) (s5 + s6))
  rw [Int.natCast_add] at z7
  have hs56 : s5 + s6 ≤ 16384 := by
    have e := (HOK2.out.two (i := j) (by rw [HLN2.out]; omega)).2
    rw [← HZ.out] at e
    rw [← hs5, ← hs6]; exact e
  obtain ⟨w7, hw7⟩ : ∃ w7, wx.setCell ⟨b6, j * 3 + 1, none⟩ (.int .i64 ((s5 : Int) + (s6 : Int))) = w7 := ⟨_, rfl⟩
  rw [hw7] at z7
  have HW7 := Lib.hid hw7
  have HWX := Lib.hid hwx
  have Z7 := Lib.hid z7
  have HS5 := Lib.hid hs5
  have HS6 := Lib.hid hs6
  have HRX := Lib.hid rf
  have HPV := Lib.hid hprev
  clear z6 zx z7 hw7 hwx hs5 hs6 ht hb6 rf hprev q6
  go_wp2_with fail
  refine wp_region_plan wx.heap.size (.fin [0, 1, 2, 3, 4, 5, 6, 7, 8, 9, 10, 11, 12, 13, 14, 15, 16, 17, 18, 19, 20, 21, 22, 23, 24, 25]) [26] (by kernel_rfl) (by kernel_rfl) (by kernel_rfl) (fun _ _ _ _ _ h => h) ?_
  rw [HWX.out]
  have t1 : ∀ z : LaterB wx.heap.size wx, z.val.cell? ⟨p, 1, none⟩ = some (.slice (some ⟨b6, 0, none⟩) n5 c6) := fun z => (z.ext.cell (p := ⟨p, 1, none⟩) hpx).trans r1
  have t2 : ∀ z : LaterB wx.heap.size wx, z.val.cell? ⟨b6, j * 3 + 1, none⟩ = some (.int .i64 (s5 : Int)) := fun z => (z.ext.cell (p := ⟨b6, j * 3 + 1, none⟩) hbx6).trans r2
  have t3 : ∀ z : LaterB wx.heap.size wx, z.val.cell? ⟨b6, i * 3 + 1, none⟩ = some (.int .i64 (s6 : Int)) := fun z => (z.ext.cell (p := ⟨b6, i * 3 + 1, none⟩) hbx6).trans r3
  refine plan_fin (l := ?laBYY) (t := ?tlBYY) ?hlaBYY ?htlBYY ?_
  case hlaBYY => simp only [pick, List.getElem?_toArray, List.getElem?_cons_succ, List.getElem?_cons_zero]; rfl
  case htlBYY => simp only [pick, List.getElem?_toArray, List.getElem?_cons_succ, List.getElem?_cons_zero]; rfl
  repeat (go_big_quiet_step (fail))
  refine wpQuiet_nil ?_
  clear t1 t2 t3 r1 r3
  have rf := HRX.out
  go_wp2_with (first | (rw [HW7.out]) | fail)
  clear rf r2
  have lnT : (((H2.out j).size j (s5 + s6))).blks.length = n5 := (List.length_set ..).trans HLN2.out
  refine (hdrop_any Z7.out.hm i (by rw [lnT]; omega) (by rw [lnT]; omega) (HDL2.out.trans lnT.symm)).mono ?_
  rintro e w8 ⟨rfl, ht⟩
  obtain ⟨F8, Vb8, Vd8, gl8, cs8, z8⟩ := Z7.out.step ht
  have eK : (((H2.out j).size j (s5 + s6))).drop i = (H2.out j).join j := by
    show _ = ((H2.out j).size j _).drop (j + 1)
    rw [← HZ.out, HS5.out, HS6.out]
  rw [eK] at z8
  have ok3 : ((H2.out j).join j).Ok := (Hp.Ok.out (i := j) HOK2.out).join (by rw [e6]; omega)
  have fw3 : ((H2.out j).join j).Few N := Hp.Few.out (i := j) HFW2.out
  have jb := (join_at (H2.out j) (i := j) (by rw [e6]; omega)).1
  have hg3 := giveC_join HPV.out
  rw [show i - 1 = j by omega] at hg3
  obtain ⟨H3, hH3⟩ : ∃ H3, (H2.out j).join j = H3 := ⟨_, rfl⟩
  rw [hH3] at z8 ok3 fw3 jb hg3
  have hgf := HGV2.out
  rw [hg3] at hgf
  have HGF := Lib.hid hgf
  have HOK3 := Lib.hid ok3
  have HFW3 := Lib.hid fw3
  have HJB := Lib.hid jb
  have Z8 := Lib.hid z8
  clear hgf hg3 ok3 fw3 jb z8 hH3 ht eK lnT e6 Z7 HW7 HWX HRX
  go_wp2_with fail
  refine (hin_any Z8.out.hm j HJB.out (HOK3.out.sz HJB.out) (fun d hd => Nat.le_trans (HFW3.out d hd) (by omega))).mono ?_
  rintro e w9 ⟨rfl, ht⟩
  have hto : HT F w p (H.give i) w9 := by
    rw [HGF.out]
    exact Z8.out.last ht
  have HTO := Lib.hid hto
  clear hto ht
  go_wp2
  go_end0
  exact ⟨rfl, HTO.out⟩

theorem hgive_any (h : Hm F w p H Vb Vd gl cs) (hok : H.Ok) (N : Nat) (hf : H.Few N) (hN : N ≤ 50000) (i : Nat) (hi : i < H.blks.length) :
    Calls Tryz.prog 61 #[.pointer (some ⟨p, 0, none⟩), .int .i64 (i : Int)] w fun e w' => e = .returned (.tuple #[]) ∧ HT F w p (H.give i) w' := by
  obtain ⟨j, hj⟩ : ∃ j, i = 0 ∨ i = j + 1 := ⟨i - 1, by omega⟩
  rcases Nat.lt_or_ge (i + 1) H.blks.length with hE | hE
  · cases hU : (bkAt H.blks (i + 1)).used
    · rcases hj with hZ | hZ
      · exact hgive_YZ h hok N hf hN i hi hE hU hZ
      · cases hP : (bkAt H.blks j).used
        · exact hgive_YY h hok N hf hN i hi hE hU j hZ hP
        · exact hgive_YU h hok N hf hN i hi hE hU j hZ hP
    · rcases hj with hZ | hZ
      · exact hgive_UZ h hok N hf hN i hi hE hU hZ
      · cases hP : (bkAt H.blks j).used
        · exact hgive_UY h hok N hf hN i hi hE hU j hZ hP
        · exact hgive_UU h hok N hf hN i hi hE hU j hZ hP
  · rcases hj with hZ | hZ
    · exact hgive_EZ h hok N hf hN i hi hE hZ
    · cases hP : (bkAt H.blks j).used
      · exact hgive_EY h hok N hf hN i hi hE j hZ hP
      · exact hgive_EU h hok N hf hN i hi hE j hZ hP
end
end Go.Proofs.YtdjjbmefaggelaaGreat

/- The contracts of the document's heap: cut, Give, Trim. -/
namespace Go.Proofs.YtdjjbmefaggelaaGreat
open Go.RowKit

section
variable {F : Nat → Prop} {w w' : World} {p gl : Nat} {H : Hp} {Vb Vd : Value} {cs : List Value}
set_option maxHeartbeats 2000000 in
theorem hcut_a (h : Hm F w p H Vb Vd gl cs) (hok : H.Ok) (i : Nat) (hi : i < H.blks.length) (s : Nat) (hs : s ≤ 16384) (hlt : (bkAt H.blks i).size < s + 32) :
    Calls Tryz.prog 37 #[.pointer (some ⟨p, 0, none⟩), .int .i64 (i : Int), .int .i64 (s : Int)] w fun e w' => e = .returned (.tuple #[]) ∧ HT F w p (H.cut i s) w' := by
  have hcut : H.cut i s = H.use i true := by unfold Hp.cut; rw [if_pos hlt]
  obtain ⟨b1, c1, rfl, hb1, hnc1, _⟩ := own_nn h.ob (by omega)
  have hn512 := hok.n
  have hsz := (isSz_iff _).1 (hok.sz hi)
  have d := h.at_n rfl hi
  have q1 := h.c1
  obtain ⟨xo, hxo⟩ : ∃ xo, (bkAt H.blks i).off = xo := ⟨_, rfl⟩
  obtain ⟨xs, hxs⟩ : ∃ xs, (bkAt H.blks i).size = xs := ⟨_, rfl⟩
  obtain ⟨xu, hxu⟩ : ∃ xu, (bkAt H.blks i).used = xu := ⟨_, rfl⟩
  rw [hxo, hxs, hxu] at d
  rw [hxs] at hsz hlt
  obtain ⟨d0, d1, d2⟩ := d
  obtain ⟨wa, hwa⟩ : ∃ wa, w.alloc (.cells #[.int .i64 (xo : Int), .int .i64 (xs : Int), .bool xu] 53) = wa := ⟨_, rfl⟩
  have hba : Below w.heap.size w wa := by rw [← hwa]; exact (Below.refl _ _).alloc (Nat.le_refl _) _
  obtain ⟨gx, hgx⟩ : ∃ gx, w.heap.size = gx := ⟨_, rfl⟩
  have hnx : wa.heap[gx]? = some (.cells #[.int .i64 (xo : Int), .int .i64 (xs : Int), .bool xu] 53 (0, 0)) := by rw [← hwa, ← hgx]; exact heap_alloc_new w _
  have za := (Hz.start h).below hba
  have z1 := za.set (a := ⟨b1, i * 3 + 2, none⟩) (u := .bool true) (h.fb b1 rfl) (za.hm.useM rfl hi true)
  obtain ⟨w1, hw1⟩ : ∃ w1, wa.setCell ⟨b1, i * 3 + 2, none⟩ (.bool true) = w1 := ⟨_, rfl⟩
  have qa := za.hm.c1
  have f1 := own_thaw za.hm.ob (i * 3 + 2)
  obtain ⟨_, qc⟩ : ∃ u, wa.cell? ⟨b1, i * 3 + 2, none⟩ = some u := ⟨_, (za.hm.at_n rfl hi).2.2⟩
  have hx1 : w1.cell? ⟨gx, 1, none⟩ = some (.int .i64 (xs : Int)) := by
    rw [← hw1]
    refine (World.cell?_of_block (w := wa) (Below.heap_setCell wa _ _ _ (by dsimp only; omega))).trans ?_
    exact (blk_cells hnx).1.2.1
  rw [hw1] at z1
  have HTO : Hid (HT F w p (H.cut i s) w1) := (show HT _ _ _ _ _ by rw [hcut]; exact z1.fin)
  have HWA := Lib.hid hwa
  have HW1 := Lib.hid hw1
  have HGX := Lib.hid hgx
  obtain ⟨n, hn⟩ : ∃ n, H.blks.length = n := ⟨_, rfl⟩
  rw [hn] at q1 qa hi
  have hin : (i : Int) < (n : Int) := by omega
  have hls : (xs : Int) - (s : Int) < 32 := by omega
  clear h hok hb1 hba hnx za z1 hwa hw1 hgx hxo hxs hxu hcut hlt hnc1 hn
  go_enter Tryz.func37, Tryz.ntmps37
  go_wp2_with (first | (rw [HWA.out, HGX.out]) | (rw [HW1.out]) | fail)
  refine bodyPost_ret (results_none rfl _ _ _) rfl ?_
  exact ⟨rfl, HTO.out⟩

set_option maxHeartbeats 2000000 in
theorem hcut_b (h : Hm F w p H Vb Vd gl cs) (hok : H.Ok) (N : Nat) (hf : H.Few N) (hN : N ≤ 50000) (i : Nat) (hi : i < H.blks.length) (s : Nat) (hs : isSz (s : Int) = true) (hle : s + 32 ≤ (bkAt H.blks i).size) :
    Calls Tryz.prog 37 #[.pointer (some ⟨p, 0, none⟩), .int .i64 (i : Int), .int .i64 (s : Int)] w fun e w' => e = .returned (.tuple #[]) ∧ HT F w p (H.cut i s) w' := by
  have hcut : H.cut i s = (((H.use i true).size i s).put (i + 1) ⟨(bkAt H.blks i).off + s, (bkAt H.blks i).size - s, true⟩).give (i + 1) := by unfold Hp.cut; rw [if_neg (by omega)]
  have hok2 := hok.cut hi hs hle
  have hln2 := cut_len (s := s) H hi ⟨(bkAt H.blks i).off + s, (bkAt H.blks i).size - s, true⟩
  obtain ⟨b1, c1, rfl, hb1, hnc1, _⟩ := own_nn h.ob (by omega)
  have hn512 := hok.n
  have hsz := (isSz_iff _).1 (hok.sz hi)
  have hss := (isSz_iff _).1 hs
  have hoff := (tile_mem _ _ _ (hok.at_ hi).1).1
  have hlen := (tile_mem _ _ _ (hok.at_ hi).2.2).1
  have hle3 := hok.le
  have d := h.at_n rfl hi
  have q1 := h.c1
  obtain ⟨xo, hxo⟩ : ∃ xo, (bkAt H.blks i).off = xo := ⟨_, rfl⟩
  obtain ⟨xs, hxs⟩ : ∃ xs, (bkAt H.blks i).size = xs := ⟨_, rfl⟩
  obtain ⟨xu, hxu⟩ : ∃ xu, (bkAt H.blks i).used = xu := ⟨_, rfl⟩
  rw [hxo, hxs, hxu] at d
  rw [hxs] at hsz hle
  rw [hxo, hxs] at hcut hok2 hln2 hlen
  rw [hxo] at hoff
  obtain ⟨d0, d1, d2⟩ := d
  obtain ⟨wa, hwa⟩ : ∃ wa, w.alloc (.cells #[.int .i64 (xo : Int), .int .i64 (xs : Int), .bool xu] 53) = wa := ⟨_, rfl⟩
  have hba : Below w.heap.size w wa := by rw [← hwa]; exact (Below.refl _ _).alloc (Nat.le_refl _) _
  obtain ⟨gx, hgx⟩ : ∃ gx, w.heap.size = gx := ⟨_, rfl⟩
  have hnx : wa.heap[gx]? = some (.cells #[.int .i64 (xo : Int), .int .i64 (xs : Int), .bool xu] 53 (0, 0)) := by rw [← hwa, ← hgx]; exact heap_alloc_new w _
  have za := (Hz.start h).below hba
  have z1 := za.set (a := ⟨b1, i * 3 + 2, none⟩) (u := .bool true) (h.fb b1 rfl) (za.hm.useM rfl hi true)
  have lnu : (H.use i true).blks.length = H.blks.length := List.length_set ..
  have z2 := z1.set (a := ⟨b1, i * 3 + 1, none⟩) (u := .int .i64 (s : Int)) (h.fb b1 rfl) (z1.hm.sizeM (by rw [lnu]) (by rw [lnu]; exact hi) s)
  obtain ⟨w1, hw1⟩ : ∃ w1, wa.setCell ⟨b1, i * 3 + 2, none⟩ (.bool true) = w1 := ⟨_, rfl⟩
  rw [hw1] at z1 z2
  obtain ⟨w2, hw2⟩ : ∃ w2, w1.setCell ⟨b1, i * 3 + 1, none⟩ (.int .i64 (s : Int)) = w2 := ⟨_, rfl⟩
  rw [hw2] at z2
  have qa := za.hm.c1
  have f1 := own_thaw za.hm.ob (i * 3 + 2)
  obtain ⟨_, qc⟩ : ∃ u, wa.cell? ⟨b1, i * 3 + 2, none⟩ = some u := ⟨_, (za.hm.at_n rfl hi).2.2⟩
  have qb := z1.hm.c1
  have f2 := own_thaw z1.hm.ob (i * 3 + 1)
  obtain ⟨_, qd⟩ : ∃ u, w1.cell? ⟨b1, i * 3 + 1, none⟩ = some u := ⟨_, (own_at (n := H.blks.length) (by have e := z1.hm.ob; rw [lnu] at e; exact e) (bkAt_get (l := (H.use i true).blks) (by rw [lnu]; exact hi))).1.2.1⟩
  have k1 : ∀ j, w1.cell? ⟨gx, j, none⟩ = wa.cell? ⟨gx, j, none⟩ := fun j => by rw [← hw1]; exact World.cell?_of_block (w := wa) (Below.heap_setCell wa _ _ _ (by dsimp only; omega))
  have k2 : ∀ j, w2.cell? ⟨gx, j, none⟩ = wa.cell? ⟨gx, j, none⟩ := fun j => by rw [← k1, ← hw2]; exact World.cell?_of_block (w := w1) (Below.heap_setCell w1 _ _ _ (by dsimp only; omega))
  have hx1 : w1.cell? ⟨gx, 1, none⟩ = some (.int .i64 (xs : Int)) := (k1 1).trans (blk_cells hnx).1.2.1
  have hx2 : w2.cell? ⟨gx, 0, none⟩ = some (.int .i64 (xo : Int)) := (k2 0).trans (blk_cells hnx).1.1
  have hx3 : w2.cell? ⟨gx, 1, none⟩ = some (.int .i64 (xs : Int)) := (k2 1).trans (blk_cells hnx).1.2.1
  have HCUT := Lib.hid hcut
  have HOK2 := Lib.hid hok2
  have HLN2 := Lib.hid hln2
  have HF := Lib.hid hf
  have HWA := Lib.hid hwa
  have HW1 := Lib.hid hw1
  have HW2 := Lib.hid hw2
  have HGX := Lib.hid hgx
  have Z2 := Lib.hid z2
  have HDL : Hid (H.ds.length = H.blks.length) := hok.dl
  have HLU : Hid (((H.use i true).size i s).blks.length = H.blks.length) := (show _ = _ from (List.length_set ..).trans lnu)
  obtain ⟨n, hn⟩ : ∃ n, H.blks.length = n := ⟨_, rfl⟩
  rw [hn] at q1 qa hi HLN2 HDL HLU hn512
  rw [hn] at qb
  have hin : (i : Int) < (n : Int) := by omega
  have hls : 32 ≤ (xs : Int) - (s : Int) := by omega
  have e1 : (xo : Int) + (s : Int) = ((xo + s : Nat) : Int) := by omega
  have e2 : (xs : Int) - (s : Int) = ((xs - s : Nat) : Int) := by omega
  obtain ⟨k, hk⟩ : ∃ k : Nat, (i : Int) + 1 = (k : Int) := ⟨i + 1, by omega⟩
  have HK : Hid (k = i + 1) := (show _ = _ by omega)
  have HE1 := Lib.hid e1
  have HE2 := Lib.hid e2
  clear h hok hb1 hba hnx za z1 z2 hwa hw1 hw2 hgx hxo hxs hxu hcut hnc1 hn lnu hok2 hln2 hf hs k1 k2 e1 e2
  go_enter Tryz.func37, Tryz.ntmps37
  go_wp2_with (first | (rw [HWA.out, HGX.out]) | (rw [HW1.out]) | (rw [HW2.out]) | fail)
  rw [HE1.out, HE2.out]
  refine (hput_any Z2.out.hm k (by rw [HLU.out]; omega) (by rw [HLU.out]; omega) (HDL.out.trans HLU.out.symm) ⟨xo + s, xs - s, true⟩).mono ?_
  rintro e w3 ⟨rfl, ht⟩
  obtain ⟨F3, Vb3, Vd3, gl3, cs3, z3⟩ := Z2.out.step ht
  have hcut := HCUT.out
  have hok2 := HOK2.out
  have hln2 := HLN2.out
  rw [← HK.out] at hcut hok2 hln2
  have HCUT2 := Lib.hid hcut
  have HOK3 := Lib.hid hok2
  have HLN3 := Lib.hid hln2
  have Z3 := Lib.hid z3
  clear z3 hcut hok2 hln2 ht q1 qa qb f1 f2 hx1 hx2 hx3 d0 d1 d2
  go_wp2_with fail
  refine (hgive_any Z3.out.hm HOK3.out N HF.out hN k (by rw [HLN3.out]; omega)).mono ?_
  rintro e w4 ⟨rfl, ht⟩
  have hto : HT F w p (H.cut i s) w4 := by
    rw [HCUT2.out]
    exact Z3.out.last ht
  have HTO := Lib.hid hto
  clear hto ht
  go_wp2
  go_end0
  exact ⟨rfl, HTO.out⟩
theorem hcut_any (h : Hm F w p H Vb Vd gl cs) (hok : H.Ok) (N : Nat) (hf : H.Few N) (hN : N ≤ 50000) (i : Nat) (hi : i < H.blks.length) (s : Nat) (hs : isSz (s : Int) = true) :
    Calls Tryz.prog 37 #[.pointer (some ⟨p, 0, none⟩), .int .i64 (i : Int), .int .i64 (s : Int)] w fun e w' => e = .returned (.tuple #[]) ∧ HT F w p (H.cut i s) w' := by
  rcases Nat.lt_or_ge (bkAt H.blks i).size (s + 32) with hlt | hle
  · exact hcut_a h hok i hi s (by have := (isSz_iff _).1 hs; omega) hlt
  · exact hcut_b h hok N hf hN i hi s hs hle

/-- Is what stands at o a used block? -/
theorem usedB_at {l : List Bk} {o : Int} {i : Nat} (h : usedB l o = some i) : i < l.length ∧ ((bkAt l i).off : Int) = o ∧ (bkAt l i).used = true := by
  unfold usedB at h
  split at h
  · cases h
  · rename_i j hj
    split at h
    · injection h with h
      subst h
      exact ⟨(atB_at hj).1, (atB_at hj).2, by assumption⟩
    · cases h
def badV (x : Option Hp) : Int := if x.isSome then 0 else 3
set_option maxHeartbeats 1000000 in
theorem hGive_any (h : Hm F w p H Vb Vd gl cs) (hok : H.Ok) (N : Nat) (hf : H.Few N) (hN : N ≤ 50000) (o : Int) (ho : -9223372036854775808 ≤ o ∧ o ≤ 9223372036854775807) :
    Calls Tryz.prog 28 #[.pointer (some ⟨p, 0, none⟩), .int .i64 o] w fun e w' => e = .returned (.int .i64 (badV (H.giveO o))) ∧ HT F w p ((H.giveO o).getD H) w' := by
  have hn512 := hok.n
  cases hu : usedB H.blks o with
  | none =>
    have e : H.giveO o = none := by unfold Hp.giveO; rw [hu]; rfl
    have HU := Lib.hid (husd_any h (by omega) o ho _ hu)
    have HE := Lib.hid e
    have HT0 : Hid (HT F w p H w) := HT.refl ⟨_, _, _, _, h⟩
    clear h hok hf hu e
    go_enter Tryz.func28, Tryz.ntmps28
    go_wp2_with fail
    refine HU.out.mono ?_
    rintro e w2 ⟨rfl, rfl⟩
    go_wp2
    go_ret
    exact ⟨rt_i (by rw [HE.out]; rfl), by rw [HE.out]; exact HT0.out⟩
  | some i =>
    have e : H.giveO o = some (H.give i) := by unfold Hp.giveO; rw [hu]; rfl
    have hi := (usedB_at hu).1
    have HU := Lib.hid (husd_any h (by omega) o ho _ hu)
    have HE := Lib.hid e
    have HG := Lib.hid (hgive_any h hok N hf hN i hi)
    have hi2 : i ≤ 512 := by omega
    clear h hok hf hu e hi hn512
    go_enter Tryz.func28, Tryz.ntmps28
    go_wp2_with fail
    refine HU.out.mono ?_
    rintro e w2 ⟨rfl, rfl⟩
    dsimp only [ixV]
    go_wp2_with fail
    refine HG.out.mono ?_
    rintro e w3 ⟨rfl, ht⟩
    have HTO := Lib.hid ht
    clear ht HU HG
    go_wp2
    go_ret
    exact ⟨rt_i (by rw [HE.out]; rfl), by rw [HE.out]; exact HTO.out⟩

set_option maxHeartbeats 1000000 in
theorem hTrim_any (h : Hm F w p H Vb Vd gl cs) (hok : H.Ok) (N : Nat) (hf : H.Few N) (hN : N ≤ 50000) (o : Int) (ho : -9223372036854775808 ≤ o ∧ o ≤ 9223372036854775807) (s : Nat) (hs : isSz (s : Int) = true) :
    Calls Tryz.prog 30 #[.pointer (some ⟨p, 0, none⟩), .int .i64 o, .int .i64 (s : Int)] w fun e w' => e = .returned (.int .i64 (badV (H.trimO o s))) ∧ HT F w p ((H.trimO o s).getD H) w' := by
  have hn512 := hok.n
  have hss := (isSz_iff _).1 hs
  cases hu : usedB H.blks o with
  | none =>
    have e : H.trimO o s = none := by unfold Hp.trimO; rw [hu]
    have HU := Lib.hid (husd_any h (by omega) o ho _ hu)
    have HE := Lib.hid e
    have HT0 : Hid (HT F w p H w) := HT.refl ⟨_, _, _, _, h⟩
    clear h hok hf hu e
    go_enter Tryz.func30, Tryz.ntmps30
    go_wp2_with fail
    refine HU.out.mono ?_
    rintro e w2 ⟨rfl, rfl⟩
    go_wp2
    go_ret
    exact ⟨rt_i (by rw [HE.out]; rfl), by rw [HE.out]; exact HT0.out⟩
  | some i =>
    have hi := (usedB_at hu).1
    have hsz := (isSz_iff _).1 (hok.sz hi)
    have HU := Lib.hid (husd_any h (by omega) o ho _ hu)
    have HC := Lib.hid (hcut_any h hok N hf hN i hi s hs)
    have HT0 : Hid (HT F w p H w) := HT.refl ⟨_, _, _, _, h⟩
    obtain ⟨b1, c1, rfl, hb1, hnc1, _⟩ := own_nn h.ob (by omega)
    have q1 := h.c1
    have d1 := (h.at_n rfl hi).2.1
    have hi2 : i ≤ 512 := by omega
    by_cases hlt : (bkAt H.blks i).size < s
    · have e : H.trimO o s = none := by unfold Hp.trimO; rw [hu]; dsimp only; rw [if_pos hlt]
      obtain ⟨xs, hxs⟩ : ∃ xs, (bkAt H.blks i).size = xs := ⟨_, rfl⟩
      rw [hxs] at d1 hlt hsz
      obtain ⟨n, hn⟩ : ∃ n, H.blks.length = n := ⟨_, rfl⟩
      rw [hn] at q1 hi
      have hin : (i : Int) < (n : Int) := by omega
      have hlt2 : (xs : Int) < (s : Int) := by omega
      have HE := Lib.hid e
      clear h hok hf hu e hn512 hb1 hnc1 hxs hn HC hs
      go_enter Tryz.func30, Tryz.ntmps30
      go_wp2_with fail
      refine HU.out.mono ?_
      rintro e w2 ⟨rfl, rfl⟩
      dsimp only [ixV]
      go_wp2
      go_ret
      exact ⟨rt_i (by rw [HE.out]; rfl), by rw [HE.out]; exact HT0.out⟩
    · have e : H.trimO o s = some (H.cut i s) := by unfold Hp.trimO; rw [hu]; dsimp only; rw [if_neg hlt]
      obtain ⟨xs, hxs⟩ : ∃ xs, (bkAt H.blks i).size = xs := ⟨_, rfl⟩
      rw [hxs] at d1 hlt hsz
      obtain ⟨n, hn⟩ : ∃ n, H.blks.length = n := ⟨_, rfl⟩
      rw [hn] at q1 hi
      have hin : (i : Int) < (n : Int) := by omega
      have hlt2 : (s : Int) ≤ (xs : Int) := by omega
      have HE := Lib.hid e
      clear h hok hf hu e hn512 hb1 hnc1 hxs hn HT0 hs
      go_enter Tryz.func30, Tryz.ntmps30
      go_wp2_with fail
      refine HU.out.mono ?_
      rintro e w2 ⟨rfl, rfl⟩
      dsimp only [ixV]
      go_wp2_with fail
      refine HC.out.mono ?_
      rintro e w3 ⟨rfl, ht⟩
      have HTO := Lib.hid ht
      clear ht HU HC q1 d1
      go_wp2
      go_ret
      exact ⟨rt_i (by rw [HE.out]; rfl), by rw [HE.out]; exact HTO.out⟩
end
end Go.Proofs.YtdjjbmefaggelaaGreat

/- The contracts of the document's heap: New, Find. -/
namespace Go.Proofs.YtdjjbmefaggelaaGreat
open Go.RowKit

set_option maxHeartbeats 1000000 in
theorem hNew_any (w : World) (cap : Nat) :
    Calls Tryz.prog 8 #[.int .i64 (cap : Int)] w fun e w' => ∃ p, e = .returned (.pointer (some ⟨p, 0, none⟩)) ∧ HM (fun k => w.heap.size ≤ k) w' p ⟨cap, [], [], fun _ => []⟩ ∧ Below w.heap.size w w' := by
  obtain ⟨c22, h22⟩ : ∃ c22 : List Value, List.replicate 22 (Value.slice none 0 0) = c22 := ⟨_, rfl⟩
  obtain ⟨wg, hwg⟩ : ∃ wg, w.alloc (.cells c22.toArray 73) = wg := ⟨_, rfl⟩
  obtain ⟨wo, hwo⟩ : ∃ wo, wg.alloc (.cells #[.int .i64 (cap : Int), .slice none 0 0, .slice none 0 0, .slice (some ⟨w.heap.size, 0, none⟩) 22 22] 69) = wo := ⟨_, rfl⟩
  have b1 : Below w.heap.size w wg := by rw [← hwg]; exact (Below.refl _ _).alloc (Nat.le_refl _) _
  have b2 : Below wg.heap.size wg wo := by rw [← hwo]; exact (Below.refl _ _).alloc (Nat.le_refl _) _
  have n1 : wg.heap[w.heap.size]? = some (.cells c22.toArray 73 (0, 0)) := by rw [← hwg]; exact heap_alloc_new w _
  have n2 : wo.heap[wg.heap.size]? = some (.cells #[.int .i64 (cap : Int), .slice none 0 0, .slice none 0 0, .slice (some ⟨w.heap.size, 0, none⟩) 22 22] 69 (0, 0)) := by rw [← hwo]; exact heap_alloc_new wg _
  have hm : HM (fun k => w.heap.size ≤ k) wo wg.heap.size ⟨cap, [], [], fun _ => []⟩ := by
    refine ⟨.slice none 0 0, .slice none 0 0, w.heap.size, c22, n2, World.ownsRow_nil _ _ _ _, World.ownsRow_nil _ _ _ _, (b2.block _ (heap_lt n1)).trans n1, by rw [← h22]; exact List.length_replicate, fun d hd => ⟨.slice none 0 0, ?_, World.ownsRow_nil _ _ _ _⟩, b1.size, Nat.le_refl _, fun k e => (by cases e), fun k e => (by cases e), fun d v k hd hv e => ?_, fun d hd => (by cases hd)⟩
    · rw [← h22, List.getElem?_replicate, if_pos hd]
    · rw [← h22, List.getElem?_replicate, if_pos hd] at hv
      injection hv with hv
      subst hv
      cases e
  have HM0 := Lib.hid hm
  have HB0 := Lib.hid (b1.trans (b2.mono b1.size))
  have HMS : ∀ W : World, (Instr.makeSlice 66 (.int .i64 22) (.int .i64 22)).run Tryz.prog W = .ok (.slice (some ⟨W.heap.size, 0, none⟩) 22 22) (W.alloc (.cells c22.toArray 73)) := fun W => by rw [← h22]; exact mk_sls W
  have HWG := Lib.hid hwg
  have HWO := Lib.hid hwo
  have HGI : Hid (wg.heap.size = w.heap.size + 1) := (show _ = _ by rw [← hwg]; simp)
  clear h22 hwg hwo b1 b2 n1 n2 hm
  go_enter Tryz.func8, Tryz.ntmps8
  go_wp2_with (first | (rw [HWG.out]) | (rw [HWO.out]) | fail)
  go_ret
  exact ⟨wg.heap.size, by first | rfl | rw [HGI.out], HM0.out, HB0.out⟩

theorem findL_drop {l : List Bk} {s : Nat} {LL : List Nat} {j y i : Nat} (hy : LL[j]? = some y) (ha : atB (y : Int) l = some i) : findL l s (LL.drop j) = if s ≤ (bkAt l i).size then some i else findL l s (LL.drop (j + 1)) := by
  have hj : j < LL.length := lst_lt hy
  have e : LL[j] = y := by rw [List.getElem?_eq_getElem hj] at hy; injection hy
  rw [List.drop_eq_getElem_cons hj, e]
  rw [findL, ha]
section
variable {F : Nat → Prop} {w w' : World} {p gl : Nat} {H : Hp} {Vb Vd : Value} {cs : List Value}
set_option maxHeartbeats 2000000 in
theorem hfind_any (h : Hm F w p H Vb Vd gl cs) (hok : H.Ok) (N : Nat) (hf : H.Few N) (hN : N ≤ 50000) (hL : H.Listed) (s : Nat) (hs : isSz (s : Int) = true) (x : Option Nat) (hx : H.find s = x) :
    Calls Tryz.prog 64 #[.pointer (some ⟨p, 0, none⟩), .int .i64 (s : Int)] w fun e w' => e = .returned (.int .i64 (ixV x)) ∧ w = w' := by
  obtain ⟨cl, hcl, hcl22⟩ : ∃ c : Nat, classI (s : Int) = (c : Int) ∧ c < 22 := class_nat (x := ⟨0, s, false⟩) hs
  have hss := (isSz_iff _).1 hs
  have hn512 := hok.n
  have hx' : H.findC s (22 - cl) cl = x := by rw [← hx]; unfold Hp.find; rw [hcl]; rfl
  have HC := Lib.hid (fun W => rclass_any W (s : Int) (by omega) (cl : Int) hcl)
  have HX := Lib.hid hx'
  have HH := Lib.hid h
  have HF := Lib.hid hf
  have HLI := Lib.hid hL
  have HOK := Lib.hid hok
  have c1 := h.c1
  have c3 := h.c3
  have HAT : Hid (∀ (y : Nat) (i : Nat), y ≤ 100000 → atB (y : Int) H.blks = some i → Calls Tryz.prog 41 #[.pointer (some ⟨p, 0, none⟩), .int .i64 (y : Int)] w fun e w' => e = .returned (.int .i64 (ixV (some i))) ∧ w = w') := fun y i hy ha => hat_any h (by omega) (y : Int) (by omega) _ ha
  clear h hf hL hok hx hx' hcl hs
  go_enter Tryz.func64, Tryz.ntmps64
  go_wp2_with fail
  refine (HC.out _).mono ?_
  rintro e w1 ⟨rfl, rfl⟩
  clear HC
  go_wp2
  go_loopw [5] (fun t wr => ∃ d k : Nat, t = .int .i64 (d : Int) ∧ d + k = 22 ∧ x = H.findC s k d ∧ w = wr) (fun t _ => 22 - (intOf t).toNat)
  case atStart => exact ⟨cl, 22 - cl, rfl, by omega, HX.out.symm, rfl⟩
  case round =>
    obtain ⟨d, k, rfl, hdk, hxf, rfl⟩ := hrel
    by_cases hd22 : d < 22
    · obtain ⟨k, rfl⟩ : ∃ k', k = k' + 1 := ⟨k - 1, by omega⟩
      obtain ⟨A, cc, hcell, hlo⟩ := HH.out.lcell hd22
      have hrw := (own_rw hlo).1
      have hfew := HF.out d hd22
      have hlst := HLI.out d hd22
      have hxf' : x = (match findL H.blks s (H.lists d) with
        | some i => some i
        | none => H.findC s k (d + 1)) := hxf
      obtain ⟨LL, hLL⟩ : ∃ LL, H.lists d = LL := ⟨_, rfl⟩
      rw [hLL] at hcell hrw hfew hlst hxf'
      obtain ⟨M, hM⟩ : ∃ M, LL.length = M := ⟨_, rfl⟩
      rw [hM] at hcell hfew
      have HM := Lib.hid hM
      have HXF := Lib.hid hxf'
      have HRW := Lib.hid hrw
      have HLS := Lib.hid hlst
      have hdi : (d : Int) < 22 := by omega
      clear hLL hM hxf hxf' hrw hlst hlo HX HF HLI
      go_wp2
      go_loopw [6] (fun i wr => ∃ j : Nat, j ≤ M ∧ i = .int .i64 (j : Int) ∧ findL H.blks s LL = findL H.blks s (LL.drop j) ∧ w = wr) (fun i _ => M - (intOf i).toNat)
      case atStart => exact ⟨0, Nat.zero_le _, rfl, rfl, rfl⟩
      case round =>
        obtain ⟨j, hj, rfl, hall, rfl⟩ := hrel
        by_cases hlt : j < M
        · obtain ⟨y, hy⟩ : ∃ y, LL[j]? = some y := ⟨LL[j]'(by rw [HM.out]; exact hlt), List.getElem?_eq_getElem _⟩
          obtain ⟨i, hi⟩ := HLS.out y (List.mem_of_getElem? hy)
          obtain ⟨bd, od, rfl, hbd, _, hcd⟩ := HRW.out (by rw [HM.out]; omega)
          have hyc := hcd j y hy
          obtain ⟨hib, hoff⟩ := atB_at hi
          have hst := findL_drop (s := s) hy hi
          have hsz := (isSz_iff _).1 (HOK.out.sz hib)
          have hy5 : y ≤ 100000 := by
            have h1 := (tile_mem _ _ _ (HOK.out.at_ hib).2.2).1
            have h2 := HOK.out.le
            omega
          have HA := Lib.hid (HAT.out y i hy5 hi)
          have hji : (j : Int) < (M : Int) := by omega
          have hi512 : i < 512 := by omega
          have HST : Hid (findL H.blks s LL = if s ≤ (bkAt H.blks i).size then some i else findL H.blks s (LL.drop (j + 1))) := (show _ = _ by rw [hall, hst])
          obtain ⟨b1, cb, rfl, _, hnb, _⟩ := own_nn HH.out.ob (by omega)
          have d1 := (HH.out.at_n rfl hib).2.1
          obtain ⟨n, hn⟩ : ∃ n, H.blks.length = n := ⟨_, rfl⟩
          rw [hn] at c1 hib hnb
          obtain ⟨xs, hxs⟩ : ∃ xs, (bkAt H.blks i).size = xs := ⟨_, rfl⟩
          rw [hxs] at d1 hsz HST
          have hin : (i : Int) < (n : Int) := by omega
          clear hi hy hoff hst hn hxs hbd hcd HAT HLS HOK HRW HH hall
          by_cases hge : s ≤ xs
          · have hx1 : x = some i := by rw [HXF.out, HST.out, if_pos hge]
            subst hx1
            have hge2 : (s : Int) ≤ (xs : Int) := by omega
            clear HXF HST
            go_wp2_with fail
            refine HA.out.mono ?_
            rintro e w2 ⟨rfl, rfl⟩
            clear HA
            dsimp only [ixV]
            go_wp2
            go_ret
            exact ⟨rfl, rfl⟩
          · have hge2 : (xs : Int) < (s : Int) := by omega
            have hst2 : findL H.blks s LL = findL H.blks s (LL.drop (j + 1)) := by rw [HST.out, if_neg hge]
            have HST2 := Lib.hid hst2
            clear hst2 HST
            go_wp2_with fail
            refine HA.out.mono ?_
            rintro e w2 ⟨rfl, rfl⟩
            clear HA
            dsimp only [ixV]
            go_wp2
            go_roundw
            case rel => exact ⟨j + 1, by omega, by go_num, HST2.out, trivial⟩
            case measure => simp only [intOf]; omega
        · obtain rfl : M = j := by omega
          have hx2 : x = H.findC s k (d + 1) := by
            rw [HXF.out, hall, List.drop_of_length_le (by rw [HM.out]; exact Nat.le_refl _)]
            rfl
          have HX2 := Lib.hid hx2
          clear hx2 hall HXF HRW HLS
          go_wp2
          go_roundw
          case rel => exact ⟨d + 1, k, by go_num, by omega, HX2.out, trivial⟩
          case measure => simp only [intOf]; omega
    · obtain ⟨rfl, rfl⟩ : d = 22 ∧ k = 0 := by omega
      obtain rfl : x = none := by rw [hxf]; rfl
      clear hxf HX HH HF HLI HAT HOK
      go_wp2
      go_ret
      exact ⟨rfl, rfl⟩
end
end Go.Proofs.YtdjjbmefaggelaaGreat

/- The contract of the document's heap: Take. -/
namespace Go.Proofs.YtdjjbmefaggelaaGreat
open Go.RowKit

def badT (x : Option Nat) : Int := if x.isSome then 0 else 5
theorem take_found {H : Hp} {s i : Nat} (h : H.find s = some i) : H.take s = (some (bkAt H.blks i).off, (H.out i).cut i s) := by
  unfold Hp.take
  rw [h]
theorem take_not {H : Hp} {s : Nat} (h : H.find s = none) : H.take s = if H.cap < lenB H.blks + s - tailF H.blks then (none, H)
    else if 0 < tailF H.blks then (some (bkAt H.blks (H.blks.length - 1)).off, ((H.out (H.blks.length - 1)).size (H.blks.length - 1) s).use (H.blks.length - 1) true)
    else (some (lenB H.blks), H.put H.blks.length ⟨lenB H.blks, s, true⟩) := by
  unfold Hp.take
  rw [h]
theorem tail_zero {l : List Bk} (h : l.length = 0) : tailF l = 0 := by unfold tailF; rw [if_pos h]
theorem tail_used {l : List Bk} {k : Nat} (h : l.length = k + 1) (hu : (bkAt l k).used = true) : tailF l = 0 := by unfold tailF; rw [if_neg (by omega), show l.length - 1 = k by omega, if_pos hu]
theorem tail_free {l : List Bk} {k : Nat} (h : l.length = k + 1) (hu : (bkAt l k).used = false) : tailF l = (bkAt l k).size := by unfold tailF; rw [if_neg (by omega), show l.length - 1 = k by omega, if_neg (by rw [hu]; decide)]
section
variable {F : Nat → Prop} {w w' : World} {p gl : Nat} {H : Hp} {Vb Vd : Value} {cs : List Value}
theorem find_listed {H : Hp} {s : Nat} : ∀ {i : Nat}, H.find s = some i → i < H.blks.length ∧ s ≤ (bkAt H.blks i).size := by
  have one : ∀ (LL : List Nat) (i : Nat), findL H.blks s LL = some i → i < H.blks.length ∧ s ≤ (bkAt H.blks i).size := by
    intro LL
    induction LL with
    | nil => intro i h; cases h
    | cons o r ih =>
      intro i h
      unfold findL at h
      split at h
      · cases h
      · rename_i j hj
        split at h
        · rename_i hs
          injection h with h
          subst h
          exact ⟨(atB_at hj).1, hs⟩
        · exact ih i h
  have go : ∀ (k c i : Nat), H.findC s k c = some i → i < H.blks.length ∧ s ≤ (bkAt H.blks i).size := by
    intro k
    induction k with
    | zero => intro c i h; cases h
    | succ k ih =>
      intro c i h
      unfold Hp.findC at h
      split at h
      · rename_i j hj
        injection h with h
        subst h
        exact one _ _ hj
      · exact ih _ _ h
  intro i h
  exact go _ _ _ h
set_option maxHeartbeats 2000000 in
theorem htake_f (h : Hm F w p H Vb Vd gl cs) (hok : H.Ok) (N : Nat) (hf : H.Few N) (hN : N ≤ 50000) (hL : H.Listed) (s : Nat) (hs : isSz (s : Int) = true) (i : Nat) (hx : H.find s = some i) :
    Calls Tryz.prog 33 #[.pointer (some ⟨p, 0, none⟩), .int .i64 (s : Int)] w fun e w' => e = .returned (.tuple #[.int .i64 (((H.take s).1.getD 0 : Nat) : Int), .int .i64 (badT (H.take s).1)]) ∧ HT F w p (H.take s).2 w' := by
  obtain ⟨hi, hle⟩ := find_listed hx
  have htk := take_found hx
  have hn512 := hok.n
  have HFI := Lib.hid (hfind_any h hok N hf hN hL s hs _ hx)
  have HOUT := Lib.hid (hout_any h i hi (hok.sz hi) (fun d hd => Nat.le_trans (hf d hd) (by omega)))
  have HH := Lib.hid h
  have HOK := Lib.hid (Hp.Ok.out (i := i) hok)
  have HFW := Lib.hid (Hp.Few.out (i := i) hf)
  have HTK := Lib.hid htk
  have HS := Lib.hid hs
  have hi2 : i < 512 := by omega
  have HI := Lib.hid hi
  clear h hok hf hL hs hx htk hle hi hn512
  go_enter Tryz.func33, Tryz.ntmps33
  go_wp2_with fail
  refine HFI.out.mono ?_
  rintro e w2 ⟨rfl, rfl⟩
  dsimp only [ixV]
  go_wp2_with fail
  refine HOUT.out.mono ?_
  rintro e w3 ⟨rfl, ht⟩
  obtain ⟨F3, Vb3, Vd3, gl3, cs3, z3⟩ := (Hz.start HH.out).step ht
  obtain ⟨b3, c3, rfl, hb3, hnc3, _⟩ := own_nn z3.hm.ob (by show 0 < H.blks.length; have := HI.out; omega)
  have q1 := z3.hm.c1
  have d0 := (z3.hm.at_n (show (H.out i).blks.length = H.blks.length from rfl) HI.out).1
  have e0 : (bkAt (H.out i).blks i).off = (bkAt H.blks i).off := rfl
  rw [e0] at d0
  have e1 : (H.out i).blks.length = H.blks.length := rfl
  rw [e1] at q1
  have HC := Lib.hid (hcut_any z3.hm HOK.out N HFW.out hN i HI.out s HS.out)
  have Z3 := Lib.hid z3
  obtain ⟨xo, hxo⟩ : ∃ xo, (bkAt H.blks i).off = xo := ⟨_, rfl⟩
  rw [hxo] at d0
  have HXO := Lib.hid hxo
  obtain ⟨n, hn⟩ : ∃ n, H.blks.length = n := ⟨_, rfl⟩
  rw [hn] at q1
  have hin : (i : Int) < (n : Int) := by have := HI.out; omega
  clear z3 ht hb3 hnc3 hxo hn e0 e1 HFI HOUT HH HOK HFW HS
  go_wp2_with fail
  refine HC.out.mono ?_
  rintro e w4 ⟨rfl, ht⟩
  have hto : HT F w p (H.take s).2 w4 := by
    rw [HTK.out]
    exact Z3.out.last ht
  have HTO := Lib.hid hto
  clear hto ht HC q1 d0
  go_wp2
  go_ret2
  exact ⟨by rw [HTK.out, HXO.out]; rfl, HTO.out⟩

set_option maxHeartbeats 2000000 in
theorem htake_ZN (h : Hm F w p H Vb Vd gl cs) (hok : H.Ok) (N : Nat) (hf : H.Few N) (hN : N ≤ 50000) (hL : H.Listed) (s : Nat) (hs : isSz (s : Int) = true) (hcap : H.cap ≤ 100000) (hx : H.find s = none) (hz : H.blks.length = 0) (hr : H.cap < lenB H.blks + s - tailF H.blks) :
    Calls Tryz.prog 33 #[.pointer (some ⟨p, 0, none⟩), .int .i64 (s : Int)] w fun e w' => e = .returned (.tuple #[.int .i64 (((H.take s).1.getD 0 : Nat) : Int), .int .i64 (badT (H.take s).1)]) ∧ HT F w p (H.take s).2 w' := by
  have htk := take_not hx
  have hn512 := hok.n
  have hle := hok.le
  have hss := (isSz_iff _).1 hs
  obtain ⟨A1, c1, rfl⟩ := own_sl h.ob
  have htf : tailF H.blks = 0 := tail_zero hz
  rw [if_pos hr] at htk
  rw [htf] at hr
  obtain ⟨wd, hwd⟩ : ∃ wd, w.drew = wd := ⟨_, rfl⟩
  have hbd : Below w.heap.size w wd := by rw [← hwd]; exact (Below.refl _ _).drew
  have hd := h.below hbd
  have HFI := Lib.hid (hfind_any h hok N hf hN hL s hs _ hx)
  have HLEN := Lib.hid (hlen_any hd (by omega) (by omega))
  have q1 := h.c1
  have r0 := hd.c0
  have hpd := hd.lt
  have HH := Lib.hid h
  have HD := Lib.hid hd
  have HBD := Lib.hid hbd
  have HWD := Lib.hid hwd
  have HTK := Lib.hid htk
  obtain ⟨ll, hll⟩ : ∃ ll, lenB H.blks = ll := ⟨_, rfl⟩
  rw [hll] at HLEN hr hle 
  obtain ⟨cap, hcp⟩ : ∃ cap, H.cap = cap := ⟨_, rfl⟩
  rw [hcp] at r0 hr hcap
  obtain ⟨n, hn⟩ : ∃ n, H.blks.length = n := ⟨_, rfl⟩
  rw [hn] at q1 hz hn512 
  have hz2 : (n : Int) - 1 = -1 := by omega
  have hz3 : (n : Int) ≤ 0 := by omega
  have hrm : (cap : Int) < (ll : Int) + (s : Int) := by omega
  have HZ := Lib.hid hz
  have HN := Lib.hid hn
  have HLL := Lib.hid hll
  clear h hd hbd hwd htk hx hok hL hs htf hr hcp hz hn hll hf
  go_enter Tryz.func33, Tryz.ntmps33
  go_wp2_with fail
  refine HFI.out.mono ?_
  rintro e w2 ⟨rfl, rfl⟩
  clear HFI
  dsimp only [ixV]
  go_wp2_with fail
  refine wp_region_tail wd.heap.size [([0, 2, 4, 6, 7, 8, 9], 1)] [3, 5, 10] [] (by kernel_rfl) (by kernel_rfl) (by kernel_rfl) (fun _ _ _ _ _ h => h) ?_
  rw [HWD.out]
  have t1 : ∀ z : LaterB wd.heap.size wd, z.val.cell? ⟨p, 0, none⟩ = some (.int .i64 (cap : Int)) := fun z => (z.ext.cell (p := ⟨p, 0, none⟩) hpd).trans r0
  refine tail_cons (l := ?segTZN) ?hsegTZN ?_
  case hsegTZN => simp only [pick, List.getElem?_toArray, List.getElem?_cons_succ, List.getElem?_cons_zero]; rfl
  repeat (go_big_quiet_step (fail))
  refine wpQuiet_nil ?_
  clear t1
  refine tail_call (vs := #[.pointer (some ⟨p, 0, none⟩)]) Tryz.call38 rfl rfl rfl (R := fun r w' => r = .int .i64 (ll : Int) ∧ w' = wd) (HLEN.out.mono ?_) wd.heap.size (Nat.le_refl _) ?_
  · rintro e w' ⟨rfl, rfl⟩
    exact ⟨_, rfl, Below.refl _ _, rfl, rfl⟩
  rintro r w11 _ ⟨rfl, rfl⟩
  refine tail_last (l := ?laTZN) (t := []) ?hlaTZN ?htlTZN ?_
  case hlaTZN => simp only [pick, List.getElem?_toArray, List.getElem?_cons_succ, List.getElem?_cons_zero]; rfl
  case htlTZN => rfl
  simp only [Act.put, List.setIfInBounds_toArray, List.set_cons_zero, List.set_cons_succ]
  repeat (go_big_quiet_step (fail))
  refine wpQuiet_nil ?_
  go_wp2
  go_ret2
  exact ⟨by rw [HTK.out]; rfl, by rw [HTK.out]; exact HT.of_below ⟨_, _, _, _, HH.out⟩ HBD.out⟩

set_option maxHeartbeats 2000000 in
theorem htake_ZR (h : Hm F w p H Vb Vd gl cs) (hok : H.Ok) (N : Nat) (hf : H.Few N) (hN : N ≤ 50000) (hL : H.Listed) (s : Nat) (hs : isSz (s : Int) = true) (hcap : H.cap ≤ 100000) (hx : H.find s = none) (hz : H.blks.length = 0) (hr : ¬ H.cap < lenB H.blks + s - tailF H.blks) :
    Calls Tryz.prog 33 #[.pointer (some ⟨p, 0, none⟩), .int .i64 (s : Int)] w fun e w' => e = .returned (.tuple #[.int .i64 (((H.take s).1.getD 0 : Nat) : Int), .int .i64 (badT (H.take s).1)]) ∧ HT F w p (H.take s).2 w' := by
  have htk := take_not hx
  have hn512 := hok.n
  have hle := hok.le
  have hss := (isSz_iff _).1 hs
  obtain ⟨A1, c1, rfl⟩ := own_sl h.ob
  have htf : tailF H.blks = 0 := tail_zero hz
  rw [if_neg hr, htf, if_neg (by omega)] at htk
  rw [htf] at hr
  obtain ⟨wd, hwd⟩ : ∃ wd, w.drew = wd := ⟨_, rfl⟩
  have hbd : Below w.heap.size w wd := by rw [← hwd]; exact (Below.refl _ _).drew
  have hd := h.below hbd
  have HFI := Lib.hid (hfind_any h hok N hf hN hL s hs _ hx)
  have HLEN := Lib.hid (hlen_any hd (by omega) (by omega))
  have q1 := h.c1
  have r0 := hd.c0
  have hpd := hd.lt
  have HH := Lib.hid h
  have HD := Lib.hid hd
  have HBD := Lib.hid hbd
  have HWD := Lib.hid hwd
  have HTK := Lib.hid htk
  have HPUT := Lib.hid (hput_any hd H.blks.length (Nat.le_refl _) (by omega) hok.dl ⟨lenB H.blks, s, true⟩)
  obtain ⟨ll, hll⟩ : ∃ ll, lenB H.blks = ll := ⟨_, rfl⟩
  rw [hll] at HLEN hr hle  HPUT
  obtain ⟨cap, hcp⟩ : ∃ cap, H.cap = cap := ⟨_, rfl⟩
  rw [hcp] at r0 hr hcap
  obtain ⟨n, hn⟩ : ∃ n, H.blks.length = n := ⟨_, rfl⟩
  rw [hn] at q1 hz hn512  HPUT
  have hz2 : (n : Int) - 1 = -1 := by omega
  have hz3 : (n : Int) ≤ 0 := by omega
  have hrm : (ll : Int) + (s : Int) ≤ (cap : Int) := by omega
  have HZ := Lib.hid hz
  have HN := Lib.hid hn
  have HLL := Lib.hid hll
  clear h hd hbd hwd htk hx hok hL hs htf hr hcp hz hn hll hf
  go_enter Tryz.func33, Tryz.ntmps33
  go_wp2_with fail
  refine HFI.out.mono ?_
  rintro e w2 ⟨rfl, rfl⟩
  clear HFI
  dsimp only [ixV]
  go_wp2_with fail
  refine wp_region_tail wd.heap.size [([0, 2, 4, 6, 7, 8, 9], 1)] [3, 5, 10] [] (by kernel_rfl) (by kernel_rfl) (by kernel_rfl) (fun _ _ _ _ _ h => h) ?_
  rw [HWD.out]
  have t1 : ∀ z : LaterB wd.heap.size wd, z.val.cell? ⟨p, 0, none⟩ = some (.int .i64 (cap : Int)) := fun z => (z.ext.cell (p := ⟨p, 0, none⟩) hpd).trans r0
  refine tail_cons (l := ?segTZR) ?hsegTZR ?_
  case hsegTZR => simp only [pick, List.getElem?_toArray, List.getElem?_cons_succ, List.getElem?_cons_zero]; rfl
  repeat (go_big_quiet_step (fail))
  refine wpQuiet_nil ?_
  clear t1
  refine tail_call (vs := #[.pointer (some ⟨p, 0, none⟩)]) Tryz.call38 rfl rfl rfl (R := fun r w' => r = .int .i64 (ll : Int) ∧ w' = wd) (HLEN.out.mono ?_) wd.heap.size (Nat.le_refl _) ?_
  · rintro e w' ⟨rfl, rfl⟩
    exact ⟨_, rfl, Below.refl _ _, rfl, rfl⟩
  rintro r w11 _ ⟨rfl, rfl⟩
  refine tail_last (l := ?laTZR) (t := []) ?hlaTZR ?htlTZR ?_
  case hlaTZR => simp only [pick, List.getElem?_toArray, List.getElem?_cons_succ, List.getElem?_cons_zero]; rfl
  case htlTZR => rfl
  simp only [Act.put, List.setIfInBounds_toArray, List.set_cons_zero, List.set_cons_succ]
  repeat (go_big_quiet_step (fail))
  refine wpQuiet_nil ?_
  go_wp2_with fail
  refine HLEN.out.mono ?_
  rintro e w12 ⟨rfl, rfl⟩
  have q2 := HD.out.c1
  rw [HN.out] at q2
  go_wp2_with fail
  refine HPUT.out.mono ?_
  rintro e w13 ⟨rfl, ht⟩
  have hto : HT F w p (H.take s).2 w13 := by
    rw [HTK.out]
    dsimp only
    rw [HN.out, HLL.out]
    exact HT.after HBD.out ht
  have HTO := Lib.hid hto
  clear hto ht HPUT HLEN q2
  go_wp2
  go_ret2
  exact ⟨by rw [HTK.out, HLL.out]; rfl, HTO.out⟩

set_option maxHeartbeats 2000000 in
theorem htake_UN (h : Hm F w p H Vb Vd gl cs) (hok : H.Ok) (N : Nat) (hf : H.Few N) (hN : N ≤ 50000) (hL : H.Listed) (s : Nat) (hs : isSz (s : Int) = true) (hcap : H.cap ≤ 100000) (hx : H.find s = none) (ln : Nat) (hz : H.blks.length = ln + 1) (hu : (bkAt H.blks ln).used = true) (hr : H.cap < lenB H.blks + s - tailF H.blks) :
    Calls Tryz.prog 33 #[.pointer (some ⟨p, 0, none⟩), .int .i64 (s : Int)] w fun e w' => e = .returned (.tuple #[.int .i64 (((H.take s).1.getD 0 : Nat) : Int), .int .i64 (badT (H.take s).1)]) ∧ HT F w p (H.take s).2 w' := by
  have htk := take_not hx
  have hn512 := hok.n
  have hle := hok.le
  have hss := (isSz_iff _).1 hs
  obtain ⟨A1, c1, rfl⟩ := own_sl h.ob
  have htf : tailF H.blks = 0 := tail_used hz hu
  rw [if_pos hr] at htk
  rw [htf] at hr
  obtain ⟨wd, hwd⟩ : ∃ wd, w.drew = wd := ⟨_, rfl⟩
  have hbd : Below w.heap.size w wd := by rw [← hwd]; exact (Below.refl _ _).drew
  have hd := h.below hbd
  have HFI := Lib.hid (hfind_any h hok N hf hN hL s hs _ hx)
  have HLEN := Lib.hid (hlen_any hd (by omega) (by omega))
  have q1 := h.c1
  have r0 := hd.c0
  have hpd := hd.lt
  have HH := Lib.hid h
  have HD := Lib.hid hd
  have HBD := Lib.hid hbd
  have HWD := Lib.hid hwd
  have HTK := Lib.hid htk
  obtain ⟨bb, cb, hVb, _, hnb, _⟩ := own_nn h.ob (by omega)
  injection hVb with e1 _ e3
  subst e1 e3
  have d := h.at_n rfl (i := ln) (by omega)
  obtain ⟨_, d1, d2⟩ := d
  rw [hu] at d2
  obtain ⟨ll, hll⟩ : ∃ ll, lenB H.blks = ll := ⟨_, rfl⟩
  rw [hll] at HLEN hr hle 
  obtain ⟨cap, hcp⟩ : ∃ cap, H.cap = cap := ⟨_, rfl⟩
  rw [hcp] at r0 hr hcap
  obtain ⟨n, hn⟩ : ∃ n, H.blks.length = n := ⟨_, rfl⟩
  rw [hn] at q1 hz hn512 hnb
  have hln : (n : Int) - 1 = (ln : Int) := by omega
  have hlt : (ln : Int) < (n : Int) := by omega
  have hrm : (cap : Int) < (ll : Int) + (s : Int) := by omega
  have HZ := Lib.hid hz
  have HN := Lib.hid hn
  have HLL := Lib.hid hll
  clear h hd hbd hwd htk hx hok hL hs htf hr hcp hz hn hll hf
  clear hu
  go_enter Tryz.func33, Tryz.ntmps33
  go_wp2_with fail
  refine HFI.out.mono ?_
  rintro e w2 ⟨rfl, rfl⟩
  clear HFI
  dsimp only [ixV]
  go_wp2_with fail
  refine wp_region_tail wd.heap.size [([0, 2, 4, 6, 7, 8, 9], 1)] [3, 5, 10] [] (by kernel_rfl) (by kernel_rfl) (by kernel_rfl) (fun _ _ _ _ _ h => h) ?_
  rw [HWD.out]
  have t1 : ∀ z : LaterB wd.heap.size wd, z.val.cell? ⟨p, 0, none⟩ = some (.int .i64 (cap : Int)) := fun z => (z.ext.cell (p := ⟨p, 0, none⟩) hpd).trans r0
  refine tail_cons (l := ?segTUN) ?hsegTUN ?_
  case hsegTUN => simp only [pick, List.getElem?_toArray, List.getElem?_cons_succ, List.getElem?_cons_zero]; rfl
  repeat (go_big_quiet_step (fail))
  refine wpQuiet_nil ?_
  clear t1
  refine tail_call (vs := #[.pointer (some ⟨p, 0, none⟩)]) Tryz.call38 rfl rfl rfl (R := fun r w' => r = .int .i64 (ll : Int) ∧ w' = wd) (HLEN.out.mono ?_) wd.heap.size (Nat.le_refl _) ?_
  · rintro e w' ⟨rfl, rfl⟩
    exact ⟨_, rfl, Below.refl _ _, rfl, rfl⟩
  rintro r w11 _ ⟨rfl, rfl⟩
  refine tail_last (l := ?laTUN) (t := []) ?hlaTUN ?htlTUN ?_
  case hlaTUN => simp only [pick, List.getElem?_toArray, List.getElem?_cons_succ, List.getElem?_cons_zero]; rfl
  case htlTUN => rfl
  simp only [Act.put, List.setIfInBounds_toArray, List.set_cons_zero, List.set_cons_succ]
  repeat (go_big_quiet_step (fail))
  refine wpQuiet_nil ?_
  go_wp2
  go_ret2
  exact ⟨by rw [HTK.out]; rfl, by rw [HTK.out]; exact HT.of_below ⟨_, _, _, _, HH.out⟩ HBD.out⟩

set_option maxHeartbeats 2000000 in
theorem htake_UR (h : Hm F w p H Vb Vd gl cs) (hok : H.Ok) (N : Nat) (hf : H.Few N) (hN : N ≤ 50000) (hL : H.Listed) (s : Nat) (hs : isSz (s : Int) = true) (hcap : H.cap ≤ 100000) (hx : H.find s = none) (ln : Nat) (hz : H.blks.length = ln + 1) (hu : (bkAt H.blks ln).used = true) (hr : ¬ H.cap < lenB H.blks + s - tailF H.blks) :
    Calls Tryz.prog 33 #[.pointer (some ⟨p, 0, none⟩), .int .i64 (s : Int)] w fun e w' => e = .returned (.tuple #[.int .i64 (((H.take s).1.getD 0 : Nat) : Int), .int .i64 (badT (H.take s).1)]) ∧ HT F w p (H.take s).2 w' := by
  have htk := take_not hx
  have hn512 := hok.n
  have hle := hok.le
  have hss := (isSz_iff _).1 hs
  obtain ⟨A1, c1, rfl⟩ := own_sl h.ob
  have htf : tailF H.blks = 0 := tail_used hz hu
  rw [if_neg hr, htf, if_neg (by omega)] at htk
  rw [htf] at hr
  obtain ⟨wd, hwd⟩ : ∃ wd, w.drew = wd := ⟨_, rfl⟩
  have hbd : Below w.heap.size w wd := by rw [← hwd]; exact (Below.refl _ _).drew
  have hd := h.below hbd
  have HFI := Lib.hid (hfind_any h hok N hf hN hL s hs _ hx)
  have HLEN := Lib.hid (hlen_any hd (by omega) (by omega))
  have q1 := h.c1
  have r0 := hd.c0
  have hpd := hd.lt
  have HH := Lib.hid h
  have HD := Lib.hid hd
  have HBD := Lib.hid hbd
  have HWD := Lib.hid hwd
  have HTK := Lib.hid htk
  obtain ⟨bb, cb, hVb, _, hnb, _⟩ := own_nn h.ob (by omega)
  injection hVb with e1 _ e3
  subst e1 e3
  have d := h.at_n rfl (i := ln) (by omega)
  obtain ⟨_, d1, d2⟩ := d
  rw [hu] at d2
  have HPUT := Lib.hid (hput_any hd H.blks.length (Nat.le_refl _) (by omega) hok.dl ⟨lenB H.blks, s, true⟩)
  obtain ⟨ll, hll⟩ : ∃ ll, lenB H.blks = ll := ⟨_, rfl⟩
  rw [hll] at HLEN hr hle  HPUT
  obtain ⟨cap, hcp⟩ : ∃ cap, H.cap = cap := ⟨_, rfl⟩
  rw [hcp] at r0 hr hcap
  obtain ⟨n, hn⟩ : ∃ n, H.blks.length = n := ⟨_, rfl⟩
  rw [hn] at q1 hz hn512 hnb HPUT
  have hln : (n : Int) - 1 = (ln : Int) := by omega
  have hlt : (ln : Int) < (n : Int) := by omega
  have hrm : (ll : Int) + (s : Int) ≤ (cap : Int) := by omega
  have HZ := Lib.hid hz
  have HN := Lib.hid hn
  have HLL := Lib.hid hll
  clear h hd hbd hwd htk hx hok hL hs htf hr hcp hz hn hll hf
  clear hu
  go_enter Tryz.func33, Tryz.ntmps33
  go_wp2_with fail
  refine HFI.out.mono ?_
  rintro e w2 ⟨rfl, rfl⟩
  clear HFI
  dsimp only [ixV]
  go_wp2_with fail
  refine wp_region_tail wd.heap.size [([0, 2, 4, 6, 7, 8, 9], 1)] [3, 5, 10] [] (by kernel_rfl) (by kernel_rfl) (by kernel_rfl) (fun _ _ _ _ _ h => h) ?_
  rw [HWD.out]
  have t1 : ∀ z : LaterB wd.heap.size wd, z.val.cell? ⟨p, 0, none⟩ = some (.int .i64 (cap : Int)) := fun z => (z.ext.cell (p := ⟨p, 0, none⟩) hpd).trans r0
  refine tail_cons (l := ?segTUR) ?hsegTUR ?_
  case hsegTUR => simp only [pick, List.getElem?_toArray, List.getElem?_cons_succ, List.getElem?_cons_zero]; rfl
  repeat (go_big_quiet_step (fail))
  refine wpQuiet_nil ?_
  clear t1
  refine tail_call (vs := #[.pointer (some ⟨p, 0, none⟩)]) Tryz.call38 rfl rfl rfl (R := fun r w' => r = .int .i64 (ll : Int) ∧ w' = wd) (HLEN.out.mono ?_) wd.heap.size (Nat.le_refl _) ?_
  · rintro e w' ⟨rfl, rfl⟩
    exact ⟨_, rfl, Below.refl _ _, rfl, rfl⟩
  rintro r w11 _ ⟨rfl, rfl⟩
  refine tail_last (l := ?laTUR) (t := []) ?hlaTUR ?htlTUR ?_
  case hlaTUR => simp only [pick, List.getElem?_toArray, List.getElem?_cons_succ, List.getElem?_cons_zero]; rfl
  case htlTUR => rfl
  simp only [Act.put, List.setIfInBounds_toArray, List.set_cons_zero, List.set_cons_succ]
  repeat (go_big_quiet_step (fail))
  refine wpQuiet_nil ?_
  go_wp2_with fail
  refine HLEN.out.mono ?_
  rintro e w12 ⟨rfl, rfl⟩
  have q2 := HD.out.c1
  rw [HN.out] at q2
  go_wp2_with fail
  refine HPUT.out.mono ?_
  rintro e w13 ⟨rfl, ht⟩
  have hto : HT F w p (H.take s).2 w13 := by
    rw [HTK.out]
    dsimp only
    rw [HN.out, HLL.out]
    exact HT.after HBD.out ht
  have HTO := Lib.hid hto
  clear hto ht HPUT HLEN q2
  go_wp2
  go_ret2
  exact ⟨by rw [HTK.out, HLL.out]; rfl, HTO.out⟩

set_option maxHeartbeats 2000000 in
theorem htake_YN (h : Hm F w p H Vb Vd gl cs) (hok : H.Ok) (N : Nat) (hf : H.Few N) (hN : N ≤ 50000) (hL : H.Listed) (s : Nat) (hs : isSz (s : Int) = true) (hcap : H.cap ≤ 100000) (hx : H.find s = none) (ln : Nat) (hz : H.blks.length = ln + 1) (hu : (bkAt H.blks ln).used = false) (hr : H.cap < lenB H.blks + s - tailF H.blks) :
    Calls Tryz.prog 33 #[.pointer (some ⟨p, 0, none⟩), .int .i64 (s : Int)] w fun e w' => e = .returned (.tuple #[.int .i64 (((H.take s).1.getD 0 : Nat) : Int), .int .i64 (badT (H.take s).1)]) ∧ HT F w p (H.take s).2 w' := by
  have htk := take_not hx
  have hn512 := hok.n
  have hle := hok.le
  have hss := (isSz_iff _).1 hs
  obtain ⟨A1, c1, rfl⟩ := own_sl h.ob
  have htf : tailF H.blks = (bkAt H.blks ln).size := tail_free hz hu
  have hsl := (isSz_iff _).1 (hok.sz (i := ln) (by omega))
  have hlenl := (tile_mem _ _ _ (hok.at_ (i := ln) (by omega)).2.2).1
  rw [if_pos hr] at htk
  rw [htf] at hr
  obtain ⟨wd, hwd⟩ : ∃ wd, w.drew = wd := ⟨_, rfl⟩
  have hbd : Below w.heap.size w wd := by rw [← hwd]; exact (Below.refl _ _).drew
  have hd := h.below hbd
  have HFI := Lib.hid (hfind_any h hok N hf hN hL s hs _ hx)
  have HLEN := Lib.hid (hlen_any hd (by omega) (by omega))
  have q1 := h.c1
  have r0 := hd.c0
  have hpd := hd.lt
  have HH := Lib.hid h
  have HD := Lib.hid hd
  have HBD := Lib.hid hbd
  have HWD := Lib.hid hwd
  have HTK := Lib.hid htk
  obtain ⟨bb, cb, hVb, _, hnb, _⟩ := own_nn h.ob (by omega)
  injection hVb with e1 _ e3
  subst e1 e3
  have d := h.at_n rfl (i := ln) (by omega)
  obtain ⟨_, d1, d2⟩ := d
  rw [hu] at d2
  have HOUT := Lib.hid (hout_any hd ln (by omega) (hok.sz (by omega)) (fun d hd => Nat.le_trans (hf d hd) (by omega)))
  obtain ⟨xs, hxs⟩ : ∃ xs, (bkAt H.blks ln).size = xs := ⟨_, rfl⟩
  rw [hxs] at d1 hr hsl hlenl
  obtain ⟨ll, hll⟩ : ∃ ll, lenB H.blks = ll := ⟨_, rfl⟩
  rw [hll] at HLEN hr hle hlenl
  obtain ⟨cap, hcp⟩ : ∃ cap, H.cap = cap := ⟨_, rfl⟩
  rw [hcp] at r0 hr hcap
  obtain ⟨n, hn⟩ : ∃ n, H.blks.length = n := ⟨_, rfl⟩
  rw [hn] at q1 hz hn512 hnb
  have hln : (n : Int) - 1 = (ln : Int) := by omega
  have hlt : (ln : Int) < (n : Int) := by omega
  have hrm : (cap : Int) < (ll : Int) + (s : Int) - (xs : Int) := by omega
  have hxp : 0 < (xs : Int) := by omega
  have HZ := Lib.hid hz
  have HN := Lib.hid hn
  have HLL := Lib.hid hll
  clear h hd hbd hwd htk hx hok hL hs htf hr hcp hz hn hll hf
  clear hu hxs
  go_enter Tryz.func33, Tryz.ntmps33
  go_wp2_with fail
  refine HFI.out.mono ?_
  rintro e w2 ⟨rfl, rfl⟩
  clear HFI
  dsimp only [ixV]
  go_wp2_with fail
  refine wp_region_tail wd.heap.size [([0, 2, 4, 6, 7, 8, 9], 1)] [3, 5, 10] [] (by kernel_rfl) (by kernel_rfl) (by kernel_rfl) (fun _ _ _ _ _ h => h) ?_
  rw [HWD.out]
  have t1 : ∀ z : LaterB wd.heap.size wd, z.val.cell? ⟨p, 0, none⟩ = some (.int .i64 (cap : Int)) := fun z => (z.ext.cell (p := ⟨p, 0, none⟩) hpd).trans r0
  refine tail_cons (l := ?segTYN) ?hsegTYN ?_
  case hsegTYN => simp only [pick, List.getElem?_toArray, List.getElem?_cons_succ, List.getElem?_cons_zero]; rfl
  repeat (go_big_quiet_step (fail))
  refine wpQuiet_nil ?_
  clear t1
  refine tail_call (vs := #[.pointer (some ⟨p, 0, none⟩)]) Tryz.call38 rfl rfl rfl (R := fun r w' => r = .int .i64 (ll : Int) ∧ w' = wd) (HLEN.out.mono ?_) wd.heap.size (Nat.le_refl _) ?_
  · rintro e w' ⟨rfl, rfl⟩
    exact ⟨_, rfl, Below.refl _ _, rfl, rfl⟩
  rintro r w11 _ ⟨rfl, rfl⟩
  refine tail_last (l := ?laTYN) (t := []) ?hlaTYN ?htlTYN ?_
  case hlaTYN => simp only [pick, List.getElem?_toArray, List.getElem?_cons_succ, List.getElem?_cons_zero]; rfl
  case htlTYN => rfl
  simp only [Act.put, List.setIfInBounds_toArray, List.set_cons_zero, List.set_cons_succ]
  repeat (go_big_quiet_step (fail))
  refine wpQuiet_nil ?_
  go_wp2
  go_ret2
  exact ⟨by rw [HTK.out]; rfl, by rw [HTK.out]; exact HT.of_below ⟨_, _, _, _, HH.out⟩ HBD.out⟩

set_option maxHeartbeats 2000000 in
theorem htake_YR (h : Hm F w p H Vb Vd gl cs) (hok : H.Ok) (N : Nat) (hf : H.Few N) (hN : N ≤ 50000) (hL : H.Listed) (s : Nat) (hs : isSz (s : Int) = true) (hcap : H.cap ≤ 100000) (hx : H.find s = none) (ln : Nat) (hz : H.blks.length = ln + 1) (hu : (bkAt H.blks ln).used = false) (hr : ¬ H.cap < lenB H.blks + s - tailF H.blks) :
    Calls Tryz.prog 33 #[.pointer (some ⟨p, 0, none⟩), .int .i64 (s : Int)] w fun e w' => e = .returned (.tuple #[.int .i64 (((H.take s).1.getD 0 : Nat) : Int), .int .i64 (badT (H.take s).1)]) ∧ HT F w p (H.take s).2 w' := by
  have htk := take_not hx
  have hn512 := hok.n
  have hle := hok.le
  have hss := (isSz_iff _).1 hs
  obtain ⟨A1, c1, rfl⟩ := own_sl h.ob
  have htf : tailF H.blks = (bkAt H.blks ln).size := tail_free hz hu
  have hsl := (isSz_iff _).1 (hok.sz (i := ln) (by omega))
  have hlenl := (tile_mem _ _ _ (hok.at_ (i := ln) (by omega)).2.2).1
  rw [if_neg hr, htf, if_pos (by omega), show H.blks.length - 1 = ln by omega] at htk
  rw [htf] at hr
  obtain ⟨wd, hwd⟩ : ∃ wd, w.drew = wd := ⟨_, rfl⟩
  have hbd : Below w.heap.size w wd := by rw [← hwd]; exact (Below.refl _ _).drew
  have hd := h.below hbd
  have HFI := Lib.hid (hfind_any h hok N hf hN hL s hs _ hx)
  have HLEN := Lib.hid (hlen_any hd (by omega) (by omega))
  have q1 := h.c1
  have r0 := hd.c0
  have hpd := hd.lt
  have HH := Lib.hid h
  have HD := Lib.hid hd
  have HBD := Lib.hid hbd
  have HWD := Lib.hid hwd
  have HTK := Lib.hid htk
  obtain ⟨bb, cb, hVb, _, hnb, _⟩ := own_nn h.ob (by omega)
  injection hVb with e1 _ e3
  subst e1 e3
  have d := h.at_n rfl (i := ln) (by omega)
  obtain ⟨_, d1, d2⟩ := d
  rw [hu] at d2
  have HOUT := Lib.hid (hout_any hd ln (by omega) (hok.sz (by omega)) (fun d hd => Nat.le_trans (hf d hd) (by omega)))
  obtain ⟨xs, hxs⟩ : ∃ xs, (bkAt H.blks ln).size = xs := ⟨_, rfl⟩
  rw [hxs] at d1 hr hsl hlenl
  obtain ⟨ll, hll⟩ : ∃ ll, lenB H.blks = ll := ⟨_, rfl⟩
  rw [hll] at HLEN hr hle hlenl
  obtain ⟨cap, hcp⟩ : ∃ cap, H.cap = cap := ⟨_, rfl⟩
  rw [hcp] at r0 hr hcap
  obtain ⟨n, hn⟩ : ∃ n, H.blks.length = n := ⟨_, rfl⟩
  rw [hn] at q1 hz hn512 hnb
  have hln : (n : Int) - 1 = (ln : Int) := by omega
  have hlt : (ln : Int) < (n : Int) := by omega
  have hrm : (ll : Int) + (s : Int) - (xs : Int) ≤ (cap : Int) := by omega
  have hxp : 0 < (xs : Int) := by omega
  have HZ := Lib.hid hz
  have HN := Lib.hid hn
  have HLL := Lib.hid hll
  clear h hd hbd hwd htk hx hok hL hs htf hr hcp hz hn hll hf
  clear hu hxs
  go_enter Tryz.func33, Tryz.ntmps33
  go_wp2_with fail
  refine HFI.out.mono ?_
  rintro e w2 ⟨rfl, rfl⟩
  clear HFI
  dsimp only [ixV]
  go_wp2_with fail
  refine wp_region_tail wd.heap.size [([0, 2, 4, 6, 7, 8, 9], 1)] [3, 5, 10] [] (by kernel_rfl) (by kernel_rfl) (by kernel_rfl) (fun _ _ _ _ _ h => h) ?_
  rw [HWD.out]
  have t1 : ∀ z : LaterB wd.heap.size wd, z.val.cell? ⟨p, 0, none⟩ = some (.int .i64 (cap : Int)) := fun z => (z.ext.cell (p := ⟨p, 0, none⟩) hpd).trans r0
  refine tail_cons (l := ?segTYR) ?hsegTYR ?_
  case hsegTYR => simp only [pick, List.getElem?_toArray, List.getElem?_cons_succ, List.getElem?_cons_zero]; rfl
  repeat (go_big_quiet_step (fail))
  refine wpQuiet_nil ?_
  clear t1
  refine tail_call (vs := #[.pointer (some ⟨p, 0, none⟩)]) Tryz.call38 rfl rfl rfl (R := fun r w' => r = .int .i64 (ll : Int) ∧ w' = wd) (HLEN.out.mono ?_) wd.heap.size (Nat.le_refl _) ?_
  · rintro e w' ⟨rfl, rfl⟩
    exact ⟨_, rfl, Below.refl _ _, rfl, rfl⟩
  rintro r w11 _ ⟨rfl, rfl⟩
  refine tail_last (l := ?laTYR) (t := []) ?hlaTYR ?htlTYR ?_
  case hlaTYR => simp only [pick, List.getElem?_toArray, List.getElem?_cons_succ, List.getElem?_cons_zero]; rfl
  case htlTYR => rfl
  simp only [Act.put, List.setIfInBounds_toArray, List.set_cons_zero, List.set_cons_succ]
  repeat (go_big_quiet_step (fail))
  refine wpQuiet_nil ?_
  go_wp2_with fail
  refine HOUT.out.mono ?_
  rintro e w13 ⟨rfl, ht⟩
  obtain ⟨F3, Vb3, Vd3, gl3, cs3, z3⟩ := ((Hz.start HH.out).below HBD.out).step ht
  obtain ⟨b3, c3, rfl, hb3, hnc3, _⟩ := own_nn z3.hm.ob (by show 0 < H.blks.length; rw [HN.out]; omega)
  have e3 : (H.out ln).blks.length = n := HN.out
  have k1 := z3.hm.c1
  rw [e3] at k1
  have f1 := own_thaw z3.hm.ob (ln * 3 + 1)
  have z4 := z3.set (a := ⟨b3, ln * 3 + 1, none⟩) (u := .int .i64 (s : Int)) (z3.hm.fb b3 rfl) (z3.hm.sizeM rfl (by rw [e3]; omega) s)
  have e4 : ((H.out ln).size ln s).blks.length = n := (List.length_set ..).trans e3
  rw [e3] at z3 z4
  have d3 := (z3.hm.at_n e3 (i := ln) (by omega)).2.1
  obtain ⟨w4, hw4⟩ : ∃ w4, w13.setCell ⟨b3, ln * 3 + 1, none⟩ (.int .i64 (s : Int)) = w4 := ⟨_, rfl⟩
  rw [hw4] at z4
  have k2 := z4.hm.c1
  have f2 := own_thaw z4.hm.ob (ln * 3 + 2)
  have d4 := (z4.hm.at_n e4 (i := ln) (by omega)).2.2
  have z5 := z4.set (a := ⟨b3, ln * 3 + 2, none⟩) (u := .bool true) (z4.hm.fb b3 rfl) (z4.hm.useM (by rw [e4]) (by rw [e4]; omega) true)
  obtain ⟨w5, hw5⟩ : ∃ w5, w4.setCell ⟨b3, ln * 3 + 2, none⟩ (.bool true) = w5 := ⟨_, rfl⟩
  rw [hw5] at z5
  have k3 := z5.hm.c1
  have e5 : (((H.out ln).size ln s).use ln true).blks.length = n := (List.length_set ..).trans e4
  have d5 := (z5.hm.at_n e5 (i := ln) (by omega)).1
  have e6 : (bkAt (((H.out ln).size ln s).use ln true).blks ln).off = (bkAt H.blks ln).off := by
    show (bkAt (((H.out ln).size ln s).blks.set ln _) ln).off = _
    rw [bkAt_set _ _ _ _ (by rw [e4]; omega), if_pos rfl]
    show (bkAt ((H.out ln).blks.set ln _) ln).off = _
    rw [bkAt_set _ _ _ _ (by rw [e3]; omega), if_pos rfl]
    rfl
  rw [e6] at d5
  obtain ⟨xo, hxo⟩ : ∃ xo, (bkAt H.blks ln).off = xo := ⟨_, rfl⟩
  rw [hxo] at d5
  have HXO := Lib.hid hxo
  have Z5 := Lib.hid z5
  have HW4 := Lib.hid hw4
  have HW5 := Lib.hid hw5
  clear ht hb3 z3 z4 z5 hw4 hw5 hxo e3 e4 e5 e6 HOUT HLEN HD q1 r0 hnc3
  go_wp2_with (first | (rw [HW4.out]) | (rw [HW5.out]) | fail)
  go_ret2
  exact ⟨by rw [HTK.out, HXO.out]; rfl, by rw [HTK.out]; exact Z5.out.fin⟩

theorem hTake_any (h : Hm F w p H Vb Vd gl cs) (hok : H.Ok) (N : Nat) (hf : H.Few N) (hN : N ≤ 50000) (hL : H.Listed) (s : Nat) (hs : isSz (s : Int) = true) (hcap : H.cap ≤ 100000) :
    Calls Tryz.prog 33 #[.pointer (some ⟨p, 0, none⟩), .int .i64 (s : Int)] w fun e w' => e = .returned (.tuple #[.int .i64 (((H.take s).1.getD 0 : Nat) : Int), .int .i64 (badT (H.take s).1)]) ∧ HT F w p (H.take s).2 w' := by
  cases hx : H.find s with
  | some i => exact htake_f h hok N hf hN hL s hs i hx
  | none =>
    obtain ⟨ln, hz⟩ : ∃ ln, H.blks.length = 0 ∨ H.blks.length = ln + 1 := ⟨H.blks.length - 1, by omega⟩
    by_cases hr : H.cap < lenB H.blks + s - tailF H.blks
    · rcases hz with hz | hz
      · exact htake_ZN h hok N hf hN hL s hs hcap hx hz hr
      · cases hu : (bkAt H.blks ln).used
        · exact htake_YN h hok N hf hN hL s hs hcap hx ln hz hu hr
        · exact htake_UN h hok N hf hN hL s hs hcap hx ln hz hu hr
    · rcases hz with hz | hz
      · exact htake_ZR h hok N hf hN hL s hs hcap hx hz hr
      · cases hu : (bkAt H.blks ln).used
        · exact htake_YR h hok N hf hN hL s hs hcap hx ln hz hu hr
        · exact htake_UR h hok N hf hN hL s hs hcap hx ln hz hu hr
end
end Go.Proofs.YtdjjbmefaggelaaGreat

/- The document's heap, plain: in a right one the lists have just the free blocks; Take tells that there is no room just if there is none, and what it tells is apart from all that is used. No program in sight. -/
namespace Go.Proofs.YtdjjbmefaggelaaGreat

theorem nodup_le {l : List Nat} : ∀ {r : List Nat}, l.Nodup → (∀ a ∈ l, a ∈ r) → l.length ≤ r.length := by
  induction l with
  | nil => intro r _ _; exact Nat.zero_le _
  | cons x l ih =>
    intro r hn hs
    obtain ⟨h1, h2⟩ := List.nodup_cons.1 hn
    have hx := hs x (by simp)
    have h3 := ih (r := r.erase x) h2 (fun a ha => (List.mem_erase_of_ne (fun e : a = x => h1 (by rw [← e]; exact ha))).2 (hs a (by simp [ha])))
    have h4 := List.length_erase_of_mem hx
    have h5 : 0 < r.length := List.length_pos_of_mem hx
    rw [List.length_cons]
    omega
theorem nodup_all {l r : List Nat} (hn : l.Nodup) (hs : ∀ a ∈ l, a ∈ r) (hl : r.length ≤ l.length) : ∀ b ∈ r, b ∈ l := fun b hb => by
  by_cases hin : b ∈ l
  · exact hin
  · have h1 := nodup_le (r := r.erase b) hn (fun a ha => (List.mem_erase_of_ne (fun e : a = b => hin (by rw [← e]; exact ha))).2 (hs a ha))
    have h2 := List.length_erase_of_mem hb
    have h3 : 0 < r.length := List.length_pos_of_mem hb
    omega
theorem nodup_count : ∀ {l : List Nat}, (∀ a ∈ l, l.count a = 1) → l.Nodup
  | [], _ => List.nodup_nil
  | x :: r, h => by
    have h1 := h x (by simp)
    rw [List.count_cons_self] at h1
    have hx : x ∉ r := List.count_eq_zero.1 (by omega)
    refine List.nodup_cons.2 ⟨hx, nodup_count fun a ha => ?_⟩
    have h2 := h a (by simp [ha])
    have hne : x ≠ a := fun e => hx (e ▸ ha)
    rw [List.count_cons_of_ne hne] at h2
    exact h2

section
variable {bs : List UInt8} {H : Hp}
theorem Rt.nfree (h : Rt bs H) : (∀ c, c < 22 → (H.lists c).Nodup ∧ ∀ o ∈ H.lists c, o ∈ freeL H.blks c) ∧ noAdj H.blks = true ∧ chkC bs H.blks 22 0 (cntFree H.blks) = true := by
  have hk := h.chk
  unfold checkB at hk
  rw [h.walk] at hk
  simp only [Bool.and_eq_true] at hk
  refine ⟨fun c hc => ?_, hk.2.1, hk.2.2⟩
  obtain ⟨al, h1, h2⟩ := chkC_true 22 0 _ hk.2.2 c (Nat.zero_le _) (by omega)
  rw [h.all_ c hc] at h1
  injection h1 with h1
  subst h1
  have h2' := List.all_eq_true.1 h2
  refine ⟨nodup_count fun a ha => ?_, fun o ho => ?_⟩
  · have := h2' a ha
    unfold okO at this
    rw [Bool.and_eq_true] at this
    simpa using this.2
  · have h3 := h2' o ho
    unfold okO at h3
    rw [Bool.and_eq_true] at h3
    have h4 := h3.1
    unfold foundB at h4
    obtain ⟨x, hx, hx2⟩ := List.any_eq_true.1 h4
    simp only [Bool.and_eq_true, beq_iff_eq] at hx2
    have hm := allB_member (h.all_ c hc) o ho
    have hg := (walkB_tiles h.walk).2.2 x hx
    unfold memberB at hm
    rw [← hx2.1, hg] at hm
    simp only [Bool.and_eq_true, beq_iff_eq] at hm
    rw [← hx2.1]
    exact mem_freeL hx (by simpa using hx2.2) hm.2.2
theorem lens_all {bs : List UInt8} {l : List Bk} {L : Nat → List Nat} (hL : ∀ c, c < 22 → allB bs c = some (L c)) (hs : ∀ c, c < 22 → (L c).length ≤ (freeL l c).length) :
    ∀ (k c : Nat) (fr : Int), c + k = 22 → chkC bs l k c fr = true → fr ≤ sumF l k c ∧ (fr = sumF l k c → ∀ d, c ≤ d → d < 22 → (freeL l d).length ≤ (L d).length)
  | 0, c, fr, hck, h => by
    unfold chkC at h
    have : fr = 0 := by simpa using h
    refine ⟨by subst this; exact Int.natCast_nonneg _, fun _ d h1 h2 => by omega⟩
  | k + 1, c, fr, hck, h => by
    unfold chkC at h
    rw [hL c (by omega)] at h
    dsimp only at h
    rw [Bool.and_eq_true] at h
    obtain ⟨i1, i2⟩ := lens_all hL hs k (c + 1) _ (by omega) h.2
    have h1 := hs c (by omega)
    have e : (sumF l (k + 1) c : Int) = ((freeL l c).length : Int) + (sumF l k (c + 1) : Int) := by
      show (((freeL l c).length + sumF l k (c + 1) : Nat) : Int) = _
      omega
    refine ⟨by omega, fun hfr d hd1 hd2 => ?_⟩
    rcases Nat.lt_or_ge c d with hlt | hge
    · exact i2 (by omega) d hlt hd2
    · obtain rfl : d = c := by omega
      omega
/-- The lists have all free blocks. -/
theorem Rt.complete (h : Rt bs H) : ∀ c, c < 22 → ∀ o ∈ freeL H.blks c, o ∈ H.lists c := fun c hc => by
  obtain ⟨h1, _, h3⟩ := h.nfree
  have ht := (walkB_tiles h.walk).2.1
  have hsz : ∀ x ∈ H.blks, isSz (x.size : Int) = true := fun x hx => ((tile_mem _ _ _ ht).2 x hx).2.2.1
  have hl := lens_all h.all_ (fun c hc => nodup_le (h1 c hc).1 (h1 c hc).2) 22 0 _ rfl h3
  exact nodup_all (h1 c hc).1 (h1 c hc).2 (hl.2 (by rw [sumF_all _ hsz]) c (Nat.zero_le _) hc)

theorem findL_none {l : List Bk} {s : Nat} : ∀ {L : List Nat}, findL l s L = none → (∀ o ∈ L, ∃ i, atB (o : Int) l = some i) → ∀ o ∈ L, ∀ i, atB (o : Int) l = some i → (bkAt l i).size < s
  | [], _, _, o, ho, _, _ => by cases ho
  | q :: r, h, hL, o, ho, i, hi => by
    obtain ⟨j, hj⟩ := hL q (by simp)
    unfold findL at h
    rw [hj] at h
    dsimp only at h
    split at h
    · cases h
    · rename_i hs
      rcases List.mem_cons.1 ho with rfl | ho
      · rw [hj] at hi
        injection hi with hi
        subst hi
        omega
      · exact findL_none h (fun a ha => hL a (by simp [ha])) o ho i hi
theorem findC_none {s : Nat} : ∀ {k c : Nat}, H.findC s k c = none → ∀ d, c ≤ d → d < c + k → findL H.blks s (H.lists d) = none
  | 0, c, _, d, h1, h2 => by omega
  | k + 1, c, h, d, h1, h2 => by
    unfold Hp.findC at h
    split at h
    · cases h
    · rename_i hn
      rcases Nat.lt_or_ge c d with hlt | hge
      · exact findC_none h d hlt (by omega)
      · obtain rfl : d = c := by omega
        exact hn
/-- Two blocks with one place are one. -/
theorem tile_one {l : List Bk} {o e : Nat} (h : tile o l e) {x y : Bk} (hx : x ∈ l) (hy : y ∈ l) (he : x.off = y.off) : x = y := by
  have h1 := (isSz_iff _).1 ((tile_mem _ _ _ h).2 x hx).2.2.1
  have h2 := (isSz_iff _).1 ((tile_mem _ _ _ h).2 y hy).2.2.1
  rcases tile_apart l o e h x hx y hy with h' | h' | h'
  · exact h'
  · omega
  · omega
theorem atB_of {l : List Bk} {o e : Nat} (h : tile o l e) {x : Bk} (hx : x ∈ l) : ∃ i, atB (x.off : Int) l = some i ∧ i < l.length ∧ bkAt l i = x := by
  obtain ⟨i, hi⟩ := atB_mem hx
  obtain ⟨h1, h2⟩ := atB_at hi
  refine ⟨i, hi, h1, tile_one h (List.mem_of_getElem? (bkAt_get h1)) hx (by omega)⟩
/-- What Find finds is free. -/
theorem Rt.found (h : Rt bs H) {s i : Nat} (hs : isSz (s : Int) = true) (hf : H.find s = some i) : i < H.blks.length ∧ s ≤ (bkAt H.blks i).size ∧ (bkAt H.blks i).used = false := by
  have ht := (walkB_tiles h.walk).2.1
  have one : ∀ (LL : List Nat), (∀ o ∈ LL, ∃ x ∈ H.blks, x.off = o ∧ x.used = false) → ∀ i, findL H.blks s LL = some i → i < H.blks.length ∧ s ≤ (bkAt H.blks i).size ∧ (bkAt H.blks i).used = false := by
    intro LL
    induction LL with
    | nil => intro _ i h; cases h
    | cons o r ih =>
      intro hL i h
      unfold findL at h
      split at h
      · cases h
      · rename_i j hj
        split at h
        · rename_i hs
          injection h with h
          subst h
          obtain ⟨x, hx, hxo, hxu⟩ := hL o (by simp)
          obtain ⟨h1, h2⟩ := atB_at hj
          have e := tile_one ht (List.mem_of_getElem? (bkAt_get h1)) hx (by omega)
          exact ⟨h1, hs, by rw [e]; exact hxu⟩
        · exact ih (fun a ha => hL a (by simp [ha])) i h
  have go : ∀ (k c i : Nat), c + k ≤ 22 → H.findC s k c = some i → i < H.blks.length ∧ s ≤ (bkAt H.blks i).size ∧ (bkAt H.blks i).used = false := by
    intro k
    induction k with
    | zero => intro c i _ h; cases h
    | succ k ih =>
      intro c i hck hh
      unfold Hp.findC at hh
      split at hh
      · rename_i j hj
        injection hh with hh
        subst hh
        refine one _ (fun o ho => ?_) _ hj
        obtain ⟨x, h1, h2, h3, _⟩ := freeL_mem ((h.nfree.1 c (by omega)).2 o ho)
        exact ⟨x, h1, h2, h3⟩
      · exact ih _ _ (by omega) hh
  obtain ⟨cl, hcl, hcl22⟩ : ∃ c : Nat, classI (s : Int) = (c : Int) ∧ c < 22 := class_nat (x := ⟨0, s, false⟩) hs
  unfold Hp.find at hf
  rw [hcl, Int.toNat_natCast] at hf
  exact go _ _ _ (by omega) hf
/-- Where Find finds nothing there is nothing. -/
theorem Rt.lost (h : Rt bs H) {s : Nat} (hs : isSz (s : Int) = true) (hf : H.find s = none) : ∀ x ∈ H.blks, x.used = false → x.size < s := fun x hx hu => by
  have ht := (walkB_tiles h.walk).2.1
  have hxs := ((tile_mem _ _ _ ht).2 x hx).2.2.1
  obtain ⟨cl, hcl, hcl22⟩ : ∃ c : Nat, classI (s : Int) = (c : Int) ∧ c < 22 := class_nat (x := ⟨0, s, false⟩) hs
  obtain ⟨cx, hcx, hcx22⟩ := class_nat hxs
  rcases Nat.lt_or_ge x.size s with h1 | h1
  · exact h1
  · have hm := classI_mono hs hxs (by omega)
    unfold Hp.find at hf
    rw [hcl, Int.toNat_natCast] at hf
    have hl := findC_none hf cx (by omega) (by omega)
    obtain ⟨i, hi, _, hb⟩ := atB_of ht hx
    have := findL_none hl (h.listed cx hcx22) x.off (h.complete cx hcx22 _ (mem_freeL hx hu hcx)) i hi
    rw [hb] at this
    exact this

end
end Go.Proofs.YtdjjbmefaggelaaGreat
