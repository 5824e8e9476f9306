/- Texts of mine, joined. -/
import Derived.Test.YtnicenfdlfffpaaGreatDoorM4
set_option maxHeartbeats 2000000
namespace Go.Proofs.YtnicenfdlfffpaaGreatDoor
open Go.RowKit
theorem ae9 : ∀ (l : List Bk) (i : Nat) (x : Bk), l[i]? = some x -> ∀ (s : Nat) (u : Bool), aaU (l.set i { x with size := s }) = (aaU l).set (i * 3 + 1) (.int .i64 (s : Int)) /\ aaU (l.set i { x with used := u }) = (aaU l).set (i * 3 + 2) (.bool u)
 | [], i, x, h, s, u => by simp at h
 | y :: r, 0, x, h, s, u => by
  simp at h; subst h; exact ⟨rfl, rfl⟩
 | y :: r, i + 1, x, h, s, u => by
  have ih := ae9 r i x (by simpa using h) s u; constructor
  · rw [List.set_cons_succ, show (i + 1) * 3 + 1 = i * 3 + 1 + 1 + 1 + 1 by omega]; simp only [aaU, List.set_cons_succ, ih.1]
  · rw [List.set_cons_succ, show (i + 1) * 3 + 2 = i * 3 + 2 + 1 + 1 + 1 by omega]; simp only [aaU, List.set_cons_succ, ih.2]
section
variable {F : Nat -> Prop} {w w' : World} {p gl : Nat} {H : Hp} {Vb Vd : Value} {cs : List Value}
theorem adX {base n size b c : Nat} {t : TypeId} {xs : List Value} (h : w.ownsRow base t size (.slice (some ⟨b, 0, none⟩) n c) n xs) (j : Nat) (u : Value) : (w.setCell ⟨b, j, none⟩ u).ownsRow base t size (.slice (some ⟨b, 0, none⟩) n c) n (xs.set j u) := by
 refine ⟨by rw [List.length_set]; exact h.1, .inr ?_⟩; rcases h.2 with ⟨h0, _⟩ | ⟨b', c', cur, hv, hb, hh, h1, h2, h3, h4⟩
 · cases h0
 · injection hv with e1 _ e3; injection e1 with e1; injection e1 with e1; subst e1 e3; refine ⟨b, c, cur.setIfInBounds j u, rfl, hb, heap_setCell_same w b j _ _ u hh, h1, h2, by rw [Array.size_setIfInBounds]; exact h3, ?_⟩; rw [Array.toList_setIfInBounds, List.take_set, h4]
theorem Hm.bcell (h : Hm F w p H Vb Vd gl cs) {b c : Nat} (hV : Vb = .slice (some ⟨b, 0, none⟩) H.blks.length c) (j : Nat) (u : Value) (l : List Bk) (hl : l.length = H.blks.length) (hf : aaU l = (aaU H.blks).set j u) :
 Hm F (w.setCell ⟨b, j, none⟩ u) p { H with blks := l } Vb Vd gl cs := by
 subst hV; obtain ⟨cur, hcur⟩ : ∃ cur, w.heap[b]? = some (.cells cur 81 (0, 0)) := by
  rcases h.ob.2 with ⟨h0, _⟩ | ⟨b', c', cur, hv, _, hh, _⟩
  · cases h0
  · injection hv with e1; injection e1 with e1; injection e1 with e1; subst e1; exact ⟨cur, hh⟩
 have hk : ∀ k, k ≠ b -> (w.setCell ⟨b, j, none⟩ u).heap[k]? = w.heap[k]? := fun k hk => Below.heap_setCell w ⟨b, j, none⟩ u k hk; have hpb : p ≠ b := fun e => by
  have h1 := h.obj; rw [e, hcur] at h1; injection h1 with h1; injection h1 with _ h1 _; exact absurd h1 (by decide)
 have hgb : gl ≠ b := fun e => by
  have h1 := h.row; rw [e, hcur] at h1; injection h1 with h1; injection h1 with _ h1 _; exact absurd h1 (by decide)
 refine ⟨(hk p hpb).trans h.obj, ?_, aaD h.od (fun k e => hk k (abz h.od hcur (by decide) k e)), (hk gl hgb).trans h.row, h.len, fun d hd => ?_, h.fp, h.fl, h.fb, h.fd, h.fi, h.sl⟩
 · dsimp only; rw [hl, hf]; exact adX h.ob j u
 · obtain ⟨v, h1, h2⟩ := h.at_ d hd; exact ⟨v, h1, aaD h2 (fun k e => hk k (abz h2 hcur (by decide) k e))⟩
theorem Hm.useM (h : Hm F w p H Vb Vd gl cs) {b c i : Nat} (hV : Vb = .slice (some ⟨b, 0, none⟩) H.blks.length c) (hi : i < H.blks.length) (u : Bool) : Hm F (w.setCell ⟨b, i * 3 + 2, none⟩ (.bool u)) p (H.use i u) Vb Vd gl cs :=
 h.bcell hV _ _ _ (List.length_set ..) ((ae9 H.blks i _ (aax hi) 0 u).2)
theorem Hm.sizeM (h : Hm F w p H Vb Vd gl cs) {b c i : Nat} (hV : Vb = .slice (some ⟨b, 0, none⟩) H.blks.length c) (hi : i < H.blks.length) (s : Nat) : Hm F (w.setCell ⟨b, i * 3 + 1, none⟩ (.int .i64 (s : Int))) p (H.size i s) Vb Vd gl cs :=
 h.bcell hV _ _ _ (List.length_set ..) ((ae9 H.blks i _ (aax hi) s false).1)
theorem Hm.dcell (h : Hm F w p H Vb Vd gl cs) {b c i : Nat} (hV : Vd = .slice (some ⟨b, 0, none⟩) H.ds.length c) (x : Dt) (hx : ∃ A n c, x.1 = Value.slice A n c) : Hm F (w.setCell ⟨b, i, none⟩ x.1) p { H with ds := H.ds.set i x } Vb Vd gl cs := by
 subst hV; obtain ⟨cur, hcur⟩ : ∃ cur, w.heap[b]? = some (.cells cur 36 (0, 0)) := by
  rcases h.od.2 with ⟨h0, _⟩ | ⟨b', c', cur, hv, _, hh, _⟩
  · cases h0
  · injection hv with e1; injection e1 with e1; injection e1 with e1; subst e1; exact ⟨cur, hh⟩
 have hk : ∀ k, k ≠ b -> (w.setCell ⟨b, i, none⟩ x.1).heap[k]? = w.heap[k]? := fun k hk => Below.heap_setCell w ⟨b, i, none⟩ x.1 k hk; have hpb : p ≠ b := fun e => by
  have h1 := h.obj; rw [e, hcur] at h1; injection h1 with h1; injection h1 with _ h1 _; exact absurd h1 (by decide)
 have hgb : gl ≠ b := fun e => by
  have h1 := h.row; rw [e, hcur] at h1; injection h1 with h1; injection h1 with _ h1 _; exact absurd h1 (by decide)
 refine ⟨(hk p hpb).trans h.obj, aaD h.ob (fun k e => hk k (abz h.ob hcur (by decide) k e)), ?_, (hk gl hgb).trans h.row, h.len, fun d hd => ?_, h.fp, h.fl, h.fb, h.fd, h.fi, fun d hd => ?_⟩
 · dsimp only; rw [List.length_set, List.map_set]; exact adX h.od i _
 · obtain ⟨v, h1, h2⟩ := h.at_ d hd; exact ⟨v, h1, aaD h2 (fun k e => hk k (abz h2 hcur (by decide) k e))⟩
 · rcases List.mem_or_eq_of_mem_set hd with h' | h'
   · exact h.sl d h'
   · rw [h']; exact hx
theorem Hm.wipeM (h : Hm F w p H Vb Vd gl cs) {b c i : Nat} (hV : Vd = .slice (some ⟨b, 0, none⟩) H.ds.length c) : Hm F (w.setCell ⟨b, i, none⟩ (.slice none 0 0)) p (H.wipe i) Vb Vd gl cs := h.dcell hV aaR ⟨_, _, _, rfl⟩
theorem anV {n b c : Nat} {l : List Bk} (h : w.ownsRow 0 81 3 (.slice (some ⟨b, 0, none⟩) n c) n (aaU l)) {i : Nat} {x : Bk} (hx : l[i]? = some x) : (w.cell? ⟨b, i * 3, none⟩ = some (.int .i64 (x.off : Int)) /\ w.cell? ⟨b, i * 3 + 1, none⟩ = some (.int .i64 (x.size : Int)) /\ w.cell? ⟨b, i * 3 + 2, none⟩ = some (.bool x.used)) /\ ∀ j, w.frozen? ⟨b, j, none⟩ = false := by
 obtain ⟨b', c', hv, _, _, _, h1, h2⟩ := ada h hx; injection hv with e1 _ e3; injection e1 with e1; injection e1 with e1; subst e1 e3; exact ⟨h1, h2⟩
structure Hz (F : Nat -> Prop) (w : World) (p : Nat) (F' : Nat -> Prop) (w' : World) (H' : Hp) (Vb Vd : Value) (gl : Nat) (cs : List Value) : Prop where
 hm : Hm F' w' p H' Vb Vd gl cs
 tc : Tch F w w'
 sub : ∀ k, F' k -> F k \/ w.heap.size <= k
section
variable {F' F2 : Nat -> Prop} {w2 : World} {H' H2 : Hp} {Vb2 Vd2 : Value} {gl2 : Nat} {cs2 : List Value}
theorem Hz.start (h : Hm F w p H Vb Vd gl cs) : Hz F w p F w H Vb Vd gl cs := ⟨h, Tch.refl _ _, fun _ h => .inl h⟩
theorem Hz.step (h : Hz F w p F' w' H' Vb Vd gl cs) (t : HT F' w' p H2 w2) : ∃ F2 Vb2 Vd2 gl2 cs2, Hz F w p F2 w2 H2 Vb2 Vd2 gl2 cs2 := by
 obtain ⟨F2, ⟨Vb2, Vd2, gl2, cs2, h2⟩, t2, f2⟩ := t; refine ⟨F2, Vb2, Vd2, gl2, cs2, h2, h.tc.trans t2 (fun i hi h1 => ?_), fun j hj => ?_⟩
 · rcases h.sub i h1 with h | h
   · exact h
   · omega
 · rcases f2 j hj with h' | h'
   · exact h.sub j h'
   · exact .inr (Nat.le_trans h.tc.size h')
theorem Hz.set (h : Hz F w p F' w' H' Vb Vd gl cs) {a : Addr} {u : Value} (ha : F' a.block) (h2 : Hm F' (w'.setCell a u) p H2 Vb2 Vd2 gl2 cs2) : Hz F w p F' (w'.setCell a u) H2 Vb2 Vd2 gl2 cs2 := by
 refine ⟨h2, h.tc.trans (Tch.set (S := F') w' a u ha) (fun i hi h1 => ?_), h.sub⟩; rcases h.sub i h1 with h | h
 · exact h
 · omega
theorem Hz.below (h : Hz F w p F' w' H' Vb Vd gl cs) (hb : Below w'.heap.size w' w2) : Hz F w p F' w2 H' Vb Vd gl cs :=
 ⟨h.hm.below hb, h.tc.trans (Tch.of_below (S := F) hb) (fun _ _ h => h), h.sub⟩
theorem Hz.fin (h : Hz F w p F' w' H' Vb Vd gl cs) : HT F w p H' w' := ⟨F', ⟨_, _, _, _, h.hm⟩, h.tc, h.sub⟩
theorem Hz.last (h : Hz F w p F' w' H' Vb Vd gl cs) (t : HT F' w' p H2 w2) : HT F w p H2 w2 := by
 obtain ⟨_, _, _, _, _, h2⟩ := h.step t; exact h2.fin
end
theorem agE (h : Hm F w p H Vb Vd gl cs) (i : Nat) (hi : i <= H.blks.length) (hn : H.blks.length <= 100000) (hdl : H.ds.length = H.blks.length) (x : Bk) :
 Calls Tryz.prog 99 #[.pointer (some ⟨p, 0, none⟩), .int .i64 (i : Int), .agg #[.int .i64 (x.off : Int), .int .i64 (x.size : Int), .bool x.used]] w fun e w' => e = .returned (.tuple #[]) /\ HT F w p (H.put i x) w' := by
 exact amE H.blks.length i h rfl hi hn hdl x
end
theorem acX {H : Hp} {i : Nat} (h : aaH ((H.use i false).wipe i).blks i = false) : H.give i = ((H.use i false).wipe i).giveC i := by
 unfold Hp.give Hp.giveB; rw [h, if_neg (by decide)]
theorem afa {H : Hp} {i : Nat} (h : aaH ((H.use i false).wipe i).blks i = true) : H.give i = ((((H.use i false).wipe i).out (i + 1)).join i).giveC i := by
 unfold Hp.give Hp.giveB; rw [if_pos h]
theorem acC {H : Hp} {i : Nat} (h : ab5 H.blks i = false) : H.giveC i = H.in_ i := by
 unfold Hp.giveC; rw [h, if_neg (by decide)]
theorem aet {H : Hp} {i : Nat} (h : ab5 H.blks i = true) : H.giveC i = ((H.out (i - 1)).join (i - 1)).in_ (i - 1) := by
 unfold Hp.giveC; rw [if_pos h]
theorem aas {w : World} {base n m size b c : Nat} {t : TypeId} {xs : List Value} (h : w.ownsRow base t size (.slice (some ⟨b, 0, none⟩) m c) n xs) (j : Nat) : w.frozen? ⟨b, j, none⟩ = false := by
 rcases h.2 with ⟨h0, _⟩ | ⟨b', c', cur, hv, _, hh, _⟩
 · cases h0
 · injection hv with e1; injection e1 with e1; injection e1 with e1; subst e1; exact frozen_of_row w b j _ _ hh
section
variable {F : Nat -> Prop} {w w' : World} {p gl : Nat} {H : Hp} {Vb Vd : Value} {cs : List Value}
theorem aaW {w : World} {base n b c : Nat} {t : TypeId} {xs : List Value} (h : w.ownsRow base t 1 (.slice (some ⟨b, 0, none⟩) n c) n xs) {j : Nat} (hj : j < n) : ∃ v, w.cell? ⟨b, j, none⟩ = some v /\ xs[j]? = some v := by
 have hl := h.1; rw [Nat.mul_one] at hl; exact ⟨xs[j]'(by omega), by rw [h.cellAt j (by omega)]; exact List.getElem?_eq_getElem _, List.getElem?_eq_getElem _⟩
theorem Hm.at_n {n b c : Nat} (h : Hm F w p H (.slice (some ⟨b, 0, none⟩) n c) Vd gl cs) (hn : H.blks.length = n) {i : Nat} (hi : i < n) : w.cell? ⟨b, i * 3, none⟩ = some (.int .i64 ((aag H.blks i).off : Int)) /\ w.cell? ⟨b, i * 3 + 1, none⟩ = some (.int .i64 ((aag H.blks i).size : Int)) /\ w.cell? ⟨b, i * 3 + 2, none⟩ = some (.bool (aag H.blks i).used) := by
 have e := h.ob; rw [hn] at e; exact (anV e (aax (by omega))).1
theorem amF (h : Hm F w p H Vb Vd gl cs) (hok : H.Ok) (N : Nat) (hf : H.Few N) (hN : N <= 50000) (i : Nat) (hi : i < H.blks.length) (hE : H.blks.length <= i + 1) (hZ : i = 0) :
 Calls Tryz.prog 37 #[.pointer (some ⟨p, 0, none⟩), .int .i64 (i : Int)] w fun e w' => e = .returned (.tuple #[]) /\ HT F w p (H.give i) w' := by
 obtain ⟨b1, c1, rfl, hb1, hnc1, _⟩ := aav h.ob (by omega); obtain ⟨b2, c2, rfl, hb2, hnc2, _⟩ := aav h.od (by rw [hok.dl]; omega); have hn512 := hok.n; have z1 := (Hz.start h).set (a := ⟨b1, i * 3 + 2, none⟩) (u := .bool false) (h.fb b1 rfl) (h.useM rfl hi false); have z2 := z1.set (a := ⟨b2, i, none⟩) (u := .slice none 0 0) (h.fd b2 rfl) (z1.hm.wipeM (i := i) rfl); obtain ⟨w1, hw1⟩ := nmE (w.setCell ⟨b1, i * 3 + 2, none⟩ (.bool false)); rw [hw1] at z1 z2; obtain ⟨w2, hw2⟩ := nmE (w1.setCell ⟨b2, i, none⟩ (.slice none 0 0)); rw [hw2] at z2; have ok1 : ((H.use i false).wipe i).Ok := (hok.use hi false).wipe; have fw1 : ((H.use i false).wipe i).Few N := hf; have bl1 : ∀ k, aag ((H.use i false).wipe i).blks k = if k = i then { aag H.blks i with used := false } else aag H.blks k := fun k => aa3 H.blks i k _ hi
 have ln1 : ((H.use i false).wipe i).blks.length = H.blks.length := List.length_set ..; have dl1 : ((H.use i false).wipe i).ds.length = H.blks.length := ok1.dl.trans ln1; have hnx : aaH ((H.use i false).wipe i).blks i = false := by unfold aaH; rw [ln1, decide_eq_false (by omega)]; rfl
 have hgv := acX hnx; clear hnx; obtain ⟨H1, hH1⟩ := nmE ((H.use i false).wipe i); rw [hH1] at hgv z2 ok1 fw1 bl1 ln1 dl1; obtain ⟨n, hn⟩ := nmE H.blks.length; have hdl0 : H.ds.length = n := hok.dl.trans hn; rw [hn] at ln1 dl1 hi hnc1 hE hn512; have q1 := h.c1; rw [hn] at q1; have f1 := aas h.ob (i * 3 + 2); have q2 : w1.cell? ⟨p, 2, none⟩ = some (.slice (some ⟨b2, 0, none⟩) n c2) := by have e := z1.hm.c2; rw [hdl0] at e; exact e
 have f2 := aas z1.hm.od i; obtain ⟨_, q1b⟩ : ∃ u, w.cell? ⟨b1, i * 3 + 2, none⟩ = some u := ⟨_, (h.at_n rfl (by omega)).2.2⟩; obtain ⟨_, q2b, _⟩ := aaW z1.hm.od (j := i) (by show i < H.ds.length; omega); have q3 : w2.cell? ⟨p, 1, none⟩ = some (.slice (some ⟨b1, 0, none⟩) n c1) := by have e := z2.hm.c1; rw [hn] at e; exact e
 rw [hn, hdl0] at z2; have HW1 := hE0 hw1; have HW2 := hE0 hw2; have hin : (i : Int) < (n : Int) := by omega
 have hie : (n : Int) <= (i : Int) + 1 := by omega
 have hiz : (i : Int) <= 0 := by omega
 have HZ := hE0 hZ; have HGV := hE0 hgv; have HOK1 := hE0 ok1; have HFW1 := hE0 fw1; have HBL1 := hE0 bl1; have HLN1 := hE0 ln1; have HDL1 := hE0 dl1; have HN := hE0 hn; have Z2 := hE0 z2; clear h hok hf hb1 hb2 hw1 hw2 hH1 hZ hgv ok1 fw1 bl1 ln1 dl1 hn z1 z2 hE hdl0; go_enter Tryz.func37, Tryz.ntmps37
 go_wp2_with (first | (rw [HW1.out]) | (rw [HW2.out]) | fail)
 have hprev : ab5 H1.blks i = false := by unfold ab5; rw [decide_eq_false (by omega)]; rfl
 refine (acS Z2.out.hm i (by rw [HLN1.out]; omega) (HOK1.out.sz (by rw [HLN1.out]; omega)) (fun d hd => Nat.le_trans (HFW1.out d hd) (by omega))).mono ?_; rintro e w9 ⟨rfl, ht⟩; have hto : HT F w p (H.give i) w9 := by
  rw [HGV.out, acC hprev]; exact Z2.out.last ht
 have HTO := hE0 hto; clear hto ht hprev q3; go_wp2
 go_end0
 exact ⟨rfl, HTO.out⟩
theorem amG (h : Hm F w p H Vb Vd gl cs) (hok : H.Ok) (N : Nat) (hf : H.Few N) (hN : N <= 50000) (i : Nat) (hi : i < H.blks.length) (hE : H.blks.length <= i + 1) (j : Nat) (hZ : i = j + 1) (hP : (aag H.blks j).used = true) :
 Calls Tryz.prog 37 #[.pointer (some ⟨p, 0, none⟩), .int .i64 (i : Int)] w fun e w' => e = .returned (.tuple #[]) /\ HT F w p (H.give i) w' := by
 obtain ⟨b1, c1, rfl, hb1, hnc1, _⟩ := aav h.ob (by omega); obtain ⟨b2, c2, rfl, hb2, hnc2, _⟩ := aav h.od (by rw [hok.dl]; omega); have hn512 := hok.n; have z1 := (Hz.start h).set (a := ⟨b1, i * 3 + 2, none⟩) (u := .bool false) (h.fb b1 rfl) (h.useM rfl hi false); have z2 := z1.set (a := ⟨b2, i, none⟩) (u := .slice none 0 0) (h.fd b2 rfl) (z1.hm.wipeM (i := i) rfl); obtain ⟨w1, hw1⟩ := nmE (w.setCell ⟨b1, i * 3 + 2, none⟩ (.bool false)); rw [hw1] at z1 z2; obtain ⟨w2, hw2⟩ := nmE (w1.setCell ⟨b2, i, none⟩ (.slice none 0 0)); rw [hw2] at z2; have ok1 : ((H.use i false).wipe i).Ok := (hok.use hi false).wipe; have fw1 : ((H.use i false).wipe i).Few N := hf; have bl1 : ∀ k, aag ((H.use i false).wipe i).blks k = if k = i then { aag H.blks i with used := false } else aag H.blks k := fun k => aa3 H.blks i k _ hi
 have ln1 : ((H.use i false).wipe i).blks.length = H.blks.length := List.length_set ..; have dl1 : ((H.use i false).wipe i).ds.length = H.blks.length := ok1.dl.trans ln1; have hnx : aaH ((H.use i false).wipe i).blks i = false := by unfold aaH; rw [ln1, decide_eq_false (by omega)]; rfl
 have hgv := acX hnx; clear hnx; obtain ⟨H1, hH1⟩ := nmE ((H.use i false).wipe i); rw [hH1] at hgv z2 ok1 fw1 bl1 ln1 dl1; obtain ⟨n, hn⟩ := nmE H.blks.length; have hdl0 : H.ds.length = n := hok.dl.trans hn; rw [hn] at ln1 dl1 hi hnc1 hE hn512; have q1 := h.c1; rw [hn] at q1; have f1 := aas h.ob (i * 3 + 2); have q2 : w1.cell? ⟨p, 2, none⟩ = some (.slice (some ⟨b2, 0, none⟩) n c2) := by have e := z1.hm.c2; rw [hdl0] at e; exact e
 have f2 := aas z1.hm.od i; obtain ⟨_, q1b⟩ : ∃ u, w.cell? ⟨b1, i * 3 + 2, none⟩ = some u := ⟨_, (h.at_n rfl (by omega)).2.2⟩; obtain ⟨_, q2b, _⟩ := aaW z1.hm.od (j := i) (by show i < H.ds.length; omega); have q3 : w2.cell? ⟨p, 1, none⟩ = some (.slice (some ⟨b1, 0, none⟩) n c1) := by have e := z2.hm.c1; rw [hn] at e; exact e
 rw [hn, hdl0] at z2; have HW1 := hE0 hw1; have HW2 := hE0 hw2; have hin : (i : Int) < (n : Int) := by omega
 have hie : (n : Int) <= (i : Int) + 1 := by omega
 have hiz : 0 < (i : Int) := by omega
 have hji : j < i := by omega
 have hjz : (i : Int) - 1 = (j : Int) := by omega
 have bj := bl1 j; rw [if_neg (by omega)] at bj; have HZ := hE0 hZ; have HGV := hE0 hgv; have HOK1 := hE0 ok1; have HFW1 := hE0 fw1; have HBL1 := hE0 bl1; have HLN1 := hE0 ln1; have HDL1 := hE0 dl1; have HN := hE0 hn; have Z2 := hE0 z2; have HBJ := hE0 bj; have HP := hE0 hP; clear bj hP; clear h hok hf hb1 hb2 hw1 hw2 hH1 hZ hgv ok1 fw1 bl1 ln1 dl1 hn z1 z2 hE hdl0; have q5 := (Z2.out.hm.at_n HLN1.out (i := j) (by omega)).2.2; rw [HBJ.out, HP.out] at q5; go_enter Tryz.func37, Tryz.ntmps37
 go_wp2_with (first | (rw [HW1.out]) | (rw [HW2.out]) | fail)
 have hprev : ab5 H1.blks i = false := by unfold ab5; rw [show i - 1 = j by omega, HBJ.out, HP.out, Bool.not_true, Bool.and_false]
 refine (acS Z2.out.hm i (by rw [HLN1.out]; omega) (HOK1.out.sz (by rw [HLN1.out]; omega)) (fun d hd => Nat.le_trans (HFW1.out d hd) (by omega))).mono ?_; rintro e w9 ⟨rfl, ht⟩; have hto : HT F w p (H.give i) w9 := by
  rw [HGV.out, acC hprev]; exact Z2.out.last ht
 have HTO := hE0 hto; clear hto ht hprev q3; go_wp2
 go_end0
 exact ⟨rfl, HTO.out⟩
theorem amH (h : Hm F w p H Vb Vd gl cs) (hok : H.Ok) (N : Nat) (hf : H.Few N) (hN : N <= 50000) (i : Nat) (hi : i < H.blks.length) (hE : H.blks.length <= i + 1) (j : Nat) (hZ : i = j + 1) (hP : (aag H.blks j).used = false) :
 Calls Tryz.prog 37 #[.pointer (some ⟨p, 0, none⟩), .int .i64 (i : Int)] w fun e w' => e = .returned (.tuple #[]) /\ HT F w p (H.give i) w' := by
 obtain ⟨b1, c1, rfl, hb1, hnc1, _⟩ := aav h.ob (by omega); obtain ⟨b2, c2, rfl, hb2, hnc2, _⟩ := aav h.od (by rw [hok.dl]; omega); have hn512 := hok.n; have z1 := (Hz.start h).set (a := ⟨b1, i * 3 + 2, none⟩) (u := .bool false) (h.fb b1 rfl) (h.useM rfl hi false); have z2 := z1.set (a := ⟨b2, i, none⟩) (u := .slice none 0 0) (h.fd b2 rfl) (z1.hm.wipeM (i := i) rfl); obtain ⟨w1, hw1⟩ := nmE (w.setCell ⟨b1, i * 3 + 2, none⟩ (.bool false)); rw [hw1] at z1 z2; obtain ⟨w2, hw2⟩ := nmE (w1.setCell ⟨b2, i, none⟩ (.slice none 0 0)); rw [hw2] at z2; have ok1 : ((H.use i false).wipe i).Ok := (hok.use hi false).wipe; have fw1 : ((H.use i false).wipe i).Few N := hf; have bl1 : ∀ k, aag ((H.use i false).wipe i).blks k = if k = i then { aag H.blks i with used := false } else aag H.blks k := fun k => aa3 H.blks i k _ hi
 have ln1 : ((H.use i false).wipe i).blks.length = H.blks.length := List.length_set ..; have dl1 : ((H.use i false).wipe i).ds.length = H.blks.length := ok1.dl.trans ln1; have hnx : aaH ((H.use i false).wipe i).blks i = false := by unfold aaH; rw [ln1, decide_eq_false (by omega)]; rfl
 have hgv := acX hnx; clear hnx; obtain ⟨H1, hH1⟩ := nmE ((H.use i false).wipe i); rw [hH1] at hgv z2 ok1 fw1 bl1 ln1 dl1; obtain ⟨n, hn⟩ := nmE H.blks.length; have hdl0 : H.ds.length = n := hok.dl.trans hn; rw [hn] at ln1 dl1 hi hnc1 hE hn512; have q1 := h.c1; rw [hn] at q1; have f1 := aas h.ob (i * 3 + 2); have q2 : w1.cell? ⟨p, 2, none⟩ = some (.slice (some ⟨b2, 0, none⟩) n c2) := by have e := z1.hm.c2; rw [hdl0] at e; exact e
 have f2 := aas z1.hm.od i; obtain ⟨_, q1b⟩ : ∃ u, w.cell? ⟨b1, i * 3 + 2, none⟩ = some u := ⟨_, (h.at_n rfl (by omega)).2.2⟩; obtain ⟨_, q2b, _⟩ := aaW z1.hm.od (j := i) (by show i < H.ds.length; omega); have q3 : w2.cell? ⟨p, 1, none⟩ = some (.slice (some ⟨b1, 0, none⟩) n c1) := by have e := z2.hm.c1; rw [hn] at e; exact e
 rw [hn, hdl0] at z2; have HW1 := hE0 hw1; have HW2 := hE0 hw2; have hin : (i : Int) < (n : Int) := by omega
 have hie : (n : Int) <= (i : Int) + 1 := by omega
 have hiz : 0 < (i : Int) := by omega
 have hji : j < i := by omega
 have hjz : (i : Int) - 1 = (j : Int) := by omega
 have bj := bl1 j; rw [if_neg (by omega)] at bj; have HZ := hE0 hZ; have HGV := hE0 hgv; have HOK1 := hE0 ok1; have HFW1 := hE0 fw1; have HBL1 := hE0 bl1; have HLN1 := hE0 ln1; have HDL1 := hE0 dl1; have HN := hE0 hn; have Z2 := hE0 z2; have HBJ := hE0 bj; have HP := hE0 hP; clear bj hP; clear h hok hf hb1 hb2 hw1 hw2 hH1 hZ hgv ok1 fw1 bl1 ln1 dl1 hn z1 z2 hE hdl0; have q5 := (Z2.out.hm.at_n HLN1.out (i := j) (by omega)).2.2; rw [HBJ.out, HP.out] at q5; go_enter Tryz.func37, Tryz.ntmps37
 go_wp2_with (first | (rw [HW1.out]) | (rw [HW2.out]) | fail)
 have hprev : ab5 H1.blks i = true := by unfold ab5; rw [show i - 1 = j by omega, HBJ.out, HP.out, decide_eq_true (by omega)]; rfl
 clear q5; refine (abA Z2.out.hm j (by rw [HLN1.out]; omega) (HOK1.out.sz (by rw [HLN1.out]; omega)) (fun d hd => Nat.le_trans (HFW1.out d hd) (by omega))).mono ?_; rintro e w6 ⟨rfl, ht⟩; obtain ⟨F6, Vb6, Vd6, gl6, cs6, z6⟩ := Z2.out.step ht; obtain ⟨b6, c6, rfl, hb6, hnc6, _⟩ := aav z6.hm.ob (by show 0 < H1.blks.length; rw [HLN1.out]; omega); have e6 : (H1.out j).blks.length = n := HLN1.out; rw [e6] at z6 hnc6; obtain ⟨wx, hwx⟩ := nmE w6.drew; have hbx := adE hwx; have zx := z6.below hbx; have r1 := zx.hm.c1; have r2 := (zx.hm.at_n e6 (i := j) (by omega)).2.1; have r3 := (zx.hm.at_n e6 (i := i) (by omega)).2.1; have rf := aas zx.hm.ob (j * 3 + 1); have hpx := zx.hm.lt; have hbx6 : b6 < wx.heap.size := own_lt zx.hm.ob rfl; obtain ⟨s5, hs5⟩ := nmE ((aag (H1.out j).blks j).size); obtain ⟨s6, hs6⟩ := nmE ((aag (H1.out j).blks i).size); rw [hs5] at r2; rw [hs6] at r3; have z7 := zx.set (a := ⟨b6, j * 3 + 1, none⟩) (u := .int .i64 ((s5 + s6 : Nat) : Int)) (zx.hm.fb b6 rfl) (zx.hm.sizeM (by rw [e6]) (by rw [e6]; omega) (s5 + s6)); rw [Int.natCast_add] at z7; have hs56 : s5 + s6 <= 16384 := by
  have e := (HOK1.out.two (i := j) (by rw [HLN1.out]; omega)).2; rw [<- HZ.out] at e; rw [<- hs5, <- hs6]; exact e
 obtain ⟨w7, hw7⟩ := nmE (wx.setCell ⟨b6, j * 3 + 1, none⟩ (.int .i64 ((s5 : Int) + (s6 : Int)))); rw [hw7] at z7; have HW7 := hE0 hw7; have HWX := hE0 hwx; have Z7 := hE0 z7; have HS5 := hE0 hs5; have HS6 := hE0 hs6; have HRX := hE0 rf; have HPV := hE0 hprev; clear z6 zx z7 hw7 hwx hs5 hs6 ht hb6 rf hprev q3; go_wp2_with fail
 refine aan wx.heap.size (.fin [0, 1, 2, 3, 4, 5, 6, 7, 8, 9, 10, 11, 12, 13, 14, 15, 16, 17, 18, 19, 20, 21, 22, 23, 24, 25]) [26] (by kernel_rfl) (by kernel_rfl) (by kernel_rfl) (fun _ _ _ _ _ h => h) ?_; rw [HWX.out]; have t1 := tfE r1 hpx; have t2 := tfE r2 hbx6; have t3 := tfE r3 hbx6; refine aaO (l := ?laBEY) (t := ?tlBEY) ?hlaBEY ?htlBEY ?_
 case hlaBEY => simp only [pick, lE1, lE2, lE3]; rfl
 case htlBEY => simp only [pick, lE1, lE2, lE3]; rfl
 repeat (go_big_quiet_step (fail))
 refine wpQuiet_nil ?_; clear t1 t2 t3 r1 r3; have rf := HRX.out; go_wp2_with (first | (rw [HW7.out]) | fail)
 clear rf r2; have lnT : (((H1.out j).size j (s5 + s6))).blks.length = n := (List.length_set ..).trans HLN1.out; refine (acm Z7.out.hm i (by rw [lnT]; omega) (by rw [lnT]; omega) (HDL1.out.trans lnT.symm)).mono ?_; rintro e w8 ⟨rfl, ht⟩; obtain ⟨F8, Vb8, Vd8, gl8, cs8, z8⟩ := Z7.out.step ht; have eK : (((H1.out j).size j (s5 + s6))).drop i = (H1.out j).join j := by
  show _ = ((H1.out j).size j _).drop (j + 1); rw [<- HZ.out, HS5.out, HS6.out]
 rw [eK] at z8; have ok3 : ((H1.out j).join j).Ok := (Hp.Ok.out (i := j) HOK1.out).join (by rw [e6]; omega); have fw3 : ((H1.out j).join j).Few N := Hp.Few.out (i := j) HFW1.out; have jb := (acR (H1.out j) (i := j) (by rw [e6]; omega)).1; have hg3 := aet HPV.out; rw [show i - 1 = j by omega] at hg3; obtain ⟨H3, hH3⟩ := nmE ((H1.out j).join j); rw [hH3] at z8 ok3 fw3 jb hg3; have hgf := HGV.out; rw [hg3] at hgf; have HGF := hE0 hgf; have HOK3 := hE0 ok3; have HFW3 := hE0 fw3; have HJB := hE0 jb; have Z8 := hE0 z8; clear hgf hg3 ok3 fw3 jb z8 hH3 ht eK lnT e6 Z7 HW7 HWX HRX; go_wp2_with fail
 refine (acS Z8.out.hm j HJB.out (HOK3.out.sz HJB.out) (fun d hd => Nat.le_trans (HFW3.out d hd) (by omega))).mono ?_; rintro e w9 ⟨rfl, ht⟩; have hto : HT F w p (H.give i) w9 := by
  rw [HGF.out]; exact Z8.out.last ht
 have HTO := hE0 hto; clear hto ht; go_wp2
 go_end0
 exact ⟨rfl, HTO.out⟩
theorem amI (h : Hm F w p H Vb Vd gl cs) (hok : H.Ok) (N : Nat) (hf : H.Few N) (hN : N <= 50000) (i : Nat) (hi : i < H.blks.length) (hE : i + 1 < H.blks.length) (hU : (aag H.blks (i + 1)).used = true) (hZ : i = 0) :
 Calls Tryz.prog 37 #[.pointer (some ⟨p, 0, none⟩), .int .i64 (i : Int)] w fun e w' => e = .returned (.tuple #[]) /\ HT F w p (H.give i) w' := by
 obtain ⟨b1, c1, rfl, hb1, hnc1, _⟩ := aav h.ob (by omega); obtain ⟨b2, c2, rfl, hb2, hnc2, _⟩ := aav h.od (by rw [hok.dl]; omega); have hn512 := hok.n; have z1 := (Hz.start h).set (a := ⟨b1, i * 3 + 2, none⟩) (u := .bool false) (h.fb b1 rfl) (h.useM rfl hi false); have z2 := z1.set (a := ⟨b2, i, none⟩) (u := .slice none 0 0) (h.fd b2 rfl) (z1.hm.wipeM (i := i) rfl); obtain ⟨w1, hw1⟩ := nmE (w.setCell ⟨b1, i * 3 + 2, none⟩ (.bool false)); rw [hw1] at z1 z2; obtain ⟨w2, hw2⟩ := nmE (w1.setCell ⟨b2, i, none⟩ (.slice none 0 0)); rw [hw2] at z2; have ok1 : ((H.use i false).wipe i).Ok := (hok.use hi false).wipe; have fw1 : ((H.use i false).wipe i).Few N := hf; have bl1 : ∀ k, aag ((H.use i false).wipe i).blks k = if k = i then { aag H.blks i with used := false } else aag H.blks k := fun k => aa3 H.blks i k _ hi
 have ln1 : ((H.use i false).wipe i).blks.length = H.blks.length := List.length_set ..; have dl1 : ((H.use i false).wipe i).ds.length = H.blks.length := ok1.dl.trans ln1; have hnx : aaH ((H.use i false).wipe i).blks i = false := by unfold aaH; rw [bl1, if_neg (by omega), hU, Bool.not_true, Bool.and_false]
 have hgv := acX hnx; clear hnx; obtain ⟨H1, hH1⟩ := nmE ((H.use i false).wipe i); rw [hH1] at hgv z2 ok1 fw1 bl1 ln1 dl1; obtain ⟨n, hn⟩ := nmE H.blks.length; have u2 := bl1 (i + 1); rw [if_neg (by omega)] at u2; have hdl0 : H.ds.length = n := hok.dl.trans hn; rw [hn] at ln1 dl1 hi hnc1 hE hn512; have q1 := h.c1; rw [hn] at q1; have f1 := aas h.ob (i * 3 + 2); have q2 : w1.cell? ⟨p, 2, none⟩ = some (.slice (some ⟨b2, 0, none⟩) n c2) := by have e := z1.hm.c2; rw [hdl0] at e; exact e
 have f2 := aas z1.hm.od i; obtain ⟨_, q1b⟩ : ∃ u, w.cell? ⟨b1, i * 3 + 2, none⟩ = some u := ⟨_, (h.at_n rfl (by omega)).2.2⟩; obtain ⟨_, q2b, _⟩ := aaW z1.hm.od (j := i) (by show i < H.ds.length; omega); have q3 : w2.cell? ⟨p, 1, none⟩ = some (.slice (some ⟨b1, 0, none⟩) n c1) := by have e := z2.hm.c1; rw [hn] at e; exact e
 rw [hn, hdl0] at z2; obtain ⟨k, hk⟩ : ∃ k : Nat, (i : Int) + 1 = (k : Int) := ⟨i + 1, by omega⟩; have HK : Hid (k = i + 1) := (show _ = _ by omega); have q4 := (z2.hm.at_n ln1 (i := i + 1) (by omega)).2.2; rw [u2, hU, <- HK.out] at q4; have HW1 := hE0 hw1; have HW2 := hE0 hw2; have hin : (i : Int) < (n : Int) := by omega
 have hie : (i : Int) + 1 < (n : Int) := by omega
 have hiz : (i : Int) <= 0 := by omega
 have HZ := hE0 hZ; have HGV := hE0 hgv; have HOK1 := hE0 ok1; have HFW1 := hE0 fw1; have HBL1 := hE0 bl1; have HLN1 := hE0 ln1; have HDL1 := hE0 dl1; have HN := hE0 hn; have Z2 := hE0 z2; have HU2 := hE0 u2; have HU := hE0 hU; clear u2 hU; clear h hok hf hb1 hb2 hw1 hw2 hH1 hZ hgv ok1 fw1 bl1 ln1 dl1 hn z1 z2 hE hdl0; go_enter Tryz.func37, Tryz.ntmps37
 go_wp2_with (first | (rw [HW1.out]) | (rw [HW2.out]) | fail)
 have hprev : ab5 H1.blks i = false := by unfold ab5; rw [decide_eq_false (by omega)]; rfl
 refine (acS Z2.out.hm i (by rw [HLN1.out]; omega) (HOK1.out.sz (by rw [HLN1.out]; omega)) (fun d hd => Nat.le_trans (HFW1.out d hd) (by omega))).mono ?_; rintro e w9 ⟨rfl, ht⟩; have hto : HT F w p (H.give i) w9 := by
  rw [HGV.out, acC hprev]; exact Z2.out.last ht
 have HTO := hE0 hto; clear hto ht hprev q3; go_wp2
 go_end0
 exact ⟨rfl, HTO.out⟩
theorem amJ (h : Hm F w p H Vb Vd gl cs) (hok : H.Ok) (N : Nat) (hf : H.Few N) (hN : N <= 50000) (i : Nat) (hi : i < H.blks.length) (hE : i + 1 < H.blks.length) (hU : (aag H.blks (i + 1)).used = true) (j : Nat) (hZ : i = j + 1) (hP : (aag H.blks j).used = true) :
 Calls Tryz.prog 37 #[.pointer (some ⟨p, 0, none⟩), .int .i64 (i : Int)] w fun e w' => e = .returned (.tuple #[]) /\ HT F w p (H.give i) w' := by
 obtain ⟨b1, c1, rfl, hb1, hnc1, _⟩ := aav h.ob (by omega); obtain ⟨b2, c2, rfl, hb2, hnc2, _⟩ := aav h.od (by rw [hok.dl]; omega); have hn512 := hok.n; have z1 := (Hz.start h).set (a := ⟨b1, i * 3 + 2, none⟩) (u := .bool false) (h.fb b1 rfl) (h.useM rfl hi false); have z2 := z1.set (a := ⟨b2, i, none⟩) (u := .slice none 0 0) (h.fd b2 rfl) (z1.hm.wipeM (i := i) rfl); obtain ⟨w1, hw1⟩ := nmE (w.setCell ⟨b1, i * 3 + 2, none⟩ (.bool false)); rw [hw1] at z1 z2; obtain ⟨w2, hw2⟩ := nmE (w1.setCell ⟨b2, i, none⟩ (.slice none 0 0)); rw [hw2] at z2; have ok1 : ((H.use i false).wipe i).Ok := (hok.use hi false).wipe; have fw1 : ((H.use i false).wipe i).Few N := hf; have bl1 : ∀ k, aag ((H.use i false).wipe i).blks k = if k = i then { aag H.blks i with used := false } else aag H.blks k := fun k => aa3 H.blks i k _ hi
 have ln1 : ((H.use i false).wipe i).blks.length = H.blks.length := List.length_set ..; have dl1 : ((H.use i false).wipe i).ds.length = H.blks.length := ok1.dl.trans ln1; have hnx : aaH ((H.use i false).wipe i).blks i = false := by unfold aaH; rw [bl1, if_neg (by omega), hU, Bool.not_true, Bool.and_false]
 have hgv := acX hnx; clear hnx; obtain ⟨H1, hH1⟩ := nmE ((H.use i false).wipe i); rw [hH1] at hgv z2 ok1 fw1 bl1 ln1 dl1; obtain ⟨n, hn⟩ := nmE H.blks.length; have u2 := bl1 (i + 1); rw [if_neg (by omega)] at u2; have hdl0 : H.ds.length = n := hok.dl.trans hn; rw [hn] at ln1 dl1 hi hnc1 hE hn512; have q1 := h.c1; rw [hn] at q1; have f1 := aas h.ob (i * 3 + 2); have q2 : w1.cell? ⟨p, 2, none⟩ = some (.slice (some ⟨b2, 0, none⟩) n c2) := by have e := z1.hm.c2; rw [hdl0] at e; exact e
 have f2 := aas z1.hm.od i; obtain ⟨_, q1b⟩ : ∃ u, w.cell? ⟨b1, i * 3 + 2, none⟩ = some u := ⟨_, (h.at_n rfl (by omega)).2.2⟩; obtain ⟨_, q2b, _⟩ := aaW z1.hm.od (j := i) (by show i < H.ds.length; omega); have q3 : w2.cell? ⟨p, 1, none⟩ = some (.slice (some ⟨b1, 0, none⟩) n c1) := by have e := z2.hm.c1; rw [hn] at e; exact e
 rw [hn, hdl0] at z2; obtain ⟨k, hk⟩ : ∃ k : Nat, (i : Int) + 1 = (k : Int) := ⟨i + 1, by omega⟩; have HK : Hid (k = i + 1) := (show _ = _ by omega); have q4 := (z2.hm.at_n ln1 (i := i + 1) (by omega)).2.2; rw [u2, hU, <- HK.out] at q4; have HW1 := hE0 hw1; have HW2 := hE0 hw2; have hin : (i : Int) < (n : Int) := by omega
 have hie : (i : Int) + 1 < (n : Int) := by omega
 have hiz : 0 < (i : Int) := by omega
 have hji : j < i := by omega
 have hjz : (i : Int) - 1 = (j : Int) := by omega
 have bj := bl1 j; rw [if_neg (by omega)] at bj; have HZ := hE0 hZ; have HGV := hE0 hgv; have HOK1 := hE0 ok1; have HFW1 := hE0 fw1; have HBL1 := hE0 bl1; have HLN1 := hE0 ln1; have HDL1 := hE0 dl1; have HN := hE0 hn; have Z2 := hE0 z2; have HBJ := hE0 bj; have HP := hE0 hP; clear bj hP; have HU2 := hE0 u2; have HU := hE0 hU; clear u2 hU; clear h hok hf hb1 hb2 hw1 hw2 hH1 hZ hgv ok1 fw1 bl1 ln1 dl1 hn z1 z2 hE hdl0; have q5 := (Z2.out.hm.at_n HLN1.out (i := j) (by omega)).2.2; rw [HBJ.out, HP.out] at q5; go_enter Tryz.func37, Tryz.ntmps37
 go_wp2_with (first | (rw [HW1.out]) | (rw [HW2.out]) | fail)
 have hprev : ab5 H1.blks i = false := by unfold ab5; rw [show i - 1 = j by omega, HBJ.out, HP.out, Bool.not_true, Bool.and_false]
 refine (acS Z2.out.hm i (by rw [HLN1.out]; omega) (HOK1.out.sz (by rw [HLN1.out]; omega)) (fun d hd => Nat.le_trans (HFW1.out d hd) (by omega))).mono ?_; rintro e w9 ⟨rfl, ht⟩; have hto : HT F w p (H.give i) w9 := by
  rw [HGV.out, acC hprev]; exact Z2.out.last ht
 have HTO := hE0 hto; clear hto ht hprev q3; go_wp2
 go_end0
 exact ⟨rfl, HTO.out⟩
theorem amK (h : Hm F w p H Vb Vd gl cs) (hok : H.Ok) (N : Nat) (hf : H.Few N) (hN : N <= 50000) (i : Nat) (hi : i < H.blks.length) (hE : i + 1 < H.blks.length) (hU : (aag H.blks (i + 1)).used = true) (j : Nat) (hZ : i = j + 1) (hP : (aag H.blks j).used = false) :
 Calls Tryz.prog 37 #[.pointer (some ⟨p, 0, none⟩), .int .i64 (i : Int)] w fun e w' => e = .returned (.tuple #[]) /\ HT F w p (H.give i) w' := by
 obtain ⟨b1, c1, rfl, hb1, hnc1, _⟩ := aav h.ob (by omega); obtain ⟨b2, c2, rfl, hb2, hnc2, _⟩ := aav h.od (by rw [hok.dl]; omega); have hn512 := hok.n; have z1 := (Hz.start h).set (a := ⟨b1, i * 3 + 2, none⟩) (u := .bool false) (h.fb b1 rfl) (h.useM rfl hi false); have z2 := z1.set (a := ⟨b2, i, none⟩) (u := .slice none 0 0) (h.fd b2 rfl) (z1.hm.wipeM (i := i) rfl); obtain ⟨w1, hw1⟩ := nmE (w.setCell ⟨b1, i * 3 + 2, none⟩ (.bool false)); rw [hw1] at z1 z2; obtain ⟨w2, hw2⟩ := nmE (w1.setCell ⟨b2, i, none⟩ (.slice none 0 0)); rw [hw2] at z2; have ok1 : ((H.use i false).wipe i).Ok := (hok.use hi false).wipe; have fw1 : ((H.use i false).wipe i).Few N := hf; have bl1 : ∀ k, aag ((H.use i false).wipe i).blks k = if k = i then { aag H.blks i with used := false } else aag H.blks k := fun k => aa3 H.blks i k _ hi
 have ln1 : ((H.use i false).wipe i).blks.length = H.blks.length := List.length_set ..; have dl1 : ((H.use i false).wipe i).ds.length = H.blks.length := ok1.dl.trans ln1; have hnx : aaH ((H.use i false).wipe i).blks i = false := by unfold aaH; rw [bl1, if_neg (by omega), hU, Bool.not_true, Bool.and_false]
 have hgv := acX hnx; clear hnx; obtain ⟨H1, hH1⟩ := nmE ((H.use i false).wipe i); rw [hH1] at hgv z2 ok1 fw1 bl1 ln1 dl1; obtain ⟨n, hn⟩ := nmE H.blks.length; have u2 := bl1 (i + 1); rw [if_neg (by omega)] at u2; have hdl0 : H.ds.length = n := hok.dl.trans hn; rw [hn] at ln1 dl1 hi hnc1 hE hn512; have q1 := h.c1; rw [hn] at q1; have f1 := aas h.ob (i * 3 + 2); have q2 : w1.cell? ⟨p, 2, none⟩ = some (.slice (some ⟨b2, 0, none⟩) n c2) := by have e := z1.hm.c2; rw [hdl0] at e; exact e
 have f2 := aas z1.hm.od i; obtain ⟨_, q1b⟩ : ∃ u, w.cell? ⟨b1, i * 3 + 2, none⟩ = some u := ⟨_, (h.at_n rfl (by omega)).2.2⟩; obtain ⟨_, q2b, _⟩ := aaW z1.hm.od (j := i) (by show i < H.ds.length; omega); have q3 : w2.cell? ⟨p, 1, none⟩ = some (.slice (some ⟨b1, 0, none⟩) n c1) := by have e := z2.hm.c1; rw [hn] at e; exact e
 rw [hn, hdl0] at z2; obtain ⟨k, hk⟩ : ∃ k : Nat, (i : Int) + 1 = (k : Int) := ⟨i + 1, by omega⟩; have HK : Hid (k = i + 1) := (show _ = _ by omega); have q4 := (z2.hm.at_n ln1 (i := i + 1) (by omega)).2.2; rw [u2, hU, <- HK.out] at q4; have HW1 := hE0 hw1; have HW2 := hE0 hw2; have hin : (i : Int) < (n : Int) := by omega
 have hie : (i : Int) + 1 < (n : Int) := by omega
 have hiz : 0 < (i : Int) := by omega
 have hji : j < i := by omega
 have hjz : (i : Int) - 1 = (j : Int) := by omega
 have bj := bl1 j; rw [if_neg (by omega)] at bj; have HZ := hE0 hZ; have HGV := hE0 hgv; have HOK1 := hE0 ok1; have HFW1 := hE0 fw1; have HBL1 := hE0 bl1; have HLN1 := hE0 ln1; have HDL1 := hE0 dl1; have HN := hE0 hn; have Z2 := hE0 z2; have HBJ := hE0 bj; have HP := hE0 hP; clear bj hP; have HU2 := hE0 u2; have HU := hE0 hU; clear u2 hU; clear h hok hf hb1 hb2 hw1 hw2 hH1 hZ hgv ok1 fw1 bl1 ln1 dl1 hn z1 z2 hE hdl0; have q5 := (Z2.out.hm.at_n HLN1.out (i := j) (by omega)).2.2; rw [HBJ.out, HP.out] at q5; go_enter Tryz.func37, Tryz.ntmps37
 go_wp2_with (first | (rw [HW1.out]) | (rw [HW2.out]) | fail)
 have hprev : ab5 H1.blks i = true := by unfold ab5; rw [show i - 1 = j by omega, HBJ.out, HP.out, decide_eq_true (by omega)]; rfl
 clear q5; refine (abA Z2.out.hm j (by rw [HLN1.out]; omega) (HOK1.out.sz (by rw [HLN1.out]; omega)) (fun d hd => Nat.le_trans (HFW1.out d hd) (by omega))).mono ?_; rintro e w6 ⟨rfl, ht⟩; obtain ⟨F6, Vb6, Vd6, gl6, cs6, z6⟩ := Z2.out.step ht; obtain ⟨b6, c6, rfl, hb6, hnc6, _⟩ := aav z6.hm.ob (by show 0 < H1.blks.length; rw [HLN1.out]; omega); have e6 : (H1.out j).blks.length = n := HLN1.out; rw [e6] at z6 hnc6; obtain ⟨wx, hwx⟩ := nmE w6.drew; have hbx := adE hwx; have zx := z6.below hbx; have r1 := zx.hm.c1; have r2 := (zx.hm.at_n e6 (i := j) (by omega)).2.1; have r3 := (zx.hm.at_n e6 (i := i) (by omega)).2.1; have rf := aas zx.hm.ob (j * 3 + 1); have hpx := zx.hm.lt; have hbx6 : b6 < wx.heap.size := own_lt zx.hm.ob rfl; obtain ⟨s5, hs5⟩ := nmE ((aag (H1.out j).blks j).size); obtain ⟨s6, hs6⟩ := nmE ((aag (H1.out j).blks i).size); rw [hs5] at r2; rw [hs6] at r3; have z7 := zx.set (a := ⟨b6, j * 3 + 1, none⟩) (u := .int .i64 ((s5 + s6 : Nat) : Int)) (zx.hm.fb b6 rfl) (zx.hm.sizeM (by rw [e6]) (by rw [e6]; omega) (s5 + s6)); rw [Int.natCast_add] at z7; have hs56 : s5 + s6 <= 16384 := by
  have e := (HOK1.out.two (i := j) (by rw [HLN1.out]; omega)).2; rw [<- HZ.out] at e; rw [<- hs5, <- hs6]; exact e
 obtain ⟨w7, hw7⟩ := nmE (wx.setCell ⟨b6, j * 3 + 1, none⟩ (.int .i64 ((s5 : Int) + (s6 : Int)))); rw [hw7] at z7; have HW7 := hE0 hw7; have HWX := hE0 hwx; have Z7 := hE0 z7; have HS5 := hE0 hs5; have HS6 := hE0 hs6; have HRX := hE0 rf; have HPV := hE0 hprev; clear z6 zx z7 hw7 hwx hs5 hs6 ht hb6 rf hprev q3; go_wp2_with fail
 refine aan wx.heap.size (.fin [0, 1, 2, 3, 4, 5, 6, 7, 8, 9, 10, 11, 12, 13, 14, 15, 16, 17, 18, 19, 20, 21, 22, 23, 24, 25]) [26] (by kernel_rfl) (by kernel_rfl) (by kernel_rfl) (fun _ _ _ _ _ h => h) ?_; rw [HWX.out]; have t1 := tfE r1 hpx; have t2 := tfE r2 hbx6; have t3 := tfE r3 hbx6; refine aaO (l := ?laBUY) (t := ?tlBUY) ?hlaBUY ?htlBUY ?_
 case hlaBUY => simp only [pick, lE1, lE2, lE3]; rfl
 case htlBUY => simp only [pick, lE1, lE2, lE3]; rfl
 repeat (go_big_quiet_step (fail))
 refine wpQuiet_nil ?_; clear t1 t2 t3 r1 r3; have rf := HRX.out; go_wp2_with (first | (rw [HW7.out]) | fail)
 clear rf r2; have lnT : (((H1.out j).size j (s5 + s6))).blks.length = n := (List.length_set ..).trans HLN1.out; refine (acm Z7.out.hm i (by rw [lnT]; omega) (by rw [lnT]; omega) (HDL1.out.trans lnT.symm)).mono ?_; rintro e w8 ⟨rfl, ht⟩; obtain ⟨F8, Vb8, Vd8, gl8, cs8, z8⟩ := Z7.out.step ht; have eK : (((H1.out j).size j (s5 + s6))).drop i = (H1.out j).join j := by
  show _ = ((H1.out j).size j _).drop (j + 1); rw [<- HZ.out, HS5.out, HS6.out]
 rw [eK] at z8; have ok3 : ((H1.out j).join j).Ok := (Hp.Ok.out (i := j) HOK1.out).join (by rw [e6]; omega); have fw3 : ((H1.out j).join j).Few N := Hp.Few.out (i := j) HFW1.out; have jb := (acR (H1.out j) (i := j) (by rw [e6]; omega)).1; have hg3 := aet HPV.out; rw [show i - 1 = j by omega] at hg3; obtain ⟨H3, hH3⟩ := nmE ((H1.out j).join j); rw [hH3] at z8 ok3 fw3 jb hg3; have hgf := HGV.out; rw [hg3] at hgf; have HGF := hE0 hgf; have HOK3 := hE0 ok3; have HFW3 := hE0 fw3; have HJB := hE0 jb; have Z8 := hE0 z8; clear hgf hg3 ok3 fw3 jb z8 hH3 ht eK lnT e6 Z7 HW7 HWX HRX; go_wp2_with fail
 refine (acS Z8.out.hm j HJB.out (HOK3.out.sz HJB.out) (fun d hd => Nat.le_trans (HFW3.out d hd) (by omega))).mono ?_; rintro e w9 ⟨rfl, ht⟩; have hto : HT F w p (H.give i) w9 := by
  rw [HGF.out]; exact Z8.out.last ht
 have HTO := hE0 hto; clear hto ht; go_wp2
 go_end0
 exact ⟨rfl, HTO.out⟩
theorem amL (h : Hm F w p H Vb Vd gl cs) (hok : H.Ok) (N : Nat) (hf : H.Few N) (hN : N <= 50000) (i : Nat) (hi : i < H.blks.length) (hE : i + 1 < H.blks.length) (hU : (aag H.blks (i + 1)).used = false) (hZ : i = 0) :
 Calls Tryz.prog 37 #[.pointer (some ⟨p, 0, none⟩), .int .i64 (i : Int)] w fun e w' => e = .returned (.tuple #[]) /\ HT F w p (H.give i) w' := by
 obtain ⟨b1, c1, rfl, hb1, hnc1, _⟩ := aav h.ob (by omega); obtain ⟨b2, c2, rfl, hb2, hnc2, _⟩ := aav h.od (by rw [hok.dl]; omega); have hn512 := hok.n; have z1 := (Hz.start h).set (a := ⟨b1, i * 3 + 2, none⟩) (u := .bool false) (h.fb b1 rfl) (h.useM rfl hi false); have z2 := z1.set (a := ⟨b2, i, none⟩) (u := .slice none 0 0) (h.fd b2 rfl) (z1.hm.wipeM (i := i) rfl); obtain ⟨w1, hw1⟩ := nmE (w.setCell ⟨b1, i * 3 + 2, none⟩ (.bool false)); rw [hw1] at z1 z2; obtain ⟨w2, hw2⟩ := nmE (w1.setCell ⟨b2, i, none⟩ (.slice none 0 0)); rw [hw2] at z2; have ok1 : ((H.use i false).wipe i).Ok := (hok.use hi false).wipe; have fw1 : ((H.use i false).wipe i).Few N := hf; have bl1 : ∀ k, aag ((H.use i false).wipe i).blks k = if k = i then { aag H.blks i with used := false } else aag H.blks k := fun k => aa3 H.blks i k _ hi
 have ln1 : ((H.use i false).wipe i).blks.length = H.blks.length := List.length_set ..; have dl1 : ((H.use i false).wipe i).ds.length = H.blks.length := ok1.dl.trans ln1; have hnx : aaH ((H.use i false).wipe i).blks i = true := by unfold aaH; rw [ln1, bl1, if_neg (by omega), hU, decide_eq_true hE]; rfl
 have hgv := afa hnx; clear hnx; obtain ⟨H1, hH1⟩ := nmE ((H.use i false).wipe i); rw [hH1] at hgv z2 ok1 fw1 bl1 ln1 dl1; obtain ⟨n, hn⟩ := nmE H.blks.length; have u2 := bl1 (i + 1); rw [if_neg (by omega)] at u2; have hdl0 : H.ds.length = n := hok.dl.trans hn; rw [hn] at ln1 dl1 hi hnc1 hE hn512; have q1 := h.c1; rw [hn] at q1; have f1 := aas h.ob (i * 3 + 2); have q2 : w1.cell? ⟨p, 2, none⟩ = some (.slice (some ⟨b2, 0, none⟩) n c2) := by have e := z1.hm.c2; rw [hdl0] at e; exact e
 have f2 := aas z1.hm.od i; obtain ⟨_, q1b⟩ : ∃ u, w.cell? ⟨b1, i * 3 + 2, none⟩ = some u := ⟨_, (h.at_n rfl (by omega)).2.2⟩; obtain ⟨_, q2b, _⟩ := aaW z1.hm.od (j := i) (by show i < H.ds.length; omega); have q3 : w2.cell? ⟨p, 1, none⟩ = some (.slice (some ⟨b1, 0, none⟩) n c1) := by have e := z2.hm.c1; rw [hn] at e; exact e
 rw [hn, hdl0] at z2; obtain ⟨k, hk⟩ : ∃ k : Nat, (i : Int) + 1 = (k : Int) := ⟨i + 1, by omega⟩; have HK : Hid (k = i + 1) := (show _ = _ by omega); have q4 := (z2.hm.at_n ln1 (i := i + 1) (by omega)).2.2; rw [u2, hU, <- HK.out] at q4; have HW1 := hE0 hw1; have HW2 := hE0 hw2; have hin : (i : Int) < (n : Int) := by omega
 have hie : (i : Int) + 1 < (n : Int) := by omega
 have hiz : (i : Int) <= 0 := by omega
 have HZ := hE0 hZ; have HGV := hE0 hgv; have HOK1 := hE0 ok1; have HFW1 := hE0 fw1; have HBL1 := hE0 bl1; have HLN1 := hE0 ln1; have HDL1 := hE0 dl1; have HN := hE0 hn; have Z2 := hE0 z2; have HU2 := hE0 u2; have HU := hE0 hU; clear u2 hU; clear h hok hf hb1 hb2 hw1 hw2 hH1 hZ hgv ok1 fw1 bl1 ln1 dl1 hn z1 z2 hE hdl0; go_enter Tryz.func37, Tryz.ntmps37
 go_wp2_with (first | (rw [HW1.out]) | (rw [HW2.out]) | fail)
 clear q1 q2 q4 f1 f2 q1b q2b HW1 HW2; refine (abA Z2.out.hm k (by rw [HLN1.out]; omega) (HOK1.out.sz (by rw [HLN1.out]; omega)) (fun d hd => Nat.le_trans (HFW1.out d hd) (by omega))).mono ?_; rintro e w3 ⟨rfl, ht⟩; obtain ⟨F3, Vb3, Vd3, gl3, cs3, z3⟩ := Z2.out.step ht; obtain ⟨b3, c3, rfl, hb3, hnc3, _⟩ := aav z3.hm.ob (by show 0 < H1.blks.length; rw [HLN1.out]; omega); have e3 : (H1.out k).blks.length = n := HLN1.out; rw [e3] at z3 hnc3; obtain ⟨wd, hwd⟩ := nmE w3.drew; have hbd := adE hwd; have zd := z3.below hbd; have r1 := zd.hm.c1; have r2 := (zd.hm.at_n e3 (i := i) hi).2.1; have r3 := (zd.hm.at_n e3 (i := k) (by omega)).2.1; have rf := aas zd.hm.ob (i * 3 + 1); have hpd := zd.hm.lt; have hbd3 : b3 < wd.heap.size := own_lt zd.hm.ob rfl; obtain ⟨s1, hs1⟩ := nmE ((aag (H1.out k).blks i).size); obtain ⟨s2, hs2⟩ := nmE ((aag (H1.out k).blks k).size); rw [hs1] at r2; rw [hs2] at r3; have z4 := zd.set (a := ⟨b3, i * 3 + 1, none⟩) (u := .int .i64 ((s1 + s2 : Nat) : Int)) (zd.hm.fb b3 rfl) (zd.hm.sizeM (by rw [e3]) (by rw [e3]; exact hi) (s1 + s2)); rw [Int.natCast_add] at z4; have hs12 : s1 + s2 <= 16384 := by
  have e := (HOK1.out.two (i := i) (by rw [HLN1.out]; omega)).2; rw [<- HK.out] at e; rw [<- hs1, <- hs2]; exact e
 obtain ⟨w4, hw4⟩ := nmE (wd.setCell ⟨b3, i * 3 + 1, none⟩ (.int .i64 ((s1 : Int) + (s2 : Int)))); rw [hw4] at z4; have HW4 := hE0 hw4; have HWD := hE0 hwd; have Z4 := hE0 z4; have HS1 := hE0 hs1; have HS2 := hE0 hs2; have HRF := hE0 rf; clear z3 zd z4 hw4 hwd hs1 hs2 ht hb3 rf Z2 q3; go_wp2_with fail
 refine aan wd.heap.size (.fin [0, 1, 2, 3, 4, 5, 6, 7, 8, 9, 10, 11, 12, 13, 14, 15, 16, 17, 18, 19, 20, 21, 22, 23, 24]) [25] (by kernel_rfl) (by kernel_rfl) (by kernel_rfl) (fun _ _ _ _ _ h => h) ?_; rw [HWD.out]; have t1 := tfE r1 hpd; have t2 := tfE r2 hbd3; have t3 := tfE r3 hbd3; refine aaO (l := ?laAYZ) (t := ?tlAYZ) ?hlaAYZ ?htlAYZ ?_
 case hlaAYZ => simp only [pick, lE1, lE2, lE3]; rfl
 case htlAYZ => simp only [pick, lE1, lE2, lE3]; rfl
 repeat (go_big_quiet_step (fail))
 refine wpQuiet_nil ?_; clear t1 t2 t3 r1 r3; have rf := HRF.out; go_wp2_with (first | (rw [HW4.out]) | fail)
 clear rf r2; have lnS : (((H1.out k).size i (s1 + s2))).blks.length = n := (List.length_set ..).trans HLN1.out; refine (acm Z4.out.hm k (by rw [lnS]; omega) (by rw [lnS]; omega) (HDL1.out.trans lnS.symm)).mono ?_; rintro e w5 ⟨rfl, ht⟩; obtain ⟨F5, Vb5, Vd5, gl5, cs5, z5⟩ := Z4.out.step ht; have eJ : (((H1.out k).size i (s1 + s2))).drop k = (H1.out k).join i := by
  show _ = ((H1.out k).size i _).drop (i + 1); rw [<- HK.out, HS1.out, HS2.out]
 rw [eJ] at z5; have ok2 : ((H1.out k).join i).Ok := (Hp.Ok.out (i := k) HOK1.out).join (by rw [e3]; omega); have fw2 : ((H1.out k).join i).Few N := Hp.Few.out (i := k) HFW1.out; have ja := acR (H1.out k) (i := i) (by rw [e3]; omega); rw [e3] at ja; have hgv := HGV.out; rw [<- HK.out] at hgv; obtain ⟨H2, hH2⟩ := nmE ((H1.out k).join i); rw [hH2] at z5 ok2 fw2 ja hgv; obtain ⟨b5, c5, rfl, hb5, hnc5, _⟩ := aav z5.hm.ob (by omega); obtain ⟨n5, hn5⟩ := nmE H2.blks.length; rw [hn5] at z5 hnc5 ja; obtain ⟨ja1, ja2, ja3⟩ := ja; have dl2 : H2.ds.length = n5 := ok2.dl.trans hn5; have q6 := z5.hm.c1; have HLN2 := hE0 hn5; have HDL2 := hE0 dl2; have HOK2 := hE0 ok2; have HFW2 := hE0 fw2; have HGV2 := hE0 hgv; have Z5 := hE0 z5; have hi5 : (i : Int) < (n5 : Int) := by omega
 clear z5 ok2 fw2 hgv hH2 hn5 dl2 ht eJ lnS e3 ja2 Z4 HW4 HWD HRF hb5; go_wp2_with fail
 have hprev : ab5 H2.blks i = false := by unfold ab5; rw [decide_eq_false (by omega)]; rfl
 refine (acS Z5.out.hm i (by rw [HLN2.out]; omega) (HOK2.out.sz (by rw [HLN2.out]; omega)) (fun d hd => Nat.le_trans (HFW2.out d hd) (by omega))).mono ?_; rintro e w9 ⟨rfl, ht⟩; have hto : HT F w p (H.give i) w9 := by
  rw [HGV2.out, acC hprev]; exact Z5.out.last ht
 have HTO := hE0 hto; clear hto ht hprev q6; go_wp2
 go_end0
 exact ⟨rfl, HTO.out⟩
theorem amM (h : Hm F w p H Vb Vd gl cs) (hok : H.Ok) (N : Nat) (hf : H.Few N) (hN : N <= 50000) (i : Nat) (hi : i < H.blks.length) (hE : i + 1 < H.blks.length) (hU : (aag H.blks (i + 1)).used = false) (j : Nat) (hZ : i = j + 1) (hP : (aag H.blks j).used = true) :
 Calls Tryz.prog 37 #[.pointer (some ⟨p, 0, none⟩), .int .i64 (i : Int)] w fun e w' => e = .returned (.tuple #[]) /\ HT F w p (H.give i) w' := by
 obtain ⟨b1, c1, rfl, hb1, hnc1, _⟩ := aav h.ob (by omega); obtain ⟨b2, c2, rfl, hb2, hnc2, _⟩ := aav h.od (by rw [hok.dl]; omega); have hn512 := hok.n; have z1 := (Hz.start h).set (a := ⟨b1, i * 3 + 2, none⟩) (u := .bool false) (h.fb b1 rfl) (h.useM rfl hi false); have z2 := z1.set (a := ⟨b2, i, none⟩) (u := .slice none 0 0) (h.fd b2 rfl) (z1.hm.wipeM (i := i) rfl); obtain ⟨w1, hw1⟩ := nmE (w.setCell ⟨b1, i * 3 + 2, none⟩ (.bool false)); rw [hw1] at z1 z2; obtain ⟨w2, hw2⟩ := nmE (w1.setCell ⟨b2, i, none⟩ (.slice none 0 0)); rw [hw2] at z2; have ok1 : ((H.use i false).wipe i).Ok := (hok.use hi false).wipe; have fw1 : ((H.use i false).wipe i).Few N := hf; have bl1 : ∀ k, aag ((H.use i false).wipe i).blks k = if k = i then { aag H.blks i with used := false } else aag H.blks k := fun k => aa3 H.blks i k _ hi
 have ln1 : ((H.use i false).wipe i).blks.length = H.blks.length := List.length_set ..; have dl1 : ((H.use i false).wipe i).ds.length = H.blks.length := ok1.dl.trans ln1; have hnx : aaH ((H.use i false).wipe i).blks i = true := by unfold aaH; rw [ln1, bl1, if_neg (by omega), hU, decide_eq_true hE]; rfl
 have hgv := afa hnx; clear hnx; obtain ⟨H1, hH1⟩ := nmE ((H.use i false).wipe i); rw [hH1] at hgv z2 ok1 fw1 bl1 ln1 dl1; obtain ⟨n, hn⟩ := nmE H.blks.length; have u2 := bl1 (i + 1); rw [if_neg (by omega)] at u2; have hdl0 : H.ds.length = n := hok.dl.trans hn; rw [hn] at ln1 dl1 hi hnc1 hE hn512; have q1 := h.c1; rw [hn] at q1; have f1 := aas h.ob (i * 3 + 2); have q2 : w1.cell? ⟨p, 2, none⟩ = some (.slice (some ⟨b2, 0, none⟩) n c2) := by have e := z1.hm.c2; rw [hdl0] at e; exact e
 have f2 := aas z1.hm.od i; obtain ⟨_, q1b⟩ : ∃ u, w.cell? ⟨b1, i * 3 + 2, none⟩ = some u := ⟨_, (h.at_n rfl (by omega)).2.2⟩; obtain ⟨_, q2b, _⟩ := aaW z1.hm.od (j := i) (by show i < H.ds.length; omega); have q3 : w2.cell? ⟨p, 1, none⟩ = some (.slice (some ⟨b1, 0, none⟩) n c1) := by have e := z2.hm.c1; rw [hn] at e; exact e
 rw [hn, hdl0] at z2; obtain ⟨k, hk⟩ : ∃ k : Nat, (i : Int) + 1 = (k : Int) := ⟨i + 1, by omega⟩; have HK : Hid (k = i + 1) := (show _ = _ by omega); have q4 := (z2.hm.at_n ln1 (i := i + 1) (by omega)).2.2; rw [u2, hU, <- HK.out] at q4; have HW1 := hE0 hw1; have HW2 := hE0 hw2; have hin : (i : Int) < (n : Int) := by omega
 have hie : (i : Int) + 1 < (n : Int) := by omega
 have hiz : 0 < (i : Int) := by omega
 have hji : j < i := by omega
 have hjz : (i : Int) - 1 = (j : Int) := by omega
 have bj := bl1 j; rw [if_neg (by omega)] at bj; have HZ := hE0 hZ; have HGV := hE0 hgv; have HOK1 := hE0 ok1; have HFW1 := hE0 fw1; have HBL1 := hE0 bl1; have HLN1 := hE0 ln1; have HDL1 := hE0 dl1; have HN := hE0 hn; have Z2 := hE0 z2; have HBJ := hE0 bj; have HP := hE0 hP; clear bj hP; have HU2 := hE0 u2; have HU := hE0 hU; clear u2 hU; clear h hok hf hb1 hb2 hw1 hw2 hH1 hZ hgv ok1 fw1 bl1 ln1 dl1 hn z1 z2 hE hdl0; go_enter Tryz.func37, Tryz.ntmps37
 go_wp2_with (first | (rw [HW1.out]) | (rw [HW2.out]) | fail)
 clear q1 q2 q4 f1 f2 q1b q2b HW1 HW2; refine (abA Z2.out.hm k (by rw [HLN1.out]; omega) (HOK1.out.sz (by rw [HLN1.out]; omega)) (fun d hd => Nat.le_trans (HFW1.out d hd) (by omega))).mono ?_; rintro e w3 ⟨rfl, ht⟩; obtain ⟨F3, Vb3, Vd3, gl3, cs3, z3⟩ := Z2.out.step ht; obtain ⟨b3, c3, rfl, hb3, hnc3, _⟩ := aav z3.hm.ob (by show 0 < H1.blks.length; rw [HLN1.out]; omega); have e3 : (H1.out k).blks.length = n := HLN1.out; rw [e3] at z3 hnc3; obtain ⟨wd, hwd⟩ := nmE w3.drew; have hbd := adE hwd; have zd := z3.below hbd; have r1 := zd.hm.c1; have r2 := (zd.hm.at_n e3 (i := i) hi).2.1; have r3 := (zd.hm.at_n e3 (i := k) (by omega)).2.1; have rf := aas zd.hm.ob (i * 3 + 1); have hpd := zd.hm.lt; have hbd3 : b3 < wd.heap.size := own_lt zd.hm.ob rfl; obtain ⟨s1, hs1⟩ := nmE ((aag (H1.out k).blks i).size); obtain ⟨s2, hs2⟩ := nmE ((aag (H1.out k).blks k).size); rw [hs1] at r2; rw [hs2] at r3; have z4 := zd.set (a := ⟨b3, i * 3 + 1, none⟩) (u := .int .i64 ((s1 + s2 : Nat) : Int)) (zd.hm.fb b3 rfl) (zd.hm.sizeM (by rw [e3]) (by rw [e3]; exact hi) (s1 + s2)); rw [Int.natCast_add] at z4; have hs12 : s1 + s2 <= 16384 := by
  have e := (HOK1.out.two (i := i) (by rw [HLN1.out]; omega)).2; rw [<- HK.out] at e; rw [<- hs1, <- hs2]; exact e
 obtain ⟨w4, hw4⟩ := nmE (wd.setCell ⟨b3, i * 3 + 1, none⟩ (.int .i64 ((s1 : Int) + (s2 : Int)))); rw [hw4] at z4; have HW4 := hE0 hw4; have HWD := hE0 hwd; have Z4 := hE0 z4; have HS1 := hE0 hs1; have HS2 := hE0 hs2; have HRF := hE0 rf; clear z3 zd z4 hw4 hwd hs1 hs2 ht hb3 rf Z2 q3; go_wp2_with fail
 refine aan wd.heap.size (.fin [0, 1, 2, 3, 4, 5, 6, 7, 8, 9, 10, 11, 12, 13, 14, 15, 16, 17, 18, 19, 20, 21, 22, 23, 24]) [25] (by kernel_rfl) (by kernel_rfl) (by kernel_rfl) (fun _ _ _ _ _ h => h) ?_; rw [HWD.out]; have t1 := tfE r1 hpd; have t2 := tfE r2 hbd3; have t3 := tfE r3 hbd3; refine aaO (l := ?laAYU) (t := ?tlAYU) ?hlaAYU ?htlAYU ?_
 case hlaAYU => simp only [pick, lE1, lE2, lE3]; rfl
 case htlAYU => simp only [pick, lE1, lE2, lE3]; rfl
 repeat (go_big_quiet_step (fail))
 refine wpQuiet_nil ?_; clear t1 t2 t3 r1 r3; have rf := HRF.out; go_wp2_with (first | (rw [HW4.out]) | fail)
 clear rf r2; have lnS : (((H1.out k).size i (s1 + s2))).blks.length = n := (List.length_set ..).trans HLN1.out; refine (acm Z4.out.hm k (by rw [lnS]; omega) (by rw [lnS]; omega) (HDL1.out.trans lnS.symm)).mono ?_; rintro e w5 ⟨rfl, ht⟩; obtain ⟨F5, Vb5, Vd5, gl5, cs5, z5⟩ := Z4.out.step ht; have eJ : (((H1.out k).size i (s1 + s2))).drop k = (H1.out k).join i := by
  show _ = ((H1.out k).size i _).drop (i + 1); rw [<- HK.out, HS1.out, HS2.out]
 rw [eJ] at z5; have ok2 : ((H1.out k).join i).Ok := (Hp.Ok.out (i := k) HOK1.out).join (by rw [e3]; omega); have fw2 : ((H1.out k).join i).Few N := Hp.Few.out (i := k) HFW1.out; have ja := acR (H1.out k) (i := i) (by rw [e3]; omega); rw [e3] at ja; have hgv := HGV.out; rw [<- HK.out] at hgv; have bj2 : aag ((H1.out k).join i).blks j = aag H.blks j := by
  rw [ab7 (H1.out k) (i := i) (by rw [e3]; omega)]; unfold aag; rw [List.getD_eq_getElem?_getD, List.getElem?_append_left (by rw [List.length_take, e3]; omega), List.getElem?_take_of_lt hji, <- List.getD_eq_getElem?_getD]; exact HBJ.out
 have HBJ2 := hE0 bj2; clear bj2; obtain ⟨H2, hH2⟩ := nmE ((H1.out k).join i); rw [hH2] at z5 ok2 fw2 ja hgv; rw [hH2] at HBJ2; obtain ⟨b5, c5, rfl, hb5, hnc5, _⟩ := aav z5.hm.ob (by omega); obtain ⟨n5, hn5⟩ := nmE H2.blks.length; rw [hn5] at z5 hnc5 ja; obtain ⟨ja1, ja2, ja3⟩ := ja; have dl2 : H2.ds.length = n5 := ok2.dl.trans hn5; have q6 := z5.hm.c1; have HLN2 := hE0 hn5; have HDL2 := hE0 dl2; have HOK2 := hE0 ok2; have HFW2 := hE0 fw2; have HGV2 := hE0 hgv; have Z5 := hE0 z5; have hi5 : (i : Int) < (n5 : Int) := by omega
 clear z5 ok2 fw2 hgv hH2 hn5 dl2 ht eJ lnS e3 ja2 Z4 HW4 HWD HRF hb5; have q5 := (Z5.out.hm.at_n HLN2.out (i := j) (by omega)).2.2; rw [HBJ2.out, HP.out] at q5; go_wp2_with fail
 have hprev : ab5 H2.blks i = false := by unfold ab5; rw [show i - 1 = j by omega, HBJ2.out, HP.out, Bool.not_true, Bool.and_false]
 refine (acS Z5.out.hm i (by rw [HLN2.out]; omega) (HOK2.out.sz (by rw [HLN2.out]; omega)) (fun d hd => Nat.le_trans (HFW2.out d hd) (by omega))).mono ?_; rintro e w9 ⟨rfl, ht⟩; have hto : HT F w p (H.give i) w9 := by
  rw [HGV2.out, acC hprev]; exact Z5.out.last ht
 have HTO := hE0 hto; clear hto ht hprev q6; go_wp2
 go_end0
 exact ⟨rfl, HTO.out⟩
theorem amN (h : Hm F w p H Vb Vd gl cs) (hok : H.Ok) (N : Nat) (hf : H.Few N) (hN : N <= 50000) (i : Nat) (hi : i < H.blks.length) (hE : i + 1 < H.blks.length) (hU : (aag H.blks (i + 1)).used = false) (j : Nat) (hZ : i = j + 1) (hP : (aag H.blks j).used = false) :
 Calls Tryz.prog 37 #[.pointer (some ⟨p, 0, none⟩), .int .i64 (i : Int)] w fun e w' => e = .returned (.tuple #[]) /\ HT F w p (H.give i) w' := by
 obtain ⟨b1, c1, rfl, hb1, hnc1, _⟩ := aav h.ob (by omega); obtain ⟨b2, c2, rfl, hb2, hnc2, _⟩ := aav h.od (by rw [hok.dl]; omega); have hn512 := hok.n; have z1 := (Hz.start h).set (a := ⟨b1, i * 3 + 2, none⟩) (u := .bool false) (h.fb b1 rfl) (h.useM rfl hi false); have z2 := z1.set (a := ⟨b2, i, none⟩) (u := .slice none 0 0) (h.fd b2 rfl) (z1.hm.wipeM (i := i) rfl); obtain ⟨w1, hw1⟩ := nmE (w.setCell ⟨b1, i * 3 + 2, none⟩ (.bool false)); rw [hw1] at z1 z2; obtain ⟨w2, hw2⟩ := nmE (w1.setCell ⟨b2, i, none⟩ (.slice none 0 0)); rw [hw2] at z2; have ok1 : ((H.use i false).wipe i).Ok := (hok.use hi false).wipe; have fw1 : ((H.use i false).wipe i).Few N := hf; have bl1 : ∀ k, aag ((H.use i false).wipe i).blks k = if k = i then { aag H.blks i with used := false } else aag H.blks k := fun k => aa3 H.blks i k _ hi
 have ln1 : ((H.use i false).wipe i).blks.length = H.blks.length := List.length_set ..; have dl1 : ((H.use i false).wipe i).ds.length = H.blks.length := ok1.dl.trans ln1; have hnx : aaH ((H.use i false).wipe i).blks i = true := by unfold aaH; rw [ln1, bl1, if_neg (by omega), hU, decide_eq_true hE]; rfl
 have hgv := afa hnx; clear hnx; obtain ⟨H1, hH1⟩ := nmE ((H.use i false).wipe i); rw [hH1] at hgv z2 ok1 fw1 bl1 ln1 dl1; obtain ⟨n, hn⟩ := nmE H.blks.length; have u2 := bl1 (i + 1); rw [if_neg (by omega)] at u2; have hdl0 : H.ds.length = n := hok.dl.trans hn; rw [hn] at ln1 dl1 hi hnc1 hE hn512; have q1 := h.c1; rw [hn] at q1; have f1 := aas h.ob (i * 3 + 2); have q2 : w1.cell? ⟨p, 2, none⟩ = some (.slice (some ⟨b2, 0, none⟩) n c2) := by have e := z1.hm.c2; rw [hdl0] at e; exact e
 have f2 := aas z1.hm.od i; obtain ⟨_, q1b⟩ : ∃ u, w.cell? ⟨b1, i * 3 + 2, none⟩ = some u := ⟨_, (h.at_n rfl (by omega)).2.2⟩; obtain ⟨_, q2b, _⟩ := aaW z1.hm.od (j := i) (by show i < H.ds.length; omega); have q3 : w2.cell? ⟨p, 1, none⟩ = some (.slice (some ⟨b1, 0, none⟩) n c1) := by have e := z2.hm.c1; rw [hn] at e; exact e
 rw [hn, hdl0] at z2; obtain ⟨k, hk⟩ : ∃ k : Nat, (i : Int) + 1 = (k : Int) := ⟨i + 1, by omega⟩; have HK : Hid (k = i + 1) := (show _ = _ by omega); have q4 := (z2.hm.at_n ln1 (i := i + 1) (by omega)).2.2; rw [u2, hU, <- HK.out] at q4; have HW1 := hE0 hw1; have HW2 := hE0 hw2; have hin : (i : Int) < (n : Int) := by omega
 have hie : (i : Int) + 1 < (n : Int) := by omega
 have hiz : 0 < (i : Int) := by omega
 have hji : j < i := by omega
 have hjz : (i : Int) - 1 = (j : Int) := by omega
 have bj := bl1 j; rw [if_neg (by omega)] at bj; have HZ := hE0 hZ; have HGV := hE0 hgv; have HOK1 := hE0 ok1; have HFW1 := hE0 fw1; have HBL1 := hE0 bl1; have HLN1 := hE0 ln1; have HDL1 := hE0 dl1; have HN := hE0 hn; have Z2 := hE0 z2; have HBJ := hE0 bj; have HP := hE0 hP; clear bj hP; have HU2 := hE0 u2; have HU := hE0 hU; clear u2 hU; clear h hok hf hb1 hb2 hw1 hw2 hH1 hZ hgv ok1 fw1 bl1 ln1 dl1 hn z1 z2 hE hdl0; go_enter Tryz.func37, Tryz.ntmps37
 go_wp2_with (first | (rw [HW1.out]) | (rw [HW2.out]) | fail)
 clear q1 q2 q4 f1 f2 q1b q2b HW1 HW2; refine (abA Z2.out.hm k (by rw [HLN1.out]; omega) (HOK1.out.sz (by rw [HLN1.out]; omega)) (fun d hd => Nat.le_trans (HFW1.out d hd) (by omega))).mono ?_; rintro e w3 ⟨rfl, ht⟩; obtain ⟨F3, Vb3, Vd3, gl3, cs3, z3⟩ := Z2.out.step ht; obtain ⟨b3, c3, rfl, hb3, hnc3, _⟩ := aav z3.hm.ob (by show 0 < H1.blks.length; rw [HLN1.out]; omega); have e3 : (H1.out k).blks.length = n := HLN1.out; rw [e3] at z3 hnc3; obtain ⟨wd, hwd⟩ := nmE w3.drew; have hbd := adE hwd; have zd := z3.below hbd; have r1 := zd.hm.c1; have r2 := (zd.hm.at_n e3 (i := i) hi).2.1; have r3 := (zd.hm.at_n e3 (i := k) (by omega)).2.1; have rf := aas zd.hm.ob (i * 3 + 1); have hpd := zd.hm.lt; have hbd3 : b3 < wd.heap.size := own_lt zd.hm.ob rfl; obtain ⟨s1, hs1⟩ := nmE ((aag (H1.out k).blks i).size); obtain ⟨s2, hs2⟩ := nmE ((aag (H1.out k).blks k).size); rw [hs1] at r2; rw [hs2] at r3; have z4 := zd.set (a := ⟨b3, i * 3 + 1, none⟩) (u := .int .i64 ((s1 + s2 : Nat) : Int)) (zd.hm.fb b3 rfl) (zd.hm.sizeM (by rw [e3]) (by rw [e3]; exact hi) (s1 + s2)); rw [Int.natCast_add] at z4; have hs12 : s1 + s2 <= 16384 := by
  have e := (HOK1.out.two (i := i) (by rw [HLN1.out]; omega)).2; rw [<- HK.out] at e; rw [<- hs1, <- hs2]; exact e
 obtain ⟨w4, hw4⟩ := nmE (wd.setCell ⟨b3, i * 3 + 1, none⟩ (.int .i64 ((s1 : Int) + (s2 : Int)))); rw [hw4] at z4; have HW4 := hE0 hw4; have HWD := hE0 hwd; have Z4 := hE0 z4; have HS1 := hE0 hs1; have HS2 := hE0 hs2; have HRF := hE0 rf; clear z3 zd z4 hw4 hwd hs1 hs2 ht hb3 rf Z2 q3; go_wp2_with fail
 refine aan wd.heap.size (.fin [0, 1, 2, 3, 4, 5, 6, 7, 8, 9, 10, 11, 12, 13, 14, 15, 16, 17, 18, 19, 20, 21, 22, 23, 24]) [25] (by kernel_rfl) (by kernel_rfl) (by kernel_rfl) (fun _ _ _ _ _ h => h) ?_; rw [HWD.out]; have t1 := tfE r1 hpd; have t2 := tfE r2 hbd3; have t3 := tfE r3 hbd3; refine aaO (l := ?laAYY) (t := ?tlAYY) ?hlaAYY ?htlAYY ?_
 case hlaAYY => simp only [pick, lE1, lE2, lE3]; rfl
 case htlAYY => simp only [pick, lE1, lE2, lE3]; rfl
 repeat (go_big_quiet_step (fail))
 refine wpQuiet_nil ?_; clear t1 t2 t3 r1 r3; have rf := HRF.out; go_wp2_with (first | (rw [HW4.out]) | fail)
 clear rf r2; have lnS : (((H1.out k).size i (s1 + s2))).blks.length = n := (List.length_set ..).trans HLN1.out; refine (acm Z4.out.hm k (by rw [lnS]; omega) (by rw [lnS]; omega) (HDL1.out.trans lnS.symm)).mono ?_; rintro e w5 ⟨rfl, ht⟩; obtain ⟨F5, Vb5, Vd5, gl5, cs5, z5⟩ := Z4.out.step ht; have eJ : (((H1.out k).size i (s1 + s2))).drop k = (H1.out k).join i := by
  show _ = ((H1.out k).size i _).drop (i + 1); rw [<- HK.out, HS1.out, HS2.out]
 rw [eJ] at z5; have ok2 : ((H1.out k).join i).Ok := (Hp.Ok.out (i := k) HOK1.out).join (by rw [e3]; omega); have fw2 : ((H1.out k).join i).Few N := Hp.Few.out (i := k) HFW1.out; have ja := acR (H1.out k) (i := i) (by rw [e3]; omega); rw [e3] at ja; have hgv := HGV.out; rw [<- HK.out] at hgv; have bj2 : aag ((H1.out k).join i).blks j = aag H.blks j := by
  rw [ab7 (H1.out k) (i := i) (by rw [e3]; omega)]; unfold aag; rw [List.getD_eq_getElem?_getD, List.getElem?_append_left (by rw [List.length_take, e3]; omega), List.getElem?_take_of_lt hji, <- List.getD_eq_getElem?_getD]; exact HBJ.out
 have HBJ2 := hE0 bj2; clear bj2; obtain ⟨H2, hH2⟩ := nmE ((H1.out k).join i); rw [hH2] at z5 ok2 fw2 ja hgv; rw [hH2] at HBJ2; obtain ⟨b5, c5, rfl, hb5, hnc5, _⟩ := aav z5.hm.ob (by omega); obtain ⟨n5, hn5⟩ := nmE H2.blks.length; rw [hn5] at z5 hnc5 ja; obtain ⟨ja1, ja2, ja3⟩ := ja; have dl2 : H2.ds.length = n5 := ok2.dl.trans hn5; have q6 := z5.hm.c1; have HLN2 := hE0 hn5; have HDL2 := hE0 dl2; have HOK2 := hE0 ok2; have HFW2 := hE0 fw2; have HGV2 := hE0 hgv; have Z5 := hE0 z5; have hi5 : (i : Int) < (n5 : Int) := by omega
 clear z5 ok2 fw2 hgv hH2 hn5 dl2 ht eJ lnS e3 ja2 Z4 HW4 HWD HRF hb5; have q5 := (Z5.out.hm.at_n HLN2.out (i := j) (by omega)).2.2; rw [HBJ2.out, HP.out] at q5; go_wp2_with fail
 have hprev : ab5 H2.blks i = true := by unfold ab5; rw [show i - 1 = j by omega, HBJ2.out, HP.out, decide_eq_true (by omega)]; rfl
 clear q5; refine (abA Z5.out.hm j (by rw [HLN2.out]; omega) (HOK2.out.sz (by rw [HLN2.out]; omega)) (fun d hd => Nat.le_trans (HFW2.out d hd) (by omega))).mono ?_; rintro e w6 ⟨rfl, ht⟩; obtain ⟨F6, Vb6, Vd6, gl6, cs6, z6⟩ := Z5.out.step ht; obtain ⟨b6, c6, rfl, hb6, hnc6, _⟩ := aav z6.hm.ob (by show 0 < H2.blks.length; rw [HLN2.out]; omega); have e6 : (H2.out j).blks.length = n5 := HLN2.out; rw [e6] at z6 hnc6; obtain ⟨wx, hwx⟩ := nmE w6.drew; have hbx := adE hwx; have zx := z6.below hbx; have r1 := zx.hm.c1; have r2 := (zx.hm.at_n e6 (i := j) (by omega)).2.1; have r3 := (zx.hm.at_n e6 (i := i) (by omega)).2.1; have rf := aas zx.hm.ob (j * 3 + 1); have hpx := zx.hm.lt; have hbx6 : b6 < wx.heap.size := own_lt zx.hm.ob rfl; obtain ⟨s5, hs5⟩ := nmE ((aag (H2.out j).blks j).size); obtain ⟨s6, hs6⟩ := nmE ((aag (H2.out j).blks i).size); rw [hs5] at r2; rw [hs6] at r3; have z7 := zx.set (a := ⟨b6, j * 3 + 1, none⟩) (u := .int .i64 ((s5 + s6 : Nat) : Int)) (zx.hm.fb b6 rfl) (zx.hm.sizeM (by rw [e6]) (by rw [e6]; omega) (s5 + s6)); rw [Int.natCast_add] at z7; have hs56 : s5 + s6 <= 16384 := by
  have e := (HOK2.out.two (i := j) (by rw [HLN2.out]; omega)).2; rw [<- HZ.out] at e; rw [<- hs5, <- hs6]; exact e
 obtain ⟨w7, hw7⟩ := nmE (wx.setCell ⟨b6, j * 3 + 1, none⟩ (.int .i64 ((s5 : Int) + (s6 : Int)))); rw [hw7] at z7; have HW7 := hE0 hw7; have HWX := hE0 hwx; have Z7 := hE0 z7; have HS5 := hE0 hs5; have HS6 := hE0 hs6; have HRX := hE0 rf; have HPV := hE0 hprev; clear z6 zx z7 hw7 hwx hs5 hs6 ht hb6 rf hprev q6; go_wp2_with fail
 refine aan wx.heap.size (.fin [0, 1, 2, 3, 4, 5, 6, 7, 8, 9, 10, 11, 12, 13, 14, 15, 16, 17, 18, 19, 20, 21, 22, 23, 24, 25]) [26] (by kernel_rfl) (by kernel_rfl) (by kernel_rfl) (fun _ _ _ _ _ h => h) ?_; rw [HWX.out]; have t1 := tfE r1 hpx; have t2 := tfE r2 hbx6; have t3 := tfE r3 hbx6; refine aaO (l := ?laBYY) (t := ?tlBYY) ?hlaBYY ?htlBYY ?_
 case hlaBYY => simp only [pick, lE1, lE2, lE3]; rfl
 case htlBYY => simp only [pick, lE1, lE2, lE3]; rfl
 repeat (go_big_quiet_step (fail))
 refine wpQuiet_nil ?_; clear t1 t2 t3 r1 r3; have rf := HRX.out; go_wp2_with (first | (rw [HW7.out]) | fail)
 clear rf r2; have lnT : (((H2.out j).size j (s5 + s6))).blks.length = n5 := (List.length_set ..).trans HLN2.out; refine (acm Z7.out.hm i (by rw [lnT]; omega) (by rw [lnT]; omega) (HDL2.out.trans lnT.symm)).mono ?_; rintro e w8 ⟨rfl, ht⟩; obtain ⟨F8, Vb8, Vd8, gl8, cs8, z8⟩ := Z7.out.step ht; have eK : (((H2.out j).size j (s5 + s6))).drop i = (H2.out j).join j := by
  show _ = ((H2.out j).size j _).drop (j + 1); rw [<- HZ.out, HS5.out, HS6.out]
 rw [eK] at z8; have ok3 : ((H2.out j).join j).Ok := (Hp.Ok.out (i := j) HOK2.out).join (by rw [e6]; omega); have fw3 : ((H2.out j).join j).Few N := Hp.Few.out (i := j) HFW2.out; have jb := (acR (H2.out j) (i := j) (by rw [e6]; omega)).1; have hg3 := aet HPV.out; rw [show i - 1 = j by omega] at hg3; obtain ⟨H3, hH3⟩ := nmE ((H2.out j).join j); rw [hH3] at z8 ok3 fw3 jb hg3; have hgf := HGV2.out; rw [hg3] at hgf; have HGF := hE0 hgf; have HOK3 := hE0 ok3; have HFW3 := hE0 fw3; have HJB := hE0 jb; have Z8 := hE0 z8; clear hgf hg3 ok3 fw3 jb z8 hH3 ht eK lnT e6 Z7 HW7 HWX HRX; go_wp2_with fail
 refine (acS Z8.out.hm j HJB.out (HOK3.out.sz HJB.out) (fun d hd => Nat.le_trans (HFW3.out d hd) (by omega))).mono ?_; rintro e w9 ⟨rfl, ht⟩; have hto : HT F w p (H.give i) w9 := by
  rw [HGF.out]; exact Z8.out.last ht
 have HTO := hE0 hto; clear hto ht; go_wp2
 go_end0
 exact ⟨rfl, HTO.out⟩
theorem afb (h : Hm F w p H Vb Vd gl cs) (hok : H.Ok) (N : Nat) (hf : H.Few N) (hN : N <= 50000) (i : Nat) (hi : i < H.blks.length) :
 Calls Tryz.prog 37 #[.pointer (some ⟨p, 0, none⟩), .int .i64 (i : Int)] w fun e w' => e = .returned (.tuple #[]) /\ HT F w p (H.give i) w' := by
 obtain ⟨j, hj⟩ : ∃ j, i = 0 \/ i = j + 1 := ⟨i - 1, by omega⟩; rcases Nat.lt_or_ge (i + 1) H.blks.length with hE | hE
 · cases hU : (aag H.blks (i + 1)).used
   · rcases hj with hZ | hZ
     · exact amL h hok N hf hN i hi hE hU hZ
     · cases hP : (aag H.blks j).used
       · exact amN h hok N hf hN i hi hE hU j hZ hP
       · exact amM h hok N hf hN i hi hE hU j hZ hP
   · rcases hj with hZ | hZ
     · exact amI h hok N hf hN i hi hE hU hZ
     · cases hP : (aag H.blks j).used
       · exact amK h hok N hf hN i hi hE hU j hZ hP
       · exact amJ h hok N hf hN i hi hE hU j hZ hP
 · rcases hj with hZ | hZ
   · exact amF h hok N hf hN i hi hE hZ
   · cases hP : (aag H.blks j).used
     · exact amH h hok N hf hN i hi hE j hZ hP
     · exact amG h hok N hf hN i hi hE j hZ hP
end
section
variable {F : Nat -> Prop} {w w' : World} {p gl : Nat} {H : Hp} {Vb Vd : Value} {cs : List Value}
theorem apD (h : Hm F w p H Vb Vd gl cs) (hok : H.Ok) (i : Nat) (hi : i < H.blks.length) (s : Nat) (hs : s <= 16384) (hlt : (aag H.blks i).size < s + 32) :
 Calls Tryz.prog 98 #[.pointer (some ⟨p, 0, none⟩), .int .i64 (i : Int), .int .i64 (s : Int)] w fun e w' => e = .returned (.tuple #[]) /\ HT F w p (H.cut i s) w' := by
 have hcut : H.cut i s = H.use i true := by unfold Hp.cut; rw [if_pos hlt]
 obtain ⟨b1, c1, rfl, hb1, hnc1, _⟩ := aav h.ob (by omega); have hn512 := hok.n; have hsz := (aac _).1 (hok.sz hi); have d := h.at_n rfl hi; have q1 := h.c1; obtain ⟨xo, hxo⟩ := nmE ((aag H.blks i).off); obtain ⟨xs, hxs⟩ := nmE ((aag H.blks i).size); obtain ⟨xu, hxu⟩ := nmE ((aag H.blks i).used); rw [hxo, hxs, hxu] at d; rw [hxs] at hsz hlt; obtain ⟨d0, d1, d2⟩ := d; obtain ⟨wa, hwa⟩ := nmE (w.alloc (.cells #[.int .i64 (xo : Int), .int .i64 (xs : Int), .bool xu] 81)); have hba := abE hwa; obtain ⟨gx, hgx⟩ := nmE w.heap.size; have hnx : wa.heap[gx]? = some (.cells #[.int .i64 (xo : Int), .int .i64 (xs : Int), .bool xu] 81 (0, 0)) := by rw [<- hwa, <- hgx]; exact heap_alloc_new w _
 have za := (Hz.start h).below hba; have z1 := za.set (a := ⟨b1, i * 3 + 2, none⟩) (u := .bool true) (h.fb b1 rfl) (za.hm.useM rfl hi true); obtain ⟨w1, hw1⟩ := nmE (wa.setCell ⟨b1, i * 3 + 2, none⟩ (.bool true)); have qa := za.hm.c1; have f1 := aas za.hm.ob (i * 3 + 2); obtain ⟨_, qc⟩ : ∃ u, wa.cell? ⟨b1, i * 3 + 2, none⟩ = some u := ⟨_, (za.hm.at_n rfl hi).2.2⟩; have hx1 : w1.cell? ⟨gx, 1, none⟩ = some (.int .i64 (xs : Int)) := by
  rw [<- hw1]; refine (World.cell?_of_block (w := wa) (Below.heap_setCell wa _ _ _ (by dsimp only; omega))).trans ?_; exact (aad hnx).1.2.1
 rw [hw1] at z1; have HTO : Hid (HT F w p (H.cut i s) w1) := (show HT _ _ _ _ _ by rw [hcut]; exact z1.fin); have HWA := hE0 hwa; have HW1 := hE0 hw1; have HGX := hE0 hgx; obtain ⟨n, hn⟩ := nmE H.blks.length; rw [hn] at q1 qa hi; have hin : (i : Int) < (n : Int) := by omega
 have hls : (xs : Int) - (s : Int) < 32 := by omega
 clear h hok hb1 hba hnx za z1 hwa hw1 hgx hxo hxs hxu hcut hlt hnc1 hn; go_enter Tryz.func98, Tryz.ntmps98
 go_wp2_with (first | (rw [HWA.out, HGX.out]) | (rw [HW1.out]) | fail)
 refine bodyPost_ret (results_none rfl _ _ _) rfl ?_; exact ⟨rfl, HTO.out⟩
theorem apE (h : Hm F w p H Vb Vd gl cs) (hok : H.Ok) (N : Nat) (hf : H.Few N) (hN : N <= 50000) (i : Nat) (hi : i < H.blks.length) (s : Nat) (hs : aaG (s : Int) = true) (hle : s + 32 <= (aag H.blks i).size) :
 Calls Tryz.prog 98 #[.pointer (some ⟨p, 0, none⟩), .int .i64 (i : Int), .int .i64 (s : Int)] w fun e w' => e = .returned (.tuple #[]) /\ HT F w p (H.cut i s) w' := by
 have hcut : H.cut i s = (((H.use i true).size i s).put (i + 1) ⟨(aag H.blks i).off + s, (aag H.blks i).size - s, true⟩).give (i + 1) := by unfold Hp.cut; rw [if_neg (by omega)]
 have hok2 := hok.cut hi hs hle; have hln2 := ags (s := s) H hi ⟨(aag H.blks i).off + s, (aag H.blks i).size - s, true⟩; obtain ⟨b1, c1, rfl, hb1, hnc1, _⟩ := aav h.ob (by omega); have hn512 := hok.n; have hsz := (aac _).1 (hok.sz hi); have hss := (aac _).1 hs; have hoff := (aai _ _ _ (hok.at_ hi).1).1; have hlen := (aai _ _ _ (hok.at_ hi).2.2).1; have hle3 := hok.le; have d := h.at_n rfl hi; have q1 := h.c1; obtain ⟨xo, hxo⟩ := nmE ((aag H.blks i).off); obtain ⟨xs, hxs⟩ := nmE ((aag H.blks i).size); obtain ⟨xu, hxu⟩ := nmE ((aag H.blks i).used); rw [hxo, hxs, hxu] at d; rw [hxs] at hsz hle; rw [hxo, hxs] at hcut hok2 hln2 hlen; rw [hxo] at hoff; obtain ⟨d0, d1, d2⟩ := d; obtain ⟨wa, hwa⟩ := nmE (w.alloc (.cells #[.int .i64 (xo : Int), .int .i64 (xs : Int), .bool xu] 81)); have hba := abE hwa; obtain ⟨gx, hgx⟩ := nmE w.heap.size; have hnx : wa.heap[gx]? = some (.cells #[.int .i64 (xo : Int), .int .i64 (xs : Int), .bool xu] 81 (0, 0)) := by rw [<- hwa, <- hgx]; exact heap_alloc_new w _
 have za := (Hz.start h).below hba; have z1 := za.set (a := ⟨b1, i * 3 + 2, none⟩) (u := .bool true) (h.fb b1 rfl) (za.hm.useM rfl hi true); have lnu : (H.use i true).blks.length = H.blks.length := List.length_set ..; have z2 := z1.set (a := ⟨b1, i * 3 + 1, none⟩) (u := .int .i64 (s : Int)) (h.fb b1 rfl) (z1.hm.sizeM (by rw [lnu]) (by rw [lnu]; exact hi) s); obtain ⟨w1, hw1⟩ := nmE (wa.setCell ⟨b1, i * 3 + 2, none⟩ (.bool true)); rw [hw1] at z1 z2; obtain ⟨w2, hw2⟩ := nmE (w1.setCell ⟨b1, i * 3 + 1, none⟩ (.int .i64 (s : Int))); rw [hw2] at z2; have qa := za.hm.c1; have f1 := aas za.hm.ob (i * 3 + 2); obtain ⟨_, qc⟩ : ∃ u, wa.cell? ⟨b1, i * 3 + 2, none⟩ = some u := ⟨_, (za.hm.at_n rfl hi).2.2⟩; have qb := z1.hm.c1; have f2 := aas z1.hm.ob (i * 3 + 1); obtain ⟨_, qd⟩ : ∃ u, w1.cell? ⟨b1, i * 3 + 1, none⟩ = some u := ⟨_, (anV (n := H.blks.length) (by have e := z1.hm.ob; rw [lnu] at e; exact e) (aax (l := (H.use i true).blks) (by rw [lnu]; exact hi))).1.2.1⟩; have k1 : ∀ j, w1.cell? ⟨gx, j, none⟩ = wa.cell? ⟨gx, j, none⟩ := fun j => by rw [<- hw1]; exact World.cell?_of_block (w := wa) (Below.heap_setCell wa _ _ _ (by dsimp only; omega))
 have k2 : ∀ j, w2.cell? ⟨gx, j, none⟩ = wa.cell? ⟨gx, j, none⟩ := fun j => by rw [<- k1, <- hw2]; exact World.cell?_of_block (w := w1) (Below.heap_setCell w1 _ _ _ (by dsimp only; omega))
 have hx1 : w1.cell? ⟨gx, 1, none⟩ = some (.int .i64 (xs : Int)) := (k1 1).trans (aad hnx).1.2.1; have hx2 : w2.cell? ⟨gx, 0, none⟩ = some (.int .i64 (xo : Int)) := (k2 0).trans (aad hnx).1.1; have hx3 : w2.cell? ⟨gx, 1, none⟩ = some (.int .i64 (xs : Int)) := (k2 1).trans (aad hnx).1.2.1; have HCUT := hE0 hcut; have HOK2 := hE0 hok2; have HLN2 := hE0 hln2; have HF := hE0 hf; have HWA := hE0 hwa; have HW1 := hE0 hw1; have HW2 := hE0 hw2; have HGX := hE0 hgx; have Z2 := hE0 z2; have HDL : Hid (H.ds.length = H.blks.length) := hok.dl; have HLU : Hid (((H.use i true).size i s).blks.length = H.blks.length) := (show _ = _ from (List.length_set ..).trans lnu); obtain ⟨n, hn⟩ := nmE H.blks.length; rw [hn] at q1 qa hi HLN2 HDL HLU hn512; rw [hn] at qb; have hin : (i : Int) < (n : Int) := by omega
 have hls : 32 <= (xs : Int) - (s : Int) := by omega
 have e1 : (xo : Int) + (s : Int) = ((xo + s : Nat) : Int) := by omega
 have e2 : (xs : Int) - (s : Int) = ((xs - s : Nat) : Int) := by omega
 obtain ⟨k, hk⟩ : ∃ k : Nat, (i : Int) + 1 = (k : Int) := ⟨i + 1, by omega⟩; have HK : Hid (k = i + 1) := (show _ = _ by omega); have HE1 := hE0 e1; have HE2 := hE0 e2; clear h hok hb1 hba hnx za z1 z2 hwa hw1 hw2 hgx hxo hxs hxu hcut hnc1 hn lnu hok2 hln2 hf hs k1 k2 e1 e2; go_enter Tryz.func98, Tryz.ntmps98
 go_wp2_with (first | (rw [HWA.out, HGX.out]) | (rw [HW1.out]) | (rw [HW2.out]) | fail)
 rw [HE1.out, HE2.out]; refine (agE Z2.out.hm k (by rw [HLU.out]; omega) (by rw [HLU.out]; omega) (HDL.out.trans HLU.out.symm) ⟨xo + s, xs - s, true⟩).mono ?_; rintro e w3 ⟨rfl, ht⟩; obtain ⟨F3, Vb3, Vd3, gl3, cs3, z3⟩ := Z2.out.step ht; have hcut := HCUT.out; have hok2 := HOK2.out; have hln2 := HLN2.out; rw [<- HK.out] at hcut hok2 hln2; have HCUT2 := hE0 hcut; have HOK3 := hE0 hok2; have HLN3 := hE0 hln2; have Z3 := hE0 z3; clear z3 hcut hok2 hln2 ht q1 qa qb f1 f2 hx1 hx2 hx3 d0 d1 d2; go_wp2_with fail
 refine (afb Z3.out.hm HOK3.out N HF.out hN k (by rw [HLN3.out]; omega)).mono ?_; rintro e w4 ⟨rfl, ht⟩; have hto : HT F w p (H.cut i s) w4 := by
  rw [HCUT2.out]; exact Z3.out.last ht
 have HTO := hE0 hto; clear hto ht; go_wp2
 go_end0
 exact ⟨rfl, HTO.out⟩
theorem agF (h : Hm F w p H Vb Vd gl cs) (hok : H.Ok) (N : Nat) (hf : H.Few N) (hN : N <= 50000) (i : Nat) (hi : i < H.blks.length) (s : Nat) (hs : aaG (s : Int) = true) :
 Calls Tryz.prog 98 #[.pointer (some ⟨p, 0, none⟩), .int .i64 (i : Int), .int .i64 (s : Int)] w fun e w' => e = .returned (.tuple #[]) /\ HT F w p (H.cut i s) w' := by
 rcases Nat.lt_or_ge (aag H.blks i).size (s + 32) with hlt | hle
 · exact apD h hok i hi s (by have := (aac _).1 hs; omega) hlt
 · exact apE h hok N hf hN i hi s hs hle
theorem abe {l : List Bk} {o : Int} {i : Nat} (h : aaK l o = some i) : i < l.length /\ ((aag l i).off : Int) = o /\ (aag l i).used = true := by
 unfold aaK at h; split at h
 · cases h
 · rename_i j hj; split at h
   · injection h with h; subst h; exact ⟨(abs hj).1, (abs hj).2, by assumption⟩
   · cases h
def aqW (x : Option Hp) : Int := if x.isSome then 0 else 3
theorem aed (h : Hm F w p H Vb Vd gl cs) (hok : H.Ok) (N : Nat) (hf : H.Few N) (hN : N <= 50000) (o : Int) (ho : -9223372036854775808 <= o /\ o <= 9223372036854775807) :
 Calls Tryz.prog 100 #[.pointer (some ⟨p, 0, none⟩), .int .i64 o] w fun e w' => e = .returned (.int .i64 (aqW (H.giveO o))) /\ HT F w p ((H.giveO o).getD H) w' := by
 have hn512 := hok.n
 cases hu : aaK H.blks o with
 | none =>
  have e : H.giveO o = none := by unfold Hp.giveO; rw [hu]; rfl
  have HU := hE0 (abq h (by omega) o ho _ hu); have HE := hE0 e; have HT0 : Hid (HT F w p H w) := HT.refl ⟨_, _, _, _, h⟩; clear h hok hf hu e; go_enter Tryz.func100, Tryz.ntmps100
  go_wp2_with fail
  refine HU.out.mono ?_; rintro e w2 ⟨rfl, rfl⟩; go_wp2
  go_ret
  exact ⟨amf (by rw [HE.out]; rfl), by rw [HE.out]; exact HT0.out⟩
 | some i =>
  have e : H.giveO o = some (H.give i) := by unfold Hp.giveO; rw [hu]; rfl
  have hi := (abe hu).1; have HU := hE0 (abq h (by omega) o ho _ hu); have HE := hE0 e; have HG := hE0 (afb h hok N hf hN i hi); have hi2 : i <= 512 := by omega
  clear h hok hf hu e hi hn512; go_enter Tryz.func100, Tryz.ntmps100
  go_wp2_with fail
  refine HU.out.mono ?_; rintro e w2 ⟨rfl, rfl⟩; dsimp only [ixV]; go_wp2_with fail
  refine HG.out.mono ?_; rintro e w3 ⟨rfl, ht⟩; have HTO := hE0 ht; clear ht HU HG; go_wp2
  go_ret
  exact ⟨amf (by rw [HE.out]; rfl), by rw [HE.out]; exact HTO.out⟩
end
theorem amO (w : World) (cap : Nat) :
 Calls Tryz.prog 9 #[.int .i64 (cap : Int)] w fun e w' => ∃ p, e = .returned (.pointer (some ⟨p, 0, none⟩)) /\ HM (fun k => w.heap.size <= k) w' p ⟨cap, [], [], fun _ => []⟩ /\ Below w.heap.size w w' := by
 obtain ⟨c22, h22⟩ : ∃ c22 : List Value, List.replicate 22 (Value.slice none 0 0) = c22 := ⟨_, rfl⟩; obtain ⟨wg, hwg⟩ := nmE (w.alloc (.cells c22.toArray 86)); obtain ⟨wo, hwo⟩ := nmE (wg.alloc (.cells #[.int .i64 (cap : Int), .slice none 0 0, .slice none 0 0, .slice (some ⟨w.heap.size, 0, none⟩) 22 22] 58)); have b1 := abE hwg; have b2 := abE hwo; have n1 := anE hwg; have n2 := anE hwo; have hm : HM (fun k => w.heap.size <= k) wo wg.heap.size ⟨cap, [], [], fun _ => []⟩ := by
  refine ⟨.slice none 0 0, .slice none 0 0, w.heap.size, c22, n2, World.ownsRow_nil _ _ _ _, World.ownsRow_nil _ _ _ _, (b2.block _ (aab n1)).trans n1, by rw [<- h22]; exact List.length_replicate, fun d hd => ⟨.slice none 0 0, ?_, World.ownsRow_nil _ _ _ _⟩, b1.size, Nat.le_refl _, fun k e => (by cases e), fun k e => (by cases e), fun d v k hd hv e => ?_, fun d hd => (by cases hd)⟩
  · rw [<- h22, List.getElem?_replicate, if_pos hd]
  · rw [<- h22, List.getElem?_replicate, if_pos hd] at hv; injection hv with hv; subst hv
    cases e
 have HM0 := hE0 hm; have HB0 := hE0 (b1.trans (b2.mono b1.size)); have HMS : ∀ W : World, (Instr.makeSlice 56 (.int .i64 22) (.int .i64 22)).run Tryz.prog W = .ok (.slice (some ⟨W.heap.size, 0, none⟩) 22 22) (W.alloc (.cells c22.toArray 86)) := fun W => by rw [<- h22]; exact anS W
 have HWG := hE0 hwg; have HWO := hE0 hwo; have HGI : Hid (wg.heap.size = w.heap.size + 1) := (show _ = _ by rw [<- hwg]; simp); clear h22 hwg hwo b1 b2 n1 n2 hm; go_enter Tryz.func9, Tryz.ntmps9
 go_wp2_with (first | (rw [HWG.out]) | (rw [HWO.out]) | fail)
 go_ret
 exact ⟨wg.heap.size, by first | rfl | rw [HGI.out], HM0.out, HB0.out⟩
theorem ajZ {l : List Bk} {s : Nat} {LL : List Nat} {j y i : Nat} (hy : LL[j]? = some y) (ha : atB (y : Int) l = some i) : acw l s (LL.drop j) = if s <= (aag l i).size then some i else acw l s (LL.drop (j + 1)) := by
 have hj : j < LL.length := aa5 hy; have e : LL[j] = y := by rw [List.getElem?_eq_getElem hj] at hy; injection hy
 rw [List.drop_eq_getElem_cons hj, e]; rw [acw, ha]
section
variable {F : Nat -> Prop} {w w' : World} {p gl : Nat} {H : Hp} {Vb Vd : Value} {cs : List Value}
theorem acH (h : Hm F w p H Vb Vd gl cs) (hok : H.Ok) (N : Nat) (hf : H.Few N) (hN : N <= 50000) (hL : H.Listed) (s : Nat) (hs : aaG (s : Int) = true) (x : Option Nat) (hx : H.find s = x) :
 Calls Tryz.prog 97 #[.pointer (some ⟨p, 0, none⟩), .int .i64 (s : Int)] w fun e w' => e = .returned (.int .i64 (ixV x)) /\ w = w' := by
 obtain ⟨cl, hcl, hcl22⟩ : ∃ c : Nat, aar (s : Int) = (c : Int) /\ c < 22 := abb (x := ⟨0, s, false⟩) hs; have hss := (aac _).1 hs; have hn512 := hok.n; have hx' : H.findC s (22 - cl) cl = x := by rw [<- hx]; unfold Hp.find; rw [hcl]; rfl
 have HC := hE0 (fun W => aem W (s : Int) (by omega) (cl : Int) hcl); have HX := hE0 hx'; have HH := hE0 h; have HF := hE0 hf; have HLI := hE0 hL; have HOK := hE0 hok; have c1 := h.c1; have c3 := h.c3; have HAT : Hid (∀ (y : Nat) (i : Nat), y <= 100000 -> atB (y : Int) H.blks = some i -> Calls Tryz.prog 65 #[.pointer (some ⟨p, 0, none⟩), .int .i64 (y : Int)] w fun e w' => e = .returned (.int .i64 (ixV (some i))) /\ w = w') := fun y i hy ha => acc h (by omega) (y : Int) (by omega) _ ha; clear h hf hL hok hx hx' hcl hs; go_enter Tryz.func97, Tryz.ntmps97
 go_wp2_with fail
 refine (HC.out _).mono ?_; rintro e w1 ⟨rfl, rfl⟩; clear HC; go_wp2
 go_loopw [5] (fun t wr => ∃ d k : Nat, t = .int .i64 (d : Int) /\ d + k = 22 /\ x = H.findC s k d /\ w = wr) (fun t _ => 22 - (intOf t).toNat)
 case atStart => exact ⟨cl, 22 - cl, rfl, by omega, HX.out.symm, rfl⟩
 case round =>
  obtain ⟨d, k, rfl, hdk, hxf, rfl⟩ := hrel; by_cases hd22 : d < 22
  · obtain ⟨k, rfl⟩ : ∃ k', k = k' + 1 := ⟨k - 1, by omega⟩; obtain ⟨A, cc, hcell, hlo⟩ := HH.out.lcell hd22; have hrw := (ald hlo).1; have hfew := HF.out d hd22; have hlst := HLI.out d hd22; have hxf' : x = (match acw H.blks s (H.lists d) with
     | some i => some i
     | none => H.findC s k (d + 1)) := hxf
    obtain ⟨LL, hLL⟩ := nmE (H.lists d); rw [hLL] at hcell hrw hfew hlst hxf'; obtain ⟨M, hM⟩ := nmE LL.length; rw [hM] at hcell hfew; have HM := hE0 hM; have HXF := hE0 hxf'; have HRW := hE0 hrw; have HLS := hE0 hlst; have hdi : (d : Int) < 22 := by omega
    clear hLL hM hxf hxf' hrw hlst hlo HX HF HLI; go_wp2
    go_loopw [6] (fun i wr => ∃ j : Nat, j <= M /\ i = .int .i64 (j : Int) /\ acw H.blks s LL = acw H.blks s (LL.drop j) /\ w = wr) (fun i _ => M - (intOf i).toNat)
    case atStart => exact ⟨0, Nat.zero_le _, rfl, rfl, rfl⟩
    case round =>
     obtain ⟨j, hj, rfl, hall, rfl⟩ := hrel; by_cases hlt : j < M
     · obtain ⟨y, hy⟩ : ∃ y, LL[j]? = some y := ⟨LL[j]'(by rw [HM.out]; exact hlt), List.getElem?_eq_getElem _⟩; obtain ⟨i, hi⟩ := HLS.out y (List.mem_of_getElem? hy); obtain ⟨bd, od, rfl, hbd, _, hcd⟩ := HRW.out (by rw [HM.out]; omega); have hyc := hcd j y hy; obtain ⟨hib, hoff⟩ := abs hi; have hst := ajZ (s := s) hy hi; have hsz := (aac _).1 (HOK.out.sz hib); have hy5 : y <= 100000 := by
        have h1 := (aai _ _ _ (HOK.out.at_ hib).2.2).1; have h2 := HOK.out.le; omega
       have HA := hE0 (HAT.out y i hy5 hi); have hji : (j : Int) < (M : Int) := by omega
       have hi512 : i < 512 := by omega
       have HST : Hid (acw H.blks s LL = if s <= (aag H.blks i).size then some i else acw H.blks s (LL.drop (j + 1))) := (show _ = _ by rw [hall, hst]); obtain ⟨b1, cb, rfl, _, hnb, _⟩ := aav HH.out.ob (by omega); have d1 := (HH.out.at_n rfl hib).2.1; obtain ⟨n, hn⟩ := nmE H.blks.length; rw [hn] at c1 hib hnb; obtain ⟨xs, hxs⟩ := nmE ((aag H.blks i).size); rw [hxs] at d1 hsz HST; have hin : (i : Int) < (n : Int) := by omega
       clear hi hy hoff hst hn hxs hbd hcd HAT HLS HOK HRW HH hall; by_cases hge : s <= xs
       · have hx1 : x = some i := by rw [HXF.out, HST.out, if_pos hge]
         subst hx1; have hge2 : (s : Int) <= (xs : Int) := by omega
         clear HXF HST; go_wp2_with fail
         refine HA.out.mono ?_; rintro e w2 ⟨rfl, rfl⟩; clear HA; dsimp only [ixV]; go_wp2
         go_ret
         exact ⟨rfl, rfl⟩
       · have hge2 : (xs : Int) < (s : Int) := by omega
         have hst2 : acw H.blks s LL = acw H.blks s (LL.drop (j + 1)) := by rw [HST.out, if_neg hge]
         have HST2 := hE0 hst2; clear hst2 HST; go_wp2_with fail
         refine HA.out.mono ?_; rintro e w2 ⟨rfl, rfl⟩; clear HA; dsimp only [ixV]; go_wp2
         go_roundw
         case rel => exact ⟨j + 1, by omega, by go_num, HST2.out, trivial⟩
         case measure => simp only [intOf]; omega
     · obtain rfl : M = j := by omega
       have hx2 : x = H.findC s k (d + 1) := by
        rw [HXF.out, hall, List.drop_of_length_le (by rw [HM.out]; exact Nat.le_refl _)]; rfl
       have HX2 := hE0 hx2; clear hx2 hall HXF HRW HLS; go_wp2
       go_roundw
       case rel => exact ⟨d + 1, k, by go_num, by omega, HX2.out, trivial⟩
       case measure => simp only [intOf]; omega
  · obtain ⟨rfl, rfl⟩ : d = 22 /\ k = 0 := by omega
    obtain rfl : x = none := by rw [hxf]; rfl
    clear hxf HX HH HF HLI HAT HOK; go_wp2
    go_ret
    exact ⟨rfl, rfl⟩
end
def ag6 (x : Option Nat) : Int := if x.isSome then 0 else 5
theorem aj0 {H : Hp} {s i : Nat} (h : H.find s = some i) : H.take s = (some (aag H.blks i).off, (H.out i).cut i s) := by
 unfold Hp.take; rw [h]
theorem adG {H : Hp} {s : Nat} (h : H.find s = none) : H.take s = if H.cap < lenB H.blks + s - abk H.blks then (none, H)
 else if 0 < abk H.blks then (some (aag H.blks (H.blks.length - 1)).off, ((H.out (H.blks.length - 1)).size (H.blks.length - 1) s).use (H.blks.length - 1) true)
 else (some (lenB H.blks), H.put H.blks.length ⟨lenB H.blks, s, true⟩) := by
 unfold Hp.take; rw [h]
theorem ahv {l : List Bk} (h : l.length = 0) : abk l = 0 := by unfold abk; rw [if_pos h]
theorem ahw {l : List Bk} {k : Nat} (h : l.length = k + 1) (hu : (aag l k).used = true) : abk l = 0 := by unfold abk; rw [if_neg (by omega), show l.length - 1 = k by omega, if_pos hu]
theorem ahx {l : List Bk} {k : Nat} (h : l.length = k + 1) (hu : (aag l k).used = false) : abk l = (aag l k).size := by unfold abk; rw [if_neg (by omega), show l.length - 1 = k by omega, if_neg (by rw [hu]; decide)]
section
variable {F : Nat -> Prop} {w w' : World} {p gl : Nat} {H : Hp} {Vb Vd : Value} {cs : List Value}
theorem air {H : Hp} {s : Nat} : ∀ {i : Nat}, H.find s = some i -> i < H.blks.length /\ s <= (aag H.blks i).size := by
 have one : ∀ (LL : List Nat) (i : Nat), acw H.blks s LL = some i -> i < H.blks.length /\ s <= (aag H.blks i).size := by
  intro LL; induction LL with
  | nil => intro i h; cases h
  | cons o r ih =>
   intro i h; unfold acw at h; split at h
   · cases h
   · rename_i j hj; split at h
     · rename_i hs; injection h with h; subst h; exact ⟨(abs hj).1, hs⟩
     · exact ih i h
 have go : ∀ (k c i : Nat), H.findC s k c = some i -> i < H.blks.length /\ s <= (aag H.blks i).size := by
  intro k; induction k with
  | zero => intro c i h; cases h
  | succ k ih =>
   intro c i h; unfold Hp.findC at h; split at h
   · rename_i j hj; injection h with h; subst h; exact one _ _ hj
   · exact ih _ _ h
 intro i h; exact go _ _ _ h
theorem aoD (h : Hm F w p H Vb Vd gl cs) (hok : H.Ok) (N : Nat) (hf : H.Few N) (hN : N <= 50000) (hL : H.Listed) (s : Nat) (hs : aaG (s : Int) = true) (i : Nat) (hx : H.find s = some i) :
 Calls Tryz.prog 64 #[.pointer (some ⟨p, 0, none⟩), .int .i64 (s : Int)] w fun e w' => e = .returned (.tuple #[.int .i64 (((H.take s).1.getD 0 : Nat) : Int), .int .i64 (ag6 (H.take s).1)]) /\ HT F w p (H.take s).2 w' := by
 obtain ⟨hi, hle⟩ := air hx; have htk := aj0 hx; have hn512 := hok.n; have HFI := hE0 (acH h hok N hf hN hL s hs _ hx); have HOUT := hE0 (abA h i hi (hok.sz hi) (fun d hd => Nat.le_trans (hf d hd) (by omega))); have HH := hE0 h; have HOK := hE0 (Hp.Ok.out (i := i) hok); have HFW := hE0 (Hp.Few.out (i := i) hf); have HTK := hE0 htk; have HS := hE0 hs; have hi2 : i < 512 := by omega
 have HI := hE0 hi; clear h hok hf hL hs hx htk hle hi hn512; go_enter Tryz.func64, Tryz.ntmps64
 go_wp2_with fail
 refine HFI.out.mono ?_; rintro e w2 ⟨rfl, rfl⟩; dsimp only [ixV]; go_wp2_with fail
 refine HOUT.out.mono ?_; rintro e w3 ⟨rfl, ht⟩; obtain ⟨F3, Vb3, Vd3, gl3, cs3, z3⟩ := (Hz.start HH.out).step ht; obtain ⟨b3, c3, rfl, hb3, hnc3, _⟩ := aav z3.hm.ob (by show 0 < H.blks.length; have := HI.out; omega); have q1 := z3.hm.c1; have d0 := (z3.hm.at_n (show (H.out i).blks.length = H.blks.length from rfl) HI.out).1; have e0 : (aag (H.out i).blks i).off = (aag H.blks i).off := rfl; rw [e0] at d0; have e1 : (H.out i).blks.length = H.blks.length := rfl; rw [e1] at q1; have HC := hE0 (agF z3.hm HOK.out N HFW.out hN i HI.out s HS.out); have Z3 := hE0 z3; obtain ⟨xo, hxo⟩ := nmE ((aag H.blks i).off); rw [hxo] at d0; have HXO := hE0 hxo; obtain ⟨n, hn⟩ := nmE H.blks.length; rw [hn] at q1; have hin : (i : Int) < (n : Int) := by have := HI.out; omega
 clear z3 ht hb3 hnc3 hxo hn e0 e1 HFI HOUT HH HOK HFW HS; go_wp2_with fail
 refine HC.out.mono ?_; rintro e w4 ⟨rfl, ht⟩; have hto : HT F w p (H.take s).2 w4 := by
  rw [HTK.out]; exact Z3.out.last ht
 have HTO := hE0 hto; clear hto ht HC q1 d0; go_wp2
 go_ret2
 exact ⟨by rw [HTK.out, HXO.out]; rfl, HTO.out⟩
theorem amP (h : Hm F w p H Vb Vd gl cs) (hok : H.Ok) (N : Nat) (hf : H.Few N) (hN : N <= 50000) (hL : H.Listed) (s : Nat) (hs : aaG (s : Int) = true) (hcap : H.cap <= 100000) (hx : H.find s = none) (hz : H.blks.length = 0) (hr : H.cap < lenB H.blks + s - abk H.blks) :
 Calls Tryz.prog 64 #[.pointer (some ⟨p, 0, none⟩), .int .i64 (s : Int)] w fun e w' => e = .returned (.tuple #[.int .i64 (((H.take s).1.getD 0 : Nat) : Int), .int .i64 (ag6 (H.take s).1)]) /\ HT F w p (H.take s).2 w' := by
 have htk := adG hx; have hn512 := hok.n; have hle := hok.le; have hss := (aac _).1 hs; obtain ⟨A1, c1, rfl⟩ := aa0 h.ob; have htf : abk H.blks = 0 := ahv hz; rw [if_pos hr] at htk; rw [htf] at hr; obtain ⟨wd, hwd⟩ := nmE w.drew; have hbd := adE hwd; have hd := h.below hbd; have HFI := hE0 (acH h hok N hf hN hL s hs _ hx); have HLEN := hE0 (aa8 hd (by omega) (by omega)); have q1 := h.c1; have r0 := hd.c0; have hpd := hd.lt; have HH := hE0 h; have HD := hE0 hd; have HBD := hE0 hbd; have HWD := hE0 hwd; have HTK := hE0 htk; obtain ⟨ll, hll⟩ := nmE (lenB H.blks); rw [hll] at HLEN hr hle; obtain ⟨cap, hcp⟩ := nmE H.cap; rw [hcp] at r0 hr hcap; obtain ⟨n, hn⟩ := nmE H.blks.length; rw [hn] at q1 hz hn512; have hz2 : (n : Int) - 1 = -1 := by omega
 have hz3 : (n : Int) <= 0 := by omega
 have hrm : (cap : Int) < (ll : Int) + (s : Int) := by omega
 have HZ := hE0 hz; have HN := hE0 hn; have HLL := hE0 hll; clear h hd hbd hwd htk hx hok hL hs htf hr hcp hz hn hll hf; go_enter Tryz.func64, Tryz.ntmps64
 go_wp2_with fail
 refine HFI.out.mono ?_; rintro e w2 ⟨rfl, rfl⟩; clear HFI; dsimp only [ixV]; go_wp2_with fail
 refine aaf wd.heap.size [([0, 2, 4, 6, 7, 8, 9], 1)] [3, 5, 10] [] (by kernel_rfl) (by kernel_rfl) (by kernel_rfl) (fun _ _ _ _ _ h => h) ?_; rw [HWD.out]; have t1 := tfE r0 hpd; refine aaj (l := ?segTZN) ?hsegTZN ?_
 case hsegTZN => simp only [pick, lE1, lE2, lE3]; rfl
 repeat (go_big_quiet_step (fail))
 refine wpQuiet_nil ?_; clear t1; refine aam (vs := #[.pointer (some ⟨p, 0, none⟩)]) Tryz.call17 rfl rfl rfl (R := fun r w' => r = .int .i64 (ll : Int) /\ w' = wd) (HLEN.out.mono ?_) wd.heap.size (Nat.le_refl _) ?_
 · rintro e w' ⟨rfl, rfl⟩; exact ⟨_, rfl, Below.refl _ _, rfl, rfl⟩
 rintro r w11 _ ⟨rfl, rfl⟩; refine aap (l := ?laTZN) (t := []) ?hlaTZN ?htlTZN ?_
 case hlaTZN => simp only [pick, lE1, lE2, lE3]; rfl
 case htlTZN => rfl
 simp only [Act.put, lE4, lE5, lE6]; repeat (go_big_quiet_step (fail))
 refine wpQuiet_nil ?_; go_wp2
 go_ret2
 exact ⟨by rw [HTK.out]; rfl, by rw [HTK.out]; exact HT.of_below ⟨_, _, _, _, HH.out⟩ HBD.out⟩
theorem amQ (h : Hm F w p H Vb Vd gl cs) (hok : H.Ok) (N : Nat) (hf : H.Few N) (hN : N <= 50000) (hL : H.Listed) (s : Nat) (hs : aaG (s : Int) = true) (hcap : H.cap <= 100000) (hx : H.find s = none) (hz : H.blks.length = 0) (hr : ¬ H.cap < lenB H.blks + s - abk H.blks) :
 Calls Tryz.prog 64 #[.pointer (some ⟨p, 0, none⟩), .int .i64 (s : Int)] w fun e w' => e = .returned (.tuple #[.int .i64 (((H.take s).1.getD 0 : Nat) : Int), .int .i64 (ag6 (H.take s).1)]) /\ HT F w p (H.take s).2 w' := by
 have htk := adG hx; have hn512 := hok.n; have hle := hok.le; have hss := (aac _).1 hs; obtain ⟨A1, c1, rfl⟩ := aa0 h.ob; have htf : abk H.blks = 0 := ahv hz; rw [if_neg hr, htf, if_neg (by omega)] at htk; rw [htf] at hr; obtain ⟨wd, hwd⟩ := nmE w.drew; have hbd := adE hwd; have hd := h.below hbd; have HFI := hE0 (acH h hok N hf hN hL s hs _ hx); have HLEN := hE0 (aa8 hd (by omega) (by omega)); have q1 := h.c1; have r0 := hd.c0; have hpd := hd.lt; have HH := hE0 h; have HD := hE0 hd; have HBD := hE0 hbd; have HWD := hE0 hwd; have HTK := hE0 htk; have HPUT := hE0 (agE hd H.blks.length (Nat.le_refl _) (by omega) hok.dl ⟨lenB H.blks, s, true⟩); obtain ⟨ll, hll⟩ := nmE (lenB H.blks); rw [hll] at HLEN hr hle  HPUT; obtain ⟨cap, hcp⟩ := nmE H.cap; rw [hcp] at r0 hr hcap; obtain ⟨n, hn⟩ := nmE H.blks.length; rw [hn] at q1 hz hn512  HPUT; have hz2 : (n : Int) - 1 = -1 := by omega
 have hz3 : (n : Int) <= 0 := by omega
 have hrm : (ll : Int) + (s : Int) <= (cap : Int) := by omega
 have HZ := hE0 hz; have HN := hE0 hn; have HLL := hE0 hll; clear h hd hbd hwd htk hx hok hL hs htf hr hcp hz hn hll hf; go_enter Tryz.func64, Tryz.ntmps64
 go_wp2_with fail
 refine HFI.out.mono ?_; rintro e w2 ⟨rfl, rfl⟩; clear HFI; dsimp only [ixV]; go_wp2_with fail
 refine aaf wd.heap.size [([0, 2, 4, 6, 7, 8, 9], 1)] [3, 5, 10] [] (by kernel_rfl) (by kernel_rfl) (by kernel_rfl) (fun _ _ _ _ _ h => h) ?_; rw [HWD.out]; have t1 := tfE r0 hpd; refine aaj (l := ?segTZR) ?hsegTZR ?_
 case hsegTZR => simp only [pick, lE1, lE2, lE3]; rfl
 repeat (go_big_quiet_step (fail))
 refine wpQuiet_nil ?_; clear t1; refine aam (vs := #[.pointer (some ⟨p, 0, none⟩)]) Tryz.call17 rfl rfl rfl (R := fun r w' => r = .int .i64 (ll : Int) /\ w' = wd) (HLEN.out.mono ?_) wd.heap.size (Nat.le_refl _) ?_
 · rintro e w' ⟨rfl, rfl⟩; exact ⟨_, rfl, Below.refl _ _, rfl, rfl⟩
 rintro r w11 _ ⟨rfl, rfl⟩; refine aap (l := ?laTZR) (t := []) ?hlaTZR ?htlTZR ?_
 case hlaTZR => simp only [pick, lE1, lE2, lE3]; rfl
 case htlTZR => rfl
 simp only [Act.put, lE4, lE5, lE6]; repeat (go_big_quiet_step (fail))
 refine wpQuiet_nil ?_; go_wp2_with fail
 refine HLEN.out.mono ?_; rintro e w12 ⟨rfl, rfl⟩; have q2 := HD.out.c1; rw [HN.out] at q2; go_wp2_with fail
 refine HPUT.out.mono ?_; rintro e w13 ⟨rfl, ht⟩; have hto : HT F w p (H.take s).2 w13 := by
  rw [HTK.out]; dsimp only; rw [HN.out, HLL.out]; exact HT.after HBD.out ht
 have HTO := hE0 hto; clear hto ht HPUT HLEN q2; go_wp2
 go_ret2
 exact ⟨by rw [HTK.out, HLL.out]; rfl, HTO.out⟩
theorem amR (h : Hm F w p H Vb Vd gl cs) (hok : H.Ok) (N : Nat) (hf : H.Few N) (hN : N <= 50000) (hL : H.Listed) (s : Nat) (hs : aaG (s : Int) = true) (hcap : H.cap <= 100000) (hx : H.find s = none) (ln : Nat) (hz : H.blks.length = ln + 1) (hu : (aag H.blks ln).used = true) (hr : H.cap < lenB H.blks + s - abk H.blks) :
 Calls Tryz.prog 64 #[.pointer (some ⟨p, 0, none⟩), .int .i64 (s : Int)] w fun e w' => e = .returned (.tuple #[.int .i64 (((H.take s).1.getD 0 : Nat) : Int), .int .i64 (ag6 (H.take s).1)]) /\ HT F w p (H.take s).2 w' := by
 have htk := adG hx; have hn512 := hok.n; have hle := hok.le; have hss := (aac _).1 hs; obtain ⟨A1, c1, rfl⟩ := aa0 h.ob; have htf : abk H.blks = 0 := ahw hz hu; rw [if_pos hr] at htk; rw [htf] at hr; obtain ⟨wd, hwd⟩ := nmE w.drew; have hbd := adE hwd; have hd := h.below hbd; have HFI := hE0 (acH h hok N hf hN hL s hs _ hx); have HLEN := hE0 (aa8 hd (by omega) (by omega)); have q1 := h.c1; have r0 := hd.c0; have hpd := hd.lt; have HH := hE0 h; have HD := hE0 hd; have HBD := hE0 hbd; have HWD := hE0 hwd; have HTK := hE0 htk; obtain ⟨bb, cb, hVb, _, hnb, _⟩ := aav h.ob (by omega); injection hVb with e1 _ e3; subst e1 e3; have d := h.at_n rfl (i := ln) (by omega); obtain ⟨_, d1, d2⟩ := d; rw [hu] at d2; obtain ⟨ll, hll⟩ := nmE (lenB H.blks); rw [hll] at HLEN hr hle; obtain ⟨cap, hcp⟩ := nmE H.cap; rw [hcp] at r0 hr hcap; obtain ⟨n, hn⟩ := nmE H.blks.length; rw [hn] at q1 hz hn512 hnb; have hln : (n : Int) - 1 = (ln : Int) := by omega
 have hlt : (ln : Int) < (n : Int) := by omega
 have hrm : (cap : Int) < (ll : Int) + (s : Int) := by omega
 have HZ := hE0 hz; have HN := hE0 hn; have HLL := hE0 hll; clear h hd hbd hwd htk hx hok hL hs htf hr hcp hz hn hll hf; clear hu; go_enter Tryz.func64, Tryz.ntmps64
 go_wp2_with fail
 refine HFI.out.mono ?_; rintro e w2 ⟨rfl, rfl⟩; clear HFI; dsimp only [ixV]; go_wp2_with fail
 refine aaf wd.heap.size [([0, 2, 4, 6, 7, 8, 9], 1)] [3, 5, 10] [] (by kernel_rfl) (by kernel_rfl) (by kernel_rfl) (fun _ _ _ _ _ h => h) ?_; rw [HWD.out]; have t1 := tfE r0 hpd; refine aaj (l := ?segTUN) ?hsegTUN ?_
 case hsegTUN => simp only [pick, lE1, lE2, lE3]; rfl
 repeat (go_big_quiet_step (fail))
 refine wpQuiet_nil ?_; clear t1; refine aam (vs := #[.pointer (some ⟨p, 0, none⟩)]) Tryz.call17 rfl rfl rfl (R := fun r w' => r = .int .i64 (ll : Int) /\ w' = wd) (HLEN.out.mono ?_) wd.heap.size (Nat.le_refl _) ?_
 · rintro e w' ⟨rfl, rfl⟩; exact ⟨_, rfl, Below.refl _ _, rfl, rfl⟩
 rintro r w11 _ ⟨rfl, rfl⟩; refine aap (l := ?laTUN) (t := []) ?hlaTUN ?htlTUN ?_
 case hlaTUN => simp only [pick, lE1, lE2, lE3]; rfl
 case htlTUN => rfl
 simp only [Act.put, lE4, lE5, lE6]; repeat (go_big_quiet_step (fail))
 refine wpQuiet_nil ?_; go_wp2
 go_ret2
 exact ⟨by rw [HTK.out]; rfl, by rw [HTK.out]; exact HT.of_below ⟨_, _, _, _, HH.out⟩ HBD.out⟩
theorem amS (h : Hm F w p H Vb Vd gl cs) (hok : H.Ok) (N : Nat) (hf : H.Few N) (hN : N <= 50000) (hL : H.Listed) (s : Nat) (hs : aaG (s : Int) = true) (hcap : H.cap <= 100000) (hx : H.find s = none) (ln : Nat) (hz : H.blks.length = ln + 1) (hu : (aag H.blks ln).used = true) (hr : ¬ H.cap < lenB H.blks + s - abk H.blks) :
 Calls Tryz.prog 64 #[.pointer (some ⟨p, 0, none⟩), .int .i64 (s : Int)] w fun e w' => e = .returned (.tuple #[.int .i64 (((H.take s).1.getD 0 : Nat) : Int), .int .i64 (ag6 (H.take s).1)]) /\ HT F w p (H.take s).2 w' := by
 have htk := adG hx; have hn512 := hok.n; have hle := hok.le; have hss := (aac _).1 hs; obtain ⟨A1, c1, rfl⟩ := aa0 h.ob; have htf : abk H.blks = 0 := ahw hz hu; rw [if_neg hr, htf, if_neg (by omega)] at htk; rw [htf] at hr; obtain ⟨wd, hwd⟩ := nmE w.drew; have hbd := adE hwd; have hd := h.below hbd; have HFI := hE0 (acH h hok N hf hN hL s hs _ hx); have HLEN := hE0 (aa8 hd (by omega) (by omega)); have q1 := h.c1; have r0 := hd.c0; have hpd := hd.lt; have HH := hE0 h; have HD := hE0 hd; have HBD := hE0 hbd; have HWD := hE0 hwd; have HTK := hE0 htk; obtain ⟨bb, cb, hVb, _, hnb, _⟩ := aav h.ob (by omega); injection hVb with e1 _ e3; subst e1 e3; have d := h.at_n rfl (i := ln) (by omega); obtain ⟨_, d1, d2⟩ := d; rw [hu] at d2; have HPUT := hE0 (agE hd H.blks.length (Nat.le_refl _) (by omega) hok.dl ⟨lenB H.blks, s, true⟩); obtain ⟨ll, hll⟩ := nmE (lenB H.blks); rw [hll] at HLEN hr hle  HPUT; obtain ⟨cap, hcp⟩ := nmE H.cap; rw [hcp] at r0 hr hcap; obtain ⟨n, hn⟩ := nmE H.blks.length; rw [hn] at q1 hz hn512 hnb HPUT; have hln : (n : Int) - 1 = (ln : Int) := by omega
 have hlt : (ln : Int) < (n : Int) := by omega
 have hrm : (ll : Int) + (s : Int) <= (cap : Int) := by omega
 have HZ := hE0 hz; have HN := hE0 hn; have HLL := hE0 hll; clear h hd hbd hwd htk hx hok hL hs htf hr hcp hz hn hll hf; clear hu; go_enter Tryz.func64, Tryz.ntmps64
 go_wp2_with fail
 refine HFI.out.mono ?_; rintro e w2 ⟨rfl, rfl⟩; clear HFI; dsimp only [ixV]; go_wp2_with fail
 refine aaf wd.heap.size [([0, 2, 4, 6, 7, 8, 9], 1)] [3, 5, 10] [] (by kernel_rfl) (by kernel_rfl) (by kernel_rfl) (fun _ _ _ _ _ h => h) ?_; rw [HWD.out]; have t1 := tfE r0 hpd; refine aaj (l := ?segTUR) ?hsegTUR ?_
 case hsegTUR => simp only [pick, lE1, lE2, lE3]; rfl
 repeat (go_big_quiet_step (fail))
 refine wpQuiet_nil ?_; clear t1; refine aam (vs := #[.pointer (some ⟨p, 0, none⟩)]) Tryz.call17 rfl rfl rfl (R := fun r w' => r = .int .i64 (ll : Int) /\ w' = wd) (HLEN.out.mono ?_) wd.heap.size (Nat.le_refl _) ?_
 · rintro e w' ⟨rfl, rfl⟩; exact ⟨_, rfl, Below.refl _ _, rfl, rfl⟩
 rintro r w11 _ ⟨rfl, rfl⟩; refine aap (l := ?laTUR) (t := []) ?hlaTUR ?htlTUR ?_
 case hlaTUR => simp only [pick, lE1, lE2, lE3]; rfl
 case htlTUR => rfl
 simp only [Act.put, lE4, lE5, lE6]; repeat (go_big_quiet_step (fail))
 refine wpQuiet_nil ?_; go_wp2_with fail
 refine HLEN.out.mono ?_; rintro e w12 ⟨rfl, rfl⟩; have q2 := HD.out.c1; rw [HN.out] at q2; go_wp2_with fail
 refine HPUT.out.mono ?_; rintro e w13 ⟨rfl, ht⟩; have hto : HT F w p (H.take s).2 w13 := by
  rw [HTK.out]; dsimp only; rw [HN.out, HLL.out]; exact HT.after HBD.out ht
 have HTO := hE0 hto; clear hto ht HPUT HLEN q2; go_wp2
 go_ret2
 exact ⟨by rw [HTK.out, HLL.out]; rfl, HTO.out⟩
theorem amT (h : Hm F w p H Vb Vd gl cs) (hok : H.Ok) (N : Nat) (hf : H.Few N) (hN : N <= 50000) (hL : H.Listed) (s : Nat) (hs : aaG (s : Int) = true) (hcap : H.cap <= 100000) (hx : H.find s = none) (ln : Nat) (hz : H.blks.length = ln + 1) (hu : (aag H.blks ln).used = false) (hr : H.cap < lenB H.blks + s - abk H.blks) :
 Calls Tryz.prog 64 #[.pointer (some ⟨p, 0, none⟩), .int .i64 (s : Int)] w fun e w' => e = .returned (.tuple #[.int .i64 (((H.take s).1.getD 0 : Nat) : Int), .int .i64 (ag6 (H.take s).1)]) /\ HT F w p (H.take s).2 w' := by
 have htk := adG hx; have hn512 := hok.n; have hle := hok.le; have hss := (aac _).1 hs; obtain ⟨A1, c1, rfl⟩ := aa0 h.ob; have htf : abk H.blks = (aag H.blks ln).size := ahx hz hu; have hsl := (aac _).1 (hok.sz (i := ln) (by omega)); have hlenl := (aai _ _ _ (hok.at_ (i := ln) (by omega)).2.2).1; rw [if_pos hr] at htk; rw [htf] at hr; obtain ⟨wd, hwd⟩ := nmE w.drew; have hbd := adE hwd; have hd := h.below hbd; have HFI := hE0 (acH h hok N hf hN hL s hs _ hx); have HLEN := hE0 (aa8 hd (by omega) (by omega)); have q1 := h.c1; have r0 := hd.c0; have hpd := hd.lt; have HH := hE0 h; have HD := hE0 hd; have HBD := hE0 hbd; have HWD := hE0 hwd; have HTK := hE0 htk; obtain ⟨bb, cb, hVb, _, hnb, _⟩ := aav h.ob (by omega); injection hVb with e1 _ e3; subst e1 e3; have d := h.at_n rfl (i := ln) (by omega); obtain ⟨_, d1, d2⟩ := d; rw [hu] at d2; have HOUT := hE0 (abA hd ln (by omega) (hok.sz (by omega)) (fun d hd => Nat.le_trans (hf d hd) (by omega))); obtain ⟨xs, hxs⟩ := nmE ((aag H.blks ln).size); rw [hxs] at d1 hr hsl hlenl; obtain ⟨ll, hll⟩ := nmE (lenB H.blks); rw [hll] at HLEN hr hle hlenl; obtain ⟨cap, hcp⟩ := nmE H.cap; rw [hcp] at r0 hr hcap; obtain ⟨n, hn⟩ := nmE H.blks.length; rw [hn] at q1 hz hn512 hnb; have hln : (n : Int) - 1 = (ln : Int) := by omega
 have hlt : (ln : Int) < (n : Int) := by omega
 have hrm : (cap : Int) < (ll : Int) + (s : Int) - (xs : Int) := by omega
 have hxp : 0 < (xs : Int) := by omega
 have HZ := hE0 hz; have HN := hE0 hn; have HLL := hE0 hll; clear h hd hbd hwd htk hx hok hL hs htf hr hcp hz hn hll hf; clear hu hxs; go_enter Tryz.func64, Tryz.ntmps64
 go_wp2_with fail
 refine HFI.out.mono ?_; rintro e w2 ⟨rfl, rfl⟩; clear HFI; dsimp only [ixV]; go_wp2_with fail
 refine aaf wd.heap.size [([0, 2, 4, 6, 7, 8, 9], 1)] [3, 5, 10] [] (by kernel_rfl) (by kernel_rfl) (by kernel_rfl) (fun _ _ _ _ _ h => h) ?_; rw [HWD.out]; have t1 := tfE r0 hpd; refine aaj (l := ?segTYN) ?hsegTYN ?_
 case hsegTYN => simp only [pick, lE1, lE2, lE3]; rfl
 repeat (go_big_quiet_step (fail))
 refine wpQuiet_nil ?_; clear t1; refine aam (vs := #[.pointer (some ⟨p, 0, none⟩)]) Tryz.call17 rfl rfl rfl (R := fun r w' => r = .int .i64 (ll : Int) /\ w' = wd) (HLEN.out.mono ?_) wd.heap.size (Nat.le_refl _) ?_
 · rintro e w' ⟨rfl, rfl⟩; exact ⟨_, rfl, Below.refl _ _, rfl, rfl⟩
 rintro r w11 _ ⟨rfl, rfl⟩; refine aap (l := ?laTYN) (t := []) ?hlaTYN ?htlTYN ?_
 case hlaTYN => simp only [pick, lE1, lE2, lE3]; rfl
 case htlTYN => rfl
 simp only [Act.put, lE4, lE5, lE6]; repeat (go_big_quiet_step (fail))
 refine wpQuiet_nil ?_; go_wp2
 go_ret2
 exact ⟨by rw [HTK.out]; rfl, by rw [HTK.out]; exact HT.of_below ⟨_, _, _, _, HH.out⟩ HBD.out⟩
theorem amU (h : Hm F w p H Vb Vd gl cs) (hok : H.Ok) (N : Nat) (hf : H.Few N) (hN : N <= 50000) (hL : H.Listed) (s : Nat) (hs : aaG (s : Int) = true) (hcap : H.cap <= 100000) (hx : H.find s = none) (ln : Nat) (hz : H.blks.length = ln + 1) (hu : (aag H.blks ln).used = false) (hr : ¬ H.cap < lenB H.blks + s - abk H.blks) :
 Calls Tryz.prog 64 #[.pointer (some ⟨p, 0, none⟩), .int .i64 (s : Int)] w fun e w' => e = .returned (.tuple #[.int .i64 (((H.take s).1.getD 0 : Nat) : Int), .int .i64 (ag6 (H.take s).1)]) /\ HT F w p (H.take s).2 w' := by
 have htk := adG hx; have hn512 := hok.n; have hle := hok.le; have hss := (aac _).1 hs; obtain ⟨A1, c1, rfl⟩ := aa0 h.ob; have htf : abk H.blks = (aag H.blks ln).size := ahx hz hu; have hsl := (aac _).1 (hok.sz (i := ln) (by omega)); have hlenl := (aai _ _ _ (hok.at_ (i := ln) (by omega)).2.2).1; rw [if_neg hr, htf, if_pos (by omega), show H.blks.length - 1 = ln by omega] at htk; rw [htf] at hr; obtain ⟨wd, hwd⟩ := nmE w.drew; have hbd := adE hwd; have hd := h.below hbd; have HFI := hE0 (acH h hok N hf hN hL s hs _ hx); have HLEN := hE0 (aa8 hd (by omega) (by omega)); have q1 := h.c1; have r0 := hd.c0; have hpd := hd.lt; have HH := hE0 h; have HD := hE0 hd; have HBD := hE0 hbd; have HWD := hE0 hwd; have HTK := hE0 htk; obtain ⟨bb, cb, hVb, _, hnb, _⟩ := aav h.ob (by omega); injection hVb with e1 _ e3; subst e1 e3; have d := h.at_n rfl (i := ln) (by omega); obtain ⟨_, d1, d2⟩ := d; rw [hu] at d2; have HOUT := hE0 (abA hd ln (by omega) (hok.sz (by omega)) (fun d hd => Nat.le_trans (hf d hd) (by omega))); obtain ⟨xs, hxs⟩ := nmE ((aag H.blks ln).size); rw [hxs] at d1 hr hsl hlenl; obtain ⟨ll, hll⟩ := nmE (lenB H.blks); rw [hll] at HLEN hr hle hlenl; obtain ⟨cap, hcp⟩ := nmE H.cap; rw [hcp] at r0 hr hcap; obtain ⟨n, hn⟩ := nmE H.blks.length; rw [hn] at q1 hz hn512 hnb; have hln : (n : Int) - 1 = (ln : Int) := by omega
 have hlt : (ln : Int) < (n : Int) := by omega
 have hrm : (ll : Int) + (s : Int) - (xs : Int) <= (cap : Int) := by omega
 have hxp : 0 < (xs : Int) := by omega
 have HZ := hE0 hz; have HN := hE0 hn; have HLL := hE0 hll; clear h hd hbd hwd htk hx hok hL hs htf hr hcp hz hn hll hf; clear hu hxs; go_enter Tryz.func64, Tryz.ntmps64
 go_wp2_with fail
 refine HFI.out.mono ?_; rintro e w2 ⟨rfl, rfl⟩; clear HFI; dsimp only [ixV]; go_wp2_with fail
 refine aaf wd.heap.size [([0, 2, 4, 6, 7, 8, 9], 1)] [3, 5, 10] [] (by kernel_rfl) (by kernel_rfl) (by kernel_rfl) (fun _ _ _ _ _ h => h) ?_; rw [HWD.out]; have t1 := tfE r0 hpd; refine aaj (l := ?segTYR) ?hsegTYR ?_
 case hsegTYR => simp only [pick, lE1, lE2, lE3]; rfl
 repeat (go_big_quiet_step (fail))
 refine wpQuiet_nil ?_; clear t1; refine aam (vs := #[.pointer (some ⟨p, 0, none⟩)]) Tryz.call17 rfl rfl rfl (R := fun r w' => r = .int .i64 (ll : Int) /\ w' = wd) (HLEN.out.mono ?_) wd.heap.size (Nat.le_refl _) ?_
 · rintro e w' ⟨rfl, rfl⟩; exact ⟨_, rfl, Below.refl _ _, rfl, rfl⟩
 rintro r w11 _ ⟨rfl, rfl⟩; refine aap (l := ?laTYR) (t := []) ?hlaTYR ?htlTYR ?_
 case hlaTYR => simp only [pick, lE1, lE2, lE3]; rfl
 case htlTYR => rfl
 simp only [Act.put, lE4, lE5, lE6]; repeat (go_big_quiet_step (fail))
 refine wpQuiet_nil ?_; go_wp2_with fail
 refine HOUT.out.mono ?_; rintro e w13 ⟨rfl, ht⟩; obtain ⟨F3, Vb3, Vd3, gl3, cs3, z3⟩ := ((Hz.start HH.out).below HBD.out).step ht; obtain ⟨b3, c3, rfl, hb3, hnc3, _⟩ := aav z3.hm.ob (by show 0 < H.blks.length; rw [HN.out]; omega); have e3 : (H.out ln).blks.length = n := HN.out; have k1 := z3.hm.c1; rw [e3] at k1; have f1 := aas z3.hm.ob (ln * 3 + 1); have z4 := z3.set (a := ⟨b3, ln * 3 + 1, none⟩) (u := .int .i64 (s : Int)) (z3.hm.fb b3 rfl) (z3.hm.sizeM rfl (by rw [e3]; omega) s); have e4 : ((H.out ln).size ln s).blks.length = n := (List.length_set ..).trans e3; rw [e3] at z3 z4; have d3 := (z3.hm.at_n e3 (i := ln) (by omega)).2.1; obtain ⟨w4, hw4⟩ := nmE (w13.setCell ⟨b3, ln * 3 + 1, none⟩ (.int .i64 (s : Int))); rw [hw4] at z4; have k2 := z4.hm.c1; have f2 := aas z4.hm.ob (ln * 3 + 2); have d4 := (z4.hm.at_n e4 (i := ln) (by omega)).2.2; have z5 := z4.set (a := ⟨b3, ln * 3 + 2, none⟩) (u := .bool true) (z4.hm.fb b3 rfl) (z4.hm.useM (by rw [e4]) (by rw [e4]; omega) true); obtain ⟨w5, hw5⟩ := nmE (w4.setCell ⟨b3, ln * 3 + 2, none⟩ (.bool true)); rw [hw5] at z5; have k3 := z5.hm.c1; have e5 : (((H.out ln).size ln s).use ln true).blks.length = n := (List.length_set ..).trans e4; have d5 := (z5.hm.at_n e5 (i := ln) (by omega)).1; have e6 : (aag (((H.out ln).size ln s).use ln true).blks ln).off = (aag H.blks ln).off := by
  show (aag (((H.out ln).size ln s).blks.set ln _) ln).off = _; rw [aa3 _ _ _ _ (by rw [e4]; omega), if_pos rfl]; show (aag ((H.out ln).blks.set ln _) ln).off = _; rw [aa3 _ _ _ _ (by rw [e3]; omega), if_pos rfl]; rfl
 rw [e6] at d5; obtain ⟨xo, hxo⟩ := nmE ((aag H.blks ln).off); rw [hxo] at d5; have HXO := hE0 hxo; have Z5 := hE0 z5; have HW4 := hE0 hw4; have HW5 := hE0 hw5; clear ht hb3 z3 z4 z5 hw4 hw5 hxo e3 e4 e5 e6 HOUT HLEN HD q1 r0 hnc3; go_wp2_with (first | (rw [HW4.out]) | (rw [HW5.out]) | fail)
 go_ret2
 exact ⟨by rw [HTK.out, HXO.out]; rfl, by rw [HTK.out]; exact Z5.out.fin⟩
theorem ab8 (h : Hm F w p H Vb Vd gl cs) (hok : H.Ok) (N : Nat) (hf : H.Few N) (hN : N <= 50000) (hL : H.Listed) (s : Nat) (hs : aaG (s : Int) = true) (hcap : H.cap <= 100000) :
 Calls Tryz.prog 64 #[.pointer (some ⟨p, 0, none⟩), .int .i64 (s : Int)] w fun e w' => e = .returned (.tuple #[.int .i64 (((H.take s).1.getD 0 : Nat) : Int), .int .i64 (ag6 (H.take s).1)]) /\ HT F w p (H.take s).2 w' := by
 cases hx : H.find s with
 | some i => exact aoD h hok N hf hN hL s hs i hx
 | none =>
  obtain ⟨ln, hz⟩ : ∃ ln, H.blks.length = 0 \/ H.blks.length = ln + 1 := ⟨H.blks.length - 1, by omega⟩; by_cases hr : H.cap < lenB H.blks + s - abk H.blks
  · rcases hz with hz | hz
    · exact amP h hok N hf hN hL s hs hcap hx hz hr
    · cases hu : (aag H.blks ln).used
      · exact amT h hok N hf hN hL s hs hcap hx ln hz hu hr
      · exact amR h hok N hf hN hL s hs hcap hx ln hz hu hr
  · rcases hz with hz | hz
    · exact amQ h hok N hf hN hL s hs hcap hx hz hr
    · cases hu : (aag H.blks ln).used
      · exact amU h hok N hf hN hL s hs hcap hx ln hz hu hr
      · exact amS h hok N hf hN hL s hs hcap hx ln hz hu hr
end
theorem aee {l : List Nat} : ∀ {r : List Nat}, l.Nodup -> (∀ a ∈ l, a ∈ r) -> l.length <= r.length := by
 induction l with
 | nil => intro r _ _; exact Nat.zero_le _
 | cons x l ih =>
  intro r hn hs; obtain ⟨h1, h2⟩ := List.nodup_cons.1 hn; have hx := hs x (by simp); have h3 := ih (r := r.erase x) h2 (fun a ha => (List.mem_erase_of_ne (fun e : a = x => h1 (by rw [<- e]; exact ha))).2 (hs a (by simp [ha]))); have h4 := List.length_erase_of_mem hx; have h5 : 0 < r.length := List.length_pos_of_mem hx; rw [List.length_cons]; omega
theorem alf {l r : List Nat} (hn : l.Nodup) (hs : ∀ a ∈ l, a ∈ r) (hl : r.length <= l.length) : ∀ b ∈ r, b ∈ l := fun b hb => by
 by_cases hin : b ∈ l
 · exact hin
 · have h1 := aee (r := r.erase b) hn (fun a ha => (List.mem_erase_of_ne (fun e : a = b => hin (by rw [<- e]; exact ha))).2 (hs a ha)); have h2 := List.length_erase_of_mem hb; have h3 : 0 < r.length := List.length_pos_of_mem hb; omega
theorem afc : ∀ {l : List Nat}, (∀ a ∈ l, l.count a = 1) -> l.Nodup
 | [], _ => List.nodup_nil
 | x :: r, h => by
  have h1 := h x (by simp); rw [List.count_cons_self] at h1; have hx : x ∉ r := List.count_eq_zero.1 (by omega); refine List.nodup_cons.2 ⟨hx, afc fun a ha => ?_⟩; have h2 := h a (by simp [ha]); have hne : x ≠ a := fun e => hx (e ▸ ha); rw [List.count_cons_of_ne hne] at h2; exact h2
section
variable {bs : List UInt8} {H : Hp}
theorem Rt.nfree (h : Rt bs H) : (∀ c, c < 22 -> (H.lists c).Nodup /\ ∀ o ∈ H.lists c, o ∈ abn H.blks c) /\ aeL H.blks = true /\ aeN bs H.blks 22 0 (abx H.blks) = true := by
 have hk := h.chk; unfold acM at hk; rw [h.walk] at hk; simp only [Bool.and_eq_true] at hk; refine ⟨fun c hc => ?_, hk.2.1, hk.2.2⟩; obtain ⟨al, h1, h2⟩ := ad9 22 0 _ hk.2.2 c (Nat.zero_le _) (by omega); rw [h.all_ c hc] at h1; injection h1 with h1; subst h1; have h2' := List.all_eq_true.1 h2; refine ⟨afc fun a ha => ?_, fun o ho => ?_⟩
 · have := h2' a ha; unfold okO at this; rw [Bool.and_eq_true] at this; simpa using this.2
 · have h3 := h2' o ho; unfold okO at h3; rw [Bool.and_eq_true] at h3; have h4 := h3.1; unfold acr at h4; obtain ⟨x, hx, hx2⟩ := List.any_eq_true.1 h4; simp only [Bool.and_eq_true, beq_iff_eq] at hx2; have hm := acF (h.all_ c hc) o ho; have hg := (aaq h.walk).2.2 x hx; unfold aat at hm; rw [<- hx2.1, hg] at hm; simp only [Bool.and_eq_true, beq_iff_eq] at hm; rw [<- hx2.1]; exact abr hx (by simpa using hx2.2) hm.2.2
theorem ajo {bs : List UInt8} {l : List Bk} {L : Nat -> List Nat} (hL : ∀ c, c < 22 -> aep bs c = some (L c)) (hs : ∀ c, c < 22 -> (L c).length <= (abn l c).length) :
 ∀ (k c : Nat) (fr : Int), c + k = 22 -> aeN bs l k c fr = true -> fr <= aer l k c /\ (fr = aer l k c -> ∀ d, c <= d -> d < 22 -> (abn l d).length <= (L d).length)
 | 0, c, fr, hck, h => by
  unfold aeN at h; have : fr = 0 := by simpa using h
  refine ⟨by subst this; exact Int.natCast_nonneg _, fun _ d h1 h2 => by omega⟩
 | k + 1, c, fr, hck, h => by
  unfold aeN at h; rw [hL c (by omega)] at h; dsimp only at h; rw [Bool.and_eq_true] at h; obtain ⟨i1, i2⟩ := ajo hL hs k (c + 1) _ (by omega) h.2; have h1 := hs c (by omega); have e : (aer l (k + 1) c : Int) = ((abn l c).length : Int) + (aer l k (c + 1) : Int) := by
   show (((abn l c).length + aer l k (c + 1) : Nat) : Int) = _; omega
  refine ⟨by omega, fun hfr d hd1 hd2 => ?_⟩; rcases Nat.lt_or_ge c d with hlt | hge
  · exact i2 (by omega) d hlt hd2
  · obtain rfl : d = c := by omega
    omega
theorem Rt.complete (h : Rt bs H) : ∀ c, c < 22 -> ∀ o ∈ abn H.blks c, o ∈ H.lists c := fun c hc => by
 obtain ⟨h1, _, h3⟩ := h.nfree; have ht := (aaq h.walk).2.1; have hsz : ∀ x ∈ H.blks, aaG (x.size : Int) = true := fun x hx => ((aai _ _ _ ht).2 x hx).2.2.1; have hl := ajo h.all_ (fun c hc => aee (h1 c hc).1 (h1 c hc).2) 22 0 _ rfl h3; exact alf (h1 c hc).1 (h1 c hc).2 (hl.2 (by rw [agp _ hsz]) c (Nat.zero_le _) hc)
theorem afQ {l : List Bk} {s : Nat} : ∀ {L : List Nat}, acw l s L = none -> (∀ o ∈ L, ∃ i, atB (o : Int) l = some i) -> ∀ o ∈ L, ∀ i, atB (o : Int) l = some i -> (aag l i).size < s
 | [], _, _, o, ho, _, _ => by cases ho
 | q :: r, h, hL, o, ho, i, hi => by
  obtain ⟨j, hj⟩ := hL q (by simp); unfold acw at h; rw [hj] at h; dsimp only at h; split at h
  · cases h
  · rename_i hs; rcases List.mem_cons.1 ho with rfl | ho
    · rw [hj] at hi; injection hi with hi; subst hi; omega
    · exact afQ h (fun a ha => hL a (by simp [ha])) o ho i hi
theorem afR {s : Nat} : ∀ {k c : Nat}, H.findC s k c = none -> ∀ d, c <= d -> d < c + k -> acw H.blks s (H.lists d) = none
 | 0, c, _, d, h1, h2 => by omega
 | k + 1, c, h, d, h1, h2 => by
  unfold Hp.findC at h; split at h
  · cases h
  · rename_i hn; rcases Nat.lt_or_ge c d with hlt | hge
    · exact afR h d hlt (by omega)
    · obtain rfl : d = c := by omega
      exact hn
theorem ajp {l : List Bk} {o e : Nat} (h : abU o l e) {x y : Bk} (hx : x ∈ l) (hy : y ∈ l) (he : x.off = y.off) : x = y := by
 have h1 := (aac _).1 ((aai _ _ _ h).2 x hx).2.2.1; have h2 := (aac _).1 ((aai _ _ _ h).2 y hy).2.2.1; rcases aa9 l o e h x hx y hy with h' | h' | h'
 · exact h'
 · omega
 · omega
theorem anW {l : List Bk} {o e : Nat} (h : abU o l e) {x : Bk} (hx : x ∈ l) : ∃ i, atB (x.off : Int) l = some i /\ i < l.length /\ aag l i = x := by
 obtain ⟨i, hi⟩ := ado hx; obtain ⟨h1, h2⟩ := abs hi; refine ⟨i, hi, h1, ajp h (List.mem_of_getElem? (aax h1)) hx (by omega)⟩
theorem Rt.found (h : Rt bs H) {s i : Nat} (hs : aaG (s : Int) = true) (hf : H.find s = some i) : i < H.blks.length /\ s <= (aag H.blks i).size /\ (aag H.blks i).used = false := by
 have ht := (aaq h.walk).2.1; have one : ∀ (LL : List Nat), (∀ o ∈ LL, ∃ x ∈ H.blks, x.off = o /\ x.used = false) -> ∀ i, acw H.blks s LL = some i -> i < H.blks.length /\ s <= (aag H.blks i).size /\ (aag H.blks i).used = false := by
  intro LL; induction LL with
  | nil => intro _ i h; cases h
  | cons o r ih =>
   intro hL i h; unfold acw at h; split at h
   · cases h
   · rename_i j hj; split at h
     · rename_i hs; injection h with h; subst h; obtain ⟨x, hx, hxo, hxu⟩ := hL o (by simp); obtain ⟨h1, h2⟩ := abs hj; have e := ajp ht (List.mem_of_getElem? (aax h1)) hx (by omega); exact ⟨h1, hs, by rw [e]; exact hxu⟩
     · exact ih (fun a ha => hL a (by simp [ha])) i h
 have go : ∀ (k c i : Nat), c + k <= 22 -> H.findC s k c = some i -> i < H.blks.length /\ s <= (aag H.blks i).size /\ (aag H.blks i).used = false := by
  intro k; induction k with
  | zero => intro c i _ h; cases h
  | succ k ih =>
   intro c i hck hh; unfold Hp.findC at hh; split at hh
   · rename_i j hj; injection hh with hh; subst hh; refine one _ (fun o ho => ?_) _ hj; obtain ⟨x, h1, h2, h3, _⟩ := abL ((h.nfree.1 c (by omega)).2 o ho); exact ⟨x, h1, h2, h3⟩
   · exact ih _ _ (by omega) hh
 obtain ⟨cl, hcl, hcl22⟩ : ∃ c : Nat, aar (s : Int) = (c : Int) /\ c < 22 := abb (x := ⟨0, s, false⟩) hs; unfold Hp.find at hf; rw [hcl, Int.toNat_natCast] at hf; exact go _ _ _ (by omega) hf
theorem Rt.lost (h : Rt bs H) {s : Nat} (hs : aaG (s : Int) = true) (hf : H.find s = none) : ∀ x ∈ H.blks, x.used = false -> x.size < s := fun x hx hu => by
 have ht := (aaq h.walk).2.1; have hxs := ((aai _ _ _ ht).2 x hx).2.2.1; obtain ⟨cl, hcl, hcl22⟩ : ∃ c : Nat, aar (s : Int) = (c : Int) /\ c < 22 := abb (x := ⟨0, s, false⟩) hs; obtain ⟨cx, hcx, hcx22⟩ := abb hxs; rcases Nat.lt_or_ge x.size s with h1 | h1
 · exact h1
 · have hm := aie hs hxs (by omega); unfold Hp.find at hf; rw [hcl, Int.toNat_natCast] at hf; have hl := afR hf cx (by omega) (by omega); obtain ⟨i, hi, _, hb⟩ := anW ht hx; have := afQ hl (h.listed cx hcx22) x.off (h.complete cx hcx22 _ (abr hx hu hcx)) i hi; rw [hb] at this; exact this
end
section
variable {bs : List UInt8} {H : Hp}
theorem alg {i j : Nat} (hp : (aag H.blks (i - 1)).used = true) (hj : j < i) : (H.give i).blks[j]? = H.blks[j]? := by
 have e1 : ∀ k, k < i -> ((H.use i false).wipe i).blks[k]? = H.blks[k]? := fun k hk => by
  show (H.blks.set i _)[k]? = _; exact List.getElem?_set_ne (by omega)
 have l1 : ((H.use i false).wipe i).blks.length = H.blks.length := List.length_set ..; unfold Hp.give; obtain ⟨H1, hH1⟩ := nmE ((H.use i false).wipe i); rw [hH1] at e1 l1 ⊢; have e2 : ∀ k, k < i -> (H1.giveB i).blks[k]? = H.blks[k]? := fun k hk => by
  rw [<- e1 k hk]; unfold Hp.giveB; split
  · rename_i hn; have hlt : i + 1 < H1.blks.length := by
     unfold aaH at hn; rw [Bool.and_eq_true, decide_eq_true_eq] at hn; exact hn.1
    rw [ab7 (H1.out (i + 1)) (i := i) hlt]; rw [List.getElem?_append_left (by rw [List.length_take]; show k < min i H1.blks.length; omega)]; exact List.getElem?_take_of_lt hk
  · rfl
 have hprev : ab5 (H1.giveB i).blks i = false := by
  unfold ab5; have h1 := e2 (i - 1) (by omega); have h2 : aag (H1.giveB i).blks (i - 1) = aag H.blks (i - 1) := by
   unfold aag; rw [List.getD_eq_getElem?_getD, List.getD_eq_getElem?_getD, h1]
  rw [h2, hp, Bool.not_true, Bool.and_false]
 have e3 : ((H1.giveB i).giveC i).blks = (H1.giveB i).blks := by
  unfold Hp.giveC; rw [hprev, if_neg (by decide)]; rfl
 rw [e3]; exact e2 j hj
theorem ais {i s : Nat} (hi : i < H.blks.length) (hle : s <= (aag H.blks i).size) : ∃ x ∈ (H.cut i s).blks, x.off = (aag H.blks i).off /\ x.used = true /\ s <= x.size /\ x.size < s + 32 /\ x.size <= (aag H.blks i).size := by
 unfold Hp.cut; split
 · rename_i hlt; refine ⟨{ aag H.blks i with used := true }, ?_, rfl, rfl, hle, hlt, Nat.le_refl _⟩; exact List.mem_of_getElem? (i := i) (List.getElem?_set_self hi)
 · rename_i hge; obtain ⟨y, hy⟩ : ∃ y : Bk, (⟨(aag H.blks i).off + s, (aag H.blks i).size - s, true⟩ : Bk) = y := ⟨_, rfl⟩; rw [hy]; have hb := aeb (s := s) H hi y; have hln := ags (s := s) H hi y; obtain ⟨H2, hH2⟩ := nmE (((H.use i true).size i s).put (i + 1) y); rw [hH2] at hb hln ⊢; have hat : H2.blks[i]? = some { aag H.blks i with used := true, size := s } := by
    rw [hb, List.getElem?_append_right (by rw [List.length_take]; omega), List.length_take, show i - min i H.blks.length = 0 by omega]; rfl
   have hk := alg (H := H2) (i := i + 1) (j := i) (by rw [show i + 1 - 1 = i by omega, abo hat]) (by omega); refine ⟨_, List.mem_of_getElem? (hk.trans hat), rfl, rfl, Nat.le_refl _, by show s < s + 32; omega, hle⟩
theorem Rt.what (h : Rt bs H) {s o : Nat} (hs : aaG (s : Int) = true) (hx : (H.take s).1 = some o) :
 ∃ x ∈ (H.take s).2.blks, x.off = o /\ x.used = true /\ s <= x.size /\ x.size < s + 32 /\ ∀ y ∈ H.blks, y.used = true -> y.off + y.size <= x.off \/ x.off + x.size <= y.off := by
 have ht : abU 184 H.blks (Go.Proofs.YtnicenfdlfffpaaGreatDoor.lenB H.blks) := by rw [h.lenE]; exact (aaq h.walk).2.1
 cases hf : H.find s with
 | some i =>
  obtain ⟨h1, h2, h3⟩ := h.found hs hf; have e : H.take s = (some (aag H.blks i).off, (H.out i).cut i s) := by unfold Hp.take; rw [hf]
  rw [e] at hx ⊢; injection hx with hx; obtain ⟨x, k1, k2, k3, k4, k5, k6⟩ := ais (H := H.out i) (i := i) (s := s) h1 h2; have hb : aag (H.out i).blks i = aag H.blks i := rfl; rw [hb] at k2 k6; refine ⟨x, k1, by omega, k3, k4, k5, fun y hy hu => ?_⟩; rcases aa9 _ _ _ ht y hy _ (List.mem_of_getElem? (aax h1)) with h' | h' | h'
  · rw [h', h3] at hu; cases hu
  · exact .inl (by omega)
  · exact .inr (by omega)
 | none =>
  by_cases hr : H.cap < Go.Proofs.YtnicenfdlfffpaaGreatDoor.lenB H.blks + s - abk H.blks
  · have e : H.take s = (none, H) := by unfold Hp.take; rw [hf]; dsimp only; rw [if_pos hr]
    rw [e] at hx
    cases hx
  · by_cases htl : 0 < abk H.blks
    · have e : H.take s = (some (aag H.blks (H.blks.length - 1)).off, ((H.out (H.blks.length - 1)).size (H.blks.length - 1) s).use (H.blks.length - 1) true) := by unfold Hp.take; rw [hf]; dsimp only; rw [if_neg hr, if_pos htl]
      have hn : 0 < H.blks.length := by
       rcases Nat.eq_zero_or_pos H.blks.length with h0 | h0
       · unfold abk at htl; rw [if_pos h0] at htl; omega
       · exact h0
      have hu0 : (aag H.blks (H.blks.length - 1)).used = false := by
       cases hu : (aag H.blks (H.blks.length - 1)).used with
       | false => rfl
       | true => unfold abk at htl; rw [if_neg (by omega), if_pos hu] at htl; omega
      obtain ⟨k, hk⟩ := nmE (H.blks.length - 1); rw [hk] at e hu0; have hkl : k < H.blks.length := by omega
      rw [e] at hx ⊢; injection hx with hx; have ha := akQ ht (aax hkl); have hlast : (aag H.blks k).off + (aag H.blks k).size = Go.Proofs.YtnicenfdlfffpaaGreatDoor.lenB H.blks := by
       have h4 := ha.2.2.2; rw [List.drop_of_length_le (by omega)] at h4; exact h4
      have hget : (((H.out k).size k s).use k true).blks[k]? = some ⟨(aag H.blks k).off, s, true⟩ := by
       show ((H.blks.set k _).set k _)[k]? = _; rw [List.getElem?_set_self (by rw [List.length_set]; exact hkl)]; have e2 : aag ((H.out k).size k s).blks k = { aag H.blks k with size := s } := by
        show aag (H.blks.set k _) k = _; rw [aa3 _ _ _ _ hkl, if_pos rfl]; rfl
       rw [e2]
      refine ⟨_, List.mem_of_getElem? hget, hx, rfl, Nat.le_refl _, by show s < s + 32; omega, fun y hy hu => .inl ?_⟩; have hm := (aai _ _ _ ht).2 y hy; have hys := (aac _).1 hm.2.2.1; show y.off + y.size <= (aag H.blks k).off; rcases aa9 _ _ _ ht y hy _ (List.mem_of_getElem? (aax hkl)) with h' | h' | h'
      · rw [h', hu0] at hu; cases hu
      · exact h'
      · omega
    · have e : H.take s = (some (Go.Proofs.YtnicenfdlfffpaaGreatDoor.lenB H.blks), H.put H.blks.length ⟨Go.Proofs.YtnicenfdlfffpaaGreatDoor.lenB H.blks, s, true⟩) := by unfold Hp.take; rw [hf]; dsimp only; rw [if_neg hr, if_neg htl]
      rw [e] at hx ⊢; injection hx with hx; refine ⟨⟨Go.Proofs.YtnicenfdlfffpaaGreatDoor.lenB H.blks, s, true⟩, ?_, hx, rfl, Nat.le_refl _, by show s < s + 32; omega, fun y hy hu => .inl ((aai _ _ _ ht).2 y hy).2.1⟩; show _ ∈ H.blks.take _ ++ _ :: H.blks.drop _; simp
end
theorem aoE {H : Hp} {s : Nat} : ∀ {i : Nat}, H.find s = some i -> i < H.blks.length := by
 have one : ∀ (LL : List Nat) (i : Nat), acw H.blks s LL = some i -> i < H.blks.length := by
  intro LL; induction LL with
  | nil => intro i h; cases h
  | cons o r ih =>
   intro i h; unfold acw at h; split at h
   · cases h
   · rename_i j hj; split at h
     · injection h with h; subst h; exact (abs hj).1
     · exact ih i h
 have go : ∀ (k c i : Nat), H.findC s k c = some i -> i < H.blks.length := by
  intro k; induction k with
  | zero => intro c i h; cases h
  | succ k ih =>
   intro c i h; unfold Hp.findC at h; split at h
   · rename_i j hj; injection h with h; subst h; exact one _ _ hj
   · exact ih _ _ h
 intro i h; exact go _ _ _ h
section
variable {H : Hp} {i s N : Nat}
theorem Hp.Ok.giveB (h : H.Ok) : (H.giveB i).Ok := by
 unfold Hp.giveB; split
 · rename_i hn; have hlt : i + 1 < H.blks.length := by
    unfold aaH at hn; rw [Bool.and_eq_true, decide_eq_true_eq] at hn; exact hn.1
   exact Hp.Ok.join (Hp.Ok.out h) hlt
 · exact h
theorem Hp.Ok.giveC (h : H.Ok) (hi : i < H.blks.length) : (H.giveC i).Ok := by
 unfold Hp.giveC; split
 · rename_i hn; have hlt : i - 1 + 1 < H.blks.length := by
    unfold ab5 at hn; rw [Bool.and_eq_true, decide_eq_true_eq] at hn; have := hn.1; omega
   exact Hp.Ok.in_ (Hp.Ok.join (Hp.Ok.out h) hlt)
 · exact Hp.Ok.in_ h
theorem ajq (hi : i < H.blks.length) : i < (H.giveB i).blks.length := by
 unfold Hp.giveB; split
 · rename_i hn; have hlt : i + 1 < H.blks.length := by
    unfold aaH at hn; rw [Bool.and_eq_true, decide_eq_true_eq] at hn; exact hn.1
   exact (acR (H.out (i + 1)) (i := i) hlt).1
 · exact hi
theorem Hp.Ok.give (h : H.Ok) (hi : i < H.blks.length) : (H.give i).Ok := by
 have h1 : ((H.use i false).wipe i).Ok := (h.use hi false).wipe; have l1 : i < ((H.use i false).wipe i).blks.length := by
  show i < (H.blks.set i _).length; rw [List.length_set]; exact hi
 exact (h1.giveB).giveC (ajq l1)
theorem Hp.Ok.cutA (h : H.Ok) (hi : i < H.blks.length) (hs : aaG (s : Int) = true) : (H.cut i s).Ok := by
 unfold Hp.cut; split
 · exact h.use hi true
 · rename_i hge; exact (h.cut hi hs (by omega)).give (by rw [ags H hi]; omega)
theorem Hp.Few.giveB (h : H.Few N) : (H.giveB i).Few N := by
 unfold Hp.giveB; split
 · exact Hp.Few.out (i := i + 1) h
 · exact h
theorem Hp.Few.giveC (h : H.Few N) : (H.giveC i).Few (N + 1) := by
 unfold Hp.giveC; split
 · exact Hp.Few.in_ (i := i - 1) (H := (H.out (i - 1)).join (i - 1)) (Hp.Few.out (i := i - 1) h)
 · exact Hp.Few.in_ h
theorem Hp.Few.give (h : H.Few N) : (H.give i).Few (N + 1) := by
 unfold Hp.give; exact Hp.Few.giveC (Hp.Few.giveB (H := (H.use i false).wipe i) h)
theorem Hp.Few.cut (h : H.Few N) : (H.cut i s).Few (N + 1) := by
 unfold Hp.cut; split
 · exact Hp.Few.more (H := H.use i true) h (Nat.le_succ _)
 · exact Hp.Few.give (H := ((H.use i true).size i s).put (i + 1) _) h
theorem Hp.Few.take (h : H.Few N) : (H.take s).2.Few (N + 1) := by
 unfold Hp.take; split
 · exact Hp.Few.cut (Hp.Few.out h)
 · split
   · exact h.more (Nat.le_succ _)
   · split
     · exact Hp.Few.more (H := ((H.out (H.blks.length - 1)).size (H.blks.length - 1) s).use (H.blks.length - 1) true) (Hp.Few.out (i := H.blks.length - 1) h) (Nat.le_succ _)
     · exact Hp.Few.more (H := H.put H.blks.length _) h (Nat.le_succ _)
theorem Hp.Ok.last (h : H.Ok) {k : Nat} (hk : H.blks.length = k + 1) (u : Bool) (hs : aaG (s : Int) = true) (hle : (aag H.blks k).off + s <= 16384) : (((H.size k s).use k u)).Ok /\ (H.size k s).Ok := by
 obtain ⟨a, b, c⟩ := h.at_ (i := k) (by omega); have hd : H.blks.drop (k + 1) = [] := List.drop_of_length_le (by omega); have go : ∀ y : Bk, y.off = (aag H.blks k).off -> y.size = s -> abU 184 (H.blks.set k y) ((aag H.blks k).off + s) := fun y ho hsz => by
  rw [akP y (aax (i := k) (by omega)), hd]; exact agr (by rw [ho]; exact a) (by rw [hsz]; exact hs) (by rw [ho, hsz]; rfl)
 have e1 : ((H.size k s).use k u).blks = H.blks.set k { aag H.blks k with size := s, used := u } := by
  show (H.blks.set k _).set k _ = _; rw [List.set_set]; congr 1; show { aag (H.blks.set k { aag H.blks k with size := s }) k with used := u } = _; rw [aa3 _ _ _ _ (by omega), if_pos rfl]
 have t1 := go { aag H.blks k with size := s, used := u } rfl rfl; have t2 := go { aag H.blks k with size := s } rfl rfl; refine ⟨⟨?_, ?_, ?_⟩, ?_, ?_, ?_⟩
 · rw [e1, ack t1]; exact t1
 · rw [e1, ack t1]; exact hle
 · show H.ds.length = ((H.size k s).use k u).blks.length; rw [e1, List.length_set]; exact h.dl
 · show abU 184 (H.blks.set k _) (lenB (H.blks.set k _)); rw [ack t2]; exact t2
 · show lenB (H.blks.set k _) <= _; rw [ack t2]; exact hle
 · show H.ds.length = (H.blks.set k _).length; rw [List.length_set]; exact h.dl
theorem ajr (h : H.Ok) {k : Nat} (hk : H.blks.length = k + 1) : (aag H.blks k).off + (aag H.blks k).size = lenB H.blks := by
 have h4 := (h.at_ (i := k) (by omega)).2.2; rw [List.drop_of_length_le (by omega)] at h4; exact h4
theorem Hp.Ok.take (h : H.Ok) (hc : H.cap <= 16384) (hs : aaG (s : Int) = true) : (H.take s).2.Ok := by
 unfold Hp.take; split
 · rename_i i hf; exact Hp.Ok.cutA (Hp.Ok.out h) (aoE (H := H) hf) hs
 · split
   · exact h
   · rename_i hr; split
     · rename_i htl; obtain ⟨k, hk⟩ : ∃ k, H.blks.length = 0 \/ H.blks.length = k + 1 := ⟨H.blks.length - 1, by omega⟩; rcases hk with hk | hk
       · unfold abk at htl; rw [if_pos hk] at htl; omega
       · have he := ajr h hk; have htf : abk H.blks = (aag H.blks k).size := by
          unfold abk at htl ⊢; rw [if_neg (by omega), show H.blks.length - 1 = k by omega] at htl ⊢; split at htl
          · omega
          · rename_i hu; rw [if_neg hu]
         rw [show H.blks.length - 1 = k by omega]; exact (Hp.Ok.last (Hp.Ok.out (i := k) h) hk true hs (by show (aag H.blks k).off + s <= _; omega)).1
     · rename_i htl; have ht : abU 184 (H.blks ++ [⟨lenB H.blks, s, true⟩]) (lenB H.blks + s) := ahi _ _ _ _ h.tl rfl hs; have e : (H.put H.blks.length ⟨lenB H.blks, s, true⟩).blks = H.blks ++ [⟨lenB H.blks, s, true⟩] := by
        show H.blks.take _ ++ _ :: H.blks.drop _ = _; rw [List.take_length, List.drop_length]
       refine ⟨?_, ?_, ?_⟩
       · rw [e, ack ht]; exact ht
       · rw [e, ack ht]; omega
       · rw [e]; show (H.ds.take _ ++ aaR :: H.ds.drop _).length = _; have := h.dl; simp only [List.length_append, List.length_take, List.length_drop, List.length_cons, List.length_nil]; omega
end
end Go.Proofs.YtnicenfdlfffpaaGreatDoor
