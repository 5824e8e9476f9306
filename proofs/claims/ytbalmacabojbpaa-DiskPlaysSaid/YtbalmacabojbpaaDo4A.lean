/- What a deed comes to, of a disk and of the document's own: the same. The ways that do not write, the deed's own bytes. -/
import Derived.Test.YtbalmacabojbpaaDo4H
namespace Go.Proofs.Ytbalmacabojbpaa
open Go.RowKit

set_option maxRecDepth 100000 in
set_option maxHeartbeats 2000000 in
theorem do4_read_arg_own {Sd Sr : Nat → Prop} {B : Nat} {w : World} {g h c : Nat} {W : Option Addr} {cw gr : Nat} {L : Option Addr} {cl : Nat} {V : Option Addr} {cv : Nat} {bs : List UInt8} {ls ws vs : List Wr} {left : Int} {off : Bool} {n : Nat}
    (t : Two Sd Sr B w g h c W cw gr L cl V cv bs ls ws vs left off n) (_hn : n ≤ 1000) (d : Dd) (hf : d.fit w B) (hb0 : d.bn ≠ 0) (hp : (d.what % 8).toNat = 3) (hi : d.i < 0 ∨ (ls.length : Int) ≤ d.i) : Does B w g gr n ls.length d := by
  rcases d with ⟨what, i, m, x, bA, bn, bc, kA, kn, kc⟩
  obtain ⟨hf1, hf2, hf3, ⟨cs, hcs, hbc, hbm, hbA⟩, ⟨kb, hkl, hkm, hkb⟩⟩ := hf
  unfold Does
  dsimp only at *
  unfold maxLen at hbm hkm
  obtain ⟨w1, hw1⟩ : ∃ w1, w.alloc (.cells #[.int .i64 what, .int .i64 i, .int .i64 m, .int .u8 (x.toNat : Int), .slice bA bn bc, .slice kA kn kc] 48) = w1 := ⟨_, rfl⟩
  have hb1 : Below w.heap.size w w1 := by rw [← hw1]; exact (Below.refl _ _).alloc (Nat.le_refl _) _
  have hn1 : w1.heap[w.heap.size]? = some (.cells #[.int .i64 what, .int .i64 i, .int .i64 m, .int .u8 (x.toNat : Int), .slice bA bn bc, .slice kA kn kc] 48 (0, 0)) := by rw [← hw1]; exact heap_alloc_new w _
  have hB := t.hB
  have t1 := t.below hb1
  have hks : ¬ Sd w.heap.size ∧ ¬ Sr w.heap.size := ⟨fun h => by have := (t.sd _ h).2.1; omega, fun h => by have := (t.sr _ h).2; omega⟩
  have hcs1 := hcs.below (hb1.mono hB)
  obtain ⟨k, hk⟩ : ∃ k, w.heap.size = k := ⟨_, rfl⟩
  rw [hk] at hn1 hks
  have hlen := t.len
  have hll := t.hl
  have hww := t.hn
  have hl1 := t.l1
  have hl2 := t.l2
  have HB01 := Lib.hid (hb1.mono hB)
  have HKB := Lib.hid hkb
  have HKL := Lib.hid hkl
  have HW1 := Lib.hid hw1
  have HKS := Lib.hid hks
  have HLEN := Lib.hid hlen
  have HK := Lib.hid hk
  have HBB := Lib.hid hB
  have hq : (((bn : Nat) : Int) == 0) = false := by rw [beq_eq_false_iff_ne]; omega
  have HN4 := Lib.hid hn1
  have T4 := Lib.hid t1
  have RB := Lib.hid (hcs1.more (Nat.le_trans hB hb1.size))
  have HAP : Hid (∀ a, bA = some a → ¬ Sd a.block ∧ ¬ Sr a.block) := fun a e => by
    obtain ⟨b, o, e1, hlt, _⟩ := hcs.2 (by omega)
    rw [e] at e1
    injection e1 with e1
    subst e1
    exact ⟨fun h => by have := (t.sd _ h).1; dsimp only at this; omega, fun h => by have := (t.sr _ h).1; dsimp only at this; omega⟩
  have d0 := cell_of_row w1 k 0 _ _ (0, 0) hn1
  have d1 := cell_of_row w1 k 1 _ _ (0, 0) hn1
  have d2 := cell_of_row w1 k 2 _ _ (0, 0) hn1
  have d4 := cell_of_row w1 k 4 _ _ (0, 0) hn1
  have d5 := cell_of_row w1 k 5 _ _ (0, 0) hn1
  simp only [List.getElem?_toArray, List.getElem?_cons_zero, List.getElem?_cons_succ] at d0 d1 d2 d4 d5
  have HB04 := HB01
  have hpk := pick_any what 8 w1 (by omega) (by omega)
  rw [show what % ((8 : Nat) : Int) = what % 8 from rfl, hp] at hpk
  have HPK : Hid (Calls Try.prog 23 #[.int .i64 what, .int .i64 8] w1 fun e w' => e = .returned (.int .i64 3) ∧ w1 = w') := hpk
  clear t t1 hcs hcs1 hn1 hw1 hb1 hks hkb hkl hlen hpk hp hB hbA hb0
  go_enter Try.func19, Try.ntmps19
  go_wp2_with fail
  rw [HW1.out]
  clear HW1 hq hk
  obtain ⟨w4, hw4⟩ : ∃ w4, w1 = w4 := ⟨_, rfl⟩
  subst hw4
  have b4s : k < w1.heap.size := heap_lt HN4.out
  with_reducible refine HPK.out.mono ?_
  rintro e w5 ⟨rfl, rfl⟩
  clear HPK d0
  have HG := Lib.hid (dread_arg T4.out.d (by have := HLEN.out; omega) i (by have := HLEN.out; omega))
  have HM := Lib.hid (rread_arg T4.out.r i hi)
  have HE := Lib.hid (T4.out.stay (Below.refl _ _) (n' := n + 1) (by omega))
  have HE : Hid (TwoE B w1 g gr (n + 1) ls.length ∧ Below B w w1) := ⟨HE.out.1, HB04.out⟩
  clear hi d2 d5
  go_wp2_with fail
  with_reducible refine HG.out.mono ?_
  rintro e w6 ⟨rfl, rfl⟩
  go_wp2_with fail
  with_reducible refine HM.out.mono ?_
  rintro e w6 ⟨rfl, rfl⟩
  have qn := conv_nl
  clear HG HM
  go_wp2_with fail
  refine (code_err _ 1 (by omega) (by omega)).mono ?_
  rintro e w6 ⟨rfl, rfl⟩
  clear d1 qn
  obtain ⟨⟨Sd', Sr', h', c', W', cw', L', cl', V', cv', bs', ls', ws', vs', left', off', T9, hN9⟩, B9⟩ := HE.out
  obtain ⟨w10, hw10⟩ : ∃ w10, w1.drew = w10 := ⟨_, rfl⟩
  have t10 := T9.below (Below.refl _ _).drew
  rw [hw10] at t10
  have T10 := Lib.hid t10
  have B10 : Hid (Below B w w10) := (show Below B w w10 by rw [← hw10]; exact B9.drew)
  have hsv := t10.same
  have hwn := t10.hn
  have HW10 := Lib.hid hw10
  have HN9 := Lib.hid hN9
  clear HE T9 B9 t10 hw10 hN9
  go_wp2_with fail
  refine wp_region_tail w10.heap.size [([0, 2, 3, 4, 5, 6], 1)] [7] [] (by kernel_rfl) (by kernel_rfl) (by kernel_rfl) (fun _ _ _ _ _ h => h) ?_
  rw [HW10.out]
  have t1 : ∀ z : LaterB w10.heap.size w10, z.val.cell? ⟨gr, 1, none⟩ = some (.slice V' ws'.length cv') := fun z => (z.ext.cell (p := ⟨gr, 1, none⟩) T10.out.r.lt).trans (hsv ▸ T10.out.r.c1)
  clear hsv
  refine tail_cons (l := ?segW) ?hsegW ?_
  case hsegW => simp only [pick, List.getElem?_toArray, List.getElem?_cons_succ, List.getElem?_cons_zero]; rfl
  repeat (go_big_quiet_step (fail))
  refine wpQuiet_nil ?_
  clear t1
  refine tail_call (vs := #[.pointer (some ⟨g, 0, none⟩)]) Try.call27 rfl rfl rfl (R := fun r w' => r = .int .i64 (ws'.length : Int) ∧ w' = w10) ((dwaiting_any T10.out.d).mono ?_) w10.heap.size (Nat.le_refl _) ?_
  · rintro e w' ⟨rfl, rfl⟩
    exact ⟨_, rfl, Below.refl _ _, rfl, rfl⟩
  rintro r w11 _ ⟨rfl, rfl⟩
  refine tail_last (l := ?laW) (t := []) ?hlaW ?htlW ?_
  case hlaW => simp only [pick, List.getElem?_toArray, List.getElem?_cons_succ, List.getElem?_cons_zero]; rfl
  case htlW => rfl
  simp only [Act.put, List.setIfInBounds_toArray, List.set_cons_zero, List.set_cons_succ]
  repeat (go_big_quiet_step (fail))
  refine wpQuiet_nil ?_
  go_wp2
  go_ret
  exact ⟨rfl, ⟨Sd', Sr', h', c', W', cw', L', cl', V', cv', bs', ls', ws', vs', left', off', T10.out, HN9.out⟩, B10.out⟩

set_option maxRecDepth 100000 in
set_option maxHeartbeats 2000000 in
theorem do4_read_off_own {Sd Sr : Nat → Prop} {B : Nat} {w : World} {g h c : Nat} {W : Option Addr} {cw gr : Nat} {L : Option Addr} {cl : Nat} {V : Option Addr} {cv : Nat} {bs : List UInt8} {ls ws vs : List Wr} {left : Int} {n : Nat}
    (t : Two Sd Sr B w g h c W cw gr L cl V cv bs ls ws vs left true n) (_hn : n ≤ 1000) (d : Dd) (hf : d.fit w B) (hb0 : d.bn ≠ 0) (hp : (d.what % 8).toNat = 3) (N : Nat) (hi : d.i = (N : Int)) (hi2 : N < ls.length) : Does B w g gr n ls.length d := by
  rcases d with ⟨what, i, m, x, bA, bn, bc, kA, kn, kc⟩
  obtain ⟨hf1, hf2, hf3, ⟨cs, hcs, hbc, hbm, hbA⟩, ⟨kb, hkl, hkm, hkb⟩⟩ := hf
  unfold Does
  dsimp only at *
  subst hi
  unfold maxLen at hbm hkm
  obtain ⟨w1, hw1⟩ : ∃ w1, w.alloc (.cells #[.int .i64 what, .int .i64 (N : Int), .int .i64 m, .int .u8 (x.toNat : Int), .slice bA bn bc, .slice kA kn kc] 48) = w1 := ⟨_, rfl⟩
  have hb1 : Below w.heap.size w w1 := by rw [← hw1]; exact (Below.refl _ _).alloc (Nat.le_refl _) _
  have hn1 : w1.heap[w.heap.size]? = some (.cells #[.int .i64 what, .int .i64 (N : Int), .int .i64 m, .int .u8 (x.toNat : Int), .slice bA bn bc, .slice kA kn kc] 48 (0, 0)) := by rw [← hw1]; exact heap_alloc_new w _
  have hB := t.hB
  have t1 := t.below hb1
  have hks : ¬ Sd w.heap.size ∧ ¬ Sr w.heap.size := ⟨fun h => by have := (t.sd _ h).2.1; omega, fun h => by have := (t.sr _ h).2; omega⟩
  have hcs1 := hcs.below (hb1.mono hB)
  obtain ⟨k, hk⟩ : ∃ k, w.heap.size = k := ⟨_, rfl⟩
  rw [hk] at hn1 hks
  have hlen := t.len
  have hll := t.hl
  have hww := t.hn
  have hl1 := t.l1
  have hl2 := t.l2
  have HB01 := Lib.hid (hb1.mono hB)
  have HKB := Lib.hid hkb
  have HKL := Lib.hid hkl
  have HW1 := Lib.hid hw1
  have HKS := Lib.hid hks
  have HLEN := Lib.hid hlen
  have HK := Lib.hid hk
  have HBB := Lib.hid hB
  have hq : (((bn : Nat) : Int) == 0) = false := by rw [beq_eq_false_iff_ne]; omega
  have HN4 := Lib.hid hn1
  have T4 := Lib.hid t1
  have RB := Lib.hid (hcs1.more (Nat.le_trans hB hb1.size))
  have HAP : Hid (∀ a, bA = some a → ¬ Sd a.block ∧ ¬ Sr a.block) := fun a e => by
    obtain ⟨b, o, e1, hlt, _⟩ := hcs.2 (by omega)
    rw [e] at e1
    injection e1 with e1
    subst e1
    exact ⟨fun h => by have := (t.sd _ h).1; dsimp only at this; omega, fun h => by have := (t.sr _ h).1; dsimp only at this; omega⟩
  have d0 := cell_of_row w1 k 0 _ _ (0, 0) hn1
  have d1 := cell_of_row w1 k 1 _ _ (0, 0) hn1
  have d2 := cell_of_row w1 k 2 _ _ (0, 0) hn1
  have d4 := cell_of_row w1 k 4 _ _ (0, 0) hn1
  have d5 := cell_of_row w1 k 5 _ _ (0, 0) hn1
  simp only [List.getElem?_toArray, List.getElem?_cons_zero, List.getElem?_cons_succ] at d0 d1 d2 d4 d5
  have HB04 := HB01
  have hpk := pick_any what 8 w1 (by omega) (by omega)
  rw [show what % ((8 : Nat) : Int) = what % 8 from rfl, hp] at hpk
  have HPK : Hid (Calls Try.prog 23 #[.int .i64 what, .int .i64 8] w1 fun e w' => e = .returned (.int .i64 3) ∧ w1 = w') := hpk
  clear t t1 hcs hcs1 hn1 hw1 hb1 hks hkb hkl hlen hpk hp hB hbA hb0
  go_enter Try.func19, Try.ntmps19
  go_wp2_with fail
  rw [HW1.out]
  clear HW1 hq hk
  obtain ⟨w4, hw4⟩ : ∃ w4, w1 = w4 := ⟨_, rfl⟩
  subst hw4
  have b4s : k < w1.heap.size := heap_lt HN4.out
  with_reducible refine HPK.out.mono ?_
  rintro e w5 ⟨rfl, rfl⟩
  clear HPK d0
  have HG := Lib.hid (dread_off T4.out.d (by have := HLEN.out; omega) N (by have := HLEN.out; omega))
  have HM := Lib.hid (rread_off T4.out.r N hi2)
  have HE := Lib.hid (T4.out.stay (Below.refl _ _) (n' := n + 1) (by omega))
  have HE : Hid (TwoE B w1 g gr (n + 1) ls.length ∧ Below B w w1) := ⟨HE.out.1, HB04.out⟩
  clear d2 d5
  go_wp2_with fail
  with_reducible refine HG.out.mono ?_
  rintro e w6 ⟨rfl, rfl⟩
  go_wp2_with fail
  with_reducible refine HM.out.mono ?_
  rintro e w6 ⟨rfl, rfl⟩
  have qn := conv_nl
  clear HG HM
  go_wp2_with fail
  refine (code_err _ 6 (by omega) (by omega)).mono ?_
  rintro e w6 ⟨rfl, rfl⟩
  clear d1 qn
  obtain ⟨⟨Sd', Sr', h', c', W', cw', L', cl', V', cv', bs', ls', ws', vs', left', off', T9, hN9⟩, B9⟩ := HE.out
  obtain ⟨w10, hw10⟩ : ∃ w10, w1.drew = w10 := ⟨_, rfl⟩
  have t10 := T9.below (Below.refl _ _).drew
  rw [hw10] at t10
  have T10 := Lib.hid t10
  have B10 : Hid (Below B w w10) := (show Below B w w10 by rw [← hw10]; exact B9.drew)
  have hsv := t10.same
  have hwn := t10.hn
  have HW10 := Lib.hid hw10
  have HN9 := Lib.hid hN9
  clear HE T9 B9 t10 hw10 hN9
  go_wp2_with fail
  refine wp_region_tail w10.heap.size [([0, 2, 3, 4, 5, 6], 1)] [7] [] (by kernel_rfl) (by kernel_rfl) (by kernel_rfl) (fun _ _ _ _ _ h => h) ?_
  rw [HW10.out]
  have t1 : ∀ z : LaterB w10.heap.size w10, z.val.cell? ⟨gr, 1, none⟩ = some (.slice V' ws'.length cv') := fun z => (z.ext.cell (p := ⟨gr, 1, none⟩) T10.out.r.lt).trans (hsv ▸ T10.out.r.c1)
  clear hsv
  refine tail_cons (l := ?segW) ?hsegW ?_
  case hsegW => simp only [pick, List.getElem?_toArray, List.getElem?_cons_succ, List.getElem?_cons_zero]; rfl
  repeat (go_big_quiet_step (fail))
  refine wpQuiet_nil ?_
  clear t1
  refine tail_call (vs := #[.pointer (some ⟨g, 0, none⟩)]) Try.call27 rfl rfl rfl (R := fun r w' => r = .int .i64 (ws'.length : Int) ∧ w' = w10) ((dwaiting_any T10.out.d).mono ?_) w10.heap.size (Nat.le_refl _) ?_
  · rintro e w' ⟨rfl, rfl⟩
    exact ⟨_, rfl, Below.refl _ _, rfl, rfl⟩
  rintro r w11 _ ⟨rfl, rfl⟩
  refine tail_last (l := ?laW) (t := []) ?hlaW ?htlW ?_
  case hlaW => simp only [pick, List.getElem?_toArray, List.getElem?_cons_succ, List.getElem?_cons_zero]; rfl
  case htlW => rfl
  simp only [Act.put, List.setIfInBounds_toArray, List.set_cons_zero, List.set_cons_succ]
  repeat (go_big_quiet_step (fail))
  refine wpQuiet_nil ?_
  go_wp2
  go_ret
  exact ⟨rfl, ⟨Sd', Sr', h', c', W', cw', L', cl', V', cv', bs', ls', ws', vs', left', off', T10.out, HN9.out⟩, B10.out⟩

set_option maxRecDepth 100000 in
set_option maxHeartbeats 2000000 in
theorem do4_read_ok_own {Sd Sr : Nat → Prop} {B : Nat} {w : World} {g h c : Nat} {W : Option Addr} {cw gr : Nat} {L : Option Addr} {cl : Nat} {V : Option Addr} {cv : Nat} {bs : List UInt8} {ls ws vs : List Wr} {left : Int} {n : Nat}
    (t : Two Sd Sr B w g h c W cw gr L cl V cv bs ls ws vs left false n) (_hn : n ≤ 1000) (d : Dd) (hf : d.fit w B) (hb0 : d.bn ≠ 0) (hp : (d.what % 8).toNat = 3) (N : Nat) (hi : d.i = (N : Int)) (hi2 : N < ls.length) : Does B w g gr n ls.length d := by
  rcases d with ⟨what, i, m, x, bA, bn, bc, kA, kn, kc⟩
  obtain ⟨hf1, hf2, hf3, ⟨cs, hcs, hbc, hbm, hbA⟩, ⟨kb, hkl, hkm, hkb⟩⟩ := hf
  unfold Does
  dsimp only at *
  subst hi
  unfold maxLen at hbm hkm
  obtain ⟨w1, hw1⟩ : ∃ w1, w.alloc (.cells #[.int .i64 what, .int .i64 (N : Int), .int .i64 m, .int .u8 (x.toNat : Int), .slice bA bn bc, .slice kA kn kc] 48) = w1 := ⟨_, rfl⟩
  have hb1 : Below w.heap.size w w1 := by rw [← hw1]; exact (Below.refl _ _).alloc (Nat.le_refl _) _
  have hn1 : w1.heap[w.heap.size]? = some (.cells #[.int .i64 what, .int .i64 (N : Int), .int .i64 m, .int .u8 (x.toNat : Int), .slice bA bn bc, .slice kA kn kc] 48 (0, 0)) := by rw [← hw1]; exact heap_alloc_new w _
  have hB := t.hB
  have t1 := t.below hb1
  have hks : ¬ Sd w.heap.size ∧ ¬ Sr w.heap.size := ⟨fun h => by have := (t.sd _ h).2.1; omega, fun h => by have := (t.sr _ h).2; omega⟩
  have hcs1 := hcs.below (hb1.mono hB)
  obtain ⟨k, hk⟩ : ∃ k, w.heap.size = k := ⟨_, rfl⟩
  rw [hk] at hn1 hks
  have hlen := t.len
  have hll := t.hl
  have hww := t.hn
  have hl1 := t.l1
  have hl2 := t.l2
  have HB01 := Lib.hid (hb1.mono hB)
  have HKB := Lib.hid hkb
  have HKL := Lib.hid hkl
  have HW1 := Lib.hid hw1
  have HKS := Lib.hid hks
  have HLEN := Lib.hid hlen
  have HK := Lib.hid hk
  have HBB := Lib.hid hB
  have hq : (((bn : Nat) : Int) == 0) = false := by rw [beq_eq_false_iff_ne]; omega
  have HN4 := Lib.hid hn1
  have T4 := Lib.hid t1
  have RB := Lib.hid (hcs1.more (Nat.le_trans hB hb1.size))
  have HAP : Hid (∀ a, bA = some a → ¬ Sd a.block ∧ ¬ Sr a.block) := fun a e => by
    obtain ⟨b, o, e1, hlt, _⟩ := hcs.2 (by omega)
    rw [e] at e1
    injection e1 with e1
    subst e1
    exact ⟨fun h => by have := (t.sd _ h).1; dsimp only at this; omega, fun h => by have := (t.sr _ h).1; dsimp only at this; omega⟩
  have d0 := cell_of_row w1 k 0 _ _ (0, 0) hn1
  have d1 := cell_of_row w1 k 1 _ _ (0, 0) hn1
  have d2 := cell_of_row w1 k 2 _ _ (0, 0) hn1
  have d4 := cell_of_row w1 k 4 _ _ (0, 0) hn1
  have d5 := cell_of_row w1 k 5 _ _ (0, 0) hn1
  simp only [List.getElem?_toArray, List.getElem?_cons_zero, List.getElem?_cons_succ] at d0 d1 d2 d4 d5
  have HB04 := HB01
  have hpk := pick_any what 8 w1 (by omega) (by omega)
  rw [show what % ((8 : Nat) : Int) = what % 8 from rfl, hp] at hpk
  have HPK : Hid (Calls Try.prog 23 #[.int .i64 what, .int .i64 8] w1 fun e w' => e = .returned (.int .i64 3) ∧ w1 = w') := hpk
  clear t t1 hcs hcs1 hn1 hw1 hb1 hks hkb hkl hlen hpk hp hB hbA hb0
  go_enter Try.func19, Try.ntmps19
  go_wp2_with fail
  rw [HW1.out]
  clear HW1 hq hk
  obtain ⟨w4, hw4⟩ : ∃ w4, w1 = w4 := ⟨_, rfl⟩
  subst hw4
  have b4s : k < w1.heap.size := heap_lt HN4.out
  with_reducible refine HPK.out.mono ?_
  rintro e w5 ⟨rfl, rfl⟩
  clear HPK d0
  obtain ⟨y, hy⟩ : ∃ y, ls[N]? = some y := ⟨_, List.getElem?_eq_getElem hi2⟩
  have hg := dread_ok T4.out.d (by have := HLEN.out; omega) N (by have := HLEN.out; omega)
  rw [T4.out.read N y hy] at hg
  have hm := fun W6 (hb : Below w1.heap.size w1 W6) => rread_ok (T4.out.r.below hb) N y hy
  obtain ⟨ys, hys⟩ : ∃ ys, (pickR N y vs).d = ys := ⟨_, rfl⟩
  rw [hys] at hg hm
  have HG := Lib.hid hg
  have HM := Lib.hid hm
  clear d2 d5 hg hm hys hy
  go_wp2_with fail
  with_reducible refine HG.out.mono ?_
  rintro e w6 ⟨A6, c6, rfl, o6, b6⟩
  have d1 := (b6.cell (p := ⟨k, 1, none⟩) b4s).trans d1
  have HM6 := Lib.hid (HM.out w6 b6)
  have R6 := Lib.hid (Rd.own' o6).1
  have HB6 := Lib.hid b6
  clear o6 b6 HM HG
  go_wp2_with fail
  with_reducible refine HM6.out.mono ?_
  rintro e w7 ⟨A7, c7, rfl, o7, b7⟩
  have qa := fun c => conv_rd (c := c) (R6.out.below b7)
  have qb := fun c => conv_rd (c := c) (Rd.own' o7).1
  have HB7 := Lib.hid (HB6.out.trans (b7.mono HB6.out.size))
  have HE : Hid (TwoE B w7 g gr (n + 1) ls.length ∧ Below B w w7) := ⟨(T4.out.stay HB7.out (n' := n + 1) (by omega)).1, HB04.out.trans (HB7.out.mono T4.out.hB)⟩
  clear o7 b7 HM6 R6 HB6 d1
  go_wp2_with fail
  refine (code_nil _).mono ?_
  rintro e w8 ⟨rfl, rfl⟩
  clear qa qb
  obtain ⟨⟨Sd', Sr', h', c', W', cw', L', cl', V', cv', bs', ls', ws', vs', left', off', T9, hN9⟩, B9⟩ := HE.out
  obtain ⟨w10, hw10⟩ : ∃ w10, w7.drew = w10 := ⟨_, rfl⟩
  have t10 := T9.below (Below.refl _ _).drew
  rw [hw10] at t10
  have T10 := Lib.hid t10
  have B10 : Hid (Below B w w10) := (show Below B w w10 by rw [← hw10]; exact B9.drew)
  have hsv := t10.same
  have hwn := t10.hn
  have HW10 := Lib.hid hw10
  have HN9 := Lib.hid hN9
  clear HE T9 B9 t10 hw10 hN9
  go_wp2_with fail
  refine wp_region_tail w10.heap.size [([0, 2, 3, 4, 5, 6], 1)] [7] [] (by kernel_rfl) (by kernel_rfl) (by kernel_rfl) (fun _ _ _ _ _ h => h) ?_
  rw [HW10.out]
  have t1 : ∀ z : LaterB w10.heap.size w10, z.val.cell? ⟨gr, 1, none⟩ = some (.slice V' ws'.length cv') := fun z => (z.ext.cell (p := ⟨gr, 1, none⟩) T10.out.r.lt).trans (hsv ▸ T10.out.r.c1)
  clear hsv
  refine tail_cons (l := ?segW) ?hsegW ?_
  case hsegW => simp only [pick, List.getElem?_toArray, List.getElem?_cons_succ, List.getElem?_cons_zero]; rfl
  repeat (go_big_quiet_step (fail))
  refine wpQuiet_nil ?_
  clear t1
  refine tail_call (vs := #[.pointer (some ⟨g, 0, none⟩)]) Try.call27 rfl rfl rfl (R := fun r w' => r = .int .i64 (ws'.length : Int) ∧ w' = w10) ((dwaiting_any T10.out.d).mono ?_) w10.heap.size (Nat.le_refl _) ?_
  · rintro e w' ⟨rfl, rfl⟩
    exact ⟨_, rfl, Below.refl _ _, rfl, rfl⟩
  rintro r w11 _ ⟨rfl, rfl⟩
  refine tail_last (l := ?laW) (t := []) ?hlaW ?htlW ?_
  case hlaW => simp only [pick, List.getElem?_toArray, List.getElem?_cons_succ, List.getElem?_cons_zero]; rfl
  case htlW => rfl
  simp only [Act.put, List.setIfInBounds_toArray, List.set_cons_zero, List.set_cons_succ]
  repeat (go_big_quiet_step (fail))
  refine wpQuiet_nil ?_
  go_wp2
  go_ret
  exact ⟨rfl, ⟨Sd', Sr', h', c', W', cw', L', cl', V', cv', bs', ls', ws', vs', left', off', T10.out, HN9.out⟩, B10.out⟩

set_option maxRecDepth 100000 in
set_option maxHeartbeats 2000000 in
theorem do4_flush_off_own {Sd Sr : Nat → Prop} {B : Nat} {w : World} {g h c : Nat} {W : Option Addr} {cw gr : Nat} {L : Option Addr} {cl : Nat} {V : Option Addr} {cv : Nat} {bs : List UInt8} {ls ws vs : List Wr} {left : Int} {n : Nat}
    (t : Two Sd Sr B w g h c W cw gr L cl V cv bs ls ws vs left true n) (_hn : n ≤ 1000) (d : Dd) (hf : d.fit w B) (hb0 : d.bn ≠ 0) (hp : (d.what % 8).toNat = 4)  : Does B w g gr n ls.length d := by
  rcases d with ⟨what, i, m, x, bA, bn, bc, kA, kn, kc⟩
  obtain ⟨hf1, hf2, hf3, ⟨cs, hcs, hbc, hbm, hbA⟩, ⟨kb, hkl, hkm, hkb⟩⟩ := hf
  unfold Does
  dsimp only at *
  unfold maxLen at hbm hkm
  obtain ⟨w1, hw1⟩ : ∃ w1, w.alloc (.cells #[.int .i64 what, .int .i64 i, .int .i64 m, .int .u8 (x.toNat : Int), .slice bA bn bc, .slice kA kn kc] 48) = w1 := ⟨_, rfl⟩
  have hb1 : Below w.heap.size w w1 := by rw [← hw1]; exact (Below.refl _ _).alloc (Nat.le_refl _) _
  have hn1 : w1.heap[w.heap.size]? = some (.cells #[.int .i64 what, .int .i64 i, .int .i64 m, .int .u8 (x.toNat : Int), .slice bA bn bc, .slice kA kn kc] 48 (0, 0)) := by rw [← hw1]; exact heap_alloc_new w _
  have hB := t.hB
  have t1 := t.below hb1
  have hks : ¬ Sd w.heap.size ∧ ¬ Sr w.heap.size := ⟨fun h => by have := (t.sd _ h).2.1; omega, fun h => by have := (t.sr _ h).2; omega⟩
  have hcs1 := hcs.below (hb1.mono hB)
  obtain ⟨k, hk⟩ : ∃ k, w.heap.size = k := ⟨_, rfl⟩
  rw [hk] at hn1 hks
  have hlen := t.len
  have hll := t.hl
  have hww := t.hn
  have hl1 := t.l1
  have hl2 := t.l2
  have HB01 := Lib.hid (hb1.mono hB)
  have HKB := Lib.hid hkb
  have HKL := Lib.hid hkl
  have HW1 := Lib.hid hw1
  have HKS := Lib.hid hks
  have HLEN := Lib.hid hlen
  have HK := Lib.hid hk
  have HBB := Lib.hid hB
  have hq : (((bn : Nat) : Int) == 0) = false := by rw [beq_eq_false_iff_ne]; omega
  have HN4 := Lib.hid hn1
  have T4 := Lib.hid t1
  have RB := Lib.hid (hcs1.more (Nat.le_trans hB hb1.size))
  have HAP : Hid (∀ a, bA = some a → ¬ Sd a.block ∧ ¬ Sr a.block) := fun a e => by
    obtain ⟨b, o, e1, hlt, _⟩ := hcs.2 (by omega)
    rw [e] at e1
    injection e1 with e1
    subst e1
    exact ⟨fun h => by have := (t.sd _ h).1; dsimp only at this; omega, fun h => by have := (t.sr _ h).1; dsimp only at this; omega⟩
  have d0 := cell_of_row w1 k 0 _ _ (0, 0) hn1
  have d1 := cell_of_row w1 k 1 _ _ (0, 0) hn1
  have d2 := cell_of_row w1 k 2 _ _ (0, 0) hn1
  have d4 := cell_of_row w1 k 4 _ _ (0, 0) hn1
  have d5 := cell_of_row w1 k 5 _ _ (0, 0) hn1
  simp only [List.getElem?_toArray, List.getElem?_cons_zero, List.getElem?_cons_succ] at d0 d1 d2 d4 d5
  have HB04 := HB01
  have hpk := pick_any what 8 w1 (by omega) (by omega)
  rw [show what % ((8 : Nat) : Int) = what % 8 from rfl, hp] at hpk
  have HPK : Hid (Calls Try.prog 23 #[.int .i64 what, .int .i64 8] w1 fun e w' => e = .returned (.int .i64 4) ∧ w1 = w') := hpk
  clear t t1 hcs hcs1 hn1 hw1 hb1 hks hkb hkl hlen hpk hp hB hbA hb0
  go_enter Try.func19, Try.ntmps19
  go_wp2_with fail
  rw [HW1.out]
  clear HW1 hq hk
  obtain ⟨w4, hw4⟩ : ∃ w4, w1 = w4 := ⟨_, rfl⟩
  subst hw4
  have b4s : k < w1.heap.size := heap_lt HN4.out
  with_reducible refine HPK.out.mono ?_
  rintro e w5 ⟨rfl, rfl⟩
  clear HPK d0
  have HG := Lib.hid (dflush_off T4.out.d)
  have HM := Lib.hid (rflush_off T4.out.r)
  have HE := Lib.hid (T4.out.stay (Below.refl _ _) (n' := n + 1) (by omega))
  have HE : Hid (TwoE B w1 g gr (n + 1) ls.length ∧ Below B w w1) := ⟨HE.out.1, HB04.out⟩
  clear d1 d2 d5
  go_wp2_with fail
  with_reducible refine HG.out.mono ?_
  rintro e w6 ⟨rfl, rfl⟩
  go_wp2_with fail
  refine (code_err _ 6 (by omega) (by omega)).mono ?_
  rintro e w6 ⟨rfl, rfl⟩
  go_wp2_with fail
  with_reducible refine HM.out.mono ?_
  rintro e w6 ⟨rfl, rfl⟩
  clear HG HM
  obtain ⟨⟨Sd', Sr', h', c', W', cw', L', cl', V', cv', bs', ls', ws', vs', left', off', T9, hN9⟩, B9⟩ := HE.out
  obtain ⟨w10, hw10⟩ : ∃ w10, w1.drew = w10 := ⟨_, rfl⟩
  have t10 := T9.below (Below.refl _ _).drew
  rw [hw10] at t10
  have T10 := Lib.hid t10
  have B10 : Hid (Below B w w10) := (show Below B w w10 by rw [← hw10]; exact B9.drew)
  have hsv := t10.same
  have hwn := t10.hn
  have HW10 := Lib.hid hw10
  have HN9 := Lib.hid hN9
  clear HE T9 B9 t10 hw10 hN9
  go_wp2_with fail
  refine wp_region_tail w10.heap.size [([0, 2, 3, 4, 5, 6], 1)] [7] [] (by kernel_rfl) (by kernel_rfl) (by kernel_rfl) (fun _ _ _ _ _ h => h) ?_
  rw [HW10.out]
  have t1 : ∀ z : LaterB w10.heap.size w10, z.val.cell? ⟨gr, 1, none⟩ = some (.slice V' ws'.length cv') := fun z => (z.ext.cell (p := ⟨gr, 1, none⟩) T10.out.r.lt).trans (hsv ▸ T10.out.r.c1)
  clear hsv
  refine tail_cons (l := ?segW) ?hsegW ?_
  case hsegW => simp only [pick, List.getElem?_toArray, List.getElem?_cons_succ, List.getElem?_cons_zero]; rfl
  repeat (go_big_quiet_step (fail))
  refine wpQuiet_nil ?_
  clear t1
  refine tail_call (vs := #[.pointer (some ⟨g, 0, none⟩)]) Try.call27 rfl rfl rfl (R := fun r w' => r = .int .i64 (ws'.length : Int) ∧ w' = w10) ((dwaiting_any T10.out.d).mono ?_) w10.heap.size (Nat.le_refl _) ?_
  · rintro e w' ⟨rfl, rfl⟩
    exact ⟨_, rfl, Below.refl _ _, rfl, rfl⟩
  rintro r w11 _ ⟨rfl, rfl⟩
  refine tail_last (l := ?laW) (t := []) ?hlaW ?htlW ?_
  case hlaW => simp only [pick, List.getElem?_toArray, List.getElem?_cons_succ, List.getElem?_cons_zero]; rfl
  case htlW => rfl
  simp only [Act.put, List.setIfInBounds_toArray, List.set_cons_zero, List.set_cons_succ]
  repeat (go_big_quiet_step (fail))
  refine wpQuiet_nil ?_
  go_wp2
  go_ret
  exact ⟨rfl, ⟨Sd', Sr', h', c', W', cw', L', cl', V', cv', bs', ls', ws', vs', left', off', T10.out, HN9.out⟩, B10.out⟩

set_option maxRecDepth 100000 in
set_option maxHeartbeats 2000000 in
theorem do4_flush_ok_own {Sd Sr : Nat → Prop} {B : Nat} {w : World} {g h c : Nat} {W : Option Addr} {cw gr : Nat} {L : Option Addr} {cl : Nat} {V : Option Addr} {cv : Nat} {bs : List UInt8} {ls ws vs : List Wr} {left : Int} {n : Nat}
    (t : Two Sd Sr B w g h c W cw gr L cl V cv bs ls ws vs left false n) (_hn : n ≤ 1000) (d : Dd) (hf : d.fit w B) (hb0 : d.bn ≠ 0) (hp : (d.what % 8).toNat = 4)  : Does B w g gr n ls.length d := by
  rcases d with ⟨what, i, m, x, bA, bn, bc, kA, kn, kc⟩
  obtain ⟨hf1, hf2, hf3, ⟨cs, hcs, hbc, hbm, hbA⟩, ⟨kb, hkl, hkm, hkb⟩⟩ := hf
  unfold Does
  dsimp only at *
  unfold maxLen at hbm hkm
  obtain ⟨w1, hw1⟩ : ∃ w1, w.alloc (.cells #[.int .i64 what, .int .i64 i, .int .i64 m, .int .u8 (x.toNat : Int), .slice bA bn bc, .slice kA kn kc] 48) = w1 := ⟨_, rfl⟩
  have hb1 : Below w.heap.size w w1 := by rw [← hw1]; exact (Below.refl _ _).alloc (Nat.le_refl _) _
  have hn1 : w1.heap[w.heap.size]? = some (.cells #[.int .i64 what, .int .i64 i, .int .i64 m, .int .u8 (x.toNat : Int), .slice bA bn bc, .slice kA kn kc] 48 (0, 0)) := by rw [← hw1]; exact heap_alloc_new w _
  have hB := t.hB
  have t1 := t.below hb1
  have hks : ¬ Sd w.heap.size ∧ ¬ Sr w.heap.size := ⟨fun h => by have := (t.sd _ h).2.1; omega, fun h => by have := (t.sr _ h).2; omega⟩
  have hcs1 := hcs.below (hb1.mono hB)
  obtain ⟨k, hk⟩ : ∃ k, w.heap.size = k := ⟨_, rfl⟩
  rw [hk] at hn1 hks
  have hlen := t.len
  have hll := t.hl
  have hww := t.hn
  have hl1 := t.l1
  have hl2 := t.l2
  have HB01 := Lib.hid (hb1.mono hB)
  have HKB := Lib.hid hkb
  have HKL := Lib.hid hkl
  have HW1 := Lib.hid hw1
  have HKS := Lib.hid hks
  have HLEN := Lib.hid hlen
  have HK := Lib.hid hk
  have HBB := Lib.hid hB
  have hq : (((bn : Nat) : Int) == 0) = false := by rw [beq_eq_false_iff_ne]; omega
  have HN4 := Lib.hid hn1
  have T4 := Lib.hid t1
  have RB := Lib.hid (hcs1.more (Nat.le_trans hB hb1.size))
  have HAP : Hid (∀ a, bA = some a → ¬ Sd a.block ∧ ¬ Sr a.block) := fun a e => by
    obtain ⟨b, o, e1, hlt, _⟩ := hcs.2 (by omega)
    rw [e] at e1
    injection e1 with e1
    subst e1
    exact ⟨fun h => by have := (t.sd _ h).1; dsimp only at this; omega, fun h => by have := (t.sr _ h).1; dsimp only at this; omega⟩
  have d0 := cell_of_row w1 k 0 _ _ (0, 0) hn1
  have d1 := cell_of_row w1 k 1 _ _ (0, 0) hn1
  have d2 := cell_of_row w1 k 2 _ _ (0, 0) hn1
  have d4 := cell_of_row w1 k 4 _ _ (0, 0) hn1
  have d5 := cell_of_row w1 k 5 _ _ (0, 0) hn1
  simp only [List.getElem?_toArray, List.getElem?_cons_zero, List.getElem?_cons_succ] at d0 d1 d2 d4 d5
  have HB04 := HB01
  have hpk := pick_any what 8 w1 (by omega) (by omega)
  rw [show what % ((8 : Nat) : Int) = what % 8 from rfl, hp] at hpk
  have HPK : Hid (Calls Try.prog 23 #[.int .i64 what, .int .i64 8] w1 fun e w' => e = .returned (.int .i64 4) ∧ w1 = w') := hpk
  clear t t1 hcs hcs1 hn1 hw1 hb1 hks hkb hkl hlen hpk hp hB hbA hb0
  go_enter Try.func19, Try.ntmps19
  go_wp2_with fail
  rw [HW1.out]
  clear HW1 hq hk
  obtain ⟨w4, hw4⟩ : ∃ w4, w1 = w4 := ⟨_, rfl⟩
  subst hw4
  have b4s : k < w1.heap.size := heap_lt HN4.out
  with_reducible refine HPK.out.mono ?_
  rintro e w5 ⟨rfl, rfl⟩
  clear HPK d0
  have HG := Lib.hid (dflush_ok T4.out.d (by have := HLEN.out; omega))
  clear d1 d2 d5
  go_wp2_with fail
  with_reducible refine HG.out.mono ?_
  rintro e w6 ⟨rfl, k6, t6⟩
  have HM := Lib.hid (rflush_ok (T4.out.mid t6))
  have K6 := Lib.hid k6
  have T6 := Lib.hid t6
  clear k6 t6 HG
  go_wp2_with fail
  refine (code_nil _).mono ?_
  rintro e w7 ⟨rfl, rfl⟩
  go_wp2_with fail
  with_reducible refine HM.out.mono ?_
  rintro e w7 ⟨rfl, k7, t7⟩
  have hst := T4.out.step T6.out K6.out.grown t7 k7.grown (rstand_flush T4.out) rfl hl1 hl2 (n' := n + 1) (by simp) (rstand_length _ _)
  have HE : Hid (TwoE B w7 g gr (n + 1) ls.length ∧ Below B w w7) := ⟨hst.1, HB04.out.trans hst.2⟩
  clear k7 t7 HM K6 T6 hst
  obtain ⟨⟨Sd', Sr', h', c', W', cw', L', cl', V', cv', bs', ls', ws', vs', left', off', T9, hN9⟩, B9⟩ := HE.out
  obtain ⟨w10, hw10⟩ : ∃ w10, w7.drew = w10 := ⟨_, rfl⟩
  have t10 := T9.below (Below.refl _ _).drew
  rw [hw10] at t10
  have T10 := Lib.hid t10
  have B10 : Hid (Below B w w10) := (show Below B w w10 by rw [← hw10]; exact B9.drew)
  have hsv := t10.same
  have hwn := t10.hn
  have HW10 := Lib.hid hw10
  have HN9 := Lib.hid hN9
  clear HE T9 B9 t10 hw10 hN9
  go_wp2_with fail
  refine wp_region_tail w10.heap.size [([0, 2, 3, 4, 5, 6], 1)] [7] [] (by kernel_rfl) (by kernel_rfl) (by kernel_rfl) (fun _ _ _ _ _ h => h) ?_
  rw [HW10.out]
  have t1 : ∀ z : LaterB w10.heap.size w10, z.val.cell? ⟨gr, 1, none⟩ = some (.slice V' ws'.length cv') := fun z => (z.ext.cell (p := ⟨gr, 1, none⟩) T10.out.r.lt).trans (hsv ▸ T10.out.r.c1)
  clear hsv
  refine tail_cons (l := ?segW) ?hsegW ?_
  case hsegW => simp only [pick, List.getElem?_toArray, List.getElem?_cons_succ, List.getElem?_cons_zero]; rfl
  repeat (go_big_quiet_step (fail))
  refine wpQuiet_nil ?_
  clear t1
  refine tail_call (vs := #[.pointer (some ⟨g, 0, none⟩)]) Try.call27 rfl rfl rfl (R := fun r w' => r = .int .i64 (ws'.length : Int) ∧ w' = w10) ((dwaiting_any T10.out.d).mono ?_) w10.heap.size (Nat.le_refl _) ?_
  · rintro e w' ⟨rfl, rfl⟩
    exact ⟨_, rfl, Below.refl _ _, rfl, rfl⟩
  rintro r w11 _ ⟨rfl, rfl⟩
  refine tail_last (l := ?laW) (t := []) ?hlaW ?htlW ?_
  case hlaW => simp only [pick, List.getElem?_toArray, List.getElem?_cons_succ, List.getElem?_cons_zero]; rfl
  case htlW => rfl
  simp only [Act.put, List.setIfInBounds_toArray, List.set_cons_zero, List.set_cons_succ]
  repeat (go_big_quiet_step (fail))
  refine wpQuiet_nil ?_
  go_wp2
  go_ret
  exact ⟨rfl, ⟨Sd', Sr', h', c', W', cw', L', cl', V', cv', bs', ls', ws', vs', left', off', T10.out, HN9.out⟩, B10.out⟩

set_option maxRecDepth 100000 in
set_option maxHeartbeats 2000000 in
theorem do4_cut_own {Sd Sr : Nat → Prop} {B : Nat} {w : World} {g h c : Nat} {W : Option Addr} {cw gr : Nat} {L : Option Addr} {cl : Nat} {V : Option Addr} {cv : Nat} {bs : List UInt8} {ls ws vs : List Wr} {left : Int} {off : Bool} {n : Nat}
    (t : Two Sd Sr B w g h c W cw gr L cl V cv bs ls ws vs left off n) (_hn : n ≤ 1000) (d : Dd) (hf : d.fit w B) (hb0 : d.bn ≠ 0) (hp : (d.what % 8).toNat = 5)  : Does B w g gr n ls.length d := by
  rcases d with ⟨what, i, m, x, bA, bn, bc, kA, kn, kc⟩
  obtain ⟨hf1, hf2, hf3, ⟨cs, hcs, hbc, hbm, hbA⟩, ⟨kb, hkl, hkm, hkb⟩⟩ := hf
  unfold Does
  dsimp only at *
  unfold maxLen at hbm hkm
  obtain ⟨w1, hw1⟩ : ∃ w1, w.alloc (.cells #[.int .i64 what, .int .i64 i, .int .i64 m, .int .u8 (x.toNat : Int), .slice bA bn bc, .slice kA kn kc] 48) = w1 := ⟨_, rfl⟩
  have hb1 : Below w.heap.size w w1 := by rw [← hw1]; exact (Below.refl _ _).alloc (Nat.le_refl _) _
  have hn1 : w1.heap[w.heap.size]? = some (.cells #[.int .i64 what, .int .i64 i, .int .i64 m, .int .u8 (x.toNat : Int), .slice bA bn bc, .slice kA kn kc] 48 (0, 0)) := by rw [← hw1]; exact heap_alloc_new w _
  have hB := t.hB
  have t1 := t.below hb1
  have hks : ¬ Sd w.heap.size ∧ ¬ Sr w.heap.size := ⟨fun h => by have := (t.sd _ h).2.1; omega, fun h => by have := (t.sr _ h).2; omega⟩
  have hcs1 := hcs.below (hb1.mono hB)
  obtain ⟨k, hk⟩ : ∃ k, w.heap.size = k := ⟨_, rfl⟩
  rw [hk] at hn1 hks
  have hlen := t.len
  have hll := t.hl
  have hww := t.hn
  have hl1 := t.l1
  have hl2 := t.l2
  have HB01 := Lib.hid (hb1.mono hB)
  have HKB := Lib.hid hkb
  have HKL := Lib.hid hkl
  have HW1 := Lib.hid hw1
  have HKS := Lib.hid hks
  have HLEN := Lib.hid hlen
  have HK := Lib.hid hk
  have HBB := Lib.hid hB
  have hq : (((bn : Nat) : Int) == 0) = false := by rw [beq_eq_false_iff_ne]; omega
  have HN4 := Lib.hid hn1
  have T4 := Lib.hid t1
  have RB := Lib.hid (hcs1.more (Nat.le_trans hB hb1.size))
  have HAP : Hid (∀ a, bA = some a → ¬ Sd a.block ∧ ¬ Sr a.block) := fun a e => by
    obtain ⟨b, o, e1, hlt, _⟩ := hcs.2 (by omega)
    rw [e] at e1
    injection e1 with e1
    subst e1
    exact ⟨fun h => by have := (t.sd _ h).1; dsimp only at this; omega, fun h => by have := (t.sr _ h).1; dsimp only at this; omega⟩
  have d0 := cell_of_row w1 k 0 _ _ (0, 0) hn1
  have d1 := cell_of_row w1 k 1 _ _ (0, 0) hn1
  have d2 := cell_of_row w1 k 2 _ _ (0, 0) hn1
  have d4 := cell_of_row w1 k 4 _ _ (0, 0) hn1
  have d5 := cell_of_row w1 k 5 _ _ (0, 0) hn1
  simp only [List.getElem?_toArray, List.getElem?_cons_zero, List.getElem?_cons_succ] at d0 d1 d2 d4 d5
  have HB04 := HB01
  have hpk := pick_any what 8 w1 (by omega) (by omega)
  rw [show what % ((8 : Nat) : Int) = what % 8 from rfl, hp] at hpk
  have HPK : Hid (Calls Try.prog 23 #[.int .i64 what, .int .i64 8] w1 fun e w' => e = .returned (.int .i64 5) ∧ w1 = w') := hpk
  clear t t1 hcs hcs1 hn1 hw1 hb1 hks hkb hkl hlen hpk hp hB hbA hb0
  go_enter Try.func19, Try.ntmps19
  go_wp2_with fail
  rw [HW1.out]
  clear HW1 hq hk
  obtain ⟨w4, hw4⟩ : ∃ w4, w1 = w4 := ⟨_, rfl⟩
  subst hw4
  have b4s : k < w1.heap.size := heap_lt HN4.out
  with_reducible refine HPK.out.mono ?_
  rintro e w5 ⟨rfl, rfl⟩
  clear HPK d0
  obtain ⟨m', hm'⟩ : ∃ m', (if m < 0 then -1 else m) = m' := ⟨_, rfl⟩
  have hm1 : -1 ≤ m' := by rw [← hm']; split <;> omega
  have hm2 : m' ≤ 9223372036854775807 := by rw [← hm']; split <;> omega
  have HG := Lib.hid (dcut_any T4.out.d m m' hm')
  have HMM := Lib.hid hm'
  clear d1 d5 hm'
  go_wp2_with fail
  with_reducible refine HG.out.mono ?_
  rintro e w6 ⟨rfl, k6, t6⟩
  have HM := Lib.hid (rcut_any (T4.out.mid t6) m m' HMM.out)
  have d2 := t6.cell d2 HKS.out.1
  have K6 := Lib.hid k6
  have T6 := Lib.hid t6
  clear k6 t6 HG
  go_wp2_with fail
  with_reducible refine HM.out.mono ?_
  rintro e w7 ⟨rfl, k7, t7⟩
  have hst := T4.out.step T6.out K6.out.grown t7 k7.grown T4.out.hj T4.out.hw hm1 hm2 (n' := n + 1) (by omega) rfl
  have HE : Hid (TwoE B w7 g gr (n + 1) ls.length ∧ Below B w w7) := ⟨hst.1, HB04.out.trans hst.2⟩
  clear k7 t7 HM K6 T6 hst d2 hm1 hm2 HMM
  obtain ⟨⟨Sd', Sr', h', c', W', cw', L', cl', V', cv', bs', ls', ws', vs', left', off', T9, hN9⟩, B9⟩ := HE.out
  obtain ⟨w10, hw10⟩ : ∃ w10, w7.drew = w10 := ⟨_, rfl⟩
  have t10 := T9.below (Below.refl _ _).drew
  rw [hw10] at t10
  have T10 := Lib.hid t10
  have B10 : Hid (Below B w w10) := (show Below B w w10 by rw [← hw10]; exact B9.drew)
  have hsv := t10.same
  have hwn := t10.hn
  have HW10 := Lib.hid hw10
  have HN9 := Lib.hid hN9
  clear HE T9 B9 t10 hw10 hN9
  go_wp2_with fail
  refine wp_region_tail w10.heap.size [([0, 2, 3, 4, 5, 6], 1)] [7] [] (by kernel_rfl) (by kernel_rfl) (by kernel_rfl) (fun _ _ _ _ _ h => h) ?_
  rw [HW10.out]
  have t1 : ∀ z : LaterB w10.heap.size w10, z.val.cell? ⟨gr, 1, none⟩ = some (.slice V' ws'.length cv') := fun z => (z.ext.cell (p := ⟨gr, 1, none⟩) T10.out.r.lt).trans (hsv ▸ T10.out.r.c1)
  clear hsv
  refine tail_cons (l := ?segW) ?hsegW ?_
  case hsegW => simp only [pick, List.getElem?_toArray, List.getElem?_cons_succ, List.getElem?_cons_zero]; rfl
  repeat (go_big_quiet_step (fail))
  refine wpQuiet_nil ?_
  clear t1
  refine tail_call (vs := #[.pointer (some ⟨g, 0, none⟩)]) Try.call27 rfl rfl rfl (R := fun r w' => r = .int .i64 (ws'.length : Int) ∧ w' = w10) ((dwaiting_any T10.out.d).mono ?_) w10.heap.size (Nat.le_refl _) ?_
  · rintro e w' ⟨rfl, rfl⟩
    exact ⟨_, rfl, Below.refl _ _, rfl, rfl⟩
  rintro r w11 _ ⟨rfl, rfl⟩
  refine tail_last (l := ?laW) (t := []) ?hlaW ?htlW ?_
  case hlaW => simp only [pick, List.getElem?_toArray, List.getElem?_cons_succ, List.getElem?_cons_zero]; rfl
  case htlW => rfl
  simp only [Act.put, List.setIfInBounds_toArray, List.set_cons_zero, List.set_cons_succ]
  repeat (go_big_quiet_step (fail))
  refine wpQuiet_nil ?_
  go_wp2
  go_ret
  exact ⟨rfl, ⟨Sd', Sr', h', c', W', cw', L', cl', V', cv', bs', ls', ws', vs', left', off', T10.out, HN9.out⟩, B10.out⟩

set_option maxRecDepth 100000 in
set_option maxHeartbeats 2000000 in
theorem do4_boot_own {Sd Sr : Nat → Prop} {B : Nat} {w : World} {g h c : Nat} {W : Option Addr} {cw gr : Nat} {L : Option Addr} {cl : Nat} {V : Option Addr} {cv : Nat} {bs : List UInt8} {ls ws vs : List Wr} {left : Int} {off : Bool} {n : Nat}
    (t : Two Sd Sr B w g h c W cw gr L cl V cv bs ls ws vs left off n) (_hn : n ≤ 1000) (d : Dd) (hf : d.fit w B) (hb0 : d.bn ≠ 0) (hp : (d.what % 8).toNat = 6)  : Does B w g gr n ls.length d := by
  rcases d with ⟨what, i, m, x, bA, bn, bc, kA, kn, kc⟩
  obtain ⟨hf1, hf2, hf3, ⟨cs, hcs, hbc, hbm, hbA⟩, ⟨kb, hkl, hkm, hkb⟩⟩ := hf
  unfold Does
  dsimp only at *
  unfold maxLen at hbm hkm
  obtain ⟨w1, hw1⟩ : ∃ w1, w.alloc (.cells #[.int .i64 what, .int .i64 i, .int .i64 m, .int .u8 (x.toNat : Int), .slice bA bn bc, .slice kA kn kc] 48) = w1 := ⟨_, rfl⟩
  have hb1 : Below w.heap.size w w1 := by rw [← hw1]; exact (Below.refl _ _).alloc (Nat.le_refl _) _
  have hn1 : w1.heap[w.heap.size]? = some (.cells #[.int .i64 what, .int .i64 i, .int .i64 m, .int .u8 (x.toNat : Int), .slice bA bn bc, .slice kA kn kc] 48 (0, 0)) := by rw [← hw1]; exact heap_alloc_new w _
  have hB := t.hB
  have t1 := t.below hb1
  have hks : ¬ Sd w.heap.size ∧ ¬ Sr w.heap.size := ⟨fun h => by have := (t.sd _ h).2.1; omega, fun h => by have := (t.sr _ h).2; omega⟩
  have hcs1 := hcs.below (hb1.mono hB)
  obtain ⟨k, hk⟩ : ∃ k, w.heap.size = k := ⟨_, rfl⟩
  rw [hk] at hn1 hks
  have hlen := t.len
  have hll := t.hl
  have hww := t.hn
  have hl1 := t.l1
  have hl2 := t.l2
  have HB01 := Lib.hid (hb1.mono hB)
  have HKB := Lib.hid hkb
  have HKL := Lib.hid hkl
  have HW1 := Lib.hid hw1
  have HKS := Lib.hid hks
  have HLEN := Lib.hid hlen
  have HK := Lib.hid hk
  have HBB := Lib.hid hB
  have hq : (((bn : Nat) : Int) == 0) = false := by rw [beq_eq_false_iff_ne]; omega
  have HN4 := Lib.hid hn1
  have T4 := Lib.hid t1
  have RB := Lib.hid (hcs1.more (Nat.le_trans hB hb1.size))
  have HAP : Hid (∀ a, bA = some a → ¬ Sd a.block ∧ ¬ Sr a.block) := fun a e => by
    obtain ⟨b, o, e1, hlt, _⟩ := hcs.2 (by omega)
    rw [e] at e1
    injection e1 with e1
    subst e1
    exact ⟨fun h => by have := (t.sd _ h).1; dsimp only at this; omega, fun h => by have := (t.sr _ h).1; dsimp only at this; omega⟩
  have d0 := cell_of_row w1 k 0 _ _ (0, 0) hn1
  have d1 := cell_of_row w1 k 1 _ _ (0, 0) hn1
  have d2 := cell_of_row w1 k 2 _ _ (0, 0) hn1
  have d4 := cell_of_row w1 k 4 _ _ (0, 0) hn1
  have d5 := cell_of_row w1 k 5 _ _ (0, 0) hn1
  simp only [List.getElem?_toArray, List.getElem?_cons_zero, List.getElem?_cons_succ] at d0 d1 d2 d4 d5
  have HB04 := HB01
  have hpk := pick_any what 8 w1 (by omega) (by omega)
  rw [show what % ((8 : Nat) : Int) = what % 8 from rfl, hp] at hpk
  have HPK : Hid (Calls Try.prog 23 #[.int .i64 what, .int .i64 8] w1 fun e w' => e = .returned (.int .i64 6) ∧ w1 = w') := hpk
  clear t t1 hcs hcs1 hn1 hw1 hb1 hks hkb hkl hlen hpk hp hB hbA hb0
  go_enter Try.func19, Try.ntmps19
  go_wp2_with fail
  rw [HW1.out]
  clear HW1 hq hk
  obtain ⟨w4, hw4⟩ : ∃ w4, w1 = w4 := ⟨_, rfl⟩
  subst hw4
  have b4s : k < w1.heap.size := heap_lt HN4.out
  with_reducible refine HPK.out.mono ?_
  rintro e w5 ⟨rfl, rfl⟩
  clear HPK d0
  obtain rfl : kb.length = kn := HKL.out
  have hkp : ∀ S : Nat → Prop, (∀ j, S j → B ≤ j) → Kp S w1 kA kb := fun S hS hn => by
    obtain ⟨b, o, e, hlt, hc⟩ := HKB.out hn
    have hBB := HBB.out
    have hkk := HK.out
    exact ⟨b, o, e, by omega, fun h => by have := hS b h; omega, fun j u hu => (HB04.out.cell (p := ⟨b, o + j, none⟩) hlt).trans (hc j u hu)⟩
  have HG := Lib.hid (dboot_any (ck := kc) T4.out.d (by have := HLEN.out; omega) (hkp Sd fun j hj => (T4.out.sd j hj).1) (by omega))
  have HKP := Lib.hid (hkp Sr fun j hj => (T4.out.sr j hj).1)
  clear d1 d2 hkp
  go_wp2_with fail
  with_reducible refine HG.out.mono ?_
  rintro e w6 ⟨rfl, k6, t6⟩
  have hkr : Kp Sr w6 kA kb := fun hn => by
    obtain ⟨b, o, e, hlt, hs, hc⟩ := HKP.out hn
    obtain ⟨b2, o2, e2, hlt2, _⟩ := HKB.out hn
    rw [e] at e2
    injection e2 with e2
    injection e2 with e2 _
    subst e2
    have hnd : ¬ Sd b := fun h => by have := (T4.out.sd b h).1; omega
    exact ⟨b, o, e, Nat.lt_of_lt_of_le hlt t6.size, hs, fun j u hu => t6.cell (hc j u hu) hnd⟩
  have HM := Lib.hid (rboot_any (ck := kc) (T4.out.mid t6) hkr (by omega))
  have d5 := t6.cell d5 HKS.out.1
  have K6 := Lib.hid k6
  have T6 := Lib.hid t6
  clear k6 t6 HG hkr
  go_wp2_with fail
  with_reducible refine HM.out.mono ?_
  rintro e w7 ⟨rfl, k7, t7⟩
  have hst := T4.out.step T6.out K6.out.grown t7 k7.grown (rstand_boot T4.out kb) rfl (by omega) (by omega) (n' := n + 1) (by simp) (rstand_length _ _)
  have HE : Hid (TwoE B w7 g gr (n + 1) ls.length ∧ Below B w w7) := ⟨hst.1, HB04.out.trans hst.2⟩
  clear k7 t7 HM K6 T6 hst d5 HKP
  obtain ⟨⟨Sd', Sr', h', c', W', cw', L', cl', V', cv', bs', ls', ws', vs', left', off', T9, hN9⟩, B9⟩ := HE.out
  obtain ⟨w10, hw10⟩ : ∃ w10, w7.drew = w10 := ⟨_, rfl⟩
  have t10 := T9.below (Below.refl _ _).drew
  rw [hw10] at t10
  have T10 := Lib.hid t10
  have B10 : Hid (Below B w w10) := (show Below B w w10 by rw [← hw10]; exact B9.drew)
  have hsv := t10.same
  have hwn := t10.hn
  have HW10 := Lib.hid hw10
  have HN9 := Lib.hid hN9
  clear HE T9 B9 t10 hw10 hN9
  go_wp2_with fail
  refine wp_region_tail w10.heap.size [([0, 2, 3, 4, 5, 6], 1)] [7] [] (by kernel_rfl) (by kernel_rfl) (by kernel_rfl) (fun _ _ _ _ _ h => h) ?_
  rw [HW10.out]
  have t1 : ∀ z : LaterB w10.heap.size w10, z.val.cell? ⟨gr, 1, none⟩ = some (.slice V' ws'.length cv') := fun z => (z.ext.cell (p := ⟨gr, 1, none⟩) T10.out.r.lt).trans (hsv ▸ T10.out.r.c1)
  clear hsv
  refine tail_cons (l := ?segW) ?hsegW ?_
  case hsegW => simp only [pick, List.getElem?_toArray, List.getElem?_cons_succ, List.getElem?_cons_zero]; rfl
  repeat (go_big_quiet_step (fail))
  refine wpQuiet_nil ?_
  clear t1
  refine tail_call (vs := #[.pointer (some ⟨g, 0, none⟩)]) Try.call27 rfl rfl rfl (R := fun r w' => r = .int .i64 (ws'.length : Int) ∧ w' = w10) ((dwaiting_any T10.out.d).mono ?_) w10.heap.size (Nat.le_refl _) ?_
  · rintro e w' ⟨rfl, rfl⟩
    exact ⟨_, rfl, Below.refl _ _, rfl, rfl⟩
  rintro r w11 _ ⟨rfl, rfl⟩
  refine tail_last (l := ?laW) (t := []) ?hlaW ?htlW ?_
  case hlaW => simp only [pick, List.getElem?_toArray, List.getElem?_cons_succ, List.getElem?_cons_zero]; rfl
  case htlW => rfl
  simp only [Act.put, List.setIfInBounds_toArray, List.set_cons_zero, List.set_cons_succ]
  repeat (go_big_quiet_step (fail))
  refine wpQuiet_nil ?_
  go_wp2
  go_ret
  exact ⟨rfl, ⟨Sd', Sr', h', c', W', cw', L', cl', V', cv', bs', ls', ws', vs', left', off', T10.out, HN9.out⟩, B10.out⟩

set_option maxRecDepth 100000 in
set_option maxHeartbeats 2000000 in
theorem do4_bytes_own {Sd Sr : Nat → Prop} {B : Nat} {w : World} {g h c : Nat} {W : Option Addr} {cw gr : Nat} {L : Option Addr} {cl : Nat} {V : Option Addr} {cv : Nat} {bs : List UInt8} {ls ws vs : List Wr} {left : Int} {off : Bool} {n : Nat}
    (t : Two Sd Sr B w g h c W cw gr L cl V cv bs ls ws vs left off n) (_hn : n ≤ 1000) (d : Dd) (hf : d.fit w B) (hb0 : d.bn ≠ 0) (hp : (d.what % 8).toNat = 7)  : Does B w g gr n ls.length d := by
  rcases d with ⟨what, i, m, x, bA, bn, bc, kA, kn, kc⟩
  obtain ⟨hf1, hf2, hf3, ⟨cs, hcs, hbc, hbm, hbA⟩, ⟨kb, hkl, hkm, hkb⟩⟩ := hf
  unfold Does
  dsimp only at *
  unfold maxLen at hbm hkm
  obtain ⟨w1, hw1⟩ : ∃ w1, w.alloc (.cells #[.int .i64 what, .int .i64 i, .int .i64 m, .int .u8 (x.toNat : Int), .slice bA bn bc, .slice kA kn kc] 48) = w1 := ⟨_, rfl⟩
  have hb1 : Below w.heap.size w w1 := by rw [← hw1]; exact (Below.refl _ _).alloc (Nat.le_refl _) _
  have hn1 : w1.heap[w.heap.size]? = some (.cells #[.int .i64 what, .int .i64 i, .int .i64 m, .int .u8 (x.toNat : Int), .slice bA bn bc, .slice kA kn kc] 48 (0, 0)) := by rw [← hw1]; exact heap_alloc_new w _
  have hB := t.hB
  have t1 := t.below hb1
  have hks : ¬ Sd w.heap.size ∧ ¬ Sr w.heap.size := ⟨fun h => by have := (t.sd _ h).2.1; omega, fun h => by have := (t.sr _ h).2; omega⟩
  have hcs1 := hcs.below (hb1.mono hB)
  obtain ⟨k, hk⟩ : ∃ k, w.heap.size = k := ⟨_, rfl⟩
  rw [hk] at hn1 hks
  have hlen := t.len
  have hll := t.hl
  have hww := t.hn
  have hl1 := t.l1
  have hl2 := t.l2
  have HB01 := Lib.hid (hb1.mono hB)
  have HKB := Lib.hid hkb
  have HKL := Lib.hid hkl
  have HW1 := Lib.hid hw1
  have HKS := Lib.hid hks
  have HLEN := Lib.hid hlen
  have HK := Lib.hid hk
  have HBB := Lib.hid hB
  have hq : (((bn : Nat) : Int) == 0) = false := by rw [beq_eq_false_iff_ne]; omega
  have HN4 := Lib.hid hn1
  have T4 := Lib.hid t1
  have RB := Lib.hid (hcs1.more (Nat.le_trans hB hb1.size))
  have HAP : Hid (∀ a, bA = some a → ¬ Sd a.block ∧ ¬ Sr a.block) := fun a e => by
    obtain ⟨b, o, e1, hlt, _⟩ := hcs.2 (by omega)
    rw [e] at e1
    injection e1 with e1
    subst e1
    exact ⟨fun h => by have := (t.sd _ h).1; dsimp only at this; omega, fun h => by have := (t.sr _ h).1; dsimp only at this; omega⟩
  have d0 := cell_of_row w1 k 0 _ _ (0, 0) hn1
  have d1 := cell_of_row w1 k 1 _ _ (0, 0) hn1
  have d2 := cell_of_row w1 k 2 _ _ (0, 0) hn1
  have d4 := cell_of_row w1 k 4 _ _ (0, 0) hn1
  have d5 := cell_of_row w1 k 5 _ _ (0, 0) hn1
  simp only [List.getElem?_toArray, List.getElem?_cons_zero, List.getElem?_cons_succ] at d0 d1 d2 d4 d5
  have HB04 := HB01
  have hpk := pick_any what 8 w1 (by omega) (by omega)
  rw [show what % ((8 : Nat) : Int) = what % 8 from rfl, hp] at hpk
  have HPK : Hid (Calls Try.prog 23 #[.int .i64 what, .int .i64 8] w1 fun e w' => e = .returned (.int .i64 7) ∧ w1 = w') := hpk
  clear t t1 hcs hcs1 hn1 hw1 hb1 hks hkb hkl hlen hpk hp hB hbA hb0
  go_enter Try.func19, Try.ntmps19
  go_wp2_with fail
  rw [HW1.out]
  clear HW1 hq hk
  obtain ⟨w4, hw4⟩ : ∃ w4, w1 = w4 := ⟨_, rfl⟩
  subst hw4
  have b4s : k < w1.heap.size := heap_lt HN4.out
  with_reducible refine HPK.out.mono ?_
  rintro e w5 ⟨rfl, rfl⟩
  clear HPK d0
  obtain ⟨w6, hw6⟩ : ∃ w6, w1.drew = w6 := ⟨_, rfl⟩
  have t6 : Two Sd Sr B w6 g h c W cw gr L cl V cv bs ls ws vs left off n := by rw [← hw6]; exact T4.out.below (Below.refl _ _).drew
  have B6 : Hid (Below B w w6) := (show Below B w w6 by rw [← hw6]; exact HB04.out.drew)
  have hm := fun W7 (hb : Below w6.heap.size w6 W7) => rbytes_any (t6.r.below hb) (by omega)
  rw [t6.hj] at hm
  have HG := Lib.hid (dbytes_any t6.d (by have := HLEN.out; omega))
  have HM := Lib.hid hm
  have T6 := Lib.hid t6
  have HW6 := Lib.hid hw6
  clear d1 d2 d5 hw6 t6 hm
  go_wp2_with fail
  refine wp_region_tail w6.heap.size [([0, 3], 1), ([2], 4)] [5, 6] [] (by kernel_rfl) (by kernel_rfl) (by kernel_rfl) (fun _ _ _ _ _ h => h) ?_
  rw [HW6.out]
  clear HW6
  refine tail_cons (l := ?seg1) ?hseg1 ?_
  case hseg1 => simp only [pick, List.getElem?_toArray, List.getElem?_cons_succ, List.getElem?_cons_zero]; rfl
  repeat (go_big_quiet_step (fail))
  refine wpQuiet_nil ?_
  refine tail_call2 (vs := #[.pointer (some ⟨g, 0, none⟩)]) Try.call20 rfl rfl rfl (R := fun r w' => ∃ A c, r = .slice A bs.length c ∧ Rd w' w'.heap.size A bs.length bs ∧ Below w6.heap.size w6 w') (HG.out.mono ?_) ?_
  · rintro e w' ⟨A', c', rfl, ho, hb⟩
    exact ⟨_, rfl, hb, A', c', rfl, (Rd.own' ho).1, hb⟩
  rintro r w7 _ ⟨A7, c7, rfl, r7, b7⟩
  refine ⟨w7.heap.size, b7.size, ?_⟩
  have qa := conv_B r7
  refine tail_cons (l := ?seg2) ?hseg2 ?_
  case hseg2 => simp only [pick, List.getElem?_toArray, List.getElem?_cons_succ, List.getElem?_cons_zero]; rfl
  simp only [Act.put, List.setIfInBounds_toArray, List.set_cons_zero, List.set_cons_succ]
  repeat (go_big_quiet_step (fail))
  refine wpQuiet_nil ?_
  clear qa
  refine tail_call2 (vs := #[.pointer (some ⟨gr, 0, none⟩)]) Try.call21 rfl rfl rfl (R := fun r w' => ∃ A c, r = .slice A bs.length c ∧ Rd w' w'.heap.size A bs.length bs ∧ Below w7.heap.size w7 w') ((HM.out w7 b7).mono ?_) ?_
  · rintro e w' ⟨A', c', rfl, ho, hb⟩
    exact ⟨_, rfl, hb, A', c', rfl, (Rd.own' ho).1, hb⟩
  rintro r w8 _ ⟨A8, c8, rfl, r8, b8⟩
  refine ⟨w8.heap.size, b8.size, ?_⟩
  have qb := conv_B r8
  refine tail_last (l := ?la3) (t := []) ?hla3 ?htl3 ?_
  case hla3 => simp only [pick, List.getElem?_toArray, List.getElem?_cons_succ, List.getElem?_cons_zero]; rfl
  case htl3 => rfl
  simp only [Act.put, List.setIfInBounds_toArray, List.set_cons_zero, List.set_cons_succ]
  repeat (go_big_quiet_step (fail))
  refine wpQuiet_nil ?_
  have hb68 := b7.trans (b8.mono b7.size)
  have HE : Hid (TwoE B w8 g gr (n + 1) ls.length ∧ Below B w w8) := ⟨(T6.out.stay hb68 (n' := n + 1) (by omega)).1, B6.out.trans (hb68.mono T6.out.hB)⟩
  clear qb r7 b7 r8 b8 HG HM hb68 T6 B6
  obtain ⟨⟨Sd', Sr', h', c', W', cw', L', cl', V', cv', bs', ls', ws', vs', left', off', T9, hN9⟩, B9⟩ := HE.out
  obtain ⟨w10, hw10⟩ : ∃ w10, w8.drew = w10 := ⟨_, rfl⟩
  have t10 := T9.below (Below.refl _ _).drew
  rw [hw10] at t10
  have T10 := Lib.hid t10
  have B10 : Hid (Below B w w10) := (show Below B w w10 by rw [← hw10]; exact B9.drew)
  have hsv := t10.same
  have hwn := t10.hn
  have HW10 := Lib.hid hw10
  have HN9 := Lib.hid hN9
  clear HE T9 B9 t10 hw10 hN9
  go_wp2_with fail
  refine wp_region_tail w10.heap.size [([0, 2, 3, 4, 5, 6], 1)] [7] [] (by kernel_rfl) (by kernel_rfl) (by kernel_rfl) (fun _ _ _ _ _ h => h) ?_
  rw [HW10.out]
  have t1 : ∀ z : LaterB w10.heap.size w10, z.val.cell? ⟨gr, 1, none⟩ = some (.slice V' ws'.length cv') := fun z => (z.ext.cell (p := ⟨gr, 1, none⟩) T10.out.r.lt).trans (hsv ▸ T10.out.r.c1)
  clear hsv
  refine tail_cons (l := ?segW) ?hsegW ?_
  case hsegW => simp only [pick, List.getElem?_toArray, List.getElem?_cons_succ, List.getElem?_cons_zero]; rfl
  repeat (go_big_quiet_step (fail))
  refine wpQuiet_nil ?_
  clear t1
  refine tail_call (vs := #[.pointer (some ⟨g, 0, none⟩)]) Try.call27 rfl rfl rfl (R := fun r w' => r = .int .i64 (ws'.length : Int) ∧ w' = w10) ((dwaiting_any T10.out.d).mono ?_) w10.heap.size (Nat.le_refl _) ?_
  · rintro e w' ⟨rfl, rfl⟩
    exact ⟨_, rfl, Below.refl _ _, rfl, rfl⟩
  rintro r w11 _ ⟨rfl, rfl⟩
  refine tail_last (l := ?laW) (t := []) ?hlaW ?htlW ?_
  case hlaW => simp only [pick, List.getElem?_toArray, List.getElem?_cons_succ, List.getElem?_cons_zero]; rfl
  case htlW => rfl
  simp only [Act.put, List.setIfInBounds_toArray, List.set_cons_zero, List.set_cons_succ]
  repeat (go_big_quiet_step (fail))
  refine wpQuiet_nil ?_
  go_wp2
  go_ret
  exact ⟨rfl, ⟨Sd', Sr', h', c', W', cw', L', cl', V', cv', bs', ls', ws', vs', left', off', T10.out, HN9.out⟩, B10.out⟩

end Go.Proofs.Ytbalmacabojbpaa
