/- What a deed comes to, of a disk and of the document's own: the same. The way that writes, a sector of one byte. -/
import Derived.Test.YtbalmacabojbpaaDo4H
namespace Go.Proofs.Ytbalmacabojbpaa
open Go.RowKit

set_option maxRecDepth 100000 in
set_option maxHeartbeats 2000000 in
theorem do4_write_arg_sec {Sd Sr : Nat → Prop} {B : Nat} {w : World} {g h c : Nat} {W : Option Addr} {cw gr : Nat} {L : Option Addr} {cl : Nat} {V : Option Addr} {cv : Nat} {bs : List UInt8} {ls ws vs : List Wr} {left : Int} {off : Bool} {n : Nat} {p : Nat}
    (t : Two Sd Sr B w g h c W cw gr L cl V cv bs ls ws vs left off n) (_hn : n ≤ 1000) (d : Dd) (hf : d.fit w B) (hb0 : d.bn = 0) (hp : (d.what % 8).toNat = p) (hp3 : p < 3) (hi : d.i < 0 ∨ (ls.length : Int) ≤ d.i) : Does B w g gr n ls.length d := by
  rcases d with ⟨what, i, m, x, bA, bn, bc, kA, kn, kc⟩
  obtain ⟨hf1, hf2, hf3, ⟨cs, hcs, hbc, hbm, hbA⟩, ⟨kb, hkl, hkm, hkb⟩⟩ := hf
  unfold Does
  dsimp only at *
  unfold maxLen at hbm hkm
  obtain ⟨w1, hw1⟩ : ∃ w1, w.alloc (.cells #[.int .i64 what, .int .i64 i, .int .i64 m, .int .u8 (x.toNat : Int), .slice bA bn bc, .slice kA kn kc] 48) = w1 := ⟨_, rfl⟩
  have hb1 : Below w.heap.size w w1 := by rw [← hw1]; exact (Below.refl _ _).alloc (Nat.le_refl _) _
  have hn1 : w1.heap[w.heap.size]? = some (.cells #[.int .i64 what, .int .i64 i, .int .i64 m, .int .u8 (x.toNat : Int), .slice bA bn bc, .slice kA kn kc] 48 (0, 0)) := by rw [← hw1]; exact heap_alloc_new w _
  have hB := t.hB
  have t1 := t.below hb1
  have hks : ¬ Sd w.heap.size ∧ ¬ Sr w.heap.size := ⟨fun h => by have := (t.sd _ h).2.1; omega, fun h => by have := (t.sr _ h).2; omega⟩
  have hcs1 := hcs.below (hb1.mono hB)
  obtain ⟨k, hk⟩ : ∃ k, w.heap.size = k := ⟨_, rfl⟩
  rw [hk] at hn1 hks
  have hlen := t.len
  have hll := t.hl
  have hww := t.hn
  have hl1 := t.l1
  have hl2 := t.l2
  have HB01 := Lib.hid (hb1.mono hB)
  have HKB := Lib.hid hkb
  have HKL := Lib.hid hkl
  have HW1 := Lib.hid hw1
  have HKS := Lib.hid hks
  have HLEN := Lib.hid hlen
  have HK := Lib.hid hk
  have HBB := Lib.hid hB
  have hq : ((bn : Int) == 0) = true := by rw [beq_iff_eq]; omega
  have hn1' := hn1
  have d3 := cell_of_row w1 k 3 _ _ (0, 0) hn1
  have d4 := cell_of_row w1 k 4 _ _ (0, 0) hn1
  simp only [List.getElem?_toArray, List.getElem?_cons_zero, List.getElem?_cons_succ] at d3 d4
  have HN1 := Lib.hid hn1
  have T1 := Lib.hid t1
  have HP := Lib.hid hp
  clear t t1 hcs hcs1 hn1 hn1' hw1 hb1 hks hkb hkl hlen hp hB hbA hb0
  go_enter Try.func19, Try.ntmps19
  go_wp2_with fail
  rw [HW1.out]
  clear HW1 hk
  refine (sector_fl x w1).mono ?_
  rintro e w4 ⟨rfl, r4, b4⟩
  have hkl1 := heap_lt HN1.out
  have hn4 := (b4.block k hkl1).trans HN1.out
  have T4 := Lib.hid (T1.out.below b4)
  have HN4 := Lib.hid hn4
  have RB := Lib.hid r4
  have HAP : Hid (∀ a, (some ⟨w1.heap.size, 0, none⟩ : Option Addr) = some a → ¬ Sd a.block ∧ ¬ Sr a.block) := fun a e => by
    injection e with e1
    subst e1
    exact ⟨fun h => by have := (T1.out.sd _ h).2.1; dsimp only at this; omega, fun h => by have := (T1.out.sr _ h).2; dsimp only at this; omega⟩
  have d0 := cell_of_row w4 k 0 _ _ (0, 0) hn4
  have d1 := cell_of_row w4 k 1 _ _ (0, 0) hn4
  have d2 := cell_of_row w4 k 2 _ _ (0, 0) hn4
  have d5 := cell_of_row w4 k 5 _ _ (0, 0) hn4
  simp only [List.getElem?_toArray, List.getElem?_cons_zero, List.getElem?_cons_succ] at d0 d1 d2 d5
  have b4s : k < w4.heap.size := heap_lt hn4
  have hBw1 : B ≤ w1.heap.size := T1.out.hB
  have HB04 := Lib.hid (HB01.out.trans (b4.mono hBw1))
  have hpk := pick_any what 8 w4 (by omega) (by omega)
  rw [show what % ((8 : Nat) : Int) = what % 8 from rfl, HP.out] at hpk
  have HPK : Hid (Calls Try.prog 23 #[.int .i64 what, .int .i64 8] w4 fun e w' => e = .returned (.int .i64 (p : Int)) ∧ w4 = w') := hpk
  clear hq d3 d4 hn4 r4 b4 HN1 T1 HP hpk hkl1 hBw1
  go_wp2_with fail
  with_reducible refine HPK.out.mono ?_
  rintro e w5 ⟨rfl, rfl⟩
  clear HPK d0
  obtain ⟨w6, hw6⟩ : ∃ w6, w4.drew = w6 := ⟨_, rfl⟩
  have t6 : Two Sd Sr B w6 g h c W cw gr L cl V cv bs ls ws vs left off n := by rw [← hw6]; exact T4.out.below (Below.refl _ _).drew
  have b6 : Below B w w6 := by rw [← hw6]; exact HB04.out.drew
  have rb6 : Rd w6 w6.heap.size (some ⟨w1.heap.size, 0, none⟩) 512 (full x) := by rw [← hw6]; exact RB.out
  have d1 : w6.cell? ⟨k, 1, none⟩ = some (.int .i64 i) := by rw [← hw6]; exact d1
  have q3 : ((p : Int) == 3) = false := by rw [beq_eq_false_iff_ne]; omega
  have q4 : ((p : Int) == 4) = false := by rw [beq_eq_false_iff_ne]; omega
  have q5 : ((p : Int) == 5) = false := by rw [beq_eq_false_iff_ne]; omega
  have q6 : ((p : Int) == 6) = false := by rw [beq_eq_false_iff_ne]; omega
  have q7 : ((p : Int) == 7) = false := by rw [beq_eq_false_iff_ne]; omega
  have HW6 := Lib.hid hw6
  have T6 := Lib.hid t6
  have B6 := Lib.hid b6
  have R6 := Lib.hid rb6
  have HG := Lib.hid (dwrite_arg T6.out.d (by have := HLEN.out; omega) i (some ⟨w1.heap.size, 0, none⟩) 512 512 (by have := HLEN.out; omega))
  have HM := Lib.hid (rwrite_arg T6.out.r i (some ⟨w1.heap.size, 0, none⟩) 512 512 (by omega))
  have HE : Hid (TwoE B w6 g gr (n + 1) ls.length ∧ Below B w w6) := ⟨(T6.out.stay (Below.refl _ _) (n' := n + 1) (by omega)).1, B6.out⟩
  clear hi
  clear hw6 t6 b6 rb6 d2 d5
  go_wp2_with fail
  refine wp_region_set (fun j => Sd j ∨ Sr j) [([0, 1, 2, 3, 6, 7, 8, 9], 4), ([], 5), ([], 10)] [11] [] (by kernel_rfl) (by kernel_rfl) (by kernel_rfl) (fun _ _ _ _ _ h => h) ?_
  rw [HW6.out]
  clear HW6 q3 q4 q5 q6 q7
  have z1 : ∀ z : LaterS (fun j => Sd j ∨ Sr j) w6, z.val.cell? ⟨k, 1, none⟩ = some (.int .i64 i) := fun z => z.ext.cell d1 (fun h => h.elim HKS.out.1 HKS.out.2)
  clear d1
  refine set_cons (l := ?seg1) ?hseg1 ?_
  case hseg1 => simp only [pick, List.getElem?_toArray, List.getElem?_cons_succ, List.getElem?_cons_zero]; rfl
  repeat (go_big_quiet_step (fail))
  refine wpQuiet_nil ?_
  clear z1
  refine set_call (vs := #[.pointer (some ⟨g, 0, none⟩), .int .i64 i, .slice (some ⟨w1.heap.size, 0, none⟩) 512 512]) Try.call22 rfl rfl rfl (R := fun r w' => r = .iface 95 (.int .i64 1) ∧ w' = w6) (HG.out.mono ?_) ?_
  · rintro e w' ⟨rfl, rfl⟩
    exact ⟨_, rfl, Tch.refl _ _, rfl, rfl⟩
  rintro r w7 _ ⟨rfl, rfl⟩
  refine ⟨fun j => Sd j ∨ Sr j, fun _ _ h => h, ?_⟩
  refine set_cons (l := ?seg2) ?hseg2 ?_
  case hseg2 => rfl
  simp only [Act.put, List.setIfInBounds_toArray, List.set_cons_zero, List.set_cons_succ]
  refine wpQuiet_nil ?_
  refine set_call (vs := #[.iface 95 (.int .i64 1)]) Try.call31 rfl rfl rfl (R := fun r w' => r = .int .i64 1 ∧ w' = w7) ((code_err _ 1 (by omega) (by omega)).mono ?_) ?_
  · rintro e w' ⟨rfl, rfl⟩
    exact ⟨_, rfl, Tch.refl _ _, rfl, rfl⟩
  rintro r w8 _ ⟨rfl, rfl⟩
  refine ⟨fun j => Sd j ∨ Sr j, fun _ _ h => h, ?_⟩
  refine set_cons (l := ?seg3) ?hseg3 ?_
  case hseg3 => rfl
  simp only [Act.put, List.setIfInBounds_toArray, List.set_cons_zero, List.set_cons_succ]
  refine wpQuiet_nil ?_
  refine set_call (vs := #[.pointer (some ⟨gr, 0, none⟩), .int .i64 i, .slice (some ⟨w1.heap.size, 0, none⟩) 512 512]) Try.call55 rfl rfl rfl (R := fun r w' => r = .int .i64 1 ∧ w' = w8) (HM.out.mono ?_) ?_
  · rintro e w' ⟨rfl, rfl⟩
    exact ⟨_, rfl, Tch.refl _ _, rfl, rfl⟩
  rintro r w9 _ ⟨rfl, rfl⟩
  refine ⟨fun j => Sd j ∨ Sr j, fun _ _ h => h, ?_⟩
  refine set_last (l := ?la4) (t := []) ?hla4 ?htl4 ?_
  case hla4 => simp only [pick, List.getElem?_toArray, List.getElem?_cons_succ, List.getElem?_cons_zero]; rfl
  case htl4 => rfl
  simp only [Act.put, List.setIfInBounds_toArray, List.set_cons_zero, List.set_cons_succ]
  repeat (go_big_quiet_step (fail))
  refine wpQuiet_nil ?_
  clear HG HM T6 B6
  obtain ⟨⟨Sd', Sr', h', c', W', cw', L', cl', V', cv', bs', ls', ws', vs', left', off', T9, hN9⟩, B9⟩ := HE.out
  obtain ⟨w10, hw10⟩ : ∃ w10, w9.drew = w10 := ⟨_, rfl⟩
  have t10 := T9.below (Below.refl _ _).drew
  rw [hw10] at t10
  have T10 := Lib.hid t10
  have B10 : Hid (Below B w w10) := (show Below B w w10 by rw [← hw10]; exact B9.drew)
  have hsv := t10.same
  have hwn := t10.hn
  have HW10 := Lib.hid hw10
  have HN9 := Lib.hid hN9
  clear HE T9 B9 t10 hw10 hN9
  go_wp2_with fail
  refine wp_region_tail w10.heap.size [([0, 2, 3, 4, 5, 6], 1)] [7] [] (by kernel_rfl) (by kernel_rfl) (by kernel_rfl) (fun _ _ _ _ _ h => h) ?_
  rw [HW10.out]
  have t1 : ∀ z : LaterB w10.heap.size w10, z.val.cell? ⟨gr, 1, none⟩ = some (.slice V' ws'.length cv') := fun z => (z.ext.cell (p := ⟨gr, 1, none⟩) T10.out.r.lt).trans (hsv ▸ T10.out.r.c1)
  clear hsv
  refine tail_cons (l := ?segW) ?hsegW ?_
  case hsegW => simp only [pick, List.getElem?_toArray, List.getElem?_cons_succ, List.getElem?_cons_zero]; rfl
  repeat (go_big_quiet_step (fail))
  refine wpQuiet_nil ?_
  clear t1
  refine tail_call (vs := #[.pointer (some ⟨g, 0, none⟩)]) Try.call27 rfl rfl rfl (R := fun r w' => r = .int .i64 (ws'.length : Int) ∧ w' = w10) ((dwaiting_any T10.out.d).mono ?_) w10.heap.size (Nat.le_refl _) ?_
  · rintro e w' ⟨rfl, rfl⟩
    exact ⟨_, rfl, Below.refl _ _, rfl, rfl⟩
  rintro r w11 _ ⟨rfl, rfl⟩
  refine tail_last (l := ?laW) (t := []) ?hlaW ?htlW ?_
  case hlaW => simp only [pick, List.getElem?_toArray, List.getElem?_cons_succ, List.getElem?_cons_zero]; rfl
  case htlW => rfl
  simp only [Act.put, List.setIfInBounds_toArray, List.set_cons_zero, List.set_cons_succ]
  repeat (go_big_quiet_step (fail))
  refine wpQuiet_nil ?_
  go_wp2
  go_ret
  exact ⟨rfl, ⟨Sd', Sr', h', c', W', cw', L', cl', V', cv', bs', ls', ws', vs', left', off', T10.out, HN9.out⟩, B10.out⟩

set_option maxRecDepth 100000 in
set_option maxHeartbeats 2000000 in
theorem do4_write_off_sec {Sd Sr : Nat → Prop} {B : Nat} {w : World} {g h c : Nat} {W : Option Addr} {cw gr : Nat} {L : Option Addr} {cl : Nat} {V : Option Addr} {cv : Nat} {bs : List UInt8} {ls ws vs : List Wr} {left : Int} {n : Nat} {p : Nat}
    (t : Two Sd Sr B w g h c W cw gr L cl V cv bs ls ws vs left true n) (_hn : n ≤ 1000) (d : Dd) (hf : d.fit w B) (hb0 : d.bn = 0) (hp : (d.what % 8).toNat = p) (hp3 : p < 3) (hl0 : left ≠ 0) (N : Nat) (hi : d.i = (N : Int)) (hi2 : N < ls.length)  : Does B w g gr n ls.length d := by
  rcases d with ⟨what, i, m, x, bA, bn, bc, kA, kn, kc⟩
  obtain ⟨hf1, hf2, hf3, ⟨cs, hcs, hbc, hbm, hbA⟩, ⟨kb, hkl, hkm, hkb⟩⟩ := hf
  unfold Does
  dsimp only at *
  subst hi
  unfold maxLen at hbm hkm
  obtain ⟨w1, hw1⟩ : ∃ w1, w.alloc (.cells #[.int .i64 what, .int .i64 (N : Int), .int .i64 m, .int .u8 (x.toNat : Int), .slice bA bn bc, .slice kA kn kc] 48) = w1 := ⟨_, rfl⟩
  have hb1 : Below w.heap.size w w1 := by rw [← hw1]; exact (Below.refl _ _).alloc (Nat.le_refl _) _
  have hn1 : w1.heap[w.heap.size]? = some (.cells #[.int .i64 what, .int .i64 (N : Int), .int .i64 m, .int .u8 (x.toNat : Int), .slice bA bn bc, .slice kA kn kc] 48 (0, 0)) := by rw [← hw1]; exact heap_alloc_new w _
  have hB := t.hB
  have t1 := t.below hb1
  have hks : ¬ Sd w.heap.size ∧ ¬ Sr w.heap.size := ⟨fun h => by have := (t.sd _ h).2.1; omega, fun h => by have := (t.sr _ h).2; omega⟩
  have hcs1 := hcs.below (hb1.mono hB)
  obtain ⟨k, hk⟩ : ∃ k, w.heap.size = k := ⟨_, rfl⟩
  rw [hk] at hn1 hks
  have hlen := t.len
  have hll := t.hl
  have hww := t.hn
  have hl1 := t.l1
  have hl2 := t.l2
  have HB01 := Lib.hid (hb1.mono hB)
  have HKB := Lib.hid hkb
  have HKL := Lib.hid hkl
  have HW1 := Lib.hid hw1
  have HKS := Lib.hid hks
  have HLEN := Lib.hid hlen
  have HK := Lib.hid hk
  have HBB := Lib.hid hB
  have hq : ((bn : Int) == 0) = true := by rw [beq_iff_eq]; omega
  have hn1' := hn1
  have d3 := cell_of_row w1 k 3 _ _ (0, 0) hn1
  have d4 := cell_of_row w1 k 4 _ _ (0, 0) hn1
  simp only [List.getElem?_toArray, List.getElem?_cons_zero, List.getElem?_cons_succ] at d3 d4
  have HN1 := Lib.hid hn1
  have T1 := Lib.hid t1
  have HP := Lib.hid hp
  clear t t1 hcs hcs1 hn1 hn1' hw1 hb1 hks hkb hkl hlen hp hB hbA hb0
  go_enter Try.func19, Try.ntmps19
  go_wp2_with fail
  rw [HW1.out]
  clear HW1 hk
  refine (sector_fl x w1).mono ?_
  rintro e w4 ⟨rfl, r4, b4⟩
  have hkl1 := heap_lt HN1.out
  have hn4 := (b4.block k hkl1).trans HN1.out
  have T4 := Lib.hid (T1.out.below b4)
  have HN4 := Lib.hid hn4
  have RB := Lib.hid r4
  have HAP : Hid (∀ a, (some ⟨w1.heap.size, 0, none⟩ : Option Addr) = some a → ¬ Sd a.block ∧ ¬ Sr a.block) := fun a e => by
    injection e with e1
    subst e1
    exact ⟨fun h => by have := (T1.out.sd _ h).2.1; dsimp only at this; omega, fun h => by have := (T1.out.sr _ h).2; dsimp only at this; omega⟩
  have d0 := cell_of_row w4 k 0 _ _ (0, 0) hn4
  have d1 := cell_of_row w4 k 1 _ _ (0, 0) hn4
  have d2 := cell_of_row w4 k 2 _ _ (0, 0) hn4
  have d5 := cell_of_row w4 k 5 _ _ (0, 0) hn4
  simp only [List.getElem?_toArray, List.getElem?_cons_zero, List.getElem?_cons_succ] at d0 d1 d2 d5
  have b4s : k < w4.heap.size := heap_lt hn4
  have hBw1 : B ≤ w1.heap.size := T1.out.hB
  have HB04 := Lib.hid (HB01.out.trans (b4.mono hBw1))
  have hpk := pick_any what 8 w4 (by omega) (by omega)
  rw [show what % ((8 : Nat) : Int) = what % 8 from rfl, HP.out] at hpk
  have HPK : Hid (Calls Try.prog 23 #[.int .i64 what, .int .i64 8] w4 fun e w' => e = .returned (.int .i64 (p : Int)) ∧ w4 = w') := hpk
  clear hq d3 d4 hn4 r4 b4 HN1 T1 HP hpk hkl1 hBw1
  go_wp2_with fail
  with_reducible refine HPK.out.mono ?_
  rintro e w5 ⟨rfl, rfl⟩
  clear HPK d0
  obtain ⟨w6, hw6⟩ : ∃ w6, w4.drew = w6 := ⟨_, rfl⟩
  have t6 : Two Sd Sr B w6 g h c W cw gr L cl V cv bs ls ws vs left true n := by rw [← hw6]; exact T4.out.below (Below.refl _ _).drew
  have b6 : Below B w w6 := by rw [← hw6]; exact HB04.out.drew
  have rb6 : Rd w6 w6.heap.size (some ⟨w1.heap.size, 0, none⟩) 512 (full x) := by rw [← hw6]; exact RB.out
  have d1 : w6.cell? ⟨k, 1, none⟩ = some (.int .i64 (N : Int)) := by rw [← hw6]; exact d1
  have q3 : ((p : Int) == 3) = false := by rw [beq_eq_false_iff_ne]; omega
  have q4 : ((p : Int) == 4) = false := by rw [beq_eq_false_iff_ne]; omega
  have q5 : ((p : Int) == 5) = false := by rw [beq_eq_false_iff_ne]; omega
  have q6 : ((p : Int) == 6) = false := by rw [beq_eq_false_iff_ne]; omega
  have q7 : ((p : Int) == 7) = false := by rw [beq_eq_false_iff_ne]; omega
  have HW6 := Lib.hid hw6
  have T6 := Lib.hid t6
  have B6 := Lib.hid b6
  have R6 := Lib.hid rb6
  have HG := Lib.hid (dwrite_off T6.out.d (by have := HLEN.out; omega) hl0 N (by have := HLEN.out; omega) (some ⟨w1.heap.size, 0, none⟩) 512)
  have HM := Lib.hid (rwrite_off T6.out.r hl0 N hi2 (some ⟨w1.heap.size, 0, none⟩) 512)
  have HE : Hid (TwoE B w6 g gr (n + 1) ls.length ∧ Below B w w6) := ⟨(T6.out.stay (Below.refl _ _) (n' := n + 1) (by omega)).1, B6.out⟩
  clear hw6 t6 b6 rb6 d2 d5
  go_wp2_with fail
  refine wp_region_set (fun j => Sd j ∨ Sr j) [([0, 1, 2, 3, 6, 7, 8, 9], 4), ([], 5), ([], 10)] [11] [] (by kernel_rfl) (by kernel_rfl) (by kernel_rfl) (fun _ _ _ _ _ h => h) ?_
  rw [HW6.out]
  clear HW6 q3 q4 q5 q6 q7
  have z1 : ∀ z : LaterS (fun j => Sd j ∨ Sr j) w6, z.val.cell? ⟨k, 1, none⟩ = some (.int .i64 (N : Int)) := fun z => z.ext.cell d1 (fun h => h.elim HKS.out.1 HKS.out.2)
  clear d1
  refine set_cons (l := ?seg1) ?hseg1 ?_
  case hseg1 => simp only [pick, List.getElem?_toArray, List.getElem?_cons_succ, List.getElem?_cons_zero]; rfl
  repeat (go_big_quiet_step (fail))
  refine wpQuiet_nil ?_
  clear z1
  refine set_call (vs := #[.pointer (some ⟨g, 0, none⟩), .int .i64 (N : Int), .slice (some ⟨w1.heap.size, 0, none⟩) 512 512]) Try.call22 rfl rfl rfl (R := fun r w' => r = .iface 95 (.int .i64 6) ∧ w' = w6) (HG.out.mono ?_) ?_
  · rintro e w' ⟨rfl, rfl⟩
    exact ⟨_, rfl, Tch.refl _ _, rfl, rfl⟩
  rintro r w7 _ ⟨rfl, rfl⟩
  refine ⟨fun j => Sd j ∨ Sr j, fun _ _ h => h, ?_⟩
  refine set_cons (l := ?seg2) ?hseg2 ?_
  case hseg2 => rfl
  simp only [Act.put, List.setIfInBounds_toArray, List.set_cons_zero, List.set_cons_succ]
  refine wpQuiet_nil ?_
  refine set_call (vs := #[.iface 95 (.int .i64 6)]) Try.call31 rfl rfl rfl (R := fun r w' => r = .int .i64 6 ∧ w' = w7) ((code_err _ 6 (by omega) (by omega)).mono ?_) ?_
  · rintro e w' ⟨rfl, rfl⟩
    exact ⟨_, rfl, Tch.refl _ _, rfl, rfl⟩
  rintro r w8 _ ⟨rfl, rfl⟩
  refine ⟨fun j => Sd j ∨ Sr j, fun _ _ h => h, ?_⟩
  refine set_cons (l := ?seg3) ?hseg3 ?_
  case hseg3 => rfl
  simp only [Act.put, List.setIfInBounds_toArray, List.set_cons_zero, List.set_cons_succ]
  refine wpQuiet_nil ?_
  refine set_call (vs := #[.pointer (some ⟨gr, 0, none⟩), .int .i64 (N : Int), .slice (some ⟨w1.heap.size, 0, none⟩) 512 512]) Try.call55 rfl rfl rfl (R := fun r w' => r = .int .i64 6 ∧ w' = w8) (HM.out.mono ?_) ?_
  · rintro e w' ⟨rfl, rfl⟩
    exact ⟨_, rfl, Tch.refl _ _, rfl, rfl⟩
  rintro r w9 _ ⟨rfl, rfl⟩
  refine ⟨fun j => Sd j ∨ Sr j, fun _ _ h => h, ?_⟩
  refine set_last (l := ?la4) (t := []) ?hla4 ?htl4 ?_
  case hla4 => simp only [pick, List.getElem?_toArray, List.getElem?_cons_succ, List.getElem?_cons_zero]; rfl
  case htl4 => rfl
  simp only [Act.put, List.setIfInBounds_toArray, List.set_cons_zero, List.set_cons_succ]
  repeat (go_big_quiet_step (fail))
  refine wpQuiet_nil ?_
  clear HG HM T6 B6
  obtain ⟨⟨Sd', Sr', h', c', W', cw', L', cl', V', cv', bs', ls', ws', vs', left', off', T9, hN9⟩, B9⟩ := HE.out
  obtain ⟨w10, hw10⟩ : ∃ w10, w9.drew = w10 := ⟨_, rfl⟩
  have t10 := T9.below (Below.refl _ _).drew
  rw [hw10] at t10
  have T10 := Lib.hid t10
  have B10 : Hid (Below B w w10) := (show Below B w w10 by rw [← hw10]; exact B9.drew)
  have hsv := t10.same
  have hwn := t10.hn
  have HW10 := Lib.hid hw10
  have HN9 := Lib.hid hN9
  clear HE T9 B9 t10 hw10 hN9
  go_wp2_with fail
  refine wp_region_tail w10.heap.size [([0, 2, 3, 4, 5, 6], 1)] [7] [] (by kernel_rfl) (by kernel_rfl) (by kernel_rfl) (fun _ _ _ _ _ h => h) ?_
  rw [HW10.out]
  have t1 : ∀ z : LaterB w10.heap.size w10, z.val.cell? ⟨gr, 1, none⟩ = some (.slice V' ws'.length cv') := fun z => (z.ext.cell (p := ⟨gr, 1, none⟩) T10.out.r.lt).trans (hsv ▸ T10.out.r.c1)
  clear hsv
  refine tail_cons (l := ?segW) ?hsegW ?_
  case hsegW => simp only [pick, List.getElem?_toArray, List.getElem?_cons_succ, List.getElem?_cons_zero]; rfl
  repeat (go_big_quiet_step (fail))
  refine wpQuiet_nil ?_
  clear t1
  refine tail_call (vs := #[.pointer (some ⟨g, 0, none⟩)]) Try.call27 rfl rfl rfl (R := fun r w' => r = .int .i64 (ws'.length : Int) ∧ w' = w10) ((dwaiting_any T10.out.d).mono ?_) w10.heap.size (Nat.le_refl _) ?_
  · rintro e w' ⟨rfl, rfl⟩
    exact ⟨_, rfl, Below.refl _ _, rfl, rfl⟩
  rintro r w11 _ ⟨rfl, rfl⟩
  refine tail_last (l := ?laW) (t := []) ?hlaW ?htlW ?_
  case hlaW => simp only [pick, List.getElem?_toArray, List.getElem?_cons_succ, List.getElem?_cons_zero]; rfl
  case htlW => rfl
  simp only [Act.put, List.setIfInBounds_toArray, List.set_cons_zero, List.set_cons_succ]
  repeat (go_big_quiet_step (fail))
  refine wpQuiet_nil ?_
  go_wp2
  go_ret
  exact ⟨rfl, ⟨Sd', Sr', h', c', W', cw', L', cl', V', cv', bs', ls', ws', vs', left', off', T10.out, HN9.out⟩, B10.out⟩

set_option maxRecDepth 100000 in
set_option maxHeartbeats 2000000 in
theorem do4_write_cut_sec {Sd Sr : Nat → Prop} {B : Nat} {w : World} {g h c : Nat} {W : Option Addr} {cw gr : Nat} {L : Option Addr} {cl : Nat} {V : Option Addr} {cv : Nat} {bs : List UInt8} {ls ws vs : List Wr} {off : Bool} {n : Nat} {p : Nat}
    (t : Two Sd Sr B w g h c W cw gr L cl V cv bs ls ws vs 0 off n) (_hn : n ≤ 1000) (d : Dd) (hf : d.fit w B) (hb0 : d.bn = 0) (hp : (d.what % 8).toNat = p) (hp3 : p < 3) (N : Nat) (hi : d.i = (N : Int)) (hi2 : N < ls.length)  : Does B w g gr n ls.length d := by
  rcases d with ⟨what, i, m, x, bA, bn, bc, kA, kn, kc⟩
  obtain ⟨hf1, hf2, hf3, ⟨cs, hcs, hbc, hbm, hbA⟩, ⟨kb, hkl, hkm, hkb⟩⟩ := hf
  unfold Does
  dsimp only at *
  subst hi
  unfold maxLen at hbm hkm
  obtain ⟨w1, hw1⟩ : ∃ w1, w.alloc (.cells #[.int .i64 what, .int .i64 (N : Int), .int .i64 m, .int .u8 (x.toNat : Int), .slice bA bn bc, .slice kA kn kc] 48) = w1 := ⟨_, rfl⟩
  have hb1 : Below w.heap.size w w1 := by rw [← hw1]; exact (Below.refl _ _).alloc (Nat.le_refl _) _
  have hn1 : w1.heap[w.heap.size]? = some (.cells #[.int .i64 what, .int .i64 (N : Int), .int .i64 m, .int .u8 (x.toNat : Int), .slice bA bn bc, .slice kA kn kc] 48 (0, 0)) := by rw [← hw1]; exact heap_alloc_new w _
  have hB := t.hB
  have t1 := t.below hb1
  have hks : ¬ Sd w.heap.size ∧ ¬ Sr w.heap.size := ⟨fun h => by have := (t.sd _ h).2.1; omega, fun h => by have := (t.sr _ h).2; omega⟩
  have hcs1 := hcs.below (hb1.mono hB)
  obtain ⟨k, hk⟩ : ∃ k, w.heap.size = k := ⟨_, rfl⟩
  rw [hk] at hn1 hks
  have hlen := t.len
  have hll := t.hl
  have hww := t.hn
  have hl1 := t.l1
  have hl2 := t.l2
  have HB01 := Lib.hid (hb1.mono hB)
  have HKB := Lib.hid hkb
  have HKL := Lib.hid hkl
  have HW1 := Lib.hid hw1
  have HKS := Lib.hid hks
  have HLEN := Lib.hid hlen
  have HK := Lib.hid hk
  have HBB := Lib.hid hB
  have hq : ((bn : Int) == 0) = true := by rw [beq_iff_eq]; omega
  have hn1' := hn1
  have d3 := cell_of_row w1 k 3 _ _ (0, 0) hn1
  have d4 := cell_of_row w1 k 4 _ _ (0, 0) hn1
  simp only [List.getElem?_toArray, List.getElem?_cons_zero, List.getElem?_cons_succ] at d3 d4
  have HN1 := Lib.hid hn1
  have T1 := Lib.hid t1
  have HP := Lib.hid hp
  clear t t1 hcs hcs1 hn1 hn1' hw1 hb1 hks hkb hkl hlen hp hB hbA hb0
  go_enter Try.func19, Try.ntmps19
  go_wp2_with fail
  rw [HW1.out]
  clear HW1 hk
  refine (sector_fl x w1).mono ?_
  rintro e w4 ⟨rfl, r4, b4⟩
  have hkl1 := heap_lt HN1.out
  have hn4 := (b4.block k hkl1).trans HN1.out
  have T4 := Lib.hid (T1.out.below b4)
  have HN4 := Lib.hid hn4
  have RB := Lib.hid r4
  have HAP : Hid (∀ a, (some ⟨w1.heap.size, 0, none⟩ : Option Addr) = some a → ¬ Sd a.block ∧ ¬ Sr a.block) := fun a e => by
    injection e with e1
    subst e1
    exact ⟨fun h => by have := (T1.out.sd _ h).2.1; dsimp only at this; omega, fun h => by have := (T1.out.sr _ h).2; dsimp only at this; omega⟩
  have d0 := cell_of_row w4 k 0 _ _ (0, 0) hn4
  have d1 := cell_of_row w4 k 1 _ _ (0, 0) hn4
  have d2 := cell_of_row w4 k 2 _ _ (0, 0) hn4
  have d5 := cell_of_row w4 k 5 _ _ (0, 0) hn4
  simp only [List.getElem?_toArray, List.getElem?_cons_zero, List.getElem?_cons_succ] at d0 d1 d2 d5
  have b4s : k < w4.heap.size := heap_lt hn4
  have hBw1 : B ≤ w1.heap.size := T1.out.hB
  have HB04 := Lib.hid (HB01.out.trans (b4.mono hBw1))
  have hpk := pick_any what 8 w4 (by omega) (by omega)
  rw [show what % ((8 : Nat) : Int) = what % 8 from rfl, HP.out] at hpk
  have HPK : Hid (Calls Try.prog 23 #[.int .i64 what, .int .i64 8] w4 fun e w' => e = .returned (.int .i64 (p : Int)) ∧ w4 = w') := hpk
  clear hq d3 d4 hn4 r4 b4 HN1 T1 HP hpk hkl1 hBw1
  go_wp2_with fail
  with_reducible refine HPK.out.mono ?_
  rintro e w5 ⟨rfl, rfl⟩
  clear HPK d0
  obtain ⟨w6, hw6⟩ : ∃ w6, w4.drew = w6 := ⟨_, rfl⟩
  have t6 : Two Sd Sr B w6 g h c W cw gr L cl V cv bs ls ws vs 0 off n := by rw [← hw6]; exact T4.out.below (Below.refl _ _).drew
  have b6 : Below B w w6 := by rw [← hw6]; exact HB04.out.drew
  have rb6 : Rd w6 w6.heap.size (some ⟨w1.heap.size, 0, none⟩) 512 (full x) := by rw [← hw6]; exact RB.out
  have d1 : w6.cell? ⟨k, 1, none⟩ = some (.int .i64 (N : Int)) := by rw [← hw6]; exact d1
  have q3 : ((p : Int) == 3) = false := by rw [beq_eq_false_iff_ne]; omega
  have q4 : ((p : Int) == 4) = false := by rw [beq_eq_false_iff_ne]; omega
  have q5 : ((p : Int) == 5) = false := by rw [beq_eq_false_iff_ne]; omega
  have q6 : ((p : Int) == 6) = false := by rw [beq_eq_false_iff_ne]; omega
  have q7 : ((p : Int) == 7) = false := by rw [beq_eq_false_iff_ne]; omega
  have HW6 := Lib.hid hw6
  have T6 := Lib.hid t6
  have B6 := Lib.hid b6
  have R6 := Lib.hid rb6
  have HG := Lib.hid (dwrite_cut T6.out.d (by have := HLEN.out; omega) N (by have := HLEN.out; omega) (some ⟨w1.heap.size, 0, none⟩) 512)
  clear hw6 t6 b6 rb6 d2 d5
  go_wp2_with fail
  refine wp_region_set (fun j => Sd j ∨ Sr j) [([0, 1, 2, 3, 6, 7, 8, 9], 4), ([], 5), ([], 10)] [11] [] (by kernel_rfl) (by kernel_rfl) (by kernel_rfl) (fun _ _ _ _ _ h => h) ?_
  rw [HW6.out]
  clear HW6 q3 q4 q5 q6 q7
  have z1 : ∀ z : LaterS (fun j => Sd j ∨ Sr j) w6, z.val.cell? ⟨k, 1, none⟩ = some (.int .i64 (N : Int)) := fun z => z.ext.cell d1 (fun h => h.elim HKS.out.1 HKS.out.2)
  clear d1
  refine set_cons (l := ?seg1) ?hseg1 ?_
  case hseg1 => simp only [pick, List.getElem?_toArray, List.getElem?_cons_succ, List.getElem?_cons_zero]; rfl
  repeat (go_big_quiet_step (fail))
  refine wpQuiet_nil ?_
  clear z1
  refine set_call (vs := #[.pointer (some ⟨g, 0, none⟩), .int .i64 (N : Int), .slice (some ⟨w1.heap.size, 0, none⟩) 512 512]) Try.call22 rfl rfl rfl (R := fun r w' => r = .iface 95 (.int .i64 6) ∧ Dk Sd w' g h c W cw bs ws 0 true ∧ Tch Sd w6 w') (HG.out.mono ?_) ?_
  · rintro e w' ⟨rfl, k7, t7⟩
    exact ⟨_, rfl, t7.more_ (fun _ h => .inl h), rfl, k7, t7⟩
  rintro r w7 _ ⟨rfl, k7, t7⟩
  refine ⟨fun j => Sd j ∨ Sr j, fun _ _ h => h, ?_⟩
  refine set_cons (l := ?seg2) ?hseg2 ?_
  case hseg2 => rfl
  simp only [Act.put, List.setIfInBounds_toArray, List.set_cons_zero, List.set_cons_succ]
  refine wpQuiet_nil ?_
  refine set_call (vs := #[.iface 95 (.int .i64 6)]) Try.call31 rfl rfl rfl (R := fun r w' => r = .int .i64 6 ∧ w' = w7) ((code_err _ 6 (by omega) (by omega)).mono ?_) ?_
  · rintro e w' ⟨rfl, rfl⟩
    exact ⟨_, rfl, Tch.refl _ _, rfl, rfl⟩
  rintro r w8 _ ⟨rfl, rfl⟩
  refine ⟨fun j => Sd j ∨ Sr j, fun _ _ h => h, ?_⟩
  refine set_cons (l := ?seg3) ?hseg3 ?_
  case hseg3 => rfl
  simp only [Act.put, List.setIfInBounds_toArray, List.set_cons_zero, List.set_cons_succ]
  refine wpQuiet_nil ?_
  have HM := Lib.hid (rwrite_cut (T6.out.mid t7) N hi2 (some ⟨w1.heap.size, 0, none⟩) 512)
  refine set_call (vs := #[.pointer (some ⟨gr, 0, none⟩), .int .i64 (N : Int), .slice (some ⟨w1.heap.size, 0, none⟩) 512 512]) Try.call55 rfl rfl rfl (R := fun r w' => r = .int .i64 6 ∧ Rk Sr w' gr L cl V cv ls vs 0 true ∧ Tch Sr w8 w') (HM.out.mono ?_) ?_
  · rintro e w' ⟨rfl, k9, t9⟩
    exact ⟨_, rfl, t9.more_ (fun _ h => .inr h), rfl, k9, t9⟩
  rintro r w9 _ ⟨rfl, k9, t9⟩
  refine ⟨fun j => Sd j ∨ Sr j, fun _ _ h => h, ?_⟩
  refine set_last (l := ?la4) (t := []) ?hla4 ?htl4 ?_
  case hla4 => simp only [pick, List.getElem?_toArray, List.getElem?_cons_succ, List.getElem?_cons_zero]; rfl
  case htl4 => rfl
  simp only [Act.put, List.setIfInBounds_toArray, List.set_cons_zero, List.set_cons_succ]
  repeat (go_big_quiet_step (fail))
  refine wpQuiet_nil ?_
  have hst := T6.out.step t7 k7.grown t9 k9.grown T6.out.hj T6.out.hw (by omega) (by omega) (n' := n + 1) (by omega) rfl
  have HE : Hid (TwoE B w9 g gr (n + 1) ls.length ∧ Below B w w9) := ⟨hst.1, B6.out.trans hst.2⟩
  clear HG HM T6 B6 k7 t7 k9 t9 hst
  obtain ⟨⟨Sd', Sr', h', c', W', cw', L', cl', V', cv', bs', ls', ws', vs', left', off', T9, hN9⟩, B9⟩ := HE.out
  obtain ⟨w10, hw10⟩ : ∃ w10, w9.drew = w10 := ⟨_, rfl⟩
  have t10 := T9.below (Below.refl _ _).drew
  rw [hw10] at t10
  have T10 := Lib.hid t10
  have B10 : Hid (Below B w w10) := (show Below B w w10 by rw [← hw10]; exact B9.drew)
  have hsv := t10.same
  have hwn := t10.hn
  have HW10 := Lib.hid hw10
  have HN9 := Lib.hid hN9
  clear HE T9 B9 t10 hw10 hN9
  go_wp2_with fail
  refine wp_region_tail w10.heap.size [([0, 2, 3, 4, 5, 6], 1)] [7] [] (by kernel_rfl) (by kernel_rfl) (by kernel_rfl) (fun _ _ _ _ _ h => h) ?_
  rw [HW10.out]
  have t1 : ∀ z : LaterB w10.heap.size w10, z.val.cell? ⟨gr, 1, none⟩ = some (.slice V' ws'.length cv') := fun z => (z.ext.cell (p := ⟨gr, 1, none⟩) T10.out.r.lt).trans (hsv ▸ T10.out.r.c1)
  clear hsv
  refine tail_cons (l := ?segW) ?hsegW ?_
  case hsegW => simp only [pick, List.getElem?_toArray, List.getElem?_cons_succ, List.getElem?_cons_zero]; rfl
  repeat (go_big_quiet_step (fail))
  refine wpQuiet_nil ?_
  clear t1
  refine tail_call (vs := #[.pointer (some ⟨g, 0, none⟩)]) Try.call27 rfl rfl rfl (R := fun r w' => r = .int .i64 (ws'.length : Int) ∧ w' = w10) ((dwaiting_any T10.out.d).mono ?_) w10.heap.size (Nat.le_refl _) ?_
  · rintro e w' ⟨rfl, rfl⟩
    exact ⟨_, rfl, Below.refl _ _, rfl, rfl⟩
  rintro r w11 _ ⟨rfl, rfl⟩
  refine tail_last (l := ?laW) (t := []) ?hlaW ?htlW ?_
  case hlaW => simp only [pick, List.getElem?_toArray, List.getElem?_cons_succ, List.getElem?_cons_zero]; rfl
  case htlW => rfl
  simp only [Act.put, List.setIfInBounds_toArray, List.set_cons_zero, List.set_cons_succ]
  repeat (go_big_quiet_step (fail))
  refine wpQuiet_nil ?_
  go_wp2
  go_ret
  exact ⟨rfl, ⟨Sd', Sr', h', c', W', cw', L', cl', V', cv', bs', ls', ws', vs', left', off', T10.out, HN9.out⟩, B10.out⟩

set_option maxRecDepth 100000 in
set_option maxHeartbeats 2000000 in
theorem do4_write_neg_sec {Sd Sr : Nat → Prop} {B : Nat} {w : World} {g h c : Nat} {W : Option Addr} {cw gr : Nat} {L : Option Addr} {cl : Nat} {V : Option Addr} {cv : Nat} {bs : List UInt8} {ls ws vs : List Wr} {left : Int} {n : Nat} {p : Nat}
    (t : Two Sd Sr B w g h c W cw gr L cl V cv bs ls ws vs left false n) (hn : n ≤ 1000) (d : Dd) (hf : d.fit w B) (hb0 : d.bn = 0) (hp : (d.what % 8).toNat = p) (hp3 : p < 3) (hl0 : left < 0) (N : Nat) (hi : d.i = (N : Int)) (hi2 : N < ls.length)  : Does B w g gr n ls.length d := by
  rcases d with ⟨what, i, m, x, bA, bn, bc, kA, kn, kc⟩
  obtain ⟨hf1, hf2, hf3, ⟨cs, hcs, hbc, hbm, hbA⟩, ⟨kb, hkl, hkm, hkb⟩⟩ := hf
  unfold Does
  dsimp only at *
  subst hi
  unfold maxLen at hbm hkm
  obtain ⟨w1, hw1⟩ : ∃ w1, w.alloc (.cells #[.int .i64 what, .int .i64 (N : Int), .int .i64 m, .int .u8 (x.toNat : Int), .slice bA bn bc, .slice kA kn kc] 48) = w1 := ⟨_, rfl⟩
  have hb1 : Below w.heap.size w w1 := by rw [← hw1]; exact (Below.refl _ _).alloc (Nat.le_refl _) _
  have hn1 : w1.heap[w.heap.size]? = some (.cells #[.int .i64 what, .int .i64 (N : Int), .int .i64 m, .int .u8 (x.toNat : Int), .slice bA bn bc, .slice kA kn kc] 48 (0, 0)) := by rw [← hw1]; exact heap_alloc_new w _
  have hB := t.hB
  have t1 := t.below hb1
  have hks : ¬ Sd w.heap.size ∧ ¬ Sr w.heap.size := ⟨fun h => by have := (t.sd _ h).2.1; omega, fun h => by have := (t.sr _ h).2; omega⟩
  have hcs1 := hcs.below (hb1.mono hB)
  obtain ⟨k, hk⟩ : ∃ k, w.heap.size = k := ⟨_, rfl⟩
  rw [hk] at hn1 hks
  have hlen := t.len
  have hll := t.hl
  have hww := t.hn
  have hl1 := t.l1
  have hl2 := t.l2
  have HB01 := Lib.hid (hb1.mono hB)
  have HKB := Lib.hid hkb
  have HKL := Lib.hid hkl
  have HW1 := Lib.hid hw1
  have HKS := Lib.hid hks
  have HLEN := Lib.hid hlen
  have HK := Lib.hid hk
  have HBB := Lib.hid hB
  have hq : ((bn : Int) == 0) = true := by rw [beq_iff_eq]; omega
  have hn1' := hn1
  have d3 := cell_of_row w1 k 3 _ _ (0, 0) hn1
  have d4 := cell_of_row w1 k 4 _ _ (0, 0) hn1
  simp only [List.getElem?_toArray, List.getElem?_cons_zero, List.getElem?_cons_succ] at d3 d4
  have HN1 := Lib.hid hn1
  have T1 := Lib.hid t1
  have HP := Lib.hid hp
  clear t t1 hcs hcs1 hn1 hn1' hw1 hb1 hks hkb hkl hlen hp hB hbA hb0
  go_enter Try.func19, Try.ntmps19
  go_wp2_with fail
  rw [HW1.out]
  clear HW1 hk
  refine (sector_fl x w1).mono ?_
  rintro e w4 ⟨rfl, r4, b4⟩
  have hkl1 := heap_lt HN1.out
  have hn4 := (b4.block k hkl1).trans HN1.out
  have T4 := Lib.hid (T1.out.below b4)
  have HN4 := Lib.hid hn4
  have RB := Lib.hid r4
  have HAP : Hid (∀ a, (some ⟨w1.heap.size, 0, none⟩ : Option Addr) = some a → ¬ Sd a.block ∧ ¬ Sr a.block) := fun a e => by
    injection e with e1
    subst e1
    exact ⟨fun h => by have := (T1.out.sd _ h).2.1; dsimp only at this; omega, fun h => by have := (T1.out.sr _ h).2; dsimp only at this; omega⟩
  have d0 := cell_of_row w4 k 0 _ _ (0, 0) hn4
  have d1 := cell_of_row w4 k 1 _ _ (0, 0) hn4
  have d2 := cell_of_row w4 k 2 _ _ (0, 0) hn4
  have d5 := cell_of_row w4 k 5 _ _ (0, 0) hn4
  simp only [List.getElem?_toArray, List.getElem?_cons_zero, List.getElem?_cons_succ] at d0 d1 d2 d5
  have b4s : k < w4.heap.size := heap_lt hn4
  have hBw1 : B ≤ w1.heap.size := T1.out.hB
  have HB04 := Lib.hid (HB01.out.trans (b4.mono hBw1))
  have hpk := pick_any what 8 w4 (by omega) (by omega)
  rw [show what % ((8 : Nat) : Int) = what % 8 from rfl, HP.out] at hpk
  have HPK : Hid (Calls Try.prog 23 #[.int .i64 what, .int .i64 8] w4 fun e w' => e = .returned (.int .i64 (p : Int)) ∧ w4 = w') := hpk
  clear hq d3 d4 hn4 r4 b4 HN1 T1 HP hpk hkl1 hBw1
  go_wp2_with fail
  with_reducible refine HPK.out.mono ?_
  rintro e w5 ⟨rfl, rfl⟩
  clear HPK d0
  obtain ⟨w6, hw6⟩ : ∃ w6, w4.drew = w6 := ⟨_, rfl⟩
  have t6 : Two Sd Sr B w6 g h c W cw gr L cl V cv bs ls ws vs left false n := by rw [← hw6]; exact T4.out.below (Below.refl _ _).drew
  have b6 : Below B w w6 := by rw [← hw6]; exact HB04.out.drew
  have rb6 : Rd w6 w6.heap.size (some ⟨w1.heap.size, 0, none⟩) 512 (full x) := by rw [← hw6]; exact RB.out
  have d1 : w6.cell? ⟨k, 1, none⟩ = some (.int .i64 (N : Int)) := by rw [← hw6]; exact d1
  have q3 : ((p : Int) == 3) = false := by rw [beq_eq_false_iff_ne]; omega
  have q4 : ((p : Int) == 4) = false := by rw [beq_eq_false_iff_ne]; omega
  have q5 : ((p : Int) == 5) = false := by rw [beq_eq_false_iff_ne]; omega
  have q6 : ((p : Int) == 6) = false := by rw [beq_eq_false_iff_ne]; omega
  have q7 : ((p : Int) == 7) = false := by rw [beq_eq_false_iff_ne]; omega
  have HW6 := Lib.hid hw6
  have T6 := Lib.hid t6
  have B6 := Lib.hid b6
  have R6 := Lib.hid rb6
  have hcl : List.length (full x) = 512 := R6.out.1
  have HG := Lib.hid (dwrite_neg T6.out.d (by have := HLEN.out; omega) (by omega) hl0 N (by have := HLEN.out; omega) (some ⟨w1.heap.size, 0, none⟩) 512 (full x) hcl R6.out)
  have HCL := Lib.hid hcl
  clear hcl
  clear hw6 t6 b6 rb6 d2 d5
  go_wp2_with fail
  refine wp_region_set (fun j => Sd j ∨ Sr j) [([0, 1, 2, 3, 6, 7, 8, 9], 4), ([], 5), ([], 10)] [11] [] (by kernel_rfl) (by kernel_rfl) (by kernel_rfl) (fun _ _ _ _ _ h => h) ?_
  rw [HW6.out]
  clear HW6 q3 q4 q5 q6 q7
  have z1 : ∀ z : LaterS (fun j => Sd j ∨ Sr j) w6, z.val.cell? ⟨k, 1, none⟩ = some (.int .i64 (N : Int)) := fun z => z.ext.cell d1 (fun h => h.elim HKS.out.1 HKS.out.2)
  clear d1
  refine set_cons (l := ?seg1) ?hseg1 ?_
  case hseg1 => simp only [pick, List.getElem?_toArray, List.getElem?_cons_succ, List.getElem?_cons_zero]; rfl
  repeat (go_big_quiet_step (fail))
  refine wpQuiet_nil ?_
  clear z1
  refine set_call (vs := #[.pointer (some ⟨g, 0, none⟩), .int .i64 (N : Int), .slice (some ⟨w1.heap.size, 0, none⟩) 512 512]) Try.call22 rfl rfl rfl (R := fun r w' => r = .nilIface ∧ (∃ W' cw' b cb, Dk (grow Sd w6 w') w' g h c W' cw' bs (ws ++ [⟨N, b, cb, (full x)⟩]) left false) ∧ Tch Sd w6 w') (HG.out.mono ?_) ?_
  · rintro e w' ⟨rfl, k7, t7⟩
    exact ⟨_, rfl, t7.more_ (fun _ h => .inl h), rfl, k7, t7⟩
  rintro r w7 _ ⟨rfl, ⟨W7, cw7, b7, cb7, k7⟩, t7⟩
  refine ⟨fun j => Sd j ∨ Sr j, fun _ _ h => h, ?_⟩
  refine set_cons (l := ?seg2) ?hseg2 ?_
  case hseg2 => rfl
  simp only [Act.put, List.setIfInBounds_toArray, List.set_cons_zero, List.set_cons_succ]
  refine wpQuiet_nil ?_
  refine set_call (vs := #[.nilIface]) Try.call31 rfl rfl rfl (R := fun r w' => r = .int .i64 0 ∧ w' = w7) ((code_nil _).mono ?_) ?_
  · rintro e w' ⟨rfl, rfl⟩
    exact ⟨_, rfl, Tch.refl _ _, rfl, rfl⟩
  rintro r w8 _ ⟨rfl, rfl⟩
  refine ⟨fun j => Sd j ∨ Sr j, fun _ _ h => h, ?_⟩
  refine set_cons (l := ?seg3) ?hseg3 ?_
  case hseg3 => rfl
  simp only [Act.put, List.setIfInBounds_toArray, List.set_cons_zero, List.set_cons_succ]
  refine wpQuiet_nil ?_
  have r8 := R6.out.tch t7 (fun a e => (HAP.out a e).1)
  have HM := Lib.hid (rwrite_neg (T6.out.mid t7) (by have := T6.out.same; omega) hl0 N hi2 (some ⟨w1.heap.size, 0, none⟩) 512 (full x) HCL.out r8 (fun a e h => (HAP.out a e).2 (by rw [h]; exact T6.out.r.sg)))
  refine set_call (vs := #[.pointer (some ⟨gr, 0, none⟩), .int .i64 (N : Int), .slice (some ⟨w1.heap.size, 0, none⟩) 512 512]) Try.call55 rfl rfl rfl (R := fun r w' => r = .int .i64 0 ∧ (∃ W' cw' b cb, Rk (grow Sr w8 w') w' gr L cl W' cw' ls (vs ++ [⟨N, b, cb, (full x)⟩]) left false) ∧ Tch Sr w8 w') (HM.out.mono ?_) ?_
  · rintro e w' ⟨rfl, k9, t9⟩
    exact ⟨_, rfl, t9.more_ (fun _ h => .inr h), rfl, k9, t9⟩
  rintro r w9 _ ⟨rfl, ⟨V9, cv9, b9, cb9, k9⟩, t9⟩
  refine ⟨fun j => Sd j ∨ Sr j, fun _ _ h => h, ?_⟩
  refine set_last (l := ?la4) (t := []) ?hla4 ?htl4 ?_
  case hla4 => simp only [pick, List.getElem?_toArray, List.getElem?_cons_succ, List.getElem?_cons_zero]; rfl
  case htl4 => rfl
  simp only [Act.put, List.setIfInBounds_toArray, List.set_cons_zero, List.set_cons_succ]
  repeat (go_big_quiet_step (fail))
  refine wpQuiet_nil ?_
  have hst := T6.out.step t7 k7 t9 k9 T6.out.hj (by rw [List.map_append, List.map_append, T6.out.hw]; rfl) (by omega) (by omega) (n' := n + 1) (by simp; omega) rfl
  have HE : Hid (TwoE B w9 g gr (n + 1) ls.length ∧ Below B w w9) := ⟨hst.1, B6.out.trans hst.2⟩
  clear HG HM T6 B6 k7 t7 k9 t9 hst r8
  obtain ⟨⟨Sd', Sr', h', c', W', cw', L', cl', V', cv', bs', ls', ws', vs', left', off', T9, hN9⟩, B9⟩ := HE.out
  obtain ⟨w10, hw10⟩ : ∃ w10, w9.drew = w10 := ⟨_, rfl⟩
  have t10 := T9.below (Below.refl _ _).drew
  rw [hw10] at t10
  have T10 := Lib.hid t10
  have B10 : Hid (Below B w w10) := (show Below B w w10 by rw [← hw10]; exact B9.drew)
  have hsv := t10.same
  have hwn := t10.hn
  have HW10 := Lib.hid hw10
  have HN9 := Lib.hid hN9
  clear HE T9 B9 t10 hw10 hN9
  go_wp2_with fail
  refine wp_region_tail w10.heap.size [([0, 2, 3, 4, 5, 6], 1)] [7] [] (by kernel_rfl) (by kernel_rfl) (by kernel_rfl) (fun _ _ _ _ _ h => h) ?_
  rw [HW10.out]
  have t1 : ∀ z : LaterB w10.heap.size w10, z.val.cell? ⟨gr, 1, none⟩ = some (.slice V' ws'.length cv') := fun z => (z.ext.cell (p := ⟨gr, 1, none⟩) T10.out.r.lt).trans (hsv ▸ T10.out.r.c1)
  clear hsv
  refine tail_cons (l := ?segW) ?hsegW ?_
  case hsegW => simp only [pick, List.getElem?_toArray, List.getElem?_cons_succ, List.getElem?_cons_zero]; rfl
  repeat (go_big_quiet_step (fail))
  refine wpQuiet_nil ?_
  clear t1
  refine tail_call (vs := #[.pointer (some ⟨g, 0, none⟩)]) Try.call27 rfl rfl rfl (R := fun r w' => r = .int .i64 (ws'.length : Int) ∧ w' = w10) ((dwaiting_any T10.out.d).mono ?_) w10.heap.size (Nat.le_refl _) ?_
  · rintro e w' ⟨rfl, rfl⟩
    exact ⟨_, rfl, Below.refl _ _, rfl, rfl⟩
  rintro r w11 _ ⟨rfl, rfl⟩
  refine tail_last (l := ?laW) (t := []) ?hlaW ?htlW ?_
  case hlaW => simp only [pick, List.getElem?_toArray, List.getElem?_cons_succ, List.getElem?_cons_zero]; rfl
  case htlW => rfl
  simp only [Act.put, List.setIfInBounds_toArray, List.set_cons_zero, List.set_cons_succ]
  repeat (go_big_quiet_step (fail))
  refine wpQuiet_nil ?_
  go_wp2
  go_ret
  exact ⟨rfl, ⟨Sd', Sr', h', c', W', cw', L', cl', V', cv', bs', ls', ws', vs', left', off', T10.out, HN9.out⟩, B10.out⟩

set_option maxRecDepth 100000 in
set_option maxHeartbeats 2000000 in
theorem do4_write_pos_sec {Sd Sr : Nat → Prop} {B : Nat} {w : World} {g h c : Nat} {W : Option Addr} {cw gr : Nat} {L : Option Addr} {cl : Nat} {V : Option Addr} {cv : Nat} {bs : List UInt8} {ls ws vs : List Wr} {left : Int} {n : Nat} {p : Nat}
    (t : Two Sd Sr B w g h c W cw gr L cl V cv bs ls ws vs left false n) (hn : n ≤ 1000) (d : Dd) (hf : d.fit w B) (hb0 : d.bn = 0) (hp : (d.what % 8).toNat = p) (hp3 : p < 3) (hl0 : 0 < left) (N : Nat) (hi : d.i = (N : Int)) (hi2 : N < ls.length)  : Does B w g gr n ls.length d := by
  rcases d with ⟨what, i, m, x, bA, bn, bc, kA, kn, kc⟩
  obtain ⟨hf1, hf2, hf3, ⟨cs, hcs, hbc, hbm, hbA⟩, ⟨kb, hkl, hkm, hkb⟩⟩ := hf
  unfold Does
  dsimp only at *
  subst hi
  unfold maxLen at hbm hkm
  obtain ⟨w1, hw1⟩ : ∃ w1, w.alloc (.cells #[.int .i64 what, .int .i64 (N : Int), .int .i64 m, .int .u8 (x.toNat : Int), .slice bA bn bc, .slice kA kn kc] 48) = w1 := ⟨_, rfl⟩
  have hb1 : Below w.heap.size w w1 := by rw [← hw1]; exact (Below.refl _ _).alloc (Nat.le_refl _) _
  have hn1 : w1.heap[w.heap.size]? = some (.cells #[.int .i64 what, .int .i64 (N : Int), .int .i64 m, .int .u8 (x.toNat : Int), .slice bA bn bc, .slice kA kn kc] 48 (0, 0)) := by rw [← hw1]; exact heap_alloc_new w _
  have hB := t.hB
  have t1 := t.below hb1
  have hks : ¬ Sd w.heap.size ∧ ¬ Sr w.heap.size := ⟨fun h => by have := (t.sd _ h).2.1; omega, fun h => by have := (t.sr _ h).2; omega⟩
  have hcs1 := hcs.below (hb1.mono hB)
  obtain ⟨k, hk⟩ : ∃ k, w.heap.size = k := ⟨_, rfl⟩
  rw [hk] at hn1 hks
  have hlen := t.len
  have hll := t.hl
  have hww := t.hn
  have hl1 := t.l1
  have hl2 := t.l2
  have HB01 := Lib.hid (hb1.mono hB)
  have HKB := Lib.hid hkb
  have HKL := Lib.hid hkl
  have HW1 := Lib.hid hw1
  have HKS := Lib.hid hks
  have HLEN := Lib.hid hlen
  have HK := Lib.hid hk
  have HBB := Lib.hid hB
  have hq : ((bn : Int) == 0) = true := by rw [beq_iff_eq]; omega
  have hn1' := hn1
  have d3 := cell_of_row w1 k 3 _ _ (0, 0) hn1
  have d4 := cell_of_row w1 k 4 _ _ (0, 0) hn1
  simp only [List.getElem?_toArray, List.getElem?_cons_zero, List.getElem?_cons_succ] at d3 d4
  have HN1 := Lib.hid hn1
  have T1 := Lib.hid t1
  have HP := Lib.hid hp
  clear t t1 hcs hcs1 hn1 hn1' hw1 hb1 hks hkb hkl hlen hp hB hbA hb0
  go_enter Try.func19, Try.ntmps19
  go_wp2_with fail
  rw [HW1.out]
  clear HW1 hk
  refine (sector_fl x w1).mono ?_
  rintro e w4 ⟨rfl, r4, b4⟩
  have hkl1 := heap_lt HN1.out
  have hn4 := (b4.block k hkl1).trans HN1.out
  have T4 := Lib.hid (T1.out.below b4)
  have HN4 := Lib.hid hn4
  have RB := Lib.hid r4
  have HAP : Hid (∀ a, (some ⟨w1.heap.size, 0, none⟩ : Option Addr) = some a → ¬ Sd a.block ∧ ¬ Sr a.block) := fun a e => by
    injection e with e1
    subst e1
    exact ⟨fun h => by have := (T1.out.sd _ h).2.1; dsimp only at this; omega, fun h => by have := (T1.out.sr _ h).2; dsimp only at this; omega⟩
  have d0 := cell_of_row w4 k 0 _ _ (0, 0) hn4
  have d1 := cell_of_row w4 k 1 _ _ (0, 0) hn4
  have d2 := cell_of_row w4 k 2 _ _ (0, 0) hn4
  have d5 := cell_of_row w4 k 5 _ _ (0, 0) hn4
  simp only [List.getElem?_toArray, List.getElem?_cons_zero, List.getElem?_cons_succ] at d0 d1 d2 d5
  have b4s : k < w4.heap.size := heap_lt hn4
  have hBw1 : B ≤ w1.heap.size := T1.out.hB
  have HB04 := Lib.hid (HB01.out.trans (b4.mono hBw1))
  have hpk := pick_any what 8 w4 (by omega) (by omega)
  rw [show what % ((8 : Nat) : Int) = what % 8 from rfl, HP.out] at hpk
  have HPK : Hid (Calls Try.prog 23 #[.int .i64 what, .int .i64 8] w4 fun e w' => e = .returned (.int .i64 (p : Int)) ∧ w4 = w') := hpk
  clear hq d3 d4 hn4 r4 b4 HN1 T1 HP hpk hkl1 hBw1
  go_wp2_with fail
  with_reducible refine HPK.out.mono ?_
  rintro e w5 ⟨rfl, rfl⟩
  clear HPK d0
  obtain ⟨w6, hw6⟩ : ∃ w6, w4.drew = w6 := ⟨_, rfl⟩
  have t6 : Two Sd Sr B w6 g h c W cw gr L cl V cv bs ls ws vs left false n := by rw [← hw6]; exact T4.out.below (Below.refl _ _).drew
  have b6 : Below B w w6 := by rw [← hw6]; exact HB04.out.drew
  have rb6 : Rd w6 w6.heap.size (some ⟨w1.heap.size, 0, none⟩) 512 (full x) := by rw [← hw6]; exact RB.out
  have d1 : w6.cell? ⟨k, 1, none⟩ = some (.int .i64 (N : Int)) := by rw [← hw6]; exact d1
  have q3 : ((p : Int) == 3) = false := by rw [beq_eq_false_iff_ne]; omega
  have q4 : ((p : Int) == 4) = false := by rw [beq_eq_false_iff_ne]; omega
  have q5 : ((p : Int) == 5) = false := by rw [beq_eq_false_iff_ne]; omega
  have q6 : ((p : Int) == 6) = false := by rw [beq_eq_false_iff_ne]; omega
  have q7 : ((p : Int) == 7) = false := by rw [beq_eq_false_iff_ne]; omega
  have HW6 := Lib.hid hw6
  have T6 := Lib.hid t6
  have B6 := Lib.hid b6
  have R6 := Lib.hid rb6
  have hcl : List.length (full x) = 512 := R6.out.1
  have HG := Lib.hid (dwrite_pos T6.out.d (by have := HLEN.out; omega) (by omega) hl0 hl2 N (by have := HLEN.out; omega) (some ⟨w1.heap.size, 0, none⟩) 512 (full x) hcl R6.out (fun a e h => (HAP.out a e).1 (by rw [h]; exact T6.out.d.sg)))
  have HCL := Lib.hid hcl
  clear hcl
  clear hw6 t6 b6 rb6 d2 d5
  go_wp2_with fail
  refine wp_region_set (fun j => Sd j ∨ Sr j) [([0, 1, 2, 3, 6, 7, 8, 9], 4), ([], 5), ([], 10)] [11] [] (by kernel_rfl) (by kernel_rfl) (by kernel_rfl) (fun _ _ _ _ _ h => h) ?_
  rw [HW6.out]
  clear HW6 q3 q4 q5 q6 q7
  have z1 : ∀ z : LaterS (fun j => Sd j ∨ Sr j) w6, z.val.cell? ⟨k, 1, none⟩ = some (.int .i64 (N : Int)) := fun z => z.ext.cell d1 (fun h => h.elim HKS.out.1 HKS.out.2)
  clear d1
  refine set_cons (l := ?seg1) ?hseg1 ?_
  case hseg1 => simp only [pick, List.getElem?_toArray, List.getElem?_cons_succ, List.getElem?_cons_zero]; rfl
  repeat (go_big_quiet_step (fail))
  refine wpQuiet_nil ?_
  clear z1
  refine set_call (vs := #[.pointer (some ⟨g, 0, none⟩), .int .i64 (N : Int), .slice (some ⟨w1.heap.size, 0, none⟩) 512 512]) Try.call22 rfl rfl rfl (R := fun r w' => r = .nilIface ∧ (∃ W' cw' b cb, Dk (grow Sd w6 w') w' g h c W' cw' bs (ws ++ [⟨N, b, cb, (full x)⟩]) (left - 1) false) ∧ Tch Sd w6 w') (HG.out.mono ?_) ?_
  · rintro e w' ⟨rfl, k7, t7⟩
    exact ⟨_, rfl, t7.more_ (fun _ h => .inl h), rfl, k7, t7⟩
  rintro r w7 _ ⟨rfl, ⟨W7, cw7, b7, cb7, k7⟩, t7⟩
  refine ⟨fun j => Sd j ∨ Sr j, fun _ _ h => h, ?_⟩
  refine set_cons (l := ?seg2) ?hseg2 ?_
  case hseg2 => rfl
  simp only [Act.put, List.setIfInBounds_toArray, List.set_cons_zero, List.set_cons_succ]
  refine wpQuiet_nil ?_
  refine set_call (vs := #[.nilIface]) Try.call31 rfl rfl rfl (R := fun r w' => r = .int .i64 0 ∧ w' = w7) ((code_nil _).mono ?_) ?_
  · rintro e w' ⟨rfl, rfl⟩
    exact ⟨_, rfl, Tch.refl _ _, rfl, rfl⟩
  rintro r w8 _ ⟨rfl, rfl⟩
  refine ⟨fun j => Sd j ∨ Sr j, fun _ _ h => h, ?_⟩
  refine set_cons (l := ?seg3) ?hseg3 ?_
  case hseg3 => rfl
  simp only [Act.put, List.setIfInBounds_toArray, List.set_cons_zero, List.set_cons_succ]
  refine wpQuiet_nil ?_
  have r8 := R6.out.tch t7 (fun a e => (HAP.out a e).1)
  have HM := Lib.hid (rwrite_pos (T6.out.mid t7) (by have := T6.out.same; omega) hl0 hl2 N hi2 (some ⟨w1.heap.size, 0, none⟩) 512 (full x) HCL.out r8 (fun a e h => (HAP.out a e).2 (by rw [h]; exact T6.out.r.sg)))
  refine set_call (vs := #[.pointer (some ⟨gr, 0, none⟩), .int .i64 (N : Int), .slice (some ⟨w1.heap.size, 0, none⟩) 512 512]) Try.call55 rfl rfl rfl (R := fun r w' => r = .int .i64 0 ∧ (∃ W' cw' b cb, Rk (grow Sr w8 w') w' gr L cl W' cw' ls (vs ++ [⟨N, b, cb, (full x)⟩]) (left - 1) false) ∧ Tch Sr w8 w') (HM.out.mono ?_) ?_
  · rintro e w' ⟨rfl, k9, t9⟩
    exact ⟨_, rfl, t9.more_ (fun _ h => .inr h), rfl, k9, t9⟩
  rintro r w9 _ ⟨rfl, ⟨V9, cv9, b9, cb9, k9⟩, t9⟩
  refine ⟨fun j => Sd j ∨ Sr j, fun _ _ h => h, ?_⟩
  refine set_last (l := ?la4) (t := []) ?hla4 ?htl4 ?_
  case hla4 => simp only [pick, List.getElem?_toArray, List.getElem?_cons_succ, List.getElem?_cons_zero]; rfl
  case htl4 => rfl
  simp only [Act.put, List.setIfInBounds_toArray, List.set_cons_zero, List.set_cons_succ]
  repeat (go_big_quiet_step (fail))
  refine wpQuiet_nil ?_
  have hst := T6.out.step t7 k7 t9 k9 T6.out.hj (by rw [List.map_append, List.map_append, T6.out.hw]; rfl) (by omega) (by omega) (n' := n + 1) (by simp; omega) rfl
  have HE : Hid (TwoE B w9 g gr (n + 1) ls.length ∧ Below B w w9) := ⟨hst.1, B6.out.trans hst.2⟩
  clear HG HM T6 B6 k7 t7 k9 t9 hst r8
  obtain ⟨⟨Sd', Sr', h', c', W', cw', L', cl', V', cv', bs', ls', ws', vs', left', off', T9, hN9⟩, B9⟩ := HE.out
  obtain ⟨w10, hw10⟩ : ∃ w10, w9.drew = w10 := ⟨_, rfl⟩
  have t10 := T9.below (Below.refl _ _).drew
  rw [hw10] at t10
  have T10 := Lib.hid t10
  have B10 : Hid (Below B w w10) := (show Below B w w10 by rw [← hw10]; exact B9.drew)
  have hsv := t10.same
  have hwn := t10.hn
  have HW10 := Lib.hid hw10
  have HN9 := Lib.hid hN9
  clear HE T9 B9 t10 hw10 hN9
  go_wp2_with fail
  refine wp_region_tail w10.heap.size [([0, 2, 3, 4, 5, 6], 1)] [7] [] (by kernel_rfl) (by kernel_rfl) (by kernel_rfl) (fun _ _ _ _ _ h => h) ?_
  rw [HW10.out]
  have t1 : ∀ z : LaterB w10.heap.size w10, z.val.cell? ⟨gr, 1, none⟩ = some (.slice V' ws'.length cv') := fun z => (z.ext.cell (p := ⟨gr, 1, none⟩) T10.out.r.lt).trans (hsv ▸ T10.out.r.c1)
  clear hsv
  refine tail_cons (l := ?segW) ?hsegW ?_
  case hsegW => simp only [pick, List.getElem?_toArray, List.getElem?_cons_succ, List.getElem?_cons_zero]; rfl
  repeat (go_big_quiet_step (fail))
  refine wpQuiet_nil ?_
  clear t1
  refine tail_call (vs := #[.pointer (some ⟨g, 0, none⟩)]) Try.call27 rfl rfl rfl (R := fun r w' => r = .int .i64 (ws'.length : Int) ∧ w' = w10) ((dwaiting_any T10.out.d).mono ?_) w10.heap.size (Nat.le_refl _) ?_
  · rintro e w' ⟨rfl, rfl⟩
    exact ⟨_, rfl, Below.refl _ _, rfl, rfl⟩
  rintro r w11 _ ⟨rfl, rfl⟩
  refine tail_last (l := ?laW) (t := []) ?hlaW ?htlW ?_
  case hlaW => simp only [pick, List.getElem?_toArray, List.getElem?_cons_succ, List.getElem?_cons_zero]; rfl
  case htlW => rfl
  simp only [Act.put, List.setIfInBounds_toArray, List.set_cons_zero, List.set_cons_succ]
  repeat (go_big_quiet_step (fail))
  refine wpQuiet_nil ?_
  go_wp2
  go_ret
  exact ⟨rfl, ⟨Sd', Sr', h', c', W', cw', L', cl', V', cv', bs', ls', ws', vs', left', off', T10.out, HN9.out⟩, B10.out⟩

end Go.Proofs.Ytbalmacabojbpaa
