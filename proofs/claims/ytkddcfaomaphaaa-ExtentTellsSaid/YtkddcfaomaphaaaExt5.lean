/- The walk of the law ExtentBack: it returns true and writes nothing that was there. -/
import Derived.Test.YtkddcfaomaphaaaExt4
namespace Go.Proofs.Ytkddcfaomaphaaa
open Go.RowKit

set_option maxRecDepth 100000 in
set_option maxHeartbeats 400000 in
theorem rsectors_any (w : World) (n : Nat) (hn : n ≤ 9223372036854775807) (m : Nat) (hm : need n = m) :
    Calls Try.prog 21 #[.int .i64 (n : Int)] w fun e w' => e = .returned (.int .i64 (m : Int)) ∧ w = w' := by
  unfold need at hm
  by_cases h : n % 512 = 0
  · have s1 : decide ((0 : Int) < (n : Int) % 512) = false := decide_eq_false (by omega)
    have HM : Hid ((n : Int) / 512 = (m : Int)) := (show _ = _ by omega)
    clear hm
    go_enter Try.func21, Try.ntmps21
    go_wp2
    go_ret
    exact ⟨ret_i HM.out, rfl⟩
  · have s1 : decide ((0 : Int) < (n : Int) % 512) = true := decide_eq_true (by omega)
    have HM : Hid ((n : Int) / 512 + 1 = (m : Int)) := (show _ = _ by omega)
    clear hm
    go_enter Try.func21, Try.ntmps21
    go_wp2
    go_ret
    exact ⟨ret_i HM.out, rfl⟩

set_option maxRecDepth 100000 in
set_option maxHeartbeats 400000 in
theorem back_none (w : World) (s p : Int) (A : Option Addr) (n cA : Nat) (F : Bool) (hs : s < 2 ∨ 128 < s) (_hsb : -9223372036854775808 ≤ s ∧ s ≤ 9223372036854775807) (t0 : Bool) (f0 : decide (s < 2) = t0) (t1 : Bool) (f1 : decide (128 < s) = t1) (hf : t0 = true ∨ (t0 = false ∧ t1 = true)) :
    Calls Try.prog 4 #[.int .i64 s, .int .i64 p, .slice A n cA, .bool F] w fun e w' => e = .returned (.bool true) ∧ Below w.heap.size w w' := by
  have HNW := Lib.hid (fun W => dnew_no W s hs)
  clear hs
  rcases hf with rfl | ⟨rfl, rfl⟩
  · go_enter Try.func4, Try.ntmps4
    go_wp2_with fail
    refine (up5_any w).mono ?_
    rintro e w1 ⟨rfl, hb1⟩
    go_wp2_with fail
    with_reducible refine (HNW.out w1).mono ?_
    rintro e w2 ⟨rfl, rfl⟩
    go_wp2
    go_ret
    exact ⟨rfl, hb1⟩
  · go_enter Try.func4, Try.ntmps4
    go_wp2_with fail
    refine (up5_any w).mono ?_
    rintro e w1 ⟨rfl, hb1⟩
    go_wp2_with fail
    with_reducible refine (HNW.out w1).mono ?_
    rintro e w2 ⟨rfl, rfl⟩
    go_wp2
    go_ret
    exact ⟨rfl, hb1⟩

set_option maxRecDepth 100000 in
set_option maxHeartbeats 400000 in
theorem back_long (w : World) (N : Nat) (hN1 : 2 ≤ N) (hN2 : N ≤ 128) (p : Int) (A : Option Addr) (n cA : Nat) (F : Bool) (hn : 70000 < n) (_hn2 : n ≤ 9223372036854775807) :
    Calls Try.prog 4 #[.int .i64 (N : Int), .int .i64 p, .slice A n cA, .bool F] w fun e w' => e = .returned (.bool true) ∧ Below w.heap.size w w' := by
  have f0 : decide ((N : Int) < 2) = false := decide_eq_false (by omega)
  have f1 : decide ((128 : Int) < (N : Int)) = false := decide_eq_false (by omega)
  have s1 : decide ((70000 : Int) < (n : Int)) = true := decide_eq_true (by omega)
  have HNW := Lib.hid (fun W => dnew_yes W N hN1 hN2)
  go_enter Try.func4, Try.ntmps4
  go_wp2_with fail
  refine (up5_any w).mono ?_
  rintro e w1 ⟨rfl, hb1⟩
  go_wp2_with fail
  with_reducible refine (HNW.out w1).mono ?_
  rintro e w2 ⟨rfl, _, hb2⟩
  have HB2 := Lib.hid (hb1.trans (hb2.mono hb1.size))
  clear hb1 hb2 HNW
  go_wp2
  go_ret
  exact ⟨rfl, HB2.out⟩

set_option maxRecDepth 100000 in
set_option maxHeartbeats 4000000 in
theorem back_arg (w : World) (N : Nat) (hN1 : 2 ≤ N) (hN2 : N ≤ 128) (p : Int) (A : Option Addr) (cA : Nat) (b : List UInt8) (hr : Rd w w.heap.size A b.length b) (_hbc : b.length ≤ cA) (_hcm : cA ≤ 9223372036854775807) (hbl : b.length ≤ 70000) (F : Bool) (hfit : p < 0 ∨ (N : Int) < p + need b.length) :
    Calls Try.prog 4 #[.int .i64 (N : Int), .int .i64 p, .slice A b.length cA, .bool F] w fun e w' => e = .returned (.bool true) ∧ Below w.heap.size w w' := by
  have f0 : decide ((N : Int) < 2) = false := decide_eq_false (by omega)
  have f1 : decide ((128 : Int) < (N : Int)) = false := decide_eq_false (by omega)
  have s1 : decide ((70000 : Int) < (b.length : Int)) = false := decide_eq_false (by omega)
  have HNW := Lib.hid (fun W => dnew_yes W N hN1 hN2)
  have HR := Lib.hid hr
  clear hr
  go_enter Try.func4, Try.ntmps4
  go_wp2_with fail
  refine (up5_any w).mono ?_
  rintro e w1 ⟨rfl, hb1⟩
  go_wp2_with fail
  with_reducible refine (HNW.out w1).mono ?_
  rintro e w2 ⟨rfl, k2, hb2⟩
  have HB2 := Lib.hid (hb1.trans (hb2.mono hb1.size))
  have HS1 := Lib.hid hb1.size
  obtain ⟨g, hg⟩ : ∃ g, w1.heap.size + 1 = g := ⟨_, rfl⟩
  obtain ⟨h, hh⟩ : ∃ h, w1.heap.size = h := ⟨_, rfl⟩
  obtain ⟨z, hz⟩ : ∃ z, List.replicate (N * 512) (0 : UInt8) = z := ⟨_, rfl⟩
  have hzl : z.length = 512 * N := by rw [← hz, List.length_replicate]; omega
  rw [hg, hz] at k2
  rw [hg]
  have HH := Lib.hid hh
  obtain ⟨S, hS⟩ : ∃ S, grow (fun _ => False) w1 w2 = S := ⟨_, rfl⟩
  have hSB : ∀ j, S j → w.heap.size ≤ j := fun j hj => by
    rw [← hS] at hj
    rcases hj with hj | hj
    · cases hj
    · have := hb1.size; omega
  rw [hS] at k2
  have HZL := Lib.hid hzl
  have HZ := Lib.hid hz
  have HSB := Lib.hid hSB
  have HWR := Lib.hid (ewrite_arg k2 N hzl hN2 p A b.length cA (by omega) hfit)
  have HWT := Lib.hid (dwaiting_any k2)
  clear HNW hb1 hb2 hg hh hz hzl hS hSB k2 hfit
  go_wp2_with fail
  with_reducible refine HWR.out.mono ?_
  rintro e w3 ⟨rfl, rfl⟩
  go_wp2_with fail
  with_reducible refine HWT.out.mono ?_
  rintro e w3 ⟨rfl, rfl⟩
  go_wp2
  go_ret
  exact ⟨rfl, HB2.out⟩

set_option maxRecDepth 100000 in
set_option maxHeartbeats 4000000 in
theorem back_true (w : World) (N : Nat) (hN1 : 2 ≤ N) (hN2 : N ≤ 128) (p : Nat) (A : Option Addr) (cA : Nat) (b : List UInt8) (hr : Rd w w.heap.size A b.length b) (hbc : b.length ≤ cA) (hcm : cA ≤ 9223372036854775807) (hbl : b.length ≤ 70000) (K : Nat) (hK : need b.length = K) (hfit : p + K ≤ N) :
    Calls Try.prog 4 #[.int .i64 (N : Int), .int .i64 (p : Int), .slice A b.length cA, .bool true] w fun e w' => e = .returned (.bool true) ∧ Below w.heap.size w w' := by
  have f0 : decide ((N : Int) < 2) = false := decide_eq_false (by omega)
  have f1 : decide ((128 : Int) < (N : Int)) = false := decide_eq_false (by omega)
  have s1 : decide ((70000 : Int) < (b.length : Int)) = false := decide_eq_false (by omega)
  have HNW := Lib.hid (fun W => dnew_yes W N hN1 hN2)
  have HR := Lib.hid hr
  clear hr
  go_enter Try.func4, Try.ntmps4
  go_wp2_with fail
  refine (up5_any w).mono ?_
  rintro e w1 ⟨rfl, hb1⟩
  go_wp2_with fail
  with_reducible refine (HNW.out w1).mono ?_
  rintro e w2 ⟨rfl, k2, hb2⟩
  have HB2 := Lib.hid (hb1.trans (hb2.mono hb1.size))
  have HS1 := Lib.hid hb1.size
  obtain ⟨g, hg⟩ : ∃ g, w1.heap.size + 1 = g := ⟨_, rfl⟩
  obtain ⟨h, hh⟩ : ∃ h, w1.heap.size = h := ⟨_, rfl⟩
  obtain ⟨z, hz⟩ : ∃ z, List.replicate (N * 512) (0 : UInt8) = z := ⟨_, rfl⟩
  have hzl : z.length = 512 * N := by rw [← hz, List.length_replicate]; omega
  rw [hg, hz] at k2
  rw [hg]
  have HH := Lib.hid hh
  obtain ⟨S, hS⟩ : ∃ S, grow (fun _ => False) w1 w2 = S := ⟨_, rfl⟩
  have hSB : ∀ j, S j → w.heap.size ≤ j := fun j hj => by
    rw [← hS] at hj
    rcases hj with hj | hj
    · cases hj
    · have := hb1.size; omega
  rw [hS] at k2
  have HZL := Lib.hid hzl
  have HZ := Lib.hid hz
  have HSB := Lib.hid hSB
  have HWR := Lib.hid (ewrite_fit k2 N hzl hN2 (by simp) (by omega) p A cA b ((HR.out.below HB2.out).more HB2.out.size) hbc hcm (fun h0 a e hs => by
    have h1 := hSB _ hs
    subst e
    obtain ⟨b', o', e', hlt, _⟩ := HR.out.2 h0
    injection e' with e'
    subst e'
    dsimp only at h1
    omega) K hK hfit K (by simp [wk]))
  have HKK := Lib.hid hK
  clear HNW hb1 hb2 hg hh hz hzl hS hSB k2
  go_wp2_with fail
  with_reducible refine HWR.out.mono ?_
  rintro e w3 ⟨he, ⟨W3, cw3, vs, k3, hvs⟩, t3⟩
  rw [if_neg (by omega)] at he
  subst he
  rw [List.map_nil, List.nil_append] at hvs
  rw [show (false || decide (K < K)) = false by simp, show wleft (-1) K = -1 by simp [wleft]] at k3
  have HFL := dflush_ok k3 (by have := HZL.out; omega)
  rw [hvs] at HFL
  have HFL := Lib.hid HFL
  have HFT : Hid (Fits z.length (puts p b K)) := (show Fits _ _ by rw [← hvs]; exact k3.fits)
  have HT3 := Lib.hid t3
  clear k3 hvs t3 HWR
  go_wp2_with fail
  with_reducible refine HFL.out.mono ?_
  rintro e w4 ⟨rfl, k4, t4⟩
  obtain ⟨bs, hbs⟩ : ∃ bs, stand z (puts p b K) = bs := ⟨_, rfl⟩
  have hbl4 : bs.length = 512 * N := by rw [← hbs, stand_length _ _ HFT.out]; exact HZL.out
  have hrd : ∀ q j, rdAll bs (([] : List Wr).map Wr.two) q j = rdAll z (puts p b K) q j := fun q j => by rw [← hbs]; exact rdAll_stand z _ q j HFT.out
  rw [hbs] at k4
  have b4 : Below w.heap.size w w4 := HB2.out.trans (((HT3.out.regrow t4)).below (fun j hj => HSB.out j hj) HB2.out.size)
  clear hbs HFL HFT HT3 t4
  have h1 : (rdAll z (puts p b K) p K).take b.length = b := by rw [rdAll_puts]; exact padAll_take b K HKK.out
  have h2 : (rdAll z (puts p b K) 0 p).take (512 * p) = List.replicate (512 * p) 0 := by rw [← HZ.out, rdAll_zeros N p b K 0 p (by omega) (by omega), List.take_of_length_le (by simp)]
  have h3 : (rdAll z (puts p b K) (p + K) (N - (p + K))).take (512 * (N - (p + K))) = List.replicate (512 * (N - (p + K))) 0 := by rw [← HZ.out, rdAll_zeros N p b K (p + K) (N - (p + K)) (by omega) (by omega), List.take_of_length_le (by simp)]
  obtain ⟨o2, ho2⟩ : ∃ o2, List.replicate (512 * p) (0 : UInt8) = o2 := ⟨_, rfl⟩
  obtain ⟨o3, ho3⟩ : ∃ o3, List.replicate (512 * (N - (p + K))) (0 : UInt8) = o3 := ⟨_, rfl⟩
  have l2 : o2.length = 512 * p := by rw [← ho2, List.length_replicate]
  have l3 : o3.length = 512 * (N - (p + K)) := by rw [← ho3, List.length_replicate]
  have e3 : ((512 * (N - (p + K)) : Nat) : Int) = 512 * ((N : Int) - ((p : Int) + (K : Int))) := by omega
  have e2 : ((512 * p : Nat) : Int) = 512 * (p : Int) := by omega
  have m2 := run_zeros (512 * p) (by omega) o2 ho2
  have m3 := run_zeros (512 * (N - (p + K))) (by omega) o3 ho3
  rw [e2] at m2
  rw [e3] at m3
  have M2 := Lib.hid m2
  have M3 := Lib.hid m3
  have R1 := eread_fit k4 N hbl4 hN2 p b.length K HKK.out hfit (by simp) b (by rw [hrd]; exact h1)
  have R2 := fun W (hb : Below w4.heap.size w4 W) => eread_fit (k4.below hb) N hbl4 hN2 0 (512 * p) p (by unfold need; omega) (by omega) (by simp) o2 (by rw [hrd, ← ho2]; exact h2)
  have R3 := fun W (hb : Below w4.heap.size w4 W) => eread_fit (k4.below hb) N hbl4 hN2 (p + K) (512 * (N - (p + K))) (N - (p + K)) (by unfold need; omega) (by omega) (by simp) o3 (by rw [hrd, ← ho3]; exact h3)
  rw [e2] at R2
  rw [e3, Int.natCast_add] at R3
  have R1 := Lib.hid R1
  have R2 := Lib.hid R2
  have R3 := Lib.hid R3
  have HB4 := Lib.hid b4
  have L2 := Lib.hid l2
  have L3 := Lib.hid l3
  have HSE := Lib.hid (fun W => rsectors_any W b.length (by omega) K HKK.out)
  clear h1 h2 h3 ho2 ho3 l2 l3 e2 e3 m2 m3 k4 hrd b4 hbl4 HZ HZL HSB HH
  go_wp2_with fail
  with_reducible refine R1.out.mono ?_
  rintro e w5 ⟨A5, c5, rfl, o5, b5⟩
  have HB5 := Lib.hid b5
  have HR5 := Lib.hid (Rd.own' o5).1
  clear R1 o5 b5
  go_wp2_with fail
  refine (R2.out w5 HB5.out).mono ?_
  rintro e w6 ⟨A6, c6, rfl, o6, b6⟩
  have HB6 := Lib.hid (HB5.out.trans (b6.mono HB5.out.size))
  have HR56 := Lib.hid ((HR5.out.below b6).more b6.size)
  have HR6 := Lib.hid (Rd.own' o6).1
  rw [L2.out] at HR6 ⊢
  clear R2 o6 b6 HR5 HB5
  go_wp2_with fail
  with_reducible refine (HSE.out w6).mono ?_
  rintro e w7 ⟨rfl, rfl⟩
  clear HSE
  go_wp2_with fail
  with_reducible refine (R3.out w6 HB6.out).mono ?_
  rintro e w7 ⟨A7, c7, rfl, o7, b7⟩
  rw [L3.out]
  have r5 := (HR56.out.below b7).more b7.size
  have r6 := (HR6.out.below b7).more b7.size
  have r7 := (Rd.own' o7).1
  rw [L3.out] at r7
  have hb7 : Below w.heap.size w w7 := HB4.out.trans ((HB6.out.trans (b7.mono HB6.out.size)).mono HB4.out.size)
  have rb := HR.out.below hb7
  have q5 := conv_rd (c := c5) r5
  have qb := conv_rd (c := cA) rb
  have HR6 := Lib.hid r6
  have HR7 := Lib.hid r7
  have HB7 := Lib.hid hb7
  clear o7 b7 r5 r6 r7 hb7 rb R3 HR56 HB6
  go_wp2_with fail
  clear q5 qb f0 f1 s1
  refine wp_region_tail w7.heap.size [([0, 1, 2, 3, 4, 5], 6), ([7, 8, 9, 10, 11, 12, 13, 14, 15, 16], 17)] [18, 19, 20, 21] [] (by kernel_rfl) (by kernel_rfl) (by kernel_rfl) (fun _ _ _ _ _ h => h) ?_
  obtain ⟨w8, hw8⟩ : ∃ w8, w7.drew = w8 := ⟨_, rfl⟩
  have hz8 : w7.heap.size = w8.heap.size := by rw [← hw8]; rfl
  have r6 : Rd w8 w8.heap.size A6 (512 * p) o2 := by rw [← hw8]; exact HR6.out
  have r7 : Rd w8 w8.heap.size A7 (512 * (N - (p + K))) o3 := by rw [← hw8]; exact HR7.out
  have b8 : Below w.heap.size w w8 := by rw [← hw8]; exact HB7.out.drew
  rw [hw8, hz8]
  clear hw8 hz8 HR6 HR7 HB7
  have q1 := conv_B r6
  refine tail_cons (l := ?seg1) ?hseg1 ?_
  case hseg1 => simp only [pick, List.getElem?_toArray, List.getElem?_cons_succ, List.getElem?_cons_zero]; rfl
  repeat (go_big_quiet_step (fail))
  refine wpQuiet_nil ?_
  clear q1
  obtain ⟨w9, hw9⟩ : ∃ w9, w8.alloc (.cells (rowB o2) 5) = w9 := ⟨_, rfl⟩
  have hb9 : Below w8.heap.size w8 w9 := by rw [← hw9]; exact (Below.refl _ _).alloc (Nat.le_refl _) _
  have f9 : Fill w9 w8.heap.size 5 o2 := by rw [← hw9]; exact Fill.made w8 _ _
  have r9 := f9.reads
  rw [L2.out] at r9
  have hm9 := M2.out w8
  rw [hw9] at hm9
  refine tail_val2 (w1 := w9) (v := .slice (some ⟨w8.heap.size, 0, none⟩) (512 * p) (512 * p)) (some 120) rfl rfl rfl ?rv1 hb9 ?_
  case rv1 => exact mslice_run rfl rfl rfl hm9
  refine ⟨w9.heap.size, hb9.size, ?_⟩
  have q1 := conv_B r9
  have q2 := conv_B ((r7.below hb9).more hb9.size)
  refine tail_cons (l := ?seg2) ?hseg2 ?_
  case hseg2 => simp only [pick, List.getElem?_toArray, List.getElem?_cons_succ, List.getElem?_cons_zero]; rfl
  simp only [Act.put, List.setIfInBounds_toArray, List.set_cons_zero, List.set_cons_succ]
  repeat (go_big_quiet_step (fail))
  refine wpQuiet_nil ?_
  clear q1 q2
  obtain ⟨w10, hw10⟩ : ∃ w10, w9.alloc (.cells (rowB o3) 5) = w10 := ⟨_, rfl⟩
  have hb10 : Below w9.heap.size w9 w10 := by rw [← hw10]; exact (Below.refl _ _).alloc (Nat.le_refl _) _
  have f10 : Fill w10 w9.heap.size 5 o3 := by rw [← hw10]; exact Fill.made w9 _ _
  have r10 := f10.reads
  rw [L3.out] at r10
  have hm10 := M3.out w9
  rw [hw10] at hm10
  refine tail_val2 (w1 := w10) (v := .slice (some ⟨w9.heap.size, 0, none⟩) (512 * (N - (p + K))) (512 * (N - (p + K)))) (some 131) rfl rfl rfl ?rv2 hb10 ?_
  case rv2 => exact mslice_run rfl rfl rfl hm10
  refine ⟨w10.heap.size, hb10.size, ?_⟩
  have q1 := conv_B r10
  refine tail_last (l := ?la3) (t := []) ?hla3 ?htl3 ?_
  case hla3 => simp only [pick, List.getElem?_toArray, List.getElem?_cons_succ, List.getElem?_cons_zero]; rfl
  case htl3 => rfl
  simp only [Act.put, List.setIfInBounds_toArray, List.set_cons_zero, List.set_cons_succ]
  repeat (go_big_quiet_step (fail))
  refine wpQuiet_nil ?_
  have HBE : Hid (Below w.heap.size w w10) := b8.trans ((hb9.trans (hb10.mono hb9.size)).mono b8.size)
  clear q1 hm9 hm10 hw9 hw10 hb9 hb10 f9 f10 r9 r10 M2 M3
  go_wp2
  go_ret
  exact ⟨rfl, HBE.out⟩

set_option maxRecDepth 100000 in
set_option maxHeartbeats 4000000 in
theorem back_false (w : World) (N : Nat) (hN1 : 2 ≤ N) (hN2 : N ≤ 128) (p : Nat) (A : Option Addr) (cA : Nat) (b : List UInt8) (hr : Rd w w.heap.size A b.length b) (hbc : b.length ≤ cA) (hcm : cA ≤ 9223372036854775807) (hbl : b.length ≤ 70000) (K : Nat) (hK : need b.length = K) (hfit : p + K ≤ N) :
    Calls Try.prog 4 #[.int .i64 (N : Int), .int .i64 (p : Int), .slice A b.length cA, .bool false] w fun e w' => e = .returned (.bool true) ∧ Below w.heap.size w w' := by
  have f0 : decide ((N : Int) < 2) = false := decide_eq_false (by omega)
  have f1 : decide ((128 : Int) < (N : Int)) = false := decide_eq_false (by omega)
  have s1 : decide ((70000 : Int) < (b.length : Int)) = false := decide_eq_false (by omega)
  have HNW := Lib.hid (fun W => dnew_yes W N hN1 hN2)
  have HR := Lib.hid hr
  clear hr
  go_enter Try.func4, Try.ntmps4
  go_wp2_with fail
  refine (up5_any w).mono ?_
  rintro e w1 ⟨rfl, hb1⟩
  go_wp2_with fail
  with_reducible refine (HNW.out w1).mono ?_
  rintro e w2 ⟨rfl, k2, hb2⟩
  have HB2 := Lib.hid (hb1.trans (hb2.mono hb1.size))
  have HS1 := Lib.hid hb1.size
  obtain ⟨g, hg⟩ : ∃ g, w1.heap.size + 1 = g := ⟨_, rfl⟩
  obtain ⟨h, hh⟩ : ∃ h, w1.heap.size = h := ⟨_, rfl⟩
  obtain ⟨z, hz⟩ : ∃ z, List.replicate (N * 512) (0 : UInt8) = z := ⟨_, rfl⟩
  have hzl : z.length = 512 * N := by rw [← hz, List.length_replicate]; omega
  rw [hg, hz] at k2
  rw [hg]
  have HH := Lib.hid hh
  obtain ⟨S, hS⟩ : ∃ S, grow (fun _ => False) w1 w2 = S := ⟨_, rfl⟩
  have hSB : ∀ j, S j → w.heap.size ≤ j := fun j hj => by
    rw [← hS] at hj
    rcases hj with hj | hj
    · cases hj
    · have := hb1.size; omega
  rw [hS] at k2
  have HZL := Lib.hid hzl
  have HZ := Lib.hid hz
  have HSB := Lib.hid hSB
  have HWR := Lib.hid (ewrite_fit k2 N hzl hN2 (by simp) (by omega) p A cA b ((HR.out.below HB2.out).more HB2.out.size) hbc hcm (fun h0 a e hs => by
    have h1 := hSB _ hs
    subst e
    obtain ⟨b', o', e', hlt, _⟩ := HR.out.2 h0
    injection e' with e'
    subst e'
    dsimp only at h1
    omega) K hK hfit K (by simp [wk]))
  have HKK := Lib.hid hK
  clear HNW hb1 hb2 hg hh hz hzl hS hSB k2
  go_wp2_with fail
  with_reducible refine HWR.out.mono ?_
  rintro e w3 ⟨he, ⟨W3, cw3, vs, k3, hvs⟩, t3⟩
  rw [if_neg (by omega)] at he
  subst he
  rw [List.map_nil, List.nil_append] at hvs
  rw [show (false || decide (K < K)) = false by simp, show wleft (-1) K = -1 by simp [wleft]] at k3
  have hrd : ∀ q j, rdAll z (vs.map Wr.two) q j = rdAll z (puts p b K) q j := fun q j => by rw [hvs]
  have hbl4 : z.length = 512 * N := HZL.out
  have b4 : Below w.heap.size w w3 := HB2.out.trans (t3.below (fun j hj => HSB.out j hj) HB2.out.size)
  have k4 := k3
  clear k3 t3 hvs HWR
  have h1 : (rdAll z (puts p b K) p K).take b.length = b := by rw [rdAll_puts]; exact padAll_take b K HKK.out
  have h2 : (rdAll z (puts p b K) 0 p).take (512 * p) = List.replicate (512 * p) 0 := by rw [← HZ.out, rdAll_zeros N p b K 0 p (by omega) (by omega), List.take_of_length_le (by simp)]
  have h3 : (rdAll z (puts p b K) (p + K) (N - (p + K))).take (512 * (N - (p + K))) = List.replicate (512 * (N - (p + K))) 0 := by rw [← HZ.out, rdAll_zeros N p b K (p + K) (N - (p + K)) (by omega) (by omega), List.take_of_length_le (by simp)]
  obtain ⟨o2, ho2⟩ : ∃ o2, List.replicate (512 * p) (0 : UInt8) = o2 := ⟨_, rfl⟩
  obtain ⟨o3, ho3⟩ : ∃ o3, List.replicate (512 * (N - (p + K))) (0 : UInt8) = o3 := ⟨_, rfl⟩
  have l2 : o2.length = 512 * p := by rw [← ho2, List.length_replicate]
  have l3 : o3.length = 512 * (N - (p + K)) := by rw [← ho3, List.length_replicate]
  have e3 : ((512 * (N - (p + K)) : Nat) : Int) = 512 * ((N : Int) - ((p : Int) + (K : Int))) := by omega
  have e2 : ((512 * p : Nat) : Int) = 512 * (p : Int) := by omega
  have m2 := run_zeros (512 * p) (by omega) o2 ho2
  have m3 := run_zeros (512 * (N - (p + K))) (by omega) o3 ho3
  rw [e2] at m2
  rw [e3] at m3
  have M2 := Lib.hid m2
  have M3 := Lib.hid m3
  have R1 := eread_fit k4 N hbl4 hN2 p b.length K HKK.out hfit (by simp) b (by rw [hrd]; exact h1)
  have R2 := fun W (hb : Below w3.heap.size w3 W) => eread_fit (k4.below hb) N hbl4 hN2 0 (512 * p) p (by unfold need; omega) (by omega) (by simp) o2 (by rw [hrd, ← ho2]; exact h2)
  have R3 := fun W (hb : Below w3.heap.size w3 W) => eread_fit (k4.below hb) N hbl4 hN2 (p + K) (512 * (N - (p + K))) (N - (p + K)) (by unfold need; omega) (by omega) (by simp) o3 (by rw [hrd, ← ho3]; exact h3)
  rw [e2] at R2
  rw [e3, Int.natCast_add] at R3
  have R1 := Lib.hid R1
  have R2 := Lib.hid R2
  have R3 := Lib.hid R3
  have HB4 := Lib.hid b4
  have L2 := Lib.hid l2
  have L3 := Lib.hid l3
  have HSE := Lib.hid (fun W => rsectors_any W b.length (by omega) K HKK.out)
  clear h1 h2 h3 ho2 ho3 l2 l3 e2 e3 m2 m3 k4 hrd b4 hbl4 HZ HZL HSB HH
  go_wp2_with fail
  with_reducible refine R1.out.mono ?_
  rintro e w5 ⟨A5, c5, rfl, o5, b5⟩
  have HB5 := Lib.hid b5
  have HR5 := Lib.hid (Rd.own' o5).1
  clear R1 o5 b5
  go_wp2_with fail
  refine (R2.out w5 HB5.out).mono ?_
  rintro e w6 ⟨A6, c6, rfl, o6, b6⟩
  have HB6 := Lib.hid (HB5.out.trans (b6.mono HB5.out.size))
  have HR56 := Lib.hid ((HR5.out.below b6).more b6.size)
  have HR6 := Lib.hid (Rd.own' o6).1
  rw [L2.out] at HR6 ⊢
  clear R2 o6 b6 HR5 HB5
  go_wp2_with fail
  with_reducible refine (HSE.out w6).mono ?_
  rintro e w7 ⟨rfl, rfl⟩
  clear HSE
  go_wp2_with fail
  with_reducible refine (R3.out w6 HB6.out).mono ?_
  rintro e w7 ⟨A7, c7, rfl, o7, b7⟩
  rw [L3.out]
  have r5 := (HR56.out.below b7).more b7.size
  have r6 := (HR6.out.below b7).more b7.size
  have r7 := (Rd.own' o7).1
  rw [L3.out] at r7
  have hb7 : Below w.heap.size w w7 := HB4.out.trans ((HB6.out.trans (b7.mono HB6.out.size)).mono HB4.out.size)
  have rb := HR.out.below hb7
  have q5 := conv_rd (c := c5) r5
  have qb := conv_rd (c := cA) rb
  have HR6 := Lib.hid r6
  have HR7 := Lib.hid r7
  have HB7 := Lib.hid hb7
  clear o7 b7 r5 r6 r7 hb7 rb R3 HR56 HB6
  go_wp2_with fail
  clear q5 qb f0 f1 s1
  refine wp_region_tail w7.heap.size [([0, 1, 2, 3, 4, 5], 6), ([7, 8, 9, 10, 11, 12, 13, 14, 15, 16], 17)] [18, 19, 20, 21] [] (by kernel_rfl) (by kernel_rfl) (by kernel_rfl) (fun _ _ _ _ _ h => h) ?_
  obtain ⟨w8, hw8⟩ : ∃ w8, w7.drew = w8 := ⟨_, rfl⟩
  have hz8 : w7.heap.size = w8.heap.size := by rw [← hw8]; rfl
  have r6 : Rd w8 w8.heap.size A6 (512 * p) o2 := by rw [← hw8]; exact HR6.out
  have r7 : Rd w8 w8.heap.size A7 (512 * (N - (p + K))) o3 := by rw [← hw8]; exact HR7.out
  have b8 : Below w.heap.size w w8 := by rw [← hw8]; exact HB7.out.drew
  rw [hw8, hz8]
  clear hw8 hz8 HR6 HR7 HB7
  have q1 := conv_B r6
  refine tail_cons (l := ?seg1) ?hseg1 ?_
  case hseg1 => simp only [pick, List.getElem?_toArray, List.getElem?_cons_succ, List.getElem?_cons_zero]; rfl
  repeat (go_big_quiet_step (fail))
  refine wpQuiet_nil ?_
  clear q1
  obtain ⟨w9, hw9⟩ : ∃ w9, w8.alloc (.cells (rowB o2) 5) = w9 := ⟨_, rfl⟩
  have hb9 : Below w8.heap.size w8 w9 := by rw [← hw9]; exact (Below.refl _ _).alloc (Nat.le_refl _) _
  have f9 : Fill w9 w8.heap.size 5 o2 := by rw [← hw9]; exact Fill.made w8 _ _
  have r9 := f9.reads
  rw [L2.out] at r9
  have hm9 := M2.out w8
  rw [hw9] at hm9
  refine tail_val2 (w1 := w9) (v := .slice (some ⟨w8.heap.size, 0, none⟩) (512 * p) (512 * p)) (some 120) rfl rfl rfl ?rv1 hb9 ?_
  case rv1 => exact mslice_run rfl rfl rfl hm9
  refine ⟨w9.heap.size, hb9.size, ?_⟩
  have q1 := conv_B r9
  have q2 := conv_B ((r7.below hb9).more hb9.size)
  refine tail_cons (l := ?seg2) ?hseg2 ?_
  case hseg2 => simp only [pick, List.getElem?_toArray, List.getElem?_cons_succ, List.getElem?_cons_zero]; rfl
  simp only [Act.put, List.setIfInBounds_toArray, List.set_cons_zero, List.set_cons_succ]
  repeat (go_big_quiet_step (fail))
  refine wpQuiet_nil ?_
  clear q1 q2
  obtain ⟨w10, hw10⟩ : ∃ w10, w9.alloc (.cells (rowB o3) 5) = w10 := ⟨_, rfl⟩
  have hb10 : Below w9.heap.size w9 w10 := by rw [← hw10]; exact (Below.refl _ _).alloc (Nat.le_refl _) _
  have f10 : Fill w10 w9.heap.size 5 o3 := by rw [← hw10]; exact Fill.made w9 _ _
  have r10 := f10.reads
  rw [L3.out] at r10
  have hm10 := M3.out w9
  rw [hw10] at hm10
  refine tail_val2 (w1 := w10) (v := .slice (some ⟨w9.heap.size, 0, none⟩) (512 * (N - (p + K))) (512 * (N - (p + K)))) (some 131) rfl rfl rfl ?rv2 hb10 ?_
  case rv2 => exact mslice_run rfl rfl rfl hm10
  refine ⟨w10.heap.size, hb10.size, ?_⟩
  have q1 := conv_B r10
  refine tail_last (l := ?la3) (t := []) ?hla3 ?htl3 ?_
  case hla3 => simp only [pick, List.getElem?_toArray, List.getElem?_cons_succ, List.getElem?_cons_zero]; rfl
  case htl3 => rfl
  simp only [Act.put, List.setIfInBounds_toArray, List.set_cons_zero, List.set_cons_succ]
  repeat (go_big_quiet_step (fail))
  refine wpQuiet_nil ?_
  have HBE : Hid (Below w.heap.size w w10) := b8.trans ((hb9.trans (hb10.mono hb9.size)).mono b8.size)
  clear q1 hm9 hm10 hw9 hw10 hb9 hb10 f9 f10 r9 r10 M2 M3
  go_wp2
  go_ret
  exact ⟨rfl, HBE.out⟩
end Go.Proofs.Ytkddcfaomaphaaa
