/- The walk of the law DiskPlays: it returns true and writes nothing that was there. -/
import Derived.Test.YtbalmacabojbpaaDo4
namespace Go.Proofs.Ytbalmacabojbpaa
open Go.RowKit

set_option maxRecDepth 100000 in
set_option maxHeartbeats 2000000 in
theorem dplays_long (w : World) (A : Option Addr) (n c : Nat) (s : Int) (L : Option Addr) (m cl : Nat) (hn : n ≤ 9223372036854775807) (hm : m ≤ 9223372036854775807) (h : 70000 < n ∨ 100 < m) :
    Calls Try.prog 4 #[.slice A n c, .int .i64 s, .slice L m cl] w fun e w' => e = .returned (.bool true) ∧ Below w.heap.size w w' := by
  by_cases h1 : 70000 < n
  · have s1 : decide ((70000 : Int) < (n : Int)) = true := decide_eq_true (by omega)
    clear h
    go_enter Try.func4, Try.ntmps4
    go_wp2_with fail
    refine (up4_any _).mono ?_
    rintro e w1 ⟨rfl, hb1⟩
    go_wp2
    go_ret
    exact ⟨rfl, hb1⟩
  · have s1 : decide ((70000 : Int) < (n : Int)) = false := decide_eq_false (by omega)
    have s2 : decide ((100 : Int) < (m : Int)) = true := decide_eq_true (by omega)
    clear h
    go_enter Try.func4, Try.ntmps4
    go_wp2_with fail
    refine (up4_any _).mono ?_
    rintro e w1 ⟨rfl, hb1⟩
    go_wp2
    go_ret
    exact ⟨rfl, hb1⟩

set_option maxRecDepth 100000 in
set_option maxHeartbeats 2000000 in
theorem dplays_no_y (w : World) (A : Option Addr) (n c : Nat) (s : Int) (L : Option Addr) (m cl : Nat) (hn : n ≤ 70000) (hm : m ≤ 100) (S : Nat) (hs : s = (S : Int)) (hs1 : 2 ≤ S) (hs2 : S ≤ 128) (a0 a1 a2 : Bool) (e0 : ((n : Int) % 512 == 0) = a0) (e1 : decide ((1024 : Int) ≤ (n : Int)) = a1) (e2 : decide ((n : Int) ≤ 65536) = a2)
    (ha : a0 = false ∨ (a0 = true ∧ a1 = false) ∨ (a0 = true ∧ a1 = true ∧ a2 = false)) (HOF : Hid (∀ W, Calls Try.prog 15 #[.slice A n c] W fun e w' => e = .returned (.pointer none) ∧ W = w')) :
    Calls Try.prog 4 #[.slice A n c, .int .i64 s, .slice L m cl] w fun e w' => e = .returned (.bool true) ∧ Below w.heap.size w w' := by
  subst hs
  have t2 : decide ((2 : Int) ≤ (S : Int)) = true := decide_eq_true (by omega)
  have t3 : decide ((S : Int) ≤ 128) = true := decide_eq_true (by omega)
  have HNW := Lib.hid (fun W => dnew_yes W S hs1 hs2)
  have HSL : Hid ((List.replicate (S * 512) (0 : UInt8)).length ≤ 100000) := (show _ ≤ _ by rw [List.length_replicate]; omega)
  have HSE : Hid ((List.replicate (S * 512) (0 : UInt8)).length / 512 = S) := (show _ = _ by rw [List.length_replicate]; omega)
  have s1 : decide ((70000 : Int) < (n : Int)) = false := decide_eq_false (by omega)
  have s2 : decide ((100 : Int) < (m : Int)) = false := decide_eq_false (by omega)
  go_enter Try.func4, Try.ntmps4
  go_wp2_with fail
  refine (up4_any _).mono ?_
  rintro e w1 ⟨rfl, hb1⟩
  go_wp2_with fail
  with_reducible refine (HOF.out w1).mono ?_
  rintro e w2 ⟨rfl, rfl⟩
  clear HOF
  rcases ha with rfl | ⟨rfl, rfl⟩ | ⟨rfl, rfl, rfl⟩
  all_goals
    go_wp2_with fail
    with_reducible refine (HNW.out w1).mono ?_
    rintro e w3 ⟨rfl, kf, bf⟩
    have hsx := dsectors_any kf HSL.out
    rw [HSE.out] at hsx
    have HSX := Lib.hid hsx
    have BF := Lib.hid bf
    obtain ⟨gf, hgf⟩ : ∃ gf, w1.heap.size + 1 = gf := ⟨_, rfl⟩
    rw [hgf] at HSX ⊢
    clear kf bf hsx HNW hgf
    go_wp2_with fail
    with_reducible refine HSX.out.mono ?_
    rintro e w9 ⟨rfl, rfl⟩
    clear HSX t2 t3
    go_wp2
    go_ret
    exact ⟨rfl, hb1.trans (BF.out.mono hb1.size)⟩

set_option maxRecDepth 100000 in
set_option maxHeartbeats 2000000 in
theorem dplays_no_n (w : World) (A : Option Addr) (n c : Nat) (s : Int) (L : Option Addr) (m cl : Nat) (hn : n ≤ 70000) (hm : m ≤ 100) (hs : s < 2 ∨ 128 < s) (_hsb : -9223372036854775808 ≤ s ∧ s ≤ 9223372036854775807) (a0 a1 a2 : Bool) (e0 : ((n : Int) % 512 == 0) = a0) (e1 : decide ((1024 : Int) ≤ (n : Int)) = a1) (e2 : decide ((n : Int) ≤ 65536) = a2)
    (ha : a0 = false ∨ (a0 = true ∧ a1 = false) ∨ (a0 = true ∧ a1 = true ∧ a2 = false)) (t0 t1 : Bool) (f0 : decide ((2 : Int) ≤ s) = t0) (f1 : decide (s ≤ 128) = t1) (hf : t0 = false ∨ (t0 = true ∧ t1 = false)) (HOF : Hid (∀ W, Calls Try.prog 15 #[.slice A n c] W fun e w' => e = .returned (.pointer none) ∧ W = w')) :
    Calls Try.prog 4 #[.slice A n c, .int .i64 s, .slice L m cl] w fun e w' => e = .returned (.bool true) ∧ Below w.heap.size w w' := by
  have HNW := Lib.hid (fun W => dnew_no W s hs)
  have s1 : decide ((70000 : Int) < (n : Int)) = false := decide_eq_false (by omega)
  have s2 : decide ((100 : Int) < (m : Int)) = false := decide_eq_false (by omega)
  go_enter Try.func4, Try.ntmps4
  go_wp2_with fail
  refine (up4_any _).mono ?_
  rintro e w1 ⟨rfl, hb1⟩
  go_wp2_with fail
  with_reducible refine (HOF.out w1).mono ?_
  rintro e w2 ⟨rfl, rfl⟩
  clear HOF
  rcases hf with rfl | ⟨rfl, rfl⟩ <;> rcases ha with rfl | ⟨rfl, rfl⟩ | ⟨rfl, rfl, rfl⟩
  all_goals
    go_wp2_with fail
    with_reducible refine (HNW.out w1).mono ?_
    rintro e w3 ⟨rfl, rfl⟩
    go_wp2
    go_ret
    exact ⟨rfl, hb1⟩

set_option maxRecDepth 100000 in
set_option maxHeartbeats 4000000 in
theorem dplays_main_y (w : World) (b o c : Nat) (s : Int) (L : Option Addr) (cl : Nat) (bs : List UInt8) (ds : List Dd) (N : Nat) (hN : bs.length = 512 * N) (hN1 : 2 ≤ N) (hN2 : N ≤ 128) (hm : ds.length ≤ 100) (S : Nat) (hs : s = (S : Int)) (hs1 : 2 ≤ S) (hs2 : S ≤ 128)
    (hr : Rd w w.heap.size (some ⟨b, o, none⟩) bs.length bs) (hbc : bs.length ≤ c) (hbm : c ≤ 9223372036854775807) (hl : Dds w w.heap.size L ds) (hi : ∀ wr, Below w.heap.size w wr → ∀ d ∈ ds, d.fit wr w.heap.size) :
    Calls Try.prog 4 #[.slice (some ⟨b, o, none⟩) bs.length c, .int .i64 s, .slice L ds.length cl] w fun e w' => e = .returned (.bool true) ∧ Below w.heap.size w w' := by
  subst hs
  have t2 : decide ((2 : Int) ≤ (S : Int)) = true := decide_eq_true (by omega)
  have t3 : decide ((S : Int) ≤ 128) = true := decide_eq_true (by omega)
  have HNW := Lib.hid (fun W => dnew_yes W S hs1 hs2)
  have HSL : Hid ((List.replicate (S * 512) (0 : UInt8)).length ≤ 100000) := (show _ ≤ _ by rw [List.length_replicate]; omega)
  have HSE : Hid ((List.replicate (S * 512) (0 : UInt8)).length / 512 = S) := (show _ = _ by rw [List.length_replicate]; omega)
  have s1 : decide ((70000 : Int) < (bs.length : Int)) = false := decide_eq_false (by omega)
  have s2 : decide ((100 : Int) < (ds.length : Int)) = false := decide_eq_false (by omega)
  have e0 : ((bs.length : Int) % 512 == 0) = true := by rw [beq_iff_eq]; omega
  have e1 : decide ((1024 : Int) ≤ (bs.length : Int)) = true := decide_eq_true (by omega)
  have e2 : decide ((bs.length : Int) ≤ 65536) = true := decide_eq_true (by omega)
  have hm0 : bs.length % 512 = 0 := by omega
  have hm1 : 1024 ≤ bs.length := by omega
  have hm2 : bs.length ≤ 65536 := by omega
  have HR := Lib.hid hr
  have HL := Lib.hid hl
  have HI := Lib.hid hi
  have HNN := Lib.hid hN
  clear hr hl hi hN
  go_enter Try.func4, Try.ntmps4
  go_wp2_with fail
  refine (up4_any _).mono ?_
  rintro e w1 ⟨rfl, hb1⟩
  have hs1 := hb1.size
  have HOF := Lib.hid (dof_yes w1 (some ⟨b, o, none⟩) c bs ((HR.out.below hb1).more hs1) (fun e => by cases e) hm0 hm1 hm2)
  go_wp2_with fail
  with_reducible refine HOF.out.mono ?_
  rintro e w2 ⟨g, h, c2, rfl, k2, b2⟩
  have K2 := Lib.hid k2
  have HB2 := Lib.hid (hb1.trans (b2.mono hs1))
  have HS2 := Lib.hid b2.size
  have HS1 := Lib.hid hs1
  clear k2 b2 hb1 hs1 HOF
  go_wp2_with fail
  with_reducible refine (HNW.out w2).mono ?_
  rintro e w3 ⟨rfl, kf, bf⟩
  have hsx := dsectors_any kf HSL.out
  rw [HSE.out] at hsx
  have HSX := Lib.hid hsx
  have BF := Lib.hid bf
  obtain ⟨gf, hgf⟩ : ∃ gf, w2.heap.size + 1 = gf := ⟨_, rfl⟩
  rw [hgf] at HSX ⊢
  clear kf bf hsx HNW hgf
  go_wp2_with fail
  with_reducible refine HSX.out.mono ?_
  rintro e w9 ⟨rfl, rfl⟩
  clear HSX t2 t3
  have b3 : Below w2.heap.size w2 w3 := BF.out
  have HB3 := Lib.hid (HB2.out.trans (b3.mono (Nat.le_trans HS1.out HS2.out)))
  have HS3 := Lib.hid b3.size
  have K3 := Lib.hid (K2.out.below b3)
  have HNR := Lib.hid (rnew_any w3 b o c bs N HNN.out (by omega) ((HR.out.below HB3.out).more (Nat.le_trans HS1.out (Nat.le_trans HS2.out HS3.out))) hbc hbm)
  clear b3
  go_wp2_with fail
  with_reducible refine HNR.out.mono ?_
  rintro e w4 ⟨rfl, ⟨Lr, clr, ls, k4, hj⟩, b4⟩
  have hls : ls.length = N := by
    have h1 := joinD_length ls (fun x hx => (k4.lf x hx).1)
    rw [hj] at h1
    have := HNN.out
    omega
  obtain ⟨gr, hgr⟩ : ∃ gr, w3.heap.size = gr := ⟨_, rfl⟩
  have hsz := b4.size
  have hs1 := HS1.out
  have hs2 := HS2.out
  have hs3 := HS3.out
  have t4 : Two (grow (fun _ => False) w1 w2) (grow (fun _ => False) w3 w4) w.heap.size w4 g h c2 none 0 w3.heap.size Lr clr none 0 bs ls [] [] (-1) false 0 :=
    ⟨K3.out.below b4, k4, fun j hj => by
      rcases hj with hj | hj
      · cases hj
      · refine ⟨by omega, by omega, fun hr => ?_⟩
        rcases hr with hr | hr
        · cases hr
        · omega, fun j hj => by
      rcases hj with hj | hj
      · cases hj
      · omega, hj, rfl, by omega, by omega, Nat.le_refl _, by omega, by omega⟩
  rw [hgr] at t4 ⊢
  have HE4 : Hid (TwoE w.heap.size w4 g gr 0 N) := ⟨_, _, _, _, _, _, _, _, _, _, _, _, _, _, _, _, t4, hls⟩
  have HB4 : Hid (Below w.heap.size w w4) := HB3.out.trans (b4.mono (by omega))
  clear K2 K3 HB2 HS2 HS1 HB3 HS3 HNR k4 hj b4 hls hsz hs1 hs2 hs3 t4 hgr
  go_wp2
  go_loopw [12] (fun i wr => ∃ j : Nat, j ≤ ds.length ∧ i = .int .i64 j ∧ TwoE w.heap.size wr g gr j N ∧ Below w.heap.size w wr) (fun i _ => ds.length - (intOf i).toNat)
  case atStart => exact ⟨0, Nat.zero_le _, rfl, HE4.out, HB4.out⟩
  case round =>
    obtain ⟨j, hj, rfl, ⟨Sd, Sr, h', c', W', cw', L', cl', V', cv', bs', ls', ws', vs', left', off', t5, hls⟩, hb⟩ := hrel
    clear HE4 HB4
    by_cases hlt : j < ds.length
    · obtain ⟨d, hd⟩ : ∃ d, ds[j]? = some d := ⟨ds[j], List.getElem?_eq_getElem hlt⟩
      obtain ⟨b', o', rfl, hbB, hc⟩ := (HL.out.below hb) (by omega)
      obtain ⟨d0, d1, d2, d3, d4, d5⟩ := hc j d hd
      have HD := Lib.hid (do4_any t5 (by omega) d (HI.out wr hb d (List.mem_of_getElem? hd)))
      unfold Does at HD
      have HBr := Lib.hid hb
      have HLS := Lib.hid hls
      clear hc hd t5 hb hls
      go_wp2_with fail
      with_reducible refine HD.out.mono ?_
      rintro e w6 ⟨rfl, h6, b6⟩
      rw [HLS.out] at h6
      have H6 := Lib.hid h6
      have B6 := Lib.hid (HBr.out.trans b6)
      clear h6 b6 HD HBr d0 d1 d2 d3 d4 d5
      go_wp2
      go_roundw
      case rel => exact ⟨j + 1, by omega, by go_num, H6.out, B6.out⟩
      case measure => simp [intOf]; omega
    · obtain ⟨w6, hw6⟩ : ∃ w6, wr.drew = w6 := ⟨_, rfl⟩
      have t6 := t5.below (Below.refl _ _).drew
      rw [hw6] at t6
      have hlen := t6.len
      have hl8 := t6.hl
      have hle : bs'.length ≤ 100000 := by omega
      have hsx := dsectors_any t6.d hle
      rw [show bs'.length / 512 = ls'.length by omega] at hsx
      have hm := fun W7 (hb : Below w6.heap.size w6 W7) => rbytes_any (t6.r.below hb) (by omega)
      rw [t6.hj] at hm
      have HSX := Lib.hid hsx
      have HG := Lib.hid (dbytes_any t6.d hle)
      have HM := Lib.hid hm
      have B6 : Hid (Below w.heap.size w w6) := (show Below w.heap.size w w6 by rw [← hw6]; exact hb.drew)
      have T6 := Lib.hid t6
      have HW6 := Lib.hid hw6
      clear hw6 t6 hm t5 hlen hle hsx hb hls
      go_wp2_with fail
      refine wp_region_tail w6.heap.size [([0, 1, 2, 4, 5, 6, 7, 8], 3), ([9, 10, 11, 12, 15], 13), ([14], 16)] [17, 18, 19, 20] [] (by kernel_rfl) (by kernel_rfl) (by kernel_rfl) (fun _ _ _ _ _ h => h) ?_
      rw [HW6.out]
      clear HW6
      have z0 : ∀ z : LaterB w6.heap.size w6, z.val.cell? ⟨gr, 0, none⟩ = some (.slice L' ls'.length cl') := fun z => (z.ext.cell (p := ⟨gr, 0, none⟩) T6.out.r.lt).trans T6.out.r.c0
      refine tail_cons (l := ?segL1) ?hsegL1 ?_
      case hsegL1 => simp only [pick, List.getElem?_toArray, List.getElem?_cons_succ, List.getElem?_cons_zero]; rfl
      repeat (go_big_quiet_step (fail))
      refine wpQuiet_nil ?_
      clear z0
      refine tail_call (vs := #[.pointer (some ⟨g, 0, none⟩)]) Try.call17 rfl rfl rfl (R := fun r w' => r = .int .i64 (ls'.length : Int) ∧ w' = w6) (HSX.out.mono ?_) w6.heap.size (Nat.le_refl _) ?_
      · rintro e w' ⟨rfl, rfl⟩
        exact ⟨_, rfl, Below.refl _ _, rfl, rfl⟩
      rintro r w7 _ ⟨rfl, rfl⟩
      refine tail_cons (l := ?segL2) ?hsegL2 ?_
      case hsegL2 => simp only [pick, List.getElem?_toArray, List.getElem?_cons_succ, List.getElem?_cons_zero]; rfl
      simp only [Act.put, List.setIfInBounds_toArray, List.set_cons_zero, List.set_cons_succ]
      repeat (go_big_quiet_step (fail))
      refine wpQuiet_nil ?_
      refine tail_call2 (vs := #[.pointer (some ⟨g, 0, none⟩)]) Try.call20 rfl rfl rfl (R := fun r w' => ∃ A c, r = .slice A bs'.length c ∧ Rd w' w'.heap.size A bs'.length bs' ∧ Below w7.heap.size w7 w') (HG.out.mono ?_) ?_
      · rintro e w' ⟨A', c', rfl, ho, hb⟩
        exact ⟨_, rfl, hb, A', c', rfl, (Rd.own' ho).1, hb⟩
      rintro r w8 _ ⟨A8, c8, rfl, r8, b8⟩
      refine ⟨w8.heap.size, b8.size, ?_⟩
      have qa := conv_B r8
      refine tail_cons (l := ?segL3) ?hsegL3 ?_
      case hsegL3 => simp only [pick, List.getElem?_toArray, List.getElem?_cons_succ, List.getElem?_cons_zero]; rfl
      simp only [Act.put, List.setIfInBounds_toArray, List.set_cons_zero, List.set_cons_succ]
      repeat (go_big_quiet_step (fail))
      refine wpQuiet_nil ?_
      clear qa
      refine tail_call2 (vs := #[.pointer (some ⟨gr, 0, none⟩)]) Try.call21 rfl rfl rfl (R := fun r w' => ∃ A c, r = .slice A bs'.length c ∧ Rd w' w'.heap.size A bs'.length bs' ∧ Below w8.heap.size w8 w') ((HM.out w8 b8).mono ?_) ?_
      · rintro e w' ⟨A', c', rfl, ho, hb⟩
        exact ⟨_, rfl, hb, A', c', rfl, (Rd.own' ho).1, hb⟩
      rintro r w9 _ ⟨A9, c9, rfl, r9, b9⟩
      refine ⟨w9.heap.size, b9.size, ?_⟩
      have qb := conv_B r9
      refine tail_last (l := ?laL4) (t := []) ?hlaL4 ?htlL4 ?_
      case hlaL4 => simp only [pick, List.getElem?_toArray, List.getElem?_cons_succ, List.getElem?_cons_zero]; rfl
      case htlL4 => rfl
      simp only [Act.put, List.setIfInBounds_toArray, List.set_cons_zero, List.set_cons_succ]
      repeat (go_big_quiet_step (fail))
      refine wpQuiet_nil ?_
      have HB9 : Hid (Below w.heap.size w w9) := B6.out.trans ((b8.trans (b9.mono b8.size)).mono T6.out.hB)
      clear qb r8 r9 b8 b9 HG HM T6 B6
      go_wp2
      go_ret
      exact ⟨rfl, HB9.out⟩

set_option maxRecDepth 100000 in
set_option maxHeartbeats 4000000 in
theorem dplays_main_n0 (w : World) (b o c : Nat) (s : Int) (L : Option Addr) (cl : Nat) (bs : List UInt8) (ds : List Dd) (N : Nat) (hN : bs.length = 512 * N) (hN1 : 2 ≤ N) (hN2 : N ≤ 128) (hm : ds.length ≤ 100) (hs : s < 2 ∨ 128 < s) (_hsb : -9223372036854775808 ≤ s ∧ s ≤ 9223372036854775807) (f0 : decide ((2 : Int) ≤ s) = false)
    (hr : Rd w w.heap.size (some ⟨b, o, none⟩) bs.length bs) (hbc : bs.length ≤ c) (hbm : c ≤ 9223372036854775807) (hl : Dds w w.heap.size L ds) (hi : ∀ wr, Below w.heap.size w wr → ∀ d ∈ ds, d.fit wr w.heap.size) :
    Calls Try.prog 4 #[.slice (some ⟨b, o, none⟩) bs.length c, .int .i64 s, .slice L ds.length cl] w fun e w' => e = .returned (.bool true) ∧ Below w.heap.size w w' := by
  have HNW := Lib.hid (fun W => dnew_no W s hs)
  have s1 : decide ((70000 : Int) < (bs.length : Int)) = false := decide_eq_false (by omega)
  have s2 : decide ((100 : Int) < (ds.length : Int)) = false := decide_eq_false (by omega)
  have e0 : ((bs.length : Int) % 512 == 0) = true := by rw [beq_iff_eq]; omega
  have e1 : decide ((1024 : Int) ≤ (bs.length : Int)) = true := decide_eq_true (by omega)
  have e2 : decide ((bs.length : Int) ≤ 65536) = true := decide_eq_true (by omega)
  have hm0 : bs.length % 512 = 0 := by omega
  have hm1 : 1024 ≤ bs.length := by omega
  have hm2 : bs.length ≤ 65536 := by omega
  have HR := Lib.hid hr
  have HL := Lib.hid hl
  have HI := Lib.hid hi
  have HNN := Lib.hid hN
  clear hr hl hi hN
  go_enter Try.func4, Try.ntmps4
  go_wp2_with fail
  refine (up4_any _).mono ?_
  rintro e w1 ⟨rfl, hb1⟩
  have hs1 := hb1.size
  have HOF := Lib.hid (dof_yes w1 (some ⟨b, o, none⟩) c bs ((HR.out.below hb1).more hs1) (fun e => by cases e) hm0 hm1 hm2)
  go_wp2_with fail
  with_reducible refine HOF.out.mono ?_
  rintro e w2 ⟨g, h, c2, rfl, k2, b2⟩
  have K2 := Lib.hid k2
  have HB2 := Lib.hid (hb1.trans (b2.mono hs1))
  have HS2 := Lib.hid b2.size
  have HS1 := Lib.hid hs1
  clear k2 b2 hb1 hs1 HOF
  go_wp2_with fail
  with_reducible refine (HNW.out w2).mono ?_
  rintro e w3 ⟨rfl, rfl⟩
  have b3 : Below w2.heap.size w2 w2 := Below.refl _ _
  have HB3 := Lib.hid (HB2.out.trans (b3.mono (Nat.le_trans HS1.out HS2.out)))
  have HS3 := Lib.hid b3.size
  have K3 := Lib.hid (K2.out.below b3)
  have HNR := Lib.hid (rnew_any w2 b o c bs N HNN.out (by omega) ((HR.out.below HB3.out).more (Nat.le_trans HS1.out (Nat.le_trans HS2.out HS3.out))) hbc hbm)
  clear b3
  go_wp2_with fail
  with_reducible refine HNR.out.mono ?_
  rintro e w4 ⟨rfl, ⟨Lr, clr, ls, k4, hj⟩, b4⟩
  have hls : ls.length = N := by
    have h1 := joinD_length ls (fun x hx => (k4.lf x hx).1)
    rw [hj] at h1
    have := HNN.out
    omega
  obtain ⟨gr, hgr⟩ : ∃ gr, w2.heap.size = gr := ⟨_, rfl⟩
  have hsz := b4.size
  have hs1 := HS1.out
  have hs2 := HS2.out
  have hs3 := HS3.out
  have t4 : Two (grow (fun _ => False) w1 w2) (grow (fun _ => False) w2 w4) w.heap.size w4 g h c2 none 0 w2.heap.size Lr clr none 0 bs ls [] [] (-1) false 0 :=
    ⟨K3.out.below b4, k4, fun j hj => by
      rcases hj with hj | hj
      · cases hj
      · refine ⟨by omega, by omega, fun hr => ?_⟩
        rcases hr with hr | hr
        · cases hr
        · omega, fun j hj => by
      rcases hj with hj | hj
      · cases hj
      · omega, hj, rfl, by omega, by omega, Nat.le_refl _, by omega, by omega⟩
  rw [hgr] at t4 ⊢
  have HE4 : Hid (TwoE w.heap.size w4 g gr 0 N) := ⟨_, _, _, _, _, _, _, _, _, _, _, _, _, _, _, _, t4, hls⟩
  have HB4 : Hid (Below w.heap.size w w4) := HB3.out.trans (b4.mono (by omega))
  clear K2 K3 HB2 HS2 HS1 HB3 HS3 HNR k4 hj b4 hls hsz hs1 hs2 hs3 t4 hgr
  go_wp2
  go_loopw [12] (fun i wr => ∃ j : Nat, j ≤ ds.length ∧ i = .int .i64 j ∧ TwoE w.heap.size wr g gr j N ∧ Below w.heap.size w wr) (fun i _ => ds.length - (intOf i).toNat)
  case atStart => exact ⟨0, Nat.zero_le _, rfl, HE4.out, HB4.out⟩
  case round =>
    obtain ⟨j, hj, rfl, ⟨Sd, Sr, h', c', W', cw', L', cl', V', cv', bs', ls', ws', vs', left', off', t5, hls⟩, hb⟩ := hrel
    clear HE4 HB4
    by_cases hlt : j < ds.length
    · obtain ⟨d, hd⟩ : ∃ d, ds[j]? = some d := ⟨ds[j], List.getElem?_eq_getElem hlt⟩
      obtain ⟨b', o', rfl, hbB, hc⟩ := (HL.out.below hb) (by omega)
      obtain ⟨d0, d1, d2, d3, d4, d5⟩ := hc j d hd
      have HD := Lib.hid (do4_any t5 (by omega) d (HI.out wr hb d (List.mem_of_getElem? hd)))
      unfold Does at HD
      have HBr := Lib.hid hb
      have HLS := Lib.hid hls
      clear hc hd t5 hb hls
      go_wp2_with fail
      with_reducible refine HD.out.mono ?_
      rintro e w6 ⟨rfl, h6, b6⟩
      rw [HLS.out] at h6
      have H6 := Lib.hid h6
      have B6 := Lib.hid (HBr.out.trans b6)
      clear h6 b6 HD HBr d0 d1 d2 d3 d4 d5
      go_wp2
      go_roundw
      case rel => exact ⟨j + 1, by omega, by go_num, H6.out, B6.out⟩
      case measure => simp [intOf]; omega
    · obtain ⟨w6, hw6⟩ : ∃ w6, wr.drew = w6 := ⟨_, rfl⟩
      have t6 := t5.below (Below.refl _ _).drew
      rw [hw6] at t6
      have hlen := t6.len
      have hl8 := t6.hl
      have hle : bs'.length ≤ 100000 := by omega
      have hsx := dsectors_any t6.d hle
      rw [show bs'.length / 512 = ls'.length by omega] at hsx
      have hm := fun W7 (hb : Below w6.heap.size w6 W7) => rbytes_any (t6.r.below hb) (by omega)
      rw [t6.hj] at hm
      have HSX := Lib.hid hsx
      have HG := Lib.hid (dbytes_any t6.d hle)
      have HM := Lib.hid hm
      have B6 : Hid (Below w.heap.size w w6) := (show Below w.heap.size w w6 by rw [← hw6]; exact hb.drew)
      have T6 := Lib.hid t6
      have HW6 := Lib.hid hw6
      clear hw6 t6 hm t5 hlen hle hsx hb hls
      go_wp2_with fail
      refine wp_region_tail w6.heap.size [([0, 1, 2, 4, 5, 6, 7, 8], 3), ([9, 10, 11, 12, 15], 13), ([14], 16)] [17, 18, 19, 20] [] (by kernel_rfl) (by kernel_rfl) (by kernel_rfl) (fun _ _ _ _ _ h => h) ?_
      rw [HW6.out]
      clear HW6
      have z0 : ∀ z : LaterB w6.heap.size w6, z.val.cell? ⟨gr, 0, none⟩ = some (.slice L' ls'.length cl') := fun z => (z.ext.cell (p := ⟨gr, 0, none⟩) T6.out.r.lt).trans T6.out.r.c0
      refine tail_cons (l := ?segL1) ?hsegL1 ?_
      case hsegL1 => simp only [pick, List.getElem?_toArray, List.getElem?_cons_succ, List.getElem?_cons_zero]; rfl
      repeat (go_big_quiet_step (fail))
      refine wpQuiet_nil ?_
      clear z0
      refine tail_call (vs := #[.pointer (some ⟨g, 0, none⟩)]) Try.call17 rfl rfl rfl (R := fun r w' => r = .int .i64 (ls'.length : Int) ∧ w' = w6) (HSX.out.mono ?_) w6.heap.size (Nat.le_refl _) ?_
      · rintro e w' ⟨rfl, rfl⟩
        exact ⟨_, rfl, Below.refl _ _, rfl, rfl⟩
      rintro r w7 _ ⟨rfl, rfl⟩
      refine tail_cons (l := ?segL2) ?hsegL2 ?_
      case hsegL2 => simp only [pick, List.getElem?_toArray, List.getElem?_cons_succ, List.getElem?_cons_zero]; rfl
      simp only [Act.put, List.setIfInBounds_toArray, List.set_cons_zero, List.set_cons_succ]
      repeat (go_big_quiet_step (fail))
      refine wpQuiet_nil ?_
      refine tail_call2 (vs := #[.pointer (some ⟨g, 0, none⟩)]) Try.call20 rfl rfl rfl (R := fun r w' => ∃ A c, r = .slice A bs'.length c ∧ Rd w' w'.heap.size A bs'.length bs' ∧ Below w7.heap.size w7 w') (HG.out.mono ?_) ?_
      · rintro e w' ⟨A', c', rfl, ho, hb⟩
        exact ⟨_, rfl, hb, A', c', rfl, (Rd.own' ho).1, hb⟩
      rintro r w8 _ ⟨A8, c8, rfl, r8, b8⟩
      refine ⟨w8.heap.size, b8.size, ?_⟩
      have qa := conv_B r8
      refine tail_cons (l := ?segL3) ?hsegL3 ?_
      case hsegL3 => simp only [pick, List.getElem?_toArray, List.getElem?_cons_succ, List.getElem?_cons_zero]; rfl
      simp only [Act.put, List.setIfInBounds_toArray, List.set_cons_zero, List.set_cons_succ]
      repeat (go_big_quiet_step (fail))
      refine wpQuiet_nil ?_
      clear qa
      refine tail_call2 (vs := #[.pointer (some ⟨gr, 0, none⟩)]) Try.call21 rfl rfl rfl (R := fun r w' => ∃ A c, r = .slice A bs'.length c ∧ Rd w' w'.heap.size A bs'.length bs' ∧ Below w8.heap.size w8 w') ((HM.out w8 b8).mono ?_) ?_
      · rintro e w' ⟨A', c', rfl, ho, hb⟩
        exact ⟨_, rfl, hb, A', c', rfl, (Rd.own' ho).1, hb⟩
      rintro r w9 _ ⟨A9, c9, rfl, r9, b9⟩
      refine ⟨w9.heap.size, b9.size, ?_⟩
      have qb := conv_B r9
      refine tail_last (l := ?laL4) (t := []) ?hlaL4 ?htlL4 ?_
      case hlaL4 => simp only [pick, List.getElem?_toArray, List.getElem?_cons_succ, List.getElem?_cons_zero]; rfl
      case htlL4 => rfl
      simp only [Act.put, List.setIfInBounds_toArray, List.set_cons_zero, List.set_cons_succ]
      repeat (go_big_quiet_step (fail))
      refine wpQuiet_nil ?_
      have HB9 : Hid (Below w.heap.size w w9) := B6.out.trans ((b8.trans (b9.mono b8.size)).mono T6.out.hB)
      clear qb r8 r9 b8 b9 HG HM T6 B6
      go_wp2
      go_ret
      exact ⟨rfl, HB9.out⟩

set_option maxRecDepth 100000 in
set_option maxHeartbeats 4000000 in
theorem dplays_main_n1 (w : World) (b o c : Nat) (s : Int) (L : Option Addr) (cl : Nat) (bs : List UInt8) (ds : List Dd) (N : Nat) (hN : bs.length = 512 * N) (hN1 : 2 ≤ N) (hN2 : N ≤ 128) (hm : ds.length ≤ 100) (hs : s < 2 ∨ 128 < s) (_hsb : -9223372036854775808 ≤ s ∧ s ≤ 9223372036854775807) (f0 : decide ((2 : Int) ≤ s) = true) (f1 : decide (s ≤ 128) = false)
    (hr : Rd w w.heap.size (some ⟨b, o, none⟩) bs.length bs) (hbc : bs.length ≤ c) (hbm : c ≤ 9223372036854775807) (hl : Dds w w.heap.size L ds) (hi : ∀ wr, Below w.heap.size w wr → ∀ d ∈ ds, d.fit wr w.heap.size) :
    Calls Try.prog 4 #[.slice (some ⟨b, o, none⟩) bs.length c, .int .i64 s, .slice L ds.length cl] w fun e w' => e = .returned (.bool true) ∧ Below w.heap.size w w' := by
  have HNW := Lib.hid (fun W => dnew_no W s hs)
  have s1 : decide ((70000 : Int) < (bs.length : Int)) = false := decide_eq_false (by omega)
  have s2 : decide ((100 : Int) < (ds.length : Int)) = false := decide_eq_false (by omega)
  have e0 : ((bs.length : Int) % 512 == 0) = true := by rw [beq_iff_eq]; omega
  have e1 : decide ((1024 : Int) ≤ (bs.length : Int)) = true := decide_eq_true (by omega)
  have e2 : decide ((bs.length : Int) ≤ 65536) = true := decide_eq_true (by omega)
  have hm0 : bs.length % 512 = 0 := by omega
  have hm1 : 1024 ≤ bs.length := by omega
  have hm2 : bs.length ≤ 65536 := by omega
  have HR := Lib.hid hr
  have HL := Lib.hid hl
  have HI := Lib.hid hi
  have HNN := Lib.hid hN
  clear hr hl hi hN
  go_enter Try.func4, Try.ntmps4
  go_wp2_with fail
  refine (up4_any _).mono ?_
  rintro e w1 ⟨rfl, hb1⟩
  have hs1 := hb1.size
  have HOF := Lib.hid (dof_yes w1 (some ⟨b, o, none⟩) c bs ((HR.out.below hb1).more hs1) (fun e => by cases e) hm0 hm1 hm2)
  go_wp2_with fail
  with_reducible refine HOF.out.mono ?_
  rintro e w2 ⟨g, h, c2, rfl, k2, b2⟩
  have K2 := Lib.hid k2
  have HB2 := Lib.hid (hb1.trans (b2.mono hs1))
  have HS2 := Lib.hid b2.size
  have HS1 := Lib.hid hs1
  clear k2 b2 hb1 hs1 HOF
  go_wp2_with fail
  with_reducible refine (HNW.out w2).mono ?_
  rintro e w3 ⟨rfl, rfl⟩
  have b3 : Below w2.heap.size w2 w2 := Below.refl _ _
  have HB3 := Lib.hid (HB2.out.trans (b3.mono (Nat.le_trans HS1.out HS2.out)))
  have HS3 := Lib.hid b3.size
  have K3 := Lib.hid (K2.out.below b3)
  have HNR := Lib.hid (rnew_any w2 b o c bs N HNN.out (by omega) ((HR.out.below HB3.out).more (Nat.le_trans HS1.out (Nat.le_trans HS2.out HS3.out))) hbc hbm)
  clear b3
  go_wp2_with fail
  with_reducible refine HNR.out.mono ?_
  rintro e w4 ⟨rfl, ⟨Lr, clr, ls, k4, hj⟩, b4⟩
  have hls : ls.length = N := by
    have h1 := joinD_length ls (fun x hx => (k4.lf x hx).1)
    rw [hj] at h1
    have := HNN.out
    omega
  obtain ⟨gr, hgr⟩ : ∃ gr, w2.heap.size = gr := ⟨_, rfl⟩
  have hsz := b4.size
  have hs1 := HS1.out
  have hs2 := HS2.out
  have hs3 := HS3.out
  have t4 : Two (grow (fun _ => False) w1 w2) (grow (fun _ => False) w2 w4) w.heap.size w4 g h c2 none 0 w2.heap.size Lr clr none 0 bs ls [] [] (-1) false 0 :=
    ⟨K3.out.below b4, k4, fun j hj => by
      rcases hj with hj | hj
      · cases hj
      · refine ⟨by omega, by omega, fun hr => ?_⟩
        rcases hr with hr | hr
        · cases hr
        · omega, fun j hj => by
      rcases hj with hj | hj
      · cases hj
      · omega, hj, rfl, by omega, by omega, Nat.le_refl _, by omega, by omega⟩
  rw [hgr] at t4 ⊢
  have HE4 : Hid (TwoE w.heap.size w4 g gr 0 N) := ⟨_, _, _, _, _, _, _, _, _, _, _, _, _, _, _, _, t4, hls⟩
  have HB4 : Hid (Below w.heap.size w w4) := HB3.out.trans (b4.mono (by omega))
  clear K2 K3 HB2 HS2 HS1 HB3 HS3 HNR k4 hj b4 hls hsz hs1 hs2 hs3 t4 hgr
  go_wp2
  go_loopw [12] (fun i wr => ∃ j : Nat, j ≤ ds.length ∧ i = .int .i64 j ∧ TwoE w.heap.size wr g gr j N ∧ Below w.heap.size w wr) (fun i _ => ds.length - (intOf i).toNat)
  case atStart => exact ⟨0, Nat.zero_le _, rfl, HE4.out, HB4.out⟩
  case round =>
    obtain ⟨j, hj, rfl, ⟨Sd, Sr, h', c', W', cw', L', cl', V', cv', bs', ls', ws', vs', left', off', t5, hls⟩, hb⟩ := hrel
    clear HE4 HB4
    by_cases hlt : j < ds.length
    · obtain ⟨d, hd⟩ : ∃ d, ds[j]? = some d := ⟨ds[j], List.getElem?_eq_getElem hlt⟩
      obtain ⟨b', o', rfl, hbB, hc⟩ := (HL.out.below hb) (by omega)
      obtain ⟨d0, d1, d2, d3, d4, d5⟩ := hc j d hd
      have HD := Lib.hid (do4_any t5 (by omega) d (HI.out wr hb d (List.mem_of_getElem? hd)))
      unfold Does at HD
      have HBr := Lib.hid hb
      have HLS := Lib.hid hls
      clear hc hd t5 hb hls
      go_wp2_with fail
      with_reducible refine HD.out.mono ?_
      rintro e w6 ⟨rfl, h6, b6⟩
      rw [HLS.out] at h6
      have H6 := Lib.hid h6
      have B6 := Lib.hid (HBr.out.trans b6)
      clear h6 b6 HD HBr d0 d1 d2 d3 d4 d5
      go_wp2
      go_roundw
      case rel => exact ⟨j + 1, by omega, by go_num, H6.out, B6.out⟩
      case measure => simp [intOf]; omega
    · obtain ⟨w6, hw6⟩ : ∃ w6, wr.drew = w6 := ⟨_, rfl⟩
      have t6 := t5.below (Below.refl _ _).drew
      rw [hw6] at t6
      have hlen := t6.len
      have hl8 := t6.hl
      have hle : bs'.length ≤ 100000 := by omega
      have hsx := dsectors_any t6.d hle
      rw [show bs'.length / 512 = ls'.length by omega] at hsx
      have hm := fun W7 (hb : Below w6.heap.size w6 W7) => rbytes_any (t6.r.below hb) (by omega)
      rw [t6.hj] at hm
      have HSX := Lib.hid hsx
      have HG := Lib.hid (dbytes_any t6.d hle)
      have HM := Lib.hid hm
      have B6 : Hid (Below w.heap.size w w6) := (show Below w.heap.size w w6 by rw [← hw6]; exact hb.drew)
      have T6 := Lib.hid t6
      have HW6 := Lib.hid hw6
      clear hw6 t6 hm t5 hlen hle hsx hb hls
      go_wp2_with fail
      refine wp_region_tail w6.heap.size [([0, 1, 2, 4, 5, 6, 7, 8], 3), ([9, 10, 11, 12, 15], 13), ([14], 16)] [17, 18, 19, 20] [] (by kernel_rfl) (by kernel_rfl) (by kernel_rfl) (fun _ _ _ _ _ h => h) ?_
      rw [HW6.out]
      clear HW6
      have z0 : ∀ z : LaterB w6.heap.size w6, z.val.cell? ⟨gr, 0, none⟩ = some (.slice L' ls'.length cl') := fun z => (z.ext.cell (p := ⟨gr, 0, none⟩) T6.out.r.lt).trans T6.out.r.c0
      refine tail_cons (l := ?segL1) ?hsegL1 ?_
      case hsegL1 => simp only [pick, List.getElem?_toArray, List.getElem?_cons_succ, List.getElem?_cons_zero]; rfl
      repeat (go_big_quiet_step (fail))
      refine wpQuiet_nil ?_
      clear z0
      refine tail_call (vs := #[.pointer (some ⟨g, 0, none⟩)]) Try.call17 rfl rfl rfl (R := fun r w' => r = .int .i64 (ls'.length : Int) ∧ w' = w6) (HSX.out.mono ?_) w6.heap.size (Nat.le_refl _) ?_
      · rintro e w' ⟨rfl, rfl⟩
        exact ⟨_, rfl, Below.refl _ _, rfl, rfl⟩
      rintro r w7 _ ⟨rfl, rfl⟩
      refine tail_cons (l := ?segL2) ?hsegL2 ?_
      case hsegL2 => simp only [pick, List.getElem?_toArray, List.getElem?_cons_succ, List.getElem?_cons_zero]; rfl
      simp only [Act.put, List.setIfInBounds_toArray, List.set_cons_zero, List.set_cons_succ]
      repeat (go_big_quiet_step (fail))
      refine wpQuiet_nil ?_
      refine tail_call2 (vs := #[.pointer (some ⟨g, 0, none⟩)]) Try.call20 rfl rfl rfl (R := fun r w' => ∃ A c, r = .slice A bs'.length c ∧ Rd w' w'.heap.size A bs'.length bs' ∧ Below w7.heap.size w7 w') (HG.out.mono ?_) ?_
      · rintro e w' ⟨A', c', rfl, ho, hb⟩
        exact ⟨_, rfl, hb, A', c', rfl, (Rd.own' ho).1, hb⟩
      rintro r w8 _ ⟨A8, c8, rfl, r8, b8⟩
      refine ⟨w8.heap.size, b8.size, ?_⟩
      have qa := conv_B r8
      refine tail_cons (l := ?segL3) ?hsegL3 ?_
      case hsegL3 => simp only [pick, List.getElem?_toArray, List.getElem?_cons_succ, List.getElem?_cons_zero]; rfl
      simp only [Act.put, List.setIfInBounds_toArray, List.set_cons_zero, List.set_cons_succ]
      repeat (go_big_quiet_step (fail))
      refine wpQuiet_nil ?_
      clear qa
      refine tail_call2 (vs := #[.pointer (some ⟨gr, 0, none⟩)]) Try.call21 rfl rfl rfl (R := fun r w' => ∃ A c, r = .slice A bs'.length c ∧ Rd w' w'.heap.size A bs'.length bs' ∧ Below w8.heap.size w8 w') ((HM.out w8 b8).mono ?_) ?_
      · rintro e w' ⟨A', c', rfl, ho, hb⟩
        exact ⟨_, rfl, hb, A', c', rfl, (Rd.own' ho).1, hb⟩
      rintro r w9 _ ⟨A9, c9, rfl, r9, b9⟩
      refine ⟨w9.heap.size, b9.size, ?_⟩
      have qb := conv_B r9
      refine tail_last (l := ?laL4) (t := []) ?hlaL4 ?htlL4 ?_
      case hlaL4 => simp only [pick, List.getElem?_toArray, List.getElem?_cons_succ, List.getElem?_cons_zero]; rfl
      case htlL4 => rfl
      simp only [Act.put, List.setIfInBounds_toArray, List.set_cons_zero, List.set_cons_succ]
      repeat (go_big_quiet_step (fail))
      refine wpQuiet_nil ?_
      have HB9 : Hid (Below w.heap.size w w9) := B6.out.trans ((b8.trans (b9.mono b8.size)).mono T6.out.hB)
      clear qb r8 r9 b8 b9 HG HM T6 B6
      go_wp2
      go_ret
      exact ⟨rfl, HB9.out⟩

end Go.Proofs.Ytbalmacabojbpaa
