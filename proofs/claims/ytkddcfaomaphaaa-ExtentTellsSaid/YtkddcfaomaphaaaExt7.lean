/- The contract of the document's own Read of many sectors. -/
import Derived.Test.YtkddcfaomaphaaaExt6
namespace Go.Proofs.Ytkddcfaomaphaaa
open Go.RowKit

theorem cap_none {w : World} {base n c : Nat} {bs : List UInt8} (h : w.ownsRow base 5 1 (.slice none n c) n (bs.map bv)) : n = 0 ∧ c = 0 := by
  rcases h.2 with ⟨h', h0⟩ | ⟨_, _, _, h', _⟩
  · injection h' with _ _ e
    exact ⟨h0, e⟩
  · injection h' with e; cases e
theorem cap_le {w : World} {base n c : Nat} {A : Option Addr} {bs : List UInt8} (h : w.ownsRow base 5 1 (.slice A n c) n (bs.map bv)) : n ≤ c ∧ c ≤ maxLen := by
  rcases h.2 with ⟨h', h0⟩ | ⟨_, _, _, h', _, _, h1, h2, _⟩
  · injection h' with _ _ e
    rw [h0, e]; exact ⟨Nat.le_refl _, Nat.zero_le _⟩
  · injection h' with _ _ e
    rw [e]; exact ⟨h1, h2⟩

section
variable {S : Nat → Prop} {w : World} {g : Nat} {L : Option Addr} {cl : Nat} {W : Option Addr} {cw : Nat} {ls ws : List Wr} {left : Int} {off : Bool}
set_option maxRecDepth 100000 in
set_option maxHeartbeats 1000000 in
theorem rin_fit (k : Rk S w g L cl W cw ls ws left off) (h5 : All5 ls) (hN2 : ls.length ≤ 128) (p n K : Nat) (hK : need n = K) (hfit : p + K ≤ ls.length) (ho : off = true → n = 0) (out : List UInt8) (hout : (rdAll (joinD ls) (ws.map Wr.two) p K).take n = out) (hol : out.length = n) :
    Calls Try.prog 14 #[.pointer (some ⟨g, 0, none⟩), .int .i64 (p : Int), .int .i64 (n : Int)] w fun e w' => RefTold out w e w' := by
  have hbl : n ≤ 65536 := by unfold need at hK; omega
  obtain ⟨w1, hw1⟩ : ∃ w1, w.drew = w1 := ⟨_, rfl⟩
  have hz1 : w1.heap.size = w.heap.size := by rw [← hw1]; rfl
  have hb1 : Below w.heap.size w w1 := by rw [← hw1]; exact (Below.refl _ _).drew
  have k1 := k.below hb1
  have HE := Lib.hid (fun W => rsectors_any W n (by omega) K hK)
  have s0 : decide ((n : Int) < 0) = false := decide_eq_false (by omega)
  have s1 : decide ((p : Int) < 0) = false := decide_eq_false (by omega)
  have s2 : decide (ls.length < p) = false := decide_eq_false (by omega)
  have s3 : decide ((ls.length : Int) - (p : Int) < (K : Int)) = false := decide_eq_false (by omega)
  have HK1 := Lib.hid k1
  have HW1 := Lib.hid hw1
  have HZ1 := Lib.hid hz1
  have HB1 := Lib.hid hb1
  have HK := Lib.hid hK
  have H5 := Lib.hid h5
  have HOUT := Lib.hid hout
  have HOL := Lib.hid hol
  clear k k1 hw1 hz1 hb1 hK h5 hout hol
  go_enter Try.func14, Try.ntmps14
  go_wp2_with fail
  refine wp_region_tail w1.heap.size [([0, 1, 2, 3, 4, 5, 6, 7, 8, 9, 10, 11, 12, 13, 14, 15, 16, 18, 19, 20, 21, 22, 23, 24], 17)] [25, 26] [] (by kernel_rfl) (by kernel_rfl) (by kernel_rfl) (fun _ _ _ _ _ h => h) ?_
  rw [HW1.out]
  clear HW1
  have z0 : ∀ z : LaterB w1.heap.size w1, z.val.cell? ⟨g, 0, none⟩ = some (.slice L ls.length cl) := fun z => (z.ext.cell (p := ⟨g, 0, none⟩) HK1.out.lt).trans HK1.out.c0
  refine tail_cons (l := ?seg1) ?hseg1 ?_
  case hseg1 => simp only [pick, List.getElem?_toArray, List.getElem?_cons_succ, List.getElem?_cons_zero]; rfl
  repeat (go_big_quiet_step (fail))
  refine wpQuiet_nil ?_
  clear z0
  refine tail_call (vs := #[.int .i64 (n : Int)]) Try.call21 rfl rfl rfl (R := fun r w' => r = .int .i64 (K : Int) ∧ w' = w1) ((HE.out w1).mono ?_) w1.heap.size (Nat.le_refl _) ?_
  · rintro e w' ⟨rfl, rfl⟩
    exact ⟨_, rfl, Below.refl _ _, rfl, rfl⟩
  rintro r w2 _ ⟨rfl, rfl⟩
  refine tail_last (l := ?la2) (t := []) ?hla2 ?htl2 ?_
  case hla2 => simp only [pick, List.getElem?_toArray, List.getElem?_cons_succ, List.getElem?_cons_zero]; rfl
  case htl2 => rfl
  simp only [Act.put, List.setIfInBounds_toArray, List.set_cons_zero, List.set_cons_succ]
  repeat (go_big_quiet_step (fail))
  refine wpQuiet_nil ?_
  clear s0 s1 s2 s3
  obtain ⟨B, hB⟩ : ∃ B, w2.heap.size = B := ⟨_, rfl⟩
  have HB := Lib.hid hB
  clear hB
  go_wp2
  go_loopw [8, 9] (fun o t wr => ∃ j : Nat, j ≤ K ∧ t = .int .i64 j ∧ wr.ownsRow B 5 1 o (512 * j) ((rdAll (joinD ls) (ws.map Wr.two) p j).map bv) ∧ Below B w2 wr ∧ (0 < j → off = false)) (fun _ t _ => K - (intOf t).toNat)
  case atStart => exact ⟨0, Nat.zero_le _, rfl, World.ownsRow_nil _ _ _ _, Below.refl _ _, fun h => absurd h (by omega)⟩
  case round =>
    obtain ⟨j, hj, rfl, hown, hb, _⟩ := hrel
    have hb2 : Below w2.heap.size w2 wr := by rw [HB.out]; exact hb
    have kr := HK1.out.below hb2
    have hBw : B ≤ wr.heap.size := by have := hb2.size; have := HB.out; omega
    by_cases hlt : j < K
    · have hof : off = false := by
        cases off
        · rfl
        · have := ho rfl; have := HK.out; unfold need at this; omega
      subst hof
      obtain ⟨y, hy⟩ : ∃ y, ls[p + j]? = some y := ⟨ls[p + j], List.getElem?_eq_getElem (by omega)⟩
      have hrd := rread_ok kr (p + j) y hy
      obtain ⟨x, hx⟩ : ∃ x, lastD (joinD ls) (ws.map Wr.two) (p + j) = x := ⟨_, rfl⟩
      have hxx := lastD_pick ls (p + j) y H5.out hy _ ws rfl
      rw [hx] at hxx
      rw [← hxx, Int.natCast_add] at hrd
      have hxl : x.length = 512 := by
        rw [← hx]
        refine lastD_length _ _ _ (fun z hz => ?_) (by rw [joinD_length ls H5.out]; omega)
        obtain ⟨v, hv, rfl⟩ := List.mem_map.1 hz
        obtain ⟨h1, h2, _⟩ := kr.wf v hv
        rw [joinD_length ls H5.out]
        exact ⟨by show v.s * 512 + 512 ≤ _; omega, h2⟩
      have hsu := rdAll_succ (joinD ls) (ws.map Wr.two) p j
      rw [hx] at hsu
      have HRD := Lib.hid hrd
      have HXL := Lib.hid hxl
      have HSU := Lib.hid hsu
      have HOWN := Lib.hid hown
      have HBB := Lib.hid hb
      clear hrd hxl hsu hown hb hx hxx hy kr
      go_wp2_with fail
      with_reducible refine (HE.out wr).mono ?_
      rintro e w3 ⟨rfl, rfl⟩
      go_wp2_with fail
      with_reducible refine HRD.out.mono ?_
      rintro e w3 ⟨A', c', rfl, o3, b3⟩
      rw [HXL.out] at o3 ⊢
      have r3 := (Rd.own' o3).1
      have hA3 : A' = none → c' = 0 := fun e => by subst e; exact (cap_none o3).2
      have HO3 := Lib.hid r3
      have OWN3 := Lib.hid (own_below HOWN.out b3)
      have HB3 := Lib.hid (HBB.out.trans (b3.mono hBw))
      have hB3 : B ≤ w3.heap.size := Nat.le_trans hBw b3.size
      clear o3 b3 r3 HRD HOWN
      go_wp2_with (first
        | (at_builtin; go_must (refine append_bytes rfl (.tmp 56) (.tmp 57) 22 5 rfl Try.underlying22 u8_inf B _ (512 * j) (rdAll (joinD ls) (ws.map Wr.two) p j) rfl OWN3.out w3.heap.size A' 512 c' x rfl HO3.out hA3 (by omega) hB3 ?_); intro x4 w4 own4 hb4 gr4; have OWN4 := Lib.hid own4; have HB4 := Lib.hid (HB3.out.trans hb4); clear own4 gr4 hb4))
      go_roundw
      case rel => exact ⟨j + 1, by omega, by go_num, by rw [HSU.out]; exact OWN4.out, HB4.out, fun _ => trivial⟩
      case measure => simp [intOf]; omega
    · obtain rfl : j = K := by omega
      obtain ⟨A7, c7, e7, hc7, hr7⟩ := own_any hown
      subst e7
      have hcl := cap_le hown
      have hcn : A7 = none → c7 = 0 := fun e => by subst e; exact (cap_none hown).2
      unfold maxLen at hcl
      have hn : n ≤ 512 * j := by have := HK.out; unfold need at this; omega
      have hrs : Rd wr wr.heap.size A7 n out := by
        rcases A7 with _ | ⟨b7, o7, s7⟩
        · have h0 : n = 0 := by
            have := (cap_none hown).1; omega
          subst h0
          have : out = [] := List.eq_nil_of_length_eq_zero HOL.out
          rw [this]; exact Rd.nil_
        · rcases Nat.eq_zero_or_pos n with h0 | h0
          · subst h0
            have : out = [] := List.eq_nil_of_length_eq_zero HOL.out
            rw [this]; exact ⟨rfl, fun h => absurd h (by omega)⟩
          · obtain ⟨b, o, e, _⟩ := hr7.2 (by omega)
            injection e with e
            injection e with e1 e2 e3
            subst e1 e2 e3
            have := hr7.sub 0 n (by omega)
            rw [List.drop_zero, HOUT.out] at this
            exact this
      have RS := Lib.hid (hrs.alloc (Nat.le_refl _) (.cells #[] 5))
      have OWN1 : Hid ((wr.alloc (.cells #[] 5)).ownsRow wr.heap.size 5 1 (.slice (some ⟨wr.heap.size, 0, none⟩) 0 0) 0 (([] : List UInt8).map bv)) := World.ownsRow_lit wr _ 0 (Nat.le_refl _) (by unfold maxLen; omega) rfl
      have HBB := Lib.hid hb
      clear hown hr7 hrs hb kr
      go_wp2_with fail
      with_reducible refine (HE.out wr).mono ?_
      rintro e w3 ⟨rfl, rfl⟩
      go_wp2_with (first
        | (at_builtin; go_must (refine append_bytes rfl (.tmp 59) (.tmp 62) 22 5 rfl Try.underlying22 u8_inf wr.heap.size (.slice (some ⟨wr.heap.size, 0, none⟩) 0 0) 0 [] rfl OWN1.out wr.heap.size A7 n c7 out rfl RS.out hcn (by omega) (by simp) ?_); intro x2 w2' own2 hb2' gr2; have own3 : w2'.ownsRow wr.heap.size 5 1 x2 out.length (out.map bv) := (by rw [HOL.out]; simpa using own2); have OWN3 := Lib.hid own3; have HB2 := Lib.hid hb2'; clear own2 own3 gr2 hb2'))
      go_ret2
      obtain ⟨_, A', c', rfl⟩ := own_slice OWN3.out
      have hbe : Below B w2 w2' := HBB.out.trans ((((Below.refl _ _).alloc (Nat.le_refl _) _).trans HB2.out).mono hBw)
      refine ⟨A', c', rfl, ?_, HB1.out.trans ?_⟩
      · obtain ⟨q1, q2⟩ := OWN3.out
        refine ⟨q1, q2.imp id fun ⟨g', cap', cur, a, b, c⟩ => ⟨g', cap', cur, a, ?_, c⟩⟩
        have := HZ1.out; have := HB.out; omega
      · rw [← HZ1.out, HB.out]; exact hbe

set_option maxRecDepth 100000 in
set_option maxHeartbeats 1000000 in
theorem rin_off (k : Rk S w g L cl W cw ls ws left true) (hN2 : ls.length ≤ 128) (p n : Nat) (hn : 0 < n) (hfit : p + need n ≤ ls.length) :
    Calls Try.prog 14 #[.pointer (some ⟨g, 0, none⟩), .int .i64 (p : Int), .int .i64 (n : Int)] w fun e w' => e = .returned (.tuple #[.slice none 0 0, .int .i64 6]) ∧ Below w.heap.size w w' := by
  obtain ⟨K, hK⟩ : ∃ K, need n = K := ⟨_, rfl⟩
  have hbl : n ≤ 65536 := by unfold need at hfit; omega
  have hK0 : 0 < K := by unfold need at hK; omega
  rw [hK] at hfit
  obtain ⟨w1, hw1⟩ : ∃ w1, w.drew = w1 := ⟨_, rfl⟩
  have hb1 : Below w.heap.size w w1 := by rw [← hw1]; exact (Below.refl _ _).drew
  have k1 := k.below hb1
  have HE := Lib.hid (fun W => rsectors_any W n (by omega) K hK)
  have s0 : decide ((n : Int) < 0) = false := decide_eq_false (by omega)
  have s1 : decide ((p : Int) < 0) = false := decide_eq_false (by omega)
  have s2 : decide (ls.length < p) = false := decide_eq_false (by omega)
  have s3 : decide ((ls.length : Int) - (p : Int) < (K : Int)) = false := decide_eq_false (by omega)
  have HRD := Lib.hid (rread_off k1 p (by omega))
  have HK1 := Lib.hid k1
  have HW1 := Lib.hid hw1
  have HB1 := Lib.hid hb1
  clear k k1 hw1 hb1 hK
  go_enter Try.func14, Try.ntmps14
  go_wp2_with fail
  refine wp_region_tail w1.heap.size [([0, 1, 2, 3, 4, 5, 6, 7, 8, 9, 10, 11, 12, 13, 14, 15, 16, 18, 19, 20, 21, 22, 23, 24], 17)] [25, 26] [] (by kernel_rfl) (by kernel_rfl) (by kernel_rfl) (fun _ _ _ _ _ h => h) ?_
  rw [HW1.out]
  clear HW1
  have z0 : ∀ z : LaterB w1.heap.size w1, z.val.cell? ⟨g, 0, none⟩ = some (.slice L ls.length cl) := fun z => (z.ext.cell (p := ⟨g, 0, none⟩) HK1.out.lt).trans HK1.out.c0
  refine tail_cons (l := ?seg1) ?hseg1 ?_
  case hseg1 => simp only [pick, List.getElem?_toArray, List.getElem?_cons_succ, List.getElem?_cons_zero]; rfl
  repeat (go_big_quiet_step (fail))
  refine wpQuiet_nil ?_
  clear z0
  refine tail_call (vs := #[.int .i64 (n : Int)]) Try.call21 rfl rfl rfl (R := fun r w' => r = .int .i64 (K : Int) ∧ w' = w1) ((HE.out w1).mono ?_) w1.heap.size (Nat.le_refl _) ?_
  · rintro e w' ⟨rfl, rfl⟩
    exact ⟨_, rfl, Below.refl _ _, rfl, rfl⟩
  rintro r w2 _ ⟨rfl, rfl⟩
  refine tail_last (l := ?la2) (t := []) ?hla2 ?htl2 ?_
  case hla2 => simp only [pick, List.getElem?_toArray, List.getElem?_cons_succ, List.getElem?_cons_zero]; rfl
  case htl2 => rfl
  simp only [Act.put, List.setIfInBounds_toArray, List.set_cons_zero, List.set_cons_succ]
  repeat (go_big_quiet_step (fail))
  refine wpQuiet_nil ?_
  clear s0 s1 s2 s3
  go_wp2
  go_loopw [9] (fun t wr => t = .int .i64 0 ∧ wr = w2) (fun _ _ => 0)
  case atStart => exact ⟨rfl, rfl⟩
  case round =>
    obtain ⟨rfl, rfl⟩ := hrel
    go_wp2_with fail
    with_reducible refine (HE.out wr).mono ?_
    rintro e w3 ⟨rfl, rfl⟩
    go_wp2_with fail
    with_reducible refine HRD.out.mono ?_
    rintro e w3 ⟨rfl, rfl⟩
    go_wp2
    go_ret2
    exact ⟨rfl, HB1.out⟩

set_option maxRecDepth 100000 in
set_option maxHeartbeats 1000000 in
theorem rin_arg (k : Rk S w g L cl W cw ls ws left off) (hN2 : ls.length ≤ 128) (p n : Int) (hn2 : n ≤ 9223372036854775807) (hfit : n < 0 ∨ p < 0 ∨ (ls.length : Int) < p + need n.toNat) :
    Calls Try.prog 14 #[.pointer (some ⟨g, 0, none⟩), .int .i64 p, .int .i64 n] w fun e w' => e = .returned (.tuple #[.slice none 0 0, .int .i64 1]) ∧ Below w.heap.size w w' := by
  have c0 := k.c0
  by_cases hn0 : n < 0
  · have s0 : decide (n < 0) = true := decide_eq_true hn0
    clear hfit k
    go_enter Try.func14, Try.ntmps14
    go_wp2_with fail
    go_quiet (fail)
    go_wp2
    go_ret2
    exact ⟨rfl, below_drewN _ _⟩
  · obtain ⟨n, rfl⟩ : ∃ q : Nat, n = (q : Int) := ⟨n.toNat, by omega⟩
    have s0 : decide ((n : Int) < 0) = false := decide_eq_false hn0
    by_cases h0 : p < 0
    · have s1 : decide (p < 0) = true := decide_eq_true h0
      clear hfit k
      go_enter Try.func14, Try.ntmps14
      go_wp2_with fail
      go_quiet (fail)
      go_wp2
      go_ret2
      exact ⟨rfl, below_drewN _ _⟩
    · obtain ⟨p, rfl⟩ : ∃ q : Nat, p = (q : Int) := ⟨p.toNat, by omega⟩
      have s1 : decide ((p : Int) < 0) = false := decide_eq_false h0
      by_cases h1 : ls.length < p
      · have s2 : decide (ls.length < p) = true := decide_eq_true h1
        clear hfit k
        go_enter Try.func14, Try.ntmps14
        go_wp2_with fail
        go_quiet (fail)
        go_wp2
        go_ret2
        exact ⟨rfl, below_drewN _ _⟩
      · have s2 : decide (ls.length < p) = false := decide_eq_false h1
        obtain ⟨K, hK⟩ : ∃ m, need n = m := ⟨_, rfl⟩
        have hm2 : K ≤ 18014398509481985 := by unfold need at hK; omega
        have hfit' : (ls.length : Int) < (p : Int) + (K : Int) := by
          rcases hfit with h | h | h
          · omega
          · omega
          · rw [Int.toNat_natCast, hK] at h; exact h
        have s3 : decide ((ls.length : Int) - (p : Int) < (K : Int)) = true := decide_eq_true (by omega)
        obtain ⟨w1, hw1⟩ : ∃ w1, w.drew = w1 := ⟨_, rfl⟩
        have hb1 : Below w.heap.size w w1 := by rw [← hw1]; exact (Below.refl _ _).drew
        have k1 := k.below hb1
        have HE := Lib.hid (fun W => rsectors_any W n (by omega) K hK)
        have HW1 := Lib.hid hw1
        have HK1 := Lib.hid k1
        have HB1 := Lib.hid hb1
        clear hfit hfit' k k1 hw1 hb1 hK c0
        go_enter Try.func14, Try.ntmps14
        go_wp2_with fail
        refine wp_region_tail w1.heap.size [([0, 1, 2, 3, 4, 5, 6, 7, 8, 9, 10, 11, 12, 13, 14, 15, 16, 18, 19, 20, 21, 22, 23, 24], 17)] [25, 26] [] (by kernel_rfl) (by kernel_rfl) (by kernel_rfl) (fun _ _ _ _ _ h => h) ?_
        rw [HW1.out]
        clear HW1
        have z0 : ∀ z : LaterB w1.heap.size w1, z.val.cell? ⟨g, 0, none⟩ = some (.slice L ls.length cl) := fun z => (z.ext.cell (p := ⟨g, 0, none⟩) HK1.out.lt).trans HK1.out.c0
        refine tail_cons (l := ?seg1) ?hseg1 ?_
        case hseg1 => simp only [pick, List.getElem?_toArray, List.getElem?_cons_succ, List.getElem?_cons_zero]; rfl
        repeat (go_big_quiet_step (fail))
        refine wpQuiet_nil ?_
        clear z0
        refine tail_call (vs := #[.int .i64 (n : Int)]) Try.call21 rfl rfl rfl (R := fun r w' => r = .int .i64 (K : Int) ∧ w' = w1) ((HE.out w1).mono ?_) w1.heap.size (Nat.le_refl _) ?_
        · rintro e w' ⟨rfl, rfl⟩
          exact ⟨_, rfl, Below.refl _ _, rfl, rfl⟩
        rintro r w2 _ ⟨rfl, rfl⟩
        refine tail_last (l := ?la2) (t := []) ?hla2 ?htl2 ?_
        case hla2 => simp only [pick, List.getElem?_toArray, List.getElem?_cons_succ, List.getElem?_cons_zero]; rfl
        case htl2 => rfl
        simp only [Act.put, List.setIfInBounds_toArray, List.set_cons_zero, List.set_cons_succ]
        repeat (go_big_quiet_step (fail))
        refine wpQuiet_nil ?_
        clear s0 s1 s2 s3
        go_wp2
        go_ret2
        exact ⟨rfl, HB1.out⟩
end
end Go.Proofs.Ytkddcfaomaphaaa
