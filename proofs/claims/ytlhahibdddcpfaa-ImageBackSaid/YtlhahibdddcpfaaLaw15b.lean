/- The walk of ImagePuts. -/
import Derived.Test.YtlhahibdddcpfaaLaw15a
namespace Go.Proofs.Ytlhahibdddcpfaa
open Go.RowKit

theorem fewI_parts {l : List Rk} {d : List (List UInt8)} (h : fewI l d = true) : l.length ≤ 600 ∧ d.length ≤ 600 ∧ d.flatten.length ≤ 40000 := by
  unfold fewI at h
  simp only [Bool.and_eq_true] at h
  exact ⟨of_decide_eq_true h.1, of_decide_eq_true h.2.1, of_decide_eq_true h.2.2.2⟩
set_option maxRecDepth 100000 in
set_option maxHeartbeats 4000000 in
theorem ip_any (w : World) (n : Int) (hn : -9223372036854775808 ≤ n ∧ n ≤ 9223372036854775807) (A1 : Option Addr) (k1 : Nat) (l : List Rk) (hr : RkRd w w.heap.size A1 l) (hml : l.length ≤ maxLen) (A2 : Option Addr) (k2 : Nat) (d : List (List UInt8)) (hd : DtRd w w.heap.size A2 d) (hmd : d.length ≤ maxLen) :
    Calls Try.prog 3 #[.int .i64 n, .slice A1 l.length k1, .slice A2 d.length k2] w fun e w' => e = .returned (.bool true) ∧ Below w.heap.size w w' := by
  have HUP := Lib.hid (up15_any w)
  obtain ⟨v, hv⟩ : ∃ v : Int, (if fewI l d = true then (1 : Int) else 0) = v := ⟨_, rfl⟩
  have HFEW := Lib.hid (fun W (hb : Below w.heap.size w W) => few15_any W A1 A2 k1 k2 l d ((hd.below hb).more hb.size) hml hmd v hv)
  cases hf : fewI l d with
  | false =>
    rw [hf] at hv
    obtain rfl : (0 : Int) = v := hv
    clear hf hr hd hml hmd
    go_enter Try.func3, Try.ntmps3
    go_wp2_with fail
    refine HUP.out.mono ?_
    rintro e w1 ⟨rfl, hb1⟩
    have HB := Lib.hid hb1
    clear hb1 HUP
    go_wp2_with fail
    refine (HFEW.out w1 HB.out).mono ?_
    rintro e w2 ⟨rfl, rfl⟩
    go_wp2
    go_ret
    exact ⟨rfl, HB.out⟩
  | true =>
    rw [hf] at hv
    obtain rfl : (1 : Int) = v := hv
    obtain ⟨f1, f2, f3⟩ := fewI_parts hf
    have HR := Lib.hid hr
    have HD := Lib.hid hd
    have HLIKE := Lib.hid (fun W => like_any W n A1 A2 l.length k1 d.length k2)
    have HRM := Lib.hid (fun W (hb : Below w.heap.size w W) => rmay_any W n hn A1 A2 k1 k2 l d ((hr.below hb).more hb.size) ((hd.below hb).more hb.size) (by omega) (by omega) _ rfl)
    have HPM := Lib.hid (fun W (hb : Below w.heap.size w W) => immay_any W n hn A1 A2 k1 k2 l d ((hr.below hb).more hb.size) ((hd.below hb).more hb.size) (by omega) (by omega) _ rfl)
    have HPN := Lib.hid (fun W (hb : Below w.heap.size w W) => imput_no W n hn A1 A2 k1 k2 l d ((hr.below hb).more hb.size) ((hd.below hb).more hb.size) (by omega) (by omega))
    have HPO : Hid (∀ W, Below w.heap.size w W → ∀ N : Nat, n = (N : Int) → mayI n l d = true → Calls Try.prog 10 #[imV n A1 l.length k1 A2 d.length k2] W fun e w' => ∃ A c, e = .returned (.tuple #[.slice A (putB N l d).length c, .nilIface]) ∧ w'.ownsRow W.heap.size 5 1 (.slice A (putB N l d).length c) (putB N l d).length ((putB N l d).map bv) ∧ Below W.heap.size W w') := by
      intro W hb N hN hm
      subst hN
      exact imput_ok W N (by omega) A1 A2 k1 k2 l d ((hr.below hb).more hb.size) ((hd.below hb).more hb.size) (by omega) (by omega) (by omega) hm
    have HRP : Hid (∀ W, Below w.heap.size w W → ∀ N : Nat, n = (N : Int) → Calls Try.prog 13 #[imV n A1 l.length k1 A2 d.length k2] W fun e w' => ∃ A c, e = .returned (.slice A (putB N l d).length c) ∧ w'.ownsRow W.heap.size 5 1 (.slice A (putB N l d).length c) (putB N l d).length ((putB N l d).map bv) ∧ Below W.heap.size W w') := by
      intro W hb N hN
      subst hN
      exact rimput_any W N (by omega) A1 A2 k1 k2 l d ((hr.below hb).more hb.size) ((hd.below hb).more hb.size) (by omega) (by omega) (by omega)
    obtain ⟨ll, hll⟩ : ∃ ll, l.length = ll := ⟨_, rfl⟩
    obtain ⟨dl, hdll⟩ : ∃ dl, d.length = dl := ⟨_, rfl⟩
    rw [hll, hdll] at HFEW HLIKE HRM HPM HPN HPO HRP
    rw [hll, hdll]
    unfold imV at HLIKE HRM HPM HPN HPO HRP
    obtain ⟨y, hy⟩ : ∃ y, mayI n l d = y := ⟨_, rfl⟩
    rw [hy] at HRM HPM
    have HY := Lib.hid hy
    clear hf hr hd hml hmd f1 f2 f3 hll hdll hy
    go_enter Try.func3, Try.ntmps3
    go_wp2_with fail
    refine HUP.out.mono ?_
    rintro e w1 ⟨rfl, hb1⟩
    have HB := Lib.hid hb1
    clear hb1 HUP
    go_wp2_with fail
    refine (HFEW.out w1 HB.out).mono ?_
    rintro e w2 ⟨rfl, rfl⟩
    obtain ⟨w3, hw3⟩ : ∃ w3, w1.alloc (.cells #[.int .i64 n, .slice A1 ll k1, .slice A2 dl k2] 27) = w3 := ⟨_, rfl⟩
    have hb3 : Below w1.heap.size w1 w3 := by rw [← hw3]; exact (Below.refl _ _).alloc (Nat.le_refl _) _
    have n3 : w3.heap[w1.heap.size]? = some (.cells #[.int .i64 n, .slice A1 ll k1, .slice A2 dl k2] 27 (0, 0)) := by rw [← hw3]; exact heap_alloc_new w1 _
    obtain ⟨c0, c1, c2⟩ := rk_cells n3
    have hl3 := heap_lt1 n3
    have HB3 := Lib.hid (HB.out.trans (hb3.mono HB.out.size))
    have HN3 := Lib.hid n3
    have HW3 := Lib.hid hw3
    clear hw3 hb3 n3 HFEW
    go_wp2_with (first | (rw [HW3.out]) | fail)
    refine (HLIKE.out w3).mono ?_
    rintro e w4 ⟨rfl, hb4⟩
    have HB4 := Lib.hid (HB3.out.trans (hb4.mono HB3.out.size))
    have n4 := (hb4.block _ (heap_lt1 HN3.out)).trans HN3.out
    clear hb4
    go_wp2_with fail
    refine (HRM.out w4 HB4.out).mono ?_
    rintro e w5 ⟨rfl, hb5⟩
    have n5 := (hb5.block _ (heap_lt1 n4)).trans n4
    have HB5 := Lib.hid (HB4.out.trans (hb5.mono HB4.out.size))
    have HN5 := Lib.hid n5
    clear c0 c1 c2 hl3 hb5 n4
    obtain ⟨c0, c1, c2⟩ := rk_cells n5
    have hl5 := heap_lt1 n5
    clear n5
    cases y with
    | false =>
      go_wp2_with fail
      refine (HPN.out w5 HB5.out HY.out).mono ?_
      rintro e w6 ⟨rfl, hb6⟩
      have n6 := (hb6.block _ (heap_lt1 HN5.out)).trans HN5.out
      have HB6 := Lib.hid (HB5.out.trans (hb6.mono HB5.out.size))
      have HN6 := Lib.hid n6
      clear c0 c1 c2 hl5 hb6
      obtain ⟨c0, c1, c2⟩ := rk_cells n6
      have hl6 := heap_lt1 n6
      clear n6
      go_wp2_with fail
      refine (HPM.out w6 HB6.out).mono ?_
      rintro e w7 ⟨rfl, hb7⟩
      have HB7 := Lib.hid (HB6.out.trans (hb7.mono HB6.out.size))
      clear hb7
      go_wp2_with fail
      refine (code15_err w7 1 (by omega) (by omega)).mono ?_
      rintro e w8 ⟨rfl, rfl⟩
      obtain ⟨wd, hwd⟩ : ∃ wd, w7.drew = wd := ⟨_, rfl⟩
      have HWD := Lib.hid hwd
      have HBD : Hid (Below w.heap.size w wd) := (show Below _ _ _ by rw [← hwd]; exact HB7.out.drew)
      clear hwd
      go_wp2_with fail
      refine wp_region_tail wd.heap.size [([0, 1, 2, 3, 4, 5, 6, 7, 8, 9, 10], 11), ([], 12)] [13, 14, 15, 16, 17, 18] [] (by kernel_rfl) (by kernel_rfl) (by kernel_rfl) (fun _ _ _ _ _ h => h) ?_
      rw [HWD.out]
      refine tail_cons (l := ?segA) ?hsegA ?_
      case hsegA => simp only [pick, List.getElem?_toArray, List.getElem?_cons_succ, List.getElem?_cons_zero]; rfl
      repeat (go_big_quiet_step (fail))
      refine wpQuiet_nil ?_
      refine tail_no rfl (some 59) rfl rfl ⟨wd.heap.size, Nat.le_refl _, ?_⟩
      simp only [Act.put, List.setIfInBounds_toArray, List.set_cons_zero, List.set_cons_succ]
      refine tail_cons (l := []) rfl (wpQuiet_nil ?_)
      refine tail_no rfl (some 60) rfl rfl ⟨wd.heap.size, Nat.le_refl _, ?_⟩
      simp only [Act.put, List.setIfInBounds_toArray, List.set_cons_zero, List.set_cons_succ]
      refine tail_last (l := ?lastA) (t := []) ?hlastA ?htlastA ?_
      case hlastA => simp only [pick, List.getElem?_toArray, List.getElem?_cons_succ, List.getElem?_cons_zero]; rfl
      case htlastA => rfl
      repeat (go_big_quiet_step (fail))
      refine wpQuiet_nil ?_
      go_wp2
      go_ret
      exact ⟨rfl, HBD.out⟩
    | true =>
      obtain ⟨N, hN⟩ : ∃ N : Nat, n = (N : Int) := ⟨n.toNat, by
        have h := HY.out
        unfold mayI at h
        rw [Bool.and_eq_true] at h
        have := (lenOk_iff n).1 h.1
        omega⟩
      have HPO2 := Lib.hid (HPO.out w5 HB5.out N hN HY.out)
      have HRP2 := Lib.hid (fun W hb => HRP.out W hb N hN)
      subst hN
      obtain ⟨pl, hpl⟩ : ∃ pl, putB N l d = pl := ⟨_, rfl⟩
      rw [hpl] at HPO2 HRP2
      obtain ⟨pn, hpn⟩ : ∃ pn, pl.length = pn := ⟨_, rfl⟩
      rw [hpn] at HPO2 HRP2
      clear hpl hpn HPO HRP
      go_wp2_with fail
      refine HPO2.out.mono ?_
      rintro e w6 ⟨A6, k6, rfl, ho6, hb6⟩
      have n6 := (hb6.block _ (heap_lt1 HN5.out)).trans HN5.out
      have HB6 := Lib.hid (HB5.out.trans (hb6.mono HB5.out.size))
      have HN6 := Lib.hid n6
      have HR6 := Lib.hid (own_reads ho6)
      clear c0 c1 c2 hl5 hb6 ho6 HPO2
      obtain ⟨c0, c1, c2⟩ := rk_cells n6
      have hl6 := heap_lt1 n6
      clear n6
      go_wp2_with fail
      refine (HPM.out w6 HB6.out).mono ?_
      rintro e w7 ⟨rfl, hb7⟩
      have n7 := (hb7.block _ (heap_lt1 HN6.out)).trans HN6.out
      obtain ⟨wd, hwd⟩ : ∃ wd, w7.drew = wd := ⟨_, rfl⟩
      have hbd : Below w7.heap.size w7 wd := by rw [← hwd]; exact (Below.refl _ _).drew
      have nd := (hbd.block _ (heap_lt1 n7)).trans n7
      have HRD := Lib.hid (((HR6.out.below hb7).more hb7.size |>.below hbd).more hbd.size)
      have HBD := Lib.hid (HB6.out.trans ((hb7.trans (hbd.mono hb7.size)).mono HB6.out.size))
      have HWD := Lib.hid hwd
      clear c0 c1 c2 hl6 hb7 hbd hwd n7
      obtain ⟨c0, c1, c2⟩ := rk_cells nd
      have hld := heap_lt1 nd
      clear nd
      go_wp2_with fail
      refine wp_region_tail wd.heap.size [([0, 1, 2, 3, 4, 5, 6, 7, 8, 9, 10], 11), ([], 12)] [13, 14, 15, 16, 17, 18] [] (by kernel_rfl) (by kernel_rfl) (by kernel_rfl) (fun _ _ _ _ _ h => h) ?_
      rw [HWD.out]
      have q0 : ∀ z : LaterB wd.heap.size wd, z.val.cell? ⟨w1.heap.size, 0, none⟩ = some (.int .i64 (N : Int)) := fun z => (z.ext.cell (p := ⟨w1.heap.size, 0, none⟩) hld).trans c0
      have q1 : ∀ z : LaterB wd.heap.size wd, z.val.cell? ⟨w1.heap.size, 1, none⟩ = some (.slice A1 ll k1) := fun z => (z.ext.cell (p := ⟨w1.heap.size, 1, none⟩) hld).trans c1
      have q2 : ∀ z : LaterB wd.heap.size wd, z.val.cell? ⟨w1.heap.size, 2, none⟩ = some (.slice A2 dl k2) := fun z => (z.ext.cell (p := ⟨w1.heap.size, 2, none⟩) hld).trans c2
      have q3 : ∀ z : LaterB wd.heap.size wd, (convert 31 9 (.slice A6 pn k6)).run Try.prog z.val = .ok (.string (strB pl)) z.val := fun z => conv_rd (HRD.out.below z.ext)
      refine tail_cons (l := ?segB) ?hsegB ?_
      case hsegB => simp only [pick, List.getElem?_toArray, List.getElem?_cons_succ, List.getElem?_cons_zero]; rfl
      repeat (go_big_quiet_step (fail))
      refine wpQuiet_nil ?_
      clear q0 q1 q2 q3
      refine tail_call (vs := #[.agg #[.int .i64 (N : Int), .slice A1 ll k1, .slice A2 dl k2]]) Try.call9 rfl rfl rfl (R := fun r w' => r = .agg #[.int .i64 (N : Int), .slice A1 ll k1, .slice A2 dl k2] ∧ Below wd.heap.size wd w') ((HLIKE.out wd).mono ?_) wd.heap.size (Nat.le_refl _) ?_
      · rintro e w' ⟨rfl, hb⟩
        exact ⟨_, rfl, hb, rfl, hb⟩
      rintro r w8 _ ⟨rfl, hb8⟩
      simp only [Act.put, List.setIfInBounds_toArray, List.set_cons_zero, List.set_cons_succ]
      refine tail_cons (l := []) rfl (wpQuiet_nil ?_)
      refine tail_call2 (vs := #[.agg #[.int .i64 (N : Int), .slice A1 ll k1, .slice A2 dl k2]]) Try.call13 rfl rfl rfl (R := fun r w' => ∃ A c, r = .slice A pn c ∧ w'.ownsRow w8.heap.size 5 1 (.slice A pn c) pn (pl.map bv) ∧ Below w8.heap.size w8 w') ((HRP2.out w8 (HBD.out.trans (hb8.mono HBD.out.size))).mono ?_) ?_
      · rintro e w' ⟨A, c, rfl, ho, hb⟩
        exact ⟨_, rfl, hb.mono hb8.size, A, c, rfl, ho, hb⟩
      rintro r w9 hb89 ⟨A9, k9, rfl, ho9, hb9⟩
      have HR9 := Lib.hid (own_reads ho9)
      have HF := Lib.hid (HBD.out.trans ((hb8.trans (hb9.mono hb8.size)).mono HBD.out.size))
      refine ⟨w9.heap.size, Nat.le_trans hb8.size hb9.size, ?_⟩
      clear hb8 hb89 ho9 hb9
      simp only [Act.put, List.setIfInBounds_toArray, List.set_cons_zero, List.set_cons_succ]
      have q4 : ∀ z : LaterB w9.heap.size w9, (convert 31 9 (.slice A9 pn k9)).run Try.prog z.val = .ok (.string (strB pl)) z.val := fun z => conv_rd (HR9.out.below z.ext)
      refine tail_last (l := ?lastB) (t := []) ?hlastB ?htlastB ?_
      case hlastB => simp only [pick, List.getElem?_toArray, List.getElem?_cons_succ, List.getElem?_cons_zero]; rfl
      case htlastB => rfl
      repeat (go_big_quiet_step (fail))
      refine wpQuiet_nil ?_
      go_wp2
      go_ret
      exact ⟨rfl, HF.out⟩
end Go.Proofs.Ytlhahibdddcpfaa
