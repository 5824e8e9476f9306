/- Texts of mine, joined: Law16a. -/
import Derived.Test.YtbemaoncakcnjaaR9

/- The head of layer 16's laws; the walk of RestoreBack (genlaw16a.py). -/
namespace Go.Proofs.Ytbemaoncakcnjaa
open Go.RowKit

theorem few16_parts {l : List Rk} {d : List (List UInt8)} (h : fewI l d = true) : l.length ≤ 600 ∧ d.length ≤ 600 ∧ d.flatten.length ≤ 40000 := by
  unfold fewI at h
  simp only [Bool.and_eq_true] at h
  exact ⟨of_decide_eq_true h.1, of_decide_eq_true h.2.1, of_decide_eq_true h.2.2.2⟩
theorem layOf_facts {n : Int} {l : List Rk} {d : List (List UInt8)} {out : List UInt8} (h : mayI n l d = true) (ho : layOf n l d = some out) : ∃ N : Nat, n = (N : Int) ∧ 184 ≤ N ∧ N ≤ 16384 ∧ checkB out = true ∧ walkB out = some (l.map toB) ∧ out.length = N ∧ ofD out (l.map toB) = d ∧ l = (l.map toB).map toR := by
  have hlo : lenOk n = true := by unfold mayI at h; rw [Bool.and_eq_true] at h; exact h.1
  have hlB := (lenOk_iff n).1 hlo
  obtain ⟨N, rfl⟩ : ∃ N : Nat, n = (N : Int) := ⟨n.toNat, by omega⟩
  have hrow : rowOk (N : Int) 184 false l = true := by unfold mayI at h; simp only [Bool.and_eq_true] at h; exact h.2.1
  obtain ⟨out', _, _, hre, h1, h2, h3, h4⟩ := image_laid h
  unfold layOf at ho
  rw [Int.toNat_natCast, hre] at ho
  injection ho with ho
  subst ho
  exact ⟨N, rfl, by omega, by omega, h1, h2, h3, h4, (row_tile (o := 184) hrow).2.1⟩
set_option maxRecDepth 100000 in
set_option maxHeartbeats 1000000 in
theorem up16_any (w : World) :
    Calls Try.prog 5 #[] w fun e w' => e = .returned (.bool true) ∧ Below w.heap.size w w' := by
  have h0 : mayI 184 [] [] = true := by kernel_rfl
  have h1 := rest_ok w 184 (by omega) none none 0 0 [] [] (fun h => absurd h (by simp)) (fun h => absurd h (by simp)) (by simp) (by simp) 48 (by omega) 2048 (by omega) h0 (by omega) (by omega) (by omega) (by omega) (by omega)
  have h2 := fun W => rest_noar W 184 (by omega) none none 0 0 [] [] (fun h => absurd h (by simp)) (fun h => absurd h (by simp)) (by simp) (by simp) 48 (by omega) 1 (by omega) h0 (.inr (.inr (.inl (by omega))))
  dsimp only [List.length_nil] at h1 h2
  have H1 := Lib.hid h1
  have H2 := Lib.hid h2
  have H0 := Lib.hid h0
  clear h1 h2 h0
  go_enter Try.func5, Try.ntmps5
  go_wp2_with fail
  refine H1.out.mono ?_
  rintro e w2 ⟨out, H, q, g, A, c, hlay, rfl, hph, _, _, _, hb2⟩
  obtain ⟨N, hN, _, _, _, hwk, hol, _, _⟩ := layOf_facts H0.out hlay
  have hN2 : N = 184 := by omega
  subst hN2
  have hblk : H.blks = [] := by
    have := hph.rd.rt.walk
    rw [hwk] at this
    injection this with this
    exact this.symm
  have hstat : stV H.stats = .agg #[.int .i64 0, .int .i64 0, .int .i64 0, .int .i64 184, .int .i64 2048] := by
    unfold Hp.stats
    rw [hph.rd.rt.lenE, hph.cp, hblk, hol]
    rfl
  have HPH := Lib.hid hph
  have HB2 := Lib.hid hb2
  have HST := Lib.hid hstat
  clear hph hb2 hstat hblk hlay hwk hol hN H1
  go_wp2_with fail
  refine (H2.out w2).mono ?_
  rintro e w3 ⟨rfl, hb3⟩
  have HPH3 := Lib.hid (HPH.out.below hb3)
  have HB3 := Lib.hid (HB2.out.trans (hb3.mono HB2.out.size))
  clear hb3
  have hS := hstats_prog HPH3.out
  rw [HST.out] at hS
  have HS := Lib.hid hS
  clear hS
  go_wp2_with fail
  refine HS.out.mono ?_
  rintro e w4 ⟨rfl, hb4⟩
  have HB4 := Lib.hid (HB3.out.trans (hb4.mono HB3.out.size))
  clear hb4
  go_wp2_with fail
  refine (code_err w4 1 (by omega) (by omega)).mono ?_
  rintro e w5 ⟨rfl, rfl⟩
  go_wp2
  go_ret
  exact ⟨rfl, HB4.out⟩
theorem like16 (w : World) (n : Int) (A1 A2 : Option Addr) (a1 b1 a2 b2 : Nat) :
    Calls Try.prog 9 #[.agg #[.int .i64 n, .slice A1 a1 b1, .slice A2 a2 b2]] w fun e w' => e = .returned (.agg #[.int .i64 n, .slice A1 a1 b1, .slice A2 a2 b2]) ∧ Below w.heap.size w w' := like_any w n A1 A2 a1 b1 a2 b2
theorem base16 (nb : Nat) : ∃ base, nb % 288230376151711744 * 16 = base ∧ base % 16 = 0 ∧ base ≤ 4611686018427387904 := ⟨_, rfl, by omega, by omega⟩
set_option maxRecDepth 100000 in
set_option maxHeartbeats 4000000 in
theorem rb_few (w : World) (n : Int) (_hn : -9223372036854775808 ≤ n ∧ n ≤ 9223372036854775807) (A1 : Option Addr) (k1 : Nat) (l : List Rk) (_hr : RkRd w w.heap.size A1 l) (hml : l.length ≤ maxLen) (A2 : Option Addr) (k2 : Nat) (d : List (List UInt8)) (hd : DtRd w w.heap.size A2 d) (hmd : d.length ≤ maxLen) (nb : Nat) (_hnb : nb < 18446744073709551616) (no : Nat) (_hno : no < 18446744073709551616) (hf : fewI l d = false) :
    Calls Try.prog 4 #[.int .i64 n, .slice A1 l.length k1, .slice A2 d.length k2, .int .u64 (nb : Int), .int .u64 (no : Int)] w fun e w' => e = .returned (.bool true) ∧ Below w.heap.size w w' := by
  have HUP := Lib.hid (up16_any w)
  obtain ⟨v, hv⟩ : ∃ v : Int, (if fewI l d = true then (1 : Int) else 0) = v := ⟨_, rfl⟩
  have HFEW := Lib.hid (fun W (hb : Below w.heap.size w W) => few15_any W A1 A2 k1 k2 l d ((hd.below hb).more hb.size) hml hmd v hv)
  rw [hf] at hv
  obtain rfl : (0 : Int) = v := hv
  clear hf _hr hd hml hmd _hnb _hno
  go_enter Try.func4, Try.ntmps4
  go_wp2_with fail
  refine HUP.out.mono ?_
  rintro e w1 ⟨rfl, hb1⟩
  have HB := Lib.hid hb1
  clear hb1 HUP
  go_wp2_with fail
  refine (HFEW.out w1 HB.out).mono ?_
  rintro e w2 ⟨rfl, rfl⟩
  go_wp2
  go_ret
  exact ⟨rfl, HB.out⟩
set_option maxRecDepth 100000 in
set_option maxHeartbeats 4000000 in
theorem rb_no (w : World) (n : Int) (hn : -9223372036854775808 ≤ n ∧ n ≤ 9223372036854775807) (A1 : Option Addr) (k1 : Nat) (l : List Rk) (hr : RkRd w w.heap.size A1 l) (hml : l.length ≤ maxLen) (A2 : Option Addr) (k2 : Nat) (d : List (List UInt8)) (hd : DtRd w w.heap.size A2 d) (hmd : d.length ≤ maxLen) (nb : Nat) (hnb : nb < 18446744073709551616) (no : Nat) (hno : no < 18446744073709551616) (hf : fewI l d = true) (hm : mayI n l d = false) :
    Calls Try.prog 4 #[.int .i64 n, .slice A1 l.length k1, .slice A2 d.length k2, .int .u64 (nb : Int), .int .u64 (no : Int)] w fun e w' => e = .returned (.bool true) ∧ Below w.heap.size w w' := by
  have HUP := Lib.hid (up16_any w)
  obtain ⟨v, hv⟩ : ∃ v : Int, (if fewI l d = true then (1 : Int) else 0) = v := ⟨_, rfl⟩
  have HFEW := Lib.hid (fun W (hb : Below w.heap.size w W) => few15_any W A1 A2 k1 k2 l d ((hd.below hb).more hb.size) hml hmd v hv)
  obtain ⟨f1, f2, _⟩ := few16_parts hf
  rw [hf] at hv
  obtain rfl : (1 : Int) = v := hv
  obtain ⟨b1, hb1, hb16, hb62⟩ := base16 nb
  obtain ⟨b2, hb2, hb26, hb262⟩ := base16 no
  have HBAA := Lib.hid (fun W => lawbase_any W nb hnb)
  have HBAB := Lib.hid (fun W => lawbase_any W no hno)
  rw [hb1] at HBAA
  rw [hb2] at HBAB
  have HR := Lib.hid hr
  have HD := Lib.hid hd
  have HRK := Lib.hid (fun W (hb : Below w.heap.size w W) => (hr.below hb).more hb.size)
  have HDT := Lib.hid (fun W (hb : Below w.heap.size w W) => (hd.below hb).more hb.size)
  have HNO := Lib.hid (fun W b (hb : b < 18446744073709551616) (h : Below w.heap.size w W) => rest_bad W n hn A1 A2 k1 k2 l d ((hr.below h).more h.size) ((hd.below h).more h.size) (by omega) (by omega) b hb 16384 (by omega) hm)
  have HMY := Lib.hid (fun W (h : Below w.heap.size w W) => immay_any W n hn A1 A2 k1 k2 l d ((hr.below h).more h.size) ((hd.below h).more h.size) (by omega) (by omega) _ hm)
  unfold imV at HMY
  obtain ⟨ll, hll⟩ : ∃ ll, l.length = ll := ⟨_, rfl⟩
  obtain ⟨dl, hdl⟩ : ∃ dl, d.length = dl := ⟨_, rfl⟩
  rw [hll, hdl] at HFEW HNO HMY
  rw [hll, hdl]
  clear hr hd hml hmd hnb hno hll hdl hf hm f1 f2 hb1 hb2 HRK HDT HR HD
  go_enter Try.func4, Try.ntmps4
  go_wp2_with fail
  refine HUP.out.mono ?_
  rintro e w1 ⟨rfl, hb1⟩
  have HB := Lib.hid hb1
  clear hb1 HUP
  go_wp2_with fail
  refine (HFEW.out w1 HB.out).mono ?_
  rintro e w2 ⟨rfl, rfl⟩
  obtain ⟨wX, hwX⟩ : ∃ wX, w1.alloc (.cells #[.int .i64 n, .slice A1 ll k1, .slice A2 dl k2] 28) = wX := ⟨_, rfl⟩
  have hbX : Below w1.heap.size w1 wX := by rw [← hwX]; exact (Below.refl _ _).alloc (Nat.le_refl _) _
  have nX : wX.heap[w1.heap.size]? = some (.cells #[.int .i64 n, .slice A1 ll k1, .slice A2 dl k2] 28 (0, 0)) := by rw [← hwX]; exact heap_alloc_new w1 _
  obtain ⟨wd, hwd⟩ : ∃ wd, wX.drew = wd := ⟨_, rfl⟩
  have hbd : Below wX.heap.size wX wd := by rw [← hwd]; exact (Below.refl _ _).drew
  have nd := (hbd.block _ (heap_lt1 nX)).trans nX
  have HBD := Lib.hid (HB.out.trans ((hbX.trans (hbd.mono hbX.size)).mono HB.out.size))
  have HND := Lib.hid nd
  have HWX := Lib.hid hwX
  have HWD := Lib.hid hwd
  obtain ⟨c0, c1, c2⟩ := rk_cells nd
  have hld := heap_lt1 nd
  clear hwX hbX nX hwd hbd nd HFEW
  go_wp2_with (first | (rw [HWX.out]) | fail)
  refine wp_region_tail wd.heap.size [([0, 1], 2), ([], 3)] [4, 5, 6, 7, 8] [] (by kernel_rfl) (by kernel_rfl) (by kernel_rfl) (fun _ _ _ _ _ h => h) ?_
  rw [HWD.out]
  have qA0 : ∀ z : LaterB wd.heap.size wd, z.val.cell? ⟨w1.heap.size, 0, none⟩ = some (.int .i64 n) := fun z => (z.ext.cell (p := ⟨w1.heap.size, 0, none⟩) hld).trans c0
  have qA1 : ∀ z : LaterB wd.heap.size wd, z.val.cell? ⟨w1.heap.size, 1, none⟩ = some (.slice A1 ll k1) := fun z => (z.ext.cell (p := ⟨w1.heap.size, 1, none⟩) hld).trans c1
  have qA2 : ∀ z : LaterB wd.heap.size wd, z.val.cell? ⟨w1.heap.size, 2, none⟩ = some (.slice A2 dl k2) := fun z => (z.ext.cell (p := ⟨w1.heap.size, 2, none⟩) hld).trans c2
  refine tail_cons (l := ?segA) ?hsegA ?_
  case hsegA => simp only [pick, List.getElem?_toArray, List.getElem?_cons_succ, List.getElem?_cons_zero]; rfl
  repeat (go_big_quiet_step (fail))
  refine wpQuiet_nil ?_
  clear qA0 qA1 qA2
  refine tail_call (vs := #[.int .u64 (nb : Int)]) Try.call18 rfl rfl rfl (R := fun r w' => r = .int .u64 (b1 : Int) ∧ wd = w') ((HBAA.out wd).mono ?_) wd.heap.size (Nat.le_refl _) ?_
  · rintro e w' ⟨rfl, rfl⟩
    exact ⟨_, rfl, Below.refl _ _, rfl, rfl⟩
  rintro r w' _ ⟨rfl, rfl⟩
  simp only [Act.put, List.setIfInBounds_toArray, List.set_cons_zero, List.set_cons_succ]
  refine tail_cons (l := []) rfl (wpQuiet_nil ?_)
  refine tail_call2 (vs := #[.agg #[.int .i64 n, .slice A1 ll k1, .slice A2 dl k2], .int .u64 (b1 : Int), .int .i64 16384]) Try.call7 rfl rfl rfl (R := fun r w' => r = .tuple #[.pointer none, .iface 58 (.int .i64 1)] ∧ Below wd.heap.size wd w') ((HNO.out wd b1 (by omega) HBD.out).mono ?_) ?_
  · rintro e w' ⟨rfl, hb⟩
    exact ⟨_, rfl, hb, rfl, hb⟩
  rintro r w3 _ ⟨rfl, hbN⟩
  refine ⟨w3.heap.size, hbN.size, ?_⟩
  simp only [Act.put, List.setIfInBounds_toArray, List.set_cons_zero, List.set_cons_succ]
  refine tail_last (l := ?lastA) (t := []) ?hlastA rfl ?_
  case hlastA => simp only [pick, List.getElem?_toArray, List.getElem?_cons_succ, List.getElem?_cons_zero]; rfl
  repeat (go_big_quiet_step (fail))
  refine wpQuiet_nil ?_
  have HB3 := Lib.hid (HBD.out.trans (hbN.mono HBD.out.size))
  obtain ⟨we, hwe⟩ : ∃ we, w3.drew = we := ⟨_, rfl⟩
  have hbe : Below w3.heap.size w3 we := by rw [← hwe]; exact (Below.refl _ _).drew
  have ne := ((hbN.trans (hbe.mono hbN.size)).block _ (heap_lt1 HND.out)).trans HND.out
  have HBE := Lib.hid (HB3.out.trans (hbe.mono HB3.out.size))
  have HNE := Lib.hid ne
  have HWE := Lib.hid hwe
  clear hbN hwe hbe c0 c1 c2 hld
  obtain ⟨c0, c1, c2⟩ := rk_cells ne
  have hld := heap_lt1 ne
  clear ne
  go_wp2_with fail
  refine wp_region_tail we.heap.size [([0, 1], 2), ([], 3)] [4, 5, 6, 7, 8] [] (by kernel_rfl) (by kernel_rfl) (by kernel_rfl) (fun _ _ _ _ _ h => h) ?_
  rw [HWE.out]
  have qB0 : ∀ z : LaterB we.heap.size we, z.val.cell? ⟨w1.heap.size, 0, none⟩ = some (.int .i64 n) := fun z => (z.ext.cell (p := ⟨w1.heap.size, 0, none⟩) hld).trans c0
  have qB1 : ∀ z : LaterB we.heap.size we, z.val.cell? ⟨w1.heap.size, 1, none⟩ = some (.slice A1 ll k1) := fun z => (z.ext.cell (p := ⟨w1.heap.size, 1, none⟩) hld).trans c1
  have qB2 : ∀ z : LaterB we.heap.size we, z.val.cell? ⟨w1.heap.size, 2, none⟩ = some (.slice A2 dl k2) := fun z => (z.ext.cell (p := ⟨w1.heap.size, 2, none⟩) hld).trans c2
  refine tail_cons (l := ?segB) ?hsegB ?_
  case hsegB => simp only [pick, List.getElem?_toArray, List.getElem?_cons_succ, List.getElem?_cons_zero]; rfl
  repeat (go_big_quiet_step (fail))
  refine wpQuiet_nil ?_
  clear qB0 qB1 qB2
  refine tail_call (vs := #[.int .u64 (no : Int)]) Try.call18 rfl rfl rfl (R := fun r w' => r = .int .u64 (b2 : Int) ∧ we = w') ((HBAB.out we).mono ?_) we.heap.size (Nat.le_refl _) ?_
  · rintro e w' ⟨rfl, rfl⟩
    exact ⟨_, rfl, Below.refl _ _, rfl, rfl⟩
  rintro r w' _ ⟨rfl, rfl⟩
  simp only [Act.put, List.setIfInBounds_toArray, List.set_cons_zero, List.set_cons_succ]
  refine tail_cons (l := []) rfl (wpQuiet_nil ?_)
  refine tail_call2 (vs := #[.agg #[.int .i64 n, .slice A1 ll k1, .slice A2 dl k2], .int .u64 (b2 : Int), .int .i64 16384]) Try.call7 rfl rfl rfl (R := fun r w' => r = .tuple #[.pointer none, .iface 58 (.int .i64 1)] ∧ Below we.heap.size we w') ((HNO.out we b2 (by omega) HBE.out).mono ?_) ?_
  · rintro e w' ⟨rfl, hb⟩
    exact ⟨_, rfl, hb, rfl, hb⟩
  rintro r w4 _ ⟨rfl, hbN⟩
  refine ⟨w4.heap.size, hbN.size, ?_⟩
  simp only [Act.put, List.setIfInBounds_toArray, List.set_cons_zero, List.set_cons_succ]
  refine tail_last (l := ?lastB) (t := []) ?hlastB rfl ?_
  case hlastB => simp only [pick, List.getElem?_toArray, List.getElem?_cons_succ, List.getElem?_cons_zero]; rfl
  repeat (go_big_quiet_step (fail))
  refine wpQuiet_nil ?_
  have HB4 := Lib.hid (HBE.out.trans (hbN.mono HBE.out.size))
  obtain ⟨wf, hwf⟩ : ∃ wf, w4.drew = wf := ⟨_, rfl⟩
  have hbf : Below w4.heap.size w4 wf := by rw [← hwf]; exact (Below.refl _ _).drew
  have nf := ((hbN.trans (hbf.mono hbN.size)).block _ (heap_lt1 HNE.out)).trans HNE.out
  have HBF := Lib.hid (HB4.out.trans (hbf.mono HB4.out.size))
  have HWF := Lib.hid hwf
  clear hbN hwf hbf c0 c1 c2 hld
  obtain ⟨c0, c1, c2⟩ := rk_cells nf
  have hld := heap_lt1 nf
  clear nf
  go_wp2_with fail
  refine wp_region_tail wf.heap.size [([0, 1, 2, 3, 4, 5, 6, 7, 8, 9], 10)] [11, 12, 13] [] (by kernel_rfl) (by kernel_rfl) (by kernel_rfl) (fun _ _ _ _ _ h => h) ?_
  rw [HWF.out]
  have qC0 : ∀ z : LaterB wf.heap.size wf, z.val.cell? ⟨w1.heap.size, 0, none⟩ = some (.int .i64 n) := fun z => (z.ext.cell (p := ⟨w1.heap.size, 0, none⟩) hld).trans c0
  have qC1 : ∀ z : LaterB wf.heap.size wf, z.val.cell? ⟨w1.heap.size, 1, none⟩ = some (.slice A1 ll k1) := fun z => (z.ext.cell (p := ⟨w1.heap.size, 1, none⟩) hld).trans c1
  have qC2 : ∀ z : LaterB wf.heap.size wf, z.val.cell? ⟨w1.heap.size, 2, none⟩ = some (.slice A2 dl k2) := fun z => (z.ext.cell (p := ⟨w1.heap.size, 2, none⟩) hld).trans c2
  refine tail_cons (l := ?segC) ?hsegC ?_
  case hsegC => simp only [pick, List.getElem?_toArray, List.getElem?_cons_succ, List.getElem?_cons_zero]; rfl
  repeat (go_big_quiet_step (fail))
  refine wpQuiet_nil ?_
  clear qC0 qC1 qC2
  refine tail_call2 (vs := #[.agg #[.int .i64 n, .slice A1 ll k1, .slice A2 dl k2]]) Try.call19 rfl rfl rfl (R := fun r w' => r = .bool false ∧ Below wf.heap.size wf w') ((HMY.out wf HBF.out).mono ?_) ?_
  · rintro e w' ⟨rfl, hb⟩
    exact ⟨_, rfl, hb, rfl, hb⟩
  rintro r w5 _ ⟨rfl, hb5⟩
  refine ⟨w5.heap.size, hb5.size, ?_⟩
  have HF := Lib.hid (HBF.out.trans (hb5.mono HBF.out.size))
  clear hb5
  simp only [Act.put, List.setIfInBounds_toArray, List.set_cons_zero, List.set_cons_succ]
  refine tail_last (l := ?lastC) (t := []) ?hlastC rfl ?_
  case hlastC => simp only [pick, List.getElem?_toArray, List.getElem?_cons_succ, List.getElem?_cons_zero]; rfl
  repeat (go_big_quiet_step (fail))
  refine wpQuiet_nil ?_
  go_wp2
  go_ret
  exact ⟨rfl, HF.out⟩
set_option maxRecDepth 100000 in
set_option maxHeartbeats 4000000 in
theorem rb_yes (w : World) (n : Int) (hn : -9223372036854775808 ≤ n ∧ n ≤ 9223372036854775807) (A1 : Option Addr) (k1 : Nat) (l : List Rk) (hr : RkRd w w.heap.size A1 l) (hml : l.length ≤ maxLen) (A2 : Option Addr) (k2 : Nat) (d : List (List UInt8)) (hd : DtRd w w.heap.size A2 d) (hmd : d.length ≤ maxLen) (nb : Nat) (hnb : nb < 18446744073709551616) (no : Nat) (hno : no < 18446744073709551616) (hf : fewI l d = true) (hm : mayI n l d = true) :
    Calls Try.prog 4 #[.int .i64 n, .slice A1 l.length k1, .slice A2 d.length k2, .int .u64 (nb : Int), .int .u64 (no : Int)] w fun e w' => e = .returned (.bool true) ∧ Below w.heap.size w w' := by
  have HUP := Lib.hid (up16_any w)
  obtain ⟨v, hv⟩ : ∃ v : Int, (if fewI l d = true then (1 : Int) else 0) = v := ⟨_, rfl⟩
  have HFEW := Lib.hid (fun W (hb : Below w.heap.size w W) => few15_any W A1 A2 k1 k2 l d ((hd.below hb).more hb.size) hml hmd v hv)
  obtain ⟨f1, f2, _⟩ := few16_parts hf
  rw [hf] at hv
  obtain rfl : (1 : Int) = v := hv
  obtain ⟨b1, hb1, hb16, hb62⟩ := base16 nb
  obtain ⟨b2, hb2, hb26, hb262⟩ := base16 no
  have HBAA := Lib.hid (fun W => lawbase_any W nb hnb)
  have HBAB := Lib.hid (fun W => lawbase_any W no hno)
  rw [hb1] at HBAA
  rw [hb2] at HBAB
  have HR := Lib.hid hr
  have HD := Lib.hid hd
  have HRK := Lib.hid (fun W (hb : Below w.heap.size w W) => (hr.below hb).more hb.size)
  have HDT := Lib.hid (fun W (hb : Below w.heap.size w W) => (hd.below hb).more hb.size)
  have hlo : lenOk n = true := by unfold mayI at hm; rw [Bool.and_eq_true] at hm; exact hm.1
  have hlB := (lenOk_iff n).1 hlo
  obtain ⟨N, rfl⟩ : ∃ N : Nat, n = (N : Int) := ⟨n.toNat, by omega⟩
  obtain ⟨out, hw0, hl0, hre, hck, hwk, hol, hod⟩ := image_laid hm
  have hrow : rowOk (N : Int) 184 false l = true := by unfold mayI at hm; simp only [Bool.and_eq_true] at hm; exact hm.2.1
  obtain ⟨_, hmap, _⟩ := row_tile (o := 184) hrow
  have hlay : layOf (N : Int) l d = some out := by unfold layOf; rw [Int.toNat_natCast]; exact hre
  have HOK : Hid (∀ (W : World) (b : Nat), b < 18446744073709551616 → b % 16 = 0 → b ≤ 4611686018427387904 → Below w.heap.size w W → Calls Try.prog 7 #[.agg #[.int .i64 (N : Int), .slice A1 l.length k1, .slice A2 d.length k2], .int .u64 (b : Int), .int .i64 16384] W fun e w' => ∃ H q g A c, e = .returned (.tuple #[.pointer (some ⟨q, 0, none⟩), .nilIface]) ∧ PH w' q g b 16384 A c out H ∧ Below W.heap.size W w') := fun W b hb h1 h2 h => by
    refine (rest_ok W (N : Int) hn A1 A2 k1 k2 l d ((hr.below h).more h.size) ((hd.below h).more h.size) (by omega) (by omega) b hb 16384 (by omega) hm h1 h2 (by omega) (by omega) (by omega)).mono ?_
    rintro e w' ⟨out', H, q, g, A, c, hl', he, hp, _, _, _, hb'⟩
    rw [hlay] at hl'
    injection hl' with hl'
    subst hl'
    exact ⟨H, q, g, A, c, he, hp, hb'⟩
  obtain ⟨L, hL⟩ : ∃ L, l.map toB = L := ⟨_, rfl⟩
  have hLl : L.length = l.length := by rw [← hL, List.length_map]
  rw [hL] at hwk hod hmap
  have HOF : Hid (∀ (W : World) (g b : Nat) (A : Option Addr) (c : Nat), b ≤ 4611686018427387904 → Ar W 74 g b 16384 A c out → Calls Try.prog 20 #[.pointer (some ⟨g, 0, none⟩)] W fun e w' => ∃ A1 A2 c1 c2, e = .returned (.tuple #[.agg #[.int .i64 (N : Int), .slice A1 l.length c1, .slice A2 d.length c2], .nilIface]) ∧ RkRd w' w'.heap.size A1 l ∧ DtRd w' w'.heap.size A2 d ∧ Below W.heap.size W w') := fun W g b A c hb h => by
    have h2 := imof_ok W g b 16384 c A out L h hb (by omega) hck hwk
    rw [hod, hol, ← hmap, hLl] at h2
    exact h2
  have HSM := Lib.hid (fun W X1 X2 Y1 Y2 x1 x2 y1 y2 (h1 : RkRd W W.heap.size X1 l) (h2 : DtRd W W.heap.size X2 d) (h3 : RkRd W W.heap.size Y1 l) (h4 : DtRd W W.heap.size Y2 d) => rsame_eq W (N : Int) X1 X2 Y1 Y2 x1 x2 y1 y2 l d h1 h2 h3 h4 (by omega) (by omega))
  unfold imV at HSM
  obtain ⟨S, hS⟩ : ∃ S, strB out = S := ⟨_, rfl⟩
  have HS := Lib.hid hS
  have gS : (S.toList == S.toList) = true := by simp
  have HOL := Lib.hid hol
  have hN16 : N ≤ 16384 := by omega
  obtain ⟨ll, hll⟩ : ∃ ll, l.length = ll := ⟨_, rfl⟩
  obtain ⟨dl, hdl⟩ : ∃ dl, d.length = dl := ⟨_, rfl⟩
  rw [hll, hdl] at HFEW HOK HOF HSM
  rw [hll, hdl]
  clear hr hd hml hmd hnb hno hll hdl hf hm f1 f2 hb1 hb2 hlo hlB hw0 hl0 hre hck hwk hol hod hrow hmap hlay hL hLl HR HD hS
  go_enter Try.func4, Try.ntmps4
  go_wp2_with fail
  refine HUP.out.mono ?_
  rintro e w1 ⟨rfl, hb1⟩
  have HB := Lib.hid hb1
  clear hb1 HUP
  go_wp2_with fail
  refine (HFEW.out w1 HB.out).mono ?_
  rintro e w2 ⟨rfl, rfl⟩
  obtain ⟨wX, hwX⟩ : ∃ wX, w1.alloc (.cells #[.int .i64 (N : Int), .slice A1 ll k1, .slice A2 dl k2] 28) = wX := ⟨_, rfl⟩
  have hbX : Below w1.heap.size w1 wX := by rw [← hwX]; exact (Below.refl _ _).alloc (Nat.le_refl _) _
  have nX : wX.heap[w1.heap.size]? = some (.cells #[.int .i64 (N : Int), .slice A1 ll k1, .slice A2 dl k2] 28 (0, 0)) := by rw [← hwX]; exact heap_alloc_new w1 _
  obtain ⟨wd, hwd⟩ : ∃ wd, wX.drew = wd := ⟨_, rfl⟩
  have hbd : Below wX.heap.size wX wd := by rw [← hwd]; exact (Below.refl _ _).drew
  have nd := (hbd.block _ (heap_lt1 nX)).trans nX
  have HBD := Lib.hid (HB.out.trans ((hbX.trans (hbd.mono hbX.size)).mono HB.out.size))
  have HND := Lib.hid nd
  have HWX := Lib.hid hwX
  have HWD := Lib.hid hwd
  obtain ⟨c0, c1, c2⟩ := rk_cells nd
  have hld := heap_lt1 nd
  clear hwX hbX nX hwd hbd nd HFEW
  go_wp2_with (first | (rw [HWX.out]) | fail)
  refine wp_region_tail wd.heap.size [([0, 1], 2), ([], 3)] [4, 5, 6, 7, 8] [] (by kernel_rfl) (by kernel_rfl) (by kernel_rfl) (fun _ _ _ _ _ h => h) ?_
  rw [HWD.out]
  have qA0 : ∀ z : LaterB wd.heap.size wd, z.val.cell? ⟨w1.heap.size, 0, none⟩ = some (.int .i64 (N : Int)) := fun z => (z.ext.cell (p := ⟨w1.heap.size, 0, none⟩) hld).trans c0
  have qA1 : ∀ z : LaterB wd.heap.size wd, z.val.cell? ⟨w1.heap.size, 1, none⟩ = some (.slice A1 ll k1) := fun z => (z.ext.cell (p := ⟨w1.heap.size, 1, none⟩) hld).trans c1
  have qA2 : ∀ z : LaterB wd.heap.size wd, z.val.cell? ⟨w1.heap.size, 2, none⟩ = some (.slice A2 dl k2) := fun z => (z.ext.cell (p := ⟨w1.heap.size, 2, none⟩) hld).trans c2
  refine tail_cons (l := ?segA) ?hsegA ?_
  case hsegA => simp only [pick, List.getElem?_toArray, List.getElem?_cons_succ, List.getElem?_cons_zero]; rfl
  repeat (go_big_quiet_step (fail))
  refine wpQuiet_nil ?_
  clear qA0 qA1 qA2
  refine tail_call (vs := #[.int .u64 (nb : Int)]) Try.call18 rfl rfl rfl (R := fun r w' => r = .int .u64 (b1 : Int) ∧ wd = w') ((HBAA.out wd).mono ?_) wd.heap.size (Nat.le_refl _) ?_
  · rintro e w' ⟨rfl, rfl⟩
    exact ⟨_, rfl, Below.refl _ _, rfl, rfl⟩
  rintro r w' _ ⟨rfl, rfl⟩
  simp only [Act.put, List.setIfInBounds_toArray, List.set_cons_zero, List.set_cons_succ]
  refine tail_cons (l := []) rfl (wpQuiet_nil ?_)
  refine tail_call2 (vs := #[.agg #[.int .i64 (N : Int), .slice A1 ll k1, .slice A2 dl k2], .int .u64 (b1 : Int), .int .i64 16384]) Try.call7 rfl rfl rfl (R := fun r w' => ∃ q g A c H, r = .tuple #[.pointer (some ⟨q, 0, none⟩), .nilIface] ∧ PH w' q g b1 16384 A c out H ∧ Below wd.heap.size wd w') ((HOK.out wd b1 (by omega) hb16 hb62 HBD.out).mono ?_) ?_
  · rintro e w' ⟨H, q, g, A, c, rfl, hp, hb⟩
    exact ⟨_, rfl, hb, q, g, A, c, H, rfl, hp, hb⟩
  rintro r w3 _ ⟨q1, g1, Y1, y1, H1, rfl, hp1, hbN⟩
  refine ⟨w3.heap.size, hbN.size, ?_⟩
  simp only [Act.put, List.setIfInBounds_toArray, List.set_cons_zero, List.set_cons_succ]
  refine tail_last (l := ?lastA) (t := []) ?hlastA rfl ?_
  case hlastA => simp only [pick, List.getElem?_toArray, List.getElem?_cons_succ, List.getElem?_cons_zero]; rfl
  repeat (go_big_quiet_step (fail))
  refine wpQuiet_nil ?_
  have HB3 := Lib.hid (HBD.out.trans (hbN.mono HBD.out.size))
  obtain ⟨we, hwe⟩ : ∃ we, w3.drew = we := ⟨_, rfl⟩
  have hbe : Below w3.heap.size w3 we := by rw [← hwe]; exact (Below.refl _ _).drew
  have ne := ((hbN.trans (hbe.mono hbN.size)).block _ (heap_lt1 HND.out)).trans HND.out
  have HBE := Lib.hid (HB3.out.trans (hbe.mono HB3.out.size))
  have HNE := Lib.hid ne
  have HWE := Lib.hid hwe
  have HP1 := Lib.hid (hp1.below hbe)
  clear hbN hwe hbe c0 c1 c2 hld hp1
  obtain ⟨c0, c1, c2⟩ := rk_cells ne
  have hld := heap_lt1 ne
  clear ne
  go_wp2_with fail
  refine wp_region_tail we.heap.size [([0, 1], 2), ([], 3)] [4, 5, 6, 7, 8] [] (by kernel_rfl) (by kernel_rfl) (by kernel_rfl) (fun _ _ _ _ _ h => h) ?_
  rw [HWE.out]
  have qB0 : ∀ z : LaterB we.heap.size we, z.val.cell? ⟨w1.heap.size, 0, none⟩ = some (.int .i64 (N : Int)) := fun z => (z.ext.cell (p := ⟨w1.heap.size, 0, none⟩) hld).trans c0
  have qB1 : ∀ z : LaterB we.heap.size we, z.val.cell? ⟨w1.heap.size, 1, none⟩ = some (.slice A1 ll k1) := fun z => (z.ext.cell (p := ⟨w1.heap.size, 1, none⟩) hld).trans c1
  have qB2 : ∀ z : LaterB we.heap.size we, z.val.cell? ⟨w1.heap.size, 2, none⟩ = some (.slice A2 dl k2) := fun z => (z.ext.cell (p := ⟨w1.heap.size, 2, none⟩) hld).trans c2
  refine tail_cons (l := ?segB) ?hsegB ?_
  case hsegB => simp only [pick, List.getElem?_toArray, List.getElem?_cons_succ, List.getElem?_cons_zero]; rfl
  repeat (go_big_quiet_step (fail))
  refine wpQuiet_nil ?_
  clear qB0 qB1 qB2
  refine tail_call (vs := #[.int .u64 (no : Int)]) Try.call18 rfl rfl rfl (R := fun r w' => r = .int .u64 (b2 : Int) ∧ we = w') ((HBAB.out we).mono ?_) we.heap.size (Nat.le_refl _) ?_
  · rintro e w' ⟨rfl, rfl⟩
    exact ⟨_, rfl, Below.refl _ _, rfl, rfl⟩
  rintro r w' _ ⟨rfl, rfl⟩
  simp only [Act.put, List.setIfInBounds_toArray, List.set_cons_zero, List.set_cons_succ]
  refine tail_cons (l := []) rfl (wpQuiet_nil ?_)
  refine tail_call2 (vs := #[.agg #[.int .i64 (N : Int), .slice A1 ll k1, .slice A2 dl k2], .int .u64 (b2 : Int), .int .i64 16384]) Try.call7 rfl rfl rfl (R := fun r w' => ∃ q g A c H, r = .tuple #[.pointer (some ⟨q, 0, none⟩), .nilIface] ∧ PH w' q g b2 16384 A c out H ∧ Below we.heap.size we w') ((HOK.out we b2 (by omega) hb26 hb262 HBE.out).mono ?_) ?_
  · rintro e w' ⟨H, q, g, A, c, rfl, hp, hb⟩
    exact ⟨_, rfl, hb, q, g, A, c, H, rfl, hp, hb⟩
  rintro r w4 _ ⟨q2, g2, Y2, y2, H2, rfl, hp1, hbN⟩
  refine ⟨w4.heap.size, hbN.size, ?_⟩
  simp only [Act.put, List.setIfInBounds_toArray, List.set_cons_zero, List.set_cons_succ]
  refine tail_last (l := ?lastB) (t := []) ?hlastB rfl ?_
  case hlastB => simp only [pick, List.getElem?_toArray, List.getElem?_cons_succ, List.getElem?_cons_zero]; rfl
  repeat (go_big_quiet_step (fail))
  refine wpQuiet_nil ?_
  have HB4 := Lib.hid (HBE.out.trans (hbN.mono HBE.out.size))
  have HN4 := Lib.hid ((hbN.block _ (heap_lt1 HNE.out)).trans HNE.out)
  have HP14 := Lib.hid (HP1.out.below hbN)
  have HP24 := Lib.hid hp1
  have HAR4 := Lib.hid (harena_any HP14.out)
  clear hbN hp1 c0 c1 c2 hld HP1
  go_wp2_with fail
  refine HAR4.out.mono ?_
  rintro e w5 ⟨g5, A5, c5, rfl, a5, hb5, _, _⟩
  have HOF5 := Lib.hid (HOF.out w5 g5 b1 A5 c5 hb62 a5)
  have HB5 := Lib.hid (HB4.out.trans (hb5.mono HB4.out.size))
  have HN5 := Lib.hid ((hb5.block _ (heap_lt1 HN4.out)).trans HN4.out)
  have HP15 := Lib.hid (HP14.out.below hb5)
  have HP25 := Lib.hid (HP24.out.below hb5)
  clear a5 hb5 HAR4 HP14 HP24
  go_wp2_with fail
  refine HOF5.out.mono ?_
  rintro e w6 ⟨X1, X2, x1, x2, rfl, hrk, hdt, hb6⟩
  obtain ⟨w7, hw7⟩ : ∃ w7, w6.alloc (.cells #[.int .i64 (N : Int), .slice X1 ll x1, .slice X2 dl x2] 28) = w7 := ⟨_, rfl⟩
  have hb7 : Below w6.heap.size w6 w7 := by rw [← hw7]; exact (Below.refl _ _).alloc (Nat.le_refl _) _
  have n7 : w7.heap[w6.heap.size]? = some (.cells #[.int .i64 (N : Int), .slice X1 ll x1, .slice X2 dl x2] 28 (0, 0)) := by rw [← hw7]; exact heap_alloc_new w6 _
  obtain ⟨wf, hwf⟩ : ∃ wf, w7.drew = wf := ⟨_, rfl⟩
  have hbf : Below w7.heap.size w7 wf := by rw [← hwf]; exact (Below.refl _ _).drew
  have hb67 := hb7.trans (hbf.mono hb7.size)
  have hb57 := hb6.trans (hb67.mono hb6.size)
  have HBF := Lib.hid (HB5.out.trans (hb57.mono HB5.out.size))
  have nf := (hb57.block _ (heap_lt1 HN5.out)).trans HN5.out
  have mf := (hbf.block _ (heap_lt1 n7)).trans n7
  have HXK := Lib.hid ((hrk.below hb67).more hb67.size)
  have HXD := Lib.hid ((hdt.below hb67).more hb67.size)
  have HP1F := Lib.hid (HP15.out.below hb57)
  have HP2F := Lib.hid (HP25.out.below hb57)
  have HW7 := Lib.hid hw7
  have HWF := Lib.hid hwf
  obtain ⟨c0, c1, c2⟩ := rk_cells nf
  have hld := heap_lt1 nf
  obtain ⟨e0, e1, e2⟩ := rk_cells mf
  have hle := heap_lt1 mf
  clear hrk hdt hb6 hw7 hb7 n7 hwf hbf hb67 hb57 nf mf HOF5 HP15 HP25
  go_wp2_with (first | (rw [HW7.out]) | fail)
  refine wp_region_tail wf.heap.size [([0, 2], 1), ([], 3), ([], 4)] [] [5] (by kernel_rfl) (by kernel_rfl) (by kernel_rfl) (fun _ _ _ _ _ h => h) ?_
  rw [HWF.out]
  have qC0 : ∀ z : LaterB wf.heap.size wf, z.val.cell? ⟨w1.heap.size, 0, none⟩ = some (.int .i64 (N : Int)) := fun z => (z.ext.cell (p := ⟨w1.heap.size, 0, none⟩) hld).trans c0
  have qC1 : ∀ z : LaterB wf.heap.size wf, z.val.cell? ⟨w1.heap.size, 1, none⟩ = some (.slice A1 ll k1) := fun z => (z.ext.cell (p := ⟨w1.heap.size, 1, none⟩) hld).trans c1
  have qC2 : ∀ z : LaterB wf.heap.size wf, z.val.cell? ⟨w1.heap.size, 2, none⟩ = some (.slice A2 dl k2) := fun z => (z.ext.cell (p := ⟨w1.heap.size, 2, none⟩) hld).trans c2
  have qD0 : ∀ z : LaterB wf.heap.size wf, z.val.cell? ⟨w6.heap.size, 0, none⟩ = some (.int .i64 (N : Int)) := fun z => (z.ext.cell (p := ⟨w6.heap.size, 0, none⟩) hle).trans e0
  have qD1 : ∀ z : LaterB wf.heap.size wf, z.val.cell? ⟨w6.heap.size, 1, none⟩ = some (.slice X1 ll x1) := fun z => (z.ext.cell (p := ⟨w6.heap.size, 1, none⟩) hle).trans e1
  have qD2 : ∀ z : LaterB wf.heap.size wf, z.val.cell? ⟨w6.heap.size, 2, none⟩ = some (.slice X2 dl x2) := fun z => (z.ext.cell (p := ⟨w6.heap.size, 2, none⟩) hle).trans e2
  refine tail_cons (l := ?segC) ?hsegC ?_
  case hsegC => simp only [pick, List.getElem?_toArray, List.getElem?_cons_succ, List.getElem?_cons_zero]; rfl
  repeat (go_big_quiet_step (fail))
  refine wpQuiet_nil ?_
  clear qC0 qC1 qC2 qD0 qD1 qD2
  refine tail_call2 (vs := #[.agg #[.int .i64 (N : Int), .slice X1 ll x1, .slice X2 dl x2]]) Try.call9 rfl rfl rfl (R := fun r w' => r = .agg #[.int .i64 (N : Int), .slice X1 ll x1, .slice X2 dl x2] ∧ Below wf.heap.size wf w') ((like16 wf (N : Int) X1 X2 ll x1 dl x2).mono ?_) ?_
  · rintro e w' ⟨rfl, hb⟩
    exact ⟨_, rfl, hb, rfl, hb⟩
  rintro r w8 _ ⟨rfl, hb8⟩
  refine ⟨w8.heap.size, hb8.size, ?_⟩
  simp only [Act.put, List.setIfInBounds_toArray, List.set_cons_zero, List.set_cons_succ]
  refine tail_cons (l := []) rfl (wpQuiet_nil ?_)
  refine tail_call2 (vs := #[.agg #[.int .i64 (N : Int), .slice A1 ll k1, .slice A2 dl k2]]) Try.call9 rfl rfl rfl (R := fun r w' => r = .agg #[.int .i64 (N : Int), .slice A1 ll k1, .slice A2 dl k2] ∧ Below w8.heap.size w8 w') ((like16 w8 (N : Int) A1 A2 ll k1 dl k2).mono ?_) ?_
  · rintro e w' ⟨rfl, hb⟩
    exact ⟨_, rfl, hb, rfl, hb⟩
  rintro r w9 _ ⟨rfl, hb9⟩
  refine ⟨w9.heap.size, hb9.size, ?_⟩
  have hb89 := hb8.trans (hb9.mono hb8.size)
  have HB9 := Lib.hid (HBF.out.trans (hb89.mono HBF.out.size))
  have hSame := HSM.out w9 X1 X2 A1 A2 x1 x2 k1 k2 ((HXK.out.below hb89).more hb89.size) ((HXD.out.below hb89).more hb89.size) (HRK.out w9 HB9.out) (HDT.out w9 HB9.out)
  have HP19 := Lib.hid (HP1F.out.below hb89)
  have HP29 := Lib.hid (HP2F.out.below hb89)
  clear hb8 hb9 hb89 c0 c1 c2 hld e0 e1 e2 hle HP1F HP2F
  simp only [Act.put, List.setIfInBounds_toArray, List.set_cons_zero, List.set_cons_succ]
  refine tail_cons (l := []) rfl (wpQuiet_nil ?_)
  refine tail_call2 (vs := #[.agg #[.int .i64 (N : Int), .slice X1 ll x1, .slice X2 dl x2], .agg #[.int .i64 (N : Int), .slice A1 ll k1, .slice A2 dl k2]]) Try.call21 rfl rfl rfl (R := fun r w' => r = .bool true ∧ Below w9.heap.size w9 w') (hSame.mono ?_) ?_
  · rintro e w' ⟨rfl, hb⟩
    exact ⟨_, rfl, hb, rfl, hb⟩
  rintro r w10 _ ⟨rfl, hb10⟩
  refine ⟨w10.heap.size, hb10.size, ?_⟩
  obtain ⟨wh, hwh⟩ : ∃ wh, w10.drew = wh := ⟨_, rfl⟩
  have hbh : Below w10.heap.size w10 wh := by rw [← hwh]; exact (Below.refl _ _).drew
  have hb9h := hb10.trans (hbh.mono hb10.size)
  have HBH := Lib.hid (HB9.out.trans (hb9h.mono HB9.out.size))
  have HP1H := Lib.hid (HP19.out.below hb9h)
  have HP2H := Lib.hid (HP29.out.below hb9h)
  have HWH := Lib.hid hwh
  clear hb10 hwh hbh hb9h hSame HP19 HP29
  simp only [Act.put, List.setIfInBounds_toArray, List.set_cons_zero, List.set_cons_succ]
  refine tail_last (l := []) (t := ?tailC) rfl ?htailC ?_
  case htailC => simp only [pick, List.getElem?_toArray, List.getElem?_cons_succ, List.getElem?_cons_zero]; rfl
  refine wpQuiet_nil ?_
  go_wp2_with fail
  refine wp_region_tail wh.heap.size [([0, 1, 2, 3, 4, 5, 6, 7, 8, 9, 13], 10), ([], 11), ([12], 14), ([], 15)] [16, 17, 18, 19] [] (by kernel_rfl) (by kernel_rfl) (by kernel_rfl) (fun _ _ _ _ _ h => h) ?_
  rw [HWH.out]
  refine tail_cons (l := ?segE) ?hsegE ?_
  case hsegE => simp only [pick, List.getElem?_toArray, List.getElem?_cons_succ, List.getElem?_cons_zero]; rfl
  repeat (go_big_quiet_step (fail))
  refine wpQuiet_nil ?_
  refine tail_call2 (vs := #[.pointer (some ⟨q1, 0, none⟩)]) Try.call12 rfl rfl rfl (R := fun r w' => ∃ g A c, r = .pointer (some ⟨g, 0, none⟩) ∧ Ar w' 74 g b1 16384 A c out ∧ Below wh.heap.size wh w') ((harena_any HP1H.out).mono ?_) ?_
  · rintro e w' ⟨g, A, c, rfl, ha, hb, _, _⟩
    exact ⟨_, rfl, hb, g, A, c, rfl, ha, hb⟩
  rintro r wi _ ⟨g15, A15, c15, rfl, ha1, hb1⟩
  refine ⟨wi.heap.size, hb1.size, ?_⟩
  simp only [Act.put, List.setIfInBounds_toArray, List.set_cons_zero, List.set_cons_succ]
  refine tail_cons (l := []) rfl (wpQuiet_nil ?_)
  have hby := bytes_any ha1 (by have := HOL.out; omega) (by omega)
  unfold NewRow at hby
  rw [HOL.out] at hby
  refine tail_call2 (vs := #[.pointer (some ⟨g15, 0, none⟩)]) Try.call15 rfl rfl rfl (R := fun r w' => ∃ A c, r = .slice A N c ∧ w'.ownsRow wi.heap.size 5 1 (.slice A N c) N (out.map bv) ∧ Below wi.heap.size wi w') (hby.mono ?_) ?_
  · rintro e w' ⟨A, c, rfl, ho, hb⟩
    exact ⟨_, rfl, hb, A, c, rfl, ho, hb⟩
  rintro r wj _ ⟨Z1, z1, rfl, ho1, hb1'⟩
  refine ⟨wj.heap.size, hb1'.size, ?_⟩
  have HRR1 := Lib.hid (own_reads ho1)
  have HBB1 := Lib.hid (HBH.out.trans ((hb1.trans (hb1'.mono hb1.size)).mono HBH.out.size))
  have HP2J := Lib.hid (HP2H.out.below (hb1.trans (hb1'.mono hb1.size)))
  clear ha1 hb1 hby ho1 hb1'
  simp only [Act.put, List.setIfInBounds_toArray, List.set_cons_zero, List.set_cons_succ]
  have u1 : ∀ z : LaterB wj.heap.size wj, (convert 44 9 (.slice Z1 N z1)).run Try.prog z.val = .ok (.string S) z.val := fun z => by rw [← HS.out]; exact conv_rd (HRR1.out.below z.ext)
  refine tail_cons (l := ?segF) ?hsegF ?_
  case hsegF => simp only [pick, List.getElem?_toArray, List.getElem?_cons_succ, List.getElem?_cons_zero]; rfl
  repeat (go_big_quiet_step (fail))
  refine wpQuiet_nil ?_
  clear u1
  refine tail_call2 (vs := #[.pointer (some ⟨q2, 0, none⟩)]) Try.call12 rfl rfl rfl (R := fun r w' => ∃ g A c, r = .pointer (some ⟨g, 0, none⟩) ∧ Ar w' 74 g b2 16384 A c out ∧ Below wj.heap.size wj w') ((harena_any HP2J.out).mono ?_) ?_
  · rintro e w' ⟨g, A, c, rfl, ha, hb, _, _⟩
    exact ⟨_, rfl, hb, g, A, c, rfl, ha, hb⟩
  rintro r wk _ ⟨g25, A25, c25, rfl, ha2, hb2⟩
  refine ⟨wk.heap.size, hb2.size, ?_⟩
  simp only [Act.put, List.setIfInBounds_toArray, List.set_cons_zero, List.set_cons_succ]
  refine tail_cons (l := []) rfl (wpQuiet_nil ?_)
  have hby := bytes_any ha2 (by have := HOL.out; omega) (by omega)
  unfold NewRow at hby
  rw [HOL.out] at hby
  refine tail_call2 (vs := #[.pointer (some ⟨g25, 0, none⟩)]) Try.call15 rfl rfl rfl (R := fun r w' => ∃ A c, r = .slice A N c ∧ w'.ownsRow wk.heap.size 5 1 (.slice A N c) N (out.map bv) ∧ Below wk.heap.size wk w') (hby.mono ?_) ?_
  · rintro e w' ⟨A, c, rfl, ho, hb⟩
    exact ⟨_, rfl, hb, A, c, rfl, ho, hb⟩
  rintro r wl _ ⟨Z2, z2, rfl, ho2, hb2'⟩
  refine ⟨wl.heap.size, hb2'.size, ?_⟩
  have HRR2 := Lib.hid (own_reads ho2)
  have HBB2 := Lib.hid (HBB1.out.trans ((hb2.trans (hb2'.mono hb2.size)).mono HBB1.out.size))
  have HRR1L := Lib.hid ((HRR1.out.below (hb2.trans (hb2'.mono hb2.size))))
  clear ha2 hb2 hby ho2 hb2'
  simp only [Act.put, List.setIfInBounds_toArray, List.set_cons_zero, List.set_cons_succ]
  have u2 : ∀ z : LaterB wl.heap.size wl, (convert 44 9 (.slice Z2 N z2)).run Try.prog z.val = .ok (.string S) z.val := fun z => by rw [← HS.out]; exact conv_rd (HRR2.out.below z.ext)
  refine tail_last (l := ?lastE) (t := []) ?hlastE rfl ?_
  case hlastE => simp only [pick, List.getElem?_toArray, List.getElem?_cons_succ, List.getElem?_cons_zero]; rfl
  repeat (go_big_quiet_step (fail))
  refine wpQuiet_nil ?_
  clear u2
  go_wp2
  go_ret
  exact ⟨rfl, HBB2.out⟩
end Go.Proofs.Ytbemaoncakcnjaa
