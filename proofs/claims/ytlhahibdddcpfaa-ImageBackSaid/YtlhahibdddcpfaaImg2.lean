/- The program's images: May (layer 15). -/
import Derived.Test.YtlhahibdddcpfaaImg1
import Derived.Test.YtlhahibdddcpfaaNum
import Derived.Test.YtlhahibdddcpfaaTail
import Derived.Deep.QuietTactic
import Derived.BigQuiet
namespace Go.Proofs.Ytlhahibdddcpfaa
open Go.RowKit

theorem rk_cells {w : World} {x0 x1 x2 : Value} {g : Nat} {t : TypeId} (h : w.heap[g]? = some (.cells #[x0, x1, x2] t (0, 0))) :
    w.cell? ⟨g, 0, none⟩ = some x0 ∧ w.cell? ⟨g, 1, none⟩ = some x1 ∧ w.cell? ⟨g, 2, none⟩ = some x2 := by
  refine ⟨?_, ?_, ?_⟩
  · rw [cell_of_row w g 0 _ _ (0, 0) h]; rfl
  · rw [cell_of_row w g 1 _ _ (0, 0) h]; rfl
  · rw [cell_of_row w g 2 _ _ (0, 0) h]; rfl
theorem heap_lt1 {w : World} {g : Nat} {cs : Array Value} {t : TypeId} (h : w.heap[g]? = some (.cells cs t (0, 0))) : g < w.heap.size := by
  rcases Nat.lt_or_ge g w.heap.size with h' | h'
  · exact h'
  · rw [Array.getElem?_eq_none h'] at h; cases h
/-- Len, as a number of 64 bits. -/
def u64N (n : Int) : Nat := (n % 18446744073709551616).toNat
theorem lenOk_u64 (n : Int) (hn : -9223372036854775808 ≤ n ∧ n ≤ 9223372036854775807) : lenOk ((u64N n : Nat) : Int) = lenOk n := by
  unfold u64N
  rcases Int.lt_or_le n 0 with h | h
  · have e1 : lenOk n = false := (lenOk_false n).2 (by omega)
    rw [e1]
    exact (lenOk_false _).2 (by omega)
  · rw [Int.emod_eq_of_lt h (by omega), Int.toNat_of_nonneg h]
set_option maxRecDepth 100000 in
set_option maxHeartbeats 400000 in
theorem imlen_any (w : World) (v : Nat) (hv : v < 18446744073709551616) (b : Bool) (hb : lenOk (v : Int) = b) :
    Calls Try.prog 23 #[.int .u64 (v : Int)] w fun e w' => e = .returned (.bool b) ∧ w = w' := by
  by_cases h1 : 184 ≤ v
  · by_cases h2 : v ≤ 16384
    · by_cases h3 : (v - 184) % 16 = 0
      · obtain rfl : true = b := by rw [← hb]; exact ((lenOk_iff _).2 (by omega)).symm
        clear hb
        go_enter Try.func23, Try.ntmps23
        go_wp2
        go_ret
        exact ⟨ret_bool (by rw [beq_iff_eq]; omega), rfl⟩
      · obtain rfl : false = b := by rw [← hb]; exact ((lenOk_false _).2 (by omega)).symm
        clear hb
        go_enter Try.func23, Try.ntmps23
        go_wp2
        go_ret
        exact ⟨ret_bool (by rw [beq_eq_false_iff_ne]; omega), rfl⟩
    · obtain rfl : false = b := by rw [← hb]; exact ((lenOk_false _).2 (by omega)).symm
      clear hb
      go_enter Try.func23, Try.ntmps23
      go_wp2
      go_ret
      exact ⟨rfl, rfl⟩
  · obtain rfl : false = b := by rw [← hb]; exact ((lenOk_false _).2 (by omega)).symm
    clear hb
    go_enter Try.func23, Try.ntmps23
    go_wp2
    go_ret
    exact ⟨rfl, rfl⟩
set_option maxRecDepth 100000 in
set_option maxHeartbeats 4000000 in
theorem imrow_any (w : World) (A : Option Addr) (k1 : Nat) (l : List Rk) (hr : RkRd w w.heap.size A l) (hl : l.length ≤ 1000000) (n : Int) (hn : 184 ≤ n ∧ n ≤ 16384) (y : Bool) (hy : rowOk n 184 false l = y) :
    Calls Try.prog 24 #[.slice A l.length k1, .int .i64 n] w fun e w' => e = .returned (.bool y) ∧ Below w.heap.size w w' := by
  have HR := Lib.hid hr
  have HY := Lib.hid hy
  obtain ⟨m, hm⟩ : ∃ m, l.length = m := ⟨_, rfl⟩
  rw [hm] at hl ⊢
  have HM := Lib.hid hm
  clear hr hy hm
  go_enter Try.func24, Try.ntmps24
  go_wp2
  go_loopw [5, 6, 11] (fun e f t wr => ∃ (j : Nat) (z : Int) (b : Bool), t = .int .i64 (j : Int) ∧ e = .int .i64 z ∧ f = .bool b ∧ j ≤ m ∧ (184 ≤ z ∧ z ≤ n) ∧ rowOk n z b (l.drop j) = y ∧ Below w.heap.size w wr) (fun _ _ t _ => m - (intOf t).toNat)
  case atStart => exact ⟨0, 184, false, rfl, rfl, rfl, Nat.zero_le _, ⟨Int.le_refl _, hn.1⟩, HY.out, Below.refl _ _⟩
  case round =>
    obtain ⟨j, z, b, rfl, rfl, rfl, hj, hz, hyy, hb⟩ := hrel
    by_cases hlt : j < m
    · obtain ⟨x, hx⟩ : ∃ x, l[j]? = some x := ⟨l[j]'(by rw [HM.out]; exact hlt), List.getElem?_eq_getElem _⟩
      obtain ⟨b2, o, rfl, hbb, hcl⟩ := HR.out (by rw [HM.out]; omega)
      obtain ⟨p0, p1, p2, hxo, hxs⟩ := hcl j x hx
      have r0 := (hb.cell (p := ⟨b2, o + j * 3, none⟩) hbb).trans p0
      have r1 := (hb.cell (p := ⟨b2, o + j * 3 + 1, none⟩) hbb).trans p1
      have r2 := (hb.cell (p := ⟨b2, o + j * 3 + 2, none⟩) hbb).trans p2
      rw [drop_at hx] at hyy
      unfold rowOk at hyy
      obtain ⟨xo, xs, xu⟩ := x
      dsimp only at p0 p1 p2 r0 r1 r2 hyy hxo hxs
      obtain ⟨w4, hw4⟩ : ∃ w4, wr.alloc (.cells #[.int .i64 xo, .int .i64 xs, .bool xu] 50) = w4 := ⟨_, rfl⟩
      have hb4 : Below w.heap.size w w4 := by rw [← hw4]; exact hb.alloc hb.size _
      have n4 : w4.heap[wr.heap.size]? = some (.cells #[.int .i64 xo, .int .i64 xs, .bool xu] 50 (0, 0)) := by rw [← hw4]; exact heap_alloc_new wr _
      obtain ⟨d0, d1, d2⟩ := rk_cells n4
      have hl4 := heap_lt1 n4
      have HW4 := Lib.hid hw4
      have HB4 := Lib.hid hb4
      have HYY := Lib.hid hyy
      clear hx hb p0 p1 p2 hb4 n4 hw4 hcl hyy
      by_cases ho : xo = z
      · have g0 : (xo != z) = false := by rw [bne_eq_false_iff_eq]; exact ho
        obtain ⟨pk, hpk⟩ : ∃ pk, packN xs xu = pk := ⟨_, rfl⟩
        have HPK := Lib.hid (fun W => tpack_any (w := W) xs xu hxs pk hpk)
        by_cases hsz : isSz xs = true
        · have h3 := (isSz_iff _).1 hsz
          have hpk0 : pk ≠ 0 := by
            rw [← hpk]; unfold packN; rw [if_pos hsz]; omega
          have g1 : ((pk : Int) == 0) = false := by rw [beq_eq_false_iff_ne]; omega
          by_cases hle : xs ≤ n - z
          · have g2 : decide (n - z < xs) = false := decide_eq_false (by omega)
            by_cases hfu : b = true ∧ xu = false
            · obtain ⟨rfl, rfl⟩ := hfu
              have HF : Hid (y = false) := (show y = false by
                have e := HYY.out
                simp at e
                first | exact e.symm | exact e)
              clear hsz h3 hpk ho
              go_wp2_with (first | (rw [HW4.out]) | fail)
              refine (HPK.out _).mono ?_
              rintro e w5 ⟨rfl, rfl⟩
              go_wp2
              go_ret
              exact ⟨ret_bool HF.out.symm, HB4.out⟩
            · have HF : Hid (rowOk n (z + xs) (!xu) (l.drop (j + 1)) = y) := (show _ = y by
                have e := HYY.out
                have e1 : (b && !xu) = false := by
                  cases b <;> cases xu <;> first | rfl | exact absurd ⟨rfl, rfl⟩ hfu
                have e2 : (xo == z) = true := by rw [beq_iff_eq]; exact ho
                rw [e2, hsz, decide_eq_true hle, e1] at e
                simpa using e)
              clear hsz hpk ho
              cases b <;> cases xu
              all_goals first | exact absurd ⟨rfl, rfl⟩ hfu | skip
              all_goals
                clear hfu
                go_wp2_with (first | (rw [HW4.out]) | fail)
                refine (HPK.out _).mono ?_
                rintro e w5 ⟨rfl, rfl⟩
                go_wp2_with fail
                go_quiet (fail)
                go_wp2
                go_roundw
                case rel => exact ⟨j + 1, z + xs, _, by go_num, by go_num, rfl, by omega, by omega, HF.out, HB4.out.trans ((below_dN _ _).mono HB4.out.size)⟩
                case measure => simp only [intOf]; omega
          · have g2 : decide (n - z < xs) = true := decide_eq_true (by omega)
            have HF : Hid (y = false) := (show y = false by
              have e := HYY.out
              rw [decide_eq_false hle] at e
              simp at e
              first | exact e.symm | exact e)
            clear hsz hpk ho
            go_wp2_with (first | (rw [HW4.out]) | fail)
            refine (HPK.out _).mono ?_
            rintro e w5 ⟨rfl, rfl⟩
            go_wp2
            go_ret
            exact ⟨ret_bool HF.out.symm, HB4.out⟩
        · have hpk0 : pk = 0 := by rw [← hpk]; unfold packN; rw [if_neg hsz]
          subst hpk0
          have HF : Hid (y = false) := (show y = false by
            have e := HYY.out
            have hs2 : isSz xs = false := by simpa using hsz
            rw [hs2] at e
            simp at e
            first | exact e.symm | exact e)
          clear hsz hpk ho
          go_wp2_with (first | (rw [HW4.out]) | fail)
          refine (HPK.out _).mono ?_
          rintro e w5 ⟨rfl, rfl⟩
          go_wp2
          go_ret
          exact ⟨ret_bool HF.out.symm, HB4.out⟩
      · have g0 : (xo != z) = true := by rw [bne_iff_ne]; exact ho
        have HF : Hid (y = false) := (show y = false by
          have e := HYY.out
          have e2 : (xo == z) = false := by rw [beq_eq_false_iff_ne]; exact ho
          rw [e2] at e
          simp at e
          first | exact e.symm | exact e)
        clear ho
        go_wp2_with (first | (rw [HW4.out]) | fail)
        go_ret
        exact ⟨ret_bool HF.out.symm, HB4.out⟩
    · have hd : l.drop j = [] := List.drop_eq_nil_of_le (by rw [HM.out]; omega)
      rw [hd] at hyy
      unfold rowOk at hyy
      have HYY := Lib.hid hyy
      have HBB := Lib.hid hb
      clear hyy hb hd
      go_wp2
      go_ret
      exact ⟨ret_bool HYY.out, HBB.out⟩
set_option maxHeartbeats 400000 in
theorem imheld_any (w : World) (o s : Int) (u : Bool) (hs : isSz s = true) :
    Calls Try.prog 41 #[.agg #[.int .i64 o, .int .i64 s, .bool u]] w fun e w' => e = .returned (.int .i64 (s - 16)) ∧ Below w.heap.size w w' := by
  have h3 := (isSz_iff _).1 hs
  obtain ⟨w1, hw1⟩ : ∃ w1, w.alloc (.cells #[.int .i64 o, .int .i64 s, .bool u] 50) = w1 := ⟨_, rfl⟩
  have hb1 : Below w.heap.size w w1 := by rw [← hw1]; exact (Below.refl _ _).alloc (Nat.le_refl _) _
  have n1 : w1.heap[w.heap.size]? = some (.cells #[.int .i64 o, .int .i64 s, .bool u] 50 (0, 0)) := by rw [← hw1]; exact heap_alloc_new w _
  obtain ⟨_, d1, _⟩ := rk_cells n1
  have hl := heap_lt1 n1
  have HW1 := Lib.hid hw1
  have HB1 := Lib.hid hb1
  clear hw1 hb1 n1 hs
  go_enter Try.func41, Try.ntmps41
  go_wp2_with (first | (rw [HW1.out]) | fail)
  go_ret
  exact ⟨rfl, HB1.out⟩
theorem datOk_nil {l : List Rk} (h : ∀ x ∈ l, x.u = false) : datOk l [] = true := by
  induction l with
  | nil => rfl
  | cons x r ih =>
    unfold datOk
    rw [if_neg (by rw [h x List.mem_cons_self]; decide)]
    exact ih fun y hy => h y (List.mem_cons_of_mem _ hy)
set_option maxRecDepth 100000 in
set_option maxHeartbeats 4000000 in
theorem imdat_any (w : World) (A1 A2 : Option Addr) (k1 k2 : Nat) (l : List Rk) (d : List (List UInt8)) (hr : RkRd w w.heap.size A1 l) (hd : DtRd w w.heap.size A2 d) (hl : l.length ≤ 1000000) (hdl : d.length ≤ 1000000) (hs : ∀ x ∈ l, isSz x.s = true) (y : Bool) (hy : datOk l d = y) :
    Calls Try.prog 25 #[.slice A2 d.length k2, .slice A1 l.length k1] w fun e w' => e = .returned (.bool y) ∧ Below w.heap.size w w' := by
  have HR := Lib.hid hr
  have HD := Lib.hid hd
  have HY := Lib.hid hy
  have HS := Lib.hid hs
  obtain ⟨m, hm⟩ : ∃ m, l.length = m := ⟨_, rfl⟩
  obtain ⟨n, hn⟩ : ∃ n, d.length = n := ⟨_, rfl⟩
  rw [hm] at hl ⊢
  rw [hn] at hdl ⊢
  have HM := Lib.hid hm
  have HN := Lib.hid hn
  clear hr hd hy hs hm hn
  go_enter Try.func25, Try.ntmps25
  go_wp2
  go_loopw [5, 10] (fun v t wr => ∃ (j i : Nat), t = .int .i64 (j : Int) ∧ v = .int .i64 (i : Int) ∧ j ≤ m ∧ i ≤ n ∧ datOk (l.drop j) (d.drop i) = y ∧ Below w.heap.size w wr) (fun _ t _ => m - (intOf t).toNat)
  case atStart => exact ⟨0, 0, rfl, rfl, Nat.zero_le _, Nat.zero_le _, HY.out, Below.refl _ _⟩
  case round =>
    obtain ⟨j, i, rfl, rfl, hj, hi, hyy, hb⟩ := hrel
    by_cases hlt : j < m
    · obtain ⟨x, hx⟩ : ∃ x, l[j]? = some x := ⟨l[j]'(by rw [HM.out]; exact hlt), List.getElem?_eq_getElem _⟩
      obtain ⟨b2, o, rfl, hbb, hcl⟩ := HR.out (by rw [HM.out]; omega)
      obtain ⟨p0, p1, p2, hxo, hxs⟩ := hcl j x hx
      have r0 := (hb.cell (p := ⟨b2, o + j * 3, none⟩) hbb).trans p0
      have r1 := (hb.cell (p := ⟨b2, o + j * 3 + 1, none⟩) hbb).trans p1
      have r2 := (hb.cell (p := ⟨b2, o + j * 3 + 2, none⟩) hbb).trans p2
      have hsx := HS.out x (List.mem_of_getElem? hx)
      rw [drop_at hx] at hyy
      unfold datOk at hyy
      obtain ⟨xo, xs, xu⟩ := x
      dsimp only at p0 p1 p2 r0 r1 r2 hyy hxo hxs hsx
      obtain ⟨w4, hw4⟩ : ∃ w4, wr.alloc (.cells #[.int .i64 xo, .int .i64 xs, .bool xu] 50) = w4 := ⟨_, rfl⟩
      have hb4 : Below w.heap.size w w4 := by rw [← hw4]; exact hb.alloc hb.size _
      have n4 : w4.heap[wr.heap.size]? = some (.cells #[.int .i64 xo, .int .i64 xs, .bool xu] 50 (0, 0)) := by rw [← hw4]; exact heap_alloc_new wr _
      obtain ⟨d0, d1, d2⟩ := rk_cells n4
      have hl4 := heap_lt1 n4
      have HW4 := Lib.hid hw4
      have HB4 := Lib.hid hb4
      have HYY := Lib.hid hyy
      have HN4 := Lib.hid n4
      clear hx hb p0 p1 p2 hb4 n4 hw4 hcl hyy
      cases xu with
      | false =>
        have HF : Hid (datOk (l.drop (j + 1)) (d.drop i) = y) := (show _ = y from by
          have e := HYY.out
          rw [if_neg (by decide)] at e
          exact e)
        go_wp2_with (first | (rw [HW4.out]) | fail)
        go_roundw
        case rel => exact ⟨j + 1, i, by go_num, rfl, by omega, hi, HF.out, HB4.out⟩
        case measure => simp only [intOf]; omega
      | true =>
        by_cases hin : i = n
        · have g0 : ((i : Int) == (n : Int)) = true := by rw [beq_iff_eq]; omega
          have HF : Hid (y = false) := (show y = false from by
            have e := HYY.out
            rw [if_pos rfl, List.drop_eq_nil_of_le (by rw [HN.out]; omega)] at e
            exact e.symm)
          obtain ⟨wd, hwd⟩ : ∃ wd, w4.drew = wd := ⟨_, rfl⟩
          have HWD := Lib.hid hwd
          have HBD : Hid (Below w.heap.size w wd) := (show Below _ _ _ by rw [← hwd]; exact HB4.out.drew)
          clear hwd
          go_wp2_with (first | (rw [HW4.out]) | fail)
          refine wp_region_tail wd.heap.size [([0, 1, 2, 3, 4, 5, 6, 7, 8, 9, 10], 11)] [12, 13] [] (by kernel_rfl) (by kernel_rfl) (by kernel_rfl) (fun _ _ _ _ _ h => h) ?_
          rw [HWD.out]
          refine tail_cons (l := ?segA) ?hsegA ?_
          case hsegA => simp only [pick, List.getElem?_toArray, List.getElem?_cons_succ, List.getElem?_cons_zero]; rfl
          repeat (go_big_quiet_step (fail))
          refine wpQuiet_nil ?_
          refine tail_no rfl (some 28) rfl rfl ⟨wd.heap.size, Nat.le_refl _, ?_⟩
          simp only [Act.put, List.setIfInBounds_toArray, List.set_cons_zero, List.set_cons_succ]
          refine tail_last (l := ?lastA) (t := []) ?hlastA ?htlastA ?_
          case hlastA => simp only [pick, List.getElem?_toArray, List.getElem?_cons_succ, List.getElem?_cons_zero]; rfl
          case htlastA => rfl
          repeat (go_big_quiet_step (fail))
          refine wpQuiet_nil ?_
          go_wp2
          go_ret
          exact ⟨ret_bool HF.out.symm, HBD.out⟩
        · have g0 : ((i : Int) == (n : Int)) = false := by rw [beq_eq_false_iff_ne]; omega
          have hi2 : (i : Int) < (n : Int) := by omega
          obtain ⟨z, hz⟩ : ∃ z, d[i]? = some z := ⟨d[i]'(by rw [HN.out]; omega), List.getElem?_eq_getElem _⟩
          obtain ⟨b3, o3, rfl, hb3, hc3⟩ := HD.out (by rw [HN.out]; omega)
          obtain ⟨A', kz, z0, _, zl, _, _⟩ := hc3 i z hz
          obtain ⟨zn, hzn⟩ : ∃ zn, z.length = zn := ⟨_, rfl⟩
          rw [hzn] at z0 zl
          unfold maxLen at zl
          obtain ⟨wd, hwd⟩ : ∃ wd, w4.drew = wd := ⟨_, rfl⟩
          have hwb : Below w4.heap.size w4 wd := by rw [← hwd]; exact (Below.refl _ _).drew
          have hbd := HB4.out.trans (hwb.mono HB4.out.size)
          have nd := (hwb.block _ (heap_lt1 HN4.out)).trans HN4.out
          have zd := (hbd.cell (p := ⟨b3, o3 + i, none⟩) hb3).trans z0
          have l3 : b3 < wd.heap.size := Nat.lt_of_lt_of_le hb3 hbd.size
          obtain ⟨e0, e1, e2⟩ := rk_cells nd
          have le := heap_lt1 nd
          have hyy := HYY.out
          rw [if_pos rfl, drop_at hz] at hyy
          dsimp only at hyy
          rw [hzn] at hyy
          have HYZ := Lib.hid hyy
          have HHELD := Lib.hid (imheld_any wd xo xs true hsx)
          have HWD := Lib.hid hwd
          have HBD := Lib.hid hbd
          clear hwd hwb hbd nd hyy hz hc3 z0
          by_cases hzz : (zn : Int) = xs - 16
          · have g1 : ((zn : Int) != xs - 16) = false := by rw [bne_eq_false_iff_eq]; exact hzz
            have HF : Hid (datOk (l.drop (j + 1)) (d.drop (i + 1)) = y) := (show _ = y from by
              have e := HYZ.out
              have e2 : ((zn : Int) == xs - 16) = true := by rw [beq_iff_eq]; exact hzz
              rw [e2, Bool.true_and] at e
              exact e)
            clear hzz
            go_wp2_with (first | (rw [HW4.out]) | fail)
            refine wp_region_tail wd.heap.size [([0, 1, 2, 3, 4, 5, 6, 7, 8, 9, 10], 11)] [12, 13] [] (by kernel_rfl) (by kernel_rfl) (by kernel_rfl) (fun _ _ _ _ _ h => h) ?_
            rw [HWD.out]
            have q0 : ∀ z : LaterB wd.heap.size wd, z.val.cell? ⟨b3, o3 + i, none⟩ = some (.slice A' zn kz) := fun z => (z.ext.cell (p := ⟨b3, o3 + i, none⟩) l3).trans zd
            have q1 : ∀ z : LaterB wd.heap.size wd, z.val.cell? ⟨wr.heap.size, 0, none⟩ = some (.int .i64 xo) := fun z => (z.ext.cell (p := ⟨wr.heap.size, 0, none⟩) le).trans e0
            have q2 : ∀ z : LaterB wd.heap.size wd, z.val.cell? ⟨wr.heap.size, 1, none⟩ = some (.int .i64 xs) := fun z => (z.ext.cell (p := ⟨wr.heap.size, 1, none⟩) le).trans e1
            have q3 : ∀ z : LaterB wd.heap.size wd, z.val.cell? ⟨wr.heap.size, 2, none⟩ = some (.bool true) := fun z => (z.ext.cell (p := ⟨wr.heap.size, 2, none⟩) le).trans e2
            refine tail_cons (l := ?segB) ?hsegB ?_
            case hsegB => simp only [pick, List.getElem?_toArray, List.getElem?_cons_succ, List.getElem?_cons_zero]; rfl
            repeat (go_big_quiet_step (fail))
            refine wpQuiet_nil ?_
            clear q0 q1 q2 q3
            refine tail_call (vs := #[.agg #[.int .i64 xo, .int .i64 xs, .bool true]]) Try.call41 rfl rfl rfl (R := fun r w' => r = .int .i64 (xs - 16) ∧ Below wd.heap.size wd w') (HHELD.out.mono ?_) wd.heap.size (Nat.le_refl _) ?_
            · rintro e w' ⟨rfl, hb⟩
              exact ⟨_, rfl, hb, rfl, hb⟩
            rintro r w5 hb5 ⟨rfl, _⟩
            have HB5 := Lib.hid (HBD.out.trans (hb5.mono HBD.out.size))
            clear hb5
            simp only [Act.put, List.setIfInBounds_toArray, List.set_cons_zero, List.set_cons_succ]
            refine tail_last (l := ?lastB) (t := []) ?hlastB ?htlastB ?_
            case hlastB => simp only [pick, List.getElem?_toArray, List.getElem?_cons_succ, List.getElem?_cons_zero]; rfl
            case htlastB => rfl
            repeat (go_big_quiet_step (fail))
            refine wpQuiet_nil ?_
            go_wp2
            go_roundw
            case rel => exact ⟨j + 1, i + 1, by go_num, by go_num, by omega, by omega, HF.out, HB5.out⟩
            case measure => simp only [intOf]; omega
          · have g1 : ((zn : Int) != xs - 16) = true := by rw [bne_iff_ne]; exact hzz
            have HF : Hid (y = false) := (show y = false from by
              have e := HYZ.out
              have e2 : ((zn : Int) == xs - 16) = false := by rw [beq_eq_false_iff_ne]; exact hzz
              rw [e2, Bool.false_and] at e
              exact e.symm)
            clear hzz
            go_wp2_with (first | (rw [HW4.out]) | fail)
            refine wp_region_tail wd.heap.size [([0, 1, 2, 3, 4, 5, 6, 7, 8, 9, 10], 11)] [12, 13] [] (by kernel_rfl) (by kernel_rfl) (by kernel_rfl) (fun _ _ _ _ _ h => h) ?_
            rw [HWD.out]
            have q0 : ∀ z : LaterB wd.heap.size wd, z.val.cell? ⟨b3, o3 + i, none⟩ = some (.slice A' zn kz) := fun z => (z.ext.cell (p := ⟨b3, o3 + i, none⟩) l3).trans zd
            have q1 : ∀ z : LaterB wd.heap.size wd, z.val.cell? ⟨wr.heap.size, 0, none⟩ = some (.int .i64 xo) := fun z => (z.ext.cell (p := ⟨wr.heap.size, 0, none⟩) le).trans e0
            have q2 : ∀ z : LaterB wd.heap.size wd, z.val.cell? ⟨wr.heap.size, 1, none⟩ = some (.int .i64 xs) := fun z => (z.ext.cell (p := ⟨wr.heap.size, 1, none⟩) le).trans e1
            have q3 : ∀ z : LaterB wd.heap.size wd, z.val.cell? ⟨wr.heap.size, 2, none⟩ = some (.bool true) := fun z => (z.ext.cell (p := ⟨wr.heap.size, 2, none⟩) le).trans e2
            refine tail_cons (l := ?segC) ?hsegC ?_
            case hsegC => simp only [pick, List.getElem?_toArray, List.getElem?_cons_succ, List.getElem?_cons_zero]; rfl
            repeat (go_big_quiet_step (fail))
            refine wpQuiet_nil ?_
            clear q0 q1 q2 q3
            refine tail_call (vs := #[.agg #[.int .i64 xo, .int .i64 xs, .bool true]]) Try.call41 rfl rfl rfl (R := fun r w' => r = .int .i64 (xs - 16) ∧ Below wd.heap.size wd w') (HHELD.out.mono ?_) wd.heap.size (Nat.le_refl _) ?_
            · rintro e w' ⟨rfl, hb⟩
              exact ⟨_, rfl, hb, rfl, hb⟩
            rintro r w5 hb5 ⟨rfl, _⟩
            have HB5 := Lib.hid (HBD.out.trans (hb5.mono HBD.out.size))
            clear hb5
            simp only [Act.put, List.setIfInBounds_toArray, List.set_cons_zero, List.set_cons_succ]
            refine tail_last (l := ?lastC) (t := []) ?hlastC ?htlastC ?_
            case hlastC => simp only [pick, List.getElem?_toArray, List.getElem?_cons_succ, List.getElem?_cons_zero]; rfl
            case htlastC => rfl
            repeat (go_big_quiet_step (fail))
            refine wpQuiet_nil ?_
            go_wp2
            go_ret
            exact ⟨ret_bool HF.out.symm, HB5.out⟩
    · have hdn : l.drop j = [] := List.drop_eq_nil_of_le (by rw [HM.out]; omega)
      rw [hdn] at hyy
      unfold datOk at hyy
      have HYY := Lib.hid hyy
      have HBB := Lib.hid hb
      clear hyy hb hdn
      go_wp2
      go_ret
      exact ⟨ret_bool (by
        rw [← HYY.out]
        by_cases hin : i = n
        · rw [List.drop_eq_nil_of_le (by rw [HN.out]; omega)]
          rw [List.isEmpty_nil, beq_iff_eq]; omega
        · have e : ((i : Int) == (n : Int)) = false := by rw [beq_eq_false_iff_ne]; omega
          rw [e]
          cases hd2 : d.drop i with
          | nil => have := congrArg List.length hd2; rw [List.length_drop, HN.out] at this; simp at this; omega
          | cons _ _ => rfl), HBB.out⟩
end Go.Proofs.Ytlhahibdddcpfaa
