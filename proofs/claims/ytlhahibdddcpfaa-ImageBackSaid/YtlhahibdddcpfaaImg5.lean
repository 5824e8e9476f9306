/- The document's images: May (genimg5.py). -/
import Derived.Test.YtlhahibdddcpfaaImg2
import Derived.Test.YtlhahibdddcpfaaRef1
namespace Go.Proofs.Ytlhahibdddcpfaa
open Go.RowKit

/-- Whether the block ahead of the j-th is free. -/
def prevF15 (l : List Rk) : Nat → Bool
  | 0 => false
  | j + 1 => match l[j]? with
    | some x => !x.u
    | none => false
theorem prevF15_at {l : List Rk} {j : Nat} {x : Rk} (h : l[j]? = some x) : prevF15 l (j + 1) = !x.u := by
  show (match l[j]? with
    | some x => !x.u
    | none => false) = !x.u
  rw [h]
set_option maxRecDepth 100000 in
set_option maxHeartbeats 8000000 in
theorem rmay_any (w : World) (n : Int) (hn : -9223372036854775808 ≤ n ∧ n ≤ 9223372036854775807) (A1 A2 : Option Addr) (k1 k2 : Nat) (l : List Rk) (d : List (List UInt8)) (hr : RkRd w w.heap.size A1 l) (hd : DtRd w w.heap.size A2 d) (hl : l.length ≤ 1000000) (hdl : d.length ≤ 1000000) (y : Bool) (hy : mayI n l d = y) :
    Calls Try.prog 8 #[imV n A1 l.length k1 A2 d.length k2] w fun e w' => e = .returned (.bool y) ∧ Below w.heap.size w w' := by
  unfold imV
  obtain ⟨ll, hll⟩ : ∃ ll, l.length = ll := ⟨_, rfl⟩
  obtain ⟨dl, hdll⟩ : ∃ dl, d.length = dl := ⟨_, rfl⟩
  rw [hll] at hl
  rw [hdll] at hdl
  rw [hll, hdll]
  obtain ⟨w1, hw1⟩ : ∃ w1, w.alloc (.cells #[.int .i64 n, .slice A1 ll k1, .slice A2 dl k2] 29) = w1 := ⟨_, rfl⟩
  have hb1 : Below w.heap.size w w1 := by rw [← hw1]; exact (Below.refl _ _).alloc (Nat.le_refl _) _
  have n1 : w1.heap[w.heap.size]? = some (.cells #[.int .i64 n, .slice A1 ll k1, .slice A2 dl k2] 29 (0, 0)) := by rw [← hw1]; exact heap_alloc_new w _
  obtain ⟨d0, d1, d2⟩ := rk_cells n1
  have hl1 := heap_lt1 n1
  have HN1 := Lib.hid n1
  have HB1 := Lib.hid hb1
  have HW1 := Lib.hid hw1
  have HR := Lib.hid ((hr.below hb1).more hb1.size)
  have HD := Lib.hid ((hd.below hb1).more hb1.size)
  have HY := Lib.hid hy
  have HLL := Lib.hid hll
  have HDLL := Lib.hid hdll
  clear hw1 hb1 n1 hr hd hy hll hdll
  by_cases h1 : n < 184
  · have g1 : decide (n < 184) = true := decide_eq_true h1
    have HF : Hid (false = y) := (show false = y by rw [← HY.out]; unfold mayI; rw [(lenOk_false n).2 (by omega)]; rfl)
    go_enter Try.func8, Try.ntmps8
    go_wp2_with (first | (rw [HW1.out]) | fail)
    go_ret
    exact ⟨ret_bool HF.out, HB1.out⟩
  · have g1 : decide (n < 184) = false := decide_eq_false h1
    by_cases h2 : 16384 < n
    · have g2 : decide (16384 < n) = true := decide_eq_true h2
      have HF : Hid (false = y) := (show false = y by rw [← HY.out]; unfold mayI; rw [(lenOk_false n).2 (by omega)]; rfl)
      go_enter Try.func8, Try.ntmps8
      go_wp2_with (first | (rw [HW1.out]) | fail)
      go_ret
      exact ⟨ret_bool HF.out, HB1.out⟩
    · have g2 : decide (16384 < n) = false := decide_eq_false h2
      obtain ⟨N, rfl⟩ : ∃ N : Nat, n = (N : Int) := ⟨n.toNat, by omega⟩
      by_cases h3 : N % 16 = 8
      · have g3 : (((N : Int) % 16) != 8) = false := by rw [bne_eq_false_iff_eq]; omega
        by_cases h4 : 1024 < ll
        · have g4 : decide ((1024 : Int) < (ll : Int)) = true := decide_eq_true (by omega)
          have g4' : decide (1024 < ll) = true := decide_eq_true h4
          have HF : Hid (false = y) := (show false = y by
            rw [← HY.out]
            cases hm : mayI (N : Int) l d with
            | false => rfl
            | true =>
              unfold mayI at hm
              simp only [Bool.and_eq_true] at hm
              have := rowOk_len hm.2.1
              have := HLL.out
              omega)
          go_enter Try.func8, Try.ntmps8
          go_wp2_with (first | (rw [HW1.out]) | fail)
          go_ret
          exact ⟨ret_bool HF.out, HB1.out⟩
        · have g4 : decide ((1024 : Int) < (ll : Int)) = false := decide_eq_false (by omega)
          have g4' : decide (1024 < ll) = false := decide_eq_false h4
          have HYD : Hid (docOk (N : Int) 184 false l d = y) := (show _ = y by
            rw [← HY.out, docOk_eq]
            unfold mayI
            rw [(lenOk_iff (N : Int)).2 (by omega)]
            rfl)
          go_enter Try.func8, Try.ntmps8
          go_wp2_with (first | (rw [HW1.out]) | fail)
          go_loopw [3, 4, 5] (fun e u t wr => ∃ (j v z : Nat), t = .int .i64 (j : Int) ∧ e = .int .i64 (z : Int) ∧ u = .int .i64 (v : Int) ∧ j ≤ ll ∧ v ≤ dl ∧ z ≤ 184 + 16384 * j ∧ docOk (N : Int) (z : Int) (prevF15 l j) (l.drop j) (d.drop v) = y ∧ Below w1.heap.size w1 wr) (fun _ _ t _ => ll - (intOf t).toNat)
          case atStart => exact ⟨0, 0, 184, rfl, rfl, rfl, Nat.zero_le _, Nat.zero_le _, by omega, HYD.out, Below.refl _ _⟩
          case round =>
            obtain ⟨j, v, z, rfl, rfl, rfl, hj, hv, hz, hyy, hb⟩ := hrel
            have m1 := (hb.cell (p := ⟨w.heap.size, 1, none⟩) hl1).trans d1
            have m2 := (hb.cell (p := ⟨w.heap.size, 2, none⟩) hl1).trans d2
            have m0 := (hb.cell (p := ⟨w.heap.size, 0, none⟩) hl1).trans d0
            have hlr : w.heap.size < wr.heap.size := Nat.lt_of_lt_of_le hl1 hb.size
            by_cases hlt : j < ll
            · obtain ⟨x, hx⟩ : ∃ x, l[j]? = some x := ⟨l[j]'(by rw [HLL.out]; exact hlt), List.getElem?_eq_getElem _⟩
              obtain ⟨b2, o, rfl, hbb, hcl⟩ := HR.out (by rw [HLL.out]; omega)
              obtain ⟨p0, p1, p2, hxo, hxs⟩ := hcl j x hx
              have r0 := (hb.cell (p := ⟨b2, o + j * 3, none⟩) hbb).trans p0
              have r1 := (hb.cell (p := ⟨b2, o + j * 3 + 1, none⟩) hbb).trans p1
              have r2 := (hb.cell (p := ⟨b2, o + j * 3 + 2, none⟩) hbb).trans p2
              rw [drop_at hx] at hyy
              have hpn : prevF15 l (j + 1) = !x.u := prevF15_at hx
              have hprev : 0 < j → ∃ (xo' xs' : Int) (pu : Bool), prevF15 l j = !pu ∧ wr.cell? ⟨b2, o + (j - 1) * 3 + 2, none⟩ = some (.bool pu) := fun h0 => by
                obtain ⟨x', hx'⟩ : ∃ x', l[j - 1]? = some x' := ⟨l[j - 1]'(by rw [HLL.out]; omega), List.getElem?_eq_getElem _⟩
                obtain ⟨_, _, q2, _⟩ := hcl (j - 1) x' hx'
                refine ⟨0, 0, x'.u, ?_, (hb.cell (p := ⟨b2, o + (j - 1) * 3 + 2, none⟩) hbb).trans q2⟩
                obtain ⟨i, rfl⟩ : ∃ i, j = i + 1 := ⟨j - 1, by omega⟩
                rw [show i + 1 - 1 = i by omega] at hx'
                exact prevF15_at hx'
              unfold docOk at hyy
              obtain ⟨xo, xs, xu⟩ := x
              dsimp only at p0 p1 p2 r0 r1 r2 hyy hxo hxs hpn
              obtain ⟨w4, hw4⟩ : ∃ w4, wr.alloc (.cells #[.int .i64 xo, .int .i64 xs, .bool xu] 50) = w4 := ⟨_, rfl⟩
              have hb4' : Below wr.heap.size wr w4 := by rw [← hw4]; exact (Below.refl _ _).alloc (Nat.le_refl _) _
              have hb4 : Below w1.heap.size w1 w4 := hb.trans (hb4'.mono hb.size)
              have n4 : w4.heap[wr.heap.size]? = some (.cells #[.int .i64 xo, .int .i64 xs, .bool xu] 50 (0, 0)) := by rw [← hw4]; exact heap_alloc_new wr _
              have e0 := (hb4'.cell (p := ⟨w.heap.size, 0, none⟩) hlr).trans m0
              have e1 := (hb4'.cell (p := ⟨w.heap.size, 1, none⟩) hlr).trans m1
              have e2 := (hb4'.cell (p := ⟨w.heap.size, 2, none⟩) hlr).trans m2
              obtain ⟨x0, x1, x2⟩ := rk_cells n4
              have hl4 := heap_lt1 n4
              have hbr : b2 < wr.heap.size := Nat.lt_of_lt_of_le hbb hb.size
              have HP4 : Hid (0 < j → ∃ (pu : Bool), prevF15 l j = !pu ∧ w4.cell? ⟨b2, o + (j - 1) * 3 + 2, none⟩ = some (.bool pu)) := fun h0 => by
                obtain ⟨_, _, pu, a1, a2⟩ := hprev h0
                exact ⟨pu, a1, (hb4'.cell (p := ⟨b2, o + (j - 1) * 3 + 2, none⟩) hbr).trans a2⟩
              have HW4 := Lib.hid hw4
              have HB4 := Lib.hid hb4
              have HYY := Lib.hid hyy
              have HPN := Lib.hid hpn
              have HN4 := Lib.hid n4
              clear hx hb p0 p1 p2 hb4 hb4' n4 hw4 hcl hyy hprev hpn
              obtain ⟨sb, hsb⟩ : ∃ sb, isSz xs = sb := ⟨_, rfl⟩
              have HSZ := Lib.hid (fun W => rissize_any W xs hxs sb hsb)
              by_cases hbad : sb = false ∨ xo ≠ (z : Int) ∨ (prevF15 l j = true ∧ xu = false)
              · have HF : Hid (false = y) := (show false = y by
                  have e := HYY.out
                  rw [hsb, if_pos hbad] at e
                  exact e)
                cases sb with
                | false =>
                  clear hbad
                  go_wp2_with (first | (rw [HW4.out]) | fail)
                  refine (HSZ.out _).mono ?_
                  rintro e w5 ⟨rfl, rfl⟩
                  go_wp2
                  go_ret
                  exact ⟨ret_bool HF.out, HB1.out.trans (HB4.out.mono HB1.out.size)⟩
                | true =>
                  by_cases hxz : xo = (z : Int)
                  · have gz : (xo != (z : Int)) = false := by rw [bne_eq_false_iff_eq]; exact hxz
                    obtain ⟨hp, rfl⟩ : prevF15 l j = true ∧ xu = false := by
                      rcases hbad with h | h | h
                      · cases h
                      · exact absurd hxz h
                      · exact h
                    have hj0 : 0 < j := by
                      cases j with
                      | zero => cases hp
                      | succ j => omega
                    obtain ⟨pu, a1, a2⟩ := HP4.out hj0
                    rw [hp] at a1
                    obtain rfl : pu = false := by cases pu with | true => cases a1 | false => rfl
                    have gj : decide ((0 : Int) < (j : Int)) = true := decide_eq_true (by omega)
                    have gj' : decide (0 < j) = true := decide_eq_true hj0
                    have hmx : max ((j : Int) - 1) 0 = ((j - 1 : Nat) : Int) := by omega
                    have hjm : ((j - 1 : Nat) : Int) < (ll : Int) := by omega
                    clear hbad a1 hp hxz
                    go_wp2_with (first | (rw [HW4.out]) | fail)
                    refine (HSZ.out _).mono ?_
                    rintro e w5 ⟨rfl, rfl⟩
                    go_wp2
                    go_ret
                    exact ⟨ret_bool HF.out, HB1.out.trans (HB4.out.mono HB1.out.size)⟩
                  · have gz : (xo != (z : Int)) = true := by rw [bne_iff_ne]; exact hxz
                    clear hbad
                    go_wp2_with (first | (rw [HW4.out]) | fail)
                    refine (HSZ.out _).mono ?_
                    rintro e w5 ⟨rfl, rfl⟩
                    go_wp2
                    go_ret
                    exact ⟨ret_bool HF.out, HB1.out.trans (HB4.out.mono HB1.out.size)⟩
              · have hsbt : sb = true := by
                  cases sb with
                  | true => rfl
                  | false => exact absurd (.inl rfl) hbad
                subst hsbt
                have hxz : xo = (z : Int) := Classical.byContradiction fun h => hbad (.inr (.inl h))
                have gz : (xo != (z : Int)) = false := by rw [bne_eq_false_iff_eq]; exact hxz
                have hsz := (isSz_iff _).1 hsb
                have HYC := Lib.hid (show (if xu = true then (match d.drop v with
                    | [] => false
                    | y :: d' => if (y.length : Int) ≠ xs - 16 then false else docOk (N : Int) ((z : Int) + xs) (!xu) (l.drop (j + 1)) d')
                    else docOk (N : Int) ((z : Int) + xs) (!xu) (l.drop (j + 1)) (d.drop v)) = y by
                  have e := HYY.out
                  rw [if_neg (by rw [hsb]; exact hbad)] at e
                  exact e)
                obtain ⟨xn, rfl⟩ : ∃ xn : Nat, xs = (xn : Int) := ⟨xs.toNat, by omega⟩
                cases xu with
                | false =>
                  have HGO : Hid (docOk (N : Int) ((z + xn : Nat) : Int) (prevF15 l (j + 1)) (l.drop (j + 1)) (d.drop v) = y) := (show _ = y by
                    have e := HYC.out
                    rw [if_neg (by decide)] at e
                    rw [HPN.out, Int.natCast_add]
                    exact e)
                  have HEND : Hid (∀ W, Below w1.heap.size w1 W → True) := fun _ _ => trivial
                  by_cases hj0 : 0 < j
                  · obtain ⟨pu, a1, a2⟩ := HP4.out hj0
                    obtain rfl : pu = true := by
                      cases pu with
                      | true => rfl
                      | false => exact absurd (.inr (.inr ⟨a1, rfl⟩)) hbad
                    have gj : decide ((0 : Int) < (j : Int)) = true := decide_eq_true (by omega)
                    have gj' : decide (0 < j) = true := decide_eq_true hj0
                    have hmx : max ((j : Int) - 1) 0 = ((j - 1 : Nat) : Int) := by omega
                    have hjm : ((j - 1 : Nat) : Int) < (ll : Int) := by omega
                    clear hbad a1 hxz hsb
                    go_wp2_with (first | (rw [HW4.out]) | fail)
                    refine (HSZ.out _).mono ?_
                    rintro e w5 ⟨rfl, rfl⟩
                    go_wp2
                    go_roundw
                    case rel => exact ⟨j + 1, v, z + xn, by go_num, by go_num, rfl, by omega, hv, by omega, HGO.out, HB4.out⟩
                    case measure => simp only [intOf]; omega
                  · have gj : decide ((0 : Int) < (j : Int)) = false := decide_eq_false (by omega)
                    have gj' : decide (0 < j) = false := decide_eq_false hj0
                    clear hbad hxz hsb
                    go_wp2_with (first | (rw [HW4.out]) | fail)
                    refine (HSZ.out _).mono ?_
                    rintro e w5 ⟨rfl, rfl⟩
                    go_wp2
                    go_roundw
                    case rel => exact ⟨j + 1, v, z + xn, by go_num, by go_num, rfl, by omega, hv, by omega, HGO.out, HB4.out⟩
                    case measure => simp only [intOf]; omega
                | true =>
                  by_cases hvd : v < dl
                  · obtain ⟨q, hq⟩ : ∃ q, d[v]? = some q := ⟨d[v]'(by rw [HDLL.out]; exact hvd), List.getElem?_eq_getElem _⟩
                    obtain ⟨b3, o3, rfl, hb3, hc3⟩ := HD.out (by rw [HDLL.out]; omega)
                    obtain ⟨A', kz, z0, _, zl, _, _⟩ := hc3 v q hq
                    obtain ⟨zn, hzn⟩ : ∃ zn, q.length = zn := ⟨_, rfl⟩
                    rw [hzn] at z0 zl
                    unfold maxLen at zl
                    have z4 := (HB4.out.cell (p := ⟨b3, o3 + v, none⟩) hb3).trans z0
                    have l3 : b3 < w4.heap.size := Nat.lt_of_lt_of_le hb3 HB4.out.size
                    have gv : decide ((dl : Int) ≤ (v : Int)) = false := decide_eq_false (by omega)
                    have gv' : decide (dl ≤ v) = false := decide_eq_false (by omega)
                    have hvi : (v : Int) < (dl : Int) := by omega
                    have HYQ := Lib.hid (show (if (zn : Int) ≠ (xn : Int) - 16 then false else docOk (N : Int) ((z : Int) + (xn : Int)) (!true) (l.drop (j + 1)) (d.drop (v + 1))) = y by
                      have e := HYC.out
                      rw [if_pos rfl, drop_at hq] at e
                      dsimp only at e
                      rw [hzn] at e
                      exact e)
                    clear hq hc3 z0 hzn hsb
                    by_cases hzz : (zn : Int) = (xn : Int) - 16
                    · have g5 : ((zn : Int) != (xn : Int) - 16) = false := by rw [bne_eq_false_iff_eq]; exact hzz
                      have HGO : Hid (docOk (N : Int) ((z + xn : Nat) : Int) (prevF15 l (j + 1)) (l.drop (j + 1)) (d.drop (v + 1)) = y) := (show _ = y by
                        have e := HYQ.out
                        rw [if_neg (by simpa using hzz)] at e
                        rw [HPN.out, Int.natCast_add]
                        exact e)
                      clear hzz hbad hxz
                      by_cases hj0 : 0 < j
                      · have gj : decide ((0 : Int) < (j : Int)) = true := decide_eq_true (by omega)
                        have gj' : decide (0 < j) = true := decide_eq_true hj0
                        go_wp2_with (first | (rw [HW4.out]) | fail)
                        refine (HSZ.out _).mono ?_
                        rintro e w5 ⟨rfl, rfl⟩
                        go_wp2_with fail
                        go_quiet (fail)
                        go_wp2
                        go_roundw
                        case rel => exact ⟨j + 1, v + 1, z + xn, by go_num, by go_num, by go_num, by omega, by omega, by omega, HGO.out, HB4.out.trans ((below_dN _ _).mono HB4.out.size)⟩
                        case measure => simp only [intOf]; omega
                      · have gj : decide ((0 : Int) < (j : Int)) = false := decide_eq_false (by omega)
                        have gj' : decide (0 < j) = false := decide_eq_false hj0
                        go_wp2_with (first | (rw [HW4.out]) | fail)
                        refine (HSZ.out _).mono ?_
                        rintro e w5 ⟨rfl, rfl⟩
                        go_wp2_with fail
                        go_quiet (fail)
                        go_wp2
                        go_roundw
                        case rel => exact ⟨j + 1, v + 1, z + xn, by go_num, by go_num, by go_num, by omega, by omega, by omega, HGO.out, HB4.out.trans ((below_dN _ _).mono HB4.out.size)⟩
                        case measure => simp only [intOf]; omega
                    · have g5 : ((zn : Int) != (xn : Int) - 16) = true := by rw [bne_iff_ne]; exact hzz
                      have HF : Hid (false = y) := (show false = y by
                        have e := HYQ.out
                        rw [if_pos hzz] at e
                        exact e)
                      clear hzz hbad hxz
                      by_cases hj0 : 0 < j
                      · have gj : decide ((0 : Int) < (j : Int)) = true := decide_eq_true (by omega)
                        have gj' : decide (0 < j) = true := decide_eq_true hj0
                        go_wp2_with (first | (rw [HW4.out]) | fail)
                        refine (HSZ.out _).mono ?_
                        rintro e w5 ⟨rfl, rfl⟩
                        go_wp2_with fail
                        go_quiet (fail)
                        go_wp2
                        go_ret
                        exact ⟨ret_bool HF.out, HB1.out.trans ((HB4.out.trans ((below_dN _ _).mono HB4.out.size)).mono HB1.out.size)⟩
                      · have gj : decide ((0 : Int) < (j : Int)) = false := decide_eq_false (by omega)
                        have gj' : decide (0 < j) = false := decide_eq_false hj0
                        go_wp2_with (first | (rw [HW4.out]) | fail)
                        refine (HSZ.out _).mono ?_
                        rintro e w5 ⟨rfl, rfl⟩
                        go_wp2_with fail
                        go_quiet (fail)
                        go_wp2
                        go_ret
                        exact ⟨ret_bool HF.out, HB1.out.trans ((HB4.out.trans ((below_dN _ _).mono HB4.out.size)).mono HB1.out.size)⟩
                  · have gv : decide ((dl : Int) ≤ (v : Int)) = true := decide_eq_true (by omega)
                    have gv' : decide (dl ≤ v) = true := decide_eq_true (by omega)
                    have HF : Hid (false = y) := (show false = y by
                      have e := HYC.out
                      rw [if_pos rfl, List.drop_eq_nil_of_le (by rw [HDLL.out]; omega)] at e
                      exact e)
                    clear hbad hxz hsb
                    by_cases hj0 : 0 < j
                    · have gj : decide ((0 : Int) < (j : Int)) = true := decide_eq_true (by omega)
                      have gj' : decide (0 < j) = true := decide_eq_true hj0
                      go_wp2_with (first | (rw [HW4.out]) | fail)
                      refine (HSZ.out _).mono ?_
                      rintro e w5 ⟨rfl, rfl⟩
                      go_wp2
                      go_ret
                      exact ⟨ret_bool HF.out, HB1.out.trans (HB4.out.mono HB1.out.size)⟩
                    · have gj : decide ((0 : Int) < (j : Int)) = false := decide_eq_false (by omega)
                      have gj' : decide (0 < j) = false := decide_eq_false hj0
                      go_wp2_with (first | (rw [HW4.out]) | fail)
                      refine (HSZ.out _).mono ?_
                      rintro e w5 ⟨rfl, rfl⟩
                      go_wp2
                      go_ret
                      exact ⟨ret_bool HF.out, HB1.out.trans (HB4.out.mono HB1.out.size)⟩
            · have hdn : l.drop j = [] := List.drop_eq_nil_of_le (by rw [HLL.out]; omega)
              rw [hdn] at hyy
              unfold docOk at hyy
              have HYY := Lib.hid hyy
              have HBB := Lib.hid (HB1.out.trans (hb.mono HB1.out.size))
              clear hyy hb hdn
              by_cases hzn : z = N
              · have g6 : ((z : Int) == (N : Int)) = true := by rw [beq_iff_eq]; omega
                have HF : Hid ((v == dl) = y) := (show _ = y by
                  have e := HYY.out
                  rw [g6, Bool.true_and] at e
                  rw [← e]
                  by_cases hvd : v = dl
                  · rw [List.drop_eq_nil_of_le (by rw [HDLL.out]; omega), hvd]; simp
                  · have e5 : (v == dl) = false := by rw [beq_eq_false_iff_ne]; exact hvd
                    rw [e5]
                    cases hd2 : d.drop v with
                    | nil => have := congrArg List.length hd2; rw [List.length_drop, HDLL.out] at this; simp at this; omega
                    | cons _ _ => rfl)
                have HF2 : Hid (((v : Int) == (dl : Int)) = y) := (show _ = y by
                  rw [← HF.out]
                  by_cases hvd : v = dl
                  · rw [hvd]; simp
                  · have e5 : (v == dl) = false := by rw [beq_eq_false_iff_ne]; exact hvd
                    rw [e5, beq_eq_false_iff_ne]; omega)
                go_wp2
                go_ret
                exact ⟨ret_bool HF2.out, HBB.out⟩
              · have g6 : ((z : Int) == (N : Int)) = false := by rw [beq_eq_false_iff_ne]; omega
                have HF : Hid (false = y) := (show false = y by
                  have e := HYY.out
                  rw [g6, Bool.false_and] at e
                  exact e)
                go_wp2
                go_ret
                exact ⟨ret_bool HF.out, HBB.out⟩
      · have g3 : (((N : Int) % 16) != 8) = true := by rw [bne_iff_ne]; omega
        have HF : Hid (false = y) := (show false = y by rw [← HY.out]; unfold mayI; rw [(lenOk_false (N : Int)).2 (by omega)]; rfl)
        go_enter Try.func8, Try.ntmps8
        go_wp2_with (first | (rw [HW1.out]) | fail)
        go_ret
        exact ⟨ret_bool HF.out, HB1.out⟩
end Go.Proofs.Ytlhahibdddcpfaa
