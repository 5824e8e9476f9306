/- Layer 15's laws: the example at their head, Few, Like; ImagePuts. -/
import Derived.Test.YtlhahibdddcpfaaImg5
import Derived.Test.YtlhahibdddcpfaaImg7
import Derived.Test.YtlhahibdddcpfaaImg8
import Derived.Test.YtlhahibdddcpfaaCode15
namespace Go.Proofs.Ytlhahibdddcpfaa
open Go.RowKit

set_option maxRecDepth 100000 in
set_option maxHeartbeats 1000000 in
theorem up15_any (w : World) :
    Calls Try.prog 6 #[] w fun e w' => e = .returned (.bool true) ∧ Below w.heap.size w w' := by
  have HP := imput_ok w 184 (by omega) none none 0 0 [] [] (fun h => absurd h (by simp)) (fun h => absurd h (by simp)) (by simp) (by simp) (by simp) rfl
  rw [show (putB 184 [] []).length = 40 from b40_len, show putB 184 [] [] = b40 from rfl] at HP
  unfold imV at HP
  dsimp only [List.length_nil] at HP
  have HP := Lib.hid HP
  go_enter Try.func6, Try.ntmps6
  go_wp2_with fail
  refine HP.out.mono ?_
  rintro e w2 ⟨A, c, rfl, ho, hb⟩
  have hc : 40 ≤ c ∧ c ≤ 9223372036854775807 := by
    rcases ho.2 with ⟨_, h'⟩ | ⟨g, cap, cur, hv, _, _, h', h'', _⟩
    · omega
    · injection hv with _ _ e3
      subst e3
      unfold maxLen at h''
      exact ⟨h', h''⟩
  have HG := Lib.hid (imget_up w2 A c _ (own_reads ho) (Nat.le_refl _) hc.1 hc.2)
  have HB := Lib.hid hb
  clear ho hb hc HP
  go_wp2_with fail
  refine HG.out.mono ?_
  rintro e w3 ⟨A2, rfl, hb3⟩
  obtain ⟨w4, hw4⟩ : ∃ w4, w3.alloc (.cells #[.int .i64 184, .slice A2 0 0, .slice none 0 0] 27) = w4 := ⟨_, rfl⟩
  have hb4 : Below w3.heap.size w3 w4 := by rw [← hw4]; exact (Below.refl _ _).alloc (Nat.le_refl _) _
  have n4 : w4.heap[w3.heap.size]? = some (.cells #[.int .i64 184, .slice A2 0 0, .slice none 0 0] 27 (0, 0)) := by rw [← hw4]; exact heap_alloc_new w3 _
  have HB4 := Lib.hid (HB.out.trans ((hb3.trans (hb4.mono hb3.size)).mono HB.out.size))
  have HN4 := Lib.hid n4
  have HW4 := Lib.hid hw4
  clear hb3 hw4 hb4 n4 HG
  go_wp2_with (first | (rw [HW4.out]) | fail)
  refine (imget_nil w4).mono ?_
  rintro e w5 ⟨rfl, hb5⟩
  obtain ⟨w6, hw6⟩ : ∃ w6, w5.alloc (.cells #[.int .i64 0, .slice none 0 0, .slice none 0 0] 27) = w6 := ⟨_, rfl⟩
  have hb6 : Below w5.heap.size w5 w6 := by rw [← hw6]; exact (Below.refl _ _).alloc (Nat.le_refl _) _
  have hb46 := hb5.trans (hb6.mono hb5.size)
  have n6 := (hb46.block _ (heap_lt1 HN4.out)).trans HN4.out
  obtain ⟨c0, c1, c2⟩ := rk_cells n6
  have hl6 := heap_lt1 n6
  have HF := Lib.hid (HB4.out.trans (hb46.mono HB4.out.size))
  clear hb5 hb6 hb46 n6
  subst hw6
  go_wp2_with fail
  refine (code15_err _ 3 (by omega) (by omega)).mono ?_
  rintro e w7 ⟨rfl, rfl⟩
  go_wp2
  go_ret
  exact ⟨rfl, HF.out⟩
/-- Few of everything. -/
def fewI (l : List Rk) (d : List (List UInt8)) : Bool := decide (l.length ≤ 600) && (decide (d.length ≤ 600) && ((d.all fun y => decide (y.length ≤ 20000)) && decide (d.flatten.length ≤ 40000)))
set_option maxRecDepth 100000 in
set_option maxHeartbeats 2000000 in
theorem few15_any (w : World) (A1 A2 : Option Addr) (k1 k2 : Nat) (l : List Rk) (d : List (List UInt8)) (hd : DtRd w w.heap.size A2 d) (hl : l.length ≤ maxLen) (hdl : d.length ≤ maxLen) (v : Int) (hv : (if fewI l d = true then (1 : Int) else 0) = v) :
    Calls Try.prog 7 #[.slice A1 l.length k1, .slice A2 d.length k2] w fun e w' => e = .returned (.int .i64 v) ∧ w = w' := by
  unfold maxLen at hl hdl
  by_cases h1 : 600 < l.length
  · have HV : Hid (v = 0) := (show v = 0 by rw [← hv]; unfold fewI; rw [decide_eq_false (by omega)]; rfl)
    have g1 : decide (600 < l.length) = true := decide_eq_true h1
    clear hv hd
    go_enter Try.func7, Try.ntmps7
    go_wp2
    go_ret
    rw [HV.out]
    exact ⟨rfl, rfl⟩
  · have g1 : decide (600 < l.length) = false := decide_eq_false h1
    by_cases h2 : 600 < d.length
    · have HV : Hid (v = 0) := (show v = 0 by rw [← hv]; unfold fewI; rw [decide_eq_true (by omega), decide_eq_false (by omega)]; rfl)
      have g2 : decide (600 < d.length) = true := decide_eq_true h2
      clear hv hd
      go_enter Try.func7, Try.ntmps7
      go_wp2
      go_ret
      rw [HV.out]
      exact ⟨rfl, rfl⟩
    · have g2 : decide (600 < d.length) = false := decide_eq_false h2
      have HE : Hid (v = if ((d.all fun y => decide (y.length ≤ 20000)) && decide (d.flatten.length ≤ 40000)) = true then 1 else 0) := (show _ = _ by
        rw [← hv]; unfold fewI; rw [decide_eq_true (by omega), decide_eq_true (by omega), Bool.true_and, Bool.true_and])
      obtain ⟨ln, hln⟩ : ∃ ln, l.length = ln := ⟨_, rfl⟩
      obtain ⟨n, hn⟩ : ∃ n, d.length = n := ⟨_, rfl⟩
      rw [hln] at g1
      rw [hn] at g2 h2
      rw [hln, hn]
      have HN := Lib.hid hn
      have HD := Lib.hid hd
      have n1 : ¬ 600 < ln := by rw [← hln]; exact h1
      have i1 : decide ((600 : Int) < (ln : Int)) = false := decide_eq_false (by omega)
      have i2 : decide ((600 : Int) < (n : Int)) = false := decide_eq_false (by omega)
      clear hv hd hn hln h1 hl hdl
      go_enter Try.func7, Try.ntmps7
      go_wp2
      go_loopw [5, 6] (fun s i wr => ∃ (j q : Nat), i = .int .i64 (j : Int) ∧ s = .int .i64 (q : Int) ∧ j ≤ n ∧ q = (d.take j).flatten.length ∧ q ≤ 20000 * j ∧ (∀ i y, i < j → d[i]? = some y → y.length ≤ 20000) ∧ w = wr) (fun _ i _ => n - (intOf i).toNat)
      case atStart => exact ⟨0, 0, rfl, rfl, Nat.zero_le _, rfl, by omega, fun i y hi => absurd hi (Nat.not_lt_zero _), rfl⟩
      case round =>
        obtain ⟨j, q, rfl, rfl, hj, hq, hq2, hs, rfl⟩ := hrel
        by_cases hlt : j < n
        · obtain ⟨y, hy⟩ : ∃ y, d[j]? = some y := ⟨d[j]'(by rw [HN.out]; exact hlt), List.getElem?_eq_getElem _⟩
          obtain ⟨b, o, rfl, _, hc⟩ := HD.out (by rw [HN.out]; omega)
          obtain ⟨A', k', c0, _⟩ := hc j y hy
          obtain ⟨yn, hyn⟩ : ∃ yn, y.length = yn := ⟨_, rfl⟩
          rw [hyn] at c0
          by_cases hb : 20000 < yn
          · have g3 : decide (20000 < yn) = true := decide_eq_true hb
            have HV : Hid (v = 0) := (show v = 0 by
              rw [HE.out]
              have : (d.all fun y => decide (y.length ≤ 20000)) = false := by
                rw [List.all_eq_false]
                exact ⟨y, List.mem_of_getElem? hy, by simp; omega⟩
              rw [this, Bool.false_and]
              rfl)
            clear hc hy hyn hq hs
            go_wp2
            go_ret
            rw [HV.out]
            exact ⟨rfl, rfl⟩
          · have g3 : decide (20000 < yn) = false := decide_eq_false hb
            have HQ : Hid (q + yn = (d.take (j + 1)).flatten.length) := (show _ = _ by rw [flat_take hy, List.length_append, hyn, ← hq])
            have HS2 : Hid (∀ i z, i < j + 1 → d[i]? = some z → z.length ≤ 20000) := fun i z hi hz => by
              by_cases e : i < j
              · exact hs i z e hz
              · obtain rfl : i = j := by omega
                rw [hy] at hz
                injection hz with hz
                rw [← hz, hyn]; omega
            clear hc hy hyn hq hs
            go_wp2
            go_roundw
            case rel => exact ⟨j + 1, q + yn, by go_num, by go_num, by omega, HQ.out, by omega, HS2.out, trivial⟩
            case measure => simp only [intOf]; omega
        · have hall : (d.all fun y => decide (y.length ≤ 20000)) = true := by
            rw [List.all_eq_true]
            intro y hy
            obtain ⟨i, hi⟩ := List.mem_iff_getElem?.1 hy
            have : i < d.length := by
              rcases Nat.lt_or_ge i d.length with h' | h'
              · exact h'
              · rw [List.getElem?_eq_none h'] at hi; cases hi
            exact decide_eq_true (hs i y (by have := HN.out; omega) hi)
          have hqq : q = d.flatten.length := by rw [hq, List.take_of_length_le (by rw [HN.out]; omega)]
          by_cases h4 : 40000 < q
          · have g4 : decide (40000 < q) = true := decide_eq_true h4
            have HV : Hid (v = 0) := (show v = 0 by rw [HE.out, hall, decide_eq_false (by omega)]; rfl)
            clear hq hs hall hqq
            go_wp2
            go_ret
            rw [HV.out]
            exact ⟨rfl, rfl⟩
          · have g4 : decide (40000 < q) = false := decide_eq_false h4
            have HV : Hid (v = 1) := (show v = 1 by rw [HE.out, hall, decide_eq_true (by omega)]; rfl)
            clear hq hs hall hqq
            go_wp2
            go_ret
            rw [HV.out]
            exact ⟨rfl, rfl⟩
theorem im_ret1 {fn : Func} {R : Ending → World → Prop} {a : Act} {w : World} {p : Tmp} {g : Nat} {n : Int} {A1 A2 : Option Addr} {a1 b1 a2 b2 : Nat} (hres : fn.results = #[.cell p 29]) (hp : a.tmps.getD p undef = .pointer (some ⟨g, 0, none⟩)) (hd : a.defers = [])
    (hg : w.heap[g]? = some (.cells #[.int .i64 n, .slice A1 a1 b1, .slice A2 a2 b2] 29 (0, 0))) (hR : R (.returned (.agg #[.int .i64 n, .slice A1 a1 b1, .slice A2 a2 b2])) w) : bodyPost Try.prog fn R .ret a w := by
  refine bodyPost_ret (v := .agg #[.int .i64 n, .slice A1 a1 b1, .slice A2 a2 b2]) ?_ hd hR
  exact results_cell_row hres _ _ g _ _ _ _ hp hg rfl rfl rfl
set_option maxRecDepth 100000 in
set_option maxHeartbeats 1000000 in
theorem like_any (w : World) (n : Int) (A1 A2 : Option Addr) (a1 b1 a2 b2 : Nat) :
    Calls Try.prog 9 #[imV n A1 a1 b1 A2 a2 b2] w fun e w' => e = .returned (imV n A1 a1 b1 A2 a2 b2) ∧ Below w.heap.size w w' := by
  unfold imV
  obtain ⟨w1, hw1⟩ : ∃ w1, w.alloc (.cells #[.int .i64 n, .slice A1 a1 b1, .slice A2 a2 b2] 27) = w1 := ⟨_, rfl⟩
  have hb1 : Below w.heap.size w w1 := by rw [← hw1]; exact (Below.refl _ _).alloc (Nat.le_refl _) _
  have n1 : w1.heap[w.heap.size]? = some (.cells #[.int .i64 n, .slice A1 a1 b1, .slice A2 a2 b2] 27 (0, 0)) := by rw [← hw1]; exact heap_alloc_new w _
  obtain ⟨w2, hw2⟩ : ∃ w2, w1.alloc (.cells #[.int .i64 0, .slice none 0 0, .slice none 0 0] 29) = w2 := ⟨_, rfl⟩
  have hb2 : Below w1.heap.size w1 w2 := by rw [← hw2]; exact (Below.refl _ _).alloc (Nat.le_refl _) _
  have n2 : w2.heap[w1.heap.size]? = some (.cells #[.int .i64 0, .slice none 0 0, .slice none 0 0] 29 (0, 0)) := by rw [← hw2]; exact heap_alloc_new w1 _
  have m2 := (hb2.block _ (heap_lt1 n1)).trans n1
  obtain ⟨c0, c1, c2⟩ := rk_cells m2
  have hl := heap_lt1 m2
  obtain ⟨z0, z1, z2⟩ := rk_cells n2
  obtain ⟨f0, f1, f2⟩ := im_thaw n2
  have hl2 := heap_lt1 n2
  have HM := Lib.hid (im_set n2 (.int .i64 n) (.slice A1 a1 b1) (.slice A2 a2 b2))
  have hb02 := hb1.trans (hb2.mono hb1.size)
  have hbf : Below w.heap.size w (((w2.setCell ⟨w1.heap.size, 0, none⟩ (.int .i64 n)).setCell ⟨w1.heap.size, 1, none⟩ (.slice A1 a1 b1)).setCell ⟨w1.heap.size, 2, none⟩ (.slice A2 a2 b2)) := ((hb02.setCell hb1.size _).setCell hb1.size _).setCell hb1.size _
  have HF := Lib.hid hbf
  have HW1 := Lib.hid hw1
  have HW2 := Lib.hid hw2
  clear hw1 hw2 hb1 n1 hb2 n2 m2 hb02 hbf
  go_enter Try.func9, Try.ntmps9
  go_wp2_with (first | (rw [HW1.out]) | (rw [HW2.out]) | fail)
  (try simp only [Exit.inBlock, Exit.then])
  refine im_ret1 (g := w1.heap.size) Try.results9 ?_ ?_ HM.out ?_
  · rfl
  · rfl
  · exact ⟨rfl, HF.out⟩
end Go.Proofs.Ytlhahibdddcpfaa
