/- The program's data of an image: getData where all is right. -/
import Derived.Test.YtlhahibdddcpfaaImg12
import Derived.Test.YtlhahibdddcpfaaImg6
import Derived.Great.BuildSlice
namespace Go.Proofs.Ytlhahibdddcpfaa
open Go.RowKit

/-- What a row of slices tells of bytes. -/
def DtO (w : World) (d : List (List UInt8)) (xs : List Value) : Prop := ∀ (i : Nat) (y : List UInt8), d[i]? = some y → y.length ≤ 100000 ∧ ∃ A k, xs[i]? = some (.slice A y.length k) ∧ w.ownsRow 0 5 1 (.slice A y.length k) y.length (y.map bv)
theorem DtO.rd {w : World} {B : Nat} {A : Option Addr} {c : Nat} {d : List (List UInt8)} {xs : List Value} (h : DtO w d xs) (ho : w.ownsRow B 31 1 (.slice A d.length c) d.length xs) : DtRd w w.heap.size A d := fun hn => by
  rcases ho.2 with ⟨hv, h0⟩ | ⟨g, cap, cur, hv, hbg, hg, hnc, hcm, hsz, htk⟩
  · omega
  · injection hv with e1 e2 e3
    refine ⟨g, 0, e1, heap_lt1 hg, fun j y hy => ?_⟩
    obtain ⟨hyl, A', k, hx, hr⟩ := h j y hy
    have hj : j < d.length := (List.getElem?_eq_some_iff.1 hy).1
    obtain ⟨A2, k2, e, hk0⟩ := own_slc hr
    injection e with e4 e5 e6
    subst e4 e6
    refine ⟨A', k, ?_, own_reads hr, by unfold maxLen; omega, ?_, hk0⟩
    · rw [Nat.zero_add, cell_of_row _ _ _ _ _ _ hg]
      rw [← htk, List.getElem?_take, if_pos (by omega)] at hx
      rw [← hx]; simp
    · rcases hr.2 with ⟨hv2, h02⟩ | ⟨g2, cap2, cur2, hv2, _, _, hnc2, _⟩
      · omega
      · injection hv2 with _ _ e7
        omega
theorem DtO.grown {w w' : World} {d : List (List UInt8)} {xs : List Value} {r : Option Nat} (h : DtO w d xs) (hg : w.grownBy w' r) (hr : ∀ k, r = some k → ∃ cs t fz, t ≠ 5 ∧ w.heap[k]? = some (.cells cs t fz)) : DtO w' d xs := by
  intro i y hy
  obtain ⟨hyl, A, k, hx, ho⟩ := h i y hy
  refine ⟨hyl, A, k, hx, own_off ho hg fun q hq hrq => ?_⟩
  obtain ⟨cs, t, fz, hne, hc⟩ := hr q hrq
  rcases ho.2 with ⟨hv, _⟩ | ⟨g, cap, cur, hv, _, hgc, _⟩
  · rw [hv] at hq; cases hq
  · rw [hv] at hq
    unfold Value.ownBlock at hq
    injection hq with hq
    subst hq
    rw [hgc] at hc
    injection hc with hc
    injection hc with _ e _
    exact absurd e.symm hne
theorem DtO.snoc {w : World} {d : List (List UInt8)} {xs : List Value} (h : DtO w d xs) (hl : xs.length = d.length) {y : List UInt8} {A : Option Addr} {k : Nat} (hy : y.length ≤ 100000) (ho : w.ownsRow 0 5 1 (.slice A y.length k) y.length (y.map bv)) : DtO w (d ++ [y]) (xs ++ [.slice A y.length k]) := by
  intro i z hz
  by_cases hi : i < d.length
  · rw [List.getElem?_append_left hi] at hz
    rw [List.getElem?_append_left (by omega)]
    exact h i z hz
  · rw [List.getElem?_append_right (by omega)] at hz
    rw [List.getElem?_append_right (by omega), hl]
    have e : i - d.length = 0 := by
      have := (List.getElem?_eq_some_iff.1 hz).1
      simp at this
      omega
    rw [e] at hz ⊢
    simp at hz
    subst hz
    exact ⟨hy, A, k, rfl, ho⟩
theorem own_lt {w : World} {base n size : Nat} {t : TypeId} {v : Value} {xs : List Value} (h : w.ownsRow base t size v n xs) : ∀ k, v.ownBlock = some k → k < w.heap.size := by
  intro k hk
  rcases h.2 with ⟨hv, _⟩ | ⟨g, cap, cur, hv, _, hg, _⟩
  · rw [hv] at hk; cases hk
  · rw [hv] at hk
    unfold Value.ownBlock at hk
    injection hk with hk
    subst hk
    exact heap_lt1 hg
theorem own_typ {w : World} {base n size k : Nat} {t t' : TypeId} {v : Value} {xs : List Value} {cs : Array Value} {fz : Nat × Nat} (h : w.ownsRow base t size v n xs) (hk : v.ownBlock = some k) (hc : w.heap[k]? = some (.cells cs t' fz)) (hne : t ≠ t') : False := by
  rcases h.2 with ⟨hv, _⟩ | ⟨g, cap, cur, hv, _, hg, _⟩
  · rw [hv] at hk; cases hk
  · rw [hv] at hk
    unfold Value.ownBlock at hk
    injection hk with hk
    subst hk
    rw [hg] at hc
    injection hc with hc
    injection hc with _ e _
    exact hne e
theorem own_row {w : World} {base n size : Nat} {t : TypeId} {v : Value} {xs : List Value} (h : w.ownsRow base t size v n xs) : ∀ k, v.ownBlock = some k → ∃ cs fz, w.heap[k]? = some (.cells cs t fz) := by
  intro k hk
  rcases h.2 with ⟨hv, _⟩ | ⟨g, cap, cur, hv, _, hg, _⟩
  · rw [hv] at hk; cases hk
  · rw [hv] at hk
    unfold Value.ownBlock at hk
    injection hk with hk
    subst hk
    exact ⟨_, _, hg⟩
theorem own_ge {w : World} {base n size : Nat} {t : TypeId} {v : Value} {xs : List Value} (h : w.ownsRow base t size v n xs) : ∀ k, v.ownBlock = some k → base ≤ k := by
  intro k hk
  rcases h.2 with ⟨hv, _⟩ | ⟨g, cap, cur, hv, hb, _, _⟩
  · rw [hv] at hk; cases hk
  · rw [hv] at hk
    unfold Value.ownBlock at hk
    injection hk with hk
    subst hk
    exact hb
theorem grown_set (w : World) (g i : Nat) (v : Value) : w.grownBy (w.setCell ⟨g, i, none⟩ v) (some g) :=
  ⟨rfl, rfl, rfl, by simp, fun k _ hne => heap_setCell_other _ _ _ _ (fun e => hne (by rw [e]))⟩
theorem RkRd.off {w w' : World} {B g : Nat} {A : Option Addr} {l : List Rk} {t : TypeId} {fr : Nat × Nat} (h : RkRd w B A l) (hg : w.heap[g]? = some (.cells #[.int .i64 0, .slice none 0 0, .slice none 0 0] t fr)) (hk : ∀ k, k ≠ g → w'.heap[k]? = w.heap[k]?) : RkRd w' B A l := fun hn => by
  obtain ⟨b, o, e, hB, hc⟩ := h hn
  have hbg : b ≠ g := by
    intro e2
    subst e2
    obtain ⟨x, hx⟩ : ∃ x, l[0]? = some x := ⟨l[0]'hn, List.getElem?_eq_getElem _⟩
    obtain ⟨_, h1, _⟩ := hc 0 x hx
    rw [cell_of_row _ _ _ _ _ _ hg] at h1
    rcases o with _ | _ | o <;> simp at h1
  refine ⟨b, o, e, hB, fun j x hx => ?_⟩
  obtain ⟨h0, h1, h2, h3⟩ := hc j x hx
  have hh := hk b hbg
  refine ⟨?_, ?_, ?_, h3⟩
  · rw [← h0]; simp [World.cell?, hh]
  · rw [← h1]; simp [World.cell?, hh]
  · rw [← h2]; simp [World.cell?, hh]
theorem DtO.stay {w w' : World} {d : List (List UInt8)} {xs : List Value} (h : DtO w d xs) (hb : Below w.heap.size w w') : DtO w' d xs := by
  intro i y hy
  obtain ⟨hyl, A, k, hx, ho⟩ := h i y hy
  exact ⟨hyl, A, k, hx, own_stay ho hb (own_lt ho)⟩
theorem dt_inf : (Try.prog.info? 31).map (fun i => (i.zero, i.size, i.bytes)) = some (some (.slice none 0 0), 1, 24) := by kernel_rfl
theorem run_one_d (w : World) (A : Option Addr) (n c : Nat) : (Instr.buildSlice 23 1 #[(0, .slice A n c)]).run Try.prog w = .ok (.slice (some ⟨w.heap.size, 0, none⟩) 1 1) (w.alloc (.cells #[.slice A n c] 31)) := by
  obtain ⟨i0, hi, hz0, hz1, hz2⟩ := info_parts dt_inf
  refine run_buildSlice w 23 31 1 _ _ i0 _ Try.underlying23 hi hz0 (by omega) (by omega) ?_
  rw [hz1]
  have e : Array.range (1 * 1) = #[0] := by decide
  rw [e]
  simp [Instr.fill, Value.cells]
set_option maxRecDepth 100000 in
set_option maxHeartbeats 2000000 in
theorem imdata_ok (w : World) (A A2 : Option Addr) (n c B k2 : Nat) (b : List UInt8) (l : List Rk) (hr : Rd w B A n b) (hnc : n ≤ c) (hc : c ≤ 9223372036854775807) (hn : n ≤ 900000) (hl : RkRd w w.heap.size A2 l) (hBw : B ≤ w.heap.size) (hll : l.length ≤ 1024) (hs : ∀ x ∈ l, isSz x.s = true) (hbad : (datG b l).1 = 0) :
    Calls Try.prog 32 #[.slice A n c, .slice A2 l.length k2] w fun e w' => ∃ A3 c3, e = .returned (datV (datG b l) A3 c3) ∧ (∃ xs, w'.ownsRow w.heap.size 31 1 (.slice A3 (datG b l).2.length c3) (datG b l).2.length xs ∧ DtO w' (datG b l).2 xs) ∧ Below w.heap.size w w' := by
  have hbl : b.length = n := hr.1
  have hh := heldL_le hs
  obtain ⟨D, hD⟩ : ∃ D, datG b l = D := ⟨_, rfl⟩
  rw [hD] at hbad ⊢
  unfold datG at hD
  rw [hbl] at hD
  obtain ⟨m, hm⟩ : ∃ m, l.length = m := ⟨_, rfl⟩
  rw [hm] at hll hh hD ⊢
  obtain ⟨E, hE⟩ : ∃ E, 28 + m * 8 = E := ⟨_, rfl⟩
  obtain ⟨T, hT⟩ : ∃ T, E + 4 + heldL l = T := ⟨_, rfl⟩
  have hTE : E + 4 ≤ T := by omega
  rw [show 32 + 8 * m = E + 4 from by omega, hT] at hD
  have HT := imte_any w m (by omega)
  rw [hE] at HT
  have HTT := Lib.hid HT
  have HR := Lib.hid (hr.more hBw)
  have HL := Lib.hid hl
  have HSZ := Lib.hid hs
  have HM := Lib.hid hm
  have HTL := Lib.hid hT
  have hEb : E ≤ 10000 := by omega
  have hTb : T ≤ 30000000 := by omega
  have HDD := Lib.hid hD
  clear hr hl hs hm hT HT hD hE hh hbl
  go_enter Try.func32, Try.ntmps32
  go_wp2_with fail
  refine HTT.out.mono ?_
  rintro e w2 ⟨rfl, rfl⟩
  go_wp2_with fail
  go_loopw [7, 20] (fun o t wr => ∃ (j z : Nat), o = .int .i64 (z : Int) ∧ t = .int .i64 (j : Int) ∧ j ≤ m ∧ z + heldL (l.drop j) = T ∧ Below w.heap.size w wr) (fun _ t _ => m - (intOf t).toNat)
  case atStart => exact ⟨0, E + 4, by go_num, rfl, Nat.zero_le _, HTL.out, Below.refl _ _⟩
  case round =>
    obtain ⟨j, z, rfl, rfl, hj, hz, hb⟩ := hrel
    have hzT : z ≤ T := by omega
    by_cases hlt : j < m
    · obtain ⟨x, hx⟩ : ∃ x, l[j]? = some x := ⟨l[j]'(by rw [HM.out]; exact hlt), List.getElem?_eq_getElem _⟩
      obtain ⟨b2, o, rfl, hbb, hcl⟩ := HL.out (by rw [HM.out]; omega)
      obtain ⟨p0, p1, p2, hxo, hxs⟩ := hcl j x hx
      have r0 := (hb.cell (p := ⟨b2, o + j * 3, none⟩) hbb).trans p0
      have r1 := (hb.cell (p := ⟨b2, o + j * 3 + 1, none⟩) hbb).trans p1
      have r2 := (hb.cell (p := ⟨b2, o + j * 3 + 2, none⟩) hbb).trans p2
      have hsx := HSZ.out x (List.mem_of_getElem? hx)
      rw [drop_at hx] at hz
      unfold heldL at hz
      obtain ⟨xo, xs, xu⟩ := x
      dsimp only at p0 p1 p2 r0 r1 r2 hz hxo hxs hsx
      obtain ⟨q, hq1, hq2, hq3⟩ := isSz_nat hsx
      have hxb : 16 ≤ xs ∧ xs ≤ 20016 := by omega
      rw [hq2] at hz
      obtain ⟨w4, hw4⟩ : ∃ w4, wr.alloc (.cells #[.int .i64 xo, .int .i64 xs, .bool xu] 50) = w4 := ⟨_, rfl⟩
      have hb4 : Below w.heap.size w w4 := by rw [← hw4]; exact hb.alloc hb.size _
      have n4 : w4.heap[wr.heap.size]? = some (.cells #[.int .i64 xo, .int .i64 xs, .bool xu] 50 (0, 0)) := by rw [← hw4]; exact heap_alloc_new wr _
      obtain ⟨d0, d1, d2⟩ := rk_cells n4
      have hl4 := heap_lt1 n4
      have HHELD := Lib.hid (imheld_any w4 xo xs xu hsx)
      have HW4 := Lib.hid hw4
      have HB4 := Lib.hid hb4
      have HZ := Lib.hid hz
      clear hx hb p0 p1 p2 hb4 n4 hw4 hcl hz
      cases xu with
      | false =>
        have HF : Hid (z + heldL (l.drop (j + 1)) = T) := (show _ = T by have := HZ.out; simpa using this)
        clear hq1 hq2
        go_wp2_with (first | (rw [HW4.out]) | fail)
        go_roundw
        case rel => exact ⟨j + 1, z, rfl, by go_num, by omega, HF.out, HB4.out⟩
        case measure => simp only [intOf]; omega
      | true =>
        have HF : Hid (z + q + heldL (l.drop (j + 1)) = T) := (show _ = T by have := HZ.out; rw [if_pos rfl] at this; omega)
        have HQ := Lib.hid hq1
        clear hq1 hq2
        go_wp2_with (first | (rw [HW4.out]) | fail)
        refine HHELD.out.mono ?_
        rintro e w5 ⟨rfl, hb5⟩
        have HB5 := Lib.hid (HB4.out.trans (hb5.mono HB4.out.size))
        clear hb5
        go_wp2_with fail
        go_roundw
        case rel => exact ⟨j + 1, z + q, by have := HQ.out; go_num, by go_num, by omega, HF.out, HB5.out⟩
        case measure => simp only [intOf]; omega
    · have hd : l.drop j = [] := List.drop_eq_nil_of_le (by rw [HM.out]; omega)
      rw [hd] at hz
      have hz2 : z = T := hz
      subst hz2
      have HB := Lib.hid hb
      have hR := HR.out.below hb
      have hDD := HDD.out
      clear hb hz hd
      have h1 : n = z + 8 := by
        refine Decidable.byContradiction fun h => ?_
        rw [if_pos h] at hDD
        rw [← hDD] at hbad
        exact absurd hbad (by decide)
      rw [if_neg (fun h => h h1)] at hDD
      have g1 : ((n : Int) != (z : Int) + 8) = false := by rw [bne_eq_false_iff_eq]; omega
      have hy1 : sumAt b (E + 4) z = true := by
        cases h : sumAt b (E + 4) z with
        | true => rfl
        | false =>
          rw [h, if_pos rfl] at hDD
          rw [← hDD] at hbad
          exact absurd hbad (by decide)
      rw [if_neg (by rw [hy1]; simp)] at hDD
      have hy2 : sumAt b 0 (z + 4) = true := by
        cases h : sumAt b 0 (z + 4) with
        | true => rfl
        | false =>
          rw [h, if_pos rfl] at hDD
          rw [← hDD] at hbad
          exact absurd hbad (by decide)
      rw [if_neg (by rw [hy2]; simp)] at hDD
      have HS1 := Lib.hid (imhas_any wr A n c w.heap.size b (E + 4) z hR hnc hc hn (by omega) (by omega) true hy1)
      have HS2 := Lib.hid (imhas_any wr A n c w.heap.size b 0 (z + 4) hR hnc hc hn (by omega) (by omega) true hy2)
      rw [show ((E + 4 : Nat) : Int) = (E : Int) + 4 from by omega] at HS1
      rw [show ((z + 4 : Nat) : Int) = (z : Int) + 4 from by omega] at HS2
      obtain ⟨F, hF⟩ : ∃ F, cutL l (b.drop (E + 4)) = F := ⟨_, rfl⟩
      rw [hF] at hDD
      have HD3 := Lib.hid hDD
      have HFF := Lib.hid hF
      have HTL2 := Lib.hid HTL.out
      have hzn : z + 8 ≤ n := by omega
      have hEz : E + 4 ≤ z := hTE
      obtain ⟨g, off, rfl, hgB, _⟩ := HR.out.2 (by omega)
      clear hDD hR hy1 hy2 h1 hbad HTL hF
      go_wp2_with fail
      refine HS1.out.mono ?_
      rintro e w5 ⟨rfl, rfl⟩
      go_wp2_with fail
      refine HS2.out.mono ?_
      rintro e w5 ⟨rfl, rfl⟩
      go_wp2_with fail
      have HBr := HB
      clear HB HS1 HS2 HTT
      go_loopw [6, 10, 52] (fun o v t W => ∃ (j p : Nat) (d : List (List UInt8)) (xs : List Value) (A3 : Option Addr) (c3 : Nat), o = .int .i64 (p : Int) ∧ v = .slice A3 d.length c3 ∧ t = .int .i64 (j : Int) ∧ j ≤ m ∧ E + 4 ≤ p ∧ p + heldL (l.drop j) = z ∧ d ++ cutL (l.drop j) (b.drop p) = F ∧ W.ownsRow w.heap.size 31 1 (.slice A3 d.length c3) d.length xs ∧ DtO W d xs ∧ d.length ≤ j ∧ Below w.heap.size w W) (fun _ _ t _ => m - (intOf t).toNat)
      case atStart => exact ⟨0, E + 4, [], [], none, 0, by go_num, rfl, rfl, Nat.zero_le _, Nat.le_refl _, HTL2.out, HFF.out, World.ownsRow_nil _ _ _ _, fun i y h => by simp at h, Nat.le_refl _, HBr.out⟩
      case round =>
        obtain ⟨j, p, d, xs, A3, c3, rfl, rfl, rfl, hj, hp, hpz, hcut, hown, hdo, hdl, hb⟩ := hrel
        by_cases hlt : j < m
        · obtain ⟨x, hx⟩ : ∃ x, l[j]? = some x := ⟨l[j]'(by rw [HM.out]; exact hlt), List.getElem?_eq_getElem _⟩
          obtain ⟨b2, o, rfl, hbb, hcl⟩ := HL.out (by rw [HM.out]; omega)
          obtain ⟨p0, p1, p2, hxo, hxs⟩ := hcl j x hx
          have r0 := (hb.cell (p := ⟨b2, o + j * 3, none⟩) hbb).trans p0
          have r1 := (hb.cell (p := ⟨b2, o + j * 3 + 1, none⟩) hbb).trans p1
          have r2 := (hb.cell (p := ⟨b2, o + j * 3 + 2, none⟩) hbb).trans p2
          have hsx := HSZ.out x (List.mem_of_getElem? hx)
          rw [drop_at hx] at hpz hcut
          unfold heldL at hpz
          unfold cutL at hcut
          obtain ⟨xo, xs', xu⟩ := x
          dsimp only at p0 p1 p2 r0 r1 r2 hpz hxo hxs hsx hcut
          obtain ⟨q, hq1, hq2, hq3⟩ := isSz_nat hsx
          have hxb : 16 ≤ xs' ∧ xs' ≤ 20016 := by omega
          rw [hq2] at hpz hcut
          obtain ⟨w4, hw4⟩ : ∃ w4, wr.alloc (.cells #[.int .i64 xo, .int .i64 xs', .bool xu] 50) = w4 := ⟨_, rfl⟩
          have hb04 : Below wr.heap.size wr w4 := by rw [← hw4]; exact (Below.refl _ _).alloc (Nat.le_refl _) _
          have hb4 : Below w.heap.size w w4 := hb.trans (hb04.mono hb.size)
          have n4 : w4.heap[wr.heap.size]? = some (.cells #[.int .i64 xo, .int .i64 xs', .bool xu] 50 (0, 0)) := by rw [← hw4]; exact heap_alloc_new wr _
          obtain ⟨d0, d1, d2⟩ := rk_cells n4
          have hl4 := heap_lt1 n4
          have hown4 := own_stay hown hb04 (own_lt hown)
          have hdo4 : DtO w4 d xs := by rw [← hw4]; exact hdo.grown (World.grownBy_alloc wr _ none) (fun k h => by cases h)
          have HW4 := Lib.hid hw4
          have HN4 := Lib.hid n4
          have HB4 := Lib.hid hb4
          have HO4 := Lib.hid hown4
          have HD4 := Lib.hid hdo4
          clear hx hb p0 p1 p2 hb4 hb04 n4 hw4 hcl hown hdo hown4 hdo4
          cases xu with
          | false =>
            have HF : Hid (p + heldL (l.drop (j + 1)) = z) := (show _ = z by simpa using hpz)
            have HC : Hid (d ++ cutL (l.drop (j + 1)) (b.drop p) = F) := (show _ = _ by simpa using hcut)
            clear hq1 hq2 hpz hcut
            go_wp2_with (first | (rw [HW4.out]) | fail)
            go_roundw
            case rel => exact ⟨j + 1, p, d, xs, A3, c3, rfl, rfl, by go_num, by omega, hp, HF.out, HC.out, HO4.out, HD4.out, by omega, HB4.out⟩
            case measure => simp only [intOf]; omega
          | true =>
            rw [if_pos rfl] at hpz hcut
            have hpq : p + q ≤ z := by omega
            have HF : Hid (p + q + heldL (l.drop (j + 1)) = z) := (show _ = z by omega)
            have HC : Hid ((d ++ [(b.drop p).take q]) ++ cutL (l.drop (j + 1)) (b.drop (p + q)) = F) := (show _ = _ by
              rw [← hcut, List.append_assoc, List.drop_drop]; rfl)
            have hyl : ((b.drop p).take q).length = q := (HR.out.sub p q (by omega)).1
            obtain ⟨y, hy⟩ : ∃ y, (b.drop p).take q = y := ⟨_, rfl⟩
            rw [hy] at HC hyl
            have HHELD := Lib.hid (fun (V : World) => imheld_any V xo xs' true hsx)
            rw [show xs' - 16 = (q : Int) from by omega] at HHELD
            have hcl : ∀ V : World, Below w.heap.size w V → Calls Try.prog 47 #[.slice (some ⟨g, off + p, none⟩) q (c - p)] V fun e w' => NewRow y V e w' := fun V hV => by
              have h := HR.out.sub p q (by omega)
              rw [hy] at h
              have h2 := sclone_any (some ⟨g, off + p, none⟩) (c - p) w.heap.size y V (by rw [hyl]; exact h.below hV) hV.size (fun e => by cases e) (by omega)
              rw [hyl] at h2
              exact h2
            have HCL := Lib.hid hcl
            have HYL := Lib.hid hyl
            have hg1 : (p : Int) < (c : Int) := by omega
            have hg2 : (p : Int) + (q : Int) ≤ (c : Int) := by omega
            obtain ⟨i0, hi, hz0, hz1, hz2⟩ := info_parts dt_inf
            clear hq1 hq2 hpz hcut hy hcl hyl
            go_wp2_with (first | (rw [HW4.out]) | fail)
            refine (HHELD.out w4).mono ?_
            rintro e w5 ⟨rfl, hb5⟩
            have HN5 := Lib.hid ((hb5.block _ (heap_lt1 HN4.out)).trans HN4.out)
            have HB5 := Lib.hid (HB4.out.trans (hb5.mono HB4.out.size))
            have HO5 := Lib.hid (own_stay HO4.out hb5 (own_lt HO4.out))
            have HD5 := Lib.hid (HD4.out.stay hb5)
            clear hb5 d0 d1 d2 hl4
            go_wp2_with fail
            refine (HCL.out w5 HB5.out).mono ?_
            rintro e w6 ⟨A6, k6, rfl, ho6, hb6⟩
            rw [HYL.out] at ho6 ⊢
            have hO6 := own_stay HO5.out hb6 (own_lt HO5.out)
            have hD6 := HD5.out.stay hb6
            have n6 := (hb6.block _ (heap_lt1 HN5.out)).trans HN5.out
            have hB6 := HB5.out.trans (hb6.mono HB5.out.size)
            obtain ⟨w7, hw7⟩ : ∃ w7, w6.alloc (.cells #[.slice A6 q k6] 31) = w7 := ⟨_, rfl⟩
            have hb7 : Below w6.heap.size w6 w7 := by rw [← hw7]; exact (Below.refl _ _).alloc (Nat.le_refl _) _
            have n7 : w7.heap[w6.heap.size]? = some (.cells #[.slice A6 q k6] 31 (0, 0)) := by rw [← hw7]; exact heap_alloc_new w6 _
            have m7 := (hb7.block _ (heap_lt1 n6)).trans n6
            have hO7 := own_stay hO6 hb7 (own_lt hO6)
            have hD7 := hD6.stay hb7
            have ho7 := own_stay ho6 hb7 (own_lt ho6)
            have hB7 := hB6.trans (hb7.mono hB6.size)
            have hlx : xs.length = d.length := by have := hO7.1; omega
            have hrow := own_row hO7
            have HRUN := Lib.hid (fun V : World => run_one_d V A6 q k6)
            have HW7 := Lib.hid hw7
            have HNEW : Hid (∀ j u, [Value.slice A6 q k6][j]? = some u → w7.cell? ((⟨w6.heap.size, 0, none⟩ : Addr).add j) = some u) := fun j u hu => by
              have e : (⟨w6.heap.size, 0, none⟩ : Addr).add j = ⟨w6.heap.size, j, none⟩ := by unfold Addr.add; split <;> simp_all
              rw [e, cell_of_row w7 _ j _ _ (0, 0) n7]
              simpa using hu
            have HONE : Hid (∀ u ∈ [Value.slice A6 q k6], u.oneCell' = true) := fun u hu => by
              simp at hu
              rcases hu with rfl
              rfl
            have hB7s : w.heap.size ≤ w7.heap.size := hB7.size
            have HO7 := Lib.hid hO7
            have HD7 := Lib.hid hD7
            have Ho7 := Lib.hid ho7
            have HB7 := Lib.hid hB7
            have HN7 := Lib.hid m7
            have HROW := Lib.hid hrow
            have HLX := Lib.hid hlx
            have HGE := Lib.hid (own_ge hO7)
            have hdb : d.length ≤ 2000 := by omega
            have hne : ∀ k, (Value.slice A3 d.length c3).ownBlock = some k → k ≠ wr.heap.size := fun k hk e => by
              obtain ⟨cs, fz, h⟩ := hrow k hk
              rw [e, m7] at h
              injection h with h
              injection h with _ h _
              exact absurd h (by decide)
            have HNE := Lib.hid hne
            have hl7 := heap_lt1 m7
            clear ho6 hb6 hO6 hD6 n6 hB6 hw7 hb7 n7 m7 hO7 hD7 ho7 hB7 hlx hrow hne HCL
            go_wp2_with (first
              | (rw [HRUN.out])
              | (rw [HW7.out])
              | (at_builtin; go_must (refine wpList_append_own _ rfl _ _ 23 rfl w.heap.size 31 i0 _ 1 24 Try.underlying23 hi hz0 hz1 hz2 rfl (by decide) _ d.length xs rfl HO7.out ⟨w6.heap.size, 0, none⟩ 1 1 [.slice A6 q k6] rfl rfl HNEW.out HONE.out (by unfold maxLen; omega) (by omega) hB7s ?_); intro x8 w8 own8 gr8 at8;
                 have gr8' : w7.grownBy w8 (Value.slice A3 d.length c3).ownBlock := gr8; have e8 := (gr8'.block _ hl7 (fun e => HNE.out _ e.symm rfl)).trans HN7.out; obtain ⟨c80, c81, c82⟩ := rk_cells e8; have hl8 := heap_lt1 e8; have HB8 : Hid (Below w.heap.size w w8) := HB7.out.grown gr8' hB7s (fun k hk => HGE.out k hk); have OWN8 : Hid (w8.ownsRow w.heap.size 31 1 x8 (d.length + 1) (xs ++ [.slice A6 q k6])) := own8;
                 have Ho8 : Hid (w8.ownsRow w5.heap.size 5 1 (.slice A6 q k6) q (y.map bv)) := own_off Ho7.out gr8' (fun k hk hrk => by obtain ⟨cs, fz, h⟩ := HROW.out k hrk; exact own_typ Ho7.out hk h (by decide)); have HD8 : Hid (DtO w8 d xs) := HD7.out.grown gr8' (fun k hk => by obtain ⟨cs, fz, h⟩ := HROW.out k hk; exact ⟨cs, _, fz, by decide, h⟩); clear own8 gr8 gr8' at8 e8)
              | fail)
            refine (HHELD.out w8).mono ?_
            rintro e w9 ⟨rfl, hb9⟩
            obtain ⟨A8, c8, rfl, _⟩ := own_slc OWN8.out
            have HO9 := Lib.hid (own_stay OWN8.out hb9 (own_lt OWN8.out))
            have Ho9 := own_lift (own_stay Ho8.out hb9 (own_lt Ho8.out)) (Nat.zero_le _)
            have HD9 := HD8.out.stay hb9
            have HB9 := Lib.hid (HB8.out.trans (hb9.mono HB8.out.size))
            have HDS : Hid (DtO w9 (d ++ [y]) (xs ++ [.slice A6 q k6])) := (show DtO _ _ _ by
              have e := HYL.out
              subst e
              exact HD9.snoc HLX.out (by omega) Ho9)
            clear Ho9 HD9 hb9
            go_wp2_with fail
            go_roundw
            case rel => exact ⟨j + 1, p + q, d ++ [y], _, A8, c8, by go_num, by rw [List.length_append, List.length_singleton], by go_num, by omega, by omega, HF.out, HC.out, by rw [List.length_append, List.length_singleton]; exact HO9.out, HDS.out, by rw [List.length_append, List.length_singleton]; omega, HB9.out⟩
            case measure => simp only [intOf]; omega
        · have hd : l.drop j = [] := List.drop_eq_nil_of_le (by rw [HM.out]; omega)
          rw [hd] at hcut
          have hcut2 : d = F := by
            have : cutL [] (b.drop p) = [] := by unfold cutL; rfl
            rw [this, List.append_nil] at hcut
            exact hcut
          have HE : Hid (D = (0, d)) := (show D = (0, d) by rw [← HD3.out, hcut2])
          have HRD := Lib.hid (And.intro hown hdo)
          have HBF := Lib.hid hb
          clear hcut hcut2 hd hown hdo hb
          go_wp2
          go_ret2
          exact ⟨A3, c3, by rw [HE.out]; rfl, by rw [HE.out]; exact ⟨xs, HRD.out⟩, HBF.out⟩
end Go.Proofs.Ytlhahibdddcpfaa
