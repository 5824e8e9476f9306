/- The program's data of an image: getData. -/
import Derived.Test.YtlhahibdddcpfaaImg11
import Derived.Test.YtlhahibdddcpfaaStore
namespace Go.Proofs.Ytlhahibdddcpfaa
open Go.RowKit

def datV (x : Nat × List (List UInt8)) (A : Option Addr) (c : Nat) : Value := if x.1 = 0 then .tuple #[.slice A x.2.length c, .nilIface] else .tuple #[.slice none 0 0, .iface 52 (.int .i64 (x.1 : Int))]
theorem heldL_le : ∀ {l : List Rk}, (∀ x ∈ l, isSz x.s = true) → heldL l ≤ 20000 * l.length
  | [], _ => Nat.le_refl _
  | x :: l, h => by
    have h1 := heldL_le fun y hy => h y (List.mem_cons_of_mem _ hy)
    have h2 := (isSz_iff _).1 (h x List.mem_cons_self)
    unfold heldL
    rw [List.length_cons]
    split <;> omega
theorem isSz_nat {s : Int} (h : isSz s = true) : ∃ q : Nat, s = ((q + 16 : Nat) : Int) ∧ s.toNat - 16 = q ∧ q ≤ 20000 := by
  have h2 := (isSz_iff _).1 h
  exact ⟨s.toNat - 16, by omega, rfl, by omega⟩
set_option maxRecDepth 100000 in
set_option maxHeartbeats 2000000 in
theorem imdata_bad (w : World) (A A2 : Option Addr) (n c B k2 : Nat) (b : List UInt8) (l : List Rk) (hr : Rd w B A n b) (hnc : n ≤ c) (hc : c ≤ 9223372036854775807) (hn : n ≤ 900000) (hl : RkRd w w.heap.size A2 l) (hBw : B ≤ w.heap.size) (hll : l.length ≤ 1024) (hs : ∀ x ∈ l, isSz x.s = true) (hbad : (datG b l).1 ≠ 0) :
    Calls Try.prog 32 #[.slice A n c, .slice A2 l.length k2] w fun e w' => e = .returned (datV (datG b l) none 0) ∧ (datG b l).2 = [] ∧ Below w.heap.size w w' := by
  have hbl : b.length = n := hr.1
  have hh := heldL_le hs
  obtain ⟨D, hD⟩ : ∃ D, datG b l = D := ⟨_, rfl⟩
  rw [hD] at hbad ⊢
  unfold datG at hD
  rw [hbl] at hD
  obtain ⟨m, hm⟩ : ∃ m, l.length = m := ⟨_, rfl⟩
  rw [hm] at hll hh hD ⊢
  obtain ⟨E, hE⟩ : ∃ E, 28 + m * 8 = E := ⟨_, rfl⟩
  obtain ⟨T, hT⟩ : ∃ T, E + 4 + heldL l = T := ⟨_, rfl⟩
  have hTE : E + 4 ≤ T := by omega
  rw [show 32 + 8 * m = E + 4 from by omega, hT] at hD
  have HT := imte_any w m (by omega)
  rw [hE] at HT
  have HTT := Lib.hid HT
  have HR := Lib.hid (hr.more hBw)
  have HL := Lib.hid hl
  have HSZ := Lib.hid hs
  have HM := Lib.hid hm
  have HTL := Lib.hid hT
  have hEb : E ≤ 10000 := by omega
  have hTb : T ≤ 30000000 := by omega
  have HDD := Lib.hid hD
  clear hr hl hs hm hT HT hD hE hh hbl
  go_enter Try.func32, Try.ntmps32
  go_wp2_with fail
  refine HTT.out.mono ?_
  rintro e w2 ⟨rfl, rfl⟩
  go_wp2_with fail
  go_loopw [7, 20] (fun o t wr => ∃ (j z : Nat), o = .int .i64 (z : Int) ∧ t = .int .i64 (j : Int) ∧ j ≤ m ∧ z + heldL (l.drop j) = T ∧ Below w.heap.size w wr) (fun _ t _ => m - (intOf t).toNat)
  case atStart => exact ⟨0, E + 4, by go_num, rfl, Nat.zero_le _, HTL.out, Below.refl _ _⟩
  case round =>
    obtain ⟨j, z, rfl, rfl, hj, hz, hb⟩ := hrel
    have hzT : z ≤ T := by omega
    by_cases hlt : j < m
    · obtain ⟨x, hx⟩ : ∃ x, l[j]? = some x := ⟨l[j]'(by rw [HM.out]; exact hlt), List.getElem?_eq_getElem _⟩
      obtain ⟨b2, o, rfl, hbb, hcl⟩ := HL.out (by rw [HM.out]; omega)
      obtain ⟨p0, p1, p2, hxo, hxs⟩ := hcl j x hx
      have r0 := (hb.cell (p := ⟨b2, o + j * 3, none⟩) hbb).trans p0
      have r1 := (hb.cell (p := ⟨b2, o + j * 3 + 1, none⟩) hbb).trans p1
      have r2 := (hb.cell (p := ⟨b2, o + j * 3 + 2, none⟩) hbb).trans p2
      have hsx := HSZ.out x (List.mem_of_getElem? hx)
      rw [drop_at hx] at hz
      unfold heldL at hz
      obtain ⟨xo, xs, xu⟩ := x
      dsimp only at p0 p1 p2 r0 r1 r2 hz hxo hxs hsx
      obtain ⟨q, hq1, hq2, hq3⟩ := isSz_nat hsx
      have hxb : 16 ≤ xs ∧ xs ≤ 20016 := by omega
      rw [hq2] at hz
      obtain ⟨w4, hw4⟩ : ∃ w4, wr.alloc (.cells #[.int .i64 xo, .int .i64 xs, .bool xu] 50) = w4 := ⟨_, rfl⟩
      have hb4 : Below w.heap.size w w4 := by rw [← hw4]; exact hb.alloc hb.size _
      have n4 : w4.heap[wr.heap.size]? = some (.cells #[.int .i64 xo, .int .i64 xs, .bool xu] 50 (0, 0)) := by rw [← hw4]; exact heap_alloc_new wr _
      obtain ⟨d0, d1, d2⟩ := rk_cells n4
      have hl4 := heap_lt1 n4
      have HHELD := Lib.hid (imheld_any w4 xo xs xu hsx)
      have HW4 := Lib.hid hw4
      have HB4 := Lib.hid hb4
      have HZ := Lib.hid hz
      clear hx hb p0 p1 p2 hb4 n4 hw4 hcl hz
      cases xu with
      | false =>
        have HF : Hid (z + heldL (l.drop (j + 1)) = T) := (show _ = T by have := HZ.out; simpa using this)
        clear hq1 hq2
        go_wp2_with (first | (rw [HW4.out]) | fail)
        go_roundw
        case rel => exact ⟨j + 1, z, rfl, by go_num, by omega, HF.out, HB4.out⟩
        case measure => simp only [intOf]; omega
      | true =>
        have HF : Hid (z + q + heldL (l.drop (j + 1)) = T) := (show _ = T by have := HZ.out; rw [if_pos rfl] at this; omega)
        have HQ := Lib.hid hq1
        clear hq1 hq2
        go_wp2_with (first | (rw [HW4.out]) | fail)
        refine HHELD.out.mono ?_
        rintro e w5 ⟨rfl, hb5⟩
        have HB5 := Lib.hid (HB4.out.trans (hb5.mono HB4.out.size))
        clear hb5
        go_wp2_with fail
        go_roundw
        case rel => exact ⟨j + 1, z + q, by have := HQ.out; go_num, by go_num, by omega, HF.out, HB5.out⟩
        case measure => simp only [intOf]; omega
    · have hd : l.drop j = [] := List.drop_eq_nil_of_le (by rw [HM.out]; omega)
      rw [hd] at hz
      have hz2 : z = T := hz
      subst hz2
      have HB := Lib.hid hb
      have hR := HR.out.below hb
      have hDD := HDD.out
      clear hb hz hd
      by_cases h1 : n ≠ z + 8
      · rw [if_pos h1] at hDD
        have g1 : ((n : Int) != (z : Int) + 8) = true := by rw [bne_iff_ne]; omega
        have HD3 := Lib.hid hDD
        clear hDD hR
        go_wp2
        go_ret2
        exact ⟨by rw [← HD3.out]; rfl, by rw [← HD3.out], HB.out⟩
      · rw [if_neg h1] at hDD
        have h1' : n = z + 8 := Decidable.byContradiction h1
        have g1 : ((n : Int) != (z : Int) + 8) = false := by rw [bne_eq_false_iff_eq]; omega
        obtain ⟨y1, hy1⟩ : ∃ y, sumAt b (E + 4) z = y := ⟨_, rfl⟩
        obtain ⟨y2, hy2⟩ : ∃ y, sumAt b 0 (z + 4) = y := ⟨_, rfl⟩
        rw [hy1, hy2] at hDD
        have HS1 := Lib.hid (imhas_any wr A n c w.heap.size b (E + 4) z hR hnc hc hn (by omega) (by omega) y1 hy1)
        have HS2 := Lib.hid (imhas_any wr A n c w.heap.size b 0 (z + 4) hR hnc hc hn (by omega) (by omega) y2 hy2)
        rw [show ((E + 4 : Nat) : Int) = (E : Int) + 4 from by omega] at HS1
        rw [show ((z + 4 : Nat) : Int) = (z : Int) + 4 from by omega] at HS2
        have HD3 := Lib.hid hDD
        clear hDD hR hy1 hy2 h1 h1'
        cases y1 with
        | false =>
          go_wp2_with fail
          refine HS1.out.mono ?_
          rintro e w5 ⟨rfl, rfl⟩
          go_wp2
          go_ret2
          exact ⟨by rw [← HD3.out]; rfl, by rw [← HD3.out]; rfl, HB.out⟩
        | true =>
          cases y2 with
          | false =>
            go_wp2_with fail
            refine HS1.out.mono ?_
            rintro e w5 ⟨rfl, rfl⟩
            go_wp2_with fail
            refine HS2.out.mono ?_
            rintro e w5 ⟨rfl, rfl⟩
            go_wp2
            go_ret2
            exact ⟨by rw [← HD3.out]; rfl, by rw [← HD3.out]; rfl, HB.out⟩
          | true =>
            exact absurd (by rw [← HD3.out]; rfl) hbad
end Go.Proofs.Ytlhahibdddcpfaa
