/- The program's blocks of an image: getBlocks. -/
import Derived.Test.YtlhahibdddcpfaaImg10
namespace Go.Proofs.Ytlhahibdddcpfaa
open Go.RowKit

def blkV (x : Nat × List Rk) (A : Option Addr) : Value := if x.1 = 0 then .tuple #[.slice A x.2.length x.2.length, .nilIface] else .tuple #[.slice none 0 0, .iface 52 (.int .i64 (x.1 : Int))]
theorem rk_store {w : World} {g i k : Nat} {cs : Array Value} {t : TypeId} (hg : w.heap[g]? = some (.cells cs t (0, 0))) (hs : cs.size = 3 * k) (hi : i < k) :
    (∃ y, w.cell? ⟨g, i * 3, none⟩ = some y) ∧ (∃ y, w.cell? ⟨g, i * 3 + 1, none⟩ = some y) ∧ (∃ y, w.cell? ⟨g, i * 3 + 2, none⟩ = some y) ∧
    w.frozen? ⟨g, i * 3, none⟩ = false ∧ w.frozen? ⟨g, i * 3 + 1, none⟩ = false ∧ w.frozen? ⟨g, i * 3 + 2, none⟩ = false :=
  ⟨⟨_, (cell_of_row _ _ _ _ _ _ hg).trans (Array.getElem?_eq_getElem (by omega))⟩, ⟨_, (cell_of_row _ _ _ _ _ _ hg).trans (Array.getElem?_eq_getElem (by omega))⟩, ⟨_, (cell_of_row _ _ _ _ _ _ hg).trans (Array.getElem?_eq_getElem (by omega))⟩,
    frozen_of_row w g _ _ _ hg, frozen_of_row w g _ _ _ hg, frozen_of_row w g _ _ _ hg⟩
theorem rk_stored {w : World} {g i : Nat} {cs : Array Value} {t : TypeId} (hg : w.heap[g]? = some (.cells cs t (0, 0))) (x0 x1 x2 : Value) :
    (((w.setCell ⟨g, i * 3, none⟩ x0).setCell ⟨g, i * 3 + 1, none⟩ x1).setCell ⟨g, i * 3 + 2, none⟩ x2).heap[g]? = some (.cells (((cs.setIfInBounds (i * 3) x0).setIfInBounds (i * 3 + 1) x1).setIfInBounds (i * 3 + 2) x2) t (0, 0)) := by
  have h1 := heap_setCell_same w g (i * 3) _ _ x0 hg
  have h2 := heap_setCell_same _ g (i * 3 + 1) _ _ x1 h1
  exact heap_setCell_same _ g (i * 3 + 2) _ _ x2 h2
set_option maxRecDepth 100000 in
set_option maxHeartbeats 2000000 in
theorem imblocks_any (w : World) (A : Option Addr) (n c B N k : Nat) (b : List UInt8) (hr : Rd w B A n b) (hBw : B ≤ w.heap.size) (hnc : n ≤ c) (hc : c ≤ 9223372036854775807) (hn : n ≤ 900000) (hN : lenOk (N : Int) = true) (hk : k ≤ 1024) :
    Calls Try.prog 31 #[.slice A n c, .int .i64 (N : Int), .int .i64 (k : Int)] w fun e w' => ∃ A2, e = .returned (blkV (blksG b N k) A2) ∧ RkRd w' w'.heap.size A2 (blksG b N k).2 ∧ Below w.heap.size w w' := by
  have hbl : b.length = n := hr.1
  have HT := Lib.hid (fun W (j : Nat) (hj : j ≤ 1024) => imte_any W j (by omega))
  have hT := (HT.out w k hk)
  obtain ⟨E, hE⟩ : ∃ E, 28 + k * 8 = E := ⟨_, rfl⟩
  rw [hE] at hT
  have hEb : E ≤ 10000 := by omega
  unfold blksG
  rw [hbl, show 32 + 8 * k = E + 4 from by omega, show 28 + 8 * k = E from by omega]
  by_cases h1 : n < E + 4
  · rw [if_pos h1]
    have g1 : decide (n < E + 4) = true := decide_eq_true h1
    have g1' : decide ((n : Int) < (E : Int) + 4) = true := decide_eq_true (by omega)
    clear HT hr hbl hE
    go_enter Try.func31, Try.ntmps31
    go_wp2_with fail
    refine hT.mono ?_
    rintro e w2 ⟨rfl, rfl⟩
    go_wp2
    go_ret2
    exact ⟨none, rfl, fun h => absurd h (by simp), Below.refl _ _⟩
  rw [if_neg h1]
  have g1 : decide (n < E + 4) = false := decide_eq_false h1
  have g1' : decide ((n : Int) < (E : Int) + 4) = false := decide_eq_false (by omega)
  obtain ⟨sy, hsy⟩ : ∃ y, sumAt b 28 E = y := ⟨_, rfl⟩
  have HS := Lib.hid (imhas_any w A n c B b 28 E hr hnc hc hn (by omega) (by omega) sy hsy)
  rw [hsy]
  cases sy with
  | false =>
    rw [if_pos rfl]
    clear HT hr hbl hE hsy
    go_enter Try.func31, Try.ntmps31
    go_wp2_with fail
    refine hT.mono ?_
    rintro e w2 ⟨rfl, rfl⟩
    go_wp2_with fail
    refine HS.out.mono ?_
    rintro e w2 ⟨rfl, rfl⟩
    go_wp2
    go_ret2
    exact ⟨none, rfl, fun h => absurd h (by simp), Below.refl _ _⟩
  | true =>
    rw [if_neg (by simp)]
    obtain ⟨r, hres⟩ : ∃ r, rowG N (blksOf (b.drop 28) k 184) = r := ⟨_, rfl⟩
    rw [hres]
    have HRES := Lib.hid hres
    clear hres
    obtain ⟨cs0, hs0, hmk⟩ := mk_blkN w k hk
    obtain ⟨w1, hw1⟩ : ∃ w1, w.alloc (.cells cs0 50) = w1 := ⟨_, rfl⟩
    have hb1 : Below w.heap.size w w1 := by rw [← hw1]; exact (Below.refl _ _).alloc (Nat.le_refl _) _
    have n1 : w1.heap[w.heap.size]? = some (.cells cs0 50 (0, 0)) := by rw [← hw1]; exact heap_alloc_new w _
    have HR := Lib.hid ((hr.more hBw))
    have HN1 := Lib.hid n1
    have HB1 := Lib.hid hb1
    have HW1 := Lib.hid hw1
    have HS0 := Lib.hid hs0
    obtain ⟨h184, h16, _⟩ := (lenOk_iff (N : Int)).1 hN
    have HEE := Lib.hid hE
    clear hr hbl hsy hw1 hb1 n1 hN hE
    go_enter Try.func31, Try.ntmps31
    go_wp2_with fail
    refine hT.mono ?_
    rintro e w2 ⟨rfl, rfl⟩
    go_wp2_with fail
    refine HS.out.mono ?_
    rintro e w2 ⟨rfl, rfl⟩
    go_wp2_with (first | (rw [HW1.out]) | fail)
    go_loopw [10, 34] (fun o t wr => ∃ (j : Nat) (l : List Rk) (cs : Array Value) (z : Nat), o = .int .i64 (z : Int) ∧ t = .int .i64 (j : Int) ∧ j ≤ k ∧ z = 184 + (l.map (·.s.toNat)).sum ∧ z ≤ 184 + 20000 * j ∧ blksOf (b.drop 28) j 184 = some l ∧ wr.heap[w.heap.size]? = some (.cells cs 50 (0, 0)) ∧ cs.size = 3 * k ∧ RkC cs l ∧ Below w.heap.size w wr) (fun _ t _ => k - (intOf t).toNat)
    case atStart => exact ⟨0, [], cs0, 184, rfl, rfl, Nat.zero_le _, rfl, by omega, rfl, HN1.out, HS0.out, fun j x hx => by simp at hx, HB1.out⟩
    case round =>
      obtain ⟨j, l, cs, z, rfl, rfl, hj, hz, hzb, hbk, hg, hsz, hrk, hb⟩ := hrel
      have hll := blksOf_len hbk
      by_cases hlt : j < k
      · have hT2 := HT.out wr j (by omega)
        obtain ⟨p, hp⟩ : ∃ p, 28 + j * 8 = p := ⟨_, rfl⟩
        rw [hp] at hT2
        have hG := get_yes A n c w.heap.size b p wr (HR.out.below hb) hnc (by omega) (by have := HEE.out; omega)
        have hv : numB ((b.drop p).take 8) < 18446744073709551616 := numB_lt64 _ (List.length_take_le _ _)
        have hsn := blksOf_snoc hbk
        rw [List.drop_drop, show 28 + 8 * j = p from by omega] at hsn
        obtain ⟨v, hvv⟩ : ∃ v, numB ((b.drop p).take 8) = v := ⟨_, rfl⟩
        rw [hvv] at hG hv hsn
        have hU := tunpack_any (w := wr) v hv
        obtain ⟨un, hun⟩ : ∃ un, unpN v = un := ⟨_, rfl⟩
        rw [hun] at hU hsn
        have HG := Lib.hid hG
        have HU := Lib.hid hU
        have HT2 := Lib.hid hT2
        have HSN := Lib.hid hsn
        have HB := Lib.hid hb
        have hp2 : p ≤ 10000 := by omega
        clear hG hU hT2 hsn hb hvv hv
        cases un with
        | none =>
          have HE0 : Hid (blksOf (b.drop 28) k 184 = none) := (show _ = none by
            have h := blksOf_none (j := k - (j + 1)) HSN.out
            rw [show j + 1 + (k - (j + 1)) = k from by omega] at h
            exact h)
          have HR3 : Hid (r = (3, [])) := (show _ = _ by rw [← HRES.out, HE0.out]; rfl)
          clear HSN hbk hg hsz hrk hz hll hun hp
          unfold unpV at HU
          go_wp2_with fail
          refine HT2.out.mono ?_
          rintro e w2 ⟨rfl, rfl⟩
          go_wp2_with fail
          refine HG.out.mono ?_
          rintro e w2 ⟨rfl, rfl⟩
          go_wp2_with fail
          refine HU.out.mono ?_
          rintro e w2 ⟨rfl, rfl⟩
          go_wp2
          go_ret2
          exact ⟨none, by rw [HR3.out]; rfl, by rw [HR3.out]; exact fun h => absurd h (by simp), HB.out⟩
        | some x =>
          obtain ⟨s, u⟩ := x
          have hs3 := (isSz_iff _).1 (unpN_some hun).1
          have hsn := HSN.out
          dsimp only at hsn
          rw [← hz] at hsn
          have HRK := Lib.hid (hrk.snoc hsz (by omega) (z : Int) (s : Int) u (by omega) (by omega))
          have HGG := Lib.hid (rk_stored (i := j) hg (.int .i64 (z : Int)) (.int .i64 (s : Int)) (.bool u))
          obtain ⟨⟨y0, c0⟩, ⟨y1, c1⟩, ⟨y2, c2⟩, f0, f1, f2⟩ := rk_store hg hsz hlt
          rw [hll] at HRK
          have HZ : Hid (((z + s : Nat)) = 184 + ((l ++ [(⟨(z : Int), (s : Int), u⟩ : Rk)]).map (·.s.toNat)).sum) := (show _ = _ by
            simp [hz, Nat.add_assoc])
          have HSNN := Lib.hid hsn
          have HSZ := Lib.hid hsz
          have hgl := heap_lt1 hg
          have HBS := Lib.hid (((HB.out.setCell (p := ⟨w.heap.size, j * 3, none⟩) (Nat.le_refl _) (.int .i64 (z : Int))).setCell (p := ⟨w.heap.size, j * 3 + 1, none⟩) (Nat.le_refl _) (.int .i64 (s : Int))).setCell (p := ⟨w.heap.size, j * 3 + 2, none⟩) (Nat.le_refl _) (.bool u))
          clear HSN hbk hg hsz hrk hz hll hun hsn hp
          unfold unpV at HU
          go_wp2_with fail
          refine HT2.out.mono ?_
          rintro e w2 ⟨rfl, rfl⟩
          go_wp2_with fail
          refine HG.out.mono ?_
          rintro e w2 ⟨rfl, rfl⟩
          go_wp2_with fail
          refine HU.out.mono ?_
          rintro e w2 ⟨rfl, rfl⟩
          go_wp2
          go_roundw
          case rel => exact ⟨j + 1, _, _, z + s, by go_num, by go_num, by omega, HZ.out, by omega, HSNN.out, HGG.out, by simp [HSZ.out], HRK.out, HBS.out⟩
          case measure => simp only [intOf]; omega
      · have e : j = k := by omega
        subst e
        have hrd := hrk.rd hg
        have HRD := Lib.hid hrd
        obtain ⟨y, hy⟩ : ∃ y, rowOk (N : Int) 184 false l = y := ⟨_, rfl⟩
        have HROW := Lib.hid (imrow_any wr (some ⟨w.heap.size, 0, none⟩) j l hrd (by omega) (N : Int) ⟨h184, h16⟩ y hy)
        rw [hll] at HROW
        have HB := Lib.hid hb
        have hres := HRES.out
        rw [hbk] at hres
        unfold rowG at hres
        dsimp only at hres
        rw [hy] at hres
        have HR3 := Lib.hid hres
        clear hres
        have HLL := Lib.hid hll
        clear hrd hy hb hbk hrk hg hsz hz hll
        cases y with
        | false =>
          go_wp2_with fail
          refine HROW.out.mono ?_
          rintro e w3 ⟨rfl, hb3⟩
          have HF := Lib.hid (HB.out.trans (hb3.mono HB.out.size))
          clear hb3
          go_wp2
          go_ret2
          have e : r = (3, []) := by rw [← HR3.out]; rfl
          exact ⟨none, by rw [e]; rfl, by rw [e]; exact fun h => absurd h (by simp), HF.out⟩
        | true =>
          go_wp2_with fail
          refine HROW.out.mono ?_
          rintro e w3 ⟨rfl, hb3⟩
          have HF := Lib.hid (HB.out.trans (hb3.mono HB.out.size))
          have HRF := Lib.hid ((HRD.out.below hb3).more hb3.size)
          clear hb3
          go_wp2
          go_ret2
          have e : r = (0, l) := by rw [← HR3.out]; rfl
          exact ⟨some ⟨w.heap.size, 0, none⟩, by rw [e]; unfold blkV; rw [if_pos rfl]; dsimp only; rw [HLL.out]; rfl, by rw [e]; exact HRF.out, HF.out⟩
end Go.Proofs.Ytlhahibdddcpfaa
