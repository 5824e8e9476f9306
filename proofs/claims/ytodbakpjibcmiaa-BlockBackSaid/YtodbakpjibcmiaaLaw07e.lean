/- The walk of BlockBack. -/
import Derived.Test.YtodbakpjibcmiaaLaw07c
import Derived.Test.YtodbakpjibcmiaaOpenB
import Derived.Test.YtodbakpjibcmiaaFork
namespace Go.Proofs.Ytodbakpjibcmiaa
open Go.RowKit

theorem Boo.keep {w w' : World} {A : Option Addr} {kb : List Bool} (h : Boo w A kb) (hb : Below w.heap.size w w') : 0 < kb.length → ∃ b o, A = some ⟨b, o, none⟩ ∧ b < w.heap.size ∧ ∀ j u, kb[j]? = some u → w'.cell? ⟨b, o + j, none⟩ = some (.bool u) := fun hn => by
  obtain ⟨b, o, e, hlt, hc⟩ := h hn
  exact ⟨b, o, e, hlt, fun j u hu => (hb.cell (p := ⟨b, _, none⟩) hlt).trans (hc j u hu)⟩

theorem setAll_length : ∀ (l : List Bk) (bs : List UInt8), (∀ x ∈ l, isSz (x.size : Int) = true ∧ x.off + x.size ≤ bs.length) → (setAll bs l).length = bs.length
  | [], _, _ => rfl
  | x :: r, bs, h => by
    have h1 := h x (List.mem_cons_self ..)
    have e := setT_length (bs := bs) h1.1 h1.2
    show (setAll (setT bs x) r).length = _
    rw [setAll_length r _ (fun y hy => by rw [e]; exact h y (List.mem_cons_of_mem _ hy)), e]

set_option maxRecDepth 100000 in
set_option maxHeartbeats 8000000 in
theorem bb_main (HG : GetC) (HA : AheadC) (HS : SetC) (HW : WalkC) (w : World) (n : Nat) (hn : n < 18446744073709551616) (A1 : Option Addr) (k1 : Nat) (ls : List Int) (hI : IRd w w.heap.size A1 ls) (hls : ls.length ≤ 60) (A2 : Option Addr) (k2 : Nat) (us : List Bool) (hU : Boo w A2 us) (u : UInt8) :
    Calls Try.prog 4 #[.int .u64 (n : Int), .slice A1 ls.length k1, .slice A2 us.length k2, .int .u8 (u.toNat : Int)] w fun e w' => e = .returned (.bool true) ∧ Below w.heap.size w w' := by
  obtain ⟨sl, hsl⟩ : ∃ sl, ls.length = sl := ⟨_, rfl⟩
  obtain ⟨ul, hul⟩ : ∃ ul, us.length = ul := ⟨_, rfl⟩
  rw [hsl, hul]
  rw [hsl] at hls
  have s0 : decide ((60 : Int) < (sl : Int)) = false := decide_eq_false (by omega)
  obtain ⟨i0, hi, hz0, hz1, hz2⟩ := info_parts bk_inf
  obtain ⟨base, hbase⟩ : ∃ base, n % 288230376151711744 * 16 = base := ⟨_, rfl⟩
  have hb1 : base % 16 = 0 := by omega
  have hb2 : base ≤ 4611686018427387904 := by omega
  have HBase := Lib.hid (fun W => lawbase_any W n hn)
  rw [hbase] at HBase
  obtain ⟨B0, hB0⟩ : ∃ B0, w.heap.size = B0 := ⟨_, rfl⟩
  have HB0 := Lib.hid hB0
  have HSL := Lib.hid hsl
  have HUL := Lib.hid hul
  have HI := Lib.hid hI
  have HU := Lib.hid hU
  have HBB := Lib.hid (And.intro hb1 hb2)
  have HLS := Lib.hid hls
  have HG := Lib.hid HG
  have HA := Lib.hid HA
  have HS := Lib.hid HS
  have HW := Lib.hid HW
  have HUP := Lib.hid (up7_any HG.out HA.out HS.out HW.out)
  clear hsl hul hI hU hbase hb1 hb2 hB0 hn
  go_enter Try.func4, Try.ntmps4
  go_wp2_with fail
  refine (HUP.out _).mono ?_
  rintro e w1 ⟨rfl, hb⟩
  have HB1 : Hid (Below B0 w w1) := by rw [← HB0.out]; exact hb
  clear HUP hb
  go_wp2

  go_loopw [10, 11, 12] (fun q t i wr => ∃ (j : Nat) (l : List Bk) (p : Nat), i = .int .i64 (j : Int) ∧ t = .int .i64 (p : Int) ∧ j ≤ sl ∧ l.length = j ∧ tile 184 l p ∧ p ≤ 184 + 208 * j ∧ wr.ownsRow B0 25 3 q j (flatK l) ∧ Below B0 w wr) (fun _ _ i _ => sl - (intOf i).toNat)
  case atStart => exact ⟨0, [], 184, rfl, rfl, Nat.zero_le _, rfl, rfl, Nat.le_refl _, World.ownsRow_nil _ _ _ _, HB1.out⟩
  case round =>
    obtain ⟨j, l, p, rfl, rfl, hj, hlj, htl, hp, hown, hb⟩ := hrel
    obtain ⟨A7, c7, rfl⟩ := own_sl hown
    have hBw : B0 ≤ wr.heap.size := by have := hb.size; have := HB0.out; omega
    by_cases hlt : j < sl
    · obtain ⟨z, hz⟩ : ∃ z, ls[j]? = some z := ⟨ls[j]'(by rw [HSL.out]; exact hlt), List.getElem?_eq_getElem _⟩
      obtain ⟨b1, o1, rfl, _, hc1⟩ := (HI.out.below (by rw [HB0.out]; exact hb)) (by rw [HSL.out]; omega)
      have q1 := hc1 j z hz
      have hji : (j : Int) < (sl : Int) := by omega
      obtain ⟨pk, hpk⟩ : ∃ pk, (z % ((12 : Nat) : Int)).toNat = pk := ⟨_, rfl⟩
      have hpk1 : pk < 12 := by have := Int.emod_nonneg z (b := ((12 : Nat) : Int)) (by omega); have := Int.emod_lt_of_pos z (b := ((12 : Nat) : Int)) (by omega); omega
      have HPK : Hid (∀ W, Calls Try.prog 19 #[.int .i64 z, .int .i64 12] W fun e w' => e = .returned (.int .i64 (pk : Int)) ∧ W = w') := fun W => lpick_any z 12 W (by omega) (by omega) pk hpk
      obtain ⟨s, hs⟩ : ∃ s, 32 + 16 * pk = s := ⟨_, rfl⟩
      have hs1 : 32 + 16 * (pk : Int) = (s : Int) := by omega
      have hsz : isSz (s : Int) = true := by rw [isSz_iff]; omega
      have hs2 : s ≤ 208 := by omega
      have htl' : ∀ u, tile 184 (l ++ [⟨p, s, u⟩]) (p + s) := fun u => tile_snoc l 184 p ⟨p, s, u⟩ htl rfl hsz
      have HTL := Lib.hid htl'
      have HS1 := Lib.hid hs1
      have HB := Lib.hid hb
      have HOWN := Lib.hid hown
      have HALT : Hid (∀ k, (Value.slice A7 j c7).ownBlock = some k → B0 ≤ k ∧ k < wr.heap.size) := hown.lt
      have HFL : Hid (∀ u, flatK (l ++ [⟨p, s, u⟩]) = flatK l ++ [.int .i64 (p : Int), .int .i64 (s : Int), .bool u]) := fun u => flatK_append _ _
      have HLJ := Lib.hid hlj
      clear hc1 hz hpk hs htl htl' hsz hb hown hlj
      go_wp2_with fail
      refine (HPK.out _).mono ?_
      rintro e w2 ⟨rfl, rfl⟩
      clear q1 HPK
      -- is it used?
      have hgo : ∀ u : Bool, Hid (∀ (w4 : World), wr.alloc (.cells #[.int .i64 (p : Int), .int .i64 (s : Int), .bool u] 25) = w4 → (∀ j' x, [Value.int .i64 (p : Int), .int .i64 (s : Int), .bool u][j']? = some x → w4.cell? ((⟨wr.heap.size, 0, none⟩ : Addr).add j') = some x) ∧ B0 ≤ w4.heap.size ∧ w4.ownsRow B0 25 3 (.slice A7 j c7) j (flatK l) ∧ Below B0 w w4) := fun u w4 hw4 => by
        have b4 : Below wr.heap.size wr w4 := by rw [← hw4]; exact (Below.refl _ _).alloc (Nat.le_refl _) _
        have n4 : w4.heap[wr.heap.size]? = some (.cells #[.int .i64 (p : Int), .int .i64 (s : Int), .bool u] 25 (0, 0)) := by rw [← hw4]; exact heap_alloc_new wr _
        refine ⟨fun j' x hx => ?_, Nat.le_trans hBw b4.size, own_below' HOWN.out b4, HB.out.trans (b4.mono hBw)⟩
        have e : (⟨wr.heap.size, 0, none⟩ : Addr).add j' = ⟨wr.heap.size, j', none⟩ := by unfold Addr.add; split <;> simp_all
        rw [e, cell_of_row w4 _ j' _ _ (0, 0) n4]
        simpa using hx
      have HONE : ∀ u : Bool, Hid (∀ x ∈ [Value.int .i64 (p : Int), .int .i64 (s : Int), .bool u], x.oneCell' = true) := fun u x hx => by
        simp at hx
        rcases hx with rfl | rfl | rfl <;> rfl
      by_cases huj : j < ul
      · obtain ⟨ub, hub⟩ : ∃ ub, us[j]? = some ub := ⟨us[j]'(by rw [HUL.out]; exact huj), List.getElem?_eq_getElem _⟩
        obtain ⟨b2, o2, rfl, _, hc2⟩ := (HU.out.keep (by rw [HB0.out]; exact HB.out)) (by rw [HUL.out]; omega)
        have q2 := hc2 j ub hub
        have q2' : ∀ o : Obj, (wr.alloc o).cell? ⟨b2, o2 + j, none⟩ = some (.bool ub) := fun o => (((Below.refl wr.heap.size wr).alloc (Nat.le_refl _) o).cell (p := ⟨b2, o2 + j, none⟩) (cell_lt q2)).trans q2
        have huj2 : (j : Int) < (ul : Int) := by omega
        have g1 : decide ((j : Int) < (ul : Int)) = true := decide_eq_true (by omega)
        have g2 : decide (j < ul) = true := decide_eq_true huj
        clear hc2 hub
        obtain ⟨w4, hw4⟩ : ∃ w4, wr.alloc (.cells #[.int .i64 (p : Int), .int .i64 (s : Int), .bool ub] 25) = w4 := ⟨_, rfl⟩
        obtain ⟨hnew, hB4, own4, b4⟩ := (hgo ub).out w4 hw4
        have HN4 := Lib.hid hnew
        have HO1 := HONE ub
        have OWN4 := Lib.hid own4
        have HB4 := Lib.hid b4
        have HFU := Lib.hid (HFL.out ub)
        have HTU := Lib.hid (HTL.out ub)
        have HW4 := Lib.hid hw4
        clear hnew own4 b4 hw4 hgo HONE HFL HTL HOWN
        go_wp2_with (first
          | (rw [HW4.out])
          | (at_builtin; go_must (refine wpList_append_own _ rfl _ _ 36 rfl B0 25 i0 _ 3 24 Try.underlying36 hi hz0 hz1 hz2 rfl (by decide) _ j (flatK l) rfl OWN4.out ⟨wr.heap.size, 0, none⟩ 1 1 [.int .i64 (p : Int), .int .i64 (s : Int), .bool ub] rfl rfl HN4.out HO1.out (by unfold maxLen; omega) (by omega) hB4 ?_); intro x5 w5 own5 gr5 at5;
             have gr5' : w4.grownBy w5 (Value.slice A7 j c7).ownBlock := gr5; have HB5 : Hid (Below B0 w w5) := HB4.out.grown gr5' hB4 (fun k hk => (HALT.out k hk).1); have OWN5 : Hid (w5.ownsRow B0 25 3 x5 (j + 1) (flatK (l ++ [⟨p, s, ub⟩]))) := (show World.ownsRow _ _ _ _ _ _ _ by rw [HFU.out]; exact own5); clear own5 gr5 gr5' at5)
          | fail)
        go_roundw
        case rel => exact ⟨j + 1, l ++ [⟨p, s, ub⟩], p + s, by go_num, by go_num, by omega, by rw [List.length_append, List.length_singleton, HLJ.out], HTU.out, by omega, OWN5.out, HB5.out⟩
        case measure => simp only [intOf]; omega
      · have g1 : decide ((j : Int) < (ul : Int)) = false := decide_eq_false (by omega)
        have g2 : decide (j < ul) = false := decide_eq_false huj
        obtain ⟨w4, hw4⟩ : ∃ w4, wr.alloc (.cells #[.int .i64 (p : Int), .int .i64 (s : Int), .bool false] 25) = w4 := ⟨_, rfl⟩
        obtain ⟨hnew, hB4, own4, b4⟩ := (hgo false).out w4 hw4
        have HN4 := Lib.hid hnew
        have HO1 := HONE false
        have OWN4 := Lib.hid own4
        have HB4 := Lib.hid b4
        have HFU := Lib.hid (HFL.out false)
        have HTU := Lib.hid (HTL.out false)
        have HW4 := Lib.hid hw4
        clear hnew own4 b4 hw4 hgo HONE HFL HTL HOWN
        go_wp2_with (first
          | (rw [HW4.out])
          | (at_builtin; go_must (refine wpList_append_own _ rfl _ _ 36 rfl B0 25 i0 _ 3 24 Try.underlying36 hi hz0 hz1 hz2 rfl (by decide) _ j (flatK l) rfl OWN4.out ⟨wr.heap.size, 0, none⟩ 1 1 [.int .i64 (p : Int), .int .i64 (s : Int), .bool false] rfl rfl HN4.out HO1.out (by unfold maxLen; omega) (by omega) hB4 ?_); intro x5 w5 own5 gr5 at5;
             have gr5' : w4.grownBy w5 (Value.slice A7 j c7).ownBlock := gr5; have HB5 : Hid (Below B0 w w5) := HB4.out.grown gr5' hB4 (fun k hk => (HALT.out k hk).1); have OWN5 : Hid (w5.ownsRow B0 25 3 x5 (j + 1) (flatK (l ++ [⟨p, s, false⟩]))) := (show World.ownsRow _ _ _ _ _ _ _ by rw [HFU.out]; exact own5); clear own5 gr5 gr5' at5)
          | fail)
        go_roundw
        case rel => exact ⟨j + 1, l ++ [⟨p, s, false⟩], p + s, by go_num, by go_num, by omega, by rw [List.length_append, List.length_singleton, HLJ.out], HTU.out, by omega, OWN5.out, HB5.out⟩
        case measure => simp only [intOf]; omega
    · obtain rfl : sl = j := by omega
      have hp184 := (tile_mem l 184 p htl).1
      obtain ⟨z, hz⟩ : ∃ z, List.replicate p (0 : UInt8) = z := ⟨_, rfl⟩
      have hzl : z.length = p := by rw [← hz]; exact List.length_replicate
      have HMK : ∀ W : World, (Instr.makeSlice 23 (.int .i64 (p : Int)) (.int .i64 (p : Int))).run Try.prog W = .ok (.slice (some ⟨W.heap.size, 0, none⟩) p p) (W.alloc (.cells (rowB z) 5)) := run_mk0 p (by have := HLS.out; omega) z hz
      obtain ⟨wf, hwf⟩ : ∃ wf, wr.alloc (.cells (rowB z) 5) = wf := ⟨_, rfl⟩
      obtain ⟨gb, hgb⟩ : ∃ gb, wr.heap.size = gb := ⟨_, rfl⟩
      have f1 : Fill wf gb 5 z := by rw [← hwf, ← hgb]; exact Fill.made wr _ _
      have b1 : Below gb wr wf := by rw [← hwf, ← hgb]; exact (Below.refl _ _).alloc (Nat.le_refl _) _
      have HF1 := Lib.hid f1
      have HBF := Lib.hid b1
      have HWF := Lib.hid hwf
      have HGB := Lib.hid hgb
      have HZL := Lib.hid hzl
      have HTL := Lib.hid htl
      have HP := Lib.hid (And.intro hp184 hp)
      have HOWN := Lib.hid hown
      have HB := Lib.hid hb
      have HLJ := Lib.hid hlj
      clear hz f1 b1 hwf hgb hzl htl hp184 hp hown hb hlj hj hBw hlt
      go_wp2
      rw [HWF.out, HGB.out]
      clear HWF HMK
      generalize wr = w2 at *
      have hp9 : p ≤ 14000 := by have := HP.out; have := HLS.out; omega
      go_loopw [15] (fun i w3 => ∃ (k : Nat) (cs : List UInt8), i = .int .i64 (k : Int) ∧ k ≤ p ∧ cs.length = p ∧ Fill w3 gb 5 cs ∧ Below gb w2 w3) (fun i _ => p - (intOf i).toNat)
      case atStart => exact ⟨0, z, rfl, Nat.zero_le _, HZL.out, HF1.out, HBF.out⟩
      case round =>
        obtain ⟨k, cs, rfl, hk, hcs, hf, hbf⟩ := hrel
        by_cases hkp : k < p
        · have hkp2 : (k : Int) < (p : Int) := by omega
          obtain ⟨y, q1⟩ : ∃ y, wr.cell? ⟨gb, k, none⟩ = some y := ⟨_, by rw [hf.cell k, List.getElem?_eq_getElem (by omega)]; rfl⟩
          have q2 := hf.thaw k
          have HF2 : Hid (Fill (wr.setCell ⟨gb, k, none⟩ (.int .u8 (u.toNat : Int))) gb 5 (cs.set k u)) := hf.put k u
          have HBF2 := Lib.hid (hbf.setCell (p := ⟨gb, k, none⟩) (Nat.le_refl _) (.int .u8 (u.toNat : Int)))
          have HCS : Hid ((cs.set k u).length = p) := (show _ = _ by rw [List.length_set]; exact hcs)
          clear hf hbf hcs
          go_wp2
          go_roundw
          case rel => exact ⟨k + 1, cs.set k u, by go_num, by omega, HCS.out, HF2.out, HBF2.out⟩
          case measure => simp only [intOf]; omega
        · obtain rfl : p = k := by omega
          have hw2 : B0 ≤ gb := by have := HB.out.size; have := HB0.out; have := HGB.out; omega
          have own3 := own_below' HOWN.out (w' := wr) (by rw [HGB.out]; exact hbf)
          have hbk := own_bks own3 HLJ.out.symm
          have hr3 := hf.reads
          have HK3 := Lib.hid (HB.out.trans (hbf.mono hw2))
          have HBK := Lib.hid hbk
          have HR3 := Lib.hid hr3
          have HCS := Lib.hid hcs
          have HP' := HP.out
          clear hf hbf hcs hw2 own3 hbk hr3 HF1 HBF HZL HOWN HB hk
          go_wp2_with fail
          refine (HBase.out wr).mono ?_
          rintro e w4 ⟨rfl, rfl⟩
          go_wp2_with fail
          have hma := arena_any wr base 16384 (some ⟨gb, 0, none⟩) p cs HR3.out HBB.out.1 HBB.out.2 (by omega) (by omega) (by rw [HCS.out]; have := HLS.out; omega)
          rw [HCS.out] at hma
          refine hma.mono ?_
          clear hma
          rintro e w4 hmade
          obtain ⟨g, A, c, rfl, hst⟩ := St.made hmade
          have HST := Lib.hid hst
          clear hmade hst HBase HR3
          generalize wr = wb at *
          go_wp2
          go_loopw [17] (fun i wr => ∃ (j : Nat) (A : Option Addr) (c : Nat), i = .int .i64 (j : Int) ∧ j ≤ sl ∧ St wb wr g base 16384 A c (setAll cs (l.take j)) []) (fun i _ => sl - (intOf i).toNat)
          case atStart => exact ⟨0, A, c, rfl, Nat.zero_le _, HST.out⟩
          case round =>
            obtain ⟨j, A, c, rfl, hj, hst⟩ := hrel
            by_cases hlt : j < sl
            · obtain ⟨x, hx⟩ : ∃ x, l[j]? = some x := ⟨l[j]'(by rw [HLJ.out]; exact hlt), List.getElem?_eq_getElem _⟩
              obtain ⟨b, o, rfl, _, hc⟩ := (HBK.out.below hst.bel) (by rw [HLJ.out]; omega)
              obtain ⟨p0, p1, p2⟩ := hc j x hx
              have hji : (j : Int) < (sl : Int) := by omega
              have hm := (tile_mem l 184 p HTL.out).2 x (List.mem_of_getElem? hx)
              have hm' := (isSz_iff _).1 hm.2.2.1
              have hlen : (setAll cs (l.take j)).length = p := (setAll_length _ cs (fun y hy => by have := (tile_mem l 184 p HTL.out).2 y (List.mem_of_mem_take hy); rw [HCS.out]; exact ⟨this.2.2.1, this.2.1⟩)).trans HCS.out
              have hset := setB_of (setAll cs (l.take j)) x (by omega) (by omega) (by rw [hlen]; exact hm.2.1) hm.2.2.1
              have hnx : setAll cs (l.take (j + 1)) = setT (setAll cs (l.take j)) x := by
                unfold setAll
                rw [List.take_add_one, hx, List.foldl_append]
                rfl
              have HSet := Lib.hid (HS.out wr g base 16384 c A _ (x.off : Int) (x.size : Int) x.used _ hst.ar HBB.out.2 (by rw [hlen]; have := HLS.out; omega) (by have := HLS.out; omega) (by have := HLS.out; omega) hset)
              have HST2 := Lib.hid hst
              have HNX := Lib.hid hnx
              clear hc hx hst hm hm' hlen hset hnx
              go_wp2_with fail
              refine HSet.out.mono ?_
              rintro e w5 ⟨rfl, hbe⟩
              obtain ⟨A5, c5, hst5⟩ := HST2.out.became hbe
              rw [← HNX.out] at hst5
              have HST5 := Lib.hid hst5
              clear hbe hst5 HST2 HSet p0 p1 p2
              dsimp only [errV]
              go_wp2
              go_roundw
              case rel => exact ⟨j + 1, A5, c5, by go_num, by omega, HST5.out⟩
              case measure => simp only [intOf]; omega
            · obtain rfl : sl = j := by omega
              obtain ⟨out, hout⟩ : ∃ out, setAll cs l = out := ⟨_, rfl⟩
              rw [List.take_of_length_le (Nat.le_of_eq HLJ.out), hout] at hst
              obtain ⟨a1, a2, _, _⟩ := setAll_spec l cs 184 p (Nat.le_refl _) (by omega) HTL.out (by rw [HCS.out]; exact Nat.le_refl _)
              rw [hout, HCS.out] at a1
              rw [hout] at a2
              have hwk := walkB_tile (bs := out) (l := l) (by rw [a1]; exact HTL.out) a2
              have HWk := Lib.hid (HW.out wr g base 16384 c A out _ hst.ar HBB.out.2 (by rw [a1]; omega) hwk)
              have HST3 := Lib.hid hst
              have HOL := Lib.hid a1
              have HGET := Lib.hid a2
              clear hout hst a1 a2 hwk hj hlt HST
              go_wp2_with fail
              refine HWk.out.mono ?_
              rintro e w6 ⟨A6, c6, rfl, hown, hb⟩
              dsimp only [Option.getD, Option.isSome, errV] at hown ⊢
              have hst6 := HST3.out.below hb
              have hsame := blocks_same w6 A6 A7 c6 c7 l (own_bks hown rfl) ((HBK.out.below hst6.bel).more hst6.size) (by rw [HLJ.out]; have := HLS.out; omega)
              rw [HLJ.out] at hsame
              have HSM := Lib.hid hsame
              have HST6 := Lib.hid hst6
              clear hown hb hst6 hsame HST3 HWk
              rw [HLJ.out]
              go_wp2_with fail
              refine HSM.out.mono ?_
              rintro e w7 ⟨rfl, hb⟩
              have HST7 := Lib.hid (HST6.out.below hb)
              clear hb HST6 HSM
              generalize hcA : c = c0 at *
              go_wp2
              go_loopw [20] (fun i wr => ∃ j : Nat, i = .int .i64 (j : Int) ∧ j ≤ sl ∧ St wb wr g base 16384 A c0 out []) (fun i _ => sl - (intOf i).toNat)
              case atStart => exact ⟨0, rfl, Nat.zero_le _, HST7.out⟩
              case round =>
                obtain ⟨j, rfl, hj, hst⟩ := hrel
                by_cases hlt : j < sl
                · obtain ⟨x, hx⟩ : ∃ x, l[j]? = some x := ⟨l[j]'(by rw [HLJ.out]; exact hlt), List.getElem?_eq_getElem _⟩
                  have hbk9 := HBK.out.below hst.bel
                  obtain ⟨b, o, rfl, hbb, hc⟩ := HBK.out (by rw [HLJ.out]; omega)
                  obtain ⟨s0, s1, s2⟩ := hc j x hx
                  have k0 : ∀ W, Below wb.heap.size wb W → W.cell? ⟨b, o + j * 3, none⟩ = some (.int .i64 (x.off : Int)) ∧ W.cell? ⟨b, o + j * 3 + 1, none⟩ = some (.int .i64 (x.size : Int)) ∧ W.cell? ⟨b, o + j * 3 + 2, none⟩ = some (.bool x.used) := fun W h => ⟨(h.cell (p := ⟨b, _, none⟩) hbb).trans s0, (h.cell (p := ⟨b, _, none⟩) hbb).trans s1, (h.cell (p := ⟨b, _, none⟩) hbb).trans s2⟩
                  obtain ⟨p0, p1, p2⟩ := k0 wr hst.bel
                  have hji : (j : Int) < (sl : Int) := by omega
                  have hm := (tile_mem l 184 p HTL.out).2 x (List.mem_of_getElem? hx)
                  have hg := HGET.out x (List.mem_of_getElem? hx)
                  have ha := aheadB_of hg
                  have hGt := Lib.hid (HG.out wr g base 16384 c0 A out (x.off : Int) _ hst.ar HBB.out.2 (by rw [HOL.out]; omega) (by omega) hg)
                  have HST := Lib.hid hst
                  have K0 := Lib.hid k0
                  have HAH := Lib.hid ha
                  have hxe := hm.2.1
                  obtain ⟨xo, xs, xu⟩ := x
                  dsimp only at p0 p1 p2 hGt K0 HAH hxe
                  have hxe2 : (xo : Int) + (xs : Int) ≤ 14000 := by omega
                  clear hbk9 hbb hc hx s0 s1 s2 k0 hm hg ha hst
                  go_wp2_with fail
                  refine hGt.out.mono ?_
                  rintro e w9 ⟨rfl, hb⟩
                  have HST9 := Lib.hid (HST.out.below hb)
                  clear hb HST hGt p0 p1 p2
                  dsimp only [errV, bkV, Bk.val, Option.isSome]
                  obtain ⟨wa, hwa⟩ : ∃ wa, (w9.alloc (.cells #[.int .i64 (xo : Int), .int .i64 (xs : Int), .bool xu] 25)).drew = wa := ⟨_, rfl⟩
                  have hsta := (HST9.out.alloc (.cells #[.int .i64 (xo : Int), .int .i64 (xs : Int), .bool xu] 25)).below (Below.refl _ _).drew
                  rw [hwa] at hsta
                  have HSTA := Lib.hid hsta
                  have HWA := Lib.hid hwa
                  clear HST9 hsta hwa
                  go_wp2_with fail
                  refine wp_region_fork wa.heap.size [0, 1, 2, 3, 4, 5, 6, 7, 8, 9, 10, 11] 12 16 [([13, 14, 15], 16), ([], 17)] [([], 12), ([13, 14, 15], 17)] [] [] [18] (by kernel_rfl) (by kernel_rfl) (by kernel_rfl) (fun _ _ _ _ _ h => h) ?_
                  rw [HWA.out]
                  generalize w9.heap.size = g9 at *
                  have t0 : ∀ z : LaterB wa.heap.size wa, z.val.cell? ⟨b, o + j * 3, none⟩ = some (.int .i64 (xo : Int)) := fun z => (K0.out z.val (HSTA.out.bel.trans (z.ext.mono HSTA.out.size))).1
                  have t1 : ∀ z : LaterB wa.heap.size wa, z.val.cell? ⟨b, o + j * 3 + 1, none⟩ = some (.int .i64 (xs : Int)) := fun z => (K0.out z.val (HSTA.out.bel.trans (z.ext.mono HSTA.out.size))).2.1
                  refine pick_quiet (l := ?seg1) ?hseg1 ?_
                  case hseg1 => simp only [pick, List.getElem?_toArray, List.getElem?_cons_succ, List.getElem?_cons_zero]; rfl
                  repeat (go_big_quiet_step (fail))
                  refine wpQuiet_nil ?_
                  clear t0 t1
                  refine ⟨?_, ?_⟩
                  · refine tail_call2 (vs := #[.pointer (some ⟨g, 0, none⟩), .int .i64 ((xo : Int) + (xs : Int))]) Try.call10 rfl rfl rfl (R := fun r w' => r = .tuple #[.agg #[.int .i64 (xo : Int), .int .i64 (xs : Int), .bool xu], .nilIface] ∧ Below wa.heap.size wa w') ((HA.out wa g base 16384 c0 A out _ _ HSTA.out.ar HBB.out.2 (by rw [HOL.out]; omega) (by omega) HAH.out).mono ?_) ?_
                    · rintro e w' ⟨rfl, hb⟩
                      exact ⟨_, rfl, hb, rfl, hb⟩
                    rintro r w11 _ ⟨rfl, b11⟩
                    refine ⟨w11.heap.size, b11.size, ?_⟩
                    have HST11 := Lib.hid (HSTA.out.below b11)
                    have HLE := Lib.hid b11.size
                    clear b11 HSTA HWA
                    refine tail_cons (l := ?segA) ?hsegA ?_
                    case hsegA => simp only [pick, List.getElem?_toArray, List.getElem?_cons_succ, List.getElem?_cons_zero]; rfl
                    simp only [Act.put, List.setIfInBounds_toArray, List.set_cons_zero, List.set_cons_succ]
                    repeat (go_big_quiet_step (fail))
                    refine wpQuiet_nil ?_
                    obtain ⟨w12, hw12⟩ : ∃ w12, w11.alloc (.cells #[.int .i64 0, .int .i64 0, .bool false] 25) = w12 := ⟨_, rfl⟩
                    have b12 : Below w11.heap.size w11 w12 := by rw [← hw12]; exact (Below.refl _ _).alloc (Nat.le_refl _) _
                    have n12 : w12.heap[w11.heap.size]? = some (.cells #[.int .i64 0, .int .i64 0, .bool false] 25 (0, 0)) := by rw [← hw12]; exact heap_alloc_new w11 _
                    refine tail_val2 (some 23) (w1 := w12) (v := .pointer (some ⟨w11.heap.size, 0, none⟩)) rfl rfl rfl (by rw [← hw12]; exact alloc_blk _ _ rfl _) b12 ⟨w11.heap.size, Nat.le_refl _, ?_⟩
                    have hp3 := (HST11.out.below b12).put3 n12 (St.nofoot HST11.out (Nat.le_refl _)) HST11.out.size ((b12.block g9 (heap_lt (HST11.out.obj (.head _)))).trans (HST11.out.obj (.head _))) (Nat.ne_of_lt (heap_lt (HST11.out.obj (.head _)))) (.int .i64 (xo : Int)) (.int .i64 (xs : Int)) (.bool xu)
                    have HP3 := Lib.hid hp3
                    generalize w11.heap.size = g11 at *
                    clear hp3 hw12 b12 HST11 HLE
                    refine tail_cons (l := ?segC) ?hsegC ?_
                    case hsegC => rfl
                    simp only [Act.put, List.setIfInBounds_toArray, List.set_cons_zero, List.set_cons_succ]
                    refine wpQuiet_nil ?_
                    refine tail_skip rfl rfl rfl (store_blk _ _ (.tmp 23) (.tmp 135) rfl w12 g11 (xo : Int) (xs : Int) xu _ _ _ rfl rfl n12) (((Below.refl g11 w12).setCell (p := ⟨g11, 0, none⟩) (Nat.le_refl _) _).setCell (p := ⟨g11, 1, none⟩) (Nat.le_refl _) _ |>.setCell (p := ⟨g11, 2, none⟩) (Nat.le_refl _) _) ⟨g11, Nat.le_refl _, ?_⟩
                    generalize ((w12.setCell ⟨g11, 0, none⟩ (.int .i64 (xo : Int))).setCell ⟨g11, 1, none⟩ (.int .i64 (xs : Int))).setCell ⟨g11, 2, none⟩ (.bool xu) = w13 at *
                    clear n12
                    refine tail_last (l := ?la3) (t := ?tl3) ?hla3 ?htl3 ?_
                    case hla3 => rfl
                    case htl3 => simp only [pick, List.getElem?_toArray, List.getElem?_cons_succ, List.getElem?_cons_zero]; rfl
                    refine wpQuiet_nil ?_
                    obtain ⟨wd, hwd⟩ : ∃ wd, w13.drew = wd := ⟨_, rfl⟩
                    have hstd := HP3.out.below (Below.refl _ _).drew
                    rw [hwd] at hstd
                    obtain ⟨x0, x1, x2⟩ := up7_ (hstd.obj (.head _))
                    obtain ⟨y0, y1, y2⟩ := up7_ (hstd.obj (.tail _ (.head _)))
                    obtain ⟨p0, p1, p2⟩ := K0.out wd hstd.bel
                    have HSTD := Lib.hid hstd
                    have HWD := Lib.hid hwd
                    clear hstd hwd HP3
                    have hlt9 := heap_lt (HSTD.out.obj (.tail _ (.head _)))
                    have hlt11 := heap_lt (HSTD.out.obj (.head _))
                    go_wp2_with fail
                    refine wp_region_tail wd.heap.size [] [0, 1, 2, 3, 4, 5, 6, 7, 8, 9, 10, 11, 12, 13, 14, 15, 16, 17, 18, 19, 20, 21] [] (by kernel_rfl) (by kernel_rfl) (by kernel_rfl) (fun _ _ _ _ _ h => h) ?_
                    rw [HWD.out]
                    have X0 : ∀ z : LaterB wd.heap.size wd, z.val.cell? ⟨g11, 0, none⟩ = some (.int .i64 (xo : Int)) := fun z => (z.ext.cell (p := ⟨g11, 0, none⟩) hlt11).trans x0
                    have X1 : ∀ z : LaterB wd.heap.size wd, z.val.cell? ⟨g11, 1, none⟩ = some (.int .i64 (xs : Int)) := fun z => (z.ext.cell (p := ⟨g11, 1, none⟩) hlt11).trans x1
                    have X2 : ∀ z : LaterB wd.heap.size wd, z.val.cell? ⟨g11, 2, none⟩ = some (.bool xu) := fun z => (z.ext.cell (p := ⟨g11, 2, none⟩) hlt11).trans x2
                    have Y0 : ∀ z : LaterB wd.heap.size wd, z.val.cell? ⟨g9, 0, none⟩ = some (.int .i64 (xo : Int)) := fun z => (z.ext.cell (p := ⟨g9, 0, none⟩) hlt9).trans y0
                    have Y1 : ∀ z : LaterB wd.heap.size wd, z.val.cell? ⟨g9, 1, none⟩ = some (.int .i64 (xs : Int)) := fun z => (z.ext.cell (p := ⟨g9, 1, none⟩) hlt9).trans y1
                    have Y2 : ∀ z : LaterB wd.heap.size wd, z.val.cell? ⟨g9, 2, none⟩ = some (.bool xu) := fun z => (z.ext.cell (p := ⟨g9, 2, none⟩) hlt9).trans y2
                    have Z : ∀ z : LaterB wd.heap.size wd, z.val.cell? ⟨b, o + j * 3, none⟩ = some (.int .i64 (xo : Int)) ∧ z.val.cell? ⟨b, o + j * 3 + 1, none⟩ = some (.int .i64 (xs : Int)) ∧ z.val.cell? ⟨b, o + j * 3 + 2, none⟩ = some (.bool xu) := fun z => K0.out z.val (HSTD.out.bel.trans (z.ext.mono HSTD.out.size))
                    have Z0 := fun z => (Z z).1
                    have Z1 := fun z => (Z z).2.1
                    have Z2 := fun z => (Z z).2.2
                    refine tail_last (l := ?laE) (t := []) ?hlaE ?htlE ?_
                    case hlaE => simp only [pick, List.getElem?_toArray, List.getElem?_cons_succ, List.getElem?_cons_zero]; rfl
                    case htlE => rfl
                    repeat (go_big_quiet_step (fail))
                    refine wpQuiet_nil ?_
                    clear X0 X1 X2 Y0 Y1 Y2 Z Z0 Z1 Z2 x0 x1 x2 y0 y1 y2 p0 p1 p2
                    go_wp2
                    go_roundw
                    case rel => exact ⟨j + 1, by go_num, by omega, ⟨HSTD.out.bel, HSTD.out.ar, HSTD.out.gB, HSTD.out.aB, fun p hp => by cases hp⟩⟩
                    case measure => simp only [intOf]; omega
                  · obtain ⟨w12, hw12⟩ : ∃ w12, wa.alloc (.cells #[.int .i64 0, .int .i64 0, .bool false] 25) = w12 := ⟨_, rfl⟩
                    have b12 : Below wa.heap.size wa w12 := by rw [← hw12]; exact (Below.refl _ _).alloc (Nat.le_refl _) _
                    have n12 : w12.heap[wa.heap.size]? = some (.cells #[.int .i64 0, .int .i64 0, .bool false] 25 (0, 0)) := by rw [← hw12]; exact heap_alloc_new wa _
                    refine tail_val2 (some 23) (w1 := w12) (v := .pointer (some ⟨wa.heap.size, 0, none⟩)) rfl rfl rfl (by rw [← hw12]; exact alloc_blk _ _ rfl _) b12 ⟨wa.heap.size, Nat.le_refl _, ?_⟩
                    have hst12 := HSTA.out.below b12
                    have HNF := Lib.hid (St.nofoot HSTA.out (Nat.le_refl _))
                    have HGB := Lib.hid HSTA.out.size
                    have HN12 := Lib.hid n12
                    have HNE := Lib.hid (Nat.ne_of_lt (heap_lt (HSTA.out.obj (.head _))))
                    have HST12 := Lib.hid hst12
                    generalize wa.heap.size = g11 at *
                    clear hw12 b12 n12 hst12 HSTA HWA
                    refine tail_cons (l := ?segB) ?hsegB ?_
                    case hsegB => rfl
                    simp only [Act.put, List.setIfInBounds_toArray, List.set_cons_zero, List.set_cons_succ]
                    refine wpQuiet_nil ?_
                    refine tail_call2 (vs := #[.pointer (some ⟨g, 0, none⟩), .int .i64 ((xo : Int) + (xs : Int))]) Try.call10 rfl rfl rfl (R := fun r w' => r = .tuple #[.agg #[.int .i64 (xo : Int), .int .i64 (xs : Int), .bool xu], .nilIface] ∧ Below w12.heap.size w12 w') ((HA.out w12 g base 16384 c0 A out _ _ HST12.out.ar HBB.out.2 (by rw [HOL.out]; omega) (by omega) HAH.out).mono ?_) ?_
                    · rintro e w' ⟨rfl, hb⟩
                      exact ⟨_, rfl, hb.mono (Nat.le_of_lt (heap_lt HN12.out)), rfl, hb⟩
                    rintro r w11 _ ⟨rfl, b11⟩
                    refine ⟨g11, Nat.le_refl _, ?_⟩
                    have n11 := (b11.block g11 (heap_lt HN12.out)).trans HN12.out
                    have hp3 := (HST12.out.below b11).put3 n11 HNF.out HGB.out ((b11.block g9 (heap_lt (HST12.out.obj (.head _)))).trans (HST12.out.obj (.head _))) HNE.out (.int .i64 (xo : Int)) (.int .i64 (xs : Int)) (.bool xu)
                    have HP3 := Lib.hid hp3
                    clear hp3 b11 HST12 HN12 HNF HGB HNE
                    refine tail_cons (l := ?segD) ?hsegD ?_
                    case hsegD => simp only [pick, List.getElem?_toArray, List.getElem?_cons_succ, List.getElem?_cons_zero]; rfl
                    simp only [Act.put, List.setIfInBounds_toArray, List.set_cons_zero, List.set_cons_succ]
                    repeat (go_big_quiet_step (fail))
                    refine wpQuiet_nil ?_
                    refine tail_skip rfl rfl rfl (store_blk _ _ (.tmp 23) (.tmp 135) rfl w11 g11 (xo : Int) (xs : Int) xu _ _ _ rfl rfl n11) (((Below.refl g11 w11).setCell (p := ⟨g11, 0, none⟩) (Nat.le_refl _) _).setCell (p := ⟨g11, 1, none⟩) (Nat.le_refl _) _ |>.setCell (p := ⟨g11, 2, none⟩) (Nat.le_refl _) _) ⟨g11, Nat.le_refl _, ?_⟩
                    generalize ((w11.setCell ⟨g11, 0, none⟩ (.int .i64 (xo : Int))).setCell ⟨g11, 1, none⟩ (.int .i64 (xs : Int))).setCell ⟨g11, 2, none⟩ (.bool xu) = w13 at *
                    clear n11
                    refine tail_last (l := ?laB) (t := ?tlB) ?hlaB ?htlB ?_
                    case hlaB => rfl
                    case htlB => simp only [pick, List.getElem?_toArray, List.getElem?_cons_succ, List.getElem?_cons_zero]; rfl
                    refine wpQuiet_nil ?_
                    obtain ⟨wd, hwd⟩ : ∃ wd, w13.drew = wd := ⟨_, rfl⟩
                    have hstd := HP3.out.below (Below.refl _ _).drew
                    rw [hwd] at hstd
                    obtain ⟨x0, x1, x2⟩ := up7_ (hstd.obj (.head _))
                    obtain ⟨y0, y1, y2⟩ := up7_ (hstd.obj (.tail _ (.head _)))
                    obtain ⟨p0, p1, p2⟩ := K0.out wd hstd.bel
                    have HSTD := Lib.hid hstd
                    have HWD := Lib.hid hwd
                    clear hstd hwd HP3
                    have hlt9 := heap_lt (HSTD.out.obj (.tail _ (.head _)))
                    have hlt11 := heap_lt (HSTD.out.obj (.head _))
                    go_wp2_with fail
                    refine wp_region_tail wd.heap.size [] [0, 1, 2, 3, 4, 5, 6, 7, 8, 9, 10, 11, 12, 13, 14, 15, 16, 17, 18, 19, 20, 21] [] (by kernel_rfl) (by kernel_rfl) (by kernel_rfl) (fun _ _ _ _ _ h => h) ?_
                    rw [HWD.out]
                    have X0 : ∀ z : LaterB wd.heap.size wd, z.val.cell? ⟨g11, 0, none⟩ = some (.int .i64 (xo : Int)) := fun z => (z.ext.cell (p := ⟨g11, 0, none⟩) hlt11).trans x0
                    have X1 : ∀ z : LaterB wd.heap.size wd, z.val.cell? ⟨g11, 1, none⟩ = some (.int .i64 (xs : Int)) := fun z => (z.ext.cell (p := ⟨g11, 1, none⟩) hlt11).trans x1
                    have X2 : ∀ z : LaterB wd.heap.size wd, z.val.cell? ⟨g11, 2, none⟩ = some (.bool xu) := fun z => (z.ext.cell (p := ⟨g11, 2, none⟩) hlt11).trans x2
                    have Y0 : ∀ z : LaterB wd.heap.size wd, z.val.cell? ⟨g9, 0, none⟩ = some (.int .i64 (xo : Int)) := fun z => (z.ext.cell (p := ⟨g9, 0, none⟩) hlt9).trans y0
                    have Y1 : ∀ z : LaterB wd.heap.size wd, z.val.cell? ⟨g9, 1, none⟩ = some (.int .i64 (xs : Int)) := fun z => (z.ext.cell (p := ⟨g9, 1, none⟩) hlt9).trans y1
                    have Y2 : ∀ z : LaterB wd.heap.size wd, z.val.cell? ⟨g9, 2, none⟩ = some (.bool xu) := fun z => (z.ext.cell (p := ⟨g9, 2, none⟩) hlt9).trans y2
                    have Z : ∀ z : LaterB wd.heap.size wd, z.val.cell? ⟨b, o + j * 3, none⟩ = some (.int .i64 (xo : Int)) ∧ z.val.cell? ⟨b, o + j * 3 + 1, none⟩ = some (.int .i64 (xs : Int)) ∧ z.val.cell? ⟨b, o + j * 3 + 2, none⟩ = some (.bool xu) := fun z => K0.out z.val (HSTD.out.bel.trans (z.ext.mono HSTD.out.size))
                    have Z0 := fun z => (Z z).1
                    have Z1 := fun z => (Z z).2.1
                    have Z2 := fun z => (Z z).2.2
                    refine tail_last (l := ?laF) (t := []) ?hlaF ?htlF ?_
                    case hlaF => simp only [pick, List.getElem?_toArray, List.getElem?_cons_succ, List.getElem?_cons_zero]; rfl
                    case htlF => rfl
                    repeat (go_big_quiet_step (fail))
                    refine wpQuiet_nil ?_
                    clear X0 X1 X2 Y0 Y1 Y2 Z Z0 Z1 Z2 x0 x1 x2 y0 y1 y2 p0 p1 p2
                    go_wp2
                    go_roundw
                    case rel => exact ⟨j + 1, by go_num, by omega, ⟨HSTD.out.bel, HSTD.out.ar, HSTD.out.gB, HSTD.out.aB, fun p hp => by cases hp⟩⟩
                    case measure => simp only [intOf]; omega
                · obtain rfl : sl = j := by omega
                  have HK := Lib.hid (HK3.out.trans (hst.bel.mono (by have := HB0.out; have := HK3.out.size; omega)))
                  clear hst
                  go_wp2
                  go_ret
                  exact ⟨rfl, by rw [HB0.out]; exact HK.out⟩

set_option maxRecDepth 100000 in
set_option maxHeartbeats 1000000 in
theorem bb_long (HG : GetC) (HA : AheadC) (HS : SetC) (HW : WalkC) (w : World) (n : Nat) (A1 : Option Addr) (k1 sl : Nat) (hl : 60 < sl) (A2 : Option Addr) (k2 ul : Nat) (x : Int) :
    Calls Try.prog 4 #[.int .u64 (n : Int), .slice A1 sl k1, .slice A2 ul k2, .int .u8 x] w fun e w' => e = .returned (.bool true) ∧ Below w.heap.size w w' := by
  have s0 : decide ((60 : Int) < (sl : Int)) = true := decide_eq_true (by omega)
  have HUP := Lib.hid (up7_any HG HA HS HW)
  clear HG HA HS HW
  go_enter Try.func4, Try.ntmps4
  go_wp2_with fail
  refine (HUP.out _).mono ?_
  rintro e w1 ⟨rfl, hb⟩
  have HK := Lib.hid hb
  clear hb
  go_wp2
  go_ret
  exact ⟨rfl, HK.out⟩

theorem bb_any (HG : GetC) (HA : AheadC) (HS : SetC) (HW : WalkC) (w : World) (n : Nat) (hn : n < 18446744073709551616) (A1 : Option Addr) (k1 : Nat) (ls : List Int) (hI : IRd w w.heap.size A1 ls) (A2 : Option Addr) (k2 : Nat) (us : List Bool) (hU : Boo w A2 us) (u : UInt8) :
    Calls Try.prog 4 #[.int .u64 (n : Int), .slice A1 ls.length k1, .slice A2 us.length k2, .int .u8 (u.toNat : Int)] w fun e w' => e = .returned (.bool true) ∧ Below w.heap.size w w' := by
  by_cases hl : 60 < ls.length
  · exact bb_long HG HA HS HW w n A1 k1 ls.length hl A2 k2 us.length _
  · exact bb_main HG HA HS HW w n hn A1 k1 ls hI (by omega) A2 k2 us hU u

end Go.Proofs.Ytodbakpjibcmiaa
