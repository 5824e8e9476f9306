/- Texts of mine, joined: Law11c. -/
import Derived.Laws.BitsAllLaws
import Derived.Test.YtcjjpffkmajehaaM8

/- The walk of CheckBuilt. -/
namespace Go.Proofs.Ytcjjpffkmajehaa
open Go.RowKit

theorem usedAt_snoc (l : List Bk) (x : Bk) (i : Nat) : usedAt (l ++ [x]) i = if i = l.length then x.used else usedAt l i := by
  unfold usedAt
  by_cases h : i < l.length
  · rw [List.getElem?_append_left h, if_neg (by omega)]
  · rw [List.getElem?_append_right (by omega)]
    by_cases e : i = l.length
    · rw [if_pos e, e, Nat.sub_self]; rfl
    · rw [if_neg e, List.getElem?_eq_none (by simp; omega), List.getElem?_eq_none (by omega)]
theorem noAdj_snoc (l : List Bk) (x : Bk) : noAdj (l ++ [x]) = (noAdj l && (l.length == 0 || (x.used || usedAt l (l.length - 1)))) := by
  unfold noAdj
  rw [List.length_append, List.length_singleton, List.range_succ, List.all_append]
  congr 1
  · rw [Bool.eq_iff_iff, List.all_eq_true, List.all_eq_true]
    refine forall_congr' fun i => ?_
    refine imp_congr_right fun hi => ?_
    have hi : i < l.length := List.mem_range.1 hi
    unfold pairOk
    rw [usedAt_snoc, usedAt_snoc, if_neg (by omega), if_neg (by omega)]
  · simp only [List.all_cons, List.all_nil, Bool.and_true]
    unfold pairOk
    by_cases h0 : l.length = 0
    · rw [h0]; rfl
    · rw [usedAt_snoc, usedAt_snoc, if_pos rfl, if_neg (by omega)]

theorem numB_inj : ∀ (a b : List UInt8), a.length = b.length → numB a = numB b → a = b
  | [], [], _, _ => rfl
  | [], _ :: _, h, _ => by simp at h
  | _ :: _, [], h, _ => by simp at h
  | x :: r, y :: t, h, e => by
    have h1 : x.toNat + 256 * numB r = y.toNat + 256 * numB t := e
    have hx := x.toNat_lt
    have hy := y.toNat_lt
    have e1 : x = y := UInt8.toNat_inj.1 (by omega)
    have e2 := numB_inj r t (by simpa using h) (by omega)
    rw [e1, e2]
theorem wordN_set_ne (bs : List UInt8) (k p : Nat) (v : UInt8) (h1 : p ≤ k) (h2 : k < p + 8) (h3 : p + 8 ≤ bs.length) (hv : bs[k]? ≠ some v) : wordN (bs.set k v) p ≠ wordN bs p := fun h => by
  have e := numB_inj _ _ (by simp) h
  have e1 : (((bs.set k v).drop p).take 8)[k - p]? = ((bs.drop p).take 8)[k - p]? := by rw [e]
  rw [List.getElem?_take, List.getElem?_take, if_pos (by omega), if_pos (by omega), List.getElem?_drop, List.getElem?_drop, show p + (k - p) = k by omega, List.getElem?_set_self (by omega)] at e1
  exact hv e1.symm
theorem xor8 (x y : UInt8) : bits .xor .u8 (x.toNat : Int) (y.toNat : Int) = ((x ^^^ y).toNat : Int) := by
  rw [u8_xor_nat _ _ x.toNat_lt y.toNat_lt, UInt8.toNat_xor]
theorem xor8_ne (x y : UInt8) (h : y ≠ 0) : x ^^^ y ≠ x := fun e => h (by
  have : x ^^^ (x ^^^ y) = x ^^^ x := by rw [e]
  rw [← UInt8.xor_assoc, UInt8.xor_self, UInt8.zero_xor] at this
  exact this)
theorem xor8_back (x y : UInt8) : x ^^^ y ^^^ y = x := by rw [UInt8.xor_assoc, UInt8.xor_self, UInt8.xor_zero]
/-- A byte of the head turned. -/
theorem head_byte {out : List UInt8} {l : List Bk} {p k : Nat} {x y : UInt8} (hol : out.length = p) (hp : 184 ≤ p) (hwo : walkB out = some l) (hLi : Lists out l (freeL l)) (hw0 : wordN out 0 < 4194304) (hk : k < 184) (hx : out[k]? = some x) (hy : y ≠ 0) : checkB (out.set k (x ^^^ y)) = false := by
  refine head_turned hwo hLi hw0 (by rw [List.length_set]) (k / 8 * 8) (by omega) (by omega) (wordN_set_ne out k _ _ (by omega) (by omega) (by omega) (by rw [hx]; exact fun e => xor8_ne x y hy (Option.some.inj e).symm)) (fun i hi => List.getElem?_set_ne (by omega))
theorem tag_byte {out : List UInt8} {l : List Bk} {p : Nat} {b : Bk} {x y : UInt8} (hol : out.length = p) (hwo : walkB out = some l) (hb : b ∈ l) (hx : out[b.off]? = some x) (hy : y ≠ 0)
    (hz : ∀ q, q % 16 = 0 → 184 ≤ q → q + 8 ≤ p → (∃ y ∈ l, q = y.off + y.size - 8) ∨ unpN (wordN out q) = none) : checkB (out.set b.off (x ^^^ y)) = false := by
  obtain ⟨_, ht, _⟩ := walkB_tiles hwo
  have hm := (tile_mem l _ _ ht).2 b hb
  have hs := (isSz_iff _).1 hm.2.2.1
  exact tag_turned hwo (by rw [List.length_set]) hb (fun i hi => List.getElem?_set_ne (fun e => hi e.symm)) (wordN_set_ne out _ _ _ (Nat.le_refl _) (by omega) (by omega) (by rw [hx]; exact fun e => xor8_ne x y hy (Option.some.inj e).symm)) (by rw [hol]; exact hz)

set_option maxRecDepth 100000 in
set_option maxHeartbeats 16000000 in
theorem cb_main (HS : SetC) (HR : RebuildC) (HC : CheckC) (w : World) (A1 : Option Addr) (k1 : Nat) (ls : List Int) (hI : IRd w w.heap.size A1 ls) (hls : ls.length ≤ 40) (A2 : Option Addr) (k2 : Nat) (us : List Bool) (hU : Boo w A2 us) (at_ : Int) (by_ : UInt8) :
    Calls Try.prog 4 #[.slice A1 ls.length k1, .slice A2 us.length k2, .int .i64 at_, .int .u8 (by_.toNat : Int)] w fun e w' => e = .returned (.bool true) ∧ Below w.heap.size w w' := by
  obtain ⟨sl, hsl⟩ : ∃ sl, ls.length = sl := ⟨_, rfl⟩
  obtain ⟨ul, hul⟩ : ∃ ul, us.length = ul := ⟨_, rfl⟩
  rw [hsl, hul]
  rw [hsl] at hls
  have s0 : decide ((40 : Int) < (sl : Int)) = false := decide_eq_false (by omega)
  obtain ⟨i0, hi, hz0, hz1, hz2⟩ := info_parts bk_inf
  obtain ⟨B0, hB0⟩ : ∃ B0, w.heap.size = B0 := ⟨_, rfl⟩
  have HB0 := Lib.hid hB0
  have HSL := Lib.hid hsl
  have HUL := Lib.hid hul
  have HI := Lib.hid hI
  have HU := Lib.hid hU
  have HLS := Lib.hid hls
  have HS := Lib.hid HS
  have HR := Lib.hid HR
  have HC := Lib.hid HC
  have HUP := Lib.hid (up11_any HC.out)
  clear hsl hul hI hU hB0
  go_enter Try.func4, Try.ntmps4
  go_wp2_with fail
  refine (HUP.out _).mono ?_
  rintro e w1 ⟨rfl, hb⟩
  have HB1 : Hid (Below B0 w w1) := by rw [← HB0.out]; exact hb
  clear HUP hb
  go_wp2
  go_loopw [10, 11, 12, 13] (fun ap t q i wr => ∃ (j : Nat) (l : List Bk) (p : Nat) (ab : Bool), ap = .bool ab ∧ noAdj l = ab ∧ i = .int .i64 (j : Int) ∧ t = .int .i64 (p : Int) ∧ j ≤ sl ∧ l.length = j ∧ tile 184 l p ∧ p ≤ 184 + 336 * j ∧ wr.ownsRow B0 44 3 q j (flatK l) ∧ Below B0 w wr) (fun _ _ _ i _ => sl - (intOf i).toNat)
  case atStart => exact ⟨0, [], 184, true, rfl, rfl, rfl, rfl, Nat.zero_le _, rfl, rfl, Nat.le_refl _, World.ownsRow_nil _ _ _ _, HB1.out⟩
  case round =>
    obtain ⟨j, l, p, ab, rfl, hna, rfl, rfl, hj, hlj, htl, hp, hown, hb⟩ := hrel
    obtain ⟨A7, c7, rfl⟩ := own_sl hown
    have hBw : B0 ≤ wr.heap.size := by have := hb.size; have := HB0.out; omega
    by_cases hlt : j < sl
    · obtain ⟨z, hz⟩ : ∃ z, ls[j]? = some z := ⟨ls[j]'(by rw [HSL.out]; exact hlt), List.getElem?_eq_getElem _⟩
      obtain ⟨b1, o1, rfl, _, hc1⟩ := (HI.out.below (by rw [HB0.out]; exact hb)) (by rw [HSL.out]; omega)
      have q1 := hc1 j z hz
      have hji : (j : Int) < (sl : Int) := by omega
      obtain ⟨pk, hpk⟩ : ∃ pk, (z % ((20 : Nat) : Int)).toNat = pk := ⟨_, rfl⟩
      have hpk1 : pk < 20 := by have := Int.emod_nonneg z (b := ((20 : Nat) : Int)) (by omega); have := Int.emod_lt_of_pos z (b := ((20 : Nat) : Int)) (by omega); omega
      have HPK : Hid (∀ W, Calls Try.prog 14 #[.int .i64 z, .int .i64 20] W fun e w' => e = .returned (.int .i64 (pk : Int)) ∧ W = w') := fun W => lpick_any z 20 W (by omega) (by omega) pk hpk
      obtain ⟨s, hs⟩ : ∃ s, 32 + 16 * pk = s := ⟨_, rfl⟩
      have hs1 : 32 + 16 * (pk : Int) = (s : Int) := by omega
      have hsz : isSz (s : Int) = true := by rw [isSz_iff]; omega
      have hs2 : s ≤ 336 := by omega
      have hpb : p ≤ 14000 := by omega
      have htl' : ∀ u, tile 184 (l ++ [⟨p, s, u⟩]) (p + s) := fun u => tile_snoc l 184 p ⟨p, s, u⟩ htl rfl hsz
      have HTL := Lib.hid htl'
      have HB := Lib.hid hb
      have HOWN := Lib.hid hown
      have HALT : Hid (∀ k, (Value.slice A7 j c7).ownBlock = some k → B0 ≤ k ∧ k < wr.heap.size) := hown.lt
      have HFL : Hid (∀ u, flatK (l ++ [⟨p, s, u⟩]) = flatK l ++ [.int .i64 (p : Int), .int .i64 (s : Int), .bool u]) := fun u => flatK_append _ _
      have HLJ := Lib.hid hlj
      have HNA : Hid (∀ u, noAdj (l ++ [⟨p, s, u⟩]) = (ab && (j == 0 || (u || usedAt l (j - 1))))) := fun u => by rw [noAdj_snoc, hna, hlj]
      obtain ⟨pv, hpv⟩ : ∃ pv, usedAt l (j - 1) = pv := ⟨_, rfl⟩
      have HPV : Hid (0 < j → ∃ b7 o7, A7 = some ⟨b7, o7, none⟩ ∧ b7 < wr.heap.size ∧ wr.cell? ⟨b7, o7 + (j - 1) * 3 + 2, none⟩ = some (.bool pv)) := fun h0 => by
        obtain ⟨b7, o7, e7, hlt7, hc7⟩ := (own_bks hown hlj.symm) (by omega)
        obtain ⟨y, hy⟩ : ∃ y, l[j - 1]? = some y := ⟨l[j - 1]'(by omega), List.getElem?_eq_getElem _⟩
        have h7 := (hc7 (j - 1) y hy).2.2
        have e : usedAt l (j - 1) = y.used := by unfold usedAt; rw [hy]
        rw [← e, hpv] at h7
        exact ⟨b7, o7, e7, hlt7, h7⟩
      have HPVE := Lib.hid hpv
      clear hna hpv hc1 hz hpk hs htl htl' hsz hb hown hlj
      go_wp2_with fail
      refine (HPK.out _).mono ?_
      rintro e w2 ⟨rfl, rfl⟩
      clear q1 HPK
      by_cases huj : j < ul
      · obtain ⟨ub, hub⟩ : ∃ ub, us[j]? = some ub := ⟨us[j]'(by rw [HUL.out]; exact huj), List.getElem?_eq_getElem _⟩
        obtain ⟨b2, o2, rfl, _, hc2⟩ := (HU.out.keep (by rw [HB0.out]; exact HB.out)) (by rw [HUL.out]; omega)
        have q2 := hc2 j ub hub
        have huj2 : (j : Int) < (ul : Int) := by omega
        have g1 : decide ((j : Int) < (ul : Int)) = true := decide_eq_true (by omega)
        have g2 : decide (j < ul) = true := decide_eq_true huj
        clear hc2 hub
        cases ub with
        | true =>
          obtain ⟨w3, hw3⟩ : ∃ w3, wr.alloc (.cells #[.int .i64 (p : Int), .int .i64 (s : Int), .bool true] 44) = w3 := ⟨_, rfl⟩
          obtain ⟨w4, hw4⟩ : ∃ w4, w3.alloc (.cells #[.int .i64 (p : Int), .int .i64 (s : Int), .bool true] 44) = w4 := ⟨_, rfl⟩
          have b3 : Below wr.heap.size wr w3 := by rw [← hw3]; exact (Below.refl _ _).alloc (Nat.le_refl _) _
          have b4 : Below w3.heap.size w3 w4 := by rw [← hw4]; exact (Below.refl _ _).alloc (Nat.le_refl _) _
          have own4 := own_below' (own_below' HOWN.out b3) b4
          have n4 : w4.heap[w3.heap.size]? = some (.cells #[.int .i64 (p : Int), .int .i64 (s : Int), .bool true] 44 (0, 0)) := by rw [← hw4]; exact heap_alloc_new w3 _
          have s3 : w3.heap.size = wr.heap.size + 1 := by rw [← hw3]; simp
          have n3 : w3.heap[wr.heap.size]? = some (.cells #[.int .i64 (p : Int), .int .i64 (s : Int), .bool true] 44 (0, 0)) := by rw [← hw3]; exact heap_alloc_new wr _
          obtain ⟨⟨d0, d1, d2⟩, _⟩ := blk_cells n3
          have n4' := (b4.block _ (heap_lt' n3)).trans n3
          have HNEW : Hid (∀ j u, [Value.int .i64 (p : Int), .int .i64 (s : Int), .bool true][j]? = some u → w4.cell? ((⟨w3.heap.size, 0, none⟩ : Addr).add j) = some u) := fun j u hu => by
            have e : (⟨w3.heap.size, 0, none⟩ : Addr).add j = ⟨w3.heap.size, j, none⟩ := by unfold Addr.add; split <;> simp_all
            rw [e, cell_of_row w4 _ j _ _ (0, 0) n4]
            simpa using hu
          have HONE : Hid (∀ u ∈ [Value.int .i64 (p : Int), .int .i64 (s : Int), .bool true], u.oneCell' = true) := fun u hu => by
            simp at hu
            rcases hu with rfl | rfl | rfl <;> rfl
          have hB4 : B0 ≤ w4.heap.size := by have := b4.size; have := b3.size; omega
          have HB4 := Lib.hid (HB.out.trans ((b3.trans (b4.mono b3.size)).mono hBw))
          have OWN4 := Lib.hid own4
          have HN4 := Lib.hid n4'
          have hs4 : w3.heap.size < w4.heap.size := heap_lt' n4
          have HS3 := Lib.hid s3
          have HFU := Lib.hid (HFL.out true)
          have HTU := Lib.hid (HTL.out true)
          have hg2 : wr.heap.size < w4.heap.size := heap_lt' n4'
          have hb3 := b3
          clear own4 n3 n4 n4' b3 b4 s3 HFL HTL HOWN HB
          by_cases hj0 : 0 < j
          · have g3 : decide ((0 : Int) < (j : Int)) = true := decide_eq_true (by omega)
            have g4 : decide (0 < j) = true := decide_eq_true hj0
            have HJ0 : Hid ((j == 0) = false) := (show _ = _ by rw [beq_eq_false_iff_ne]; omega)
            clear hb3 HPV
            cases ab <;>
            · go_wp2_with (first
                | (at_builtin; go_must (refine wpList_append_own _ rfl _ _ 41 rfl B0 44 i0 _ 3 24 Try.underlying41 hi hz0 hz1 hz2 rfl (by decide) _ j (flatK l) rfl OWN4.out ⟨w3.heap.size, 0, none⟩ 1 1 [.int .i64 (p : Int), .int .i64 (s : Int), .bool true] rfl rfl HNEW.out HONE.out (by unfold maxLen; omega) (by omega) hB4 ?_); intro x5 w5 own5 gr5 at5;
                   have gr5' : w4.grownBy w5 (Value.slice A7 j c7).ownBlock := gr5; have e5 := (gr5'.block _ hg2 (fun e => by have := (HALT.out _ e.symm).2; omega)).trans HN4.out; obtain ⟨⟨c0, c1, c2⟩, _⟩ := blk_cells e5; have HB5 : Hid (Below B0 w w5) := HB4.out.grown gr5' hB4 (fun k hk => (HALT.out k hk).1); have OWN5 : Hid (w5.ownsRow B0 44 3 x5 (j + 1) (flatK (l ++ [⟨p, s, true⟩]))) := (show World.ownsRow _ _ _ _ _ _ _ by rw [HFU.out]; exact own5); clear own5 gr5 gr5' at5 e5)
                | fail)
              go_roundw
              case rel => exact ⟨j + 1, l ++ [⟨p, s, true⟩], p + s, _, rfl, (HNA.out true).trans (by rw [HPVE.out, HJ0.out]; first | rfl | (cases pv <;> rfl)), by go_num, by go_num, by omega, by rw [List.length_append, List.length_singleton, HLJ.out], HTU.out, by omega, OWN5.out, HB5.out⟩
              case measure => simp only [intOf]; omega
          · have g3 : decide ((0 : Int) < (j : Int)) = false := decide_eq_false (by omega)
            have g4 : decide (0 < j) = false := decide_eq_false hj0
            have HJ0 : Hid ((j == 0) = true) := (show _ = _ by rw [beq_iff_eq]; omega)
            clear hb3 HPV
            cases ab <;>
            · go_wp2_with (first
                | (at_builtin; go_must (refine wpList_append_own _ rfl _ _ 41 rfl B0 44 i0 _ 3 24 Try.underlying41 hi hz0 hz1 hz2 rfl (by decide) _ j (flatK l) rfl OWN4.out ⟨w3.heap.size, 0, none⟩ 1 1 [.int .i64 (p : Int), .int .i64 (s : Int), .bool true] rfl rfl HNEW.out HONE.out (by unfold maxLen; omega) (by omega) hB4 ?_); intro x5 w5 own5 gr5 at5;
                   have gr5' : w4.grownBy w5 (Value.slice A7 j c7).ownBlock := gr5; have e5 := (gr5'.block _ hg2 (fun e => by have := (HALT.out _ e.symm).2; omega)).trans HN4.out; obtain ⟨⟨c0, c1, c2⟩, _⟩ := blk_cells e5; have HB5 : Hid (Below B0 w w5) := HB4.out.grown gr5' hB4 (fun k hk => (HALT.out k hk).1); have OWN5 : Hid (w5.ownsRow B0 44 3 x5 (j + 1) (flatK (l ++ [⟨p, s, true⟩]))) := (show World.ownsRow _ _ _ _ _ _ _ by rw [HFU.out]; exact own5); clear own5 gr5 gr5' at5 e5)
                | fail)
              go_roundw
              case rel => exact ⟨j + 1, l ++ [⟨p, s, true⟩], p + s, _, rfl, (HNA.out true).trans (by rw [HPVE.out, HJ0.out]; first | rfl | (cases pv <;> rfl)), by go_num, by go_num, by omega, by rw [List.length_append, List.length_singleton, HLJ.out], HTU.out, by omega, OWN5.out, HB5.out⟩
              case measure => simp only [intOf]; omega
        | false =>
          obtain ⟨wa, hwa⟩ : ∃ wa, wr.alloc (.cells #[.int .i64 (p : Int), .int .i64 (s : Int), .bool false] 44) = wa := ⟨_, rfl⟩
          obtain ⟨w3, hw3⟩ : ∃ w3, wa.setCell ⟨wr.heap.size, 2, none⟩ (.bool false) = w3 := ⟨_, rfl⟩
          have na : wa.heap[wr.heap.size]? = some (.cells #[.int .i64 (p : Int), .int .i64 (s : Int), .bool false] 44 (0, 0)) := by rw [← hwa]; exact heap_alloc_new wr _
          obtain ⟨⟨m0, m1, m2⟩, m3, m4, m5⟩ := blk_cells na
          obtain ⟨w4, hw4⟩ : ∃ w4, w3.alloc (.cells #[.int .i64 (p : Int), .int .i64 (s : Int), .bool false] 44) = w4 := ⟨_, rfl⟩
          have b3 : Below wr.heap.size wr w3 := by rw [← hw3, ← hwa]; exact ((Below.refl _ _).alloc (Nat.le_refl _) _).setCell (p := ⟨wr.heap.size, 2, none⟩) (Nat.le_refl _) _
          have b4 : Below w3.heap.size w3 w4 := by rw [← hw4]; exact (Below.refl _ _).alloc (Nat.le_refl _) _
          have own4 := own_below' (own_below' HOWN.out b3) b4
          have n4 : w4.heap[w3.heap.size]? = some (.cells #[.int .i64 (p : Int), .int .i64 (s : Int), .bool false] 44 (0, 0)) := by rw [← hw4]; exact heap_alloc_new w3 _
          have s3 : w3.heap.size = wr.heap.size + 1 := by rw [← hw3, ← hwa]; simp [World.setCell]
          have n3 : w3.heap[wr.heap.size]? = some (.cells #[.int .i64 (p : Int), .int .i64 (s : Int), .bool false] 44 (0, 0)) := by rw [← hw3]; exact heap_setCell_same wa wr.heap.size 2 _ _ (.bool false) na
          obtain ⟨⟨d0, d1, d2⟩, _⟩ := blk_cells n3
          have n4' := (b4.block _ (heap_lt' n3)).trans n3
          have HNEW : Hid (∀ j u, [Value.int .i64 (p : Int), .int .i64 (s : Int), .bool false][j]? = some u → w4.cell? ((⟨w3.heap.size, 0, none⟩ : Addr).add j) = some u) := fun j u hu => by
            have e : (⟨w3.heap.size, 0, none⟩ : Addr).add j = ⟨w3.heap.size, j, none⟩ := by unfold Addr.add; split <;> simp_all
            rw [e, cell_of_row w4 _ j _ _ (0, 0) n4]
            simpa using hu
          have HONE : Hid (∀ u ∈ [Value.int .i64 (p : Int), .int .i64 (s : Int), .bool false], u.oneCell' = true) := fun u hu => by
            simp at hu
            rcases hu with rfl | rfl | rfl <;> rfl
          have hB4 : B0 ≤ w4.heap.size := by have := b4.size; have := b3.size; omega
          have HB4 := Lib.hid (HB.out.trans ((b3.trans (b4.mono b3.size)).mono hBw))
          have OWN4 := Lib.hid own4
          have HN4 := Lib.hid n4'
          have hs4 : w3.heap.size < w4.heap.size := heap_lt' n4
          have HS3 := Lib.hid s3
          have HFU := Lib.hid (HFL.out false)
          have HTU := Lib.hid (HTL.out false)
          have hg2 : wr.heap.size < w4.heap.size := heap_lt' n4'
          have hb3 := b3
          clear na own4 n3 n4 n4' b3 b4 s3 HFL HTL HOWN HB
          by_cases hj0 : 0 < j
          · have g3 : decide ((0 : Int) < (j : Int)) = true := decide_eq_true (by omega)
            have g4 : decide (0 < j) = true := decide_eq_true hj0
            have HJ0 : Hid ((j == 0) = false) := (show _ = _ by rw [beq_eq_false_iff_ne]; omega)
            obtain ⟨b7, o7, e7, hlt7, h7⟩ := HPV.out hj0
            obtain ⟨jj, hjj⟩ : ∃ jj, j - 1 = jj := ⟨_, rfl⟩
            rw [hjj] at h7
            have hk1 : (j : Int) - 1 = (jj : Int) := by omega
            have hjjl : (jj : Int) < (j : Int) := by omega
            have h7' := (hb3.cell (p := ⟨b7, o7 + jj * 3 + 2, none⟩) hlt7).trans h7
            have E7 := Lib.hid e7
            clear hb3 hjj h7 hlt7 HPV e7
            cases ab
            · clear h7'
              go_wp2_with (first
                | (at_builtin; go_must (refine wpList_append_own _ rfl _ _ 41 rfl B0 44 i0 _ 3 24 Try.underlying41 hi hz0 hz1 hz2 rfl (by decide) _ j (flatK l) rfl OWN4.out ⟨w3.heap.size, 0, none⟩ 1 1 [.int .i64 (p : Int), .int .i64 (s : Int), .bool false] rfl rfl HNEW.out HONE.out (by unfold maxLen; omega) (by omega) hB4 ?_); intro x5 w5 own5 gr5 at5;
                   have gr5' : w4.grownBy w5 (Value.slice A7 j c7).ownBlock := gr5; have e5 := (gr5'.block _ hg2 (fun e => by have := (HALT.out _ e.symm).2; omega)).trans HN4.out; obtain ⟨⟨c0, c1, c2⟩, _⟩ := blk_cells e5; have HB5 : Hid (Below B0 w w5) := HB4.out.grown gr5' hB4 (fun k hk => (HALT.out k hk).1); have OWN5 : Hid (w5.ownsRow B0 44 3 x5 (j + 1) (flatK (l ++ [⟨p, s, false⟩]))) := (show World.ownsRow _ _ _ _ _ _ _ by rw [HFU.out]; exact own5); clear own5 gr5 gr5' at5 e5)
                | fail)
              go_roundw
              case rel => exact ⟨j + 1, l ++ [⟨p, s, false⟩], p + s, _, rfl, (HNA.out false).trans (by rw [HPVE.out, HJ0.out]; first | rfl | (cases pv <;> rfl)), by go_num, by go_num, by omega, by rw [List.length_append, List.length_singleton, HLJ.out], HTU.out, by omega, OWN5.out, HB5.out⟩
              case measure => simp only [intOf]; omega
            · have HW4 := Lib.hid hw4
              clear hw4
              cases pv <;>
              · rw [E7.out]
                go_wp2_with (first
                  | (rw [HW4.out, ← E7.out])
                  | (at_builtin; go_must (refine wpList_append_own _ rfl _ _ 41 rfl B0 44 i0 _ 3 24 Try.underlying41 hi hz0 hz1 hz2 rfl (by decide) _ j (flatK l) rfl OWN4.out ⟨w3.heap.size, 0, none⟩ 1 1 [.int .i64 (p : Int), .int .i64 (s : Int), .bool false] rfl rfl HNEW.out HONE.out (by unfold maxLen; omega) (by omega) hB4 ?_); intro x5 w5 own5 gr5 at5;
                     have gr5' : w4.grownBy w5 (Value.slice A7 j c7).ownBlock := gr5; have e5 := (gr5'.block _ hg2 (fun e => by have := (HALT.out _ e.symm).2; omega)).trans HN4.out; obtain ⟨⟨c0, c1, c2⟩, _⟩ := blk_cells e5; have HB5 : Hid (Below B0 w w5) := HB4.out.grown gr5' hB4 (fun k hk => (HALT.out k hk).1); have OWN5 : Hid (w5.ownsRow B0 44 3 x5 (j + 1) (flatK (l ++ [⟨p, s, false⟩]))) := (show World.ownsRow _ _ _ _ _ _ _ by rw [HFU.out]; exact own5); clear own5 gr5 gr5' at5 e5)
                  | fail)
                go_roundw
                case rel => exact ⟨j + 1, l ++ [⟨p, s, false⟩], p + s, _, rfl, (HNA.out false).trans (by rw [HPVE.out, HJ0.out]; first | rfl | (cases pv <;> rfl)), by go_num, by go_num, by omega, by rw [List.length_append, List.length_singleton, HLJ.out], HTU.out, by omega, OWN5.out, HB5.out⟩
                case measure => simp only [intOf]; omega
          · have g3 : decide ((0 : Int) < (j : Int)) = false := decide_eq_false (by omega)
            have g4 : decide (0 < j) = false := decide_eq_false hj0
            have HJ0 : Hid ((j == 0) = true) := (show _ = _ by rw [beq_iff_eq]; omega)
            clear hb3 HPV
            cases ab <;>
            · go_wp2_with (first
                | (at_builtin; go_must (refine wpList_append_own _ rfl _ _ 41 rfl B0 44 i0 _ 3 24 Try.underlying41 hi hz0 hz1 hz2 rfl (by decide) _ j (flatK l) rfl OWN4.out ⟨w3.heap.size, 0, none⟩ 1 1 [.int .i64 (p : Int), .int .i64 (s : Int), .bool false] rfl rfl HNEW.out HONE.out (by unfold maxLen; omega) (by omega) hB4 ?_); intro x5 w5 own5 gr5 at5;
                   have gr5' : w4.grownBy w5 (Value.slice A7 j c7).ownBlock := gr5; have e5 := (gr5'.block _ hg2 (fun e => by have := (HALT.out _ e.symm).2; omega)).trans HN4.out; obtain ⟨⟨c0, c1, c2⟩, _⟩ := blk_cells e5; have HB5 : Hid (Below B0 w w5) := HB4.out.grown gr5' hB4 (fun k hk => (HALT.out k hk).1); have OWN5 : Hid (w5.ownsRow B0 44 3 x5 (j + 1) (flatK (l ++ [⟨p, s, false⟩]))) := (show World.ownsRow _ _ _ _ _ _ _ by rw [HFU.out]; exact own5); clear own5 gr5 gr5' at5 e5)
                | fail)
              go_roundw
              case rel => exact ⟨j + 1, l ++ [⟨p, s, false⟩], p + s, _, rfl, (HNA.out false).trans (by rw [HPVE.out, HJ0.out]; first | rfl | (cases pv <;> rfl)), by go_num, by go_num, by omega, by rw [List.length_append, List.length_singleton, HLJ.out], HTU.out, by omega, OWN5.out, HB5.out⟩
              case measure => simp only [intOf]; omega
      · have g1 : decide ((j : Int) < (ul : Int)) = false := decide_eq_false (by omega)
        have g2 : decide (j < ul) = false := decide_eq_false huj
        clear huj
        obtain ⟨wa, hwa⟩ : ∃ wa, wr.alloc (.cells #[.int .i64 (p : Int), .int .i64 (s : Int), .bool false] 44) = wa := ⟨_, rfl⟩
        obtain ⟨w3, hw3⟩ : ∃ w3, wa.setCell ⟨wr.heap.size, 2, none⟩ (.bool false) = w3 := ⟨_, rfl⟩
        have na : wa.heap[wr.heap.size]? = some (.cells #[.int .i64 (p : Int), .int .i64 (s : Int), .bool false] 44 (0, 0)) := by rw [← hwa]; exact heap_alloc_new wr _
        obtain ⟨⟨m0, m1, m2⟩, m3, m4, m5⟩ := blk_cells na
        obtain ⟨w4, hw4⟩ : ∃ w4, w3.alloc (.cells #[.int .i64 (p : Int), .int .i64 (s : Int), .bool false] 44) = w4 := ⟨_, rfl⟩
        have b3 : Below wr.heap.size wr w3 := by rw [← hw3, ← hwa]; exact ((Below.refl _ _).alloc (Nat.le_refl _) _).setCell (p := ⟨wr.heap.size, 2, none⟩) (Nat.le_refl _) _
        have b4 : Below w3.heap.size w3 w4 := by rw [← hw4]; exact (Below.refl _ _).alloc (Nat.le_refl _) _
        have own4 := own_below' (own_below' HOWN.out b3) b4
        have n4 : w4.heap[w3.heap.size]? = some (.cells #[.int .i64 (p : Int), .int .i64 (s : Int), .bool false] 44 (0, 0)) := by rw [← hw4]; exact heap_alloc_new w3 _
        have s3 : w3.heap.size = wr.heap.size + 1 := by rw [← hw3, ← hwa]; simp [World.setCell]
        have n3 : w3.heap[wr.heap.size]? = some (.cells #[.int .i64 (p : Int), .int .i64 (s : Int), .bool false] 44 (0, 0)) := by rw [← hw3]; exact heap_setCell_same wa wr.heap.size 2 _ _ (.bool false) na
        obtain ⟨⟨d0, d1, d2⟩, _⟩ := blk_cells n3
        have n4' := (b4.block _ (heap_lt' n3)).trans n3
        have HNEW : Hid (∀ j u, [Value.int .i64 (p : Int), .int .i64 (s : Int), .bool false][j]? = some u → w4.cell? ((⟨w3.heap.size, 0, none⟩ : Addr).add j) = some u) := fun j u hu => by
          have e : (⟨w3.heap.size, 0, none⟩ : Addr).add j = ⟨w3.heap.size, j, none⟩ := by unfold Addr.add; split <;> simp_all
          rw [e, cell_of_row w4 _ j _ _ (0, 0) n4]
          simpa using hu
        have HONE : Hid (∀ u ∈ [Value.int .i64 (p : Int), .int .i64 (s : Int), .bool false], u.oneCell' = true) := fun u hu => by
          simp at hu
          rcases hu with rfl | rfl | rfl <;> rfl
        have hB4 : B0 ≤ w4.heap.size := by have := b4.size; have := b3.size; omega
        have HB4 := Lib.hid (HB.out.trans ((b3.trans (b4.mono b3.size)).mono hBw))
        have OWN4 := Lib.hid own4
        have HN4 := Lib.hid n4'
        have hs4 : w3.heap.size < w4.heap.size := heap_lt' n4
        have HS3 := Lib.hid s3
        have HFU := Lib.hid (HFL.out false)
        have HTU := Lib.hid (HTL.out false)
        have hg2 : wr.heap.size < w4.heap.size := heap_lt' n4'
        have hb3 := b3
        clear na own4 n3 n4 n4' b3 b4 s3 HFL HTL HOWN HB
        by_cases hj0 : 0 < j
        · have g3 : decide ((0 : Int) < (j : Int)) = true := decide_eq_true (by omega)
          have g4 : decide (0 < j) = true := decide_eq_true hj0
          have HJ0 : Hid ((j == 0) = false) := (show _ = _ by rw [beq_eq_false_iff_ne]; omega)
          obtain ⟨b7, o7, e7, hlt7, h7⟩ := HPV.out hj0
          obtain ⟨jj, hjj⟩ : ∃ jj, j - 1 = jj := ⟨_, rfl⟩
          rw [hjj] at h7
          have hk1 : (j : Int) - 1 = (jj : Int) := by omega
          have hjjl : (jj : Int) < (j : Int) := by omega
          have h7' := (hb3.cell (p := ⟨b7, o7 + jj * 3 + 2, none⟩) hlt7).trans h7
          have E7 := Lib.hid e7
          clear hb3 hjj h7 hlt7 HPV e7
          cases ab
          · clear h7'
            go_wp2_with (first
              | (at_builtin; go_must (refine wpList_append_own _ rfl _ _ 41 rfl B0 44 i0 _ 3 24 Try.underlying41 hi hz0 hz1 hz2 rfl (by decide) _ j (flatK l) rfl OWN4.out ⟨w3.heap.size, 0, none⟩ 1 1 [.int .i64 (p : Int), .int .i64 (s : Int), .bool false] rfl rfl HNEW.out HONE.out (by unfold maxLen; omega) (by omega) hB4 ?_); intro x5 w5 own5 gr5 at5;
                 have gr5' : w4.grownBy w5 (Value.slice A7 j c7).ownBlock := gr5; have e5 := (gr5'.block _ hg2 (fun e => by have := (HALT.out _ e.symm).2; omega)).trans HN4.out; obtain ⟨⟨c0, c1, c2⟩, _⟩ := blk_cells e5; have HB5 : Hid (Below B0 w w5) := HB4.out.grown gr5' hB4 (fun k hk => (HALT.out k hk).1); have OWN5 : Hid (w5.ownsRow B0 44 3 x5 (j + 1) (flatK (l ++ [⟨p, s, false⟩]))) := (show World.ownsRow _ _ _ _ _ _ _ by rw [HFU.out]; exact own5); clear own5 gr5 gr5' at5 e5)
              | fail)
            go_roundw
            case rel => exact ⟨j + 1, l ++ [⟨p, s, false⟩], p + s, _, rfl, (HNA.out false).trans (by rw [HPVE.out, HJ0.out]; first | rfl | (cases pv <;> rfl)), by go_num, by go_num, by omega, by rw [List.length_append, List.length_singleton, HLJ.out], HTU.out, by omega, OWN5.out, HB5.out⟩
            case measure => simp only [intOf]; omega
          · have HW4 := Lib.hid hw4
            clear hw4
            cases pv <;>
            · rw [E7.out]
              go_wp2_with (first
                | (rw [HW4.out, ← E7.out])
                | (at_builtin; go_must (refine wpList_append_own _ rfl _ _ 41 rfl B0 44 i0 _ 3 24 Try.underlying41 hi hz0 hz1 hz2 rfl (by decide) _ j (flatK l) rfl OWN4.out ⟨w3.heap.size, 0, none⟩ 1 1 [.int .i64 (p : Int), .int .i64 (s : Int), .bool false] rfl rfl HNEW.out HONE.out (by unfold maxLen; omega) (by omega) hB4 ?_); intro x5 w5 own5 gr5 at5;
                   have gr5' : w4.grownBy w5 (Value.slice A7 j c7).ownBlock := gr5; have e5 := (gr5'.block _ hg2 (fun e => by have := (HALT.out _ e.symm).2; omega)).trans HN4.out; obtain ⟨⟨c0, c1, c2⟩, _⟩ := blk_cells e5; have HB5 : Hid (Below B0 w w5) := HB4.out.grown gr5' hB4 (fun k hk => (HALT.out k hk).1); have OWN5 : Hid (w5.ownsRow B0 44 3 x5 (j + 1) (flatK (l ++ [⟨p, s, false⟩]))) := (show World.ownsRow _ _ _ _ _ _ _ by rw [HFU.out]; exact own5); clear own5 gr5 gr5' at5 e5)
                | fail)
              go_roundw
              case rel => exact ⟨j + 1, l ++ [⟨p, s, false⟩], p + s, _, rfl, (HNA.out false).trans (by rw [HPVE.out, HJ0.out]; first | rfl | (cases pv <;> rfl)), by go_num, by go_num, by omega, by rw [List.length_append, List.length_singleton, HLJ.out], HTU.out, by omega, OWN5.out, HB5.out⟩
              case measure => simp only [intOf]; omega
        · have g3 : decide ((0 : Int) < (j : Int)) = false := decide_eq_false (by omega)
          have g4 : decide (0 < j) = false := decide_eq_false hj0
          have HJ0 : Hid ((j == 0) = true) := (show _ = _ by rw [beq_iff_eq]; omega)
          clear hb3 HPV
          cases ab <;>
          · go_wp2_with (first
              | (at_builtin; go_must (refine wpList_append_own _ rfl _ _ 41 rfl B0 44 i0 _ 3 24 Try.underlying41 hi hz0 hz1 hz2 rfl (by decide) _ j (flatK l) rfl OWN4.out ⟨w3.heap.size, 0, none⟩ 1 1 [.int .i64 (p : Int), .int .i64 (s : Int), .bool false] rfl rfl HNEW.out HONE.out (by unfold maxLen; omega) (by omega) hB4 ?_); intro x5 w5 own5 gr5 at5;
                 have gr5' : w4.grownBy w5 (Value.slice A7 j c7).ownBlock := gr5; have e5 := (gr5'.block _ hg2 (fun e => by have := (HALT.out _ e.symm).2; omega)).trans HN4.out; obtain ⟨⟨c0, c1, c2⟩, _⟩ := blk_cells e5; have HB5 : Hid (Below B0 w w5) := HB4.out.grown gr5' hB4 (fun k hk => (HALT.out k hk).1); have OWN5 : Hid (w5.ownsRow B0 44 3 x5 (j + 1) (flatK (l ++ [⟨p, s, false⟩]))) := (show World.ownsRow _ _ _ _ _ _ _ by rw [HFU.out]; exact own5); clear own5 gr5 gr5' at5 e5)
              | fail)
            go_roundw
            case rel => exact ⟨j + 1, l ++ [⟨p, s, false⟩], p + s, _, rfl, (HNA.out false).trans (by rw [HPVE.out, HJ0.out]; first | rfl | (cases pv <;> rfl)), by go_num, by go_num, by omega, by rw [List.length_append, List.length_singleton, HLJ.out], HTU.out, by omega, OWN5.out, HB5.out⟩
            case measure => simp only [intOf]; omega
    · obtain rfl : sl = j := by omega
      have hp184 := (tile_mem l 184 p htl).1
      have hp9 : p ≤ 14000 := by have := HLS.out; omega
      obtain ⟨z, hz⟩ : ∃ z, List.replicate p (0 : UInt8) = z := ⟨_, rfl⟩
      have hzl : z.length = p := by rw [← hz]; exact List.length_replicate
      have HMK : ∀ W : World, (Instr.makeSlice 25 (.int .i64 (p : Int)) (.int .i64 (p : Int))).run Try.prog W = .ok (.slice (some ⟨W.heap.size, 0, none⟩) p p) (W.alloc (.cells (rowB z) 5)) := run_mk0 p (by omega) z hz
      obtain ⟨wb, hwb⟩ : ∃ wb, wr.alloc (.cells (rowB z) 5) = wb := ⟨_, rfl⟩
      have f1 : Fill wb wr.heap.size 5 z := by rw [← hwb]; exact Fill.made wr _ _
      have b1 : Below wr.heap.size wr wb := by rw [← hwb]; exact (Below.refl _ _).alloc (Nat.le_refl _) _
      have hbk := own_bks (own_below' hown b1) hlj.symm
      have hma := arena_any wb 32 16384 (some ⟨wr.heap.size, 0, none⟩) p z f1.reads (by omega) (by omega) (by omega) (by omega) (by rw [hzl]; omega)
      rw [hzl] at hma
      have HMA := Lib.hid hma
      have HK3 := Lib.hid (hb.trans (b1.mono hBw))
      have HBK := Lib.hid hbk
      have HWB := Lib.hid hwb
      have HZ := Lib.hid hz
      have HNA := Lib.hid hna
      have HZL := Lib.hid hzl
      have HTI := Lib.hid htl
      have HLJ := Lib.hid hlj
      clear hna hz hzl hwb f1 b1 hbk hma htl hlj hown hb hp hp184 hj hlt
      go_wp2_with fail
      rw [HWB.out]
      refine HMA.out.mono ?_
      rintro e w4 hmade
      obtain ⟨g, A, c, rfl, hst⟩ := St.made hmade
      have HST := Lib.hid hst
      clear hmade hst HMA HMK HWB
      go_wp2
      go_loopw [16] (fun i wr => ∃ (j : Nat) (A : Option Addr) (c : Nat), i = .int .i64 (j : Int) ∧ j ≤ sl ∧ St wb wr g 32 16384 A c (setAll z (l.take j)) []) (fun i _ => sl - (intOf i).toNat)
      case atStart => exact ⟨0, A, c, rfl, Nat.zero_le _, HST.out⟩
      case round =>
        obtain ⟨j, A, c, rfl, hj, hst⟩ := hrel
        by_cases hlt : j < sl
        · obtain ⟨x, hx⟩ : ∃ x, l[j]? = some x := ⟨l[j]'(by rw [HLJ.out]; exact hlt), List.getElem?_eq_getElem _⟩
          obtain ⟨b, o, rfl, _, hc⟩ := (HBK.out.below hst.bel) (by rw [HLJ.out]; omega)
          obtain ⟨p0, p1, p2⟩ := hc j x hx
          have hji : (j : Int) < (sl : Int) := by omega
          obtain ⟨hset, hxl⟩ := setAll_next HTI.out (Nat.le_refl _) rfl (by rw [HZL.out]; exact Nat.le_refl _) hx
          have hlen := setAll_len HTI.out (by rw [HZL.out]; exact Nat.le_refl _) j
          rw [HZL.out] at hxl hlen
          have HSet := Lib.hid (HS.out wr g 32 16384 c A _ (x.off : Int) (x.size : Int) x.used _ hst.ar (by omega) (by rw [hlen]; omega) (by omega) (by omega) hset)
          have HST2 := Lib.hid hst
          clear hc hx hst hxl hlen hset
          go_wp2_with fail
          refine HSet.out.mono ?_
          rintro e w5 ⟨rfl, hbe⟩
          obtain ⟨A5, c5, hst5⟩ := HST2.out.became hbe
          have HST5 := Lib.hid hst5
          clear hbe hst5 HST2 HSet p0 p1 p2
          dsimp only [errV]
          go_wp2
          go_roundw
          case rel => exact ⟨j + 1, A5, c5, by go_num, by omega, HST5.out⟩
          case measure => simp only [intOf]; omega
        · obtain rfl : sl = j := by omega
          obtain ⟨o1, ho1⟩ : ∃ o1, setAll z l = o1 := ⟨_, rfl⟩
          rw [List.take_of_length_le (Nat.le_of_eq HLJ.out), ho1] at hst
          obtain ⟨a1, a2, _, _⟩ := setAll_spec l z 184 p (Nat.le_refl _) rfl HTI.out (by rw [HZL.out]; exact Nat.le_refl _)
          rw [ho1, HZL.out] at a1
          rw [ho1] at a2
          have hwk := walkB_tile (bs := o1) (l := l) (by rw [a1]; exact HTI.out) a2
          obtain ⟨out, hreb, hol, hwo, hLi, hw0, hck, hqw⟩ := built_words HTI.out (by omega)
          rw [HZ.out, ho1] at hreb
          have HW0 := Lib.hid hw0
          have HCK := Lib.hid (hck.trans HNA.out)
          have HQW := Lib.hid hqw
          have hp184 := (tile_mem l 184 p HTI.out).1
          have HReb := Lib.hid (HR.out wr g 32 16384 c A o1 _ hst.ar (by omega) (by omega) hreb)
          have HST3 := Lib.hid hst
          have HLI := Lib.hid hLi
          have HOL := Lib.hid hol
          have HWO := Lib.hid hwo
          clear hw0 hck hqw ho1 hst a1 a2 hwk hreb hLi hol hwo hj hlt HST
          go_wp2_with fail
          refine HReb.out.mono ?_
          rintro e w6 ⟨rfl, hbe⟩
          obtain ⟨A6, c6, hst6⟩ := HST3.out.became hbe
          have HST6 := Lib.hid hst6
          clear hbe hst6 HST3 HReb
          dsimp only [errV]
          have HCk := Lib.hid (HC.out w6 g 32 16384 c6 A6 out ab HST6.out.ar (by omega) (by rw [HOL.out]; omega) HCK.out)
          go_wp2_with fail
          refine HCk.out.mono ?_
          rintro e w7 ⟨rfl, hb⟩
          have HST7 := Lib.hid (HST6.out.below hb)
          have HK7 := Lib.hid (HK3.out.trans (HST7.out.bel.mono (by have := HK3.out.size; have := HB0.out; omega)))
          clear hb HST6 HCk HCK
          by_cases hby : by_ = 0
          · have hb0 : ((by_.toNat : Int) == 0) = true := by rw [hby]; rfl
            cases ab <;>
            · dsimp only [errV]
              go_wp2
              go_ret
              exact ⟨rfl, by rw [HB0.out]; exact HK7.out⟩
          · have hb0 : ((by_.toNat : Int) == 0) = false := by
              rw [beq_eq_false_iff_ne]
              intro e
              exact hby (UInt8.toNat_inj.1 (by rw [show (0 : UInt8).toNat = 0 from rfl]; omega))
            cases ab
            · dsimp only [errV]
              go_wp2
              go_ret
              exact ⟨rfl, by rw [HB0.out]; exact HK7.out⟩
            · dsimp only [errV]
              have HBY := Lib.hid (bytes_any HST7.out.ar (by rw [HOL.out]; omega) (by omega))
              go_wp2_with fail
              refine HBY.out.mono ?_
              rintro e w8 ⟨A8, c8, rfl, own8, hb⟩
              have hst8 := HST7.out.below hb
              rw [HOL.out] at own8 ⊢
              obtain ⟨gb, cb, e8, _, _⟩ := own_rd own8 (by omega)
              injection e8 with e81 _ e82
              subst e81 e82
              have hgb : w7.heap.size ≤ gb := (own8.lt gb rfl).1
              obtain ⟨k, hk⟩ : ∃ k, (at_ % ((184 : Nat) : Int)).toNat = k := ⟨_, rfl⟩
              have hk1 : k < 184 := by have := Int.emod_nonneg at_ (b := ((184 : Nat) : Int)) (by omega); have := Int.emod_lt_of_pos at_ (b := ((184 : Nat) : Int)) (by omega); omega
              have HPK : Hid (∀ W, Calls Try.prog 14 #[.int .i64 at_, .int .i64 184] W fun e w' => e = .returned (.int .i64 (k : Int)) ∧ W = w') := fun W => lpick_any at_ 184 W (by omega) (by omega) k hk
              obtain ⟨x, hx⟩ : ∃ x, out[k]? = some x := ⟨out[k]'(by rw [HOL.out]; omega), List.getElem?_eq_getElem _⟩
              have q1 : w8.cell? ⟨gb, k, none⟩ = some (.int .u8 (x.toNat : Int)) := by
                rw [own8.cellAt k (by omega), List.getElem?_map, hx]; rfl
              have q2 := own8.frozenAt k
              have hx8 := xor8 x by_
              have hst1 := (own8.stored k (bv (x ^^^ by_))).1
              rw [← List.map_set] at hst1
              have hln1 : (out.set k (x ^^^ by_)).length = p := by rw [List.length_set]; exact HOL.out
              have hb9 : bv (x ^^^ by_) = .int .u8 ((x.toNat ^^^ by_.toNat : Nat) : Int) := by unfold bv; rw [UInt8.toNat_xor]
              obtain ⟨w9, hw9⟩ : ∃ w9, w8.setCell ⟨gb, k, none⟩ (.int .u8 ((x.toNat ^^^ by_.toNat : Nat) : Int)) = w9 := ⟨_, rfl⟩
              have hgbw : wb.heap.size ≤ gb := Nat.le_trans HST7.out.size hgb
              have own9 : w9.ownsRow w7.heap.size 5 1 (.slice (some ⟨gb, 0, none⟩) p c8) p ((out.set k (x ^^^ by_)).map bv) := by rw [← hw9, ← hb9]; exact hst1
              have b89 : Below w7.heap.size w7 w9 := by rw [← hw9]; exact hb.setCell (p := ⟨gb, k, none⟩) hgb _
              have hma := arena_any w9 32 16384 (some ⟨gb, 0, none⟩) c8 (out.set k (x ^^^ by_)) (by rw [hln1]; exact (own_facts own9).1) (by omega) (by omega) (by omega) (by omega) (by rw [hln1]; omega)
              rw [hln1] at hma
              have hc1 := head_byte HOL.out hp184 HWO.out HLI.out HW0.out hk1 hx hby
              have HMA := Lib.hid hma
              have HC1 := Lib.hid hc1
              have HLN1 := Lib.hid hln1
              have OWN9 := Lib.hid own9
              have HW9 := Lib.hid hw9
              have HX := Lib.hid hx
              have HST9 := Lib.hid (HST7.out.below b89)
              have HK9 := Lib.hid (HK7.out.trans (b89.mono (by have := HK7.out.size; have := HB0.out; omega)))
              have hki : (k : Int) < (p : Int) := by omega
              have hkb : (0 : Int) ≤ (k : Int) := by omega
              clear hb hb9 own8 hgb hk hx hst1 hln1 hw9 own9 b89 hma hc1 HBY HST7 HK7 hst8
              go_wp2_with fail
              refine (HPK.out _).mono ?_
              rintro e w10 ⟨rfl, rfl⟩
              clear HPK
              go_wp2_with fail
              rw [HW9.out]
              refine HMA.out.mono ?_
              rintro e w11 ⟨g2, A2', c2, rfl, har2, hb, _, _⟩
              have HCd := Lib.hid (HC.out w11 g2 32 16384 c2 A2' _ false har2 (by omega) (by rw [HLN1.out]; omega) HC1.out)
              have HST11 := Lib.hid (HST9.out.below hb)
              have own11 := own_below' OWN9.out hb
              have HK11 := Lib.hid (HK9.out.trans (hb.mono (by have := HK9.out.size; have := HB0.out; omega)))
              have OWN11 := Lib.hid own11
              clear har2 hb own11 HMA OWN9 HST9 HK9 HC1 HW9 q1 q2 hx8
              go_wp2_with fail
              refine HCd.out.mono ?_
              rintro e w12 ⟨rfl, hb⟩
              have own12 := own_below' OWN11.out hb
              have HST12 := Lib.hid (HST11.out.below hb)
              have HK12 := Lib.hid (HK11.out.trans (hb.mono (by have := HK11.out.size; have := HB0.out; omega)))
              have OWN12 := Lib.hid own12
              clear hb own12 HCd HST11 HK11 OWN11
              dsimp only [errV]
              by_cases hs0 : sl = 0
              · have hsz0 : ((sl : Int) == 0) = true := by rw [beq_iff_eq]; omega
                go_wp2
                go_ret
                exact ⟨rfl, by rw [HB0.out]; exact HK12.out⟩
              · have hsz0 : ((sl : Int) == 0) = false := by rw [beq_eq_false_iff_ne]; omega
                have hx := HX.out
                obtain ⟨y, hy⟩ : ∃ y, x ^^^ by_ = y := ⟨_, rfl⟩
                have own12 := OWN12.out
                rw [hy] at own12
                have hyx : y ^^^ by_ = x := by rw [← hy]; exact xor8_back x by_
                have q1 : w12.cell? ⟨gb, k, none⟩ = some (.int .u8 (y.toNat : Int)) := by
                  rw [own12.cellAt k (by omega), List.getElem?_map, List.getElem?_set_self (by rw [HOL.out]; omega)]; rfl
                have q2 := own12.frozenAt k
                have hx8 := xor8 y by_
                have hb13 : bv (y ^^^ by_) = .int .u8 ((y.toNat ^^^ by_.toNat : Nat) : Int) := by unfold bv; rw [UInt8.toNat_xor]
                have hst1 := (own12.stored k (bv (y ^^^ by_))).1
                rw [← List.map_set, List.set_set, hyx] at hst1
                have hset : out.set k x = out := by
                  apply List.ext_getElem?
                  intro i
                  by_cases e : k = i
                  · subst e; rw [List.getElem?_set_self (by rw [HOL.out]; omega), hx]
                  · rw [List.getElem?_set_ne e]
                rw [hset] at hst1
                rw [hyx] at hb13
                obtain ⟨w13, hw13⟩ : ∃ w13, w12.setCell ⟨gb, k, none⟩ (.int .u8 ((y.toNat ^^^ by_.toNat : Nat) : Int)) = w13 := ⟨_, rfl⟩
                have own13 : w13.ownsRow w7.heap.size 5 1 (.slice (some ⟨gb, 0, none⟩) p c8) p (out.map bv) := by rw [← hw13, ← hb13]; exact hst1
                have hbel13 : Below wb.heap.size wb w13 := by rw [← hw13]; exact HST12.out.bel.setCell (p := ⟨gb, k, none⟩) hgbw _
                obtain ⟨xi, hxi⟩ : ∃ xi, (at_ % (sl : Int)).toNat = xi := ⟨_, rfl⟩
                have hxi1 : xi < sl := by have := Int.emod_nonneg at_ (b := (sl : Int)) (by omega); have := Int.emod_lt_of_pos at_ (b := (sl : Int)) (by omega); omega
                have HPK := Lib.hid (fun W => lpick_any at_ sl W (by omega) (by omega) xi hxi)
                obtain ⟨bx, hbx⟩ : ∃ bx, l[xi]? = some bx := ⟨l[xi]'(by rw [HLJ.out]; exact hxi1), List.getElem?_eq_getElem _⟩
                obtain ⟨b, o, rfl, _, hc⟩ := (HBK.out.below hbel13) (by rw [HLJ.out]; omega)
                obtain ⟨p0, p1, p2⟩ := hc xi bx hbx
                have hm := (tile_mem l 184 p HTI.out).2 bx (List.mem_of_getElem? hbx)
                have hm' := (isSz_iff _).1 hm.2.2.1
                have hxo : bx.off < p := by omega
                obtain ⟨v, hv⟩ : ∃ v, out[bx.off]? = some v := ⟨out[bx.off]'(by rw [HOL.out]; exact hxo), List.getElem?_eq_getElem _⟩
                have hc2 := tag_byte HOL.out HWO.out (List.mem_of_getElem? hbx) hv hby HQW.out
                have HC2 := Lib.hid hc2
                have HV := Lib.hid hv
                have HXX := Lib.hid (xor8 v by_)
                have hxii : (xi : Int) < (sl : Int) := by omega
                obtain ⟨xo, xs, xu⟩ := bx
                dsimp only at p0 p1 p2 hxo HC2 HV
                obtain ⟨wd, hwd⟩ : ∃ wd, (w13.alloc (.cells #[.int .i64 (xo : Int), .int .i64 (xs : Int), .bool xu] 44)).drew = wd := ⟨_, rfl⟩
                have bd : Below w13.heap.size w13 wd := by rw [← hwd]; exact ((Below.refl _ _).alloc (Nat.le_refl _) _).drew
                have nd : wd.heap[w13.heap.size]? = some (.cells #[.int .i64 (xo : Int), .int .i64 (xs : Int), .bool xu] 44 (0, 0)) := by rw [← hwd]; exact heap_alloc_new w13 _
                have ownd := own_below' own13 bd
                have HW13 := Lib.hid hw13
                have HWD := Lib.hid hwd
                have HND := Lib.hid nd
                have OWND := Lib.hid ownd
                have HBD := Lib.hid (hbel13.trans (bd.mono hbel13.size))
                have hxoi : (xo : Int) < (p : Int) := by omega
                clear hx hy own12 hyx hb13 hst1 hset hw13 own13 hbel13 hxi hbx hc hm hm' hv hc2 hwd bd nd ownd HST12 OWN12
                go_wp2_with (first
                  | (rw [HW13.out])
                  | fail)
                refine (HPK.out _).mono ?_
                rintro e w14 ⟨rfl, rfl⟩
                clear HPK q1 q2 hx8
                go_wp2_with fail
                refine wp_region_tail wd.heap.size [] [0, 1, 2, 3, 4, 5, 6, 7, 8, 9, 10] [11] (by kernel_rfl) (by kernel_rfl) (by kernel_rfl) (fun _ _ _ _ _ h => h) ?_
                rw [HWD.out]
                have hcd := (blk_cells HND.out).1.1
                have hltd := heap_lt HND.out
                have hltb := (OWND.out.lt gb rfl).2
                have qv : wd.cell? ⟨gb, xo, none⟩ = some (.int .u8 (v.toNat : Int)) := by
                  rw [OWND.out.cellAt xo (by omega), List.getElem?_map, HV.out]; rfl
                have qf := OWND.out.frozenAt xo
                generalize w13.heap.size = g13 at *
                have t0 : ∀ z : LaterB wd.heap.size wd, z.val.cell? ⟨g13, 0, none⟩ = some (.int .i64 (xo : Int)) := fun z => (z.ext.cell (p := ⟨g13, 0, none⟩) hltd).trans hcd
                have t1 : ∀ z : LaterB wd.heap.size wd, z.val.cell? ⟨gb, xo, none⟩ = some (.int .u8 (v.toNat : Int)) := fun z => (z.ext.cell (p := ⟨gb, xo, none⟩) hltb).trans qv
                have hxx := HXX.out
                refine tail_last (l := ?laZ) (t := ?tlZ) ?hlaZ ?htlZ ?_
                case hlaZ => simp only [pick, List.getElem?_toArray, List.getElem?_cons_succ, List.getElem?_cons_zero]; rfl
                case htlZ => simp only [pick, List.getElem?_toArray, List.getElem?_cons_succ, List.getElem?_cons_zero]; rfl
                repeat (go_big_quiet_step (fail))
                refine wpQuiet_nil ?_
                clear t0 t1 hcd hltd
                have hbz : bv (v ^^^ by_) = .int .u8 ((v.toNat ^^^ by_.toNat : Nat) : Int) := by unfold bv; rw [UInt8.toNat_xor]
                have hsz1 := (OWND.out.stored xo (bv (v ^^^ by_))).1
                rw [← List.map_set] at hsz1
                obtain ⟨wz, hwz⟩ : ∃ wz, wd.setCell ⟨gb, xo, none⟩ (.int .u8 ((v.toNat ^^^ by_.toNat : Nat) : Int)) = wz := ⟨_, rfl⟩
                have ownz : wz.ownsRow w7.heap.size 5 1 (.slice (some ⟨gb, 0, none⟩) p c8) p ((out.set xo (v ^^^ by_)).map bv) := by rw [← hwz, ← hbz]; exact hsz1
                have hlz : (out.set xo (v ^^^ by_)).length = p := by rw [List.length_set]; exact HOL.out
                have hbz2 : Below wb.heap.size wb wz := by rw [← hwz]; exact HBD.out.setCell (p := ⟨gb, xo, none⟩) hgbw _
                have hmz := arena_any wz 32 16384 (some ⟨gb, 0, none⟩) c8 (out.set xo (v ^^^ by_)) (by rw [hlz]; exact (own_facts ownz).1) (by omega) (by omega) (by omega) (by omega) (by rw [hlz]; omega)
                rw [hlz] at hmz
                have HMZ := Lib.hid hmz
                have HLZ := Lib.hid hlz
                have HWZ := Lib.hid hwz
                have HKZ := Lib.hid (HK3.out.trans (hbz2.mono (by have := HK3.out.size; have := HB0.out; omega)))
                clear hbz hsz1 hwz ownz hlz hbz2 hmz OWND HND HBD HWD HV HXX
                go_wp2_with (first
                  | (rw [HWZ.out])
                  | fail)
                refine HMZ.out.mono ?_
                rintro e w16 ⟨g3, A3', c3', rfl, har3, hb, _, _⟩
                have HCz := Lib.hid (HC.out w16 g3 32 16384 c3' A3' _ false har3 (by omega) (by rw [HLZ.out]; omega) HC2.out)
                have HK16 := Lib.hid (HKZ.out.trans (hb.mono (by have := HKZ.out.size; have := HB0.out; omega)))
                clear har3 hb HMZ HKZ
                go_wp2_with fail
                refine HCz.out.mono ?_
                rintro e w17 ⟨rfl, hb⟩
                have HK17 := Lib.hid (HK16.out.trans (hb.mono (by have := HK16.out.size; have := HB0.out; omega)))
                clear hb HCz HK16
                dsimp only [errV]
                go_wp2
                go_ret
                exact ⟨rfl, by rw [HB0.out]; exact HK17.out⟩

set_option maxRecDepth 100000 in
set_option maxHeartbeats 1000000 in
theorem cb_long (HC : CheckC) (w : World) (A1 : Option Addr) (k1 sl : Nat) (hl : 40 < sl) (A2 : Option Addr) (k2 ul : Nat) (at_ by_ : Int) :
    Calls Try.prog 4 #[.slice A1 sl k1, .slice A2 ul k2, .int .i64 at_, .int .u8 by_] w fun e w' => e = .returned (.bool true) ∧ Below w.heap.size w w' := by
  have s0 : decide ((40 : Int) < (sl : Int)) = true := decide_eq_true (by omega)
  have HUP := Lib.hid (up11_any HC)
  clear HC
  go_enter Try.func4, Try.ntmps4
  go_wp2_with fail
  refine (HUP.out _).mono ?_
  rintro e w1 ⟨rfl, hb⟩
  have HK := Lib.hid hb
  clear hb
  go_wp2
  go_ret
  exact ⟨rfl, HK.out⟩

theorem cb_any (HS : SetC) (HR : RebuildC) (HC : CheckC) (w : World) (A1 : Option Addr) (k1 : Nat) (ls : List Int) (hI : IRd w w.heap.size A1 ls) (A2 : Option Addr) (k2 : Nat) (us : List Bool) (hU : Boo w A2 us) (at_ : Int) (by_ : UInt8) :
    Calls Try.prog 4 #[.slice A1 ls.length k1, .slice A2 us.length k2, .int .i64 at_, .int .u8 (by_.toNat : Int)] w fun e w' => e = .returned (.bool true) ∧ Below w.heap.size w w' := by
  by_cases hl : 40 < ls.length
  · exact cb_long HC w A1 k1 ls.length hl A2 k2 us.length at_ _
  · exact cb_main HS HR HC w A1 k1 ls hI (by omega) A2 k2 us hU at_ by_

end Go.Proofs.Ytcjjpffkmajehaa
