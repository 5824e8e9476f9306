/- Texts of mine, joined: Tak4, Tak5. -/
import Derived.Test.YtdjjbmefaggelaaGreatK8

/- The contracts of the program's Used, Give, Trim (layer 12). -/
namespace Go.Proofs.YtdjjbmefaggelaaGreat
open Go.RowKit

theorem used_hit {l : List Bk} {e : Nat} (ht : tile 184 l e) {j : Nat} {x : Bk} {o : Int} (hx : l[j]? = some x) (ho : (x.off : Int) = o) (hu : x.used = true) : (usedB l o).map (bkAt l) = some x := by
  have hxm := List.mem_of_getElem? hx
  obtain ⟨i, h1, h2, h3⟩ := atB_of ht hxm
  unfold usedB
  rw [← ho, h1]
  dsimp only
  rw [h3, hu, if_pos rfl, Option.map_some, h3]
theorem used_miss {l : List Bk} {o : Int} (h : ∀ (i : Nat) (x : Bk), l[i]? = some x → ¬((x.off : Int) = o ∧ x.used = true)) : usedB l o = none := by
  unfold usedB
  cases hi : atB o l with
  | none => rfl
  | some i =>
    obtain ⟨x, h1, h2⟩ := atB_some hi
    dsimp only
    rw [if_neg]
    intro hu
    rw [bkAt_of h1] at hu
    exact h i x h1 ⟨h2, hu⟩
theorem used_at {l : List Bk} {o : Int} {i : Nat} (h : usedB l o = some i) : i < l.length ∧ ((bkAt l i).off : Int) = o ∧ (bkAt l i).used = true := by
  unfold usedB at h
  cases hi : atB o l with
  | none => rw [hi] at h; cases h
  | some k =>
    rw [hi] at h
    dsimp only at h
    split at h
    · rename_i hu
      injection h with h
      subst h
      obtain ⟨x, h1, h2⟩ := atB_some hi
      exact ⟨lst_lt h1, by rw [bkAt_of h1]; exact h2, hu⟩
    · cases h
theorem below_in {B : Nat} {w w' : World} (h : Below B w w') {b j : Nat} {v : Value} (hc : w.cell? ⟨b, j, none⟩ = some v) (hb : b < B) : w'.cell? ⟨b, j, none⟩ = some v :=
  (h.cell (p := ⟨b, j, none⟩) hb).trans hc

set_option maxRecDepth 100000 in
set_option maxHeartbeats 1000000 in
theorem usedK : UsedK := by
  intro w g base cap c A bs H o h hb hcap hc hR ho
  obtain ⟨l, hl⟩ : ∃ l, H.blks = l := ⟨_, rfl⟩
  rw [hl]
  have hwk := hR.walk
  rw [hl] at hwk
  have ht := (walkB_tiles hwk).2.1
  have hbl := (hR.bound (by omega)).1
  have hll := walkB_len hwk
  obtain ⟨y, hy⟩ : ∃ y, (usedB l o).map (bkAt l) = y := ⟨_, rfl⟩
  rw [hy]
  have HHIT : Hid (∀ (j : Nat) (x : Bk), l[j]? = some x → (x.off : Int) = o → x.used = true → some x = y) := fun j x hx ho hu => by rw [← hy]; exact (used_hit ht hx ho hu).symm
  have HMISS : Hid ((∀ (i : Nat) (x : Bk), l[i]? = some x → ¬((x.off : Int) = o ∧ x.used = true)) → none = y) := fun hm => by rw [← hy, used_miss hm]; rfl
  obtain ⟨w1, hw1⟩ : ∃ w1, w.alloc (.cells #[.int .i64 0, .int .i64 0, .bool false] 53) = w1 := ⟨_, rfl⟩
  have hb1 : Below w.heap.size w w1 := by rw [← hw1]; exact (Below.refl _ _).alloc (Nat.le_refl _) _
  have hn1 : w1.heap[w.heap.size]? = some (.cells #[.int .i64 0, .int .i64 0, .bool false] 53 (0, 0)) := by rw [← hw1]; exact heap_alloc_new w _
  have hW := walkC w1 g base cap c A bs _ (h.below hb1) hb hbl hwk
  dsimp only [BlksTold, Option.isSome, Option.getD, errV] at hW
  have HW := Lib.hid hW
  have HW1 := Lib.hid hw1
  have HB1 := Lib.hid hb1
  have HN1 := Lib.hid hn1
  clear hW hw1 hb1 hn1 h hR hwk ht hy hl hb hcap hc
  go_enter Tryz.func31, Tryz.ntmps31
  go_wp2_with fail
  rw [HW1.out]
  with_reducible refine HW.out.mono ?_
  rintro e w2 ⟨A2, c2, rfl, ho2, hb2⟩
  have hcl : l.length ≤ c2 ∧ c2 ≤ 9223372036854775807 := by
    rcases ho2.2 with ⟨h', h0⟩ | ⟨_, _, _, h', _, _, h1, h2, _⟩
    · injection h' with _ _ e; rw [h0, e]; omega
    · injection h' with _ _ e; unfold maxLen at h2; omega
  have HR := Lib.hid (BkRd.of_own ho2)
  have HB2 := Lib.hid (HB1.out.trans (hb2.mono HB1.out.size))
  have HN2 := Lib.hid ((hb2.block w.heap.size (heap_lt HN1.out)).trans HN1.out)
  clear ho2 hb2 HW HN1 HB1
  go_wp2
  go_loopw [21] (fun t wr => ∃ j : Nat, t = .int .i64 (j : Int) ∧ j ≤ l.length ∧ (∀ (i : Nat) (x : Bk), i < j → l[i]? = some x → ¬((x.off : Int) = o ∧ x.used = true)) ∧ Below w2.heap.size w2 wr) (fun t _ => l.length - (intOf t).toNat)
  case atStart => exact ⟨0, rfl, Nat.zero_le _, fun i x hi => absurd hi (Nat.not_lt_zero _), Below.refl _ _⟩
  case round =>
    obtain ⟨j, rfl, hj, hno, hbe⟩ := hrel
    have nl := (hbe.block w.heap.size (heap_lt HN2.out)).trans HN2.out
    have hfin := HB2.out.trans (hbe.mono HB2.out.size)
    by_cases hlt : j < l.length
    · obtain ⟨x, hx⟩ : ∃ x, l[j]? = some x := ⟨l[j], List.getElem?_eq_getElem hlt⟩
      obtain ⟨b2, q, rfl, hbb, hcl2⟩ := HR.out (by omega)
      obtain ⟨p0, p1, p2⟩ := hcl2 j x hx
      have r0 := below_in hbe p0 hbb
      have r1 := below_in hbe p1 hbb
      have r2 := below_in hbe p2 hbb
      have HIT := Lib.hid (HHIT.out j x hx)
      have HNO : Hid (¬((x.off : Int) = o ∧ x.used = true) → ∀ (i : Nat) (z : Bk), i < j + 1 → l[i]? = some z → ¬((z.off : Int) = o ∧ z.used = true)) := fun hx2 i z hi hz => by
        by_cases hij : i < j
        · exact hno i z hij hz
        · obtain rfl : i = j := by omega
          rw [hx] at hz
          injection hz with hz
          rw [← hz]
          exact hx2
      obtain ⟨xo, xs, xu⟩ := x
      dsimp only at p0 p1 p2 r0 r1 r2
      obtain ⟨w4, hw4⟩ : ∃ w4, wr.alloc (.cells #[.int .i64 (xo : Int), .int .i64 (xs : Int), .bool xu] 53) = w4 := ⟨_, rfl⟩
      have hb4 : Below w2.heap.size w2 w4 := by rw [← hw4]; exact hbe.alloc hbe.size _
      have n4 : w4.heap[wr.heap.size]? = some (.cells #[.int .i64 (xo : Int), .int .i64 (xs : Int), .bool xu] 53 (0, 0)) := by rw [← hw4]; exact heap_alloc_new wr _
      have nl4 : w4.heap[w.heap.size]? = some (.cells #[.int .i64 0, .int .i64 0, .bool false] 53 (0, 0)) := by rw [← hw4]; exact (heap_alloc_old _ _ (heap_lt nl)).trans nl
      have hf4 : Below w.heap.size w w4 := by rw [← hw4]; exact hfin.alloc hfin.size _
      obtain ⟨⟨d0, d1, d2⟩, _⟩ := blk_cells n4
      have HW4 := Lib.hid hw4
      have HB4 := Lib.hid hb4
      have HF4 := Lib.hid hf4
      have NL4 := Lib.hid nl4
      have HNEQ := Lib.hid (show wr.heap.size ≠ w.heap.size from fun e => by have := heap_lt nl; omega)
      clear hx hbe p0 p1 p2 hb4 n4 hw4 hcl2 hno nl nl4 hf4 hfin
      by_cases hxo : (xo : Int) = o
      · have e1 : ((xo : Int) == o) = true := by rw [beq_iff_eq]; exact hxo
        cases xu with
        | true =>
          obtain rfl := HIT.out hxo rfl
          obtain ⟨⟨c0, c1, c2⟩, f0, f1, f2⟩ := blk_cells NL4.out
          have hlt4 := heap_lt' NL4.out
          clear hxo HHIT HMISS HIT HNO
          go_wp2_with (first | (rw [HW4.out]) | fail)
          (try simp only [Exit.inBlock, Exit.then])
          refine blk_ret (x := .nilIface) (g := w.heap.size) (o := (xo : Int)) (s := (xs : Int)) (b := true) Tryz.results31 ?_ ?_ ?_ ?_ ?_
          · rfl
          · rfl
          · rfl
          · exact blk_set NL4.out _ _ _
          · exact ⟨rfl, ((HF4.out.setCell (Nat.le_refl _) _).setCell (Nat.le_refl _) _).setCell (Nat.le_refl _) _⟩
        | false =>
          have HNO2 := Lib.hid (HNO.out (fun hh => by cases hh.2))
          clear hxo HHIT HMISS HIT HNO
          go_wp2_with (first | (rw [HW4.out]) | fail)
          go_roundw
          case rel => exact ⟨j + 1, by go_num, by omega, HNO2.out, HB4.out⟩
          case measure => simp only [intOf]; omega
      · have e1 : ((xo : Int) == o) = false := by rw [beq_eq_false_iff_ne]; exact hxo
        have HNO2 := Lib.hid (HNO.out (fun hh => hxo hh.1))
        clear hxo HHIT HMISS HIT HNO
        go_wp2_with (first | (rw [HW4.out]) | fail)
        go_roundw
        case rel => exact ⟨j + 1, by go_num, by omega, HNO2.out, HB4.out⟩
        case measure => simp only [intOf]; omega
    · obtain rfl := HMISS.out (fun i x hx => hno i x (by have := lst_lt hx; omega) hx)
      have NL := Lib.hid nl
      have HF := Lib.hid hfin
      obtain ⟨⟨c0, c1, c2⟩, f0, f1, f2⟩ := blk_cells NL.out
      have hlt4 := heap_lt' NL.out
      clear hno hbe nl hfin HHIT HMISS
      go_wp2
      (try simp only [Exit.inBlock, Exit.then])
      refine blk_ret (x := .iface 75 (.int .i64 3)) (g := w.heap.size) (o := 0) (s := 0) (b := false) Tryz.results31 ?_ ?_ ?_ ?_ ?_
      · rfl
      · rfl
      · rfl
      · exact blk_set NL.out _ _ _
      · exact ⟨rfl, ((HF.out.setCell (Nat.le_refl _) _).setCell (Nat.le_refl _) _).setCell (Nat.le_refl _) _⟩

section
variable {w : World} {g base cap c : Nat} {A : Option Addr} {bs : List UInt8} {H : Hp}
set_option maxRecDepth 100000 in
set_option maxHeartbeats 1000000 in
theorem giveK : GiveK := by
  intro w g base cap c A bs H o h hb hcap hc hR ho
  have hU := usedK w g base cap c A bs H o h hb hcap hc hR ho
  have BC := Lib.hid (show Became 88 g base cap A bs w w from ⟨A, c, h, Tch.refl _ _, .inl rfl⟩)
  cases hi : usedB H.blks o with
  | none =>
    have e : H.giveO o = none := by unfold Hp.giveO; rw [hi]; rfl
    rw [e]
    rw [hi] at hU
    dsimp only [BlkTold, bkV, Bk.val, Option.isSome, errV, Option.map] at hU
    dsimp only [Turned, errV]
    have HU := Lib.hid hU
    clear hU hi e h hR
    go_enter Tryz.func27, Tryz.ntmps27
    go_wp2_with fail
    with_reducible refine HU.out.mono ?_
    rintro e w2 ⟨rfl, hb2⟩
    have HB2 := Lib.hid (hb2.alloc hb2.size (.cells #[.int .i64 0, .int .i64 0, .bool false] 53))
    clear hb2 HU
    go_wp2
    go_ret
    exact ⟨rfl, HB2.out⟩
  | some i =>
    obtain ⟨h1, h2, h3⟩ := used_at hi
    have e : H.giveO o = some (H.give i) := by unfold Hp.giveO; rw [hi]; rfl
    rw [e]
    rw [hi] at hU
    obtain ⟨m1, m2⟩ := mid_split h1
    obtain ⟨A1, p, n, B1, eA, eB, hN⟩ := near_of (H.blks.take i) (H.blks.drop (i + 1))
    obtain ⟨x, hx⟩ : ∃ x, bkAt H.blks i = x := ⟨_, rfl⟩
    rw [hx] at m1 h2 h3
    have hm : Option.map (bkAt H.blks) (some i) = some x := by rw [← hx]; rfl
    rw [hm] at hU
    obtain ⟨xo, xs, xu⟩ := x
    dsimp only at h2 h3
    subst h3
    dsimp only [BlkTold, bkV, Bk.val, Option.isSome, errV] at hU
    dsimp only [Turned, errV]
    have hbk : H.blks = (A1 ++ p.toList) ++ ⟨xo, xs, true⟩ :: (n.toList ++ B1) := by rw [← eA, ← eB]; exact m1
    have hlen : (A1 ++ p.toList).length = i := by rw [← eA]; exact m2
    have HG := Lib.hid (fun w2 (hB : Became 88 g base cap A bs w w2) => bc_give hB hb hcap hc hR hbk hN)
    have HHELD := Lib.hid (fun out hP => hR.gave (by omega) hbk hN (out := out) hP)
    rw [hlen] at HG HHELD
    have HU := Lib.hid hU
    clear hU hi e h hR eA eB hN hbk m1 m2 hm hx h2
    go_enter Tryz.func27, Tryz.ntmps27
    go_wp2_with fail
    with_reducible refine HU.out.mono ?_
    rintro e w2 ⟨rfl, hb2⟩
    obtain ⟨w3, hw3⟩ : ∃ w3, w2.alloc (.cells #[.int .i64 (xo : Int), .int .i64 (xs : Int), .bool true] 53) = w3 := ⟨_, rfl⟩
    have n3 : w3.heap[w2.heap.size]? = some (.cells #[.int .i64 (xo : Int), .int .i64 (xs : Int), .bool true] 53 (0, 0)) := by rw [← hw3]; exact heap_alloc_new w2 _
    have hb3 : Below w.heap.size w w3 := by rw [← hw3]; exact hb2.alloc hb2.size _
    have HG3 := Lib.hid (HG.out w3 (became_below BC.out hb3))
    obtain ⟨⟨d0, d1, d2⟩, _⟩ := blk_cells n3
    have hlt3 := heap_lt' n3
    have HW3 := Lib.hid hw3
    clear hb2 HU HG BC hw3 n3 hb3
    go_wp2_with (first | (rw [HW3.out]) | fail)
    refine HG3.out.mono ?_
    clear d0 d1 d2 hlt3
    rintro e w4 ⟨rfl, out, hB, hR, hP⟩
    have HB := Lib.hid hB
    have HR := Lib.hid hR
    have HH := Lib.hid (HHELD.out out hP)
    clear hB hR hP HG3 HHELD
    go_wp2
    go_ret
    exact ⟨rfl, out, HB.out, HR.out, HH.out⟩

set_option maxRecDepth 100000 in
set_option maxHeartbeats 1000000 in
theorem trimK : TrimK := by
  intro w g base cap c A bs H o s h hb hcap hc hR ho hsr
  have hC := classC w s hsr
  constructor
  · intro hs
    have e : classI s = -1 := by simp [classI, hs]
    rw [e] at hC
    dsimp only [errV]
    have HC := Lib.hid hC
    clear hC e hs h hR
    go_enter Tryz.func29, Tryz.ntmps29
    go_wp2_with fail
    with_reducible refine HC.out.mono ?_
    rintro e w2 ⟨rfl, hb2⟩
    have HB2 := Lib.hid hb2
    clear hb2 HC
    go_wp2
    go_ret
    exact ⟨rfl, HB2.out⟩
  · intro hs
    have hq := (isSz_iff _).1 hs
    obtain ⟨n, rfl⟩ : ∃ n : Nat, s = (n : Int) := ⟨s.toNat, by omega⟩
    rw [Int.toNat_natCast]
    obtain ⟨k, hk, hk2⟩ := class_nat (x := ⟨0, n, false⟩) hs
    have hk : classI (n : Int) = (k : Int) := hk
    rw [hk] at hC
    have HC := Lib.hid hC
    have BC := Lib.hid (show Became 88 g base cap A bs w w from ⟨A, c, h, Tch.refl _ _, .inl rfl⟩)
    have HU := Lib.hid (fun w1 (hB : Below w.heap.size w w1) => usedK w1 g base cap c A bs H o (h.below hB) hb hcap hc hR ho)
    cases hi : usedB H.blks o with
    | none =>
      have e : H.trimO o n = none := by unfold Hp.trimO; rw [hi]
      rw [e]
      rw [hi] at HU
      dsimp only [BlkTold, bkV, Bk.val, Option.isSome, errV, Option.map] at HU
      dsimp only [Turned, errV]
      clear hC hi e h hR hk
      go_enter Tryz.func29, Tryz.ntmps29
      go_wp2_with fail
      with_reducible refine HC.out.mono ?_
      rintro e w1 ⟨rfl, hb1⟩
      have HU1 := Lib.hid (HU.out w1 hb1)
      have HB1 := Lib.hid hb1
      clear hb1 HC HU
      go_wp2_with fail
      with_reducible refine HU1.out.mono ?_
      rintro e w2 ⟨rfl, hb2⟩
      have hb2' := HB1.out.trans (hb2.mono HB1.out.size)
      have HB2 := Lib.hid (hb2'.alloc hb2'.size (.cells #[.int .i64 0, .int .i64 0, .bool false] 53))
      clear hb2 hb2' HU1
      go_wp2
      go_ret
      exact ⟨rfl, HB2.out⟩
    | some i =>
      obtain ⟨h1, h2, h3⟩ := used_at hi
      rw [hi] at HU
      obtain ⟨m1, m2⟩ := mid_split h1
      obtain ⟨x, hx⟩ : ∃ x, bkAt H.blks i = x := ⟨_, rfl⟩
      rw [hx] at m1 h2 h3
      have hm : Option.map (bkAt H.blks) (some i) = some x := by rw [← hx]; rfl
      rw [hm] at HU
      have hxb := (hR.bound (by omega)).2 x (by rw [m1]; simp)
      have hbl := (hR.bound (by omega)).1
      obtain ⟨xo, xs, xu⟩ := x
      dsimp only at h2 h3 hxb
      subst h3
      dsimp only [BlkTold, bkV, Bk.val, Option.isSome, errV] at HU
      by_cases hlt : xs < n
      · have e : H.trimO o n = none := by unfold Hp.trimO; rw [hi]; dsimp only; rw [hx]; dsimp only; rw [if_pos hlt]
        rw [e]
        dsimp only [Turned, errV]
        have e2 : decide ((xs : Int) < (n : Int)) = true := decide_eq_true (by omega)
        clear hC hi e h hR hk m1 m2 hm hx h2
        go_enter Tryz.func29, Tryz.ntmps29
        go_wp2_with fail
        with_reducible refine HC.out.mono ?_
        rintro e w1 ⟨rfl, hb1⟩
        have HU1 := Lib.hid (HU.out w1 hb1)
        have HB1 := Lib.hid hb1
        clear hb1 HC HU
        go_wp2_with fail
        with_reducible refine HU1.out.mono ?_
        rintro e w2 ⟨rfl, hb2⟩
        have hb2' := HB1.out.trans (hb2.mono HB1.out.size)
        have HB2 := Lib.hid (hb2'.alloc hb2'.size (.cells #[.int .i64 (xo : Int), .int .i64 (xs : Int), .bool true] 53))
        clear hb2 hb2' HU1
        go_wp2
        go_ret
        exact ⟨rfl, HB2.out⟩
      · have e : H.trimO o n = some (H.cut i n) := by unfold Hp.trimO; rw [hi]; dsimp only; rw [hx]; dsimp only; rw [if_neg hlt]
        rw [e]
        dsimp only [Turned, errV]
        have HG := Lib.hid (fun w2 (hB : Became 88 g base cap A bs w w2) => cut_any hB hb hcap hc hR m1 hs (Nat.le_of_not_lt hlt))
        rw [m2] at HG
        have e2 : decide ((xs : Int) < (n : Int)) = false := decide_eq_false (by omega)
        clear hC hi e h hR hk m1 m2 hm hx h2
        go_enter Tryz.func29, Tryz.ntmps29
        go_wp2_with fail
        with_reducible refine HC.out.mono ?_
        rintro e w1 ⟨rfl, hb1⟩
        have HU1 := Lib.hid (HU.out w1 hb1)
        have HB1 := Lib.hid hb1
        clear hb1 HC HU
        go_wp2_with fail
        with_reducible refine HU1.out.mono ?_
        rintro e w2 ⟨rfl, hb2⟩
        have hb2' := HB1.out.trans (hb2.mono HB1.out.size)
        obtain ⟨w3, hw3⟩ : ∃ w3, w2.alloc (.cells #[.int .i64 (xo : Int), .int .i64 (xs : Int), .bool true] 53) = w3 := ⟨_, rfl⟩
        have n3 : w3.heap[w2.heap.size]? = some (.cells #[.int .i64 (xo : Int), .int .i64 (xs : Int), .bool true] 53 (0, 0)) := by rw [← hw3]; exact heap_alloc_new w2 _
        have hb3 : Below w.heap.size w w3 := by rw [← hw3]; exact hb2'.alloc hb2'.size _
        have HG3 := Lib.hid (HG.out w3 (became_below BC.out hb3))
        obtain ⟨⟨d0, d1, d2⟩, _⟩ := blk_cells n3
        have hlt3 := heap_lt' n3
        have HW3 := Lib.hid hw3
        clear hb2 hb2' HU1 HG BC hw3 n3 hb3
        go_wp2_with (first | (rw [HW3.out]) | fail)
        refine HG3.out.mono ?_
        clear d0 d1 d2 hlt3
        rintro e w4 ⟨rfl, out, hB, hR, hH, _⟩
        have HB := Lib.hid hB
        have HR := Lib.hid hR
        have HH := Lib.hid hH
        clear hB hR hH HG3
        go_wp2
        go_ret
        exact ⟨rfl, out, HB.out, HR.out, HH.out⟩
end
end Go.Proofs.YtdjjbmefaggelaaGreat

/- The contract of the program's Take (layer 12): a free block that Find tells; else one at the end. -/
namespace Go.Proofs.YtdjjbmefaggelaaGreat
open Go.RowKit

section
variable {w w1 : World} {g base cap c : Nat} {A : Option Addr} {bs : List UInt8} {H : Hp}
set_option maxRecDepth 100000 in
set_option maxHeartbeats 2000000 in
theorem takeFree_any (h : Became 88 g base cap A bs w w1) (hbase : base ≤ 4611686018427387904) (hcap : cap ≤ 16384) (hc : H.cap = cap) (hR : Rt bs H) {A0 B0 : List Bk} {xo xs s : Nat} (hb : H.blks = A0 ++ ⟨xo, xs, false⟩ :: B0) (hs : isSz (s : Int) = true) (hle : s ≤ xs) :
    Calls Tryz.prog 59 #[.pointer (some ⟨g, 0, none⟩), .int .i64 (xo : Int), .int .i64 (s : Int)] w1 fun e w2 => e = .returned .nilIface ∧ ∃ out, Became 88 g base cap A out w w2 ∧ Rt out ((H.out A0.length).cut A0.length s) ∧ Held H bs ((H.out A0.length).cut A0.length s) out := by
  obtain ⟨b1, e1, e2, l1, l2, hblk, hR2, hP⟩ := hR.uses (by omega) hb rfl
  dsimp only at e1 e2 l2 hblk hR2 hP
  obtain ⟨b2, hb2⟩ : ∃ b2, setT b1 ⟨xo, xs, true⟩ = b2 := ⟨_, rfl⟩
  rw [hb2] at e2 l2 hR2 hP
  have hM := hR.md (by omega)
  obtain ⟨hl, hbd⟩ := hR.bound (by omega)
  have hxm : (⟨xo, xs, false⟩ : Bk) ∈ H.blks := by rw [hb]; simp
  have hx := hbd _ hxm
  dsimp only at hx
  have hat : frO (getB bs (xo : Int)) = some ⟨xo, xs, false⟩ := by
    have := hM.ls.st.at_ _ hxm
    dsimp only at this
    rw [this]; rfl
  have hcut : ((H.out A0.length).use A0.length true).cut A0.length s = (H.out A0.length).cut A0.length s := cut_use (by show A0.length < H.blks.length; rw [hb]; simp)
  have h1 := bc_at h hbase hl (xo : Int) (by omega) _ hat
  dsimp only [frV] at h1
  have H1 := Lib.hid h1
  have HSZ := Lib.hid (show w.heap.size ≤ w1.heap.size by obtain ⟨_, _, _, ht, _⟩ := h; exact ht.size)
  have HO := Lib.hid (fun w2 (hB : Became 88 g base cap A bs w w2) => bc_out hB hbase hl (xo : Int) (some ⟨xo, xs, false⟩) (fun z hz => by cases hz; dsimp only; omega) (b2 := b1) e1)
  have HS := Lib.hid (fun w2 (hB : Became 88 g base cap A b1 w w2) => bc_set hB hbase (by omega) xo xs true (by omega) (by omega) e2)
  have HC := Lib.hid (fun w2 (hB : Became 88 g base cap A b2 w w2) => cut_any hB hbase hcap (H := (H.out A0.length).use A0.length true) hc hR2 hblk hs hle)
  rw [hcut] at HC
  have HH := Lib.hid (fun out => hR.usedHeld (by omega) hb (out := out) (H3 := (H.out A0.length).cut A0.length s) hblk hP)
  dsimp only [frV] at HO
  clear h1 hcut hat hx hxm hbd hM hb2 e1 e2 hblk hR2 hP hR hb h
  go_enter Tryz.func59, Tryz.ntmps59
  go_wp2_with fail
  with_reducible refine H1.out.mono ?_
  rintro e w2 ⟨rfl, hB2, hb2⟩
  obtain ⟨w3, hw3⟩ : ∃ w3, w2.alloc (.cells #[.int .i64 (xo : Int), .int .i64 (xs : Int), .bool false] 53) = w3 := ⟨_, rfl⟩
  have n3 : w3.heap[w2.heap.size]? = some (.cells #[.int .i64 (xo : Int), .int .i64 (xs : Int), .bool false] 53 (0, 0)) := by rw [← hw3]; exact heap_alloc_new w2 _
  have B3 := became_alloc hB2 (.cells #[.int .i64 (xo : Int), .int .i64 (xs : Int), .bool false] 53)
  rw [hw3] at B3
  have HO3 := Lib.hid (HO.out w3 B3)
  have HLE := Lib.hid (Nat.le_trans HSZ.out hb2.size)
  obtain ⟨⟨d0, d1, d2⟩, _⟩ := blk_cells n3
  have hlt3 := heap_lt' n3
  have N3 := Lib.hid n3
  have HW3 := Lib.hid hw3
  clear hB2 hb2 H1 HO hw3 n3 B3 HSZ
  go_wp2_with (first | (rw [HW3.out]) | fail)
  refine HO3.out.mono ?_
  clear d0 d1 d2 hlt3
  rintro e w4 ⟨rfl, hB4, hL4⟩
  have n4 := hL4 _ _ N3.out
  obtain ⟨w5, hw5⟩ : ∃ w5, w4.setCell ⟨w2.heap.size, 2, none⟩ (.bool true) = w5 := ⟨_, rfl⟩
  have n5 := heap_setCell_same w4 w2.heap.size 2 _ _ (.bool true) n4
  have B5 := became_loc hB4 n4 HLE.out 2 (.bool true)
  rw [hw5] at n5 B5
  have n5 : w5.heap[w2.heap.size]? = some (.cells #[.int .i64 (xo : Int), .int .i64 (xs : Int), .bool true] 53 (0, 0)) := n5
  have HS5 := Lib.hid (HS.out w5 B5)
  obtain ⟨⟨c0, c1, c2⟩, f0, f1, f2⟩ := blk_cells n4
  have hlt4 := heap_lt' n4
  obtain ⟨⟨d0, d1, d2⟩, _⟩ := blk_cells n5
  have hlt5 := heap_lt' n5
  have N5 := Lib.hid n5
  have HW5 := Lib.hid hw5
  clear hB4 hL4 HO3 HS hw5 n4 n5 B5 N3
  go_wp2_with (first | (rw [HW5.out]) | fail)
  refine HS5.out.mono ?_
  clear c0 c1 c2 f0 f1 f2 hlt4 d0 d1 d2 hlt5
  rintro e w6 ⟨rfl, hB6, hL6⟩
  have n6 := hL6 _ _ N5.out
  have HC6 := Lib.hid (HC.out w6 hB6)
  obtain ⟨⟨d0, d1, d2⟩, _⟩ := blk_cells n6
  have hlt6 := heap_lt' n6
  clear hB6 hL6 HS5 HC n6 N5
  go_wp2_with fail
  refine HC6.out.mono ?_
  clear d0 d1 d2 hlt6
  rintro e w7 ⟨rfl, out, hB, hR, _, hP⟩
  have HB := Lib.hid hB
  have HR := Lib.hid hR
  have HHH := Lib.hid (HH.out out hP)
  clear hB hR hP HC6 HH
  go_wp2
  go_ret
  exact ⟨rfl, out, HB.out, HR.out, HHH.out⟩

set_option maxRecDepth 100000 in
set_option maxHeartbeats 2000000 in
theorem takeAtEnd_no (h : Ar w 88 g base cap A c bs) (hbase : base ≤ 4611686018427387904) (hcap : cap ≤ 16384) (hl : bs.length ≤ cap) (p : Option Bk) (hp : frO (aheadB bs (bs.length : Int)) = p) (s z : Nat) (hz : (p.map Bk.size).getD 0 = z) (hzs : z ≤ s) (hs : s ≤ 16384) (hlt : cap < bs.length + (s - z)) :
    Calls Tryz.prog 58 #[.pointer (some ⟨g, 0, none⟩), .int .i64 (s : Int)] w fun e w' => e = .returned (.tuple #[.int .i64 0, errV false 5]) ∧ Below w.heap.size w w' := by
  have HL := Lib.hid (len_any h)
  have h1 := freeAhead_any h hbase (by omega) (bs.length : Int) (by omega) p hp
  rw [frV_eq, hz] at h1
  obtain ⟨fo, hfo⟩ : ∃ fo : Int, (p.map fun z => (z.off : Int)).getD (bs.length : Int) = fo := ⟨_, rfl⟩
  rw [hfo] at h1
  have H1 := Lib.hid h1
  have HG := Lib.hid (fun w2 (hB : Below w.heap.size w w2) => grow_full (h.below hB) (s - z) hl hcap hlt)
  have e1 : ((s - z : Nat) : Int) = (s : Int) - (z : Int) := Int.ofNat_sub hzs
  rw [e1] at HG
  have hfz : z ≤ 16384 := by omega
  dsimp only [errV]
  clear h1 hfo hz h hp hlt e1
  go_enter Tryz.func58, Tryz.ntmps58
  go_wp2_with fail
  with_reducible refine HL.out.mono ?_
  rintro e w1 ⟨rfl, rfl⟩
  go_wp2_with fail
  with_reducible refine H1.out.mono ?_
  rintro e w2 ⟨rfl, hb2⟩
  obtain ⟨w3, hw3⟩ : ∃ w3, w2.alloc (.cells #[.int .i64 fo, .int .i64 (z : Int), .bool false] 53) = w3 := ⟨_, rfl⟩
  have n3 : w3.heap[w2.heap.size]? = some (.cells #[.int .i64 fo, .int .i64 (z : Int), .bool false] 53 (0, 0)) := by rw [← hw3]; exact heap_alloc_new w2 _
  have hb3 : Below w.heap.size w w3 := by rw [← hw3]; exact hb2.alloc hb2.size _
  have HG3 := Lib.hid (HG.out w3 hb3)
  obtain ⟨⟨d0, d1, d2⟩, _⟩ := blk_cells n3
  have hlt3 := heap_lt' n3
  have HW3 := Lib.hid hw3
  have HB3 := Lib.hid hb3
  clear hb2 H1 HG HL hw3 n3 hb3
  go_wp2_with (first | (rw [HW3.out]) | fail)
  refine HG3.out.mono ?_
  clear d0 d1 d2 hlt3
  rintro e w4 ⟨rfl, k, rfl⟩
  have HB4 : Hid (Below w.heap.size w (w3.drewN k)) := ⟨HB3.out.os, HB3.out.tape, HB3.out.output, HB3.out.size, HB3.out.block⟩
  clear HG3
  go_wp2
  go_ret2
  exact ⟨rfl, HB4.out⟩

set_option maxRecDepth 100000 in
set_option maxHeartbeats 2000000 in
theorem takeAtEnd_yes (h : Ar w 88 g base cap A c bs) (hbase : base ≤ 4611686018427387904) (hcap : cap ≤ 16384) (hl : bs.length ≤ cap) (p : Option Bk) (hp : frO (aheadB bs (bs.length : Int)) = p) (s z o : Nat) (hz : (p.map Bk.size).getD 0 = z) (hzs : z ≤ s) (hs : s ≤ 16384) (ho : o ≤ 16384)
    (hfo : (p.map fun z => (z.off : Int)).getD (bs.length : Int) = (o : Int)) (hpz : ∀ y, p = some y → 0 < y.size ∧ y.off ≤ 16384) (hlt : bs.length + (s - z) ≤ cap) (b1 b2 : List UInt8) (e1 : outB (bs ++ List.replicate (s - z) 0) p = some b1) (hl1 : b1.length = bs.length + (s - z)) (e2 : setB b1 (o : Int) (s : Int) true = some b2) :
    Calls Tryz.prog 58 #[.pointer (some ⟨g, 0, none⟩), .int .i64 (s : Int)] w fun e w' => e = .returned (.tuple #[.int .i64 (o : Int), errV true 5]) ∧ Became 88 g base cap A b2 w w' := by
  have HL := Lib.hid (len_any h)
  have h1 := freeAhead_any h hbase (by omega) (bs.length : Int) (by omega) p hp
  have ef := frV_eq (bs.length : Int) p
  rw [hz, hfo] at ef
  rw [ef] at h1
  have H1 := Lib.hid h1
  have BC := Lib.hid (show Became 88 g base cap A bs w w from ⟨A, c, h, Tch.refl _ _, .inl rfl⟩)
  have HG := Lib.hid (fun w2 (hB : Became 88 g base cap A bs w w2) => bc_grow hB (s - z) hl hcap hlt)
  have HO := Lib.hid (fun w2 (hB : Became 88 g base cap A (bs ++ List.replicate (s - z) 0) w w2) => bc_out hB hbase (by rw [List.length_append, List.length_replicate]; omega) (bs.length : Int) p hpz e1)
  rw [ef] at HO
  have hl1' : b1.length ≤ 16384 := by omega
  have HS := Lib.hid (fun w2 c' A' (a : Ar w2 88 g base cap A' c' b1) => setC w2 g base cap c' A' b1 (o : Int) (s : Int) true _ a hbase hl1' (by omega) (by omega) e2)
  dsimp only [Done, errV] at HS
  obtain ⟨bz, hbz⟩ : ∃ bz, bs ++ List.replicate (s - z) 0 = bz := ⟨_, rfl⟩
  have e3 : ((s - z : Nat) : Int) = (s : Int) - (z : Int) := Int.ofNat_sub hzs
  rw [hbz, e3] at HG
  rw [hbz] at HO
  have hfz : z ≤ 16384 := by omega
  dsimp only [errV]
  clear h1 hfo hz h hp hlt e3 ef e1 e2 hpz hl1 hl1' hbz
  go_enter Tryz.func58, Tryz.ntmps58
  go_wp2_with fail
  with_reducible refine HL.out.mono ?_
  rintro e w1 ⟨rfl, rfl⟩
  go_wp2_with fail
  with_reducible refine H1.out.mono ?_
  rintro e w2 ⟨rfl, hb2⟩
  obtain ⟨w3, hw3⟩ : ∃ w3, w2.alloc (.cells #[.int .i64 (o : Int), .int .i64 (z : Int), .bool false] 53) = w3 := ⟨_, rfl⟩
  have n3 : w3.heap[w2.heap.size]? = some (.cells #[.int .i64 (o : Int), .int .i64 (z : Int), .bool false] 53 (0, 0)) := by rw [← hw3]; exact heap_alloc_new w2 _
  have hb3 : Below w.heap.size w w3 := by rw [← hw3]; exact hb2.alloc hb2.size _
  have HG3 := Lib.hid (HG.out w3 (became_below BC.out hb3))
  obtain ⟨⟨d0, d1, d2⟩, _⟩ := blk_cells n3
  have hlt3 := heap_lt' n3
  have HW3 := Lib.hid hw3
  have N3 := Lib.hid n3
  clear hb2 H1 HG HL hw3 n3 hb3 BC
  go_wp2_with (first | (rw [HW3.out]) | fail)
  refine HG3.out.mono ?_
  clear d0 d1 d2 hlt3
  rintro e w4 ⟨rfl, hB4, hL4⟩
  have n4 := hL4 _ _ N3.out
  have HO4 := Lib.hid (HO.out w4 hB4)
  obtain ⟨⟨d0, d1, d2⟩, _⟩ := blk_cells n4
  have hlt4 := heap_lt' n4
  have N4 := Lib.hid n4
  clear hB4 hL4 HG3 HO n4 N3
  go_wp2_with fail
  refine HO4.out.mono ?_
  clear d0 d1 d2 hlt4
  rintro e w5 ⟨rfl, hB5, hL5⟩
  have n5 := hL5 _ _ N4.out
  obtain ⟨w6, hw6⟩ : ∃ w6, w5.drew = w6 := ⟨_, rfl⟩
  have n6 : w6.heap[w2.heap.size]? = some (.cells #[.int .i64 (o : Int), .int .i64 (z : Int), .bool false] 53 (0, 0)) := by rw [← hw6]; exact n5
  have B6 : Became 88 g base cap A b1 w w6 := by rw [← hw6]; exact became_below hB5 (Below.refl _ _).drew
  obtain ⟨A6, c6, a6, t6, k6⟩ := B6
  have hnf := ar_ne a6 n6
  obtain ⟨⟨d0, d1, d2⟩, _⟩ := blk_cells n6
  have HS6 := Lib.hid (HS.out w6 c6 A6 a6)
  have HFIN := Lib.hid (fun w7 (hB : Became 88 g base cap A6 b2 w6 w7) => Became.trans a6 t6 k6 hB)
  have HNF := Lib.hid hnf
  have HW6 := Lib.hid hw6
  clear hB5 hL5 HO4 HS n5 N4 n6 a6 t6 k6 hw6 hnf
  go_wp2_with fail
  refine wp_region_set (foot g A6) [([0, 1, 2, 3, 4, 5, 6], 7)] [8, 9] [] (by kernel_rfl) (by kernel_rfl) (by kernel_rfl) (fun _ _ _ _ _ h => h) ?_
  rw [HW6.out]
  clear HW6
  have z0 : ∀ z : LaterS (foot g A6) w6, z.val.cell? ⟨w2.heap.size, 0, none⟩ = some (.int .i64 (o : Int)) := fun z => z.ext.cell d0 HNF.out
  clear d0 d1 d2
  refine set_cons (l := ?seg1) ?hseg1 ?_
  case hseg1 => simp only [pick, List.getElem?_toArray, List.getElem?_cons_succ, List.getElem?_cons_zero]; rfl
  repeat (go_big_quiet_step (fail))
  refine wpQuiet_nil ?_
  clear z0
  refine set_call (vs := #[.pointer (some ⟨g, 0, none⟩), .agg #[.int .i64 (o : Int), .int .i64 (s : Int), .bool true]]) Tryz.call82 rfl rfl rfl (R := fun r w' => r = .nilIface ∧ Became 88 g base cap A6 b2 w6 w') (HS6.out.mono ?_) ?_
  · rintro e w' ⟨rfl, hB⟩
    have hB' := hB
    obtain ⟨_, _, _, ht, _⟩ := hB'
    exact ⟨_, rfl, ht, rfl, hB⟩
  rintro r w7 _ ⟨rfl, hB7⟩
  refine ⟨foot g A6, fun _ _ h => h, ?_⟩
  refine set_last (l := ?la4) (t := []) ?hla4 ?htl4 ?_
  case hla4 => simp only [pick, List.getElem?_toArray, List.getElem?_cons_succ, List.getElem?_cons_zero]; rfl
  case htl4 => rfl
  simp only [Act.put, List.setIfInBounds_toArray, List.set_cons_zero, List.set_cons_succ]
  repeat (go_big_quiet_step (fail))
  refine wpQuiet_nil ?_
  have HB7 := Lib.hid (HFIN.out w7 hB7)
  clear hB7 HFIN HS6
  go_wp2
  go_ret2
  exact ⟨rfl, HB7.out⟩
end

set_option maxRecDepth 100000 in
set_option maxHeartbeats 2000000 in
theorem takeK : TakeK := by
  intro w g base cap c A bs H s h hb hcap hc hR hsr
  obtain ⟨hbl, hbd⟩ := hR.bound (by omega)
  have hF := findC w g base cap c A bs s h hb hbl hsr
  constructor
  · intro hs
    unfold findV at hF
    rw [if_neg (by rw [hs]; simp)] at hF
    dsimp only [errV] at hF ⊢
    have HF := Lib.hid hF
    clear hF hs h hR hbd
    go_enter Tryz.func23, Tryz.ntmps23
    go_wp2_with fail
    with_reducible refine HF.out.mono ?_
    rintro e w2 ⟨rfl, hb2⟩
    have HB2 := Lib.hid hb2
    clear hb2 HF
    go_wp2
    go_ret2
    exact ⟨rfl, HB2.out⟩
  · intro hs
    have hq := (isSz_iff _).1 hs
    unfold findV at hF
    rw [if_pos hs] at hF
    obtain ⟨n, rfl⟩ : ∃ n : Nat, s = (n : Int) := ⟨s.toNat, by omega⟩
    rw [Int.toNat_natCast]
    have hfi := hR.finds hs
    rw [hfi] at hF
    dsimp only [Option.getD, Option.isSome, errV] at hF
    have BC := Lib.hid (show Became 88 g base cap A bs w w from ⟨A, c, h, Tch.refl _ _, .inl rfl⟩)
    cases hi : H.find n with
    | some i =>
      obtain ⟨i1, i2, i3⟩ := hR.found hs hi
      obtain ⟨m1, m2⟩ := mid_split i1
      have et := take_fnd hi
      obtain ⟨x, hx⟩ : ∃ x, bkAt H.blks i = x := ⟨_, rfl⟩
      rw [hi] at hF
      dsimp only [Option.map] at hF
      rw [hx] at m1 i2 i3 et hF
      have hxb := hbd x (by rw [m1]; simp)
      obtain ⟨xo, xs, xu⟩ := x
      dsimp only at i2 i3 hxb et hF
      subst i3
      rw [et]
      dsimp only [TurnedAt, errV]
      have HT := Lib.hid (fun w2 (hB : Became 88 g base cap A bs w w2) => takeFree_any hB hb hcap hc hR m1 hs i2)
      rw [m2] at HT
      have HF := Lib.hid hF
      have e0 : ((xo : Int) == 0) = false := by rw [beq_eq_false_iff_ne]; omega
      clear hF hfi hi et m1 m2 hx hR h hbd hs
      go_enter Tryz.func23, Tryz.ntmps23
      go_wp2_with fail
      with_reducible refine HF.out.mono ?_
      rintro e w2 ⟨rfl, hb2⟩
      have HT2 := Lib.hid (HT.out w2 (became_below BC.out hb2))
      clear hb2 HF HT BC
      go_wp2_with fail
      refine HT2.out.mono ?_
      rintro e w4 ⟨rfl, out, hB, hR, hH⟩
      have HB := Lib.hid hB
      have HR := Lib.hid hR
      have HH := Lib.hid hH
      clear hB hR hH HT2
      go_wp2
      go_ret2
      exact ⟨rfl, out, HB.out, HR.out, HH.out⟩
    | none =>
      obtain ⟨A0, p, b1, hpu, hfr, htl⟩ := hR.tail (by omega)
      have hlo := hR.lost hs hi
      have hlen := hR.lenE
      have hle := hR.len
      have hM := hR.md (by omega)
      have ht := hM.tl
      rw [b1, tile_app] at ht
      obtain ⟨t1, t2⟩ := ht
      obtain ⟨o, ho⟩ : ∃ o, 184 + sumB A0 = o := ⟨_, rfl⟩
      have hlen2 : bs.length = o + sumB p.toList := by
        rw [← hlen, b1, ← ho]; unfold lenB; rw [sumB_app]; omega
      obtain ⟨z, hz⟩ : ∃ z, sumB p.toList = z := ⟨_, rfl⟩
      have hpz : (p.map Bk.size).getD 0 = z := by rw [← hz]; cases p <;> simp [sumB]
      have hpo : ∀ y, p = some y → y.off = 184 + sumB A0 ∧ 0 < y.size := fun y hy => by
        have hyb := hbd y (by rw [b1, hy]; simp)
        rw [hy] at t2
        obtain ⟨t3, _⟩ := t2
        exact ⟨t3, by omega⟩
      have hfo : (p.map fun z => (z.off : Int)).getD (bs.length : Int) = (o : Int) := by
        cases p with
        | none =>
          show (bs.length : Int) = (o : Int)
          rw [hlen2]; simp [sumB]
        | some y =>
          show (y.off : Int) = (o : Int)
          rw [(hpo y rfl).1, ho]
      have hzn : z ≤ n := by
        rw [← hz]
        cases p with
        | none => simp [sumB]
        | some y =>
          have := hlo y (by rw [b1]; simp) (hpu y rfl)
          simp [sumB]; omega
      rw [hi] at hF
      dsimp only [Option.map] at hF
      have htz : tailF H.blks = z := htl.trans hz
      by_cases hroom : cap < bs.length + (n - z)
      · have et := take_full hi (by rw [htz, hlen, hc]; omega)
        rw [et]
        dsimp only [TurnedAt]
        have HT := Lib.hid (fun w2 (hB : Below w.heap.size w w2) => takeAtEnd_no (h.below hB) hb hcap (by omega) p hfr n z hpz hzn (by omega) hroom)
        dsimp only [errV] at HT ⊢
        have HF := Lib.hid hF
        clear hF hfi hi et hR h hbd hs b1 hpu hfr htl htz hlo hlen hle hM t1 t2 ho hlen2 hz hpz hpo hfo hroom
        go_enter Tryz.func23, Tryz.ntmps23
        go_wp2_with fail
        with_reducible refine HF.out.mono ?_
        rintro e w2 ⟨rfl, hb2⟩
        have HT2 := Lib.hid (HT.out w2 hb2)
        have HB2 := Lib.hid hb2
        clear hb2 HF HT BC
        go_wp2_with fail
        refine HT2.out.mono ?_
        rintro e w4 ⟨rfl, hb4⟩
        have HB4 := Lib.hid (HB2.out.trans (hb4.mono HB2.out.size))
        clear hb4 HT2 HB2
        go_wp2
        go_ret2
        exact ⟨rfl, HB4.out⟩
      · obtain ⟨H', et, hb', hl', hc'⟩ := take_end hi (by rw [htz, hlen, hc]; omega) b1 htl hpo
        rw [et]
        dsimp only [TurnedAt]
        obtain ⟨q1, e1, e2, l1, l2, hRt, hP⟩ := hR.adds (by omega) b1 hpu (o := o) (s := n) (n := n - z) ho.symm hs (by omega) (by omega)
        have hRR := hRt H' (by rw [hb', ho]) hl' hc'
        have hHD : Held H bs H' (setT q1 ⟨o, n, true⟩) := fun z hz hzu y _ _ _ i i1 i2 _ => hP z hz hzu i ⟨i1, i2⟩
        rw [ho]
        obtain ⟨b2, hb2⟩ : ∃ b2, setT q1 ⟨o, n, true⟩ = b2 := ⟨_, rfl⟩
        rw [hb2] at e2 hRR hHD
        have HT := Lib.hid (fun w2 (hB : Below w.heap.size w w2) => takeAtEnd_yes (h.below hB) hb hcap (by omega) p hfr n z o hpz hzn (by omega) (by omega) hfo (fun y hy => ⟨(hpo y hy).2, by have := (hpo y hy).1; omega⟩) (by omega) q1 b2 e1 l1 e2)
        dsimp only [errV] at HT ⊢
        have HF := Lib.hid hF
        have HRR := Lib.hid hRR
        have HHD := Lib.hid hHD
        clear hF hfi hi et hR h hbd hs b1 hpu hfr htl htz hlo hlen hle hM t1 t2 ho hlen2 hz hpz hpo hfo hroom hb' hl' hc' e1 e2 l1 l2 hRt hP hRR hHD hb2
        go_enter Tryz.func23, Tryz.ntmps23
        go_wp2_with fail
        with_reducible refine HF.out.mono ?_
        rintro e w2 ⟨rfl, hb2⟩
        have HT2 := Lib.hid (HT.out w2 hb2)
        have HB2 := Lib.hid hb2
        clear hb2 HF HT BC
        go_wp2_with fail
        refine HT2.out.mono ?_
        rintro e w4 ⟨rfl, hb4⟩
        have HB4 := Lib.hid (hb4.after HB2.out)
        clear hb4 HT2 HB2
        go_wp2
        go_ret2
        exact ⟨rfl, b2, HB4.out, HRR.out, HHD.out⟩
end Go.Proofs.YtdjjbmefaggelaaGreat
