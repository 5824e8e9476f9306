/- The contracts of the document's own blocks: Walk. -/
import Derived.Test.YtodbakpjibcmiaaRef7e
namespace Go.Proofs.Ytodbakpjibcmiaa
open Go.RowKit

/-- Blocks as cells. -/
def flatK : List Bk → List Value
  | [] => []
  | x :: r => .int .i64 (x.off : Int) :: .int .i64 (x.size : Int) :: .bool x.used :: flatK r
theorem flatK_length : ∀ l : List Bk, (flatK l).length = l.length * 3
  | [] => rfl
  | x :: r => by simp [flatK, flatK_length r]; omega
theorem flatK_append (a b : List Bk) : flatK (a ++ b) = flatK a ++ flatK b := by
  induction a with
  | nil => rfl
  | cons x r ih => simp [flatK, ih]
theorem flatK_get : ∀ (l : List Bk) (i : Nat) (x : Bk), l[i]? = some x → (flatK l)[i * 3]? = some (.int .i64 (x.off : Int)) ∧ (flatK l)[i * 3 + 1]? = some (.int .i64 (x.size : Int)) ∧ (flatK l)[i * 3 + 2]? = some (.bool x.used)
  | [], _, _, h => by simp at h
  | y :: r, 0, x, h => by
    simp at h; subst h
    exact ⟨rfl, rfl, rfl⟩
  | y :: r, i + 1, x, h => by
    have := flatK_get r i x (by simpa using h)
    have e : (i + 1) * 3 = i * 3 + 1 + 1 + 1 := by omega
    rw [e]
    exact ⟨by simpa [flatK] using this.1, by simpa [flatK] using this.2.1, by simpa [flatK] using this.2.2⟩
theorem bk_inf : (Try.prog.info? 25).map (fun i => (i.zero, i.size, i.bytes)) = some (some (.agg #[.int .i64 0, .int .i64 0, .bool false]), 3, 24) := by kernel_rfl
/-- A slice of blocks. -/
def BksTold (x : Option (List Bk)) (w : World) (e : Ending) (w' : World) : Prop :=
  ∃ A' c', e = .returned (.tuple #[.slice A' (x.getD []).length c', .bool x.isSome]) ∧ w'.ownsRow w.heap.size 25 3 (.slice A' (x.getD []).length c') (x.getD []).length (flatK (x.getD [])) ∧ Below w.heap.size w w'
theorem own_sl {w : World} {base n size : Nat} {t : TypeId} {v : Value} {xs : List Value} (h : w.ownsRow base t size v n xs) : ∃ A c, v = .slice A n c := by
  rcases h.2 with ⟨rfl, h0⟩ | ⟨g, cap, cur, rfl, _⟩
  · rw [h0]; exact ⟨none, 0, rfl⟩
  · exact ⟨_, _, rfl⟩
theorem own_below' {w w' : World} {base n size : Nat} {t : TypeId} {v : Value} {xs : List Value} (h : w.ownsRow base t size v n xs) (hb : Below w.heap.size w w') : w'.ownsRow base t size v n xs := by
  refine ⟨h.1, ?_⟩
  rcases h.2 with h2 | ⟨g, cap, cur, hv, hg, hh, r⟩
  · exact .inl h2
  · refine .inr ⟨g, cap, cur, hv, hg, ?_, r⟩
    have := (h.lt g (by rw [hv]; rfl)).2
    rw [hb.block g this]; exact hh

section
variable (w : World)
set_option maxRecDepth 100000 in
set_option maxHeartbeats 2000000 in
theorem rwalkB_any (A : Option Addr) (c B : Nat) (bs : List UInt8) (hr : Rd w B A bs.length bs) (hB : B ≤ w.heap.size) (hlc : bs.length ≤ c) (hl : bs.length ≤ 100000) (x : Option (List Bk)) (hx : walkB bs = x) :
    Calls Try.prog 13 #[.slice A bs.length c] w fun e w' => BksTold x w e w' := by
  by_cases h0 : bs.length < 184
  · obtain rfl : none = x := by rw [← hx]; unfold walkB; rw [if_pos h0]
    clear hx hr
    go_enter Try.func13, Try.ntmps13
    go_wp2
    go_ret2
    exact ⟨none, 0, rfl, World.ownsRow_nil _ _ _ _, Below.refl _ _⟩
  · have hx' : walkF bs (bs.length + 1) 184 = x := by rw [← hx]; unfold walkB; rw [if_neg h0]
    obtain ⟨i0, hi, hz0, hz1, hz2⟩ := info_parts bk_inf
    have HX := Lib.hid hx'
    have HR := Lib.hid hr
    obtain ⟨B0, hB0⟩ : ∃ B0, w.heap.size = B0 := ⟨_, rfl⟩
    have HB0 := Lib.hid hB0
    clear hx hx' hr hB0
    go_enter Try.func13, Try.ntmps13
    go_wp2
    go_loopw [4, 5] (fun q t wr => ∃ (l : List Bk) (o k : Nat), t = .int .i64 (o : Int) ∧ 184 ≤ o ∧ o ≤ bs.length ∧ bs.length < o + k ∧ l.length * 32 ≤ o ∧ x = (walkF bs k o).map (l ++ ·) ∧ wr.ownsRow B0 25 3 q l.length (flatK l) ∧ Below B0 w wr) (fun _ t _ => bs.length - (intOf t).toNat)
    case atStart => exact ⟨[], 184, bs.length + 1, rfl, Nat.le_refl _, by omega, by omega, by simp, by rw [HX.out]; simp, World.ownsRow_nil _ _ _ _, Below.refl _ _⟩
    case round =>
      obtain ⟨l, o, k, rfl, ho1, ho2, hk, hll, hxl, hown, hb⟩ := hrel
      obtain ⟨A7, c7, rfl⟩ := own_sl hown
      obtain ⟨k, rfl⟩ : ∃ k', k = k' + 1 := ⟨k - 1, by omega⟩
      have hBw : B0 ≤ wr.heap.size := by have := hb.size; have := HB0.out; omega
      by_cases hlt : o < bs.length
      · have hrw : Rd wr B A bs.length bs := HR.out.keep (fun q hq => hb.cell (p := q) (by have := HB0.out; omega))
        cases hg : getB bs (o : Int) with
        | none =>
          have hG := rgetB_any wr A c B bs hrw hlc (by omega) (o : Int) (by omega) _ hg
          dsimp only [bkV, Option.isSome] at hG
          obtain rfl : x = none := by rw [hxl]; simp [walkF, hlt, hg]
          have HG := Lib.hid hG
          have HB := Lib.hid hb
          clear hG hown hb hg hxl hrw HX
          go_wp2_with fail
          with_reducible refine HG.out.mono ?_
          rintro e w2 ⟨rfl, hb2⟩
          have HB2 := Lib.hid (HB.out.trans (hb2.mono hBw))
          clear hb2
          go_wp2
          go_ret2
          exact ⟨none, 0, rfl, World.ownsRow_nil _ _ _ _, by rw [HB0.out]; exact HB2.out.alloc (by have := HB2.out.size; have := HB0.out; omega) _⟩
        | some y =>
          obtain ⟨yo, ys, yu⟩ := y
          obtain ⟨q1, _, _, q2, q3, _⟩ := getB_some hg
          dsimp only at q1 q2 q3
          obtain rfl : o = yo := by omega
          have q4 := (isSz_iff _).1 q3
          have hG := rgetB_any wr A c B bs hrw hlc (by omega) (o : Int) (by omega) _ hg
          dsimp only [bkV, Bk.val, Option.isSome] at hG
          have hxl' : x = (walkF bs k (o + ys)).map ((l ++ [⟨o, ys, yu⟩]) ++ ·) := by
            rw [hxl]
            simp [walkF, hlt, hg, Option.map_map, Function.comp_def]
          have HG := Lib.hid hG
          have HB := Lib.hid hb
          have HXL := Lib.hid hxl'
          have HOWN := Lib.hid hown
          have HALT : Hid (∀ k, (Value.slice A7 l.length c7).ownBlock = some k → B0 ≤ k ∧ k < wr.heap.size) := hown.lt
          clear hG hown hb hg hxl hxl' hrw q1 q3 HX
          go_wp2_with fail
          with_reducible refine HG.out.mono ?_
          rintro e w2 ⟨rfl, hb2⟩
          have own2 := own_below' HOWN.out hb2
          have HB2 := Lib.hid (HB.out.trans (hb2.mono hBw))
          have hw2 : B0 ≤ w2.heap.size := Nat.le_trans hBw hb2.size
          have hwr := hb2.size
          obtain ⟨w3, hw3⟩ : ∃ w3, w2.alloc (.cells #[.int .i64 (o : Int), .int .i64 (ys : Int), .bool yu] 25) = w3 := ⟨_, rfl⟩
          obtain ⟨w4, hw4⟩ : ∃ w4, w3.alloc (.cells #[.int .i64 (o : Int), .int .i64 (ys : Int), .bool yu] 25) = w4 := ⟨_, rfl⟩
          have b3 : Below w2.heap.size w2 w3 := by rw [← hw3]; exact (Below.refl _ _).alloc (Nat.le_refl _) _
          have b4 : Below w3.heap.size w3 w4 := by rw [← hw4]; exact (Below.refl _ _).alloc (Nat.le_refl _) _
          have own4 := own_below' (own_below' own2 b3) b4
          have n4 : w4.heap[w3.heap.size]? = some (.cells #[.int .i64 (o : Int), .int .i64 (ys : Int), .bool yu] 25 (0, 0)) := by rw [← hw4]; exact heap_alloc_new w3 _
          have s3 : w3.heap.size = w2.heap.size + 1 := by rw [← hw3]; simp
          have n3 : w3.heap[w2.heap.size]? = some (.cells #[.int .i64 (o : Int), .int .i64 (ys : Int), .bool yu] 25 (0, 0)) := by rw [← hw3]; exact heap_alloc_new w2 _
          obtain ⟨⟨d0, d1, d2⟩, _⟩ := blk_cells n3
          have n4' := (b4.block _ (heap_lt' n3)).trans n3
          have HNEW : Hid (∀ j u, [Value.int .i64 (o : Int), .int .i64 (ys : Int), .bool yu][j]? = some u → w4.cell? ((⟨w3.heap.size, 0, none⟩ : Addr).add j) = some u) := fun j u hu => by
            have e : (⟨w3.heap.size, 0, none⟩ : Addr).add j = ⟨w3.heap.size, j, none⟩ := by unfold Addr.add; split <;> simp_all
            rw [e, cell_of_row w4 _ j _ _ (0, 0) n4]
            simpa using hu
          have HONE : Hid (∀ u ∈ [Value.int .i64 (o : Int), .int .i64 (ys : Int), .bool yu], u.oneCell' = true) := fun u hu => by
            simp at hu
            rcases hu with rfl | rfl | rfl <;> rfl
          have hB4 : B0 ≤ w4.heap.size := by have := b4.size; omega
          have HB4 := Lib.hid (HB2.out.trans ((b3.trans (b4.mono b3.size)).mono hw2))
          have OWN4 := Lib.hid own4
          have HN4 := Lib.hid n4'
          have hs4 : w3.heap.size < w4.heap.size := heap_lt' n4
          have HS3 := Lib.hid s3
          have HFL : Hid (flatK (l ++ [⟨o, ys, yu⟩]) = flatK l ++ [.int .i64 (o : Int), .int .i64 (ys : Int), .bool yu]) := flatK_append _ _
          have hg2 : w2.heap.size < w4.heap.size := heap_lt' n4'
          clear own2 own4 n3 n4 n4' b3 b4 hb2 HOWN HG s3
          go_wp2_with (first
            | (at_builtin; go_must (refine wpList_append_own _ rfl _ _ 36 rfl B0 25 i0 _ 3 24 Try.underlying36 hi hz0 hz1 hz2 rfl (by decide) _ l.length (flatK l) rfl OWN4.out ⟨w3.heap.size, 0, none⟩ 1 1 [.int .i64 (o : Int), .int .i64 (ys : Int), .bool yu] rfl rfl HNEW.out HONE.out (by unfold maxLen; omega) (by omega) hB4 ?_); intro x5 w5 own5 gr5 at5;
               have gr5' : w4.grownBy w5 (Value.slice A7 l.length c7).ownBlock := gr5; have e5 := (gr5'.block _ hg2 (fun e => by have := (HALT.out _ e.symm).2; omega)).trans HN4.out; obtain ⟨⟨c0, c1, c2⟩, _⟩ := blk_cells e5; have HB5 : Hid (Below B0 w w5) := HB4.out.grown gr5' hB4 (fun k hk => (HALT.out k hk).1); have OWN5 : Hid (w5.ownsRow B0 25 3 x5 (l.length + 1) (flatK (l ++ [⟨o, ys, yu⟩]))) := (show World.ownsRow _ _ _ _ _ _ _ by rw [HFL.out]; exact own5); clear own5 gr5 gr5' at5 e5)
            | fail)
          go_roundw
          case rel => exact ⟨l ++ [⟨o, ys, yu⟩], o + ys, k, by go_num, by omega, by omega, by omega, by rw [List.length_append, List.length_singleton]; omega, HXL.out, by rw [List.length_append, List.length_singleton]; exact OWN5.out, HB5.out⟩
          case measure => simp [intOf]; omega
      · obtain rfl : o = bs.length := by omega
        obtain rfl : x = some l := by rw [hxl]; simp [walkF]
        have HB := Lib.hid hb
        have HO := Lib.hid hown
        clear hxl hown hb HX
        go_wp2
        go_ret2
        exact ⟨A7, c7, rfl, by rw [HB0.out]; exact HO.out, by rw [HB0.out]; exact HB.out⟩
end
end Go.Proofs.Ytodbakpjibcmiaa
