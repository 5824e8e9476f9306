/- Texts of mine, joined: Ref7c, Ref7d, Ref7e, Ref7f, Law00, OpenB, Ref9a, Ref9b, Ref9c, Ref9d, Ref10a, Ref10b. -/
import Derived.Test.YtbldlidpapdkbaaGreatChecked
import Derived.Deep.QuietTactic
import Derived.BigQuiet
import Derived.WalkSpells
import Derived.IntWalk
import Derived.Deep.Grids
import Derived.Deep.Fields
import Derived.Lib.SmallJoins
import Derived.Test.YtbldlidpapdkbaaGreatM2

/- The contracts of the document's own blocks: Ahead, all ways. -/
namespace Go.Proofs.YtbldlidpapdkbaaGreat
open Go.RowKit

theorem heap_lt' {w : World} {g : Nat} {o : Obj} (h : w.heap[g]? = some o) : g < w.heap.size := by
  rcases Nat.lt_or_ge g w.heap.size with h1 | h1
  · exact h1
  · rw [Array.getElem?_eq_none h1] at h; cases h

section
variable (w : World)

end
end Go.Proofs.YtbldlidpapdkbaaGreat

/- The contracts of the document's own blocks: Lay, Set. -/
namespace Go.Proofs.YtbldlidpapdkbaaGreat
open Go.RowKit

theorem u8_infb : (Tryz.prog.info? 5).map (fun i => (i.zero, i.size, i.bytes)) = some (some (.int .u8 0), 1, 1) := by kernel_rfl
/-- A number laid at an offset. -/
def layN (bs : List UInt8) (o v : Nat) : List UInt8 := lay bs o (lowB 8 v)
theorem layN_length (bs : List UInt8) (o v : Nat) (h : o + 8 ≤ bs.length) : (layN bs o v).length = bs.length := lay_length _ _ _ (by rw [lowB_length]; exact h)
theorem lay_snoc (bs cs : List UInt8) (d : Nat) (u : UInt8) (h : d + cs.length < bs.length) : (lay bs d cs).set (d + cs.length) u = lay bs d (cs ++ [u]) := by
  unfold lay
  have e1 : (bs.take d).length = d := by rw [List.length_take]; omega
  rw [List.set_append_right _ _ (by omega), List.set_append_right _ _ (by omega), e1, show d + cs.length - d - cs.length = 0 by omega, List.drop_eq_getElem_cons h, List.set_cons_zero, List.append_assoc, List.length_append]
  rfl
/-- A slice of bytes. -/
def RowTold (bs : List UInt8) (w : World) (e : Ending) (w' : World) : Prop :=
  ∃ A' c', e = .returned (.slice A' bs.length c') ∧ w'.ownsRow w.heap.size 5 1 (.slice A' bs.length c') bs.length (bs.map bv) ∧ Below w.heap.size w w'

section
variable (w : World)
set_option maxHeartbeats 1000000 in
theorem rlay_any (A : Option Addr) (c B : Nat) (bs : List UInt8) (hr : Rd w B A bs.length bs) (hB : B ≤ w.heap.size) (hA0 : A = none → c = 0) (hl : bs.length ≤ 100000) (o v : Nat) (hv : v < 18446744073709551616) (ho : o + 8 ≤ bs.length) :
    Calls Tryz.prog 40 #[.slice A bs.length c, .int .i64 (o : Int), .int .u64 (v : Int)] w fun e w' => RowTold (layN bs o v) w e w' := by
  have OWN1 : Hid ((w.alloc (.cells #[] 5)).ownsRow w.heap.size 5 1 (.slice (some ⟨w.heap.size, 0, none⟩) 0 0) 0 (([] : List UInt8).map bv)) := World.ownsRow_lit w _ 0 (Nat.le_refl _) (by unfold maxLen; omega) rfl
  have HRA := Lib.hid (hr.alloc hB (.cells #[] 5))
  have HV := Lib.hid hv
  obtain ⟨B0, hB0⟩ : ∃ B0, w.heap.size = B0 := ⟨_, rfl⟩
  rw [hB0] at OWN1
  have HB0 := Lib.hid hB0
  have hBB : B0 ≤ (w.alloc (.cells #[] 5)).heap.size := by simp; omega
  clear hr hv
  go_enter Tryz.func40, Tryz.ntmps40
  go_wp2_with (first
    | (at_builtin; go_must (refine append_bytes rfl (.tmp 10) (.tmp 11) 22 5 rfl Tryz.underlying22 u8_infb B0 (.slice (some ⟨B0, 0, none⟩) 0 0) 0 [] rfl OWN1.out B A bs.length c bs rfl HRA.out hA0 (by omega) hBB ?_); intro x3 w3 own3 hb3 gr3; have own4 : w3.ownsRow B0 5 1 x3 bs.length (bs.map bv) := (by simpa using own3); have OWN3 := Lib.hid own4; have HB3 : Hid (Below B0 w w3) := (((Below.refl _ _).alloc (Nat.le_of_eq hB0.symm) _).trans hb3); clear own3 own4 gr3 hb3)
    | fail)
  obtain ⟨ga, ca, rfl, hca, _⟩ := own_rd OWN3.out (by omega)
  go_wp2_with fail
  refine (rlow8 v w3 HV.out).mono ?_
  rintro e w4 ⟨gl, cl, rfl, hgl, rl, hb4⟩
  have own4 := own_below OWN3.out hb4
  have hga := (OWN3.out.lt ga rfl)
  have e0 : layN bs o v = lay bs o (lowB 8 v) := rfl
  have OWN4 : Hid (w4.ownsRow B0 5 1 (.slice (some ⟨ga, 0, none⟩) bs.length ca) bs.length ((lay bs o (lowB 0 v)).map bv)) := (show World.ownsRow _ _ _ _ _ _ _ by
    have : lay bs o (lowB 0 v) = bs := lay_nil bs o
    rw [this]; exact own4)
  have RL := Lib.hid rl
  have HB4 := Lib.hid (HB3.out.trans (hb4.mono (by have := HB3.out.size; omega)))
  have HSZ := Lib.hid hb4.size
  clear own4 rl hb4 OWN1 HRA OWN3 HB3 hBB e0
  go_wp2
  go_loopw [9] (fun i wr => ∃ j : Nat, j ≤ 8 ∧ i = .int .i64 j ∧ wr.ownsRow B0 5 1 (.slice (some ⟨ga, 0, none⟩) bs.length ca) bs.length ((lay bs o (lowB j v)).map bv) ∧ Rd wr wr.heap.size (some ⟨gl, 0, none⟩) 8 (lowB 8 v) ∧ Below B0 w wr) (fun i _ => 8 - (intOf i).toNat)
  case atStart => exact ⟨0, Nat.zero_le _, rfl, OWN4.out, RL.out, HB4.out⟩
  case round =>
    obtain ⟨j, hj, rfl, hown, hrl, hb⟩ := hrel
    by_cases hlt : j < 8
    · obtain ⟨_, _, e, _, hlen, hcell⟩ := hrl.at_ hlt
      injection e with e
      injection e with e1 e2
      subst e1 e2
      rw [Nat.zero_add] at hcell
      have hget := lowB_getElem 8 v j hlt
      rw [List.getElem?_eq_getElem hlen] at hget
      injection hget with hget
      rw [hget] at hcell
      have hst := (hown.stored (o + j) (bv (UInt8.ofNat (v / 256 ^ j % 256)))).1
      rw [← List.map_set] at hst
      have hsn := lay_snoc bs (lowB j v) o (UInt8.ofNat (v / 256 ^ j % 256)) (by rw [lowB_length]; omega)
      rw [lowB_length] at hsn
      rw [hsn, ← lowB_snoc] at hst
      have hfz := hown.frozenAt (o + j)
      have hc : ∃ u, wr.cell? ⟨ga, o + j, none⟩ = some u := by
        have hll : (lay bs o (lowB j v)).length = bs.length := lay_length _ _ _ (by rw [lowB_length]; omega)
        refine ⟨_, (hown.cellAt (o + j) (by omega)).trans (List.getElem?_eq_getElem (by rw [List.length_map, hll]; omega))⟩
      obtain ⟨u, hcu⟩ := hc
      have hne : gl ≠ ga := by omega
      have hrl' : Rd (wr.setCell ⟨ga, o + j, none⟩ (bv (UInt8.ofNat (v / 256 ^ j % 256)))) (wr.setCell ⟨ga, o + j, none⟩ (bv (UInt8.ofNat (v / 256 ^ j % 256)))).heap.size (some ⟨gl, 0, none⟩) 8 (lowB 8 v) :=
        hrl.tch (S := fun k => k = ga) (Tch.set (S := fun k => k = ga) wr ⟨ga, o + j, none⟩ _ rfl) (fun a e h => by injection e with e; subst e; exact hne h)
      have hb' : Below B0 w (wr.setCell ⟨ga, o + j, none⟩ (bv (UInt8.ofNat (v / 256 ^ j % 256)))) := hb.setCell hga.1 _
      obtain ⟨q, hq⟩ : ∃ q, UInt8.ofNat (v / 256 ^ j % 256) = q := ⟨_, rfl⟩
      rw [hq] at hcell hst hrl' hb'
      have hcell' : wr.cell? ⟨gl, j, none⟩ = some (.int .u8 (q.toNat : Int)) := hcell
      have HST : Hid ((wr.setCell ⟨ga, o + j, none⟩ (.int .u8 (q.toNat : Int))).ownsRow B0 5 1 (.slice (some ⟨ga, 0, none⟩) bs.length ca) bs.length ((lay bs o (lowB (j + 1) v)).map bv)) := hst
      have HRL : Hid (Rd (wr.setCell ⟨ga, o + j, none⟩ (.int .u8 (q.toNat : Int))) (wr.setCell ⟨ga, o + j, none⟩ (.int .u8 (q.toNat : Int))).heap.size (some ⟨gl, 0, none⟩) 8 (lowB 8 v)) := hrl'
      have HBE : Hid (Below B0 w (wr.setCell ⟨ga, o + j, none⟩ (.int .u8 (q.toNat : Int)))) := hb'
      clear hst hrl' hb' hq hcell hget hsn hown hrl hb OWN4 RL
      go_wp2
      go_roundw
      case rel => exact ⟨j + 1, by omega, by go_num, HST.out, HRL.out, HBE.out⟩
      case measure => simp [intOf]; omega
    · have HO := Lib.hid hown
      have HB := Lib.hid hb
      clear hown hb hrl OWN4 RL
      go_wp2
      go_ret
      obtain rfl : j = 8 := by omega
      have e := layN_length bs o v ho
      refine ⟨some ⟨ga, 0, none⟩, ca, by rw [e]; rfl, ?_, ?_⟩
      · rw [e, HB0.out]; exact HO.out
      · rw [HB0.out]; exact HB.out
end
end Go.Proofs.YtbldlidpapdkbaaGreat

/- The contracts of the document's own blocks: Set. -/
namespace Go.Proofs.YtbldlidpapdkbaaGreat
open Go.RowKit

/-- Both tags of a block laid; none: it can't be. -/
def setB (bs : List UInt8) (o s : Int) (u : Bool) : Option (List UInt8) :=
  if isSz s = true ∧ could bs.length o s = true then some (layN (layN bs o.toNat (packN s u)) (o + s - 8).toNat (packN s u)) else none
theorem own_facts {w : World} {base n c : Nat} {A : Option Addr} {bs : List UInt8} (h : w.ownsRow base 5 1 (.slice A n c) n (bs.map bv)) : Rd w w.heap.size A n bs ∧ n ≤ c ∧ (A = none → c = 0) := by
  obtain ⟨A', c', e, h1, h2⟩ := own_any h
  injection e with e1 _ e3
  subst e1 e3
  refine ⟨h2, h1, fun e => ?_⟩
  subst e
  rcases h.2 with ⟨h', _⟩ | ⟨_, _, _, h', _⟩
  · injection h' with _ _ e
  · injection h' with e; cases e

section
variable (w : World)
end
end Go.Proofs.YtbldlidpapdkbaaGreat

/- The contracts of the document's own blocks: Walk. -/
namespace Go.Proofs.YtbldlidpapdkbaaGreat
open Go.RowKit

/-- Blocks as cells. -/
def flatK : List Bk → List Value
  | [] => []
  | x :: r => .int .i64 (x.off : Int) :: .int .i64 (x.size : Int) :: .bool x.used :: flatK r
theorem flatK_append (a b : List Bk) : flatK (a ++ b) = flatK a ++ flatK b := by
  induction a with
  | nil => rfl
  | cons x r ih => simp [flatK, ih]
theorem flatK_get : ∀ (l : List Bk) (i : Nat) (x : Bk), l[i]? = some x → (flatK l)[i * 3]? = some (.int .i64 (x.off : Int)) ∧ (flatK l)[i * 3 + 1]? = some (.int .i64 (x.size : Int)) ∧ (flatK l)[i * 3 + 2]? = some (.bool x.used)
  | [], _, _, h => by simp at h
  | y :: r, 0, x, h => by
    simp at h; subst h
    exact ⟨rfl, rfl, rfl⟩
  | y :: r, i + 1, x, h => by
    have := flatK_get r i x (by simpa using h)
    have e : (i + 1) * 3 = i * 3 + 1 + 1 + 1 := by omega
    rw [e]
    exact ⟨by simpa [flatK] using this.1, by simpa [flatK] using this.2.1, by simpa [flatK] using this.2.2⟩
theorem bk_inf : (Tryz.prog.info? 50).map (fun i => (i.zero, i.size, i.bytes)) = some (some (.agg #[.int .i64 0, .int .i64 0, .bool false]), 3, 24) := by kernel_rfl
/-- A slice of blocks. -/
def BksTold (x : Option (List Bk)) (w : World) (e : Ending) (w' : World) : Prop :=
  ∃ A' c', e = .returned (.tuple #[.slice A' (x.getD []).length c', .bool x.isSome]) ∧ w'.ownsRow w.heap.size 50 3 (.slice A' (x.getD []).length c') (x.getD []).length (flatK (x.getD [])) ∧ Below w.heap.size w w'
theorem own_sl {w : World} {base n size : Nat} {t : TypeId} {v : Value} {xs : List Value} (h : w.ownsRow base t size v n xs) : ∃ A c, v = .slice A n c := by
  rcases h.2 with ⟨rfl, h0⟩ | ⟨g, cap, cur, rfl, _⟩
  · rw [h0]; exact ⟨none, 0, rfl⟩
  · exact ⟨_, _, rfl⟩
theorem own_below' {w w' : World} {base n size : Nat} {t : TypeId} {v : Value} {xs : List Value} (h : w.ownsRow base t size v n xs) (hb : Below w.heap.size w w') : w'.ownsRow base t size v n xs := by
  refine ⟨h.1, ?_⟩
  rcases h.2 with h2 | ⟨g, cap, cur, hv, hg, hh, r⟩
  · exact .inl h2
  · refine .inr ⟨g, cap, cur, hv, hg, ?_, r⟩
    have := (h.lt g (by rw [hv]; rfl)).2
    rw [hb.block g this]; exact hh

section
variable (w : World)
set_option maxRecDepth 100000 in
set_option maxHeartbeats 2000000 in
theorem rwalkB_any (A : Option Addr) (c B : Nat) (bs : List UInt8) (hr : Rd w B A bs.length bs) (hB : B ≤ w.heap.size) (hlc : bs.length ≤ c) (hl : bs.length ≤ 100000) (x : Option (List Bk)) (hx : walkB bs = x) :
    Calls Tryz.prog 18 #[.slice A bs.length c] w fun e w' => BksTold x w e w' := by
  by_cases h0 : bs.length < 184
  · obtain rfl : none = x := by rw [← hx]; unfold walkB; rw [if_pos h0]
    clear hx hr
    go_enter Tryz.func18, Tryz.ntmps18
    go_wp2
    go_ret2
    exact ⟨none, 0, rfl, World.ownsRow_nil _ _ _ _, Below.refl _ _⟩
  · have hx' : walkF bs (bs.length + 1) 184 = x := by rw [← hx]; unfold walkB; rw [if_neg h0]
    obtain ⟨i0, hi, hz0, hz1, hz2⟩ := info_parts bk_inf
    have HX := Lib.hid hx'
    have HR := Lib.hid hr
    obtain ⟨B0, hB0⟩ : ∃ B0, w.heap.size = B0 := ⟨_, rfl⟩
    have HB0 := Lib.hid hB0
    clear hx hx' hr hB0
    go_enter Tryz.func18, Tryz.ntmps18
    go_wp2
    go_loopw [4, 5] (fun q t wr => ∃ (l : List Bk) (o k : Nat), t = .int .i64 (o : Int) ∧ 184 ≤ o ∧ o ≤ bs.length ∧ bs.length < o + k ∧ l.length * 32 ≤ o ∧ x = (walkF bs k o).map (l ++ ·) ∧ wr.ownsRow B0 50 3 q l.length (flatK l) ∧ Below B0 w wr) (fun _ t _ => bs.length - (intOf t).toNat)
    case atStart => exact ⟨[], 184, bs.length + 1, rfl, Nat.le_refl _, by omega, by omega, by simp, by rw [HX.out]; simp, World.ownsRow_nil _ _ _ _, Below.refl _ _⟩
    case round =>
      obtain ⟨l, o, k, rfl, ho1, ho2, hk, hll, hxl, hown, hb⟩ := hrel
      obtain ⟨A7, c7, rfl⟩ := own_sl hown
      obtain ⟨k, rfl⟩ : ∃ k', k = k' + 1 := ⟨k - 1, by omega⟩
      have hBw : B0 ≤ wr.heap.size := by have := hb.size; have := HB0.out; omega
      by_cases hlt : o < bs.length
      · have hrw : Rd wr B A bs.length bs := HR.out.keep (fun q hq => hb.cell (p := q) (by have := HB0.out; omega))
        cases hg : getB bs (o : Int) with
        | none =>
          have hG := rgetB_any wr A c B bs hrw hlc (by omega) (o : Int) (by omega) _ hg
          dsimp only [bkV, Option.isSome] at hG
          obtain rfl : x = none := by rw [hxl]; simp [walkF, hlt, hg]
          have HG := Lib.hid hG
          have HB := Lib.hid hb
          clear hG hown hb hg hxl hrw HX
          go_wp2_with fail
          with_reducible refine HG.out.mono ?_
          rintro e w2 ⟨rfl, hb2⟩
          have HB2 := Lib.hid (HB.out.trans (hb2.mono hBw))
          clear hb2
          go_wp2
          go_ret2
          exact ⟨none, 0, rfl, World.ownsRow_nil _ _ _ _, by rw [HB0.out]; exact HB2.out.alloc (by have := HB2.out.size; have := HB0.out; omega) _⟩
        | some y =>
          obtain ⟨yo, ys, yu⟩ := y
          obtain ⟨q1, _, _, q2, q3, _⟩ := getB_some hg
          dsimp only at q1 q2 q3
          obtain rfl : o = yo := by omega
          have q4 := (isSz_iff _).1 q3
          have hG := rgetB_any wr A c B bs hrw hlc (by omega) (o : Int) (by omega) _ hg
          dsimp only [bkV, Bk.val, Option.isSome] at hG
          have hxl' : x = (walkF bs k (o + ys)).map ((l ++ [⟨o, ys, yu⟩]) ++ ·) := by
            rw [hxl]
            simp [walkF, hlt, hg, Option.map_map, Function.comp_def]
          have HG := Lib.hid hG
          have HB := Lib.hid hb
          have HXL := Lib.hid hxl'
          have HOWN := Lib.hid hown
          have HALT : Hid (∀ k, (Value.slice A7 l.length c7).ownBlock = some k → B0 ≤ k ∧ k < wr.heap.size) := hown.lt
          clear hG hown hb hg hxl hxl' hrw q1 q3 HX
          go_wp2_with fail
          with_reducible refine HG.out.mono ?_
          rintro e w2 ⟨rfl, hb2⟩
          have own2 := own_below' HOWN.out hb2
          have HB2 := Lib.hid (HB.out.trans (hb2.mono hBw))
          have hw2 : B0 ≤ w2.heap.size := Nat.le_trans hBw hb2.size
          have hwr := hb2.size
          obtain ⟨w3, hw3⟩ : ∃ w3, w2.alloc (.cells #[.int .i64 (o : Int), .int .i64 (ys : Int), .bool yu] 50) = w3 := ⟨_, rfl⟩
          obtain ⟨w4, hw4⟩ : ∃ w4, w3.alloc (.cells #[.int .i64 (o : Int), .int .i64 (ys : Int), .bool yu] 50) = w4 := ⟨_, rfl⟩
          have b3 : Below w2.heap.size w2 w3 := by rw [← hw3]; exact (Below.refl _ _).alloc (Nat.le_refl _) _
          have b4 : Below w3.heap.size w3 w4 := by rw [← hw4]; exact (Below.refl _ _).alloc (Nat.le_refl _) _
          have own4 := own_below' (own_below' own2 b3) b4
          have n4 : w4.heap[w3.heap.size]? = some (.cells #[.int .i64 (o : Int), .int .i64 (ys : Int), .bool yu] 50 (0, 0)) := by rw [← hw4]; exact heap_alloc_new w3 _
          have s3 : w3.heap.size = w2.heap.size + 1 := by rw [← hw3]; simp
          have n3 : w3.heap[w2.heap.size]? = some (.cells #[.int .i64 (o : Int), .int .i64 (ys : Int), .bool yu] 50 (0, 0)) := by rw [← hw3]; exact heap_alloc_new w2 _
          obtain ⟨⟨d0, d1, d2⟩, _⟩ := blk_cells n3
          have n4' := (b4.block _ (heap_lt' n3)).trans n3
          have HNEW : Hid (∀ j u, [Value.int .i64 (o : Int), .int .i64 (ys : Int), .bool yu][j]? = some u → w4.cell? ((⟨w3.heap.size, 0, none⟩ : Addr).add j) = some u) := fun j u hu => by
            have e : (⟨w3.heap.size, 0, none⟩ : Addr).add j = ⟨w3.heap.size, j, none⟩ := by unfold Addr.add; split <;> simp_all
            rw [e, cell_of_row w4 _ j _ _ (0, 0) n4]
            simpa using hu
          have HONE : Hid (∀ u ∈ [Value.int .i64 (o : Int), .int .i64 (ys : Int), .bool yu], u.oneCell' = true) := fun u hu => by
            simp at hu
            rcases hu with rfl | rfl | rfl <;> rfl
          have hB4 : B0 ≤ w4.heap.size := by have := b4.size; omega
          have HB4 := Lib.hid (HB2.out.trans ((b3.trans (b4.mono b3.size)).mono hw2))
          have OWN4 := Lib.hid own4
          have HN4 := Lib.hid n4'
          have hs4 : w3.heap.size < w4.heap.size := heap_lt' n4
          have HS3 := Lib.hid s3
          have HFL : Hid (flatK (l ++ [⟨o, ys, yu⟩]) = flatK l ++ [.int .i64 (o : Int), .int .i64 (ys : Int), .bool yu]) := flatK_append _ _
          have hg2 : w2.heap.size < w4.heap.size := heap_lt' n4'
          clear own2 own4 n3 n4 n4' b3 b4 hb2 HOWN HG s3
          go_wp2_with (first
            | (at_builtin; go_must (refine wpList_append_own _ rfl _ _ 46 rfl B0 50 i0 _ 3 24 Tryz.underlying46 hi hz0 hz1 hz2 rfl (by decide) _ l.length (flatK l) rfl OWN4.out ⟨w3.heap.size, 0, none⟩ 1 1 [.int .i64 (o : Int), .int .i64 (ys : Int), .bool yu] rfl rfl HNEW.out HONE.out (by unfold maxLen; omega) (by omega) hB4 ?_); intro x5 w5 own5 gr5 at5;
               have gr5' : w4.grownBy w5 (Value.slice A7 l.length c7).ownBlock := gr5; have e5 := (gr5'.block _ hg2 (fun e => by have := (HALT.out _ e.symm).2; omega)).trans HN4.out; obtain ⟨⟨c0, c1, c2⟩, _⟩ := blk_cells e5; have HB5 : Hid (Below B0 w w5) := HB4.out.grown gr5' hB4 (fun k hk => (HALT.out k hk).1); have OWN5 : Hid (w5.ownsRow B0 50 3 x5 (l.length + 1) (flatK (l ++ [⟨o, ys, yu⟩]))) := (show World.ownsRow _ _ _ _ _ _ _ by rw [HFL.out]; exact own5); clear own5 gr5 gr5' at5 e5)
            | fail)
          go_roundw
          case rel => exact ⟨l ++ [⟨o, ys, yu⟩], o + ys, k, by go_num, by omega, by omega, by omega, by rw [List.length_append, List.length_singleton]; omega, HXL.out, by rw [List.length_append, List.length_singleton]; exact OWN5.out, HB5.out⟩
          case measure => simp [intOf]; omega
      · obtain rfl : o = bs.length := by omega
        obtain rfl : x = some l := by rw [hxl]; simp [walkF]
        have HB := Lib.hid hb
        have HO := Lib.hid hown
        clear hxl hown hb HX
        go_wp2
        go_ret2
        exact ⟨A7, c7, rfl, by rw [HB0.out]; exact HO.out, by rw [HB0.out]; exact HB.out⟩
end
end Go.Proofs.YtbldlidpapdkbaaGreat

/- The contracts of the laws' words: Pick, Blocks and Ints of lists that are the same. -/
namespace Go.Proofs.YtbldlidpapdkbaaGreat
open Go.RowKit

/-- A slice of blocks reads so; a slice of numbers. -/
def BkRd (w : World) (B : Nat) (A : Option Addr) (l : List Bk) : Prop := 0 < l.length → ∃ b o, A = some ⟨b, o, none⟩ ∧ b < B ∧ ∀ j x, l[j]? = some x →
  w.cell? ⟨b, o + j * 3, none⟩ = some (.int .i64 (x.off : Int)) ∧ w.cell? ⟨b, o + j * 3 + 1, none⟩ = some (.int .i64 (x.size : Int)) ∧ w.cell? ⟨b, o + j * 3 + 2, none⟩ = some (.bool x.used)
def IRd (w : World) (B : Nat) (A : Option Addr) (l : List Int) : Prop := 0 < l.length → ∃ b o, A = some ⟨b, o, none⟩ ∧ b < B ∧ ∀ j x, l[j]? = some x → w.cell? ⟨b, o + j, none⟩ = some (.int .i64 x)
/-- A number, or a block, that is laid. -/
structure La where
  what : Int
  at_ : Int
  v : Nat
/-- A slice of such. -/
def LaRd (w : World) (B : Nat) (A : Option Addr) (l : List La) : Prop := 0 < l.length → ∃ b o, A = some ⟨b, o, none⟩ ∧ b < B ∧ ∀ j x, l[j]? = some x →
  w.cell? ⟨b, o + j * 3, none⟩ = some (.int .i64 x.what) ∧ w.cell? ⟨b, o + j * 3 + 1, none⟩ = some (.int .i64 x.at_) ∧ w.cell? ⟨b, o + j * 3 + 2, none⟩ = some (.int .u64 (x.v : Int)) ∧
  (-9223372036854775808 ≤ x.what ∧ x.what ≤ 9223372036854775807) ∧ (-9223372036854775808 ≤ x.at_ ∧ x.at_ ≤ 9223372036854775807) ∧ x.v < 18446744073709551616
theorem LaRd.below {w w' : World} {B : Nat} {A : Option Addr} {l : List La} (h : LaRd w B A l) (hb : Below B w w') : LaRd w' B A l := fun hn => by
  obtain ⟨b, o, e, hB, hc⟩ := h hn
  refine ⟨b, o, e, hB, fun j x hx => ?_⟩
  obtain ⟨h0, h1, h2, h3⟩ := hc j x hx
  exact ⟨(hb.cell (p := ⟨b, _, none⟩) hB).trans h0, (hb.cell (p := ⟨b, _, none⟩) hB).trans h1, (hb.cell (p := ⟨b, _, none⟩) hB).trans h2, h3⟩

theorem BkRd.below {w w' : World} {B : Nat} {A : Option Addr} {l : List Bk} (h : BkRd w B A l) (hb : Below B w w') : BkRd w' B A l := fun hn => by
  obtain ⟨b, o, e, hB, hc⟩ := h hn
  refine ⟨b, o, e, hB, fun j x hx => ?_⟩
  obtain ⟨h0, h1, h2⟩ := hc j x hx
  exact ⟨(hb.cell (p := ⟨b, _, none⟩) hB).trans h0, (hb.cell (p := ⟨b, _, none⟩) hB).trans h1, (hb.cell (p := ⟨b, _, none⟩) hB).trans h2⟩
theorem BkRd.more {w : World} {B B' : Nat} {A : Option Addr} {l : List Bk} (h : BkRd w B A l) (hB : B ≤ B') : BkRd w B' A l := fun hn => by
  obtain ⟨b, o, e, h1, hc⟩ := h hn
  exact ⟨b, o, e, Nat.lt_of_lt_of_le h1 hB, hc⟩
theorem IRd.below {w w' : World} {B : Nat} {A : Option Addr} {l : List Int} (h : IRd w B A l) (hb : Below B w w') : IRd w' B A l := fun hn => by
  obtain ⟨b, o, e, hB, hc⟩ := h hn
  exact ⟨b, o, e, hB, fun j x hx => (hb.cell (p := ⟨b, _, none⟩) hB).trans (hc j x hx)⟩
theorem IRd.more {w : World} {B B' : Nat} {A : Option Addr} {l : List Int} (h : IRd w B A l) (hB : B ≤ B') : IRd w B' A l := fun hn => by
  obtain ⟨b, o, e, h1, hc⟩ := h hn
  exact ⟨b, o, e, Nat.lt_of_lt_of_le h1 hB, hc⟩
theorem pk_i {k : IntKind} {a b : Int} (h : a = b) : Ending.returned (.int k a) = .returned (.int k b) := by rw [h]

end Go.Proofs.YtbldlidpapdkbaaGreat

/- Slices and structs that came in, in the words of the contracts: bytes, bools, numbers, what is laid, a block. -/
namespace Go.Proofs.YtbldlidpapdkbaaGreat
open Go.RowKit Go.ChangeShapes Go.WideShapes Go.Deep

section
variable {H : Type} {enc : TypeId × Value → H} {w : World} {base : Nat} {held : Bool} {fuel : Nat} {A : Option Addr} {len cap : Nat} {x : DataW H × List MemPlace}
theorem open_byt {fuel : Nat} {A : Option Addr} {len cap : Nat} {x : DataW H × List MemPlace} (h : DataW.trod enc Tryz.prog w base (fun _ => true) held fuel 22 [.slice A len cap] = some x) : ∃ bs : List UInt8, Rd w w.heap.size A len bs ∧ len ≤ cap ∧ cap ≤ maxLen ∧ (A = none → cap = 0) := by
  rcases open_ints Tryz.underlying22 Tryz.underlying5 (by kernel_rfl) h with ⟨hcs, _⟩ | ⟨y, l, c, zs, hcs, _, hl, hm, hz, _, hcell, hwz⟩
  · simp at hcs
    obtain ⟨rfl, rfl, rfl⟩ := hcs
    exact rd_of_row (zs := []) (.inl ⟨rfl, rfl, rfl, rfl⟩)
  · simp at hcs
    obtain ⟨rfl, rfl, rfl⟩ := hcs
    exact rd_of_row (zs := zs) (.inr ⟨_, rfl, hl, hm, by simpa using hz, hcell, hwz⟩)

end
end Go.Proofs.YtbldlidpapdkbaaGreat

/- The contracts of the document's own lists: num, bit, one, Free, Member. -/
namespace Go.Proofs.YtbldlidpapdkbaaGreat
open Go.RowKit

theorem layN_eq (bs : List UInt8) (o v : Nat) : layN bs o v = lyN bs o v := by
  unfold layN lay lyN
  rw [lowB_length]

section
variable (w : World)
set_option maxHeartbeats 400000 in
theorem rnum_any (A : Option Addr) (c B : Nat) (bs : List UInt8) (h : Rd w B A bs.length bs) (hlc : bs.length ≤ c) (hl : bs.length ≤ 1000000) (o : Int) (ho : o ≤ 9223372036854775807) (v : Nat) (hv : numO bs o = v) :
    Calls Tryz.prog 25 #[.slice A bs.length c, .int .i64 o] w fun e w' => e = .returned (.int .u64 (v : Int)) ∧ w = w' := by
  have hw := rword_any w A c B bs h hlc hl o ho
  unfold numO at hv
  cases he : word? bs o with
  | none =>
    rw [he] at hw hv
    obtain rfl : 0 = v := hv
    dsimp only [wordV] at hw
    have HW := Lib.hid hw
    clear hw he h
    go_enter Tryz.func25, Tryz.ntmps25
    go_wp2_with fail
    with_reducible refine HW.out.mono ?_
    rintro e w1 ⟨rfl, rfl⟩
    go_wp2
    go_ret
    exact ⟨rfl, rfl⟩
  | some x =>
    rw [he] at hw hv
    obtain rfl : x = v := hv
    dsimp only [wordV] at hw
    have HW := Lib.hid hw
    clear hw he h
    go_enter Tryz.func25, Tryz.ntmps25
    go_wp2_with fail
    with_reducible refine HW.out.mono ?_
    rintro e w1 ⟨rfl, rfl⟩
    go_wp2
    go_ret
    exact ⟨rfl, rfl⟩

theorem numO_at (bs : List UInt8) (o : Nat) (h : o + 8 ≤ bs.length) : numO bs (o : Int) = wordN bs o := by
  unfold numO word?
  rw [if_pos (by omega)]
  rfl
theorem div_pow_succ (v k q : Nat) (h : v / 2 ^ k = q) : Value.int .u64 ((q : Int) / 2) = Value.int .u64 ((v / 2 ^ (k + 1) : Nat) : Int) := by
  rw [Nat.pow_succ, ← Nat.div_div_eq_div_mul, h]; simp

set_option maxRecDepth 100000 in
set_option maxHeartbeats 1000000 in
theorem rbit_any (v c : Nat) (hv : v < 18446744073709551616) (hc : c ≤ 1000) (b : Bool) (hb : bitN v c = b) :
    Calls Tryz.prog 50 #[.int .u64 (v : Int), .int .i64 (c : Int)] w fun e w' => e = .returned (.bool b) ∧ w = w' := by
  have HB := Lib.hid hb
  clear hb
  go_enter Tryz.func50, Tryz.ntmps50
  go_wp2
  go_loop [0, 5] (fun q i => ∃ k : Nat, k ≤ c ∧ i = .int .i64 (k : Int) ∧ q = .int .u64 ((v / 2 ^ k : Nat) : Int)) (fun _ i => c - (intOf i).toNat)
  case atStart => exact ⟨0, Nat.zero_le _, rfl, by simp⟩
  case round =>
    obtain ⟨k, hk, rfl, rfl⟩ := hrel
    have hq : v / 2 ^ k < 18446744073709551616 := Nat.lt_of_le_of_lt (Nat.div_le_self _ _) hv
    by_cases hlt : k < c
    · generalize hqq : v / 2 ^ k = q at *
      have HQ := Lib.hid hqq
      clear hqq
      go_wp2
      go_round
      case rel => exact ⟨k + 1, by omega, by go_num, div_pow_succ v k q HQ.out⟩
      case measure => simp [intOf]; omega
    · obtain rfl : k = c := by omega
      have HR : Hid (((((v / 2 ^ k : Nat) : Int) % 2) == 1) = b) := (show _ = _ by
        rw [← HB.out]
        unfold bitN
        rw [Bool.eq_iff_iff, beq_iff_eq, beq_iff_eq]
        omega)
      generalize v / 2 ^ k = q at *
      go_wp2
      go_ret
      exact ⟨rt_b HR.out, rfl⟩

set_option maxRecDepth 100000 in
set_option maxHeartbeats 1000000 in
theorem rone_any (c : Nat) (hc : c < 63) (v : Nat) (hv : 2 ^ c = v) :
    Calls Tryz.prog 60 #[.int .i64 (c : Int)] w fun e w' => e = .returned (.int .u64 (v : Int)) ∧ w = w' := by
  have HV := Lib.hid hv
  clear hv
  go_enter Tryz.func60, Tryz.ntmps60
  go_wp2
  go_loop [3, 4] (fun q i => ∃ k : Nat, k ≤ c ∧ i = .int .i64 (k : Int) ∧ q = .int .u64 ((2 ^ k : Nat) : Int)) (fun _ i => c - (intOf i).toNat)
  case atStart => exact ⟨0, Nat.zero_le _, rfl, rfl⟩
  case round =>
    obtain ⟨k, hk, rfl, rfl⟩ := hrel
    have hq : 2 ^ k ≤ 2 ^ 62 := Nat.pow_le_pow_right (by omega) (by omega)
    have hs : 2 ^ (k + 1) = 2 * 2 ^ k := by rw [Nat.pow_succ, Nat.mul_comm]
    have HS := Lib.hid hs
    clear hs
    by_cases hlt : k < c
    · generalize 2 ^ k = q at *
      have hq' : q ≤ 4611686018427387904 := hq
      clear hq
      go_wp2
      go_round
      case rel => exact ⟨k + 1, by omega, by go_num, by rw [HS.out]; go_num⟩
      case measure => simp [intOf]; omega
    · obtain rfl : k = c := by omega
      have HR : Hid (((2 ^ k : Nat) : Int) = (v : Int)) := (show _ = _ by rw [HV.out])
      generalize 2 ^ k = q at *
      clear hq
      go_wp2
      go_ret
      exact ⟨rt_i HR.out, rfl⟩

set_option maxRecDepth 100000 in
set_option maxHeartbeats 1000000 in
theorem rfree_any (A : Option Addr) (c B : Nat) (bs : List UInt8) (hr : Rd w B A bs.length bs) (hlc : bs.length ≤ c) (hl : bs.length ≤ 1000000) (o : Int) (ho : -9223372036854775808 ≤ o ∧ o ≤ 9223372036854775807) (k : Int) (hk : freeI bs o = k) :
    Calls Tryz.prog 38 #[.slice A bs.length c, .int .i64 o] w fun e w' => e = .returned (.int .i64 k) ∧ Below w.heap.size w w' := by
  cases hg : getB bs o with
  | none =>
    have hG := rgetB_any w A c B bs hr hlc hl o ho _ hg
    dsimp only [bkV, Option.isSome] at hG
    obtain rfl : -1 = k := by rw [← hk]; unfold freeI; rw [hg]
    have HG := Lib.hid hG
    clear hG hr hk hg
    go_enter Tryz.func38, Tryz.ntmps38
    go_wp2_with fail
    with_reducible refine HG.out.mono ?_
    rintro e w1 ⟨rfl, hb⟩
    go_wp2
    go_ret
    exact ⟨rfl, hb.alloc hb.size _⟩
  | some x =>
    obtain ⟨xo, xs, xu⟩ := x
    have hG := rgetB_any w A c B bs hr hlc hl o ho _ hg
    dsimp only [bkV, Bk.val, Option.isSome] at hG
    have q := (isSz_iff _).1 (getB_some hg).2.2.2.2.1
    dsimp only at q
    cases xu with
    | true =>
      obtain rfl : -1 = k := by rw [← hk]; unfold freeI; rw [hg]; rfl
      have HG := Lib.hid hG
      clear hG hr hk hg
      go_enter Tryz.func38, Tryz.ntmps38
      go_wp2_with fail
      with_reducible refine HG.out.mono ?_
      rintro e w1 ⟨rfl, hb⟩
      go_wp2
      go_ret
      exact ⟨rfl, hb.alloc hb.size _⟩
    | false =>
      have hk' : classI (xs : Int) = k := by rw [← hk]; unfold freeI; rw [hg]; rfl
      have HC := Lib.hid (fun w => rclass_any w (xs : Int) (by omega) k hk')
      have HG := Lib.hid hG
      clear hG hr hk hg hk'
      go_enter Tryz.func38, Tryz.ntmps38
      go_wp2_with fail
      with_reducible refine HG.out.mono ?_
      rintro e w1 ⟨rfl, hb⟩
      go_wp2_with fail
      with_reducible refine (HC.out _).mono ?_
      rintro e w2 ⟨rfl, rfl⟩
      go_wp2
      go_ret
      exact ⟨rfl, hb.alloc hb.size _⟩

set_option maxRecDepth 100000 in
set_option maxHeartbeats 1000000 in
theorem rmember_any (A : Option Addr) (c B : Nat) (bs : List UInt8) (hr : Rd w B A bs.length bs) (hlc : bs.length ≤ c) (hl : bs.length ≤ 1000000) (p : Nat) (hp : p < 18446744073709551616) (k : Int) (b : Bool) (hb : memberB bs p k = b) :
    Calls Tryz.prog 39 #[.slice A bs.length c, .int .u64 (p : Int), .int .i64 k] w fun e w' => e = .returned (.bool b) ∧ Below w.heap.size w w' := by
  by_cases h0 : 20000 < p
  · obtain rfl : false = b := by rw [← hb]; unfold memberB; rw [decide_eq_false (by omega)]; rfl
    clear hr hb
    go_enter Tryz.func39, Tryz.ntmps39
    go_wp2
    go_ret
    exact ⟨rfl, Below.refl _ _⟩
  · have hb' : (match getB bs (p : Int) with
      | some x => !x.used && classI x.size == k
      | none => false) = b := by rw [← hb]; unfold memberB; rw [decide_eq_true (by omega), Bool.true_and]; cases getB bs (p : Int) <;> rfl
    cases hg : getB bs (p : Int) with
    | none =>
      have hG := rgetB_any w A c B bs hr hlc hl (p : Int) (by omega) _ hg
      dsimp only [bkV, Option.isSome] at hG
      rw [hg] at hb'
      obtain rfl : false = b := hb'
      have HG := Lib.hid hG
      clear hG hr hb hg
      go_enter Tryz.func39, Tryz.ntmps39
      go_wp2_with fail
      with_reducible refine HG.out.mono ?_
      rintro e w1 ⟨rfl, hb⟩
      go_wp2
      go_ret
      exact ⟨rfl, hb.alloc hb.size _⟩
    | some x =>
      obtain ⟨xo, xs, xu⟩ := x
      have hG := rgetB_any w A c B bs hr hlc hl (p : Int) (by omega) _ hg
      dsimp only [bkV, Bk.val, Option.isSome] at hG
      have q := (isSz_iff _).1 (getB_some hg).2.2.2.2.1
      dsimp only at q
      rw [hg] at hb'
      cases xu with
      | true =>
        obtain rfl : false = b := hb'
        have HG := Lib.hid hG
        clear hG hr hb hg
        go_enter Tryz.func39, Tryz.ntmps39
        go_wp2_with fail
        with_reducible refine HG.out.mono ?_
        rintro e w1 ⟨rfl, hb⟩
        go_wp2
        go_ret
        exact ⟨rfl, hb.alloc hb.size _⟩
      | false =>
        obtain ⟨d, hd⟩ : ∃ d, classI (xs : Int) = d := ⟨_, rfl⟩
        have hb2 : (d == k) = b := by rw [← hd]; simpa using hb'
        have HC := Lib.hid (fun w => rclass_any w (xs : Int) (by omega) d hd)
        have HG := Lib.hid hG
        have HBB := Lib.hid hb2
        clear hG hr hb hb' hg hd hb2
        go_enter Tryz.func39, Tryz.ntmps39
        go_wp2_with fail
        with_reducible refine HG.out.mono ?_
        rintro e w1 ⟨rfl, hb⟩
        go_wp2_with fail
        with_reducible refine (HC.out _).mono ?_
        rintro e w2 ⟨rfl, rfl⟩
        go_wp2
        go_ret
        exact ⟨rt_b HBB.out, hb.alloc hb.size _⟩
end
end Go.Proofs.YtbldlidpapdkbaaGreat

/- The contracts of the document's own lists: mark, Put. -/
namespace Go.Proofs.YtbldlidpapdkbaaGreat
open Go.RowKit

/-- A slice that is nil with nothing behind it, or lies in a block of S. -/
def KO (S : Nat → Prop) (A : Option Addr) (c : Nat) : Prop := (A = none → c = 0) ∧ ∀ a, A = some a → S a.block
section
variable (w : World)
theorem rlay_sl (S : Nat → Prop) (hS : ∀ k, w.heap.size ≤ k → S k) (A : Option Addr) (c B : Nat) (bs : List UInt8) (n : Nat) (hn : bs.length = n) (hr : Rd w B A n bs) (hB : B ≤ w.heap.size) (hA0 : KO S A c) (hl : n ≤ 100000) (o : Int) (v : Nat) (hv : v < 18446744073709551616) (p : Nat) (hp : o = (p : Int)) (ho : p + 8 ≤ n) :
    Calls Tryz.prog 40 #[.slice A n c, .int .i64 o, .int .u64 (v : Int)] w fun e w' => ∃ A' c', e = .returned (.slice A' n c') ∧ Rd w' w'.heap.size A' n (lyN bs p v) ∧ n ≤ c' ∧ KO S A' c' ∧ Below w.heap.size w w' := by
  subst hn hp
  refine (rlay_any w A c B bs hr hB hA0.1 hl p v hv ho).mono ?_
  rintro e w' ⟨A', c', rfl, hown, hb⟩
  rw [layN_eq, lyN_length _ _ _ ho] at hown ⊢
  obtain ⟨h1, h2, h3⟩ := own_facts hown
  exact ⟨A', c', rfl, h1, h2, ⟨h3, fun a e => hS _ (hown.lt a.block (by rw [e]; rfl)).1⟩, hb⟩

set_option maxRecDepth 100000 in
set_option maxHeartbeats 1000000 in
theorem rmark_any (S : Nat → Prop) (hS : ∀ k, w.heap.size ≤ k → S k) (A : Option Addr) (ca : Nat) (bs : List UInt8) (n : Nat) (hn : bs.length = n) (hr : Rd w w.heap.size A n bs) (hlc : n ≤ ca) (hA0 : KO S A ca) (hl : n ≤ 100000) (hl2 : 184 ≤ n) (c : Nat) (hc : c < 22) :
    Calls Tryz.prog 41 #[.slice A n ca, .int .i64 (c : Int)] w fun e w' => ∃ A' c', e = .returned (.slice A' n c') ∧ Rd w' w'.heap.size A' n (markB bs c) ∧ n ≤ c' ∧ KO S A' c' ∧ Below w.heap.size w w' := by
  subst hn
  obtain ⟨v, hv⟩ : ∃ v, wordN bs 0 = v := ⟨_, rfl⟩
  obtain ⟨f, hf⟩ : ∃ f, wordN bs (8 + 8 * c) = f := ⟨_, rfl⟩
  obtain ⟨b, hb⟩ : ∃ b, bitN v c = b := ⟨_, rfl⟩
  have hvl : v < 18446744073709551616 := by rw [← hv]; exact wordN_lt _ _
  have hfl : f < 18446744073709551616 := by rw [← hf]; exact wordN_lt _ _
  have n0 := rnum_any w A ca w.heap.size bs hr hlc (by omega) 0 (by omega) v (by rw [← hv]; exact numO_at bs 0 (by omega))
  have n1 := rnum_any w A ca w.heap.size bs hr hlc (by omega) (8 + 8 * (c : Int)) (by omega) f (by rw [← hf, ← numO_at bs (8 + 8 * c) (by omega)]; rfl)
  have bt := rbit_any w v c hvl (by omega) b hb
  have HN0 := Lib.hid n0
  have HN1 := Lib.hid n1
  have HBT := Lib.hid bt
  have HO := Lib.hid (rone_any w c (by omega) (2 ^ c) rfl)
  have hmk : markB bs c = if b = true ∧ f = 0 then lyN bs 0 (v - 2 ^ c) else if b = false ∧ f ≠ 0 then lyN bs 0 (v + 2 ^ c) else bs := by
    unfold markB
    rw [hv, hf, hb]
  have hle : b = true → 2 ^ c ≤ v := fun e => bitN_ge v c (by rw [hb, e])
  have hlt : b = false → v + 2 ^ c < 18446744073709551616 := fun e => bitN_lt v c (by omega) hvl (by rw [hb, e])
  obtain ⟨P, hP⟩ : ∃ P, 2 ^ c = P := ⟨_, rfl⟩
  have hPl : P ≤ 4194304 := by rw [← hP]; exact (Nat.pow_le_pow_right (by omega) (by omega) : 2 ^ c ≤ 2 ^ 22)
  rw [hP] at HO hmk hle hlt
  have HM := Lib.hid hmk
  have HR := Lib.hid hr
  have HA0 := Lib.hid hA0
  clear n0 n1 bt hv hf hb hmk hr hA0 hP
  by_cases f0 : f = 0
  · subst f0
    cases b with
    | true =>
      have hle := hle rfl
      have HL := rlay_sl w S hS A ca w.heap.size bs bs.length rfl HR.out (Nat.le_refl _) HA0.out hl 0 (v - P) (by omega) 0 rfl (by omega)
      rw [show ((v - P : Nat) : Int) = (v : Int) - (P : Int) by omega] at HL
      have HL := Lib.hid HL
      have e : markB bs c = lyN bs 0 (v - P) := by rw [HM.out]; rfl
      have HE := Lib.hid e
      clear e HM
      go_enter Tryz.func41, Tryz.ntmps41
      go_wp2_with fail
      with_reducible refine HN0.out.mono ?_
      rintro e w1 ⟨rfl, rfl⟩
      go_wp2_with fail
      with_reducible refine HBT.out.mono ?_
      rintro e w1 ⟨rfl, rfl⟩
      go_wp2_with fail
      with_reducible refine HN1.out.mono ?_
      rintro e w1 ⟨rfl, rfl⟩
      go_wp2_with fail
      with_reducible refine HO.out.mono ?_
      rintro e w1 ⟨rfl, rfl⟩
      go_wp2_with fail
      refine HL.out.mono ?_
      rintro e w1 ⟨A', c', rfl, h1, h2, h3, h4⟩
      have H1 := Lib.hid h1
      have H4 := Lib.hid h4
      clear h1 h4
      go_wp2
      go_ret
      exact ⟨A', c', rfl, by rw [HE.out]; exact H1.out, h2, h3, H4.out⟩
    | false =>
      have e : markB bs c = bs := by rw [HM.out]; rfl
      have HE := Lib.hid e
      clear e HM
      go_enter Tryz.func41, Tryz.ntmps41
      go_wp2_with fail
      with_reducible refine HN0.out.mono ?_
      rintro e w1 ⟨rfl, rfl⟩
      go_wp2_with fail
      with_reducible refine HBT.out.mono ?_
      rintro e w1 ⟨rfl, rfl⟩
      go_wp2_with fail
      with_reducible refine HN1.out.mono ?_
      rintro e w1 ⟨rfl, rfl⟩
      go_wp2
      go_ret
      exact ⟨A, ca, rfl, by rw [HE.out]; exact HR.out, hlc, HA0.out, Below.refl _ _⟩
  · have hq : ((f : Int) != 0) = true := by rw [bne_iff_ne]; omega
    cases b with
    | true =>
      have e : markB bs c = bs := by rw [HM.out, if_neg (fun h => f0 h.2), if_neg (fun h => by cases h.1)]
      have HE := Lib.hid e
      clear e HM f0
      go_enter Tryz.func41, Tryz.ntmps41
      go_wp2_with fail
      with_reducible refine HN0.out.mono ?_
      rintro e w1 ⟨rfl, rfl⟩
      go_wp2_with fail
      with_reducible refine HBT.out.mono ?_
      rintro e w1 ⟨rfl, rfl⟩
      go_wp2_with fail
      with_reducible refine HN1.out.mono ?_
      rintro e w1 ⟨rfl, rfl⟩
      go_wp2
      go_ret
      exact ⟨A, ca, rfl, by rw [HE.out]; exact HR.out, hlc, HA0.out, Below.refl _ _⟩
    | false =>
      have hlt := hlt rfl
      have HL := rlay_sl w S hS A ca w.heap.size bs bs.length rfl HR.out (Nat.le_refl _) HA0.out hl 0 (v + P) (by omega) 0 rfl (by omega)
      rw [Int.natCast_add] at HL
      have HL := Lib.hid HL
      have e : markB bs c = lyN bs 0 (v + P) := by rw [HM.out, if_neg (fun h => by cases h.1), if_pos ⟨rfl, f0⟩]
      have HE := Lib.hid e
      clear e HM f0
      go_enter Tryz.func41, Tryz.ntmps41
      go_wp2_with fail
      with_reducible refine HN0.out.mono ?_
      rintro e w1 ⟨rfl, rfl⟩
      go_wp2_with fail
      with_reducible refine HBT.out.mono ?_
      rintro e w1 ⟨rfl, rfl⟩
      go_wp2_with fail
      with_reducible refine HN1.out.mono ?_
      rintro e w1 ⟨rfl, rfl⟩
      go_wp2_with fail
      with_reducible refine HO.out.mono ?_
      rintro e w1 ⟨rfl, rfl⟩
      go_wp2_with fail
      refine HL.out.mono ?_
      rintro e w1 ⟨A', c', rfl, h1, h2, h3, h4⟩
      have H1 := Lib.hid h1
      have H4 := Lib.hid h4
      clear h1 h4
      go_wp2
      go_ret
      exact ⟨A', c', rfl, by rw [HE.out]; exact H1.out, h2, h3, H4.out⟩
end
end Go.Proofs.YtbldlidpapdkbaaGreat

/- The contracts of the document's own lists: Put, all ways. -/
namespace Go.Proofs.YtbldlidpapdkbaaGreat
open Go.RowKit

/-- What Put, and Take, and Set tell. -/
def SlB (S : Nat → Prop) (n : Nat) (out : List UInt8) (ok : Bool) (w : World) (e : Ending) (w' : World) : Prop :=
  ∃ A' c', e = .returned (.tuple #[.slice A' n c', .bool ok]) ∧ Rd w' w'.heap.size A' n out ∧ n ≤ c' ∧ KO S A' c' ∧ Below w.heap.size w w'

section
variable (w : World)

set_option maxRecDepth 100000 in
set_option maxHeartbeats 2000000 in
theorem rput_1 (S : Nat → Prop) (_hS : ∀ k, w.heap.size ≤ k → S k) (A : Option Addr) (ca : Nat) (bs : List UInt8) (n : Nat) (hn : bs.length = n) (hr : Rd w w.heap.size A n bs) (hlc : n ≤ ca) (hA0 : KO S A ca) (hl : n ≤ 100000) (o : Int) (ho : -9223372036854775808 ≤ o ∧ o ≤ 9223372036854775807) (k : Int) (hk : freeI bs o = k) (hk0 : k < 0) :
    Calls Tryz.prog 19 #[.slice A n ca, .int .i64 o] w fun e w' => SlB S n bs false w e w' := by
  have hF := rfree_any w A ca w.heap.size bs (by rw [hn]; exact hr) (by omega) (by omega) o ho k hk
  rw [hn] at hF
  have HF := Lib.hid hF
  have HR := Lib.hid hr
  have s1 : decide (k < 0) = true := decide_eq_true hk0
  clear hF hk hr hn
  go_enter Tryz.func19, Tryz.ntmps19
  go_wp2_with fail
  with_reducible refine HF.out.mono ?_
  rintro e w1 ⟨rfl, hb⟩
  have HB := Lib.hid hb
  clear hb
  go_wp2
  go_ret2
  exact ⟨A, ca, rfl, (HR.out.below HB.out).more HB.out.size, hlc, hA0, HB.out⟩

set_option maxRecDepth 100000 in
set_option maxHeartbeats 2000000 in
theorem rput_2 (S : Nat → Prop) (_hS : ∀ k, w.heap.size ≤ k → S k) (A : Option Addr) (ca : Nat) (bs : List UInt8) (n : Nat) (hn : bs.length = n) (hr : Rd w w.heap.size A n bs) (hlc : n ≤ ca) (hA0 : KO S A ca) (hl : n ≤ 100000) (p c f : Nat) (hp : p ≤ 9223372036854775807) (hc : c < 22) (hk : freeI bs (p : Int) = (c : Int)) (hf : wordN bs (8 + 8 * c) = f) (m : Bool) (hm : memberB bs f (c : Int) = m) (h184 : 184 ≤ n) (hno : f = p) :
    Calls Tryz.prog 19 #[.slice A n ca, .int .i64 (p : Int)] w fun e w' => SlB S n bs false w e w' := by
  have hpb := hp
  have hfl : f < 18446744073709551616 := by rw [← hf]; exact wordN_lt _ _
  have hF := rfree_any w A ca w.heap.size bs (by rw [hn]; exact hr) (by omega) (by omega) (p : Int) (by omega) (c : Int) hk
  rw [hn] at hF
  have HF := Lib.hid hF
  have HNM := fun W (hb : Below w.heap.size w W) => rnum_any W A ca w.heap.size bs (by rw [hn]; exact hr.below hb) (by omega) (by omega) (8 + 8 * (c : Int)) (by omega) f (by rw [← hf, ← numO_at bs (8 + 8 * c) (by omega)]; rfl)
  rw [hn] at HNM
  have HNM := Lib.hid HNM
  have HMB := fun W (hb : Below w.heap.size w W) => rmember_any W A ca w.heap.size bs (by rw [hn]; exact hr.below hb) (by omega) (by omega) f hfl (c : Int) m hm
  rw [hn] at HMB
  have HMB := Lib.hid HMB
  have HR := Lib.hid hr
  have HA0 := Lib.hid hA0
  have s1 : decide ((c : Int) < 0) = false := decide_eq_false (by omega)
  subst hno
  have s2 : ((f : Int) == (f : Int)) = true := by simp
  clear hF hk hr hf hm hA0 hn
  go_enter Tryz.func19, Tryz.ntmps19
  go_wp2_with fail
  with_reducible refine HF.out.mono ?_
  rintro e w1 ⟨rfl, hb⟩
  have HB := Lib.hid hb
  clear hb
  go_wp2_with fail
  refine (HNM.out w1 HB.out).mono ?_
  rintro e w2 ⟨rfl, rfl⟩
  go_wp2_with fail
  refine (HMB.out w1 HB.out).mono ?_
  rintro e w0 ⟨rfl, hb⟩
  have B0 := Lib.hid (HB.out.trans (hb.mono HB.out.size))
  clear hb HB
  go_wp2
  go_ret2
  exact ⟨A, ca, rfl, (HR.out.below B0.out).more B0.out.size, hlc, HA0.out, B0.out⟩

set_option maxRecDepth 100000 in
set_option maxHeartbeats 2000000 in
theorem rput_3 (S : Nat → Prop) (_hS : ∀ k, w.heap.size ≤ k → S k) (A : Option Addr) (ca : Nat) (bs : List UInt8) (n : Nat) (hn : bs.length = n) (hr : Rd w w.heap.size A n bs) (hlc : n ≤ ca) (hA0 : KO S A ca) (hl : n ≤ 100000) (p c f : Nat) (hp : p ≤ 9223372036854775807) (hc : c < 22) (hk : freeI bs (p : Int) = (c : Int)) (hf : wordN bs (8 + 8 * c) = f) (hm : memberB bs f (c : Int) = false) (h184 : 184 ≤ n) (hno : f ≠ p) (hno2 : f ≠ 0) :
    Calls Tryz.prog 19 #[.slice A n ca, .int .i64 (p : Int)] w fun e w' => SlB S n bs false w e w' := by
  have hpb := hp
  have hfl : f < 18446744073709551616 := by rw [← hf]; exact wordN_lt _ _
  have hF := rfree_any w A ca w.heap.size bs (by rw [hn]; exact hr) (by omega) (by omega) (p : Int) (by omega) (c : Int) hk
  rw [hn] at hF
  have HF := Lib.hid hF
  have HNM := fun W (hb : Below w.heap.size w W) => rnum_any W A ca w.heap.size bs (by rw [hn]; exact hr.below hb) (by omega) (by omega) (8 + 8 * (c : Int)) (by omega) f (by rw [← hf, ← numO_at bs (8 + 8 * c) (by omega)]; rfl)
  rw [hn] at HNM
  have HNM := Lib.hid HNM
  have HMB := fun W (hb : Below w.heap.size w W) => rmember_any W A ca w.heap.size bs (by rw [hn]; exact hr.below hb) (by omega) (by omega) f hfl (c : Int) false hm
  rw [hn] at HMB
  have HMB := Lib.hid HMB
  have HR := Lib.hid hr
  have HA0 := Lib.hid hA0
  have s1 : decide ((c : Int) < 0) = false := decide_eq_false (by omega)
  have s2 : ((f : Int) == (p : Int)) = false := by rw [beq_eq_false_iff_ne]; omega
  have s3 : ((f : Int) != 0) = true := by rw [bne_iff_ne]; omega
  clear hF hk hr hf hm hA0 hn
  go_enter Tryz.func19, Tryz.ntmps19
  go_wp2_with fail
  with_reducible refine HF.out.mono ?_
  rintro e w1 ⟨rfl, hb⟩
  have HB := Lib.hid hb
  clear hb
  go_wp2_with fail
  refine (HNM.out w1 HB.out).mono ?_
  rintro e w2 ⟨rfl, rfl⟩
  go_wp2_with fail
  refine (HMB.out w1 HB.out).mono ?_
  rintro e w0 ⟨rfl, hb⟩
  have B0 := Lib.hid (HB.out.trans (hb.mono HB.out.size))
  clear hb HB
  go_wp2
  go_ret2
  exact ⟨A, ca, rfl, (HR.out.below B0.out).more B0.out.size, hlc, HA0.out, B0.out⟩

set_option maxRecDepth 100000 in
set_option maxHeartbeats 2000000 in
theorem rput_4 (S : Nat → Prop) (hS : ∀ k, w.heap.size ≤ k → S k) (A : Option Addr) (ca : Nat) (bs : List UInt8) (n : Nat) (hn : bs.length = n) (hr : Rd w w.heap.size A n bs) (hlc : n ≤ ca) (hA0 : KO S A ca) (hl : n ≤ 100000) (p c : Nat) (hc : c < 22) (hk : freeI bs (p : Int) = (c : Int)) (hf : wordN bs (8 + 8 * c) = 0) (m : Bool) (hm : memberB bs 0 (c : Int) = m) (h184 : 184 ≤ p) (hp : p + 32 ≤ n) :
    Calls Tryz.prog 19 #[.slice A n ca, .int .i64 (p : Int)] w fun e w' => SlB S n (markB (lyN (lyN (lyN bs (p + 8) 0) (p + 16) 0) (8 + 8 * c) p) c) true w e w' := by
  have hp : p ≤ 9223372036854775807 ∧ p + 32 ≤ n := ⟨by omega, hp⟩
  obtain ⟨hpb, hp⟩ := hp
  have hfl : 0 < 18446744073709551616 := by rw [← hf]; exact wordN_lt _ _
  have hF := rfree_any w A ca w.heap.size bs (by rw [hn]; exact hr) (by omega) (by omega) (p : Int) (by omega) (c : Int) hk
  rw [hn] at hF
  have HF := Lib.hid hF
  have HNM := fun W (hb : Below w.heap.size w W) => rnum_any W A ca w.heap.size bs (by rw [hn]; exact hr.below hb) (by omega) (by omega) (8 + 8 * (c : Int)) (by omega) 0 (by rw [← hf, ← numO_at bs (8 + 8 * c) (by omega)]; rfl)
  rw [hn] at HNM
  have HNM := Lib.hid HNM
  have HMB := fun W (hb : Below w.heap.size w W) => rmember_any W A ca w.heap.size bs (by rw [hn]; exact hr.below hb) (by omega) (by omega) 0 hfl (c : Int) m hm
  rw [hn] at HMB
  have HMB := Lib.hid HMB
  have HR := Lib.hid hr
  have HA0 := Lib.hid hA0
  have s1 : decide ((c : Int) < 0) = false := decide_eq_false (by omega)
  have s2 : ((0 : Int) == (p : Int)) = false := by rw [beq_eq_false_iff_ne]; omega
  clear hF hk hr hf hm hA0
  go_enter Tryz.func19, Tryz.ntmps19
  go_wp2_with fail
  with_reducible refine HF.out.mono ?_
  rintro e w1 ⟨rfl, hb⟩
  have HB := Lib.hid hb
  clear hb
  go_wp2_with fail
  refine (HNM.out w1 HB.out).mono ?_
  rintro e w2 ⟨rfl, rfl⟩
  go_wp2_with fail
  refine (HMB.out w1 HB.out).mono ?_
  rintro e w0 ⟨rfl, hb⟩
  have B0 := Lib.hid (HB.out.trans (hb.mono HB.out.size))
  clear hb HB
  have R0 := Lib.hid ((HR.out.below B0.out).more B0.out.size)
  obtain ⟨A0, hA0_⟩ : ∃ A0, A = A0 := ⟨_, rfl⟩
  obtain ⟨c0, hc0_⟩ : ∃ c0, ca = c0 := ⟨_, rfl⟩
  obtain ⟨b0, hb0_⟩ : ∃ b0, bs = b0 := ⟨_, rfl⟩
  subst hA0_ hc0_ hb0_
  have hb0 := hn
  have N0 := Lib.hid HA0.out
  clear HR HA0 hn HF HNM HMB
  have HL1 := rlay_sl w0 S (fun k h => hS k (Nat.le_trans B0.out.size h)) A ca w0.heap.size bs n hb0 R0.out (Nat.le_refl _) N0.out hl ((p : Int) + 8) 0 (by omega) (p + 8) (by omega) (by omega)
  have HL1 := Lib.hid HL1
  go_wp2_with fail
  refine HL1.out.mono ?_
  rintro e w1 ⟨A1, c1, rfl, r, hlc1, hn1, hbl1⟩
  obtain ⟨b1, hb1_⟩ : ∃ b, lyN bs (p + 8) 0 = b := ⟨_, rfl⟩
  rw [hb1_] at r
  have hb1 : b1.length = n := by rw [← hb1_, lyN_length _ _ _ (by omega)]; exact hb0
  have R1 := Lib.hid r
  have N1 := Lib.hid hn1
  have B1 := Lib.hid (B0.out.trans (hbl1.mono B0.out.size))
  have E1 := Lib.hid hb1_
  clear r hn1 hbl1 hb1_ HL1
  have HL2 := rlay_sl w1 S (fun k h => hS k (Nat.le_trans B1.out.size h)) A1 c1 w1.heap.size b1 n hb1 R1.out (Nat.le_refl _) N1.out hl ((p : Int) + 16) 0 (by omega) (p + 16) (by omega) (by omega)
  have HL2 := Lib.hid HL2
  go_wp2_with fail
  refine HL2.out.mono ?_
  rintro e w2 ⟨A2, c2, rfl, r, hlc2, hn2, hbl2⟩
  obtain ⟨b2, hb2_⟩ : ∃ b, lyN b1 (p + 16) 0 = b := ⟨_, rfl⟩
  rw [hb2_] at r
  have hb2 : b2.length = n := by rw [← hb2_, lyN_length _ _ _ (by omega)]; exact hb1
  have R2 := Lib.hid r
  have N2 := Lib.hid hn2
  have B2 := Lib.hid (B1.out.trans (hbl2.mono B1.out.size))
  have E2 := Lib.hid hb2_
  clear r hn2 hbl2 hb2_ HL2
  have HL3 := rlay_sl w2 S (fun k h => hS k (Nat.le_trans B2.out.size h)) A2 c2 w2.heap.size b2 n hb2 R2.out (Nat.le_refl _) N2.out hl (8 + 8 * (c : Int)) p (by omega) (8 + 8 * c) (by omega) (by omega)
  have HL3 := Lib.hid HL3
  go_wp2_with fail
  refine HL3.out.mono ?_
  rintro e w3 ⟨A3, c3, rfl, r, hlc3, hn3, hbl3⟩
  obtain ⟨b3, hb3_⟩ : ∃ b, lyN b2 (8 + 8 * c) p = b := ⟨_, rfl⟩
  rw [hb3_] at r
  have hb3 : b3.length = n := by rw [← hb3_, lyN_length _ _ _ (by omega)]; exact hb2
  have R3 := Lib.hid r
  have N3 := Lib.hid hn3
  have B3 := Lib.hid (B2.out.trans (hbl3.mono B2.out.size))
  have E3 := Lib.hid hb3_
  clear r hn3 hbl3 hb3_ HL3
  have HMK := Lib.hid (rmark_any w3 S (fun k h => hS k (Nat.le_trans B3.out.size h)) A3 c3 b3 n hb3 R3.out hlc3 N3.out hl (by omega) c hc)
  go_wp2_with fail
  with_reducible refine HMK.out.mono ?_
  rintro e w9 ⟨A9, c9, rfl, r, hlc9, hn9, hbl⟩
  have R9 := Lib.hid r
  have N9 := Lib.hid hn9
  have B9 := Lib.hid (B3.out.trans (hbl.mono B3.out.size))
  clear r hn9 hbl HMK
  go_wp2
  go_ret2
  refine ⟨A9, c9, rfl, ?_, hlc9, N9.out, B9.out⟩
  rw [E1.out, E2.out, E3.out]
  exact R9.out

set_option maxRecDepth 100000 in
set_option maxHeartbeats 2000000 in
theorem rput_5 (S : Nat → Prop) (hS : ∀ k, w.heap.size ≤ k → S k) (A : Option Addr) (ca : Nat) (bs : List UInt8) (n : Nat) (hn : bs.length = n) (hr : Rd w w.heap.size A n bs) (hlc : n ≤ ca) (hA0 : KO S A ca) (hl : n ≤ 100000) (p c f : Nat) (hc : c < 22) (hk : freeI bs (p : Int) = (c : Int)) (hf : wordN bs (8 + 8 * c) = f) (hm : memberB bs f (c : Int) = true) (h184 : 184 ≤ p) (hp : p + 32 ≤ n) (hno : f ≠ p) (hf1 : 184 ≤ f) (hf2 : f + 32 ≤ n) :
    Calls Tryz.prog 19 #[.slice A n ca, .int .i64 (p : Int)] w fun e w' => SlB S n (markB (lyN (lyN (lyN (lyN bs (p + 8) f) (p + 16) 0) (f + 16) p) (8 + 8 * c) p) c) true w e w' := by
  have hp : p ≤ 9223372036854775807 ∧ p + 32 ≤ n := ⟨by omega, hp⟩
  obtain ⟨hpb, hp⟩ := hp
  have hfl : f < 18446744073709551616 := by rw [← hf]; exact wordN_lt _ _
  have hF := rfree_any w A ca w.heap.size bs (by rw [hn]; exact hr) (by omega) (by omega) (p : Int) (by omega) (c : Int) hk
  rw [hn] at hF
  have HF := Lib.hid hF
  have HNM := fun W (hb : Below w.heap.size w W) => rnum_any W A ca w.heap.size bs (by rw [hn]; exact hr.below hb) (by omega) (by omega) (8 + 8 * (c : Int)) (by omega) f (by rw [← hf, ← numO_at bs (8 + 8 * c) (by omega)]; rfl)
  rw [hn] at HNM
  have HNM := Lib.hid HNM
  have HMB := fun W (hb : Below w.heap.size w W) => rmember_any W A ca w.heap.size bs (by rw [hn]; exact hr.below hb) (by omega) (by omega) f hfl (c : Int) true hm
  rw [hn] at HMB
  have HMB := Lib.hid HMB
  have HR := Lib.hid hr
  have HA0 := Lib.hid hA0
  have s1 : decide ((c : Int) < 0) = false := decide_eq_false (by omega)
  have s2 : ((f : Int) == (p : Int)) = false := by rw [beq_eq_false_iff_ne]; omega
  have s3 : ((f : Int) != 0) = true := by rw [bne_iff_ne]; omega
  clear hF hk hr hf hm hA0
  go_enter Tryz.func19, Tryz.ntmps19
  go_wp2_with fail
  with_reducible refine HF.out.mono ?_
  rintro e w1 ⟨rfl, hb⟩
  have HB := Lib.hid hb
  clear hb
  go_wp2_with fail
  refine (HNM.out w1 HB.out).mono ?_
  rintro e w2 ⟨rfl, rfl⟩
  go_wp2_with fail
  refine (HMB.out w1 HB.out).mono ?_
  rintro e w0 ⟨rfl, hb⟩
  have B0 := Lib.hid (HB.out.trans (hb.mono HB.out.size))
  clear hb HB
  have R0 := Lib.hid ((HR.out.below B0.out).more B0.out.size)
  obtain ⟨A0, hA0_⟩ : ∃ A0, A = A0 := ⟨_, rfl⟩
  obtain ⟨c0, hc0_⟩ : ∃ c0, ca = c0 := ⟨_, rfl⟩
  obtain ⟨b0, hb0_⟩ : ∃ b0, bs = b0 := ⟨_, rfl⟩
  subst hA0_ hc0_ hb0_
  have hb0 := hn
  have N0 := Lib.hid HA0.out
  clear HR HA0 hn HF HNM HMB
  have HL1 := rlay_sl w0 S (fun k h => hS k (Nat.le_trans B0.out.size h)) A ca w0.heap.size bs n hb0 R0.out (Nat.le_refl _) N0.out hl ((p : Int) + 8) f (by omega) (p + 8) (by omega) (by omega)
  have HL1 := Lib.hid HL1
  go_wp2_with fail
  refine HL1.out.mono ?_
  rintro e w1 ⟨A1, c1, rfl, r, hlc1, hn1, hbl1⟩
  obtain ⟨b1, hb1_⟩ : ∃ b, lyN bs (p + 8) f = b := ⟨_, rfl⟩
  rw [hb1_] at r
  have hb1 : b1.length = n := by rw [← hb1_, lyN_length _ _ _ (by omega)]; exact hb0
  have R1 := Lib.hid r
  have N1 := Lib.hid hn1
  have B1 := Lib.hid (B0.out.trans (hbl1.mono B0.out.size))
  have E1 := Lib.hid hb1_
  clear r hn1 hbl1 hb1_ HL1
  have HL2 := rlay_sl w1 S (fun k h => hS k (Nat.le_trans B1.out.size h)) A1 c1 w1.heap.size b1 n hb1 R1.out (Nat.le_refl _) N1.out hl ((p : Int) + 16) 0 (by omega) (p + 16) (by omega) (by omega)
  have HL2 := Lib.hid HL2
  go_wp2_with fail
  refine HL2.out.mono ?_
  rintro e w2 ⟨A2, c2, rfl, r, hlc2, hn2, hbl2⟩
  obtain ⟨b2, hb2_⟩ : ∃ b, lyN b1 (p + 16) 0 = b := ⟨_, rfl⟩
  rw [hb2_] at r
  have hb2 : b2.length = n := by rw [← hb2_, lyN_length _ _ _ (by omega)]; exact hb1
  have R2 := Lib.hid r
  have N2 := Lib.hid hn2
  have B2 := Lib.hid (B1.out.trans (hbl2.mono B1.out.size))
  have E2 := Lib.hid hb2_
  clear r hn2 hbl2 hb2_ HL2
  have HL3 := rlay_sl w2 S (fun k h => hS k (Nat.le_trans B2.out.size h)) A2 c2 w2.heap.size b2 n hb2 R2.out (Nat.le_refl _) N2.out hl ((f : Int) + 16) p (by omega) (f + 16) (by omega) (by omega)
  have HL3 := Lib.hid HL3
  go_wp2_with fail
  refine HL3.out.mono ?_
  rintro e w3 ⟨A3, c3, rfl, r, hlc3, hn3, hbl3⟩
  obtain ⟨b3, hb3_⟩ : ∃ b, lyN b2 (f + 16) p = b := ⟨_, rfl⟩
  rw [hb3_] at r
  have hb3 : b3.length = n := by rw [← hb3_, lyN_length _ _ _ (by omega)]; exact hb2
  have R3 := Lib.hid r
  have N3 := Lib.hid hn3
  have B3 := Lib.hid (B2.out.trans (hbl3.mono B2.out.size))
  have E3 := Lib.hid hb3_
  clear r hn3 hbl3 hb3_ HL3
  have HL4 := rlay_sl w3 S (fun k h => hS k (Nat.le_trans B3.out.size h)) A3 c3 w3.heap.size b3 n hb3 R3.out (Nat.le_refl _) N3.out hl (8 + 8 * (c : Int)) p (by omega) (8 + 8 * c) (by omega) (by omega)
  have HL4 := Lib.hid HL4
  go_wp2_with fail
  refine HL4.out.mono ?_
  rintro e w4 ⟨A4, c4, rfl, r, hlc4, hn4, hbl4⟩
  obtain ⟨b4, hb4_⟩ : ∃ b, lyN b3 (8 + 8 * c) p = b := ⟨_, rfl⟩
  rw [hb4_] at r
  have hb4 : b4.length = n := by rw [← hb4_, lyN_length _ _ _ (by omega)]; exact hb3
  have R4 := Lib.hid r
  have N4 := Lib.hid hn4
  have B4 := Lib.hid (B3.out.trans (hbl4.mono B3.out.size))
  have E4 := Lib.hid hb4_
  clear r hn4 hbl4 hb4_ HL4
  have HMK := Lib.hid (rmark_any w4 S (fun k h => hS k (Nat.le_trans B4.out.size h)) A4 c4 b4 n hb4 R4.out hlc4 N4.out hl (by omega) c hc)
  go_wp2_with fail
  with_reducible refine HMK.out.mono ?_
  rintro e w9 ⟨A9, c9, rfl, r, hlc9, hn9, hbl⟩
  have R9 := Lib.hid r
  have N9 := Lib.hid hn9
  have B9 := Lib.hid (B4.out.trans (hbl.mono B4.out.size))
  clear r hn9 hbl HMK
  go_wp2
  go_ret2
  refine ⟨A9, c9, rfl, ?_, hlc9, N9.out, B9.out⟩
  rw [E1.out, E2.out, E3.out, E4.out]
  exact R9.out

theorem rput_any (S : Nat → Prop) (hS : ∀ k, w.heap.size ≤ k → S k) (A : Option Addr) (ca : Nat) (bs : List UInt8) (n : Nat) (hn : bs.length = n) (hr : Rd w w.heap.size A n bs) (hlc : n ≤ ca) (hA0 : KO S A ca) (hl : n ≤ 100000) (o : Int) (ho : -9223372036854775808 ≤ o ∧ o ≤ 9223372036854775807) (x : Option (List UInt8)) (hx : putB bs o = x) :
    Calls Tryz.prog 19 #[.slice A n ca, .int .i64 o] w fun e w' => SlB S n (x.getD bs) x.isSome w e w' := by
  subst hx
  by_cases hk0 : freeI bs o < 0
  · have e : putB bs o = none := by unfold putB; rw [if_pos hk0]
    rw [e]
    exact rput_1 w S hS A ca bs n hn hr hlc hA0 hl o ho _ rfl hk0
  · obtain ⟨x, hx, hu, hcx⟩ : ∃ x, getB bs o = some x ∧ x.used = false ∧ classI (x.size : Int) = freeI bs o := by
      unfold freeI at hk0 ⊢
      cases hg : getB bs o with
      | none => rw [hg] at hk0; exact absurd (by decide) hk0
      | some x =>
        rw [hg] at hk0
        cases hxu : x.used with
        | true => simp [hxu] at hk0
        | false => exact ⟨x, rfl, hxu, by simp [hxu]⟩
    obtain ⟨q1, q2, _, q3, q4, _⟩ := getB_some hx
    have q5 := (isSz_iff _).1 q4
    obtain ⟨c, hc, hc22⟩ := class_nat q4
    obtain ⟨p, hp⟩ : ∃ p, x.off = p := ⟨_, rfl⟩
    rw [hp] at q1 q2 q3
    subst q1
    rw [hc] at hcx
    have hk := hcx.symm
    obtain ⟨f, hf⟩ : ∃ f, wordN bs (8 + 8 * c) = f := ⟨_, rfl⟩
    obtain ⟨m, hm⟩ : ∃ m, memberB bs f (c : Int) = m := ⟨_, rfl⟩
    have hput : putB bs (p : Int) = if (f : Int) = (p : Int) ∨ (f ≠ 0 ∧ m = false) then none else some (markB (lyN (if f ≠ 0 then lyN (lyN (lyN bs (p + 8) f) (p + 16) 0) (f + 16) p else lyN (lyN bs (p + 8) f) (p + 16) 0) (8 + 8 * c) p) c) := by
      unfold putB
      rw [if_neg hk0, hk]
      simp only [Int.toNat_natCast, hf, hm]
    rw [hput]
    by_cases h1 : f = p
    · rw [if_pos (.inl (by omega))]
      exact rput_2 w S hS A ca bs n hn hr hlc hA0 hl p c f (by omega) hc22 hk hf m hm (by omega) h1
    · by_cases h2 : f = 0
      · subst h2
        rw [if_neg (by omega), if_neg (by omega)]
        exact rput_4 w S hS A ca bs n hn hr hlc hA0 hl p c hc22 hk hf m hm (by omega) (by omega)
      · cases m with
        | false =>
          rw [if_pos (.inr ⟨h2, rfl⟩)]
          exact rput_3 w S hS A ca bs n hn hr hlc hA0 hl p c f (by omega) hc22 hk hf hm (by omega) h1 h2
        | true =>
          rw [if_neg (by rintro (e | ⟨_, e⟩); omega; cases e), if_pos h2]
          have hfm : 184 ≤ f ∧ f + 32 ≤ n := by
            unfold memberB at hm
            cases hg : getB bs (f : Int) with
            | none => rw [hg] at hm; simp at hm
            | some y =>
              obtain ⟨r1, r2, _, r3, r4, _⟩ := getB_some hg
              have := (isSz_iff _).1 r4
              omega
          exact rput_5 w S hS A ca bs n hn hr hlc hA0 hl p c f hc22 hk hf hm (by omega) (by omega) h1 hfm.1 hfm.2
end
end Go.Proofs.YtbldlidpapdkbaaGreat

/- The contracts of the document's own lists: All. -/
namespace Go.Proofs.YtbldlidpapdkbaaGreat
open Go.RowKit

theorem int_inf : (Tryz.prog.info? 3).map (fun i => (i.zero, i.size, i.bytes)) = some (some (.int .i64 0), 1, 8) := by kernel_rfl
def iV (n : Nat) : Value := .int .i64 (n : Int)
/-- A slice of numbers. -/
def IntsTold (x : Option (List Nat)) (w : World) (e : Ending) (w' : World) : Prop :=
  ∃ A' c', e = .returned (.tuple #[.slice A' (x.getD []).length c', .bool x.isSome]) ∧ w'.ownsRow w.heap.size 3 1 (.slice A' (x.getD []).length c') (x.getD []).length ((x.getD []).map iV) ∧ Below w.heap.size w w'

section
variable (w : World)
set_option maxRecDepth 100000 in
set_option maxHeartbeats 2000000 in
theorem rall_any (A : Option Addr) (ca : Nat) (bs : List UInt8) (hr : Rd w w.heap.size A bs.length bs) (hlc : bs.length ≤ ca) (hl : bs.length ≤ 100000) (c : Nat) (hc : c < 22) (x : Option (List Nat)) (hx : allB bs c = x) :
    Calls Tryz.prog 26 #[.slice A bs.length ca, .int .i64 (c : Int)] w fun e w' => IntsTold x w e w' := by
  by_cases h0 : bs.length < 184
  · obtain rfl : none = x := by rw [← hx]; unfold allB; rw [if_pos h0]
    clear hx hr
    go_enter Tryz.func26, Tryz.ntmps26
    go_wp2
    go_ret2
    exact ⟨none, 0, rfl, World.ownsRow_nil _ _ _ _, Below.refl _ _⟩
  · obtain ⟨v, hv⟩ : ∃ v, wordN bs 0 = v := ⟨_, rfl⟩
    obtain ⟨f, hf⟩ : ∃ f, wordN bs (8 + 8 * c) = f := ⟨_, rfl⟩
    obtain ⟨b, hb⟩ : ∃ b, bitN v c = b := ⟨_, rfl⟩
    have hvl : v < 18446744073709551616 := by rw [← hv]; exact wordN_lt _ _
    have hfl : f < 18446744073709551616 := by rw [← hf]; exact wordN_lt _ _
    have n0 := rnum_any w A ca w.heap.size bs hr hlc (by omega) 0 (by omega) v (by rw [← hv]; exact numO_at bs 0 (by omega))
    have n1 := rnum_any w A ca w.heap.size bs hr hlc (by omega) (8 + 8 * (c : Int)) (by omega) f (by rw [← hf, ← numO_at bs (8 + 8 * c) (by omega)]; rfl)
    have bt := rbit_any w v c hvl (by omega) b hb
    have hx' : (if b ≠ decide (f ≠ 0) then none else allF bs c 1024 0 f) = x := by rw [← hx]; unfold allB; rw [if_neg h0, hv, hf, hb]
    have HN0 := Lib.hid n0
    have HN1 := Lib.hid n1
    have HBT := Lib.hid bt
    have HR := Lib.hid hr
    obtain ⟨d, hd⟩ : ∃ d, decide (f ≠ 0) = d := ⟨_, rfl⟩
    have hd2 : ((f : Int) != 0) = d := by
      rw [← hd, Bool.eq_iff_iff, bne_iff_ne, decide_eq_true_eq]; omega
    rw [hd] at hx'
    clear n0 n1 bt hv hf hb hx hr
    by_cases hbd : b = d
    · subst hbd
      rw [if_neg (by simp)] at hx'
      obtain ⟨i0, hi, hz0, hz1, hz2⟩ := info_parts int_inf
      have HX := Lib.hid hx'
      obtain ⟨B0, hB0⟩ : ∃ B0, w.heap.size = B0 := ⟨_, rfl⟩
      have HB0 := Lib.hid hB0
      have hbb : (b != b) = false := by simp
      clear hx' hB0 hd
      go_enter Tryz.func26, Tryz.ntmps26
      go_wp2_with fail
      with_reducible refine HN1.out.mono ?_
      rintro e w1 ⟨rfl, rfl⟩
      go_wp2_with fail
      with_reducible refine HN0.out.mono ?_
      rintro e w1 ⟨rfl, rfl⟩
      go_wp2_with fail
      with_reducible refine HBT.out.mono ?_
      rintro e w1 ⟨rfl, rfl⟩
      clear HN0 HN1 HBT
      go_wp2
      clear hd2
      go_loopw [6, 8, 9] (fun q o t wr => ∃ (p last k : Nat) (l : List Nat), q = .int .u64 (p : Int) ∧ t = .int .u64 (last : Int) ∧ p < 18446744073709551616 ∧ last < 18446744073709551616 ∧ k + l.length = 1024 ∧ x = (allF bs c k last p).map (l ++ ·) ∧ wr.ownsRow B0 3 1 o l.length (l.map iV) ∧ Below B0 w wr) (fun _ o _ _ => match o with | .slice _ n _ => 1024 - n | _ => 0)
      case atStart => exact ⟨f, 0, 1024, [], rfl, rfl, hfl, by omega, rfl, by rw [HX.out]; simp, World.ownsRow_nil _ _ _ _, Below.refl _ _⟩
      case round =>
        obtain ⟨p, last, k, l, rfl, rfl, hp, hlast, hk, hxl, hown, hbw⟩ := hrel
        obtain ⟨A7, c7, rfl⟩ := own_sl hown
        have hBw : B0 ≤ wr.heap.size := by have := hbw.size; have := HB0.out; omega
        by_cases hp0 : p = 0
        · subst hp0
          obtain rfl : x = some l := by rw [hxl]; cases k <;> simp [allF]
          have HB := Lib.hid hbw
          have HO := Lib.hid hown
          clear hxl hown hbw HX
          go_wp2
          go_ret2
          exact ⟨A7, c7, rfl, by rw [HB0.out]; exact HO.out, by rw [HB0.out]; exact HB.out⟩
        · have hq0 : ((p : Int) != 0) = true := by rw [bne_iff_ne]; omega
          obtain ⟨m, hm⟩ : ∃ m, memberB bs p (c : Int) = m := ⟨_, rfl⟩
          have hrw : Rd wr w.heap.size A bs.length bs := HR.out.keep (fun q hq => hbw.cell (p := q) (by have := HB0.out; omega))
          have hM := rmember_any wr A ca w.heap.size bs hrw hlc (by omega) p hp (c : Int) m hm
          have HM := Lib.hid hM
          by_cases hk0 : k = 0
          · subst hk0
            obtain rfl : x = none := by rw [hxl]; simp [allF, hp0]
            have e1 : ((l.length : Int) == 1024) = true := by rw [beq_iff_eq]; omega
            have HB := Lib.hid hbw
            clear hxl hown hbw HX hrw hM hm
            go_wp2_with fail
            with_reducible refine HM.out.mono ?_
            rintro e w2 ⟨rfl, hb2⟩
            have HB2 := Lib.hid (HB.out.trans (hb2.mono hBw))
            clear hb2
            go_wp2
            go_ret2
            exact ⟨none, 0, rfl, World.ownsRow_nil _ _ _ _, by rw [HB0.out]; exact HB2.out⟩
          · obtain ⟨k, rfl⟩ : ∃ k', k = k' + 1 := ⟨k - 1, by omega⟩
            have e1 : ((l.length : Int) == 1024) = false := by rw [beq_eq_false_iff_ne]; omega
            have hstep : x = (if m = true ∧ wordN bs (p + 16) = last then (allF bs c k p (wordN bs (p + 8))).map (p :: ·) else none).map (l ++ ·) := by
              rw [hxl]
              conv => lhs; unfold allF
              rw [if_neg hp0]
              dsimp only
              rw [hm]
            cases m with
            | false =>
              obtain rfl : x = none := by rw [hstep]; rfl
              have HB := Lib.hid hbw
              clear hxl hstep hown hbw HX hrw hM hm
              go_wp2_with fail
              with_reducible refine HM.out.mono ?_
              rintro e w2 ⟨rfl, hb2⟩
              have HB2 := Lib.hid (HB.out.trans (hb2.mono hBw))
              clear hb2
              go_wp2
              go_ret2
              exact ⟨none, 0, rfl, World.ownsRow_nil _ _ _ _, by rw [HB0.out]; exact HB2.out⟩
            | true =>
              have hpf : p + 32 ≤ bs.length := by
                unfold memberB at hm
                cases hg : getB bs (p : Int) with
                | none => rw [hg] at hm; simp at hm
                | some y =>
                  obtain ⟨r1, r2, _, r3, r4, _⟩ := getB_some hg
                  have := (isSz_iff _).1 r4
                  omega
              obtain ⟨u, hu⟩ : ∃ u, wordN bs (p + 16) = u := ⟨_, rfl⟩
              obtain ⟨nx, hnx⟩ : ∃ nx, wordN bs (p + 8) = nx := ⟨_, rfl⟩
              have hul : u < 18446744073709551616 := by rw [← hu]; exact wordN_lt _ _
              have hnl : nx < 18446744073709551616 := by rw [← hnx]; exact wordN_lt _ _
              rw [hu, hnx] at hstep
              have hU := fun W (hb : Below w.heap.size wr W) => rnum_any W A ca w.heap.size bs (hrw.keep fun q hq => hb.cell (p := q) hq) hlc (by omega) ((p : Int) + 16) (by omega) u (by rw [← hu, ← numO_at bs (p + 16) (by omega)]; rfl)
              have hww : w.heap.size ≤ wr.heap.size := by have := HB0.out; omega
              have hN := fun W (hb : Below w.heap.size wr W) => rnum_any W A ca w.heap.size bs (hrw.keep fun q hq => hb.cell (p := q) hq) hlc (by omega) ((p : Int) + 8) (by omega) nx (by rw [← hnx, ← numO_at bs (p + 8) (by omega)]; rfl)
              have HU := Lib.hid hU
              have HN := Lib.hid hN
              by_cases hul2 : u = last
              · subst hul2
                rw [if_pos ⟨rfl, rfl⟩] at hstep
                have hstep' : x = (allF bs c k p nx).map ((l ++ [p]) ++ ·) := by
                  rw [hstep, Option.map_map]
                  congr 1
                  funext r
                  simp
                have hs2 : ((u : Int) != (u : Int)) = false := by simp
                have HB := Lib.hid hbw
                have HS := Lib.hid hstep'
                have HOWN := Lib.hid hown
                have HALT : Hid (∀ k, (Value.slice A7 l.length c7).ownBlock = some k → B0 ≤ k ∧ k < wr.heap.size) := hown.lt
                clear hxl hstep hstep' hown hbw HX hrw hM hm hU hN hu hnx
                go_wp2_with fail
                with_reducible refine HM.out.mono ?_
                rintro e w2 ⟨rfl, hb2⟩
                have H2 := Lib.hid hb2
                go_wp2_with fail
                refine (HU.out w2 (H2.out.mono hww)).mono ?_
                rintro e w3 ⟨rfl, rfl⟩
                have own4 := own_below' (own_below' HOWN.out hb2) ((Below.refl w2.heap.size w2).alloc (Nat.le_refl _) (.cells #[.int .i64 (p : Int)] 3))
                have n4 : (w2.alloc (.cells #[.int .i64 (p : Int)] 3)).heap[w2.heap.size]? = some (.cells #[.int .i64 (p : Int)] 3 (0, 0)) := heap_alloc_new w2 _
                have HNEW : Hid (∀ j u, [Value.int .i64 (p : Int)][j]? = some u → (w2.alloc (.cells #[.int .i64 (p : Int)] 3)).cell? ((⟨w2.heap.size, 0, none⟩ : Addr).add j) = some u) := fun j u hu => by
                  have e : (⟨w2.heap.size, 0, none⟩ : Addr).add j = ⟨w2.heap.size, j, none⟩ := by unfold Addr.add; split <;> simp_all
                  rw [e, cell_of_row _ _ j _ _ (0, 0) n4]
                  simpa using hu
                have HONE : Hid (∀ u ∈ [Value.int .i64 (p : Int)], u.oneCell' = true) := fun u hu => by
                  simp at hu
                  subst hu; rfl
                have hB4 : B0 ≤ (w2.alloc (.cells #[.int .i64 (p : Int)] 3)).heap.size := by simp; have := hb2.size; omega
                have HB4 : Hid (Below w2.heap.size w2 (w2.alloc (.cells #[.int .i64 (p : Int)] 3))) := (Below.refl w2.heap.size w2).alloc (Nat.le_refl _) _
                have OWN4 := Lib.hid own4
                have hsz2 := hb2.size
                clear own4 n4 hb2 HOWN HM HU
                go_wp2_with (first
                  | (at_builtin; go_must (refine wpList_append_own _ rfl _ _ 60 rfl B0 3 i0 _ 1 8 Tryz.underlying60 hi hz0 hz1 hz2 rfl (by decide) _ l.length (l.map iV) rfl OWN4.out ⟨w2.heap.size, 0, none⟩ 1 1 [.int .i64 (p : Int)] rfl rfl HNEW.out HONE.out (by unfold maxLen; omega) (by omega) hB4 ?_); intro x5 w5 own5 gr5 at5;
                     have gr5' : (w2.alloc (.cells #[.int .i64 (p : Int)] 3)).grownBy w5 (Value.slice A7 l.length c7).ownBlock := gr5; have HB5 : Hid (Below B0 wr w5) := ((H2.out.mono hBw).trans (HB4.out.mono (by omega))).grown gr5' hB4 (fun k hk => (HALT.out k hk).1); have HW5 : Hid (Below w.heap.size wr w5) := (show Below w.heap.size wr w5 by rw [HB0.out]; exact HB5.out); have OWN5 : Hid (w5.ownsRow B0 3 1 x5 (l.length + 1) ((l ++ [p]).map iV)) := (show World.ownsRow _ _ _ _ _ _ _ by rw [List.map_append]; exact own5); clear own5 gr5 gr5' at5)
                  | fail)
                refine (HN.out w5 HW5.out).mono ?_
                rintro e w6 ⟨rfl, rfl⟩
                have HBE := Lib.hid (HB.out.trans HB5.out)
                clear HN H2 HB4 OWN4 HNEW HONE
                go_wp2
                go_roundw
                case rel => exact ⟨nx, p, k, l ++ [p], rfl, rfl, hnl, hp, by rw [List.length_append, List.length_singleton]; omega, HS.out, by rw [List.length_append, List.length_singleton]; exact OWN5.out, HBE.out⟩
                case measure =>
                  obtain ⟨A8, c8, rfl⟩ := own_sl OWN5.out
                  simp; omega
              · rw [if_neg (fun h => hul2 h.2)] at hstep
                obtain rfl : x = none := hstep
                have hs2 : ((u : Int) != (last : Int)) = true := by rw [bne_iff_ne]; omega
                have HB := Lib.hid hbw
                clear hxl hown hbw HX hrw hM hm hU hN hu hnx hul2
                go_wp2_with fail
                with_reducible refine HM.out.mono ?_
                rintro e w2 ⟨rfl, hb2⟩
                have H2 := Lib.hid hb2
                have HB2 := Lib.hid (HB.out.trans (hb2.mono hBw))
                clear hb2
                go_wp2_with fail
                refine (HU.out w2 (H2.out.mono hww)).mono ?_
                rintro e w3 ⟨rfl, rfl⟩
                go_wp2
                go_ret2
                exact ⟨none, 0, rfl, World.ownsRow_nil _ _ _ _, by rw [HB0.out]; exact HB2.out⟩
    · rw [if_pos hbd] at hx'
      obtain rfl : none = x := hx'
      have hcs : (b = true ∧ d = false) ∨ (b = false ∧ d = true) := by cases b <;> cases d <;> simp_all
      clear hd hbd
      rcases hcs with ⟨rfl, rfl⟩ | ⟨rfl, rfl⟩
      all_goals
        go_enter Tryz.func26, Tryz.ntmps26
        go_wp2_with fail
        with_reducible refine HN1.out.mono ?_
        rintro e w1 ⟨rfl, rfl⟩
        go_wp2_with fail
        with_reducible refine HN0.out.mono ?_
        rintro e w1 ⟨rfl, rfl⟩
        go_wp2_with fail
        with_reducible refine HBT.out.mono ?_
        rintro e w1 ⟨rfl, rfl⟩
        clear HN0 HN1 HBT
        go_wp2
        go_ret2
        exact ⟨none, 0, rfl, World.ownsRow_nil _ _ _ _, Below.refl _ _⟩
end
end Go.Proofs.YtbldlidpapdkbaaGreat

/- The contracts of the document's own fits: Find. -/
namespace Go.Proofs.YtbldlidpapdkbaaGreat
open Go.RowKit

theorem find_take {p : Nat → Bool} {l : List Nat} {j o : Nat} (h : ∀ q ∈ l.take j, p q = false) (hj : l[j]? = some o) (ho : p o = true) : l.find? p = some o := by
  have hlt : j < l.length := by
    rcases Nat.lt_or_ge j l.length with h | h
    · exact h
    · rw [List.getElem?_eq_none h] at hj; cases hj
  rw [List.getElem?_eq_getElem hlt] at hj
  injection hj with hj
  have e : l = l.take j ++ (o :: l.drop (j + 1)) := by rw [← hj, ← List.drop_eq_getElem_cons hlt, List.take_append_drop]
  rw [e, List.find?_append]
  have hn : (l.take j).find? p = none := List.find?_eq_none.2 fun q hq => by rw [h q hq]; simp
  rw [hn, Option.none_or, List.find?_cons_of_pos ho]
theorem find_none' {p : Nat → Bool} {l : List Nat} (h : ∀ q ∈ l, p q = false) : l.find? p = none := List.find?_eq_none.2 fun q hq => by rw [h q hq]; simp

theorem allF_member (bs : List UInt8) (c : Nat) : ∀ (k last p : Nat) (l : List Nat), allF bs c k last p = some l → ∀ o ∈ l, memberB bs o (c : Int) = true
  | 0, last, p, l, h, o, ho => by
    unfold allF at h
    split at h
    · injection h with h; subst h; cases ho
    · cases h
  | k + 1, last, p, l, h, o, ho => by
    unfold allF at h
    by_cases hp : p = 0
    · rw [if_pos hp] at h; injection h with h; subst h; cases ho
    · rw [if_neg hp] at h
      dsimp only at h
      by_cases hm : memberB bs p (c : Int) = true ∧ wordN bs (p + 16) = last
      · rw [if_pos hm] at h
        cases hr : allF bs c k p (wordN bs (p + 8)) with
        | none => rw [hr] at h; cases h
        | some l' =>
          rw [hr] at h
          injection h with h
          subst h
          rcases List.mem_cons.1 ho with e | ho
          · rw [e]; exact hm.1
          · exact allF_member bs c k p _ l' hr o ho
      · rw [if_neg hm] at h; cases h
theorem allB_member {bs : List UInt8} {c : Nat} {l : List Nat} (h : allB bs c = some l) : ∀ o ∈ l, memberB bs o (c : Int) = true := by
  unfold allB at h
  split at h
  · cases h
  · split at h
    · cases h
    · exact allF_member bs c _ _ _ l h
theorem memberB_get {bs : List UInt8} {p : Nat} {c : Int} (h : memberB bs p c = true) : p ≤ 20000 ∧ ∃ x, getB bs (p : Int) = some x := by
  unfold memberB at h
  cases hg : getB bs (p : Int) with
  | none => rw [hg] at h; simp at h
  | some x => rw [hg] at h; simp at h; exact ⟨h.1, x, rfl⟩
section
variable (w : World)
end
end Go.Proofs.YtbldlidpapdkbaaGreat

/- The contracts of the document's own fits: Rebuild. -/
namespace Go.Proofs.YtbldlidpapdkbaaGreat
open Go.RowKit

theorem walkF_mem (bs : List UInt8) : ∀ (k o : Nat) (l : List Bk), walkF bs k o = some l → ∀ x ∈ l, getB bs (x.off : Int) = some x
  | 0, _, _, h, _, _ => by cases h
  | k + 1, o, l, h, x, hx => by
    unfold walkF at h
    by_cases hlt : o < bs.length
    · rw [if_pos hlt] at h
      cases hg : getB bs (o : Int) with
      | none => rw [hg] at h; cases h
      | some y =>
        rw [hg] at h
        dsimp only at h
        cases hr : walkF bs k (o + y.size) with
        | none => rw [hr] at h; cases h
        | some r =>
          rw [hr] at h
          injection h with h
          subst h
          rcases List.mem_cons.1 hx with e | hx
          · subst e
            have := (getB_some hg).1
            rw [← this, hg]
          · exact walkF_mem bs k _ r hr x hx
    · rw [if_neg hlt] at h
      injection h with h
      subst h
      cases hx
theorem walkB_mem {bs : List UInt8} {l : List Bk} (h : walkB bs = some l) : 184 ≤ bs.length ∧ ∀ x ∈ l, getB bs (x.off : Int) = some x := by
  unfold walkB at h
  split at h
  · cases h
  · exact ⟨by omega, walkF_mem bs _ _ l h⟩
theorem own_bks {w : World} {base n : Nat} {t : TypeId} {A : Option Addr} {c : Nat} {l : List Bk} (h : w.ownsRow base t 3 (.slice A n c) n (flatK l)) (hn : n = l.length) : BkRd w w.heap.size A l := fun h0 => by
  rcases h.2 with ⟨_, h0'⟩ | ⟨g, _, _, h', _⟩
  · omega
  · injection h' with e
    subst e
    refine ⟨g, 0, rfl, (h.lt g rfl).2, fun j x hx => ?_⟩
    obtain ⟨q0, q1, q2⟩ := flatK_get l j x hx
    have hj : j < l.length := by
      rcases Nat.lt_or_ge j l.length with h | h
      · exact h
      · rw [List.getElem?_eq_none h] at hx; cases hx
    refine ⟨?_, ?_, ?_⟩
    · rw [Nat.zero_add, h.cellAt (j * 3) (by omega), q0]
    · rw [Nat.zero_add, h.cellAt (j * 3 + 1) (by omega), q1]
    · rw [Nat.zero_add, h.cellAt (j * 3 + 2) (by omega), q2]

/-- make([]byte, n): a block of n bytes that are 0. -/
theorem run_mk0 (n : Nat) (hn : n ≤ 1000000) (z : List UInt8) (hz : List.replicate n (0 : UInt8) = z) (W : World) : (Instr.makeSlice 22 (.int .i64 (n : Int)) (.int .i64 (n : Int))).run Tryz.prog W = .ok (.slice (some ⟨W.heap.size, 0, none⟩) n n) (W.alloc (.cells (rowB z) 5)) := by
  have := run_make_row' (P := Tryz.prog) 22 5 (.int .u8 0) 1 Tryz.underlying22 u8_infb rfl .i64 .i64 n (by omega) (by omega) W
  rw [rowB_zeros, hz] at this
  exact this
theorem mk_run {P : Program} {o : Oper} {a : Act} {w w1 : World} {v L C : Value} {t : TypeId} {l c : Operand} (ho : o.op = .makeSlice t l c) (hl : a.eval l = L) (hc : a.eval c = C)
    (hr : (Instr.makeSlice t L C).run P w = .ok v w1) : (execOp a.eval o).run P w = .ok (.value v) w1 := by
  unfold execOp
  simp only [ho]
  rw [hl, hc, Sem.run_bind, hr]
  rfl

/-- What a slice is from a place on. -/
theorem rd_from {w : World} {B b o ca k : Nat} {bs : List UInt8} (hb : b < B) (hc : ∀ (j : Nat) (u : UInt8), bs[j]? = some u → w.cell? ⟨b, o + j, none⟩ = some (.int .u8 (u.toNat : Int))) (hlc : bs.length ≤ ca) :
    Rd w B (if ca = k then some ⟨b, o, none⟩ else some ⟨b, o + k, none⟩) (bs.length - k) (bs.drop k) := by
  refine ⟨by simp, fun h => ?_⟩
  rw [if_neg (by omega)]
  refine ⟨b, o + k, rfl, hb, fun j u hu => ?_⟩
  rw [List.getElem?_drop] at hu
  have := hc (k + j) u hu
  rw [Nat.add_assoc]
  exact this

section
variable (w : World)
set_option maxRecDepth 100000 in
set_option maxHeartbeats 2000000 in
theorem rrebuild_any (S : Nat → Prop) (hS : ∀ k, w.heap.size ≤ k → S k) (A : Option Addr) (ca : Nat) (bs : List UInt8) (n : Nat) (hn : bs.length = n) (hr : Rd w w.heap.size A n bs) (hlc : n ≤ ca) (hA0 : KO S A ca) (hl : n ≤ 100000) (x : Option (List UInt8)) (hx : rebuildB bs = x) :
    Calls Tryz.prog 5 #[.slice A n ca] w fun e w' => SlB S n (x.getD bs) x.isSome w e w' := by
  subst hn
  cases hw : walkB bs with
  | none =>
    obtain rfl : none = x := by rw [← hx]; unfold rebuildB; rw [hw]; rfl
    have hW := rwalkB_any w A ca w.heap.size bs hr (Nat.le_refl _) hlc hl none hw
    dsimp only [BksTold, Option.isSome, Option.getD] at hW
    have HW := Lib.hid hW
    have HR := Lib.hid hr
    clear hW hr hw hx
    go_enter Tryz.func5, Tryz.ntmps5
    go_wp2_with fail
    with_reducible refine HW.out.mono ?_
    rintro e w1 ⟨A', c', rfl, _, hb⟩
    go_wp2
    go_ret2
    exact ⟨A, ca, rfl, (HR.out.below hb).more hb.size, hlc, hA0, hb⟩
  | some l =>
    obtain rfl : some (l.foldl rebF (List.replicate 184 0 ++ bs.drop 184)) = x := by rw [← hx]; unfold rebuildB; rw [hw]; rfl
    obtain ⟨h184, hmem⟩ := walkB_mem hw
    have hW := rwalkB_any w A ca w.heap.size bs hr (Nat.le_refl _) hlc hl _ hw
    dsimp only [BksTold, Option.isSome, Option.getD] at hW ⊢
    have HW := Lib.hid hW
    have HR := Lib.hid hr
    have HMEM := Lib.hid hmem
    obtain ⟨ba, oa, rfl, hba, hca⟩ := hr.2 (by omega)
    obtain ⟨z, hz⟩ : ∃ z, List.replicate 184 (0 : UInt8) = z := ⟨_, rfl⟩
    have hzl : z.length = 184 := by rw [← hz]; simp
    have HMK : ∀ W : World, Hid ((Instr.makeSlice 22 (.int .i64 184) (.int .i64 184)).run Tryz.prog W = .ok (.slice (some ⟨W.heap.size, 0, none⟩) 184 184) (W.alloc (.cells (rowB z) 5))) := run_mk0 184 (by omega) z hz
    rw [hz]
    have HZL := Lib.hid hzl
    have HCA := Lib.hid hca
    obtain ⟨B0, hB0⟩ : ∃ B0, w.heap.size = B0 := ⟨_, rfl⟩
    have HB0 := Lib.hid hB0
    clear hW hr hw hx hmem hz hzl hca hB0
    go_enter Tryz.func5, Tryz.ntmps5
    go_wp2_with fail
    with_reducible refine HW.out.mono ?_
    rintro e w1 ⟨A4, c4, rfl, ho4, hb1⟩
    have HO4 := Lib.hid ho4
    have HB1 := Lib.hid hb1
    have hcl : l.length ≤ c4 ∧ c4 ≤ 9223372036854775807 := by
      rcases ho4.2 with ⟨h', h0⟩ | ⟨_, _, _, h', _, _, h1, h2, _⟩
      · injection h' with _ _ e; rw [h0, e]; omega
      · injection h' with _ _ e; unfold maxLen at h2; omega
    clear ho4 hb1 HW
    go_wp2_with fail
    refine wp_region_tail w1.heap.size [([1, 2], 0)] [] [3, 4] (by kernel_rfl) (by kernel_rfl) (by kernel_rfl) (fun _ _ _ _ _ h => h) ?_
    obtain ⟨w2, hw2⟩ : ∃ w2, w1.drew = w2 := ⟨_, rfl⟩
    have hz2 : w1.heap.size = w2.heap.size := by rw [← hw2]; rfl
    have HB2 : Hid (Below B0 w w2) := by rw [← hw2, ← HB0.out]; exact HB1.out.drew
    have HO2 : Hid (w2.ownsRow B0 50 3 (.slice A4 l.length c4) l.length (flatK l)) := by rw [← hw2, ← HB0.out]; exact HO4.out
    rw [hw2, hz2]
    clear hw2 hz2 HB1 HO4
    refine tail_cons (l := ?seg1) ?hseg1 ?_
    case hseg1 => simp only [pick, List.getElem?_toArray, List.getElem?_cons_succ, List.getElem?_cons_zero]; rfl
    repeat (go_big_quiet_step (fail))
    refine wpQuiet_nil ?_
    obtain ⟨A18, hA18⟩ : ∃ A18 : Option Addr, (if ca = 184 then some (⟨ba, oa, none⟩ : Addr) else some ⟨ba, oa + 184, none⟩) = A18 := ⟨_, rfl⟩
    have HA18 : Hid (A18 = none → ca - 184 = 0) := fun h => by rw [← hA18] at h; split at h <;> cases h
    have HR18 : Hid (Rd w2 B0 A18 (bs.length - 184) (bs.drop 184)) := by
      rw [← hA18]
      exact rd_from (by rw [← HB0.out]; exact hba) (fun j u hu => (HB2.out.cell (p := ⟨ba, _, none⟩) (by rw [← HB0.out]; exact hba)).trans (HCA.out j u hu)) hlc
    rw [hA18]
    clear hA18
    obtain ⟨w3, hw3⟩ : ∃ w3, w2.alloc (.cells (rowB z) 5) = w3 := ⟨_, rfl⟩
    have hb3 : Below w2.heap.size w2 w3 := by rw [← hw3]; exact (Below.refl _ _).alloc (Nat.le_refl _) _
    have hB2 : B0 ≤ w2.heap.size := by have := HB2.out.size; have := HB0.out; omega
    have hm3 := (HMK w2).out
    have own3 : w3.ownsRow w2.heap.size 5 1 (.slice (some ⟨w2.heap.size, 0, none⟩) 184 184) 184 (z.map bv) := by
      rw [← hw3]
      exact World.ownsRow_lit w2 (rowB z) 184 (Nat.le_refl _) (by unfold maxLen; omega) (by simp [rowB, HZL.out])
    rw [hw3] at hm3
    have HB3 := Lib.hid (HB2.out.trans (hb3.mono hB2))
    have HR3 := Lib.hid ((HR18.out.below (hb3.mono hB2)))
    have HO3 := Lib.hid (own_below' HO2.out hb3)
    have HO2K := HO2
    have hsz3 := hb3.size
    refine tail_val2 (w1 := w3) (v := .slice (some ⟨w2.heap.size, 0, none⟩) 184 184) (some 16) rfl rfl rfl ?rv1 hb3 ?_
    case rv1 => exact mk_run rfl rfl rfl hm3
    refine ⟨w2.heap.size, Nat.le_refl _, ?_⟩
    refine tail_last (l := ?la) (t := ?tl) ?hla ?htl ?_
    case hla => rfl
    case htl => simp only [pick, List.getElem?_toArray, List.getElem?_cons_succ, List.getElem?_cons_zero]; rfl
    refine wpQuiet_nil ?_
    simp only [Act.put, List.setIfInBounds_toArray, List.set_cons_zero, List.set_cons_succ]
    have OWN3 := Lib.hid own3
    have HB23 := Lib.hid hb3
    have hbase : w2.heap.size ≤ w3.heap.size := hsz3
    clear hm3 hw3 hb3 own3 HMK HCA HO2 HR18 HB2
    go_wp2_with (first
      | (at_builtin; go_must (refine append_bytes rfl (.tmp 16) (.tmp 18) 22 5 rfl Tryz.underlying22 u8_infb w2.heap.size (.slice (some ⟨w2.heap.size, 0, none⟩) 184 184) 184 z rfl OWN3.out B0 A18 (bs.length - 184) (ca - 184) (bs.drop 184) rfl HR3.out HA18.out (by omega) hbase ?_); intro x4 w4 own4 hb4 gr4; have OWN4 := Lib.hid own4; have HB4 := Lib.hid hb4; clear own4 hb4 gr4)
      | fail)
    have e184 : 184 + (bs.length - 184) = bs.length := by omega
    have own4 := OWN4.out
    rw [e184] at own4
    obtain ⟨g6, c6, rfl, hc6, hr6⟩ := own_rd own4 (by omega)
    have HG6 : Hid (B0 ≤ g6) := Nat.le_trans hB2 (OWN4.out.lt g6 rfl).1
    have HR6 := Lib.hid hr6
    have HB0' : Hid (Below B0 w w4) := HB3.out.trans (HB4.out.mono hB2)
    have HO4 : Hid (w4.ownsRow B0 50 3 (.slice A4 l.length c4) l.length (flatK l)) := by
      have h24 : Below w2.heap.size w2 w4 := HB23.out.trans HB4.out
      exact own_below' HO2K.out h24
    clear own4 OWN4 OWN3 HB3 HB4 HR3 HO3 hr6
    go_loopw [6, 7] (fun q t wr => ∃ (j : Nat) (A6 : Option Addr) (c6 : Nat) (out : List UInt8), q = .slice A6 bs.length c6 ∧ t = .int .i64 (j : Int) ∧ j ≤ l.length ∧ out = (l.take j).foldl rebF (z ++ bs.drop 184) ∧ Rd wr wr.heap.size A6 bs.length out ∧ bs.length ≤ c6 ∧ KO S A6 c6 ∧ wr.ownsRow B0 50 3 (.slice A4 l.length c4) l.length (flatK l) ∧ Below B0 w wr) (fun _ t _ => l.length - (intOf t).toNat)
    case atStart => exact ⟨0, _, c6, _, rfl, rfl, Nat.zero_le _, rfl, HR6.out, hc6, ⟨(fun h => by cases h), fun a e => by cases e; exact hS _ (show w.heap.size ≤ g6 by have := HG6.out; have := HB0.out; omega)⟩, HO4.out, HB0'.out⟩
    case round =>
      obtain ⟨j, A6, c6, out, rfl, rfl, hj, hout, hr6, hc6, hA6, ho4, hb⟩ := hrel
      have hBw : B0 ≤ wr.heap.size := by have := hb.size; have := HB0.out; omega
      by_cases hlt : j < l.length
      · obtain ⟨x, hx⟩ : ∃ x, l[j]? = some x := ⟨l[j], List.getElem?_eq_getElem hlt⟩
        obtain ⟨b, o, rfl, hbb, hc⟩ := own_bks ho4 rfl (by omega)
        obtain ⟨p0, p1, p2⟩ := hc j x hx
        have hg := HMEM.out x (List.mem_of_getElem? hx)
        obtain ⟨_, _, _, q3, _⟩ := getB_some hg
        have hnext : (l.take (j + 1)).foldl rebF (z ++ bs.drop 184) = rebF out x := by
          rw [List.take_add_one, hx, List.foldl_append, ← hout]; rfl
        obtain ⟨xo, xs, xu⟩ := x
        dsimp only at p0 p1 p2 q3
        have HN := Lib.hid hnext
        have HO := Lib.hid ho4
        have HRB := Lib.hid hb
        have HR6' := Lib.hid hr6
        cases xu with
        | true =>
          have HN' : Hid ((l.take (j + 1)).foldl rebF (z ++ bs.drop 184) = out) := hnext
          clear hc hx hg hnext ho4 hb hr6 hout HN
          go_wp2
          go_roundw
          case rel => exact ⟨j + 1, A6, c6, out, rfl, by go_num, by omega, HN'.out.symm, HR6'.out, hc6, hA6, HO.out, HRB.out⟩
          case measure => simp only [intOf]; omega
        | false =>
          obtain ⟨y, hy⟩ : ∃ y, putB out (xo : Int) = y := ⟨_, rfl⟩
          have HN' : Hid ((l.take (j + 1)).foldl rebF (z ++ bs.drop 184) = y.getD out) := by
            rw [hnext, ← hy]; rfl
          have HP := Lib.hid (rput_any wr S (fun k h => hS k (Nat.le_trans (by have := hb.size; have := HB0.out; omega) h)) A6 c6 out bs.length hr6.1 hr6 hc6 hA6 hl (xo : Int) (by omega) y hy)
          clear hc hx hg hnext ho4 hb hr6 hout HN hy
          go_wp2_with fail
          with_reducible refine HP.out.mono ?_
          rintro e w5 ⟨A', c', rfl, hr', hn', hA', hb5⟩
          have HO5 := Lib.hid (own_below' HO.out hb5)
          have HRB5 := Lib.hid (HRB.out.trans (hb5.mono hBw))
          have HR5 := Lib.hid hr'
          clear hb5 hr' HP HO HRB
          go_wp2
          go_roundw
          case rel => exact ⟨j + 1, A', c', _, rfl, by go_num, by omega, HN'.out.symm, HR5.out, hn', hA', HO5.out, HRB5.out⟩
          case measure => simp only [intOf]; omega
      · obtain hjl : j = l.length := by omega
        have hfin : out = l.foldl rebF (z ++ bs.drop 184) := by rw [hout, hjl, List.take_length]
        have HF := Lib.hid hfin
        have HRB := Lib.hid hb
        have HR6' := Lib.hid hr6
        clear hfin hout hb hr6 ho4
        go_wp2
        go_ret2
        exact ⟨A6, c6, rfl, by rw [← HF.out]; exact HR6'.out, hc6, hA6, by rw [HB0.out]; exact HRB.out⟩
end
end Go.Proofs.YtbldlidpapdkbaaGreat
