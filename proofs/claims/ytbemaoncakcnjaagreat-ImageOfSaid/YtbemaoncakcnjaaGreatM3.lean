/- Texts of mine, joined: Ref7c, Ref7d, Ref7e, Ref7f, Law00, OpenB, Ref9a, Ref9b, Ref9c, Ref9d, Ref10a, Ref10b. -/
import Derived.Test.YtbemaoncakcnjaaGreatChecked
import Derived.Deep.QuietTactic
import Derived.BigQuiet
import Derived.WalkSpells
import Derived.IntWalk
import Derived.Deep.Grids
import Derived.Deep.Fields
import Derived.Lib.SmallJoins
import Derived.Test.YtbemaoncakcnjaaGreatM2

/- The contracts of the document's own blocks: Ahead, all ways. -/
namespace Go.Proofs.YtbemaoncakcnjaaGreat
open Go.RowKit

theorem heap_lt' {w : World} {g : Nat} {o : Obj} (h : w.heap[g]? = some o) : g < w.heap.size := by
  rcases Nat.lt_or_ge g w.heap.size with h1 | h1
  · exact h1
  · rw [Array.getElem?_eq_none h1] at h; cases h

section
variable (w : World)

end
end Go.Proofs.YtbemaoncakcnjaaGreat

/- The contracts of the document's own blocks: Lay, Set. -/
namespace Go.Proofs.YtbemaoncakcnjaaGreat
open Go.RowKit

theorem u8_infb : (Tryz.prog.info? 5).map (fun i => (i.zero, i.size, i.bytes)) = some (some (.int .u8 0), 1, 1) := by kernel_rfl
/-- A number laid at an offset. -/
def layN (bs : List UInt8) (o v : Nat) : List UInt8 := lay bs o (lowB 8 v)
section
variable (w : World)
end
end Go.Proofs.YtbemaoncakcnjaaGreat

/- The contracts of the document's own blocks: Set. -/
namespace Go.Proofs.YtbemaoncakcnjaaGreat
open Go.RowKit

/-- Both tags of a block laid; none: it can't be. -/
def setB (bs : List UInt8) (o s : Int) (u : Bool) : Option (List UInt8) :=
  if isSz s = true ∧ could bs.length o s = true then some (layN (layN bs o.toNat (packN s u)) (o + s - 8).toNat (packN s u)) else none
section
variable (w : World)
end
end Go.Proofs.YtbemaoncakcnjaaGreat

/- The contracts of the document's own blocks: Walk. -/
namespace Go.Proofs.YtbemaoncakcnjaaGreat
open Go.RowKit

/-- Blocks as cells. -/
def flatK : List Bk → List Value
  | [] => []
  | x :: r => .int .i64 (x.off : Int) :: .int .i64 (x.size : Int) :: .bool x.used :: flatK r
theorem flatK_length : ∀ l : List Bk, (flatK l).length = l.length * 3
  | [] => rfl
  | x :: r => by simp [flatK, flatK_length r]; omega
theorem flatK_append (a b : List Bk) : flatK (a ++ b) = flatK a ++ flatK b := by
  induction a with
  | nil => rfl
  | cons x r ih => simp [flatK, ih]
theorem flatK_get : ∀ (l : List Bk) (i : Nat) (x : Bk), l[i]? = some x → (flatK l)[i * 3]? = some (.int .i64 (x.off : Int)) ∧ (flatK l)[i * 3 + 1]? = some (.int .i64 (x.size : Int)) ∧ (flatK l)[i * 3 + 2]? = some (.bool x.used)
  | [], _, _, h => by simp at h
  | y :: r, 0, x, h => by
    simp at h; subst h
    exact ⟨rfl, rfl, rfl⟩
  | y :: r, i + 1, x, h => by
    have := flatK_get r i x (by simpa using h)
    have e : (i + 1) * 3 = i * 3 + 1 + 1 + 1 := by omega
    rw [e]
    exact ⟨by simpa [flatK] using this.1, by simpa [flatK] using this.2.1, by simpa [flatK] using this.2.2⟩
theorem bk_inf : (Tryz.prog.info? 51).map (fun i => (i.zero, i.size, i.bytes)) = some (some (.agg #[.int .i64 0, .int .i64 0, .bool false]), 3, 24) := by kernel_rfl
/-- A slice of blocks. -/
def BksTold (x : Option (List Bk)) (w : World) (e : Ending) (w' : World) : Prop :=
  ∃ A' c', e = .returned (.tuple #[.slice A' (x.getD []).length c', .bool x.isSome]) ∧ w'.ownsRow w.heap.size 51 3 (.slice A' (x.getD []).length c') (x.getD []).length (flatK (x.getD [])) ∧ Below w.heap.size w w'
theorem own_sl {w : World} {base n size : Nat} {t : TypeId} {v : Value} {xs : List Value} (h : w.ownsRow base t size v n xs) : ∃ A c, v = .slice A n c := by
  rcases h.2 with ⟨rfl, h0⟩ | ⟨g, cap, cur, rfl, _⟩
  · rw [h0]; exact ⟨none, 0, rfl⟩
  · exact ⟨_, _, rfl⟩
theorem own_below' {w w' : World} {base n size : Nat} {t : TypeId} {v : Value} {xs : List Value} (h : w.ownsRow base t size v n xs) (hb : Below w.heap.size w w') : w'.ownsRow base t size v n xs := by
  refine ⟨h.1, ?_⟩
  rcases h.2 with h2 | ⟨g, cap, cur, hv, hg, hh, r⟩
  · exact .inl h2
  · refine .inr ⟨g, cap, cur, hv, hg, ?_, r⟩
    have := (h.lt g (by rw [hv]; rfl)).2
    rw [hb.block g this]; exact hh

section
variable (w : World)
set_option maxRecDepth 100000 in
set_option maxHeartbeats 2000000 in
theorem rwalkB_any (A : Option Addr) (c B : Nat) (bs : List UInt8) (hr : Rd w B A bs.length bs) (hB : B ≤ w.heap.size) (hlc : bs.length ≤ c) (hl : bs.length ≤ 100000) (x : Option (List Bk)) (hx : walkB bs = x) :
    Calls Tryz.prog 28 #[.slice A bs.length c] w fun e w' => BksTold x w e w' := by
  by_cases h0 : bs.length < 184
  · obtain rfl : none = x := by rw [← hx]; unfold walkB; rw [if_pos h0]
    clear hx hr
    go_enter Tryz.func28, Tryz.ntmps28
    go_wp2
    go_ret2
    exact ⟨none, 0, rfl, World.ownsRow_nil _ _ _ _, Below.refl _ _⟩
  · have hx' : walkF bs (bs.length + 1) 184 = x := by rw [← hx]; unfold walkB; rw [if_neg h0]
    obtain ⟨i0, hi, hz0, hz1, hz2⟩ := info_parts bk_inf
    have HX := Lib.hid hx'
    have HR := Lib.hid hr
    obtain ⟨B0, hB0⟩ : ∃ B0, w.heap.size = B0 := ⟨_, rfl⟩
    have HB0 := Lib.hid hB0
    clear hx hx' hr hB0
    go_enter Tryz.func28, Tryz.ntmps28
    go_wp2
    go_loopw [4, 5] (fun q t wr => ∃ (l : List Bk) (o k : Nat), t = .int .i64 (o : Int) ∧ 184 ≤ o ∧ o ≤ bs.length ∧ bs.length < o + k ∧ l.length * 32 ≤ o ∧ x = (walkF bs k o).map (l ++ ·) ∧ wr.ownsRow B0 51 3 q l.length (flatK l) ∧ Below B0 w wr) (fun _ t _ => bs.length - (intOf t).toNat)
    case atStart => exact ⟨[], 184, bs.length + 1, rfl, Nat.le_refl _, by omega, by omega, by simp, by rw [HX.out]; simp, World.ownsRow_nil _ _ _ _, Below.refl _ _⟩
    case round =>
      obtain ⟨l, o, k, rfl, ho1, ho2, hk, hll, hxl, hown, hb⟩ := hrel
      obtain ⟨A7, c7, rfl⟩ := own_sl hown
      obtain ⟨k, rfl⟩ : ∃ k', k = k' + 1 := ⟨k - 1, by omega⟩
      have hBw : B0 ≤ wr.heap.size := by have := hb.size; have := HB0.out; omega
      by_cases hlt : o < bs.length
      · have hrw : Rd wr B A bs.length bs := HR.out.keep (fun q hq => hb.cell (p := q) (by have := HB0.out; omega))
        cases hg : getB bs (o : Int) with
        | none =>
          have hG := rgetB_any wr A c B bs hrw hlc (by omega) (o : Int) (by omega) _ hg
          dsimp only [bkV, Option.isSome] at hG
          obtain rfl : x = none := by rw [hxl]; simp [walkF, hlt, hg]
          have HG := Lib.hid hG
          have HB := Lib.hid hb
          clear hG hown hb hg hxl hrw HX
          go_wp2_with fail
          with_reducible refine HG.out.mono ?_
          rintro e w2 ⟨rfl, hb2⟩
          have HB2 := Lib.hid (HB.out.trans (hb2.mono hBw))
          clear hb2
          go_wp2
          go_ret2
          exact ⟨none, 0, rfl, World.ownsRow_nil _ _ _ _, by rw [HB0.out]; exact HB2.out.alloc (by have := HB2.out.size; have := HB0.out; omega) _⟩
        | some y =>
          obtain ⟨yo, ys, yu⟩ := y
          obtain ⟨q1, _, _, q2, q3, _⟩ := getB_some hg
          dsimp only at q1 q2 q3
          obtain rfl : o = yo := by omega
          have q4 := (isSz_iff _).1 q3
          have hG := rgetB_any wr A c B bs hrw hlc (by omega) (o : Int) (by omega) _ hg
          dsimp only [bkV, Bk.val, Option.isSome] at hG
          have hxl' : x = (walkF bs k (o + ys)).map ((l ++ [⟨o, ys, yu⟩]) ++ ·) := by
            rw [hxl]
            simp [walkF, hlt, hg, Option.map_map, Function.comp_def]
          have HG := Lib.hid hG
          have HB := Lib.hid hb
          have HXL := Lib.hid hxl'
          have HOWN := Lib.hid hown
          have HALT : Hid (∀ k, (Value.slice A7 l.length c7).ownBlock = some k → B0 ≤ k ∧ k < wr.heap.size) := hown.lt
          clear hG hown hb hg hxl hxl' hrw q1 q3 HX
          go_wp2_with fail
          with_reducible refine HG.out.mono ?_
          rintro e w2 ⟨rfl, hb2⟩
          have own2 := own_below' HOWN.out hb2
          have HB2 := Lib.hid (HB.out.trans (hb2.mono hBw))
          have hw2 : B0 ≤ w2.heap.size := Nat.le_trans hBw hb2.size
          have hwr := hb2.size
          obtain ⟨w3, hw3⟩ : ∃ w3, w2.alloc (.cells #[.int .i64 (o : Int), .int .i64 (ys : Int), .bool yu] 51) = w3 := ⟨_, rfl⟩
          obtain ⟨w4, hw4⟩ : ∃ w4, w3.alloc (.cells #[.int .i64 (o : Int), .int .i64 (ys : Int), .bool yu] 51) = w4 := ⟨_, rfl⟩
          have b3 : Below w2.heap.size w2 w3 := by rw [← hw3]; exact (Below.refl _ _).alloc (Nat.le_refl _) _
          have b4 : Below w3.heap.size w3 w4 := by rw [← hw4]; exact (Below.refl _ _).alloc (Nat.le_refl _) _
          have own4 := own_below' (own_below' own2 b3) b4
          have n4 : w4.heap[w3.heap.size]? = some (.cells #[.int .i64 (o : Int), .int .i64 (ys : Int), .bool yu] 51 (0, 0)) := by rw [← hw4]; exact heap_alloc_new w3 _
          have s3 : w3.heap.size = w2.heap.size + 1 := by rw [← hw3]; simp
          have n3 : w3.heap[w2.heap.size]? = some (.cells #[.int .i64 (o : Int), .int .i64 (ys : Int), .bool yu] 51 (0, 0)) := by rw [← hw3]; exact heap_alloc_new w2 _
          obtain ⟨⟨d0, d1, d2⟩, _⟩ := blk_cells n3
          have n4' := (b4.block _ (heap_lt' n3)).trans n3
          have HNEW : Hid (∀ j u, [Value.int .i64 (o : Int), .int .i64 (ys : Int), .bool yu][j]? = some u → w4.cell? ((⟨w3.heap.size, 0, none⟩ : Addr).add j) = some u) := fun j u hu => by
            have e : (⟨w3.heap.size, 0, none⟩ : Addr).add j = ⟨w3.heap.size, j, none⟩ := by unfold Addr.add; split <;> simp_all
            rw [e, cell_of_row w4 _ j _ _ (0, 0) n4]
            simpa using hu
          have HONE : Hid (∀ u ∈ [Value.int .i64 (o : Int), .int .i64 (ys : Int), .bool yu], u.oneCell' = true) := fun u hu => by
            simp at hu
            rcases hu with rfl | rfl | rfl <;> rfl
          have hB4 : B0 ≤ w4.heap.size := by have := b4.size; omega
          have HB4 := Lib.hid (HB2.out.trans ((b3.trans (b4.mono b3.size)).mono hw2))
          have OWN4 := Lib.hid own4
          have HN4 := Lib.hid n4'
          have hs4 : w3.heap.size < w4.heap.size := heap_lt' n4
          have HS3 := Lib.hid s3
          have HFL : Hid (flatK (l ++ [⟨o, ys, yu⟩]) = flatK l ++ [.int .i64 (o : Int), .int .i64 (ys : Int), .bool yu]) := flatK_append _ _
          have hg2 : w2.heap.size < w4.heap.size := heap_lt' n4'
          clear own2 own4 n3 n4 n4' b3 b4 hb2 HOWN HG s3
          go_wp2_with (first
            | (at_builtin; go_must (refine wpList_append_own _ rfl _ _ 28 rfl B0 51 i0 _ 3 24 Tryz.underlying28 hi hz0 hz1 hz2 rfl (by decide) _ l.length (flatK l) rfl OWN4.out ⟨w3.heap.size, 0, none⟩ 1 1 [.int .i64 (o : Int), .int .i64 (ys : Int), .bool yu] rfl rfl HNEW.out HONE.out (by unfold maxLen; omega) (by omega) hB4 ?_); intro x5 w5 own5 gr5 at5;
               have gr5' : w4.grownBy w5 (Value.slice A7 l.length c7).ownBlock := gr5; have e5 := (gr5'.block _ hg2 (fun e => by have := (HALT.out _ e.symm).2; omega)).trans HN4.out; obtain ⟨⟨c0, c1, c2⟩, _⟩ := blk_cells e5; have HB5 : Hid (Below B0 w w5) := HB4.out.grown gr5' hB4 (fun k hk => (HALT.out k hk).1); have OWN5 : Hid (w5.ownsRow B0 51 3 x5 (l.length + 1) (flatK (l ++ [⟨o, ys, yu⟩]))) := (show World.ownsRow _ _ _ _ _ _ _ by rw [HFL.out]; exact own5); clear own5 gr5 gr5' at5 e5)
            | fail)
          go_roundw
          case rel => exact ⟨l ++ [⟨o, ys, yu⟩], o + ys, k, by go_num, by omega, by omega, by omega, by rw [List.length_append, List.length_singleton]; omega, HXL.out, by rw [List.length_append, List.length_singleton]; exact OWN5.out, HB5.out⟩
          case measure => simp [intOf]; omega
      · obtain rfl : o = bs.length := by omega
        obtain rfl : x = some l := by rw [hxl]; simp [walkF]
        have HB := Lib.hid hb
        have HO := Lib.hid hown
        clear hxl hown hb HX
        go_wp2
        go_ret2
        exact ⟨A7, c7, rfl, by rw [HB0.out]; exact HO.out, by rw [HB0.out]; exact HB.out⟩
end
end Go.Proofs.YtbemaoncakcnjaaGreat

/- The contracts of the laws' words: Pick, Blocks and Ints of lists that are the same. -/
namespace Go.Proofs.YtbemaoncakcnjaaGreat
open Go.RowKit

/-- A slice of blocks reads so; a slice of numbers. -/
def BkRd (w : World) (B : Nat) (A : Option Addr) (l : List Bk) : Prop := 0 < l.length → ∃ b o, A = some ⟨b, o, none⟩ ∧ b < B ∧ ∀ j x, l[j]? = some x →
  w.cell? ⟨b, o + j * 3, none⟩ = some (.int .i64 (x.off : Int)) ∧ w.cell? ⟨b, o + j * 3 + 1, none⟩ = some (.int .i64 (x.size : Int)) ∧ w.cell? ⟨b, o + j * 3 + 2, none⟩ = some (.bool x.used)
def IRd (w : World) (B : Nat) (A : Option Addr) (l : List Int) : Prop := 0 < l.length → ∃ b o, A = some ⟨b, o, none⟩ ∧ b < B ∧ ∀ j x, l[j]? = some x → w.cell? ⟨b, o + j, none⟩ = some (.int .i64 x)
theorem BkRd.below {w w' : World} {B : Nat} {A : Option Addr} {l : List Bk} (h : BkRd w B A l) (hb : Below B w w') : BkRd w' B A l := fun hn => by
  obtain ⟨b, o, e, hB, hc⟩ := h hn
  refine ⟨b, o, e, hB, fun j x hx => ?_⟩
  obtain ⟨h0, h1, h2⟩ := hc j x hx
  exact ⟨(hb.cell (p := ⟨b, _, none⟩) hB).trans h0, (hb.cell (p := ⟨b, _, none⟩) hB).trans h1, (hb.cell (p := ⟨b, _, none⟩) hB).trans h2⟩
theorem BkRd.more {w : World} {B B' : Nat} {A : Option Addr} {l : List Bk} (h : BkRd w B A l) (hB : B ≤ B') : BkRd w B' A l := fun hn => by
  obtain ⟨b, o, e, h1, hc⟩ := h hn
  exact ⟨b, o, e, Nat.lt_of_lt_of_le h1 hB, hc⟩
theorem IRd.below {w w' : World} {B : Nat} {A : Option Addr} {l : List Int} (h : IRd w B A l) (hb : Below B w w') : IRd w' B A l := fun hn => by
  obtain ⟨b, o, e, hB, hc⟩ := h hn
  exact ⟨b, o, e, hB, fun j x hx => (hb.cell (p := ⟨b, _, none⟩) hB).trans (hc j x hx)⟩
theorem pk_i {k : IntKind} {a b : Int} (h : a = b) : Ending.returned (.int k a) = .returned (.int k b) := by rw [h]

set_option maxRecDepth 100000 in
set_option maxHeartbeats 400000 in
theorem lpick_any (n : Int) (m : Nat) (w : World) (hm : 0 < m) (hm2 : m ≤ 1000000) (p : Nat) (hp : (n % (m : Int)).toNat = p) :
    Calls Tryz.prog 33 #[.int .i64 n, .int .i64 (m : Int)] w fun e w' => e = .returned (.int .i64 (p : Int)) ∧ w = w' := by
  have h1 := Int.emod_nonneg n (b := (m : Int)) (by omega)
  have h2 := Int.emod_lt_of_pos n (b := (m : Int)) (by omega)
  obtain ⟨e, he⟩ : ∃ e, n % (m : Int) = e := ⟨_, rfl⟩
  rw [he] at h1 h2 hp
  have h3 : (n.tmod (m : Int) = e) ∨ (n.tmod (m : Int) = e - m) := by
    have := Int.tmod_eq_emod (a := n) (b := (m : Int))
    rw [he] at this
    rw [this]
    split
    · left; simp
    · right; simp
  obtain ⟨r, hr⟩ : ∃ r, n.tmod (m : Int) = r := ⟨_, rfl⟩
  rw [hr] at h3
  clear he
  have hm0 : ((m : Int) == 0) = false := by rw [beq_eq_false_iff_ne]; omega
  by_cases h4 : r < 0
  · have h6 : -1000000 ≤ r := by omega
    have h5 : r + (m : Int) = (p : Int) := by omega
    have H5 := Lib.hid h5
    clear h3 h5 hp
    go_enter Tryz.func33, Tryz.ntmps33
    go_wp2
    go_ret
    exact ⟨pk_i H5.out, rfl⟩
  · have h5 : r = (p : Int) := by omega
    have H5 := Lib.hid h5
    clear h3 h5 hp
    go_enter Tryz.func33, Tryz.ntmps33
    go_wp2
    go_ret
    exact ⟨pk_i H5.out, rfl⟩

set_option maxRecDepth 100000 in
set_option maxHeartbeats 1000000 in
theorem blocks_same (w : World) (A1 A2 : Option Addr) (c1 c2 : Nat) (l : List Bk) (h1 : BkRd w w.heap.size A1 l) (h2 : BkRd w w.heap.size A2 l) (hl : l.length ≤ 1000000) :
    Calls Tryz.prog 16 #[.slice A1 l.length c1, .slice A2 l.length c2] w fun e w' => e = .returned (.int .i64 1) ∧ Below w.heap.size w w' := by
  go_enter Tryz.func16, Tryz.ntmps16
  go_wp2
  go_loopw [5] (fun i wr => ∃ j : Nat, j ≤ l.length ∧ i = .int .i64 j ∧ Below w.heap.size w wr) (fun i _ => l.length - (intOf i).toNat)
  case atStart => exact ⟨0, Nat.zero_le _, rfl, Below.refl _ _⟩
  case round =>
    obtain ⟨j, hj, rfl, hb⟩ := hrel
    by_cases hlt : j < l.length
    · obtain ⟨x, hx⟩ : ∃ x, l[j]? = some x := ⟨l[j], List.getElem?_eq_getElem hlt⟩
      obtain ⟨b1, o1, rfl, _, hc1⟩ := (h1.below hb) (by omega)
      obtain ⟨b2, o2, rfl, _, hc2⟩ := (h2.below hb) (by omega)
      obtain ⟨p0, p1, p2⟩ := hc1 j x hx
      obtain ⟨q0, q1, q2⟩ := hc2 j x hx
      have hji : (j : Int) < (l.length : Int) := by omega
      clear hc1 hc2 hx
      go_wp2_with fail
      go_quiet (fail)
      have HB : Hid (Below w.heap.size w (wr.drewN nq)) := ⟨hb.os, hb.tape, hb.output, hb.size, hb.block⟩
      clear hb p0 p1 p2 q0 q1 q2
      generalize wr.drewN nq = w2 at HB ⊢
      go_wp2
      go_roundw
      case rel => exact ⟨j + 1, by omega, by go_num, HB.out⟩
      case measure => simp [intOf]; omega
    · go_wp2
      go_ret
      exact ⟨rfl, hb⟩

end Go.Proofs.YtbemaoncakcnjaaGreat

/- Slices and structs that came in, in the words of the contracts: bytes, bools, numbers, what is laid, a block. -/
namespace Go.Proofs.YtbemaoncakcnjaaGreat
open Go.RowKit Go.ChangeShapes Go.WideShapes Go.Deep

theorem list_of {α : Type} {p : Nat → α → Prop} : ∀ (n : Nat), (∀ i, i < n → ∃ x, p i x) → ∃ l : List α, l.length = n ∧ ∀ i x, l[i]? = some x → p i x
  | 0, _ => ⟨[], rfl, fun i x h => by simp at h⟩
  | n + 1, h => by
    obtain ⟨l, hl, hp⟩ := list_of n (fun i hi => h i (by omega))
    obtain ⟨x, hx⟩ := h n (by omega)
    refine ⟨l ++ [x], by simp [hl], fun i y hy => ?_⟩
    rcases Nat.lt_or_ge i l.length with h1 | h1
    · rw [List.getElem?_append_left h1] at hy
      exact hp i y hy
    · rw [List.getElem?_append_right h1] at hy
      have e : i - l.length = 0 := by
        rcases Nat.eq_zero_or_pos (i - l.length) with h2 | h2
        · exact h2
        · rw [List.getElem?_eq_none (by simp; omega)] at hy; cases hy
      rw [e] at hy
      obtain rfl : x = y := by simpa using hy
      obtain rfl : i = n := by omega
      exact hx

theorem add_plain {w : World} {a : Addr} {v : Value} (h : w.cell? (a.add 0) = some v) : ∃ b o, a = ⟨b, o, none⟩ ∧ b < w.heap.size ∧ ∀ j, a.add j = ⟨b, o + j, none⟩ := by
  obtain ⟨b, o, sp⟩ := a
  obtain rfl : sp = none := by simpa [Addr.add] using World.cell?_spot h
  have e : ∀ j, (⟨b, o, none⟩ : Addr).add j = ⟨b, o + j, none⟩ := fun j => by unfold Addr.add; split <;> simp_all
  refine ⟨b, o, rfl, ?_, e⟩
  rw [e] at h
  exact cell_lt h

section
variable {H : Type} {enc : TypeId × Value → H} {w : World} {base : Nat} {held : Bool} {fuel : Nat} {A : Option Addr} {len cap : Nat} {x : DataW H × List MemPlace}
theorem open_byt {fuel : Nat} {A : Option Addr} {len cap : Nat} {x : DataW H × List MemPlace} (h : DataW.trod enc Tryz.prog w base (fun _ => true) held fuel 23 [.slice A len cap] = some x) : ∃ bs : List UInt8, Rd w w.heap.size A len bs ∧ len ≤ cap ∧ cap ≤ maxLen ∧ (A = none → cap = 0) := by
  rcases open_ints Tryz.underlying23 Tryz.underlying5 (by kernel_rfl) h with ⟨hcs, _⟩ | ⟨y, l, c, zs, hcs, _, hl, hm, hz, _, hcell, hwz⟩
  · simp at hcs
    obtain ⟨rfl, rfl, rfl⟩ := hcs
    exact rd_of_row (zs := []) (.inl ⟨rfl, rfl, rfl, rfl⟩)
  · simp at hcs
    obtain ⟨rfl, rfl, rfl⟩ := hcs
    exact rd_of_row (zs := zs) (.inr ⟨_, rfl, hl, hm, by simpa using hz, hcell, hwz⟩)

end
end Go.Proofs.YtbemaoncakcnjaaGreat

/- The contracts of the document's own lists: num, bit, one, Free, Member. -/
namespace Go.Proofs.YtbemaoncakcnjaaGreat
open Go.RowKit

theorem layN_eq (bs : List UInt8) (o v : Nat) : layN bs o v = lyN bs o v := by
  unfold layN lay lyN
  rw [lowB_length]

section
variable (w : World)
set_option maxHeartbeats 400000 in
theorem rnum_any (A : Option Addr) (c B : Nat) (bs : List UInt8) (h : Rd w B A bs.length bs) (hlc : bs.length ≤ c) (hl : bs.length ≤ 1000000) (o : Int) (ho : o ≤ 9223372036854775807) (v : Nat) (hv : numO bs o = v) :
    Calls Tryz.prog 29 #[.slice A bs.length c, .int .i64 o] w fun e w' => e = .returned (.int .u64 (v : Int)) ∧ w = w' := by
  have hw := rword_any w A c B bs h hlc hl o ho
  unfold numO at hv
  cases he : word? bs o with
  | none =>
    rw [he] at hw hv
    obtain rfl : 0 = v := hv
    dsimp only [wordV] at hw
    have HW := Lib.hid hw
    clear hw he h
    go_enter Tryz.func29, Tryz.ntmps29
    go_wp2_with fail
    with_reducible refine HW.out.mono ?_
    rintro e w1 ⟨rfl, rfl⟩
    go_wp2
    go_ret
    exact ⟨rfl, rfl⟩
  | some x =>
    rw [he] at hw hv
    obtain rfl : x = v := hv
    dsimp only [wordV] at hw
    have HW := Lib.hid hw
    clear hw he h
    go_enter Tryz.func29, Tryz.ntmps29
    go_wp2_with fail
    with_reducible refine HW.out.mono ?_
    rintro e w1 ⟨rfl, rfl⟩
    go_wp2
    go_ret
    exact ⟨rfl, rfl⟩

theorem numO_at (bs : List UInt8) (o : Nat) (h : o + 8 ≤ bs.length) : numO bs (o : Int) = wordN bs o := by
  unfold numO word?
  rw [if_pos (by omega)]
  rfl
theorem div_pow_succ (v k q : Nat) (h : v / 2 ^ k = q) : Value.int .u64 ((q : Int) / 2) = Value.int .u64 ((v / 2 ^ (k + 1) : Nat) : Int) := by
  rw [Nat.pow_succ, ← Nat.div_div_eq_div_mul, h]; simp

set_option maxRecDepth 100000 in
set_option maxHeartbeats 1000000 in
theorem rbit_any (v c : Nat) (hv : v < 18446744073709551616) (hc : c ≤ 1000) (b : Bool) (hb : bitN v c = b) :
    Calls Tryz.prog 61 #[.int .u64 (v : Int), .int .i64 (c : Int)] w fun e w' => e = .returned (.bool b) ∧ w = w' := by
  have HB := Lib.hid hb
  clear hb
  go_enter Tryz.func61, Tryz.ntmps61
  go_wp2
  go_loop [0, 5] (fun q i => ∃ k : Nat, k ≤ c ∧ i = .int .i64 (k : Int) ∧ q = .int .u64 ((v / 2 ^ k : Nat) : Int)) (fun _ i => c - (intOf i).toNat)
  case atStart => exact ⟨0, Nat.zero_le _, rfl, by simp⟩
  case round =>
    obtain ⟨k, hk, rfl, rfl⟩ := hrel
    have hq : v / 2 ^ k < 18446744073709551616 := Nat.lt_of_le_of_lt (Nat.div_le_self _ _) hv
    by_cases hlt : k < c
    · generalize hqq : v / 2 ^ k = q at *
      have HQ := Lib.hid hqq
      clear hqq
      go_wp2
      go_round
      case rel => exact ⟨k + 1, by omega, by go_num, div_pow_succ v k q HQ.out⟩
      case measure => simp [intOf]; omega
    · obtain rfl : k = c := by omega
      have HR : Hid (((((v / 2 ^ k : Nat) : Int) % 2) == 1) = b) := (show _ = _ by
        rw [← HB.out]
        unfold bitN
        rw [Bool.eq_iff_iff, beq_iff_eq, beq_iff_eq]
        omega)
      generalize v / 2 ^ k = q at *
      go_wp2
      go_ret
      exact ⟨rt_b HR.out, rfl⟩

set_option maxRecDepth 100000 in
set_option maxHeartbeats 1000000 in
theorem rmember_any (A : Option Addr) (c B : Nat) (bs : List UInt8) (hr : Rd w B A bs.length bs) (hlc : bs.length ≤ c) (hl : bs.length ≤ 1000000) (p : Nat) (hp : p < 18446744073709551616) (k : Int) (b : Bool) (hb : memberB bs p k = b) :
    Calls Tryz.prog 62 #[.slice A bs.length c, .int .u64 (p : Int), .int .i64 k] w fun e w' => e = .returned (.bool b) ∧ Below w.heap.size w w' := by
  by_cases h0 : 20000 < p
  · obtain rfl : false = b := by rw [← hb]; unfold memberB; rw [decide_eq_false (by omega)]; rfl
    clear hr hb
    go_enter Tryz.func62, Tryz.ntmps62
    go_wp2
    go_ret
    exact ⟨rfl, Below.refl _ _⟩
  · have hb' : (match getB bs (p : Int) with
      | some x => !x.used && classI x.size == k
      | none => false) = b := by rw [← hb]; unfold memberB; rw [decide_eq_true (by omega), Bool.true_and]; cases getB bs (p : Int) <;> rfl
    cases hg : getB bs (p : Int) with
    | none =>
      have hG := rgetB_any w A c B bs hr hlc hl (p : Int) (by omega) _ hg
      dsimp only [bkV, Option.isSome] at hG
      rw [hg] at hb'
      obtain rfl : false = b := hb'
      have HG := Lib.hid hG
      clear hG hr hb hg
      go_enter Tryz.func62, Tryz.ntmps62
      go_wp2_with fail
      with_reducible refine HG.out.mono ?_
      rintro e w1 ⟨rfl, hb⟩
      go_wp2
      go_ret
      exact ⟨rfl, hb.alloc hb.size _⟩
    | some x =>
      obtain ⟨xo, xs, xu⟩ := x
      have hG := rgetB_any w A c B bs hr hlc hl (p : Int) (by omega) _ hg
      dsimp only [bkV, Bk.val, Option.isSome] at hG
      have q := (isSz_iff _).1 (getB_some hg).2.2.2.2.1
      dsimp only at q
      rw [hg] at hb'
      cases xu with
      | true =>
        obtain rfl : false = b := hb'
        have HG := Lib.hid hG
        clear hG hr hb hg
        go_enter Tryz.func62, Tryz.ntmps62
        go_wp2_with fail
        with_reducible refine HG.out.mono ?_
        rintro e w1 ⟨rfl, hb⟩
        go_wp2
        go_ret
        exact ⟨rfl, hb.alloc hb.size _⟩
      | false =>
        obtain ⟨d, hd⟩ : ∃ d, classI (xs : Int) = d := ⟨_, rfl⟩
        have hb2 : (d == k) = b := by rw [← hd]; simpa using hb'
        have HC := Lib.hid (fun w => rclass_any w (xs : Int) (by omega) d hd)
        have HG := Lib.hid hG
        have HBB := Lib.hid hb2
        clear hG hr hb hb' hg hd hb2
        go_enter Tryz.func62, Tryz.ntmps62
        go_wp2_with fail
        with_reducible refine HG.out.mono ?_
        rintro e w1 ⟨rfl, hb⟩
        go_wp2_with fail
        with_reducible refine (HC.out _).mono ?_
        rintro e w2 ⟨rfl, rfl⟩
        go_wp2
        go_ret
        exact ⟨rt_b HBB.out, hb.alloc hb.size _⟩
end
end Go.Proofs.YtbemaoncakcnjaaGreat

/- The contracts of the document's own lists: mark, Put. -/
namespace Go.Proofs.YtbemaoncakcnjaaGreat
open Go.RowKit

section
variable (w : World)
end
end Go.Proofs.YtbemaoncakcnjaaGreat

/- The contracts of the document's own lists: Put, all ways. -/
namespace Go.Proofs.YtbemaoncakcnjaaGreat
open Go.RowKit

section
variable (w : World)

end
end Go.Proofs.YtbemaoncakcnjaaGreat

/- The contracts of the document's own lists: All. -/
namespace Go.Proofs.YtbemaoncakcnjaaGreat
open Go.RowKit

theorem int_inf : (Tryz.prog.info? 3).map (fun i => (i.zero, i.size, i.bytes)) = some (some (.int .i64 0), 1, 8) := by kernel_rfl
def iV (n : Nat) : Value := .int .i64 (n : Int)
/-- A slice of numbers. -/
def IntsTold (x : Option (List Nat)) (w : World) (e : Ending) (w' : World) : Prop :=
  ∃ A' c', e = .returned (.tuple #[.slice A' (x.getD []).length c', .bool x.isSome]) ∧ w'.ownsRow w.heap.size 3 1 (.slice A' (x.getD []).length c') (x.getD []).length ((x.getD []).map iV) ∧ Below w.heap.size w w'

section
variable (w : World)
set_option maxRecDepth 100000 in
set_option maxHeartbeats 2000000 in
theorem rall_any (A : Option Addr) (ca : Nat) (bs : List UInt8) (hr : Rd w w.heap.size A bs.length bs) (hlc : bs.length ≤ ca) (hl : bs.length ≤ 100000) (c : Nat) (hc : c < 22) (x : Option (List Nat)) (hx : allB bs c = x) :
    Calls Tryz.prog 30 #[.slice A bs.length ca, .int .i64 (c : Int)] w fun e w' => IntsTold x w e w' := by
  by_cases h0 : bs.length < 184
  · obtain rfl : none = x := by rw [← hx]; unfold allB; rw [if_pos h0]
    clear hx hr
    go_enter Tryz.func30, Tryz.ntmps30
    go_wp2
    go_ret2
    exact ⟨none, 0, rfl, World.ownsRow_nil _ _ _ _, Below.refl _ _⟩
  · obtain ⟨v, hv⟩ : ∃ v, wordN bs 0 = v := ⟨_, rfl⟩
    obtain ⟨f, hf⟩ : ∃ f, wordN bs (8 + 8 * c) = f := ⟨_, rfl⟩
    obtain ⟨b, hb⟩ : ∃ b, bitN v c = b := ⟨_, rfl⟩
    have hvl : v < 18446744073709551616 := by rw [← hv]; exact wordN_lt _ _
    have hfl : f < 18446744073709551616 := by rw [← hf]; exact wordN_lt _ _
    have n0 := rnum_any w A ca w.heap.size bs hr hlc (by omega) 0 (by omega) v (by rw [← hv]; exact numO_at bs 0 (by omega))
    have n1 := rnum_any w A ca w.heap.size bs hr hlc (by omega) (8 + 8 * (c : Int)) (by omega) f (by rw [← hf, ← numO_at bs (8 + 8 * c) (by omega)]; rfl)
    have bt := rbit_any w v c hvl (by omega) b hb
    have hx' : (if b ≠ decide (f ≠ 0) then none else allF bs c 1024 0 f) = x := by rw [← hx]; unfold allB; rw [if_neg h0, hv, hf, hb]
    have HN0 := Lib.hid n0
    have HN1 := Lib.hid n1
    have HBT := Lib.hid bt
    have HR := Lib.hid hr
    obtain ⟨d, hd⟩ : ∃ d, decide (f ≠ 0) = d := ⟨_, rfl⟩
    have hd2 : ((f : Int) != 0) = d := by
      rw [← hd, Bool.eq_iff_iff, bne_iff_ne, decide_eq_true_eq]; omega
    rw [hd] at hx'
    clear n0 n1 bt hv hf hb hx hr
    by_cases hbd : b = d
    · subst hbd
      rw [if_neg (by simp)] at hx'
      obtain ⟨i0, hi, hz0, hz1, hz2⟩ := info_parts int_inf
      have HX := Lib.hid hx'
      obtain ⟨B0, hB0⟩ : ∃ B0, w.heap.size = B0 := ⟨_, rfl⟩
      have HB0 := Lib.hid hB0
      have hbb : (b != b) = false := by simp
      clear hx' hB0 hd
      go_enter Tryz.func30, Tryz.ntmps30
      go_wp2_with fail
      with_reducible refine HN1.out.mono ?_
      rintro e w1 ⟨rfl, rfl⟩
      go_wp2_with fail
      with_reducible refine HN0.out.mono ?_
      rintro e w1 ⟨rfl, rfl⟩
      go_wp2_with fail
      with_reducible refine HBT.out.mono ?_
      rintro e w1 ⟨rfl, rfl⟩
      clear HN0 HN1 HBT
      go_wp2
      clear hd2
      go_loopw [6, 8, 9] (fun q o t wr => ∃ (p last k : Nat) (l : List Nat), q = .int .u64 (p : Int) ∧ t = .int .u64 (last : Int) ∧ p < 18446744073709551616 ∧ last < 18446744073709551616 ∧ k + l.length = 1024 ∧ x = (allF bs c k last p).map (l ++ ·) ∧ wr.ownsRow B0 3 1 o l.length (l.map iV) ∧ Below B0 w wr) (fun _ o _ _ => match o with | .slice _ n _ => 1024 - n | _ => 0)
      case atStart => exact ⟨f, 0, 1024, [], rfl, rfl, hfl, by omega, rfl, by rw [HX.out]; simp, World.ownsRow_nil _ _ _ _, Below.refl _ _⟩
      case round =>
        obtain ⟨p, last, k, l, rfl, rfl, hp, hlast, hk, hxl, hown, hbw⟩ := hrel
        obtain ⟨A7, c7, rfl⟩ := own_sl hown
        have hBw : B0 ≤ wr.heap.size := by have := hbw.size; have := HB0.out; omega
        by_cases hp0 : p = 0
        · subst hp0
          obtain rfl : x = some l := by rw [hxl]; cases k <;> simp [allF]
          have HB := Lib.hid hbw
          have HO := Lib.hid hown
          clear hxl hown hbw HX
          go_wp2
          go_ret2
          exact ⟨A7, c7, rfl, by rw [HB0.out]; exact HO.out, by rw [HB0.out]; exact HB.out⟩
        · have hq0 : ((p : Int) != 0) = true := by rw [bne_iff_ne]; omega
          obtain ⟨m, hm⟩ : ∃ m, memberB bs p (c : Int) = m := ⟨_, rfl⟩
          have hrw : Rd wr w.heap.size A bs.length bs := HR.out.keep (fun q hq => hbw.cell (p := q) (by have := HB0.out; omega))
          have hM := rmember_any wr A ca w.heap.size bs hrw hlc (by omega) p hp (c : Int) m hm
          have HM := Lib.hid hM
          by_cases hk0 : k = 0
          · subst hk0
            obtain rfl : x = none := by rw [hxl]; simp [allF, hp0]
            have e1 : ((l.length : Int) == 1024) = true := by rw [beq_iff_eq]; omega
            have HB := Lib.hid hbw
            clear hxl hown hbw HX hrw hM hm
            go_wp2_with fail
            with_reducible refine HM.out.mono ?_
            rintro e w2 ⟨rfl, hb2⟩
            have HB2 := Lib.hid (HB.out.trans (hb2.mono hBw))
            clear hb2
            go_wp2
            go_ret2
            exact ⟨none, 0, rfl, World.ownsRow_nil _ _ _ _, by rw [HB0.out]; exact HB2.out⟩
          · obtain ⟨k, rfl⟩ : ∃ k', k = k' + 1 := ⟨k - 1, by omega⟩
            have e1 : ((l.length : Int) == 1024) = false := by rw [beq_eq_false_iff_ne]; omega
            have hstep : x = (if m = true ∧ wordN bs (p + 16) = last then (allF bs c k p (wordN bs (p + 8))).map (p :: ·) else none).map (l ++ ·) := by
              rw [hxl]
              conv => lhs; unfold allF
              rw [if_neg hp0]
              dsimp only
              rw [hm]
            cases m with
            | false =>
              obtain rfl : x = none := by rw [hstep]; rfl
              have HB := Lib.hid hbw
              clear hxl hstep hown hbw HX hrw hM hm
              go_wp2_with fail
              with_reducible refine HM.out.mono ?_
              rintro e w2 ⟨rfl, hb2⟩
              have HB2 := Lib.hid (HB.out.trans (hb2.mono hBw))
              clear hb2
              go_wp2
              go_ret2
              exact ⟨none, 0, rfl, World.ownsRow_nil _ _ _ _, by rw [HB0.out]; exact HB2.out⟩
            | true =>
              have hpf : p + 32 ≤ bs.length := by
                unfold memberB at hm
                cases hg : getB bs (p : Int) with
                | none => rw [hg] at hm; simp at hm
                | some y =>
                  obtain ⟨r1, r2, _, r3, r4, _⟩ := getB_some hg
                  have := (isSz_iff _).1 r4
                  omega
              obtain ⟨u, hu⟩ : ∃ u, wordN bs (p + 16) = u := ⟨_, rfl⟩
              obtain ⟨nx, hnx⟩ : ∃ nx, wordN bs (p + 8) = nx := ⟨_, rfl⟩
              have hul : u < 18446744073709551616 := by rw [← hu]; exact wordN_lt _ _
              have hnl : nx < 18446744073709551616 := by rw [← hnx]; exact wordN_lt _ _
              rw [hu, hnx] at hstep
              have hU := fun W (hb : Below w.heap.size wr W) => rnum_any W A ca w.heap.size bs (hrw.keep fun q hq => hb.cell (p := q) hq) hlc (by omega) ((p : Int) + 16) (by omega) u (by rw [← hu, ← numO_at bs (p + 16) (by omega)]; rfl)
              have hww : w.heap.size ≤ wr.heap.size := by have := HB0.out; omega
              have hN := fun W (hb : Below w.heap.size wr W) => rnum_any W A ca w.heap.size bs (hrw.keep fun q hq => hb.cell (p := q) hq) hlc (by omega) ((p : Int) + 8) (by omega) nx (by rw [← hnx, ← numO_at bs (p + 8) (by omega)]; rfl)
              have HU := Lib.hid hU
              have HN := Lib.hid hN
              by_cases hul2 : u = last
              · subst hul2
                rw [if_pos ⟨rfl, rfl⟩] at hstep
                have hstep' : x = (allF bs c k p nx).map ((l ++ [p]) ++ ·) := by
                  rw [hstep, Option.map_map]
                  congr 1
                  funext r
                  simp
                have hs2 : ((u : Int) != (u : Int)) = false := by simp
                have HB := Lib.hid hbw
                have HS := Lib.hid hstep'
                have HOWN := Lib.hid hown
                have HALT : Hid (∀ k, (Value.slice A7 l.length c7).ownBlock = some k → B0 ≤ k ∧ k < wr.heap.size) := hown.lt
                clear hxl hstep hstep' hown hbw HX hrw hM hm hU hN hu hnx
                go_wp2_with fail
                with_reducible refine HM.out.mono ?_
                rintro e w2 ⟨rfl, hb2⟩
                have H2 := Lib.hid hb2
                go_wp2_with fail
                refine (HU.out w2 (H2.out.mono hww)).mono ?_
                rintro e w3 ⟨rfl, rfl⟩
                have own4 := own_below' (own_below' HOWN.out hb2) ((Below.refl w2.heap.size w2).alloc (Nat.le_refl _) (.cells #[.int .i64 (p : Int)] 3))
                have n4 : (w2.alloc (.cells #[.int .i64 (p : Int)] 3)).heap[w2.heap.size]? = some (.cells #[.int .i64 (p : Int)] 3 (0, 0)) := heap_alloc_new w2 _
                have HNEW : Hid (∀ j u, [Value.int .i64 (p : Int)][j]? = some u → (w2.alloc (.cells #[.int .i64 (p : Int)] 3)).cell? ((⟨w2.heap.size, 0, none⟩ : Addr).add j) = some u) := fun j u hu => by
                  have e : (⟨w2.heap.size, 0, none⟩ : Addr).add j = ⟨w2.heap.size, j, none⟩ := by unfold Addr.add; split <;> simp_all
                  rw [e, cell_of_row _ _ j _ _ (0, 0) n4]
                  simpa using hu
                have HONE : Hid (∀ u ∈ [Value.int .i64 (p : Int)], u.oneCell' = true) := fun u hu => by
                  simp at hu
                  subst hu; rfl
                have hB4 : B0 ≤ (w2.alloc (.cells #[.int .i64 (p : Int)] 3)).heap.size := by simp; have := hb2.size; omega
                have HB4 : Hid (Below w2.heap.size w2 (w2.alloc (.cells #[.int .i64 (p : Int)] 3))) := (Below.refl w2.heap.size w2).alloc (Nat.le_refl _) _
                have OWN4 := Lib.hid own4
                have hsz2 := hb2.size
                clear own4 n4 hb2 HOWN HM HU
                go_wp2_with (first
                  | (at_builtin; go_must (refine wpList_append_own _ rfl _ _ 73 rfl B0 3 i0 _ 1 8 Tryz.underlying73 hi hz0 hz1 hz2 rfl (by decide) _ l.length (l.map iV) rfl OWN4.out ⟨w2.heap.size, 0, none⟩ 1 1 [.int .i64 (p : Int)] rfl rfl HNEW.out HONE.out (by unfold maxLen; omega) (by omega) hB4 ?_); intro x5 w5 own5 gr5 at5;
                     have gr5' : (w2.alloc (.cells #[.int .i64 (p : Int)] 3)).grownBy w5 (Value.slice A7 l.length c7).ownBlock := gr5; have HB5 : Hid (Below B0 wr w5) := ((H2.out.mono hBw).trans (HB4.out.mono (by omega))).grown gr5' hB4 (fun k hk => (HALT.out k hk).1); have HW5 : Hid (Below w.heap.size wr w5) := (show Below w.heap.size wr w5 by rw [HB0.out]; exact HB5.out); have OWN5 : Hid (w5.ownsRow B0 3 1 x5 (l.length + 1) ((l ++ [p]).map iV)) := (show World.ownsRow _ _ _ _ _ _ _ by rw [List.map_append]; exact own5); clear own5 gr5 gr5' at5)
                  | fail)
                refine (HN.out w5 HW5.out).mono ?_
                rintro e w6 ⟨rfl, rfl⟩
                have HBE := Lib.hid (HB.out.trans HB5.out)
                clear HN H2 HB4 OWN4 HNEW HONE
                go_wp2
                go_roundw
                case rel => exact ⟨nx, p, k, l ++ [p], rfl, rfl, hnl, hp, by rw [List.length_append, List.length_singleton]; omega, HS.out, by rw [List.length_append, List.length_singleton]; exact OWN5.out, HBE.out⟩
                case measure =>
                  obtain ⟨A8, c8, rfl⟩ := own_sl OWN5.out
                  simp; omega
              · rw [if_neg (fun h => hul2 h.2)] at hstep
                obtain rfl : x = none := hstep
                have hs2 : ((u : Int) != (last : Int)) = true := by rw [bne_iff_ne]; omega
                have HB := Lib.hid hbw
                clear hxl hown hbw HX hrw hM hm hU hN hu hnx hul2
                go_wp2_with fail
                with_reducible refine HM.out.mono ?_
                rintro e w2 ⟨rfl, hb2⟩
                have H2 := Lib.hid hb2
                have HB2 := Lib.hid (HB.out.trans (hb2.mono hBw))
                clear hb2
                go_wp2_with fail
                refine (HU.out w2 (H2.out.mono hww)).mono ?_
                rintro e w3 ⟨rfl, rfl⟩
                go_wp2
                go_ret2
                exact ⟨none, 0, rfl, World.ownsRow_nil _ _ _ _, by rw [HB0.out]; exact HB2.out⟩
    · rw [if_pos hbd] at hx'
      obtain rfl : none = x := hx'
      have hcs : (b = true ∧ d = false) ∨ (b = false ∧ d = true) := by cases b <;> cases d <;> simp_all
      clear hd hbd
      rcases hcs with ⟨rfl, rfl⟩ | ⟨rfl, rfl⟩
      all_goals
        go_enter Tryz.func30, Tryz.ntmps30
        go_wp2_with fail
        with_reducible refine HN1.out.mono ?_
        rintro e w1 ⟨rfl, rfl⟩
        go_wp2_with fail
        with_reducible refine HN0.out.mono ?_
        rintro e w1 ⟨rfl, rfl⟩
        go_wp2_with fail
        with_reducible refine HBT.out.mono ?_
        rintro e w1 ⟨rfl, rfl⟩
        clear HN0 HN1 HBT
        go_wp2
        go_ret2
        exact ⟨none, 0, rfl, World.ownsRow_nil _ _ _ _, Below.refl _ _⟩
end
end Go.Proofs.YtbemaoncakcnjaaGreat

/- The contracts of the document's own fits: Find. -/
namespace Go.Proofs.YtbemaoncakcnjaaGreat
open Go.RowKit

theorem find_take {p : Nat → Bool} {l : List Nat} {j o : Nat} (h : ∀ q ∈ l.take j, p q = false) (hj : l[j]? = some o) (ho : p o = true) : l.find? p = some o := by
  have hlt : j < l.length := by
    rcases Nat.lt_or_ge j l.length with h | h
    · exact h
    · rw [List.getElem?_eq_none h] at hj; cases hj
  rw [List.getElem?_eq_getElem hlt] at hj
  injection hj with hj
  have e : l = l.take j ++ (o :: l.drop (j + 1)) := by rw [← hj, ← List.drop_eq_getElem_cons hlt, List.take_append_drop]
  rw [e, List.find?_append]
  have hn : (l.take j).find? p = none := List.find?_eq_none.2 fun q hq => by rw [h q hq]; simp
  rw [hn, Option.none_or, List.find?_cons_of_pos ho]
theorem find_none' {p : Nat → Bool} {l : List Nat} (h : ∀ q ∈ l, p q = false) : l.find? p = none := List.find?_eq_none.2 fun q hq => by rw [h q hq]; simp

theorem allF_member (bs : List UInt8) (c : Nat) : ∀ (k last p : Nat) (l : List Nat), allF bs c k last p = some l → ∀ o ∈ l, memberB bs o (c : Int) = true
  | 0, last, p, l, h, o, ho => by
    unfold allF at h
    split at h
    · injection h with h; subst h; cases ho
    · cases h
  | k + 1, last, p, l, h, o, ho => by
    unfold allF at h
    by_cases hp : p = 0
    · rw [if_pos hp] at h; injection h with h; subst h; cases ho
    · rw [if_neg hp] at h
      dsimp only at h
      by_cases hm : memberB bs p (c : Int) = true ∧ wordN bs (p + 16) = last
      · rw [if_pos hm] at h
        cases hr : allF bs c k p (wordN bs (p + 8)) with
        | none => rw [hr] at h; cases h
        | some l' =>
          rw [hr] at h
          injection h with h
          subst h
          rcases List.mem_cons.1 ho with e | ho
          · rw [e]; exact hm.1
          · exact allF_member bs c k p _ l' hr o ho
      · rw [if_neg hm] at h; cases h
theorem allB_member {bs : List UInt8} {c : Nat} {l : List Nat} (h : allB bs c = some l) : ∀ o ∈ l, memberB bs o (c : Int) = true := by
  unfold allB at h
  split at h
  · cases h
  · split at h
    · cases h
    · exact allF_member bs c _ _ _ l h
theorem memberB_get {bs : List UInt8} {p : Nat} {c : Int} (h : memberB bs p c = true) : p ≤ 20000 ∧ ∃ x, getB bs (p : Int) = some x := by
  unfold memberB at h
  cases hg : getB bs (p : Int) with
  | none => rw [hg] at h; simp at h
  | some x => rw [hg] at h; simp at h; exact ⟨h.1, x, rfl⟩
section
variable (w : World)
end
end Go.Proofs.YtbemaoncakcnjaaGreat

/- The contracts of the document's own fits: Rebuild. -/
namespace Go.Proofs.YtbemaoncakcnjaaGreat
open Go.RowKit

theorem own_bks {w : World} {base n : Nat} {t : TypeId} {A : Option Addr} {c : Nat} {l : List Bk} (h : w.ownsRow base t 3 (.slice A n c) n (flatK l)) (hn : n = l.length) : BkRd w w.heap.size A l := fun h0 => by
  rcases h.2 with ⟨_, h0'⟩ | ⟨g, _, _, h', _⟩
  · omega
  · injection h' with e
    subst e
    refine ⟨g, 0, rfl, (h.lt g rfl).2, fun j x hx => ?_⟩
    obtain ⟨q0, q1, q2⟩ := flatK_get l j x hx
    have hj : j < l.length := by
      rcases Nat.lt_or_ge j l.length with h | h
      · exact h
      · rw [List.getElem?_eq_none h] at hx; cases hx
    refine ⟨?_, ?_, ?_⟩
    · rw [Nat.zero_add, h.cellAt (j * 3) (by omega), q0]
    · rw [Nat.zero_add, h.cellAt (j * 3 + 1) (by omega), q1]
    · rw [Nat.zero_add, h.cellAt (j * 3 + 2) (by omega), q2]

/-- make([]byte, n): a block of n bytes that are 0. -/
theorem run_mk0 (n : Nat) (hn : n ≤ 1000000) (z : List UInt8) (hz : List.replicate n (0 : UInt8) = z) (W : World) : (Instr.makeSlice 23 (.int .i64 (n : Int)) (.int .i64 (n : Int))).run Tryz.prog W = .ok (.slice (some ⟨W.heap.size, 0, none⟩) n n) (W.alloc (.cells (rowB z) 5)) := by
  have := run_make_row' (P := Tryz.prog) 23 5 (.int .u8 0) 1 Tryz.underlying23 u8_infb rfl .i64 .i64 n (by omega) (by omega) W
  rw [rowB_zeros, hz] at this
  exact this
section
variable (w : World)
end
end Go.Proofs.YtbemaoncakcnjaaGreat
