/- Texts of mine, joined: Code15, ImgM, Img1, Img2, Img3, Img4, Img5, Img6, Img7, Img8, ImgD. -/
import Derived.Test.YtbemaoncakcnjaaGreatChecked
import Derived.IntWalk
import Derived.Outline
import Derived.Deep.QuietTactic
import Derived.BigQuiet
import Derived.Deep.DeepMust
import Derived.Deep.Cut
import Derived.Great.BuildSlice
import Derived.Test.YtbemaoncakcnjaaGreatM3

/- The law's word Code, where there is no arena. -/
namespace Go.Proofs.YtbemaoncakcnjaaGreat
open Go.RowKit

set_option maxRecDepth 100000 in
theorem code15_eql (W : World) (k j : Int) : (binOp .eql 33 (.iface 63 (.int .i64 k)) (.iface 63 (.int .i64 j))).run Tryz.prog W = .ok (.bool (k == j)) W := by rfl

set_option maxRecDepth 100000 in
set_option maxHeartbeats 400000 in
theorem code15_err (w : World) (k : Nat) (h1 : 1 ≤ k) (h2 : k ≤ 10) : Calls Tryz.prog 11 #[.iface 63 (.int .i64 (k : Int))] w fun e w' => e = .returned (.int .i64 (k : Int)) ∧ w = w' := by
  go_enter Tryz.func11, Tryz.ntmps11
  go_wp2
  go_loop [3] (fun i => ∃ j : Nat, 1 ≤ j ∧ j ≤ k ∧ i = .int .i64 j) (fun i => k - (intOf i).toNat)
  case atStart => exact ⟨1, by omega, h1, rfl⟩
  case round =>
    obtain ⟨j, hj1, hj2, rfl⟩ := hrel
    by_cases hlt : j < k
    · have q : ((k : Int) == (j : Int)) = false := by rw [beq_eq_false_iff_ne]; omega
      have q2 : ∀ W : World, (binOp .eql 33 (.iface 63 (.int .i64 (k : Int))) (.iface 63 (.int .i64 (j : Int)))).run Tryz.prog W = .ok (.bool false) W := fun W => by rw [code15_eql, q]
      go_wp2
      go_round
      case rel => exact ⟨j + 1, by omega, by omega, by go_num⟩
      case measure => simp [intOf]; omega
    · obtain rfl : k = j := by omega
      have q2 : ∀ W : World, (binOp .eql 33 (.iface 63 (.int .i64 (k : Int))) (.iface 63 (.int .i64 (k : Int)))).run Tryz.prog W = .ok (.bool true) W := fun W => by rw [code15_eql, beq_self_eq_true]
      go_wp2
      go_ret
      exact ⟨rfl, rfl⟩
end Go.Proofs.YtbemaoncakcnjaaGreat

/- Images, plain: whether one may be, its bytes. No program in sight. -/
namespace Go.Proofs.YtbemaoncakcnjaaGreat

/-- A block as it was drawn. -/
structure Rk where
  o : Int
  s : Int
  u : Bool
def lenOk (n : Int) : Bool := decide (184 ≤ n) && (decide (n ≤ 16384) && (n - 184) % 16 == 0)
theorem lenOk_iff (n : Int) : lenOk n = true ↔ 184 ≤ n ∧ n ≤ 16384 ∧ (n - 184) % 16 = 0 := by simp [lenOk]
theorem lenOk_false (n : Int) : lenOk n = false ↔ ¬ (184 ≤ n ∧ n ≤ 16384 ∧ (n - 184) % 16 = 0) := by rw [← lenOk_iff]; simp
/-- Blocks that may be, from a place on, behind a free one or not. -/
def rowOk (n : Int) : Int → Bool → List Rk → Bool
  | e, _, [] => e == n
  | e, f, x :: r => (x.o == e) && (isSz x.s && (decide (x.s ≤ n - e) && (!(f && !x.u) && rowOk n (e + x.s) (!x.u) r)))
/-- As many as used blocks, each as long as what its block holds. -/
def datOk : List Rk → List (List UInt8) → Bool
  | [], d => d.isEmpty
  | x :: r, d => if x.u = true then (match d with
      | [] => false
      | y :: d' => ((y.length : Int) == x.s - 16) && datOk r d') else datOk r d
def mayI (n : Int) (l : List Rk) (d : List (List UInt8)) : Bool := lenOk n && (rowOk n 184 false l && datOk l d)
theorem rowOk_sz {n : Int} : ∀ {l : List Rk} {e : Int} {f : Bool}, rowOk n e f l = true → ∀ x ∈ l, isSz x.s = true
  | [], e, f, h, x, hx => by cases hx
  | y :: r, e, f, h, x, hx => by
    unfold rowOk at h
    simp only [Bool.and_eq_true] at h
    rcases List.mem_cons.1 hx with rfl | hx
    · exact h.2.1
    · exact rowOk_sz h.2.2.2.2 x hx
/-- Tags, sums. -/
def tagB (x : Rk) : List UInt8 := lowB 8 (packN x.s x.u)
def tagsB (l : List Rk) : List UInt8 := (l.map tagB).flatten
def sum4 (b : List UInt8) : List UInt8 := lowB 4 (moreN 0 b)
def imMarkB : List UInt8 := [67, 78, 84, 76, 1, 0, 0, 0]
def headB (n k : Nat) : List UInt8 := imMarkB ++ lowB 8 n ++ lowB 8 k
/-- With a sum behind. -/
def wSum (b : List UInt8) (k : Nat) : List UInt8 := b ++ sum4 (b.drop k)
def putA (n k : Nat) : List UInt8 := wSum (headB n k) 0
def putT (n : Nat) (l : List Rk) : List UInt8 := wSum (putA n l.length ++ tagsB l) 28
def putD (n : Nat) (l : List Rk) (d : List (List UInt8)) : List UInt8 := wSum (putT n l ++ d.flatten) (putT n l).length
def imPutB (n : Nat) (l : List Rk) (d : List (List UInt8)) : List UInt8 := wSum (putD n l d) 0
theorem sum4_len (b : List UInt8) : (sum4 b).length = 4 := lowB_length _ _
theorem headB_len (n k : Nat) : (headB n k).length = 24 := by unfold headB imMarkB; simp [lowB_length]
theorem putA_len (n k : Nat) : (putA n k).length = 28 := by unfold putA wSum; rw [List.length_append, headB_len, sum4_len]
theorem tagsB_len : ∀ l : List Rk, (tagsB l).length = 8 * l.length
  | [] => rfl
  | x :: r => by
    have ih := tagsB_len r
    unfold tagsB at ih ⊢
    rw [List.map_cons, List.flatten_cons, List.length_append, ih, List.length_cons]
    unfold tagB
    rw [lowB_length]
    omega
theorem putT_len (n : Nat) (l : List Rk) : (putT n l).length = 32 + 8 * l.length := by
  unfold putT wSum
  rw [List.length_append, List.length_append, putA_len, tagsB_len, sum4_len]
  omega
theorem take_snoc {α : Type} {l : List α} {j : Nat} {x : α} (h : l[j]? = some x) : l.take (j + 1) = l.take j ++ [x] := by
  rw [List.take_add_one, h]
  rfl
theorem tagsB_take {l : List Rk} {j : Nat} {x : Rk} (h : l[j]? = some x) : tagsB (l.take (j + 1)) = tagsB (l.take j) ++ tagB x := by
  rw [take_snoc h]
  unfold tagsB
  rw [List.map_append, List.flatten_append]
  simp
theorem flat_take {d : List (List UInt8)} {j : Nat} {x : List UInt8} (h : d[j]? = some x) : (d.take (j + 1)).flatten = (d.take j).flatten ++ x := by
  rw [take_snoc h, List.flatten_append]
  simp
theorem drop_at {α : Type} {l : List α} {j : Nat} {x : α} (h : l[j]? = some x) : l.drop j = x :: l.drop (j + 1) := by
  obtain ⟨hj, e⟩ := List.getElem?_eq_some_iff.1 h
  rw [List.drop_eq_getElem_cons hj, e]
end Go.Proofs.YtbemaoncakcnjaaGreat

/- Images in memory: blocks and bytes that came in. -/
namespace Go.Proofs.YtbemaoncakcnjaaGreat
open Go.RowKit

/-- A slice of blocks. -/
def RkRd (w : World) (B : Nat) (A : Option Addr) (l : List Rk) : Prop := 0 < l.length → ∃ b o, A = some ⟨b, o, none⟩ ∧ b < B ∧ ∀ j x, l[j]? = some x →
  w.cell? ⟨b, o + j * 3, none⟩ = some (.int .i64 x.o) ∧ w.cell? ⟨b, o + j * 3 + 1, none⟩ = some (.int .i64 x.s) ∧ w.cell? ⟨b, o + j * 3 + 2, none⟩ = some (.bool x.u) ∧
  (-9223372036854775808 ≤ x.o ∧ x.o ≤ 9223372036854775807) ∧ (-9223372036854775808 ≤ x.s ∧ x.s ≤ 9223372036854775807)
/-- A slice of slices of bytes. -/
def DtRd (w : World) (B : Nat) (A : Option Addr) (d : List (List UInt8)) : Prop := 0 < d.length → ∃ b o, A = some ⟨b, o, none⟩ ∧ b < B ∧ ∀ j y, d[j]? = some y →
  ∃ A' k, w.cell? ⟨b, o + j, none⟩ = some (.slice A' y.length k) ∧ Rd w B A' y.length y ∧ y.length ≤ maxLen ∧ y.length ≤ k ∧ (A' = none → k = 0)
section
variable {w w' : World} {B B' : Nat} {A : Option Addr} {l : List Rk} {d : List (List UInt8)}
theorem RkRd.below (h : RkRd w B A l) (hb : Below B w w') : RkRd w' B A l := fun hn => by
  obtain ⟨b, o, e, hB, hc⟩ := h hn
  refine ⟨b, o, e, hB, fun j x hx => ?_⟩
  obtain ⟨h0, h1, h2, h3⟩ := hc j x hx
  exact ⟨(hb.cell (p := ⟨b, o + j * 3, none⟩) hB).trans h0, (hb.cell (p := ⟨b, o + j * 3 + 1, none⟩) hB).trans h1, (hb.cell (p := ⟨b, o + j * 3 + 2, none⟩) hB).trans h2, h3⟩
theorem RkRd.more (h : RkRd w B A l) (hB : B ≤ B') : RkRd w B' A l := fun hn => by
  obtain ⟨b, o, e, hb, hc⟩ := h hn
  exact ⟨b, o, e, Nat.lt_of_lt_of_le hb hB, hc⟩
theorem DtRd.below (h : DtRd w B A d) (hb : Below B w w') : DtRd w' B A d := fun hn => by
  obtain ⟨b, o, e, hB, hc⟩ := h hn
  refine ⟨b, o, e, hB, fun j x hx => ?_⟩
  obtain ⟨A', k, h0, h1, h2⟩ := hc j x hx
  exact ⟨A', k, (hb.cell (p := ⟨b, o + j, none⟩) hB).trans h0, h1.below hb, h2⟩
theorem DtRd.more (h : DtRd w B A d) (hB : B ≤ B') : DtRd w B' A d := fun hn => by
  obtain ⟨b, o, e, hb, hc⟩ := h hn
  refine ⟨b, o, e, Nat.lt_of_lt_of_le hb hB, fun j x hx => ?_⟩
  obtain ⟨A', k, h0, h1, h2⟩ := hc j x hx
  exact ⟨A', k, h0, h1.more hB, h2⟩
end
theorem below_dN (w : World) (k : Nat) : Below w.heap.size w (w.drewN k) := ⟨rfl, rfl, rfl, Nat.le_refl _, fun _ _ => rfl⟩
/-- An operation whose guard says no. -/
theorem tail_no {P : Program} {ops : Array Oper} {Q : Exit → Act → World → Prop} {i B : Nat} {o : Oper} {a : Act} {w : World} {K : Act → World → Prop} (ho : ops[i]? = some o) (d : Option Tmp) (hd : o.dst = d) (hw : Region.wanted o (yielded ops a.tmps) = false) (hk : K (a.put d undef) w) : wpOp P ops Q i (fun a'' w'' => Below B w w'' ∧ K a'' w'') a w := by
  subst hd
  unfold wpOp
  simp only [ho]
  rw [if_neg (by rw [hw]; decide)]
  exact ⟨Below.refl _ _, hk⟩
/-- An image's value. -/
def imV (n : Int) (A1 : Option Addr) (ll k1 : Nat) (A2 : Option Addr) (dl k2 : Nat) : Value := .agg #[.int .i64 n, .slice A1 ll k1, .slice A2 dl k2]
end Go.Proofs.YtbemaoncakcnjaaGreat

/- The program's images: May (layer 15). -/
namespace Go.Proofs.YtbemaoncakcnjaaGreat
open Go.RowKit

theorem rk_cells {w : World} {x0 x1 x2 : Value} {g : Nat} {t : TypeId} (h : w.heap[g]? = some (.cells #[x0, x1, x2] t (0, 0))) :
    w.cell? ⟨g, 0, none⟩ = some x0 ∧ w.cell? ⟨g, 1, none⟩ = some x1 ∧ w.cell? ⟨g, 2, none⟩ = some x2 := by
  refine ⟨?_, ?_, ?_⟩
  · rw [cell_of_row w g 0 _ _ (0, 0) h]; rfl
  · rw [cell_of_row w g 1 _ _ (0, 0) h]; rfl
  · rw [cell_of_row w g 2 _ _ (0, 0) h]; rfl
theorem heap_lt1 {w : World} {g : Nat} {cs : Array Value} {t : TypeId} (h : w.heap[g]? = some (.cells cs t (0, 0))) : g < w.heap.size := by
  rcases Nat.lt_or_ge g w.heap.size with h' | h'
  · exact h'
  · rw [Array.getElem?_eq_none h'] at h; cases h
/-- Len, as a number of 64 bits. -/
def u64N (n : Int) : Nat := (n % 18446744073709551616).toNat
theorem lenOk_u64 (n : Int) (hn : -9223372036854775808 ≤ n ∧ n ≤ 9223372036854775807) : lenOk ((u64N n : Nat) : Int) = lenOk n := by
  unfold u64N
  rcases Int.lt_or_le n 0 with h | h
  · have e1 : lenOk n = false := (lenOk_false n).2 (by omega)
    rw [e1]
    exact (lenOk_false _).2 (by omega)
  · rw [Int.emod_eq_of_lt h (by omega), Int.toNat_of_nonneg h]
set_option maxRecDepth 100000 in
set_option maxHeartbeats 400000 in
theorem imlen_any (w : World) (v : Nat) (hv : v < 18446744073709551616) (b : Bool) (hb : lenOk (v : Int) = b) :
    Calls Tryz.prog 77 #[.int .u64 (v : Int)] w fun e w' => e = .returned (.bool b) ∧ w = w' := by
  by_cases h1 : 184 ≤ v
  · by_cases h2 : v ≤ 16384
    · by_cases h3 : (v - 184) % 16 = 0
      · obtain rfl : true = b := by rw [← hb]; exact ((lenOk_iff _).2 (by omega)).symm
        clear hb
        go_enter Tryz.func77, Tryz.ntmps77
        go_wp2
        go_ret
        exact ⟨ret_bool (by rw [beq_iff_eq]; omega), rfl⟩
      · obtain rfl : false = b := by rw [← hb]; exact ((lenOk_false _).2 (by omega)).symm
        clear hb
        go_enter Tryz.func77, Tryz.ntmps77
        go_wp2
        go_ret
        exact ⟨ret_bool (by rw [beq_eq_false_iff_ne]; omega), rfl⟩
    · obtain rfl : false = b := by rw [← hb]; exact ((lenOk_false _).2 (by omega)).symm
      clear hb
      go_enter Tryz.func77, Tryz.ntmps77
      go_wp2
      go_ret
      exact ⟨rfl, rfl⟩
  · obtain rfl : false = b := by rw [← hb]; exact ((lenOk_false _).2 (by omega)).symm
    clear hb
    go_enter Tryz.func77, Tryz.ntmps77
    go_wp2
    go_ret
    exact ⟨rfl, rfl⟩
set_option maxRecDepth 100000 in
set_option maxHeartbeats 4000000 in
theorem imrow_any (w : World) (A : Option Addr) (k1 : Nat) (l : List Rk) (hr : RkRd w w.heap.size A l) (hl : l.length ≤ 1000000) (n : Int) (hn : 184 ≤ n ∧ n ≤ 16384) (y : Bool) (hy : rowOk n 184 false l = y) :
    Calls Tryz.prog 78 #[.slice A l.length k1, .int .i64 n] w fun e w' => e = .returned (.bool y) ∧ Below w.heap.size w w' := by
  have HR := Lib.hid hr
  have HY := Lib.hid hy
  obtain ⟨m, hm⟩ : ∃ m, l.length = m := ⟨_, rfl⟩
  rw [hm] at hl ⊢
  have HM := Lib.hid hm
  clear hr hy hm
  go_enter Tryz.func78, Tryz.ntmps78
  go_wp2
  go_loopw [5, 6, 11] (fun e f t wr => ∃ (j : Nat) (z : Int) (b : Bool), t = .int .i64 (j : Int) ∧ e = .int .i64 z ∧ f = .bool b ∧ j ≤ m ∧ (184 ≤ z ∧ z ≤ n) ∧ rowOk n z b (l.drop j) = y ∧ Below w.heap.size w wr) (fun _ _ t _ => m - (intOf t).toNat)
  case atStart => exact ⟨0, 184, false, rfl, rfl, rfl, Nat.zero_le _, ⟨Int.le_refl _, hn.1⟩, HY.out, Below.refl _ _⟩
  case round =>
    obtain ⟨j, z, b, rfl, rfl, rfl, hj, hz, hyy, hb⟩ := hrel
    by_cases hlt : j < m
    · obtain ⟨x, hx⟩ : ∃ x, l[j]? = some x := ⟨l[j]'(by rw [HM.out]; exact hlt), List.getElem?_eq_getElem _⟩
      obtain ⟨b2, o, rfl, hbb, hcl⟩ := HR.out (by rw [HM.out]; omega)
      obtain ⟨p0, p1, p2, hxo, hxs⟩ := hcl j x hx
      have r0 := (hb.cell (p := ⟨b2, o + j * 3, none⟩) hbb).trans p0
      have r1 := (hb.cell (p := ⟨b2, o + j * 3 + 1, none⟩) hbb).trans p1
      have r2 := (hb.cell (p := ⟨b2, o + j * 3 + 2, none⟩) hbb).trans p2
      rw [drop_at hx] at hyy
      unfold rowOk at hyy
      obtain ⟨xo, xs, xu⟩ := x
      dsimp only at p0 p1 p2 r0 r1 r2 hyy hxo hxs
      obtain ⟨w4, hw4⟩ : ∃ w4, wr.alloc (.cells #[.int .i64 xo, .int .i64 xs, .bool xu] 51) = w4 := ⟨_, rfl⟩
      have hb4 : Below w.heap.size w w4 := by rw [← hw4]; exact hb.alloc hb.size _
      have n4 : w4.heap[wr.heap.size]? = some (.cells #[.int .i64 xo, .int .i64 xs, .bool xu] 51 (0, 0)) := by rw [← hw4]; exact heap_alloc_new wr _
      obtain ⟨d0, d1, d2⟩ := rk_cells n4
      have hl4 := heap_lt1 n4
      have HW4 := Lib.hid hw4
      have HB4 := Lib.hid hb4
      have HYY := Lib.hid hyy
      clear hx hb p0 p1 p2 hb4 n4 hw4 hcl hyy
      by_cases ho : xo = z
      · have g0 : (xo != z) = false := by rw [bne_eq_false_iff_eq]; exact ho
        obtain ⟨pk, hpk⟩ : ∃ pk, packN xs xu = pk := ⟨_, rfl⟩
        have HPK := Lib.hid (fun W => tpack_any (w := W) xs xu hxs pk hpk)
        by_cases hsz : isSz xs = true
        · have h3 := (isSz_iff _).1 hsz
          have hpk0 : pk ≠ 0 := by
            rw [← hpk]; unfold packN; rw [if_pos hsz]; omega
          have g1 : ((pk : Int) == 0) = false := by rw [beq_eq_false_iff_ne]; omega
          by_cases hle : xs ≤ n - z
          · have g2 : decide (n - z < xs) = false := decide_eq_false (by omega)
            by_cases hfu : b = true ∧ xu = false
            · obtain ⟨rfl, rfl⟩ := hfu
              have HF : Hid (y = false) := (show y = false by
                have e := HYY.out
                simp at e
                first | exact e.symm | exact e)
              clear hsz h3 hpk ho
              go_wp2_with (first | (rw [HW4.out]) | fail)
              refine (HPK.out _).mono ?_
              rintro e w5 ⟨rfl, rfl⟩
              go_wp2
              go_ret
              exact ⟨ret_bool HF.out.symm, HB4.out⟩
            · have HF : Hid (rowOk n (z + xs) (!xu) (l.drop (j + 1)) = y) := (show _ = y by
                have e := HYY.out
                have e1 : (b && !xu) = false := by
                  cases b <;> cases xu <;> first | rfl | exact absurd ⟨rfl, rfl⟩ hfu
                have e2 : (xo == z) = true := by rw [beq_iff_eq]; exact ho
                rw [e2, hsz, decide_eq_true hle, e1] at e
                simpa using e)
              clear hsz hpk ho
              cases b <;> cases xu
              all_goals first | exact absurd ⟨rfl, rfl⟩ hfu | skip
              all_goals
                clear hfu
                go_wp2_with (first | (rw [HW4.out]) | fail)
                refine (HPK.out _).mono ?_
                rintro e w5 ⟨rfl, rfl⟩
                go_wp2_with fail
                go_quiet (fail)
                go_wp2
                go_roundw
                case rel => exact ⟨j + 1, z + xs, _, by go_num, by go_num, rfl, by omega, by omega, HF.out, HB4.out.trans ((below_dN _ _).mono HB4.out.size)⟩
                case measure => simp only [intOf]; omega
          · have g2 : decide (n - z < xs) = true := decide_eq_true (by omega)
            have HF : Hid (y = false) := (show y = false by
              have e := HYY.out
              rw [decide_eq_false hle] at e
              simp at e
              first | exact e.symm | exact e)
            clear hsz hpk ho
            go_wp2_with (first | (rw [HW4.out]) | fail)
            refine (HPK.out _).mono ?_
            rintro e w5 ⟨rfl, rfl⟩
            go_wp2
            go_ret
            exact ⟨ret_bool HF.out.symm, HB4.out⟩
        · have hpk0 : pk = 0 := by rw [← hpk]; unfold packN; rw [if_neg hsz]
          subst hpk0
          have HF : Hid (y = false) := (show y = false by
            have e := HYY.out
            have hs2 : isSz xs = false := by simpa using hsz
            rw [hs2] at e
            simp at e
            first | exact e.symm | exact e)
          clear hsz hpk ho
          go_wp2_with (first | (rw [HW4.out]) | fail)
          refine (HPK.out _).mono ?_
          rintro e w5 ⟨rfl, rfl⟩
          go_wp2
          go_ret
          exact ⟨ret_bool HF.out.symm, HB4.out⟩
      · have g0 : (xo != z) = true := by rw [bne_iff_ne]; exact ho
        have HF : Hid (y = false) := (show y = false by
          have e := HYY.out
          have e2 : (xo == z) = false := by rw [beq_eq_false_iff_ne]; exact ho
          rw [e2] at e
          simp at e
          first | exact e.symm | exact e)
        clear ho
        go_wp2_with (first | (rw [HW4.out]) | fail)
        go_ret
        exact ⟨ret_bool HF.out.symm, HB4.out⟩
    · have hd : l.drop j = [] := List.drop_eq_nil_of_le (by rw [HM.out]; omega)
      rw [hd] at hyy
      unfold rowOk at hyy
      have HYY := Lib.hid hyy
      have HBB := Lib.hid hb
      clear hyy hb hd
      go_wp2
      go_ret
      exact ⟨ret_bool HYY.out, HBB.out⟩
set_option maxHeartbeats 400000 in
theorem imheld_any (w : World) (o s : Int) (u : Bool) (hs : isSz s = true) :
    Calls Tryz.prog 27 #[.agg #[.int .i64 o, .int .i64 s, .bool u]] w fun e w' => e = .returned (.int .i64 (s - 16)) ∧ Below w.heap.size w w' := by
  have h3 := (isSz_iff _).1 hs
  obtain ⟨w1, hw1⟩ : ∃ w1, w.alloc (.cells #[.int .i64 o, .int .i64 s, .bool u] 51) = w1 := ⟨_, rfl⟩
  have hb1 : Below w.heap.size w w1 := by rw [← hw1]; exact (Below.refl _ _).alloc (Nat.le_refl _) _
  have n1 : w1.heap[w.heap.size]? = some (.cells #[.int .i64 o, .int .i64 s, .bool u] 51 (0, 0)) := by rw [← hw1]; exact heap_alloc_new w _
  obtain ⟨_, d1, _⟩ := rk_cells n1
  have hl := heap_lt1 n1
  have HW1 := Lib.hid hw1
  have HB1 := Lib.hid hb1
  clear hw1 hb1 n1 hs
  go_enter Tryz.func27, Tryz.ntmps27
  go_wp2_with (first | (rw [HW1.out]) | fail)
  go_ret
  exact ⟨rfl, HB1.out⟩
set_option maxRecDepth 100000 in
set_option maxHeartbeats 4000000 in
theorem imdat_any (w : World) (A1 A2 : Option Addr) (k1 k2 : Nat) (l : List Rk) (d : List (List UInt8)) (hr : RkRd w w.heap.size A1 l) (hd : DtRd w w.heap.size A2 d) (hl : l.length ≤ 1000000) (hdl : d.length ≤ 1000000) (hs : ∀ x ∈ l, isSz x.s = true) (y : Bool) (hy : datOk l d = y) :
    Calls Tryz.prog 79 #[.slice A2 d.length k2, .slice A1 l.length k1] w fun e w' => e = .returned (.bool y) ∧ Below w.heap.size w w' := by
  have HR := Lib.hid hr
  have HD := Lib.hid hd
  have HY := Lib.hid hy
  have HS := Lib.hid hs
  obtain ⟨m, hm⟩ : ∃ m, l.length = m := ⟨_, rfl⟩
  obtain ⟨n, hn⟩ : ∃ n, d.length = n := ⟨_, rfl⟩
  rw [hm] at hl ⊢
  rw [hn] at hdl ⊢
  have HM := Lib.hid hm
  have HN := Lib.hid hn
  clear hr hd hy hs hm hn
  go_enter Tryz.func79, Tryz.ntmps79
  go_wp2
  go_loopw [5, 10] (fun v t wr => ∃ (j i : Nat), t = .int .i64 (j : Int) ∧ v = .int .i64 (i : Int) ∧ j ≤ m ∧ i ≤ n ∧ datOk (l.drop j) (d.drop i) = y ∧ Below w.heap.size w wr) (fun _ t _ => m - (intOf t).toNat)
  case atStart => exact ⟨0, 0, rfl, rfl, Nat.zero_le _, Nat.zero_le _, HY.out, Below.refl _ _⟩
  case round =>
    obtain ⟨j, i, rfl, rfl, hj, hi, hyy, hb⟩ := hrel
    by_cases hlt : j < m
    · obtain ⟨x, hx⟩ : ∃ x, l[j]? = some x := ⟨l[j]'(by rw [HM.out]; exact hlt), List.getElem?_eq_getElem _⟩
      obtain ⟨b2, o, rfl, hbb, hcl⟩ := HR.out (by rw [HM.out]; omega)
      obtain ⟨p0, p1, p2, hxo, hxs⟩ := hcl j x hx
      have r0 := (hb.cell (p := ⟨b2, o + j * 3, none⟩) hbb).trans p0
      have r1 := (hb.cell (p := ⟨b2, o + j * 3 + 1, none⟩) hbb).trans p1
      have r2 := (hb.cell (p := ⟨b2, o + j * 3 + 2, none⟩) hbb).trans p2
      have hsx := HS.out x (List.mem_of_getElem? hx)
      rw [drop_at hx] at hyy
      unfold datOk at hyy
      obtain ⟨xo, xs, xu⟩ := x
      dsimp only at p0 p1 p2 r0 r1 r2 hyy hxo hxs hsx
      obtain ⟨w4, hw4⟩ : ∃ w4, wr.alloc (.cells #[.int .i64 xo, .int .i64 xs, .bool xu] 51) = w4 := ⟨_, rfl⟩
      have hb4 : Below w.heap.size w w4 := by rw [← hw4]; exact hb.alloc hb.size _
      have n4 : w4.heap[wr.heap.size]? = some (.cells #[.int .i64 xo, .int .i64 xs, .bool xu] 51 (0, 0)) := by rw [← hw4]; exact heap_alloc_new wr _
      obtain ⟨d0, d1, d2⟩ := rk_cells n4
      have hl4 := heap_lt1 n4
      have HW4 := Lib.hid hw4
      have HB4 := Lib.hid hb4
      have HYY := Lib.hid hyy
      have HN4 := Lib.hid n4
      clear hx hb p0 p1 p2 hb4 n4 hw4 hcl hyy
      cases xu with
      | false =>
        have HF : Hid (datOk (l.drop (j + 1)) (d.drop i) = y) := (show _ = y from by
          have e := HYY.out
          rw [if_neg (by decide)] at e
          exact e)
        go_wp2_with (first | (rw [HW4.out]) | fail)
        go_roundw
        case rel => exact ⟨j + 1, i, by go_num, rfl, by omega, hi, HF.out, HB4.out⟩
        case measure => simp only [intOf]; omega
      | true =>
        by_cases hin : i = n
        · have g0 : ((i : Int) == (n : Int)) = true := by rw [beq_iff_eq]; omega
          have HF : Hid (y = false) := (show y = false from by
            have e := HYY.out
            rw [if_pos rfl, List.drop_eq_nil_of_le (by rw [HN.out]; omega)] at e
            exact e.symm)
          obtain ⟨wd, hwd⟩ : ∃ wd, w4.drew = wd := ⟨_, rfl⟩
          have HWD := Lib.hid hwd
          have HBD : Hid (Below w.heap.size w wd) := (show Below _ _ _ by rw [← hwd]; exact HB4.out.drew)
          clear hwd
          go_wp2_with (first | (rw [HW4.out]) | fail)
          refine wp_region_tail wd.heap.size [([0, 1, 2, 3, 4, 5, 6, 7, 8, 9, 10], 11)] [12, 13] [] (by kernel_rfl) (by kernel_rfl) (by kernel_rfl) (fun _ _ _ _ _ h => h) ?_
          rw [HWD.out]
          refine tail_cons (l := ?segA) ?hsegA ?_
          case hsegA => simp only [pick, List.getElem?_toArray, List.getElem?_cons_succ, List.getElem?_cons_zero]; rfl
          repeat (go_big_quiet_step (fail))
          refine wpQuiet_nil ?_
          refine tail_no rfl (some 28) rfl rfl ⟨wd.heap.size, Nat.le_refl _, ?_⟩
          simp only [Act.put, List.setIfInBounds_toArray, List.set_cons_zero, List.set_cons_succ]
          refine tail_last (l := ?lastA) (t := []) ?hlastA ?htlastA ?_
          case hlastA => simp only [pick, List.getElem?_toArray, List.getElem?_cons_succ, List.getElem?_cons_zero]; rfl
          case htlastA => rfl
          repeat (go_big_quiet_step (fail))
          refine wpQuiet_nil ?_
          go_wp2
          go_ret
          exact ⟨ret_bool HF.out.symm, HBD.out⟩
        · have g0 : ((i : Int) == (n : Int)) = false := by rw [beq_eq_false_iff_ne]; omega
          have hi2 : (i : Int) < (n : Int) := by omega
          obtain ⟨z, hz⟩ : ∃ z, d[i]? = some z := ⟨d[i]'(by rw [HN.out]; omega), List.getElem?_eq_getElem _⟩
          obtain ⟨b3, o3, rfl, hb3, hc3⟩ := HD.out (by rw [HN.out]; omega)
          obtain ⟨A', kz, z0, _, zl, _, _⟩ := hc3 i z hz
          obtain ⟨zn, hzn⟩ : ∃ zn, z.length = zn := ⟨_, rfl⟩
          rw [hzn] at z0 zl
          unfold maxLen at zl
          obtain ⟨wd, hwd⟩ : ∃ wd, w4.drew = wd := ⟨_, rfl⟩
          have hwb : Below w4.heap.size w4 wd := by rw [← hwd]; exact (Below.refl _ _).drew
          have hbd := HB4.out.trans (hwb.mono HB4.out.size)
          have nd := (hwb.block _ (heap_lt1 HN4.out)).trans HN4.out
          have zd := (hbd.cell (p := ⟨b3, o3 + i, none⟩) hb3).trans z0
          have l3 : b3 < wd.heap.size := Nat.lt_of_lt_of_le hb3 hbd.size
          obtain ⟨e0, e1, e2⟩ := rk_cells nd
          have le := heap_lt1 nd
          have hyy := HYY.out
          rw [if_pos rfl, drop_at hz] at hyy
          dsimp only at hyy
          rw [hzn] at hyy
          have HYZ := Lib.hid hyy
          have HHELD := Lib.hid (imheld_any wd xo xs true hsx)
          have HWD := Lib.hid hwd
          have HBD := Lib.hid hbd
          clear hwd hwb hbd nd hyy hz hc3 z0
          by_cases hzz : (zn : Int) = xs - 16
          · have g1 : ((zn : Int) != xs - 16) = false := by rw [bne_eq_false_iff_eq]; exact hzz
            have HF : Hid (datOk (l.drop (j + 1)) (d.drop (i + 1)) = y) := (show _ = y from by
              have e := HYZ.out
              have e2 : ((zn : Int) == xs - 16) = true := by rw [beq_iff_eq]; exact hzz
              rw [e2, Bool.true_and] at e
              exact e)
            clear hzz
            go_wp2_with (first | (rw [HW4.out]) | fail)
            refine wp_region_tail wd.heap.size [([0, 1, 2, 3, 4, 5, 6, 7, 8, 9, 10], 11)] [12, 13] [] (by kernel_rfl) (by kernel_rfl) (by kernel_rfl) (fun _ _ _ _ _ h => h) ?_
            rw [HWD.out]
            have q0 : ∀ z : LaterB wd.heap.size wd, z.val.cell? ⟨b3, o3 + i, none⟩ = some (.slice A' zn kz) := fun z => (z.ext.cell (p := ⟨b3, o3 + i, none⟩) l3).trans zd
            have q1 : ∀ z : LaterB wd.heap.size wd, z.val.cell? ⟨wr.heap.size, 0, none⟩ = some (.int .i64 xo) := fun z => (z.ext.cell (p := ⟨wr.heap.size, 0, none⟩) le).trans e0
            have q2 : ∀ z : LaterB wd.heap.size wd, z.val.cell? ⟨wr.heap.size, 1, none⟩ = some (.int .i64 xs) := fun z => (z.ext.cell (p := ⟨wr.heap.size, 1, none⟩) le).trans e1
            have q3 : ∀ z : LaterB wd.heap.size wd, z.val.cell? ⟨wr.heap.size, 2, none⟩ = some (.bool true) := fun z => (z.ext.cell (p := ⟨wr.heap.size, 2, none⟩) le).trans e2
            refine tail_cons (l := ?segB) ?hsegB ?_
            case hsegB => simp only [pick, List.getElem?_toArray, List.getElem?_cons_succ, List.getElem?_cons_zero]; rfl
            repeat (go_big_quiet_step (fail))
            refine wpQuiet_nil ?_
            clear q0 q1 q2 q3
            refine tail_call (vs := #[.agg #[.int .i64 xo, .int .i64 xs, .bool true]]) Tryz.call27 rfl rfl rfl (R := fun r w' => r = .int .i64 (xs - 16) ∧ Below wd.heap.size wd w') (HHELD.out.mono ?_) wd.heap.size (Nat.le_refl _) ?_
            · rintro e w' ⟨rfl, hb⟩
              exact ⟨_, rfl, hb, rfl, hb⟩
            rintro r w5 hb5 ⟨rfl, _⟩
            have HB5 := Lib.hid (HBD.out.trans (hb5.mono HBD.out.size))
            clear hb5
            simp only [Act.put, List.setIfInBounds_toArray, List.set_cons_zero, List.set_cons_succ]
            refine tail_last (l := ?lastB) (t := []) ?hlastB ?htlastB ?_
            case hlastB => simp only [pick, List.getElem?_toArray, List.getElem?_cons_succ, List.getElem?_cons_zero]; rfl
            case htlastB => rfl
            repeat (go_big_quiet_step (fail))
            refine wpQuiet_nil ?_
            go_wp2
            go_roundw
            case rel => exact ⟨j + 1, i + 1, by go_num, by go_num, by omega, by omega, HF.out, HB5.out⟩
            case measure => simp only [intOf]; omega
          · have g1 : ((zn : Int) != xs - 16) = true := by rw [bne_iff_ne]; exact hzz
            have HF : Hid (y = false) := (show y = false from by
              have e := HYZ.out
              have e2 : ((zn : Int) == xs - 16) = false := by rw [beq_eq_false_iff_ne]; exact hzz
              rw [e2, Bool.false_and] at e
              exact e.symm)
            clear hzz
            go_wp2_with (first | (rw [HW4.out]) | fail)
            refine wp_region_tail wd.heap.size [([0, 1, 2, 3, 4, 5, 6, 7, 8, 9, 10], 11)] [12, 13] [] (by kernel_rfl) (by kernel_rfl) (by kernel_rfl) (fun _ _ _ _ _ h => h) ?_
            rw [HWD.out]
            have q0 : ∀ z : LaterB wd.heap.size wd, z.val.cell? ⟨b3, o3 + i, none⟩ = some (.slice A' zn kz) := fun z => (z.ext.cell (p := ⟨b3, o3 + i, none⟩) l3).trans zd
            have q1 : ∀ z : LaterB wd.heap.size wd, z.val.cell? ⟨wr.heap.size, 0, none⟩ = some (.int .i64 xo) := fun z => (z.ext.cell (p := ⟨wr.heap.size, 0, none⟩) le).trans e0
            have q2 : ∀ z : LaterB wd.heap.size wd, z.val.cell? ⟨wr.heap.size, 1, none⟩ = some (.int .i64 xs) := fun z => (z.ext.cell (p := ⟨wr.heap.size, 1, none⟩) le).trans e1
            have q3 : ∀ z : LaterB wd.heap.size wd, z.val.cell? ⟨wr.heap.size, 2, none⟩ = some (.bool true) := fun z => (z.ext.cell (p := ⟨wr.heap.size, 2, none⟩) le).trans e2
            refine tail_cons (l := ?segC) ?hsegC ?_
            case hsegC => simp only [pick, List.getElem?_toArray, List.getElem?_cons_succ, List.getElem?_cons_zero]; rfl
            repeat (go_big_quiet_step (fail))
            refine wpQuiet_nil ?_
            clear q0 q1 q2 q3
            refine tail_call (vs := #[.agg #[.int .i64 xo, .int .i64 xs, .bool true]]) Tryz.call27 rfl rfl rfl (R := fun r w' => r = .int .i64 (xs - 16) ∧ Below wd.heap.size wd w') (HHELD.out.mono ?_) wd.heap.size (Nat.le_refl _) ?_
            · rintro e w' ⟨rfl, hb⟩
              exact ⟨_, rfl, hb, rfl, hb⟩
            rintro r w5 hb5 ⟨rfl, _⟩
            have HB5 := Lib.hid (HBD.out.trans (hb5.mono HBD.out.size))
            clear hb5
            simp only [Act.put, List.setIfInBounds_toArray, List.set_cons_zero, List.set_cons_succ]
            refine tail_last (l := ?lastC) (t := []) ?hlastC ?htlastC ?_
            case hlastC => simp only [pick, List.getElem?_toArray, List.getElem?_cons_succ, List.getElem?_cons_zero]; rfl
            case htlastC => rfl
            repeat (go_big_quiet_step (fail))
            refine wpQuiet_nil ?_
            go_wp2
            go_ret
            exact ⟨ret_bool HF.out.symm, HB5.out⟩
    · have hdn : l.drop j = [] := List.drop_eq_nil_of_le (by rw [HM.out]; omega)
      rw [hdn] at hyy
      unfold datOk at hyy
      have HYY := Lib.hid hyy
      have HBB := Lib.hid hb
      clear hyy hb hdn
      go_wp2
      go_ret
      exact ⟨ret_bool (by
        rw [← HYY.out]
        by_cases hin : i = n
        · rw [List.drop_eq_nil_of_le (by rw [HN.out]; omega)]
          rw [List.isEmpty_nil, beq_iff_eq]; omega
        · have e : ((i : Int) == (n : Int)) = false := by rw [beq_eq_false_iff_ne]; omega
          rw [e]
          cases hd2 : d.drop i with
          | nil => have := congrArg List.length hd2; rw [List.length_drop, HN.out] at this; simp at this; omega
          | cons _ _ => rfl), HBB.out⟩
end Go.Proofs.YtbemaoncakcnjaaGreat

/- The program's images: May, the whole. -/
namespace Go.Proofs.YtbemaoncakcnjaaGreat
open Go.RowKit

theorem u64N_cast (n : Int) : ((u64N n : Nat) : Int) = n % 18446744073709551616 := by unfold u64N; omega
set_option maxRecDepth 100000 in
set_option maxHeartbeats 1000000 in
theorem immay_any (w : World) (n : Int) (hn : -9223372036854775808 ≤ n ∧ n ≤ 9223372036854775807) (A1 A2 : Option Addr) (k1 k2 : Nat) (l : List Rk) (d : List (List UInt8)) (hr : RkRd w w.heap.size A1 l) (hd : DtRd w w.heap.size A2 d) (hl : l.length ≤ 1000000) (hdl : d.length ≤ 1000000) (y : Bool) (hy : mayI n l d = y) :
    Calls Tryz.prog 45 #[imV n A1 l.length k1 A2 d.length k2] w fun e w' => e = .returned (.bool y) ∧ Below w.heap.size w w' := by
  unfold imV
  obtain ⟨w1, hw1⟩ : ∃ w1, w.alloc (.cells #[.int .i64 n, .slice A1 l.length k1, .slice A2 d.length k2] 31) = w1 := ⟨_, rfl⟩
  have hb1 : Below w.heap.size w w1 := by rw [← hw1]; exact (Below.refl _ _).alloc (Nat.le_refl _) _
  have n1 : w1.heap[w.heap.size]? = some (.cells #[.int .i64 n, .slice A1 l.length k1, .slice A2 d.length k2] 31 (0, 0)) := by rw [← hw1]; exact heap_alloc_new w _
  obtain ⟨d0, d1, d2⟩ := rk_cells n1
  have hl1 := heap_lt1 n1
  have HLEN : Hid (∀ W, Calls Tryz.prog 77 #[.int .u64 (n % 18446744073709551616)] W fun e w' => e = .returned (.bool (lenOk n)) ∧ W = w') := fun W => by
    have h := imlen_any W (u64N n) (by unfold u64N; omega) (lenOk n) (lenOk_u64 n hn)
    rw [u64N_cast] at h
    exact h
  have HB1 := Lib.hid hb1
  have HR := Lib.hid hr
  have HD := Lib.hid hd
  have HY := Lib.hid hy
  obtain ⟨ll, hll⟩ : ∃ ll, l.length = ll := ⟨_, rfl⟩
  obtain ⟨dl, hdll⟩ : ∃ dl, d.length = dl := ⟨_, rfl⟩
  have HROW : Hid (lenOk n = true → Calls Tryz.prog 78 #[.slice A1 ll k1, .int .i64 n] w1 fun e w' => e = .returned (.bool (rowOk n 184 false l)) ∧ Below w1.heap.size w1 w') := fun hk => by
    have h3 := (lenOk_iff n).1 hk
    have := imrow_any w1 A1 k1 l ((hr.below hb1).more hb1.size) hl n ⟨h3.1, h3.2.1⟩ _ rfl
    rw [hll] at this
    exact this
  have HDAT : Hid (∀ W, Below w.heap.size w W → rowOk n 184 false l = true → Calls Tryz.prog 79 #[.slice A2 dl k2, .slice A1 ll k1] W fun e w' => e = .returned (.bool (datOk l d)) ∧ Below W.heap.size W w') := fun W hW hk => by
    have := imdat_any W A1 A2 k1 k2 l d ((hr.below hW).more hW.size) ((hd.below hW).more hW.size) hl hdl (rowOk_sz hk) _ rfl
    rw [hll, hdll] at this
    exact this
  rw [hll] at d1
  rw [hdll] at d2
  rw [hll, hdll]
  rw [hll, hdll] at hw1 n1
  have HN1 := Lib.hid n1
  have HW1 := Lib.hid hw1
  clear hw1 hb1 n1 hr hd hy hll hdll
  cases hlo : lenOk n with
  | false =>
    have HF : Hid (false = y) := (show false = y by rw [← HY.out]; unfold mayI; rw [hlo]; rfl)
    rw [hlo] at HLEN
    clear hlo
    go_enter Tryz.func45, Tryz.ntmps45
    go_wp2_with (first | (rw [HW1.out]) | fail)
    refine (HLEN.out _).mono ?_
    rintro e w2 ⟨rfl, rfl⟩
    go_wp2
    go_ret
    exact ⟨ret_bool HF.out, HB1.out⟩
  | true =>
    have HROW2 := Lib.hid (HROW.out hlo)
    rw [hlo] at HLEN
    cases hro : rowOk n 184 false l with
    | false =>
      have HF : Hid (false = y) := (show false = y by rw [← HY.out]; unfold mayI; rw [hlo, hro]; rfl)
      rw [hro] at HROW2
      clear hlo hro
      go_enter Tryz.func45, Tryz.ntmps45
      go_wp2_with (first | (rw [HW1.out]) | fail)
      refine (HLEN.out _).mono ?_
      rintro e w2 ⟨rfl, rfl⟩
      go_wp2_with fail
      refine HROW2.out.mono ?_
      rintro e w2 ⟨rfl, hb2⟩
      have HF2 := Lib.hid (HB1.out.trans (hb2.mono HB1.out.size))
      clear hb2
      go_wp2
      go_ret
      exact ⟨ret_bool HF.out, HF2.out⟩
    | true =>
      have HDAT2 := Lib.hid (fun W hW => HDAT.out W hW hro)
      have HF : Hid (datOk l d = y) := (show datOk l d = y by rw [← HY.out]; unfold mayI; rw [hlo, hro]; rfl)
      rw [hro] at HROW2
      clear hlo hro
      go_enter Tryz.func45, Tryz.ntmps45
      go_wp2_with (first | (rw [HW1.out]) | fail)
      refine (HLEN.out _).mono ?_
      rintro e w2 ⟨rfl, rfl⟩
      go_wp2_with fail
      refine HROW2.out.mono ?_
      rintro e w2 ⟨rfl, hb2⟩
      have hb02 := HB1.out.trans (hb2.mono HB1.out.size)
      have HD3 := Lib.hid (HDAT2.out w2 hb02)
      have n2 := (hb2.block _ (heap_lt1 HN1.out)).trans HN1.out
      obtain ⟨e0, e1, e2⟩ := rk_cells n2
      have hl2 := heap_lt1 n2
      have HF2 := Lib.hid hb02
      clear hb2 hb02 n2
      go_wp2_with fail
      refine HD3.out.mono ?_
      rintro e w3 ⟨rfl, hb3⟩
      have HF3 := Lib.hid (HF2.out.trans (hb3.mono HF2.out.size))
      clear hb3
      go_wp2
      go_ret
      exact ⟨ret_bool HF.out, HF3.out⟩
end Go.Proofs.YtbemaoncakcnjaaGreat

/- The program's images: slices.Grow of nothing, slices.Concat, bytes with their sum behind. -/
namespace Go.Proofs.YtbemaoncakcnjaaGreat
open Go.RowKit

theorem u8_inf4 : (Tryz.prog.info? 5).map (fun i => (i.zero, i.size, i.bytes)) = some (some (.int .u8 0), 1, 1) := by kernel_rfl
theorem own_head {w : World} {B n c : Nat} {A : Option Addr} {xs : List Value} {t : TypeId} (h : w.ownsRow B t 1 (.slice A n c) n xs) (hn : 0 < n) : w.ownsRow B t 1 (.slice A 0 c) 0 [] := by
  rcases h.2 with ⟨_, h0⟩ | ⟨g, cap, cur, hv, hg, hh, hnc, hcm, hcs, ht⟩
  · omega
  · injection hv with e1 e2 e3
    subst e1 e3
    exact ⟨rfl, .inr ⟨g, c, cur, rfl, hg, hh, Nat.zero_le _, hcm, hcs, by simp⟩⟩
set_option maxRecDepth 100000 in
set_option maxHeartbeats 400000 in
theorem sgrow_any (w : World) (n : Nat) (hn : n ≤ 1000000) :
    Calls Tryz.prog 80 #[.slice none 0 0, .int .i64 (n : Int)] w fun e w' => ∃ A c, e = .returned (.slice A 0 c) ∧ w'.ownsRow w.heap.size 5 1 (.slice A 0 c) 0 (([] : List UInt8).map bv) ∧ Below w.heap.size w w' := by
  by_cases h0 : n = 0
  · subst h0
    go_enter Tryz.func80, Tryz.ntmps80
    go_wp2
    go_ret
    exact ⟨none, 0, rfl, World.ownsRow_nil _ _ _ _, Below.refl _ _⟩
  · obtain ⟨A', c', w2, hr, hown, hgr, _⟩ := run_append_zeros (P := Tryz.prog) w 23 3 23 5 .i64 Tryz.underlying23 Tryz.underlying3 u8_inf4 w.heap.size none 0 [] (World.ownsRow_nil _ _ _ _) n (by simp; omega) (Nat.le_refl _)
    simp only [List.length_nil, Nat.zero_add] at hr hown
    have hfin : w2.ownsRow w.heap.size 5 1 (.slice A' 0 c') 0 (([] : List UInt8).map bv) := own_head hown (by omega)
    have hbel : Below w.heap.size w w2 := (Below.refl _ _).grown hgr (Nat.le_refl _) (fun k hk => by cases hk)
    have hnc : n ≤ c' := by
      rcases hown.2 with ⟨_, h'⟩ | ⟨g, cap, cur, hv, _, _, h', _⟩
      · omega
      · injection hv with _ _ e3
        subst e3
        exact h'
    have hA : ∃ g, A' = some ⟨g, 0, none⟩ := by
      rcases hown.2 with ⟨_, h'⟩ | ⟨g, cap, cur, hv, _⟩
      · omega
      · injection hv with e1 _ _
        exact ⟨g, e1⟩
    obtain ⟨g, rfl⟩ := hA
    have h1 : decide (0 < n) = true := decide_eq_true (by omega)
    have HR := Lib.hid hr
    have HF := Lib.hid hfin
    have HB := Lib.hid hbel
    clear hr hfin hbel hown hgr h0
    go_enter Tryz.func80, Tryz.ntmps80
    go_wp2_with (at_builtin; refine Lib.wpList_append_run _ rfl (.tmp 20) (.tmp 21) 23 3 rfl _ _ rfl rfl _ _ HR.out ?_)
    go_ret
    exact ⟨some ⟨g, 0, none⟩, c', rfl, HF.out, HB.out⟩
theorem flat_len_take (d : List (List UInt8)) (j : Nat) : (d.take j).flatten.length ≤ d.flatten.length := by
  have h := congrArg (fun l : List (List UInt8) => l.flatten.length) (List.take_append_drop j d)
  simp only [List.flatten_append, List.length_append] at h
  omega
set_option maxRecDepth 100000 in
set_option maxHeartbeats 2000000 in
theorem concat_any (w : World) (A : Option Addr) (k : Nat) (d : List (List UInt8)) (hd : DtRd w w.heap.size A d) (hl : d.length ≤ 1000) (hs : d.flatten.length ≤ 1000000) :
    Calls Tryz.prog 46 #[.slice A d.length k] w fun e w' => ∃ v, e = .returned v ∧ w'.ownsRow w.heap.size 5 1 v d.flatten.length (d.flatten.map bv) ∧ Below w.heap.size w w' := by
  have HD := Lib.hid hd
  have HS := Lib.hid (fun j => Nat.le_trans (flat_len_take d j) hs)
  have HGR := Lib.hid (sgrow_any w d.flatten.length hs)
  obtain ⟨m, hm⟩ : ∃ m, d.length = m := ⟨_, rfl⟩
  rw [hm] at hl ⊢
  have HM := Lib.hid hm
  obtain ⟨sz, hsz⟩ : ∃ sz, d.flatten.length = sz := ⟨_, rfl⟩
  rw [hsz] at HGR hs ⊢
  have HSZ := Lib.hid hsz
  clear hd hm hsz
  go_enter Tryz.func46, Tryz.ntmps46
  go_wp2
  go_loopw [3, 11] (fun v t wr => ∃ (j s : Nat), t = .int .i64 (j : Int) ∧ v = .int .i64 (s : Int) ∧ j ≤ m ∧ s = (d.take j).flatten.length ∧ w = wr) (fun _ t _ => m - (intOf t).toNat)
  case atStart => exact ⟨0, 0, rfl, rfl, Nat.zero_le _, rfl, rfl⟩
  case round =>
    obtain ⟨j, s, rfl, rfl, hj, hss, rfl⟩ := hrel
    by_cases hlt : j < m
    · obtain ⟨y, hy⟩ : ∃ y, d[j]? = some y := ⟨d[j]'(by rw [HM.out]; exact hlt), List.getElem?_eq_getElem _⟩
      obtain ⟨b, o, rfl, hb, hc⟩ := HD.out (by rw [HM.out]; omega)
      obtain ⟨A', k', c0, _⟩ := hc j y hy
      obtain ⟨n, hn⟩ : ∃ n, y.length = n := ⟨_, rfl⟩
      rw [hn] at c0
      have hs1 := HS.out (j + 1)
      rw [flat_take hy, List.length_append, hn, ← hss] at hs1
      have HN : Hid (s + n = (d.take (j + 1)).flatten.length) := (show _ = _ by rw [flat_take hy, List.length_append, hn, ← hss])
      have h0 : decide ((s : Int) + (n : Int) < 0) = false := decide_eq_false (by omega)
      clear hc hy hn hss
      go_wp2
      go_roundw
      case rel => exact ⟨j + 1, s + n, by go_num, by go_num, by omega, HN.out, trivial⟩
      case measure => simp only [intOf]; omega
    · have e : s = sz := by rw [hss, List.take_of_length_le (by rw [HM.out]; omega), HSZ.out]
      subst e
      clear hss
      go_wp2_with fail
      refine HGR.out.mono ?_
      rintro e w2 ⟨A2, c2, rfl, hown2, hb2⟩
      have HO2 := Lib.hid hown2
      have HB2 := Lib.hid hb2
      clear hown2 hb2 HGR
      go_wp2
      go_loopw [6, 27] (fun v t wr => ∃ (j : Nat), t = .int .i64 (j : Int) ∧ j ≤ m ∧ wr.ownsRow w.heap.size 5 1 v (d.take j).flatten.length ((d.take j).flatten.map bv) ∧ Below w.heap.size w wr) (fun _ t _ => m - (intOf t).toNat)
      case atStart => exact ⟨0, rfl, Nat.zero_le _, HO2.out, HB2.out⟩
      case round =>
        obtain ⟨i, rfl, hi, hown, hb⟩ := hrel
        by_cases hlt2 : i < m
        · obtain ⟨y, hy⟩ : ∃ y, d[i]? = some y := ⟨d[i]'(by rw [HM.out]; exact hlt2), List.getElem?_eq_getElem _⟩
          obtain ⟨b, o, rfl, hbb, hc⟩ := HD.out (by rw [HM.out]; omega)
          obtain ⟨A', k', c0, hrd, _, _, hA⟩ := hc i y hy
          have c1 := (hb.cell (p := ⟨b, o + i, none⟩) hbb).trans c0
          have hs1 := HS.out (i + 1)
          rw [flat_take hy, List.length_append] at hs1
          have HFL := Lib.hid (flat_take hy)
          have HRD := Lib.hid ((hrd.below hb).more hb.size)
          obtain ⟨n, hn⟩ : ∃ n, y.length = n := ⟨_, rfl⟩
          have HYN := Lib.hid hn
          obtain ⟨q, hq⟩ : ∃ q, (d.take i).flatten.length = q := ⟨_, rfl⟩
          rw [hq] at hown hs1
          have HQ := Lib.hid hq
          rw [hn] at c0 c1 hs1 HRD
          have HO := Lib.hid hown
          have HB := Lib.hid hb
          clear hc hy hn hown hb hrd hq
          go_wp2_with (first
            | (at_builtin; go_must (refine append_bytes rfl (.tmp 31) (.tmp 32) 23 5 rfl Tryz.underlying23 u8_inf4 w.heap.size _ q (d.take i).flatten rfl HO.out _ A' n k' y rfl HRD.out hA (by omega) HB.out.size ?_); intro x4 w4 own4 hb4 _;
               have HX4 : Hid (w4.ownsRow w.heap.size 5 1 x4 (q + n) (((d.take i).flatten ++ y).map bv) ∧ Below w.heap.size w w4) := ⟨own4, HB.out.trans hb4⟩; clear own4 hb4)
            | fail)
          go_roundw
          case rel =>
            refine ⟨i + 1, by go_num, by omega, ?_, HX4.out.2⟩
            rw [HFL.out, List.length_append, HQ.out, HYN.out]
            exact HX4.out.1
          case measure => simp only [intOf]; omega
        · have e : d.take i = d := List.take_of_length_le (by rw [HM.out]; omega)
          rw [e, HSZ.out] at hown
          have HO := Lib.hid hown
          have HB := Lib.hid hb
          clear hown hb e
          go_wp2
          go_ret
          exact ⟨_, rfl, HO.out, HB.out⟩
set_option maxRecDepth 100000 in
set_option maxHeartbeats 1000000 in
/-- b, and the sum of what it has from an index on. -/
theorem wsum_any (w : World) (B : Nat) (v : Value) (b : List UInt8) (n j : Nat) (hn : b.length = n) (hown : w.ownsRow B 5 1 v n (b.map bv)) (hB : B ≤ w.heap.size) (hj : j ≤ n) (hn0 : 0 < n) (hl : n ≤ 900000) :
    Calls Tryz.prog 48 #[v, .int .i64 (j : Int)] w fun e w' => ∃ v', e = .returned v' ∧ w'.ownsRow B 5 1 v' (n + 4) ((wSum b j).map bv) ∧ Below B w w' := by
  obtain ⟨g, c, rfl, hnc, hrd⟩ := own_rd hown hn0
  have hcm : c ≤ 9223372036854775807 := by
    rcases hown.2 with ⟨_, h'⟩ | ⟨g, cap, cur, hv, _, _, _, h', _⟩
    · omega
    · injection hv with _ _ e3
      subst e3
      unfold maxLen at h'
      exact h'
  have hdl : (b.drop j).length = n - j := by rw [List.length_drop, hn]
  obtain ⟨s, hs⟩ : ∃ s, moreN 0 (b.drop j) = s := ⟨_, rfl⟩
  have hs32 : s < 4294967296 := by rw [← hs]; exact moreN_lt _ _
  have hfin : b ++ lowB 4 s = wSum b j := by unfold wSum sum4; rw [hs]
  have HP4 := Lib.hid (put4_any s w hs32)
  have HOWN := Lib.hid hown
  have HFIN := Lib.hid hfin
  have HSUM : Hid (∀ A2 c2, Rd w w.heap.size A2 (n - j) (b.drop j) → Calls Tryz.prog 83 #[.slice A2 (n - j) c2] w fun e w' => e = .returned (.int .u32 (s : Int)) ∧ w = w') := fun A2 c2 h => by
    have := sum_any A2 (n - j) c2 _ _ w h (by omega)
    rw [hs] at this
    exact this
  by_cases hjc : j < c
  · have HR : Hid (Rd w w.heap.size (some ⟨g, j, none⟩) (n - j) (b.drop j)) := (show Rd _ _ _ _ _ by
      have h := hrd.sub j (n - j) (by omega)
      rw [List.take_of_length_le (by rw [hdl]; exact Nat.le_refl _), Nat.zero_add] at h
      exact h)
    have HS := Lib.hid (HSUM.out _ (c - j) HR.out)
    have h1 : (j : Int) < (c : Int) := by omega
    clear hown hrd hdl hs hfin HSUM
    go_enter Tryz.func48, Tryz.ntmps48
    go_wp2_with fail
    refine HS.out.mono ?_
    rintro e w2 ⟨rfl, rfl⟩
    go_wp2_with fail
    refine HP4.out.mono ?_
    rintro e w2 ⟨rfl, hf, hb⟩
    have HRD : Hid (Rd w2 w2.heap.size (some ⟨w.heap.size, 0, none⟩) 4 (lowB 4 s)) := (show Rd _ _ _ _ _ by
      have := hf.reads
      rw [lowB_length] at this
      exact this)
    have HO2 := Lib.hid (own_below HOWN.out hb)
    have HB2 := Lib.hid hb
    have HBS := Lib.hid (Nat.le_trans hB hb.size)
    clear hf hb
    go_wp2_with (first
      | (at_builtin; go_must (refine append_bytes rfl (.tmp 5) (.tmp 10) 23 5 rfl Tryz.underlying23 u8_inf4 B _ n b rfl HO2.out _ (some ⟨w.heap.size, 0, none⟩) 4 4 (lowB 4 s) rfl HRD.out (fun e => by cases e) (by omega) HBS.out ?_); intro x4 w4 own4 hb4 _;
         have HX4 : Hid (w4.ownsRow B 5 1 x4 (n + 4) ((b ++ lowB 4 s).map bv) ∧ Below B w w4) := ⟨own4, (HB2.out.mono hB).trans hb4⟩; clear own4 hb4)
      | fail)
    go_ret
    exact ⟨_, rfl, HFIN.out ▸ HX4.out.1, HX4.out.2⟩
  · obtain rfl : n = j := by omega
    obtain rfl : n = c := by omega
    have HR : Hid (Rd w w.heap.size (some ⟨g, 0, none⟩) (n - n) (b.drop n)) := (show Rd _ _ _ _ _ by
      have : b.drop n = [] := List.eq_nil_of_length_eq_zero (by rw [hdl]; omega)
      rw [this, Nat.sub_self]
      exact Rd.nil_)
    have HS := Lib.hid (HSUM.out _ (n - n) HR.out)
    rw [Nat.sub_self] at HS
    clear hown hrd hdl hs hfin HSUM
    go_enter Tryz.func48, Tryz.ntmps48
    go_wp2_with fail
    refine HS.out.mono ?_
    rintro e w2 ⟨rfl, rfl⟩
    go_wp2_with fail
    refine HP4.out.mono ?_
    rintro e w2 ⟨rfl, hf, hb⟩
    have HRD : Hid (Rd w2 w2.heap.size (some ⟨w.heap.size, 0, none⟩) 4 (lowB 4 s)) := (show Rd _ _ _ _ _ by
      have := hf.reads
      rw [lowB_length] at this
      exact this)
    have HO2 := Lib.hid (own_below HOWN.out hb)
    have HB2 := Lib.hid hb
    have HBS := Lib.hid (Nat.le_trans hB hb.size)
    clear hf hb
    go_wp2_with (first
      | (at_builtin; go_must (refine append_bytes rfl (.tmp 5) (.tmp 10) 23 5 rfl Tryz.underlying23 u8_inf4 B _ n b rfl HO2.out _ (some ⟨w.heap.size, 0, none⟩) 4 4 (lowB 4 s) rfl HRD.out (fun e => by cases e) (by omega) HBS.out ?_); intro x4 w4 own4 hb4 _;
         have HX4 : Hid (w4.ownsRow B 5 1 x4 (n + 4) ((b ++ lowB 4 s).map bv) ∧ Below B w w4) := ⟨own4, (HB2.out.mono hB).trans hb4⟩; clear own4 hb4)
      | fail)
    go_ret
    exact ⟨_, rfl, HFIN.out ▸ HX4.out.1, HX4.out.2⟩
end Go.Proofs.YtbemaoncakcnjaaGreat

/- The document's images: May (genimg5.py). -/
namespace Go.Proofs.YtbemaoncakcnjaaGreat
open Go.RowKit

end Go.Proofs.YtbemaoncakcnjaaGreat

/- The document's images: Put (genimg6.py). -/
namespace Go.Proofs.YtbemaoncakcnjaaGreat
open Go.RowKit

theorem own_stay {w w' : World} {B' base n size : Nat} {t : TypeId} {v : Value} {xs : List Value} (h : w.ownsRow base t size v n xs) (hb : Below B' w w') (hlt : ∀ k, v.ownBlock = some k → k < B') : w'.ownsRow base t size v n xs := by
  refine ⟨h.1, ?_⟩
  rcases h.2 with h2 | ⟨g, cap, cur, hv, hg, hh, r⟩
  · exact .inl h2
  · exact .inr ⟨g, cap, cur, hv, hg, (hb.block g (hlt g (by rw [hv]; rfl))).trans hh, r⟩
theorem own_off {w w' : World} {base n size : Nat} {t : TypeId} {v : Value} {xs : List Value} {r : Option Nat} (h : w.ownsRow base t size v n xs) (hg : w.grownBy w' r) (hne : ∀ k, v.ownBlock = some k → r ≠ some k) : w'.ownsRow base t size v n xs := by
  refine ⟨h.1, ?_⟩
  rcases h.2 with h2 | ⟨g, cap, cur, hv, hb, hh, q⟩
  · exact .inl h2
  · have hk : v.ownBlock = some g := by rw [hv]; rfl
    refine .inr ⟨g, cap, cur, hv, hb, ?_, q⟩
    obtain ⟨_, _, _, _, h5⟩ := hg
    exact (h5 g (h.lt g hk).2 (fun e => hne g hk e.symm)).trans hh
theorem own_lift {w : World} {base base' n size : Nat} {t : TypeId} {v : Value} {xs : List Value} (h : w.ownsRow base t size v n xs) (hb : base' ≤ base) : w.ownsRow base' t size v n xs := by
  refine ⟨h.1, ?_⟩
  rcases h.2 with h2 | ⟨g, cap, cur, hv, hg, r⟩
  · exact .inl h2
  · exact .inr ⟨g, cap, cur, hv, Nat.le_trans hb hg, r⟩
theorem own_slc {w : World} {base n size : Nat} {t : TypeId} {v : Value} {xs : List Value} (h : w.ownsRow base t size v n xs) : ∃ A c, v = .slice A n c ∧ (A = none → c = 0) := by
  rcases h.2 with ⟨rfl, h0⟩ | ⟨g, cap, cur, rfl, _⟩
  · exact ⟨none, 0, by rw [h0], fun _ => rfl⟩
  · exact ⟨_, cap, rfl, fun e => by cases e⟩
/-- An own row, as bytes. -/
theorem own_reads {w : World} {base n c : Nat} {A : Option Addr} {bs : List UInt8} (h : w.ownsRow base 5 1 (.slice A n c) n (bs.map bv)) : Rd w w.heap.size A n bs := by
  obtain ⟨A', c', e, _, hr⟩ := own_any h
  injection e with e1 _ _
  subst e1
  exact hr
theorem putD_parts (n : Nat) (l : List Rk) (d : List (List UInt8)) : putT n l ++ d.flatten ++ sum4 d.flatten = putD n l d := by
  unfold putD wSum
  rw [List.drop_left' rfl]
theorem putB_parts (n : Nat) (l : List Rk) (d : List (List UInt8)) : putD n l d ++ sum4 (putD n l d) = imPutB n l d := by unfold imPutB wSum; rw [List.drop_zero]
theorem putD_len (n : Nat) (l : List Rk) (d : List (List UInt8)) : (putD n l d).length = 36 + 8 * l.length + d.flatten.length := by
  rw [← putD_parts, List.length_append, List.length_append, putT_len, sum4_len]; omega
theorem imPutB_len (n : Nat) (l : List Rk) (d : List (List UInt8)) : (imPutB n l d).length = 40 + 8 * l.length + d.flatten.length := by
  rw [← putB_parts, List.length_append, putD_len, sum4_len]; omega
theorem tagsB_tl (l : List Rk) (j : Nat) : (tagsB (l.take j)).length ≤ 8 * l.length := by rw [tagsB_len, List.length_take]; omega
end Go.Proofs.YtbemaoncakcnjaaGreat

/- The program's images: Put (genimg7.py). -/
namespace Go.Proofs.YtbemaoncakcnjaaGreat
open Go.RowKit

section
variable {P : Program}
/-- '[]byte("..")' of a constant: the row's end is marked; its cells are as they were. -/
theorem conv_mark (v : World) (t e : TypeId) (g : Nat) (C : Array Value) (n c : Nat) (ht : P.underlying t = some (.slice e)) (he : P.underlying e = some (.int .u8)) (hg : v.heap[g]? = some (.cells C e (0, 0))) :
    ∃ v', (convert t t (.slice (some ⟨g, 0, none⟩) n c)).run P v = .ok (.slice (some ⟨g, 0, none⟩) n c) v' ∧ v'.heap[g]? = some (.cells C e (C.size, C.size + 1)) ∧ v'.heap.size = v.heap.size ∧ (∀ k, k ≠ g → v'.heap[k]? = v.heap[k]?) ∧ ∀ B, B ≤ g → Below B v v' := by
  have hsh : v.shape? g = some (e, C.size) := by
    unfold World.shape?
    rw [hg]
  refine ⟨v.freeze ⟨g, C.size, none⟩ 1, ?_, ?_, ?_, fun k hk => ?_, fun B hB => ?_⟩
  · simp [convert, run_underlying ht, run_underlying he, markStringish, hsh]
  · unfold World.freeze
    rw [if_neg (by decide)]
    show (v.heap.modify g _)[g]? = _
    rw [Array.getElem?_modify, if_pos rfl, hg]
    rfl
  · unfold World.freeze
    rw [if_neg (by decide)]
    simp
  · unfold World.freeze
    rw [if_neg (by decide)]
    show (v.heap.modify g _)[k]? = _
    rw [Array.getElem?_modify, if_neg (fun e => hk e.symm)]
  · unfold World.freeze
    rw [if_neg (by decide)]
    refine ⟨rfl, rfl, rfl, by simp, fun k hk => ?_⟩
    show (v.heap.modify g _)[k]? = _
    rw [Array.getElem?_modify, if_neg (by omega)]
theorem conv_run {o : Oper} {a : Act} {w w1 : World} {f t : TypeId} {x : Operand} {V V' : Value} (ho : o.op = .convert f t x) (hx : a.eval x = V) (h : (convert f t V).run P w = .ok V' w1) : (execOp a.eval o).run P w = .ok (.value V') w1 := by
  unfold execOp
  simp only [ho]
  rw [hx, Sem.run_bind, h]
  rfl
end
theorem fill_mark {w : World} {g : Nat} {t : TypeId} {fz : Nat × Nat} {bs : List UInt8} (h : w.heap[g]? = some (.cells (rowB bs) t fz)) : Rd w w.heap.size (some ⟨g, 0, none⟩) bs.length bs := by
  have hlt : g < w.heap.size := by
    rcases Nat.lt_or_ge g w.heap.size with h' | h'
    · exact h'
    · rw [Array.getElem?_eq_none h'] at h; cases h
  refine ⟨rfl, fun _ => ⟨g, 0, rfl, hlt, fun j u hu => ?_⟩⟩
  rw [Nat.zero_add, cell_of_row w g j _ _ fz h]
  unfold rowB
  simp [hu]
  rfl
theorem heap_ltz {w : World} {g : Nat} {cs : Array Value} {t : TypeId} {fz : Nat × Nat} (h : w.heap[g]? = some (.cells cs t fz)) : g < w.heap.size := by
  rcases Nat.lt_or_ge g w.heap.size with h' | h'
  · exact h'
  · rw [Array.getElem?_eq_none h'] at h; cases h
theorem run_mark (w : World) : (Instr.buildSlice 23 8 #[(0, .int .u8 67), (1, .int .u8 78), (2, .int .u8 84), (3, .int .u8 76), (4, .int .u8 1), (5, .int .u8 0), (6, .int .u8 0), (7, .int .u8 0)]).run Tryz.prog w = .ok (.slice (some ⟨w.heap.size, 0, none⟩) 8 8) (w.alloc (.cells (rowB imMarkB) 5)) := by
  have e : rowB imMarkB = #[.int .u8 67, .int .u8 78, .int .u8 84, .int .u8 76, .int .u8 1, .int .u8 0, .int .u8 0, .int .u8 0] := by rfl
  rw [e]
  simp [go_sem]
theorem run_three (w : World) (A B C : Option Addr) (a b c d e f : Nat) : (Instr.buildSlice 29 3 #[(0, .slice A a b), (1, .slice B c d), (2, .slice C e f)]).run Tryz.prog w = .ok (.slice (some ⟨w.heap.size, 0, none⟩) 3 3) (w.alloc (.cells #[.slice A a b, .slice B c d, .slice C e f] 23)) := by
  simp [go_sem]
/-- Three slices in a row of their own. -/
theorem three_rd {w : World} {g : Nat} {A B C : Option Addr} {a b c : Nat} {x y z : List UInt8} (hg : w.heap[g]? = some (.cells #[.slice A x.length a, .slice B y.length b, .slice C z.length c] 23 (0, 0)))
    (hx : Rd w w.heap.size A x.length x) (hy : Rd w w.heap.size B y.length y) (hz : Rd w w.heap.size C z.length z) (ha : x.length ≤ a ∧ (A = none → a = 0)) (hb : y.length ≤ b ∧ (B = none → b = 0)) (hc : z.length ≤ c ∧ (C = none → c = 0)) (hl : x.length ≤ maxLen ∧ y.length ≤ maxLen ∧ z.length ≤ maxLen) :
    DtRd w w.heap.size (some ⟨g, 0, none⟩) [x, y, z] := fun _ => by
  obtain ⟨c0, c1, c2⟩ := rk_cells hg
  refine ⟨g, 0, rfl, heap_lt1 hg, fun j u hu => ?_⟩
  match j, hu with
  | 0, hu => injection hu with hu; subst hu; exact ⟨A, a, c0, hx, hl.1, ha⟩
  | 1, hu => injection hu with hu; subst hu; exact ⟨B, b, c1, hy, hl.2.1, hb⟩
  | 2, hu => injection hu with hu; subst hu; exact ⟨C, c, c2, hz, hl.2.2, hc⟩
  | j + 3, hu => cases hu
set_option maxRecDepth 100000 in
set_option maxHeartbeats 8000000 in
theorem imput_ok (w : World) (n : Nat) (hn : n < 9223372036854775808) (A1 A2 : Option Addr) (k1 k2 : Nat) (l : List Rk) (d : List (List UInt8)) (hr : RkRd w w.heap.size A1 l) (hd : DtRd w w.heap.size A2 d) (hl : l.length ≤ 1000) (hdl : d.length ≤ 1000) (hfl : d.flatten.length ≤ 100000) (hm : mayI (n : Int) l d = true) :
    Calls Tryz.prog 17 #[imV (n : Int) A1 l.length k1 A2 d.length k2] w fun e w' => ∃ A c, e = .returned (.tuple #[.slice A (imPutB n l d).length c, .nilIface]) ∧ w'.ownsRow w.heap.size 5 1 (.slice A (imPutB n l d).length c) (imPutB n l d).length ((imPutB n l d).map bv) ∧ Below w.heap.size w w' := by
  rw [imPutB_len]
  have HPT := Lib.hid (fun j => tagsB_tl l j)
  have HFT := Lib.hid (fun j => Nat.le_trans (flat_len_take d j) hfl)
  have HTL := Lib.hid (tagsB_len l)
  obtain ⟨fl, hfl'⟩ : ∃ fl, d.flatten.length = fl := ⟨_, rfl⟩
  rw [hfl'] at hfl
  rw [hfl']
  have HFL := Lib.hid hfl'
  have HAL := Lib.hid (putA_len n l.length)
  have HTTL := Lib.hid (putT_len n l)
  have HDL2 := Lib.hid (putD_len n l d)
  obtain ⟨w1, hw1⟩ : ∃ w1, w.alloc (.cells #[.int .i64 (n : Int), .slice A1 l.length k1, .slice A2 d.length k2] 31) = w1 := ⟨_, rfl⟩
  have hb1 : Below w.heap.size w w1 := by rw [← hw1]; exact (Below.refl _ _).alloc (Nat.le_refl _) _
  have n1 : w1.heap[w.heap.size]? = some (.cells #[.int .i64 (n : Int), .slice A1 l.length k1, .slice A2 d.length k2] 31 (0, 0)) := by rw [← hw1]; exact heap_alloc_new w _
  have HM := Lib.hid (immay_any w1 (n : Int) (by omega) A1 A2 k1 k2 l d ((hr.below hb1).more hb1.size) ((hd.below hb1).more hb1.size) (by omega) (by omega) _ hm)
  unfold imV at HM ⊢
  obtain ⟨ll, hll⟩ : ∃ ll, l.length = ll := ⟨_, rfl⟩
  obtain ⟨dl, hdll⟩ : ∃ dl, d.length = dl := ⟨_, rfl⟩
  have HLL := Lib.hid hll
  have HDLL := Lib.hid hdll
  have HPTE : Hid (wSum (putA n ll ++ tagsB l) 28 = putT n l) := (show _ = _ by rw [← hll]; rfl)
  obtain ⟨T, hT⟩ : ∃ T, (putT n l).length = T := ⟨_, rfl⟩
  have HTL2 := Lib.hid hT
  have HPDE : Hid (wSum (putT n l ++ d.flatten) T = putD n l d) := (show _ = _ by rw [← hT]; rfl)
  have HTE : Hid (28 + 8 * ll + 4 = T) := (show _ = _ by rw [← hT, putT_len, hll]; omega)
  rw [hll] at hl HPT HTL HAL HTTL HDL2
  rw [hfl'] at HDL2
  rw [hdll] at hdl
  rw [hll, hdll] at n1 hw1 HM
  rw [hll, hdll]
  obtain ⟨d0, d1, d2⟩ := rk_cells n1
  have hl1 := heap_lt1 n1
  have HB1 := Lib.hid hb1
  have HW1 := Lib.hid hw1
  have HR := Lib.hid ((hr.below hb1).more hb1.size)
  have HD := Lib.hid ((hd.below hb1).more hb1.size)
  have HN1 := Lib.hid n1
  clear hw1 hb1 n1 hr hd hll hdll hfl' hm
  go_enter Tryz.func17, Tryz.ntmps17
  go_wp2_with (first | (rw [HW1.out]) | fail)
  refine HM.out.mono ?_
  rintro e w2 ⟨rfl, hb2⟩
  obtain ⟨wd, hwd⟩ : ∃ wd, w2.drew = wd := ⟨_, rfl⟩
  have hbd : Below w1.heap.size w1 wd := by rw [← hwd]; exact hb2.drew
  have nd := (hbd.block _ (heap_lt1 HN1.out)).trans HN1.out
  obtain ⟨c0, c1, c2⟩ := rk_cells nd
  have hld := heap_lt1 nd
  have HBD := Lib.hid hbd
  have HWD := Lib.hid hwd
  have HND := Lib.hid nd
  have HPUT := Lib.hid (fun W v (hv : v < 18446744073709551616) => put_any v W hv)
  clear hb2 hwd hbd nd d0 d1 d2 HM
  go_wp2_with fail
  go_cut [4] from 10 (fun b wx => wx.ownsRow wd.heap.size 5 1 b 24 ((headB n ll).map bv) ∧ Below wd.heap.size wd wx)
  case first =>
    refine wp_region_plan wd.heap.size (.two [2, 3, 4, 6, 7, 8, 9] 0 (.two [] 1 (.one [] 5 (.one [] 10 (.one [] 11 (.one [] 12 (.fin [13]))))) 5 (.two [] 1 (.one [] 10 (.one [] 11 (.one [] 12 (.fin [13])))) 10 (.one [] 1 (.one [] 11 (.one [] 12 (.fin [13])))))) 5 (.two [] 0 (.two [] 1 (.one [] 10 (.one [] 11 (.one [] 12 (.fin [13])))) 10 (.one [] 1 (.one [] 11 (.one [] 12 (.fin [13]))))) 10 (.one [] 0 (.one [] 1 (.one [] 11 (.one [] 12 (.fin [13]))))))) [] (by kernel_rfl) (by kernel_rfl) (by kernel_rfl) (fun _ _ _ _ _ h => h) ?_
    rw [HWD.out]
    have q0 : ∀ z : LaterB wd.heap.size wd, z.val.cell? ⟨w.heap.size, 0, none⟩ = some (.int .i64 (n : Int)) := fun z => (z.ext.cell (p := ⟨w.heap.size, 0, none⟩) hld).trans c0
    have q1 : ∀ z : LaterB wd.heap.size wd, z.val.cell? ⟨w.heap.size, 1, none⟩ = some (.slice A1 ll k1) := fun z => (z.ext.cell (p := ⟨w.heap.size, 1, none⟩) hld).trans c1
    have cb0 : Below wd.heap.size wd wd := Below.refl _ _
    refine plan_two (l := ?segA) ?hsegA ?_
    case hsegA => simp only [pick, List.getElem?_toArray, List.getElem?_cons_succ, List.getElem?_cons_zero]; rfl
    repeat (go_big_quiet_step (fail))
    refine wpQuiet_nil ?_
    clear q0 q1
    refine ⟨?wayWa, ?wayWb⟩
    case wayWa =>
      refine tail_val2 (some 14) (w1 := wd.alloc (.cells (rowB imMarkB) 5)) (v := .slice (some ⟨wd.heap.size, 0, none⟩) 8 8) rfl rfl rfl (bslice_run rfl rfl (run_mark wd)) ((Below.refl _ _).alloc cb0.size _) ⟨wd.heap.size, Nat.le_refl _, ?_⟩
      obtain ⟨v1, hv1⟩ : ∃ v1, wd.alloc (.cells (rowB imMarkB) 5) = v1 := ⟨_, rfl⟩
      have hbv1 : Below wd.heap.size wd v1 := by rw [← hv1]; exact (Below.refl _ _).alloc (Nat.le_refl _) _
      have fmv1 : v1.heap[wd.heap.size]? = some (.cells (rowB imMarkB) 5 (0, 0)) := by rw [← hv1]; exact heap_alloc_new wd _
      have cb1 : Below wd.heap.size wd v1 := cb0.trans (hbv1.mono cb0.size)
      have lmv1 : wd.heap.size ≤ wd.heap.size := cb0.size
      have lsv1 : wd.heap.size < v1.heap.size := heap_ltz fmv1
      rw [hv1]
      clear hv1
      simp only [Act.put, List.setIfInBounds_toArray, List.set_cons_zero, List.set_cons_succ]
      refine plan_two (l := []) rfl (wpQuiet_nil ?_)
      refine ⟨?wayWaa, ?wayWab⟩
      case wayWaa =>
        obtain ⟨v2, hrv2, fmv2, szv2, kpv2, blv2⟩ := conv_mark (P := Tryz.prog) v1 23 5 wd.heap.size (rowB imMarkB) 8 8 Tryz.underlying23 Tryz.underlying5 fmv1
        refine tail_val2 (some 15) rfl rfl rfl (conv_run rfl rfl hrv2) (blv2 wd.heap.size lmv1) ⟨wd.heap.size, Nat.le_refl _, ?_⟩
        have cb2 : Below wd.heap.size wd v2 := cb1.trans (blv2 wd.heap.size lmv1)
        have lsv2 : v2.heap.size = v1.heap.size := szv2
        clear hrv2
        simp only [Act.put, List.setIfInBounds_toArray, List.set_cons_zero, List.set_cons_succ]
        refine plan_one (l := []) rfl (wpQuiet_nil ?_)
        refine tail_call (vs := #[.int .u64 (n : Int)]) Tryz.call47 rfl rfl rfl (R := fun r w' => r = .slice (some ⟨v2.heap.size, 0, none⟩) 8 8 ∧ w'.heap[v2.heap.size]? = some (.cells (rowB (lowB 8 n)) 5 (0, 0)) ∧ Below v2.heap.size v2 w') ((HPUT.out v2 n (by omega)).mono ?_) wd.heap.size (Nat.le_refl _) ?_
        · rintro e w' ⟨rfl, hf, hb⟩
          exact ⟨_, rfl, hb.mono cb2.size, rfl, hf, hb⟩
        rintro r v3 _ ⟨rfl, flv3, hbv3⟩
        have lsv3 : v2.heap.size < v3.heap.size := heap_ltz flv3
        have cb3 : Below wd.heap.size wd v3 := cb2.trans (hbv3.mono cb2.size)
        have ff1 := ((hbv3.block _ (heap_ltz fmv2)).trans fmv2)
        simp only [Act.put, List.setIfInBounds_toArray, List.set_cons_zero, List.set_cons_succ]
        refine plan_one (l := []) rfl (wpQuiet_nil ?_)
        refine tail_call (vs := #[.int .u64 (ll : Int)]) Tryz.call47 rfl rfl rfl (R := fun r w' => r = .slice (some ⟨v3.heap.size, 0, none⟩) 8 8 ∧ w'.heap[v3.heap.size]? = some (.cells (rowB (lowB 8 ll)) 5 (0, 0)) ∧ Below v3.heap.size v3 w') ((HPUT.out v3 ll (by omega)).mono ?_) wd.heap.size (Nat.le_refl _) ?_
        · rintro e w' ⟨rfl, hf, hb⟩
          exact ⟨_, rfl, hb.mono cb3.size, rfl, hf, hb⟩
        rintro r v4 _ ⟨rfl, fcv4, hbv4⟩
        have lsv4 : v3.heap.size < v4.heap.size := heap_ltz fcv4
        have cb4 : Below wd.heap.size wd v4 := cb3.trans (hbv4.mono cb3.size)
        have ff2 := ((hbv4.block _ (heap_ltz ff1)).trans ff1)
        have ff3 := ((hbv4.block _ (heap_ltz flv3)).trans flv3)
        simp only [Act.put, List.setIfInBounds_toArray, List.set_cons_zero, List.set_cons_succ]
        refine plan_one (l := []) rfl (wpQuiet_nil ?_)
        obtain ⟨w8, hw8⟩ : ∃ w8, v4.alloc (.cells #[.slice (some ⟨wd.heap.size, 0, none⟩) 8 8, .slice (some ⟨v2.heap.size, 0, none⟩) 8 8, .slice (some ⟨v3.heap.size, 0, none⟩) 8 8] 23) = w8 := ⟨_, rfl⟩
        have hb8 : Below v4.heap.size v4 w8 := by rw [← hw8]; exact (Below.refl _ _).alloc (Nat.le_refl _) _
        have n8 : w8.heap[v4.heap.size]? = some (.cells #[.slice (some ⟨wd.heap.size, 0, none⟩) 8 8, .slice (some ⟨v2.heap.size, 0, none⟩) 8 8, .slice (some ⟨v3.heap.size, 0, none⟩) 8 8] 23 (0, 0)) := by rw [← hw8]; exact heap_alloc_new v4 _
        have hd8 : DtRd w8 w8.heap.size (some ⟨v4.heap.size, 0, none⟩) [imMarkB, lowB 8 n, lowB 8 ll] := by
          refine three_rd (a := 8) (b := 8) (c := 8) (A := some ⟨wd.heap.size, 0, none⟩) (B := some ⟨v2.heap.size, 0, none⟩) (C := some ⟨v3.heap.size, 0, none⟩) ?_ ?_ ?_ ?_ ⟨Nat.le_refl _, fun e => by cases e⟩ ⟨by rw [lowB_length]; exact Nat.le_refl _, fun e => by cases e⟩ ⟨by rw [lowB_length]; exact Nat.le_refl _, fun e => by cases e⟩ ⟨by unfold maxLen imMarkB; simp, by rw [lowB_length]; unfold maxLen; omega, by rw [lowB_length]; unfold maxLen; omega⟩
          · rw [lowB_length, lowB_length]; exact n8
          · exact ((fill_mark ff2).below hb8).more hb8.size
          · exact ((fill_mark ff3).below hb8).more hb8.size
          · exact ((fill_mark fcv4).below hb8).more hb8.size
        have hc8 := concat_any w8 (some ⟨v4.heap.size, 0, none⟩) 3 [imMarkB, lowB 8 n, lowB 8 ll] hd8 (by simp) (by simp [imMarkB, lowB_length])
        have e8 : ([imMarkB, lowB 8 n, lowB 8 ll] : List (List UInt8)).flatten = headB n ll := by unfold headB; simp
        rw [e8, headB_len] at hc8
        have HC8 := Lib.hid hc8
        have HBW8 := Lib.hid cb4
        have HB8 := Lib.hid hb8
        refine tail_val2 (some 25) (w1 := w8) (v := .slice (some ⟨v4.heap.size, 0, none⟩) 3 3) rfl rfl rfl (by rw [← hw8]; exact bslice_run rfl rfl (run_three v4 _ _ _ _ _ _ _ _ _)) (hb8.mono HBW8.out.size) ⟨wd.heap.size, Nat.le_refl _, ?_⟩
        clear hw8 hb8 n8 hd8 hc8 e8
        simp only [Act.put, List.setIfInBounds_toArray, List.set_cons_zero, List.set_cons_succ]
        refine plan_one (l := []) rfl (wpQuiet_nil ?_)
        refine tail_call (vs := #[.slice (some ⟨v4.heap.size, 0, none⟩) 3 3]) Tryz.call46 rfl rfl rfl (R := fun r w' => w'.ownsRow w8.heap.size 5 1 r 24 ((headB n ll).map bv) ∧ Below w8.heap.size w8 w') (HC8.out.mono ?_) wd.heap.size (Nat.le_refl _) ?_
        · rintro e w' ⟨v, rfl, ho, hb⟩
          exact ⟨_, rfl, hb.mono (Nat.le_trans HBW8.out.size HB8.out.size), ho, hb⟩
        rintro r w9 _ ⟨ho9, hb9⟩
        have HF9 := Lib.hid (And.intro (own_lift ho9 (Nat.le_trans HBW8.out.size HB8.out.size)) ((HBW8.out.trans (HB8.out.mono HBW8.out.size)).trans (hb9.mono (Nat.le_trans HBW8.out.size HB8.out.size))))
        clear ho9 hb9
        simp only [Act.put, List.setIfInBounds_toArray, List.set_cons_zero, List.set_cons_succ]
        refine plan_fin (l := ?finWaacc) (t := []) ?hfinWaacc ?htfinWaacc ?_
        case hfinWaacc => simp only [pick, List.getElem?_toArray, List.getElem?_cons_succ, List.getElem?_cons_zero]; rfl
        case htfinWaacc => rfl
        repeat (go_big_quiet_step (fail))
        refine wpQuiet_nil ?_
        go_wp2_with fail
        go_meet
        case rel => exact HF9.out
      case wayWab =>
        refine tail_call (vs := #[.int .u64 (n : Int)]) Tryz.call47 rfl rfl rfl (R := fun r w' => r = .slice (some ⟨v1.heap.size, 0, none⟩) 8 8 ∧ w'.heap[v1.heap.size]? = some (.cells (rowB (lowB 8 n)) 5 (0, 0)) ∧ Below v1.heap.size v1 w') ((HPUT.out v1 n (by omega)).mono ?_) wd.heap.size (Nat.le_refl _) ?_
        · rintro e w' ⟨rfl, hf, hb⟩
          exact ⟨_, rfl, hb.mono cb1.size, rfl, hf, hb⟩
        rintro r v2 _ ⟨rfl, flv2, hbv2⟩
        have lsv2 : v1.heap.size < v2.heap.size := heap_ltz flv2
        have cb2 : Below wd.heap.size wd v2 := cb1.trans (hbv2.mono cb1.size)
        have ff4 := ((hbv2.block _ (heap_ltz fmv1)).trans fmv1)
        simp only [Act.put, List.setIfInBounds_toArray, List.set_cons_zero, List.set_cons_succ]
        refine plan_two (l := []) rfl (wpQuiet_nil ?_)
        refine ⟨?wayWaba, ?wayWabb⟩
        case wayWaba =>
          obtain ⟨v3, hrv3, fmv3, szv3, kpv3, blv3⟩ := conv_mark (P := Tryz.prog) v2 23 5 wd.heap.size (rowB imMarkB) 8 8 Tryz.underlying23 Tryz.underlying5 ff4
          refine tail_val2 (some 15) rfl rfl rfl (conv_run rfl rfl hrv3) (blv3 wd.heap.size lmv1) ⟨wd.heap.size, Nat.le_refl _, ?_⟩
          have cb3 : Below wd.heap.size wd v3 := cb2.trans (blv3 wd.heap.size lmv1)
          have lsv3 : v3.heap.size = v2.heap.size := szv3
          clear hrv3
          have ne6 : v1.heap.size ≠ wd.heap.size := by omega
          have ff5 := ((kpv3 _ ne6).trans flv2)
          simp only [Act.put, List.setIfInBounds_toArray, List.set_cons_zero, List.set_cons_succ]
          refine plan_one (l := []) rfl (wpQuiet_nil ?_)
          refine tail_call (vs := #[.int .u64 (ll : Int)]) Tryz.call47 rfl rfl rfl (R := fun r w' => r = .slice (some ⟨v3.heap.size, 0, none⟩) 8 8 ∧ w'.heap[v3.heap.size]? = some (.cells (rowB (lowB 8 ll)) 5 (0, 0)) ∧ Below v3.heap.size v3 w') ((HPUT.out v3 ll (by omega)).mono ?_) wd.heap.size (Nat.le_refl _) ?_
          · rintro e w' ⟨rfl, hf, hb⟩
            exact ⟨_, rfl, hb.mono cb3.size, rfl, hf, hb⟩
          rintro r v4 _ ⟨rfl, fcv4, hbv4⟩
          have lsv4 : v3.heap.size < v4.heap.size := heap_ltz fcv4
          have cb4 : Below wd.heap.size wd v4 := cb3.trans (hbv4.mono cb3.size)
          have ff7 := ((hbv4.block _ (heap_ltz fmv3)).trans fmv3)
          have ff8 := ((hbv4.block _ (heap_ltz ff5)).trans ff5)
          simp only [Act.put, List.setIfInBounds_toArray, List.set_cons_zero, List.set_cons_succ]
          refine plan_one (l := []) rfl (wpQuiet_nil ?_)
          obtain ⟨w8, hw8⟩ : ∃ w8, v4.alloc (.cells #[.slice (some ⟨wd.heap.size, 0, none⟩) 8 8, .slice (some ⟨v1.heap.size, 0, none⟩) 8 8, .slice (some ⟨v3.heap.size, 0, none⟩) 8 8] 23) = w8 := ⟨_, rfl⟩
          have hb8 : Below v4.heap.size v4 w8 := by rw [← hw8]; exact (Below.refl _ _).alloc (Nat.le_refl _) _
          have n8 : w8.heap[v4.heap.size]? = some (.cells #[.slice (some ⟨wd.heap.size, 0, none⟩) 8 8, .slice (some ⟨v1.heap.size, 0, none⟩) 8 8, .slice (some ⟨v3.heap.size, 0, none⟩) 8 8] 23 (0, 0)) := by rw [← hw8]; exact heap_alloc_new v4 _
          have hd8 : DtRd w8 w8.heap.size (some ⟨v4.heap.size, 0, none⟩) [imMarkB, lowB 8 n, lowB 8 ll] := by
            refine three_rd (a := 8) (b := 8) (c := 8) (A := some ⟨wd.heap.size, 0, none⟩) (B := some ⟨v1.heap.size, 0, none⟩) (C := some ⟨v3.heap.size, 0, none⟩) ?_ ?_ ?_ ?_ ⟨Nat.le_refl _, fun e => by cases e⟩ ⟨by rw [lowB_length]; exact Nat.le_refl _, fun e => by cases e⟩ ⟨by rw [lowB_length]; exact Nat.le_refl _, fun e => by cases e⟩ ⟨by unfold maxLen imMarkB; simp, by rw [lowB_length]; unfold maxLen; omega, by rw [lowB_length]; unfold maxLen; omega⟩
            · rw [lowB_length, lowB_length]; exact n8
            · exact ((fill_mark ff7).below hb8).more hb8.size
            · exact ((fill_mark ff8).below hb8).more hb8.size
            · exact ((fill_mark fcv4).below hb8).more hb8.size
          have hc8 := concat_any w8 (some ⟨v4.heap.size, 0, none⟩) 3 [imMarkB, lowB 8 n, lowB 8 ll] hd8 (by simp) (by simp [imMarkB, lowB_length])
          have e8 : ([imMarkB, lowB 8 n, lowB 8 ll] : List (List UInt8)).flatten = headB n ll := by unfold headB; simp
          rw [e8, headB_len] at hc8
          have HC8 := Lib.hid hc8
          have HBW8 := Lib.hid cb4
          have HB8 := Lib.hid hb8
          refine tail_val2 (some 25) (w1 := w8) (v := .slice (some ⟨v4.heap.size, 0, none⟩) 3 3) rfl rfl rfl (by rw [← hw8]; exact bslice_run rfl rfl (run_three v4 _ _ _ _ _ _ _ _ _)) (hb8.mono HBW8.out.size) ⟨wd.heap.size, Nat.le_refl _, ?_⟩
          clear hw8 hb8 n8 hd8 hc8 e8
          simp only [Act.put, List.setIfInBounds_toArray, List.set_cons_zero, List.set_cons_succ]
          refine plan_one (l := []) rfl (wpQuiet_nil ?_)
          refine tail_call (vs := #[.slice (some ⟨v4.heap.size, 0, none⟩) 3 3]) Tryz.call46 rfl rfl rfl (R := fun r w' => w'.ownsRow w8.heap.size 5 1 r 24 ((headB n ll).map bv) ∧ Below w8.heap.size w8 w') (HC8.out.mono ?_) wd.heap.size (Nat.le_refl _) ?_
          · rintro e w' ⟨v, rfl, ho, hb⟩
            exact ⟨_, rfl, hb.mono (Nat.le_trans HBW8.out.size HB8.out.size), ho, hb⟩
          rintro r w9 _ ⟨ho9, hb9⟩
          have HF9 := Lib.hid (And.intro (own_lift ho9 (Nat.le_trans HBW8.out.size HB8.out.size)) ((HBW8.out.trans (HB8.out.mono HBW8.out.size)).trans (hb9.mono (Nat.le_trans HBW8.out.size HB8.out.size))))
          clear ho9 hb9
          simp only [Act.put, List.setIfInBounds_toArray, List.set_cons_zero, List.set_cons_succ]
          refine plan_fin (l := ?finWabac) (t := []) ?hfinWabac ?htfinWabac ?_
          case hfinWabac => simp only [pick, List.getElem?_toArray, List.getElem?_cons_succ, List.getElem?_cons_zero]; rfl
          case htfinWabac => rfl
          repeat (go_big_quiet_step (fail))
          refine wpQuiet_nil ?_
          go_wp2_with fail
          go_meet
          case rel => exact HF9.out
        case wayWabb =>
          refine tail_call (vs := #[.int .u64 (ll : Int)]) Tryz.call47 rfl rfl rfl (R := fun r w' => r = .slice (some ⟨v2.heap.size, 0, none⟩) 8 8 ∧ w'.heap[v2.heap.size]? = some (.cells (rowB (lowB 8 ll)) 5 (0, 0)) ∧ Below v2.heap.size v2 w') ((HPUT.out v2 ll (by omega)).mono ?_) wd.heap.size (Nat.le_refl _) ?_
          · rintro e w' ⟨rfl, hf, hb⟩
            exact ⟨_, rfl, hb.mono cb2.size, rfl, hf, hb⟩
          rintro r v3 _ ⟨rfl, fcv3, hbv3⟩
          have lsv3 : v2.heap.size < v3.heap.size := heap_ltz fcv3
          have cb3 : Below wd.heap.size wd v3 := cb2.trans (hbv3.mono cb2.size)
          have ff9 := ((hbv3.block _ (heap_ltz ff4)).trans ff4)
          have ff10 := ((hbv3.block _ (heap_ltz flv2)).trans flv2)
          simp only [Act.put, List.setIfInBounds_toArray, List.set_cons_zero, List.set_cons_succ]
          refine plan_one (l := []) rfl (wpQuiet_nil ?_)
          obtain ⟨v4, hrv4, fmv4, szv4, kpv4, blv4⟩ := conv_mark (P := Tryz.prog) v3 23 5 wd.heap.size (rowB imMarkB) 8 8 Tryz.underlying23 Tryz.underlying5 ff9
          refine tail_val2 (some 15) rfl rfl rfl (conv_run rfl rfl hrv4) (blv4 wd.heap.size lmv1) ⟨wd.heap.size, Nat.le_refl _, ?_⟩
          have cb4 : Below wd.heap.size wd v4 := cb3.trans (blv4 wd.heap.size lmv1)
          have lsv4 : v4.heap.size = v3.heap.size := szv4
          clear hrv4
          have ne12 : v1.heap.size ≠ wd.heap.size := by omega
          have ff11 := ((kpv4 _ ne12).trans ff10)
          have ne14 : v2.heap.size ≠ wd.heap.size := by omega
          have ff13 := ((kpv4 _ ne14).trans fcv3)
          simp only [Act.put, List.setIfInBounds_toArray, List.set_cons_zero, List.set_cons_succ]
          refine plan_one (l := []) rfl (wpQuiet_nil ?_)
          obtain ⟨w8, hw8⟩ : ∃ w8, v4.alloc (.cells #[.slice (some ⟨wd.heap.size, 0, none⟩) 8 8, .slice (some ⟨v1.heap.size, 0, none⟩) 8 8, .slice (some ⟨v2.heap.size, 0, none⟩) 8 8] 23) = w8 := ⟨_, rfl⟩
          have hb8 : Below v4.heap.size v4 w8 := by rw [← hw8]; exact (Below.refl _ _).alloc (Nat.le_refl _) _
          have n8 : w8.heap[v4.heap.size]? = some (.cells #[.slice (some ⟨wd.heap.size, 0, none⟩) 8 8, .slice (some ⟨v1.heap.size, 0, none⟩) 8 8, .slice (some ⟨v2.heap.size, 0, none⟩) 8 8] 23 (0, 0)) := by rw [← hw8]; exact heap_alloc_new v4 _
          have hd8 : DtRd w8 w8.heap.size (some ⟨v4.heap.size, 0, none⟩) [imMarkB, lowB 8 n, lowB 8 ll] := by
            refine three_rd (a := 8) (b := 8) (c := 8) (A := some ⟨wd.heap.size, 0, none⟩) (B := some ⟨v1.heap.size, 0, none⟩) (C := some ⟨v2.heap.size, 0, none⟩) ?_ ?_ ?_ ?_ ⟨Nat.le_refl _, fun e => by cases e⟩ ⟨by rw [lowB_length]; exact Nat.le_refl _, fun e => by cases e⟩ ⟨by rw [lowB_length]; exact Nat.le_refl _, fun e => by cases e⟩ ⟨by unfold maxLen imMarkB; simp, by rw [lowB_length]; unfold maxLen; omega, by rw [lowB_length]; unfold maxLen; omega⟩
            · rw [lowB_length, lowB_length]; exact n8
            · exact ((fill_mark fmv4).below hb8).more hb8.size
            · exact ((fill_mark ff11).below hb8).more hb8.size
            · exact ((fill_mark ff13).below hb8).more hb8.size
          have hc8 := concat_any w8 (some ⟨v4.heap.size, 0, none⟩) 3 [imMarkB, lowB 8 n, lowB 8 ll] hd8 (by simp) (by simp [imMarkB, lowB_length])
          have e8 : ([imMarkB, lowB 8 n, lowB 8 ll] : List (List UInt8)).flatten = headB n ll := by unfold headB; simp
          rw [e8, headB_len] at hc8
          have HC8 := Lib.hid hc8
          have HBW8 := Lib.hid cb4
          have HB8 := Lib.hid hb8
          refine tail_val2 (some 25) (w1 := w8) (v := .slice (some ⟨v4.heap.size, 0, none⟩) 3 3) rfl rfl rfl (by rw [← hw8]; exact bslice_run rfl rfl (run_three v4 _ _ _ _ _ _ _ _ _)) (hb8.mono HBW8.out.size) ⟨wd.heap.size, Nat.le_refl _, ?_⟩
          clear hw8 hb8 n8 hd8 hc8 e8
          simp only [Act.put, List.setIfInBounds_toArray, List.set_cons_zero, List.set_cons_succ]
          refine plan_one (l := []) rfl (wpQuiet_nil ?_)
          refine tail_call (vs := #[.slice (some ⟨v4.heap.size, 0, none⟩) 3 3]) Tryz.call46 rfl rfl rfl (R := fun r w' => w'.ownsRow w8.heap.size 5 1 r 24 ((headB n ll).map bv) ∧ Below w8.heap.size w8 w') (HC8.out.mono ?_) wd.heap.size (Nat.le_refl _) ?_
          · rintro e w' ⟨v, rfl, ho, hb⟩
            exact ⟨_, rfl, hb.mono (Nat.le_trans HBW8.out.size HB8.out.size), ho, hb⟩
          rintro r w9 _ ⟨ho9, hb9⟩
          have HF9 := Lib.hid (And.intro (own_lift ho9 (Nat.le_trans HBW8.out.size HB8.out.size)) ((HBW8.out.trans (HB8.out.mono HBW8.out.size)).trans (hb9.mono (Nat.le_trans HBW8.out.size HB8.out.size))))
          clear ho9 hb9
          simp only [Act.put, List.setIfInBounds_toArray, List.set_cons_zero, List.set_cons_succ]
          refine plan_fin (l := ?finWabbc) (t := []) ?hfinWabbc ?htfinWabbc ?_
          case hfinWabbc => simp only [pick, List.getElem?_toArray, List.getElem?_cons_succ, List.getElem?_cons_zero]; rfl
          case htfinWabbc => rfl
          repeat (go_big_quiet_step (fail))
          refine wpQuiet_nil ?_
          go_wp2_with fail
          go_meet
          case rel => exact HF9.out
    case wayWb =>
      refine tail_call (vs := #[.int .u64 (n : Int)]) Tryz.call47 rfl rfl rfl (R := fun r w' => r = .slice (some ⟨wd.heap.size, 0, none⟩) 8 8 ∧ w'.heap[wd.heap.size]? = some (.cells (rowB (lowB 8 n)) 5 (0, 0)) ∧ Below wd.heap.size wd w') ((HPUT.out wd n (by omega)).mono ?_) wd.heap.size (Nat.le_refl _) ?_
      · rintro e w' ⟨rfl, hf, hb⟩
        exact ⟨_, rfl, hb.mono cb0.size, rfl, hf, hb⟩
      rintro r v1 _ ⟨rfl, flv1, hbv1⟩
      have lsv1 : wd.heap.size < v1.heap.size := heap_ltz flv1
      have cb1 : Below wd.heap.size wd v1 := cb0.trans (hbv1.mono cb0.size)
      simp only [Act.put, List.setIfInBounds_toArray, List.set_cons_zero, List.set_cons_succ]
      refine plan_two (l := []) rfl (wpQuiet_nil ?_)
      refine ⟨?wayWba, ?wayWbb⟩
      case wayWba =>
        refine tail_val2 (some 14) (w1 := v1.alloc (.cells (rowB imMarkB) 5)) (v := .slice (some ⟨v1.heap.size, 0, none⟩) 8 8) rfl rfl rfl (bslice_run rfl rfl (run_mark v1)) ((Below.refl _ _).alloc cb1.size _) ⟨wd.heap.size, Nat.le_refl _, ?_⟩
        obtain ⟨v2, hv2⟩ : ∃ v2, v1.alloc (.cells (rowB imMarkB) 5) = v2 := ⟨_, rfl⟩
        have hbv2 : Below v1.heap.size v1 v2 := by rw [← hv2]; exact (Below.refl _ _).alloc (Nat.le_refl _) _
        have fmv2 : v2.heap[v1.heap.size]? = some (.cells (rowB imMarkB) 5 (0, 0)) := by rw [← hv2]; exact heap_alloc_new v1 _
        have cb2 : Below wd.heap.size wd v2 := cb1.trans (hbv2.mono cb1.size)
        have lmv2 : wd.heap.size ≤ v1.heap.size := cb1.size
        have lsv2 : v1.heap.size < v2.heap.size := heap_ltz fmv2
        rw [hv2]
        clear hv2
        have ff15 := ((hbv2.block _ (heap_ltz flv1)).trans flv1)
        simp only [Act.put, List.setIfInBounds_toArray, List.set_cons_zero, List.set_cons_succ]
        refine plan_two (l := []) rfl (wpQuiet_nil ?_)
        refine ⟨?wayWbaa, ?wayWbab⟩
        case wayWbaa =>
          obtain ⟨v3, hrv3, fmv3, szv3, kpv3, blv3⟩ := conv_mark (P := Tryz.prog) v2 23 5 v1.heap.size (rowB imMarkB) 8 8 Tryz.underlying23 Tryz.underlying5 fmv2
          refine tail_val2 (some 15) rfl rfl rfl (conv_run rfl rfl hrv3) (blv3 wd.heap.size lmv2) ⟨wd.heap.size, Nat.le_refl _, ?_⟩
          have cb3 : Below wd.heap.size wd v3 := cb2.trans (blv3 wd.heap.size lmv2)
          have lsv3 : v3.heap.size = v2.heap.size := szv3
          clear hrv3
          have ne17 : wd.heap.size ≠ v1.heap.size := by omega
          have ff16 := ((kpv3 _ ne17).trans ff15)
          simp only [Act.put, List.setIfInBounds_toArray, List.set_cons_zero, List.set_cons_succ]
          refine plan_one (l := []) rfl (wpQuiet_nil ?_)
          refine tail_call (vs := #[.int .u64 (ll : Int)]) Tryz.call47 rfl rfl rfl (R := fun r w' => r = .slice (some ⟨v3.heap.size, 0, none⟩) 8 8 ∧ w'.heap[v3.heap.size]? = some (.cells (rowB (lowB 8 ll)) 5 (0, 0)) ∧ Below v3.heap.size v3 w') ((HPUT.out v3 ll (by omega)).mono ?_) wd.heap.size (Nat.le_refl _) ?_
          · rintro e w' ⟨rfl, hf, hb⟩
            exact ⟨_, rfl, hb.mono cb3.size, rfl, hf, hb⟩
          rintro r v4 _ ⟨rfl, fcv4, hbv4⟩
          have lsv4 : v3.heap.size < v4.heap.size := heap_ltz fcv4
          have cb4 : Below wd.heap.size wd v4 := cb3.trans (hbv4.mono cb3.size)
          have ff18 := ((hbv4.block _ (heap_ltz fmv3)).trans fmv3)
          have ff19 := ((hbv4.block _ (heap_ltz ff16)).trans ff16)
          simp only [Act.put, List.setIfInBounds_toArray, List.set_cons_zero, List.set_cons_succ]
          refine plan_one (l := []) rfl (wpQuiet_nil ?_)
          obtain ⟨w8, hw8⟩ : ∃ w8, v4.alloc (.cells #[.slice (some ⟨v1.heap.size, 0, none⟩) 8 8, .slice (some ⟨wd.heap.size, 0, none⟩) 8 8, .slice (some ⟨v3.heap.size, 0, none⟩) 8 8] 23) = w8 := ⟨_, rfl⟩
          have hb8 : Below v4.heap.size v4 w8 := by rw [← hw8]; exact (Below.refl _ _).alloc (Nat.le_refl _) _
          have n8 : w8.heap[v4.heap.size]? = some (.cells #[.slice (some ⟨v1.heap.size, 0, none⟩) 8 8, .slice (some ⟨wd.heap.size, 0, none⟩) 8 8, .slice (some ⟨v3.heap.size, 0, none⟩) 8 8] 23 (0, 0)) := by rw [← hw8]; exact heap_alloc_new v4 _
          have hd8 : DtRd w8 w8.heap.size (some ⟨v4.heap.size, 0, none⟩) [imMarkB, lowB 8 n, lowB 8 ll] := by
            refine three_rd (a := 8) (b := 8) (c := 8) (A := some ⟨v1.heap.size, 0, none⟩) (B := some ⟨wd.heap.size, 0, none⟩) (C := some ⟨v3.heap.size, 0, none⟩) ?_ ?_ ?_ ?_ ⟨Nat.le_refl _, fun e => by cases e⟩ ⟨by rw [lowB_length]; exact Nat.le_refl _, fun e => by cases e⟩ ⟨by rw [lowB_length]; exact Nat.le_refl _, fun e => by cases e⟩ ⟨by unfold maxLen imMarkB; simp, by rw [lowB_length]; unfold maxLen; omega, by rw [lowB_length]; unfold maxLen; omega⟩
            · rw [lowB_length, lowB_length]; exact n8
            · exact ((fill_mark ff18).below hb8).more hb8.size
            · exact ((fill_mark ff19).below hb8).more hb8.size
            · exact ((fill_mark fcv4).below hb8).more hb8.size
          have hc8 := concat_any w8 (some ⟨v4.heap.size, 0, none⟩) 3 [imMarkB, lowB 8 n, lowB 8 ll] hd8 (by simp) (by simp [imMarkB, lowB_length])
          have e8 : ([imMarkB, lowB 8 n, lowB 8 ll] : List (List UInt8)).flatten = headB n ll := by unfold headB; simp
          rw [e8, headB_len] at hc8
          have HC8 := Lib.hid hc8
          have HBW8 := Lib.hid cb4
          have HB8 := Lib.hid hb8
          refine tail_val2 (some 25) (w1 := w8) (v := .slice (some ⟨v4.heap.size, 0, none⟩) 3 3) rfl rfl rfl (by rw [← hw8]; exact bslice_run rfl rfl (run_three v4 _ _ _ _ _ _ _ _ _)) (hb8.mono HBW8.out.size) ⟨wd.heap.size, Nat.le_refl _, ?_⟩
          clear hw8 hb8 n8 hd8 hc8 e8
          simp only [Act.put, List.setIfInBounds_toArray, List.set_cons_zero, List.set_cons_succ]
          refine plan_one (l := []) rfl (wpQuiet_nil ?_)
          refine tail_call (vs := #[.slice (some ⟨v4.heap.size, 0, none⟩) 3 3]) Tryz.call46 rfl rfl rfl (R := fun r w' => w'.ownsRow w8.heap.size 5 1 r 24 ((headB n ll).map bv) ∧ Below w8.heap.size w8 w') (HC8.out.mono ?_) wd.heap.size (Nat.le_refl _) ?_
          · rintro e w' ⟨v, rfl, ho, hb⟩
            exact ⟨_, rfl, hb.mono (Nat.le_trans HBW8.out.size HB8.out.size), ho, hb⟩
          rintro r w9 _ ⟨ho9, hb9⟩
          have HF9 := Lib.hid (And.intro (own_lift ho9 (Nat.le_trans HBW8.out.size HB8.out.size)) ((HBW8.out.trans (HB8.out.mono HBW8.out.size)).trans (hb9.mono (Nat.le_trans HBW8.out.size HB8.out.size))))
          clear ho9 hb9
          simp only [Act.put, List.setIfInBounds_toArray, List.set_cons_zero, List.set_cons_succ]
          refine plan_fin (l := ?finWbaac) (t := []) ?hfinWbaac ?htfinWbaac ?_
          case hfinWbaac => simp only [pick, List.getElem?_toArray, List.getElem?_cons_succ, List.getElem?_cons_zero]; rfl
          case htfinWbaac => rfl
          repeat (go_big_quiet_step (fail))
          refine wpQuiet_nil ?_
          go_wp2_with fail
          go_meet
          case rel => exact HF9.out
        case wayWbab =>
          refine tail_call (vs := #[.int .u64 (ll : Int)]) Tryz.call47 rfl rfl rfl (R := fun r w' => r = .slice (some ⟨v2.heap.size, 0, none⟩) 8 8 ∧ w'.heap[v2.heap.size]? = some (.cells (rowB (lowB 8 ll)) 5 (0, 0)) ∧ Below v2.heap.size v2 w') ((HPUT.out v2 ll (by omega)).mono ?_) wd.heap.size (Nat.le_refl _) ?_
          · rintro e w' ⟨rfl, hf, hb⟩
            exact ⟨_, rfl, hb.mono cb2.size, rfl, hf, hb⟩
          rintro r v3 _ ⟨rfl, fcv3, hbv3⟩
          have lsv3 : v2.heap.size < v3.heap.size := heap_ltz fcv3
          have cb3 : Below wd.heap.size wd v3 := cb2.trans (hbv3.mono cb2.size)
          have ff20 := ((hbv3.block _ (heap_ltz fmv2)).trans fmv2)
          have ff21 := ((hbv3.block _ (heap_ltz ff15)).trans ff15)
          simp only [Act.put, List.setIfInBounds_toArray, List.set_cons_zero, List.set_cons_succ]
          refine plan_one (l := []) rfl (wpQuiet_nil ?_)
          obtain ⟨v4, hrv4, fmv4, szv4, kpv4, blv4⟩ := conv_mark (P := Tryz.prog) v3 23 5 v1.heap.size (rowB imMarkB) 8 8 Tryz.underlying23 Tryz.underlying5 ff20
          refine tail_val2 (some 15) rfl rfl rfl (conv_run rfl rfl hrv4) (blv4 wd.heap.size lmv2) ⟨wd.heap.size, Nat.le_refl _, ?_⟩
          have cb4 : Below wd.heap.size wd v4 := cb3.trans (blv4 wd.heap.size lmv2)
          have lsv4 : v4.heap.size = v3.heap.size := szv4
          clear hrv4
          have ne23 : wd.heap.size ≠ v1.heap.size := by omega
          have ff22 := ((kpv4 _ ne23).trans ff21)
          have ne25 : v2.heap.size ≠ v1.heap.size := by omega
          have ff24 := ((kpv4 _ ne25).trans fcv3)
          simp only [Act.put, List.setIfInBounds_toArray, List.set_cons_zero, List.set_cons_succ]
          refine plan_one (l := []) rfl (wpQuiet_nil ?_)
          obtain ⟨w8, hw8⟩ : ∃ w8, v4.alloc (.cells #[.slice (some ⟨v1.heap.size, 0, none⟩) 8 8, .slice (some ⟨wd.heap.size, 0, none⟩) 8 8, .slice (some ⟨v2.heap.size, 0, none⟩) 8 8] 23) = w8 := ⟨_, rfl⟩
          have hb8 : Below v4.heap.size v4 w8 := by rw [← hw8]; exact (Below.refl _ _).alloc (Nat.le_refl _) _
          have n8 : w8.heap[v4.heap.size]? = some (.cells #[.slice (some ⟨v1.heap.size, 0, none⟩) 8 8, .slice (some ⟨wd.heap.size, 0, none⟩) 8 8, .slice (some ⟨v2.heap.size, 0, none⟩) 8 8] 23 (0, 0)) := by rw [← hw8]; exact heap_alloc_new v4 _
          have hd8 : DtRd w8 w8.heap.size (some ⟨v4.heap.size, 0, none⟩) [imMarkB, lowB 8 n, lowB 8 ll] := by
            refine three_rd (a := 8) (b := 8) (c := 8) (A := some ⟨v1.heap.size, 0, none⟩) (B := some ⟨wd.heap.size, 0, none⟩) (C := some ⟨v2.heap.size, 0, none⟩) ?_ ?_ ?_ ?_ ⟨Nat.le_refl _, fun e => by cases e⟩ ⟨by rw [lowB_length]; exact Nat.le_refl _, fun e => by cases e⟩ ⟨by rw [lowB_length]; exact Nat.le_refl _, fun e => by cases e⟩ ⟨by unfold maxLen imMarkB; simp, by rw [lowB_length]; unfold maxLen; omega, by rw [lowB_length]; unfold maxLen; omega⟩
            · rw [lowB_length, lowB_length]; exact n8
            · exact ((fill_mark fmv4).below hb8).more hb8.size
            · exact ((fill_mark ff22).below hb8).more hb8.size
            · exact ((fill_mark ff24).below hb8).more hb8.size
          have hc8 := concat_any w8 (some ⟨v4.heap.size, 0, none⟩) 3 [imMarkB, lowB 8 n, lowB 8 ll] hd8 (by simp) (by simp [imMarkB, lowB_length])
          have e8 : ([imMarkB, lowB 8 n, lowB 8 ll] : List (List UInt8)).flatten = headB n ll := by unfold headB; simp
          rw [e8, headB_len] at hc8
          have HC8 := Lib.hid hc8
          have HBW8 := Lib.hid cb4
          have HB8 := Lib.hid hb8
          refine tail_val2 (some 25) (w1 := w8) (v := .slice (some ⟨v4.heap.size, 0, none⟩) 3 3) rfl rfl rfl (by rw [← hw8]; exact bslice_run rfl rfl (run_three v4 _ _ _ _ _ _ _ _ _)) (hb8.mono HBW8.out.size) ⟨wd.heap.size, Nat.le_refl _, ?_⟩
          clear hw8 hb8 n8 hd8 hc8 e8
          simp only [Act.put, List.setIfInBounds_toArray, List.set_cons_zero, List.set_cons_succ]
          refine plan_one (l := []) rfl (wpQuiet_nil ?_)
          refine tail_call (vs := #[.slice (some ⟨v4.heap.size, 0, none⟩) 3 3]) Tryz.call46 rfl rfl rfl (R := fun r w' => w'.ownsRow w8.heap.size 5 1 r 24 ((headB n ll).map bv) ∧ Below w8.heap.size w8 w') (HC8.out.mono ?_) wd.heap.size (Nat.le_refl _) ?_
          · rintro e w' ⟨v, rfl, ho, hb⟩
            exact ⟨_, rfl, hb.mono (Nat.le_trans HBW8.out.size HB8.out.size), ho, hb⟩
          rintro r w9 _ ⟨ho9, hb9⟩
          have HF9 := Lib.hid (And.intro (own_lift ho9 (Nat.le_trans HBW8.out.size HB8.out.size)) ((HBW8.out.trans (HB8.out.mono HBW8.out.size)).trans (hb9.mono (Nat.le_trans HBW8.out.size HB8.out.size))))
          clear ho9 hb9
          simp only [Act.put, List.setIfInBounds_toArray, List.set_cons_zero, List.set_cons_succ]
          refine plan_fin (l := ?finWbabc) (t := []) ?hfinWbabc ?htfinWbabc ?_
          case hfinWbabc => simp only [pick, List.getElem?_toArray, List.getElem?_cons_succ, List.getElem?_cons_zero]; rfl
          case htfinWbabc => rfl
          repeat (go_big_quiet_step (fail))
          refine wpQuiet_nil ?_
          go_wp2_with fail
          go_meet
          case rel => exact HF9.out
      case wayWbb =>
        refine tail_call (vs := #[.int .u64 (ll : Int)]) Tryz.call47 rfl rfl rfl (R := fun r w' => r = .slice (some ⟨v1.heap.size, 0, none⟩) 8 8 ∧ w'.heap[v1.heap.size]? = some (.cells (rowB (lowB 8 ll)) 5 (0, 0)) ∧ Below v1.heap.size v1 w') ((HPUT.out v1 ll (by omega)).mono ?_) wd.heap.size (Nat.le_refl _) ?_
        · rintro e w' ⟨rfl, hf, hb⟩
          exact ⟨_, rfl, hb.mono cb1.size, rfl, hf, hb⟩
        rintro r v2 _ ⟨rfl, fcv2, hbv2⟩
        have lsv2 : v1.heap.size < v2.heap.size := heap_ltz fcv2
        have cb2 : Below wd.heap.size wd v2 := cb1.trans (hbv2.mono cb1.size)
        have ff26 := ((hbv2.block _ (heap_ltz flv1)).trans flv1)
        simp only [Act.put, List.setIfInBounds_toArray, List.set_cons_zero, List.set_cons_succ]
        refine plan_one (l := []) rfl (wpQuiet_nil ?_)
        refine tail_val2 (some 14) (w1 := v2.alloc (.cells (rowB imMarkB) 5)) (v := .slice (some ⟨v2.heap.size, 0, none⟩) 8 8) rfl rfl rfl (bslice_run rfl rfl (run_mark v2)) ((Below.refl _ _).alloc cb2.size _) ⟨wd.heap.size, Nat.le_refl _, ?_⟩
        obtain ⟨v3, hv3⟩ : ∃ v3, v2.alloc (.cells (rowB imMarkB) 5) = v3 := ⟨_, rfl⟩
        have hbv3 : Below v2.heap.size v2 v3 := by rw [← hv3]; exact (Below.refl _ _).alloc (Nat.le_refl _) _
        have fmv3 : v3.heap[v2.heap.size]? = some (.cells (rowB imMarkB) 5 (0, 0)) := by rw [← hv3]; exact heap_alloc_new v2 _
        have cb3 : Below wd.heap.size wd v3 := cb2.trans (hbv3.mono cb2.size)
        have lmv3 : wd.heap.size ≤ v2.heap.size := cb2.size
        have lsv3 : v2.heap.size < v3.heap.size := heap_ltz fmv3
        rw [hv3]
        clear hv3
        have ff27 := ((hbv3.block _ (heap_ltz ff26)).trans ff26)
        have ff28 := ((hbv3.block _ (heap_ltz fcv2)).trans fcv2)
        simp only [Act.put, List.setIfInBounds_toArray, List.set_cons_zero, List.set_cons_succ]
        refine plan_one (l := []) rfl (wpQuiet_nil ?_)
        obtain ⟨v4, hrv4, fmv4, szv4, kpv4, blv4⟩ := conv_mark (P := Tryz.prog) v3 23 5 v2.heap.size (rowB imMarkB) 8 8 Tryz.underlying23 Tryz.underlying5 fmv3
        refine tail_val2 (some 15) rfl rfl rfl (conv_run rfl rfl hrv4) (blv4 wd.heap.size lmv3) ⟨wd.heap.size, Nat.le_refl _, ?_⟩
        have cb4 : Below wd.heap.size wd v4 := cb3.trans (blv4 wd.heap.size lmv3)
        have lsv4 : v4.heap.size = v3.heap.size := szv4
        clear hrv4
        have ne30 : wd.heap.size ≠ v2.heap.size := by omega
        have ff29 := ((kpv4 _ ne30).trans ff27)
        have ne32 : v1.heap.size ≠ v2.heap.size := by omega
        have ff31 := ((kpv4 _ ne32).trans ff28)
        simp only [Act.put, List.setIfInBounds_toArray, List.set_cons_zero, List.set_cons_succ]
        refine plan_one (l := []) rfl (wpQuiet_nil ?_)
        obtain ⟨w8, hw8⟩ : ∃ w8, v4.alloc (.cells #[.slice (some ⟨v2.heap.size, 0, none⟩) 8 8, .slice (some ⟨wd.heap.size, 0, none⟩) 8 8, .slice (some ⟨v1.heap.size, 0, none⟩) 8 8] 23) = w8 := ⟨_, rfl⟩
        have hb8 : Below v4.heap.size v4 w8 := by rw [← hw8]; exact (Below.refl _ _).alloc (Nat.le_refl _) _
        have n8 : w8.heap[v4.heap.size]? = some (.cells #[.slice (some ⟨v2.heap.size, 0, none⟩) 8 8, .slice (some ⟨wd.heap.size, 0, none⟩) 8 8, .slice (some ⟨v1.heap.size, 0, none⟩) 8 8] 23 (0, 0)) := by rw [← hw8]; exact heap_alloc_new v4 _
        have hd8 : DtRd w8 w8.heap.size (some ⟨v4.heap.size, 0, none⟩) [imMarkB, lowB 8 n, lowB 8 ll] := by
          refine three_rd (a := 8) (b := 8) (c := 8) (A := some ⟨v2.heap.size, 0, none⟩) (B := some ⟨wd.heap.size, 0, none⟩) (C := some ⟨v1.heap.size, 0, none⟩) ?_ ?_ ?_ ?_ ⟨Nat.le_refl _, fun e => by cases e⟩ ⟨by rw [lowB_length]; exact Nat.le_refl _, fun e => by cases e⟩ ⟨by rw [lowB_length]; exact Nat.le_refl _, fun e => by cases e⟩ ⟨by unfold maxLen imMarkB; simp, by rw [lowB_length]; unfold maxLen; omega, by rw [lowB_length]; unfold maxLen; omega⟩
          · rw [lowB_length, lowB_length]; exact n8
          · exact ((fill_mark fmv4).below hb8).more hb8.size
          · exact ((fill_mark ff29).below hb8).more hb8.size
          · exact ((fill_mark ff31).below hb8).more hb8.size
        have hc8 := concat_any w8 (some ⟨v4.heap.size, 0, none⟩) 3 [imMarkB, lowB 8 n, lowB 8 ll] hd8 (by simp) (by simp [imMarkB, lowB_length])
        have e8 : ([imMarkB, lowB 8 n, lowB 8 ll] : List (List UInt8)).flatten = headB n ll := by unfold headB; simp
        rw [e8, headB_len] at hc8
        have HC8 := Lib.hid hc8
        have HBW8 := Lib.hid cb4
        have HB8 := Lib.hid hb8
        refine tail_val2 (some 25) (w1 := w8) (v := .slice (some ⟨v4.heap.size, 0, none⟩) 3 3) rfl rfl rfl (by rw [← hw8]; exact bslice_run rfl rfl (run_three v4 _ _ _ _ _ _ _ _ _)) (hb8.mono HBW8.out.size) ⟨wd.heap.size, Nat.le_refl _, ?_⟩
        clear hw8 hb8 n8 hd8 hc8 e8
        simp only [Act.put, List.setIfInBounds_toArray, List.set_cons_zero, List.set_cons_succ]
        refine plan_one (l := []) rfl (wpQuiet_nil ?_)
        refine tail_call (vs := #[.slice (some ⟨v4.heap.size, 0, none⟩) 3 3]) Tryz.call46 rfl rfl rfl (R := fun r w' => w'.ownsRow w8.heap.size 5 1 r 24 ((headB n ll).map bv) ∧ Below w8.heap.size w8 w') (HC8.out.mono ?_) wd.heap.size (Nat.le_refl _) ?_
        · rintro e w' ⟨v, rfl, ho, hb⟩
          exact ⟨_, rfl, hb.mono (Nat.le_trans HBW8.out.size HB8.out.size), ho, hb⟩
        rintro r w9 _ ⟨ho9, hb9⟩
        have HF9 := Lib.hid (And.intro (own_lift ho9 (Nat.le_trans HBW8.out.size HB8.out.size)) ((HBW8.out.trans (HB8.out.mono HBW8.out.size)).trans (hb9.mono (Nat.le_trans HBW8.out.size HB8.out.size))))
        clear ho9 hb9
        simp only [Act.put, List.setIfInBounds_toArray, List.set_cons_zero, List.set_cons_succ]
        refine plan_fin (l := ?finWbbcc) (t := []) ?hfinWbbcc ?htfinWbbcc ?_
        case hfinWbbcc => simp only [pick, List.getElem?_toArray, List.getElem?_cons_succ, List.getElem?_cons_zero]; rfl
        case htfinWbbcc => rfl
        repeat (go_big_quiet_step (fail))
        refine wpQuiet_nil ?_
        go_wp2_with fail
        go_meet
        case rel => exact HF9.out
  case rest =>
    obtain ⟨ho, hb⟩ := hcut
    have HO := Lib.hid ho
    have HBC := Lib.hid hb
    clear ho hb
    have HW1S := Lib.hid (wsum_any wc wd.heap.size _ (headB n ll) 24 0 (headB_len n ll) HO.out HBC.out.size (by omega) (by omega) (by omega))
    go_wp2_with fail
    refine HW1S.out.mono ?_
    rintro e w2 ⟨x2, rfl, ho2, hb2⟩
    have HO2 : Hid (w2.ownsRow wd.heap.size 5 1 x2 28 ((putA n ll).map bv)) := ho2
    have HB2 := Lib.hid (HBC.out.trans hb2)
    clear ho2 hb2 HW1S HO HBC
    have e1 := (HB2.out.cell (p := ⟨w.heap.size, 1, none⟩) hld).trans c1
    have hl2 : w.heap.size < w2.heap.size := Nat.lt_of_lt_of_le hld HB2.out.size
    go_wp2
    go_loopw [4, 32] (fun v t wr => ∃ (j : Nat), t = .int .i64 (j : Int) ∧ j ≤ ll ∧ wr.ownsRow wd.heap.size 5 1 v (28 + (tagsB (l.take j)).length) ((putA n ll ++ tagsB (l.take j)).map bv) ∧ Below wd.heap.size wd wr) (fun _ t _ => ll - (intOf t).toNat)
    case atStart =>
      refine ⟨0, rfl, Nat.zero_le _, ?_, HB2.out⟩
      have e : putA n ll ++ tagsB (l.take 0) = putA n ll := by rw [List.take_zero]; exact List.append_nil _
      rw [e]
      exact HO2.out
    case round =>
      obtain ⟨j, rfl, hj, hown, hb⟩ := hrel
      by_cases hlt : j < ll
      · obtain ⟨x, hx⟩ : ∃ x, l[j]? = some x := ⟨l[j]'(by rw [HLL.out]; exact hlt), List.getElem?_eq_getElem _⟩
        obtain ⟨b2, o, rfl, hbb, hcl⟩ := HR.out (by rw [HLL.out]; omega)
        obtain ⟨p0, p1, p2, hxo, hxs⟩ := hcl j x hx
        have hb1w := HBD.out.trans (hb.mono HBD.out.size)
        have r0 := (hb1w.cell (p := ⟨b2, o + j * 3, none⟩) hbb).trans p0
        have r1 := (hb1w.cell (p := ⟨b2, o + j * 3 + 1, none⟩) hbb).trans p1
        have r2 := (hb1w.cell (p := ⟨b2, o + j * 3 + 2, none⟩) hbb).trans p2
        have HTG := Lib.hid (tagsB_take hx)
        have HT1 := HPT.out j
        obtain ⟨xo, xs, xu⟩ := x
        dsimp only at p0 p1 p2 r0 r1 r2 hxs HTG
        obtain ⟨w4, hw4⟩ : ∃ w4, wr.alloc (.cells #[.int .i64 xo, .int .i64 xs, .bool xu] 51) = w4 := ⟨_, rfl⟩
        have hb4 : Below wr.heap.size wr w4 := by rw [← hw4]; exact (Below.refl _ _).alloc (Nat.le_refl _) _
        have n4 : w4.heap[wr.heap.size]? = some (.cells #[.int .i64 xo, .int .i64 xs, .bool xu] 51 (0, 0)) := by rw [← hw4]; exact heap_alloc_new wr _
        obtain ⟨x0, x1, x2⟩ := rk_cells n4
        have hl4 := heap_lt1 n4
        obtain ⟨pk, hpk⟩ : ∃ pk, packN xs xu = pk := ⟨_, rfl⟩
        have hpkl : pk < 18446744073709551616 := by have := packN_lt xs xu; omega
        have HPK := Lib.hid (fun W => tpack_any (w := W) xs xu hxs pk hpk)
        have HTB : Hid (tagB ⟨xo, xs, xu⟩ = lowB 8 pk) := (show _ = _ by unfold tagB; dsimp only; rw [hpk])
        obtain ⟨tn, htn⟩ : ∃ tn, (tagsB (l.take j)).length = tn := ⟨_, rfl⟩
        rw [htn] at hown HT1
        have HTN := Lib.hid htn
        have HO4 := Lib.hid (own_below hown hb4)
        have HB4 := Lib.hid (hb.trans (hb4.mono hb.size))
        have HW4 := Lib.hid hw4
        clear hx hcl p0 p1 p2 hown hb hb1w hb4 n4 hw4 hpk htn
        go_wp2_with (first | (rw [HW4.out]) | fail)
        refine (HPK.out _).mono ?_
        rintro e w5 ⟨rfl, rfl⟩
        go_wp2_with fail
        refine (HPUT.out _ pk hpkl).mono ?_
        rintro e w6 ⟨rfl, hf6, hb6⟩
        have HR6 : Hid (Rd w6 w6.heap.size (some ⟨w4.heap.size, 0, none⟩) 8 (lowB 8 pk)) := (show Rd _ _ _ _ _ by have := hf6.reads; rw [lowB_length] at this; exact this)
        have HO6 := Lib.hid (own_below HO4.out hb6)
        have HB6 := Lib.hid (HB4.out.trans (hb6.mono HB4.out.size))
        clear hf6 hb6
        go_wp2_with (first
          | (at_builtin; go_must (refine append_bytes rfl (.tmp 36) (.tmp 42) 23 5 rfl Tryz.underlying23 u8_inf4 wd.heap.size _ (28 + tn) (putA n ll ++ tagsB (l.take j)) rfl HO6.out _ (some ⟨w4.heap.size, 0, none⟩) 8 8 (lowB 8 pk) rfl HR6.out (fun e => by cases e) (by omega) HB6.out.size ?_); intro x7 w7 own7 hb7 gr7;
             have HX7 : Hid (w7.ownsRow wd.heap.size 5 1 x7 ((28 + tn) + 8) (((putA n ll ++ tagsB (l.take j)) ++ (lowB 8 pk)).map bv) ∧ Below wd.heap.size w6 w7) := ⟨own7, hb7⟩; clear own7 hb7 gr7)
          | fail)
        go_roundw
        case rel =>
          refine ⟨j + 1, by go_num, by omega, ?_, HB6.out.trans HX7.out.2⟩
          rw [HTG.out, HTB.out, List.length_append, HTN.out, lowB_length, ← List.append_assoc]
          exact HX7.out.1
        case measure => simp only [intOf]; omega
      · have e : l.take j = l := List.take_of_length_le (by rw [HLL.out]; omega)
        rw [e, HTL.out] at hown
        have HWS := Lib.hid (wsum_any wr wd.heap.size _ (putA n ll ++ tagsB l) (28 + 8 * ll) 28 (by rw [List.length_append, HAL.out, HTL.out]) hown hb.size (by omega) (by omega) (by omega))
        rw [HPTE.out] at HWS
        have HB := Lib.hid hb
        clear hown hb e
        go_wp2_with fail
        refine HWS.out.mono ?_
        rintro e w5 ⟨x5, rfl, ho5, hb5⟩
        rw [HTE.out] at ho5
        have hT100 : T ≤ 10000 := by have := HTE.out; omega
        have hT0 : 0 < T := by have := HTE.out; omega
        have hb5' := HB.out.trans hb5
        obtain ⟨A5, c5, rfl, hA5⟩ := own_slc ho5
        have HO5 := Lib.hid ho5
        have HB5 := Lib.hid hb5'
        have e2 := (hb5'.cell (p := ⟨w.heap.size, 2, none⟩) hld).trans c2
        have hl5 : w.heap.size < w5.heap.size := Nat.lt_of_lt_of_le hld hb5'.size
        clear ho5 hb5 hb5' HWS
        go_wp2
        go_loopw [4, 52] (fun v t wr => ∃ (j : Nat), t = .int .i64 (j : Int) ∧ j ≤ dl ∧ wr.ownsRow wd.heap.size 5 1 v (T + (d.take j).flatten.length) ((putT n l ++ (d.take j).flatten).map bv) ∧ Below wd.heap.size wd wr) (fun _ t _ => dl - (intOf t).toNat)
        case atStart =>
          refine ⟨0, rfl, Nat.zero_le _, ?_, HB5.out⟩
          have e : putT n l ++ (d.take 0).flatten = putT n l := by rw [List.take_zero]; exact List.append_nil _
          rw [e]
          exact HO5.out
        case round =>
          obtain ⟨i, rfl, hi, hown, hb⟩ := hrel
          have hb1w := HBD.out.trans (hb.mono HBD.out.size)
          by_cases hlt2 : i < dl
          · obtain ⟨y, hy⟩ : ∃ y, d[i]? = some y := ⟨d[i]'(by rw [HDLL.out]; exact hlt2), List.getElem?_eq_getElem _⟩
            obtain ⟨b, o, rfl, hbb, hc⟩ := HD.out (by rw [HDLL.out]; omega)
            obtain ⟨A', k', z0, hrd, _, _, hA⟩ := hc i y hy
            have z1 := (hb1w.cell (p := ⟨b, o + i, none⟩) hbb).trans z0
            have hs1 := HFT.out (i + 1)
            rw [flat_take hy, List.length_append] at hs1
            have HFT2 := Lib.hid (flat_take hy)
            have HRD := Lib.hid ((hrd.below hb1w).more hb1w.size)
            obtain ⟨yn, hn'⟩ : ∃ yn, y.length = yn := ⟨_, rfl⟩
            have HYN := Lib.hid hn'
            obtain ⟨q, hq⟩ : ∃ q, (d.take i).flatten.length = q := ⟨_, rfl⟩
            rw [hq] at hown hs1
            have HQ := Lib.hid hq
            rw [hn'] at z0 z1 hs1 HRD
            have HO := Lib.hid hown
            have HB6 := Lib.hid hb
            clear hc hy hn' hown hb hrd hq hb1w z0
            go_wp2_with (first
              | (at_builtin; go_must (refine append_bytes rfl (.tmp 56) (.tmp 57) 23 5 rfl Tryz.underlying23 u8_inf4 wd.heap.size _ (T + q) (putT n l ++ (d.take i).flatten) rfl HO.out _ A' yn k' y rfl HRD.out hA (by omega) HB6.out.size ?_); intro x30 w30 own30 hb30 gr30;
                 have HX30 : Hid (w30.ownsRow wd.heap.size 5 1 x30 ((T + q) + yn) (((putT n l ++ (d.take i).flatten) ++ y).map bv) ∧ Below wd.heap.size wr w30) := ⟨own30, hb30⟩; clear own30 hb30 gr30)
              | fail)
            go_roundw
            case rel =>
              refine ⟨i + 1, by go_num, by omega, ?_, HB6.out.trans HX30.out.2⟩
              rw [HFT2.out, List.length_append, HQ.out, HYN.out, ← List.append_assoc, ← Nat.add_assoc]
              exact HX30.out.1
            case measure => simp only [intOf]; omega
          · have e : d.take i = d := List.take_of_length_le (by rw [HDLL.out]; omega)
            rw [e, HFL.out] at hown
            have HWS2 := Lib.hid (wsum_any wr wd.heap.size _ (putT n l ++ d.flatten) (T + fl) T (by rw [List.length_append, HFL.out, HTL2.out]) hown hb.size (by omega) (by omega) (by omega))
            rw [HPDE.out] at HWS2
            have HB6 := Lib.hid hb
            clear hown hb e hb1w
            go_wp2_with fail
            refine HWS2.out.mono ?_
            rintro e w7 ⟨x7, rfl, ho7, hb7⟩
            have HB7 := Lib.hid (HB6.out.trans hb7)
            have HWS3 := Lib.hid (wsum_any w7 wd.heap.size x7 (putD n l d) (T + fl + 4) 0 (by rw [HDL2.out]; have := HTE.out; omega) ho7 HB7.out.size (by omega) (by omega) (by omega))
            clear ho7 hb7 HWS2
            go_wp2_with fail
            refine HWS3.out.mono ?_
            rintro e w8 ⟨x8, rfl, ho8, hb8⟩
            have hfin : w8.ownsRow w.heap.size 5 1 x8 (40 + 8 * ll + fl) ((imPutB n l d).map bv) := by
              rw [show T + fl + 4 + 4 = 40 + 8 * ll + fl by have := HTE.out; omega] at ho8
              exact own_lift ho8 (Nat.le_trans HB1.out.size HBD.out.size)
            have hbfin : Below w.heap.size w w8 := HB1.out.trans ((HBD.out.trans ((HB7.out.trans hb8).mono HBD.out.size)).mono HB1.out.size)
            obtain ⟨A8, c8, rfl, _⟩ := own_slc hfin
            have HFIN := Lib.hid (And.intro hfin hbfin)
            clear hfin hbfin ho8 hb8
            go_wp2
            go_ret2
            exact ⟨A8, c8, rfl, HFIN.out⟩
end Go.Proofs.YtbemaoncakcnjaaGreat

/- The program's images: a sum behind its bytes; the head; Get of the document's example, and of nothing. -/
namespace Go.Proofs.YtbemaoncakcnjaaGreat
open Go.RowKit

set_option maxRecDepth 100000 in
set_option maxHeartbeats 1000000 in
theorem imhas_any (w : World) (A : Option Addr) (n c B : Nat) (b : List UInt8) (i j : Nat) (hr : Rd w B A n b) (hnc : n ≤ c) (hc : c ≤ 9223372036854775807) (hn : n ≤ 900000) (hij : i ≤ j) (hj : j + 4 ≤ n) (y : Bool) (hy : (numB ((b.drop j).take 4) == moreN 0 ((b.drop i).take (j - i))) = y) :
    Calls Tryz.prog 85 #[.slice A n c, .int .i64 (i : Int), .int .i64 (j : Int)] w fun e w' => e = .returned (.bool y) ∧ w = w' := by
  have HG := Lib.hid (get4_yes A n c B b j w hr hnc (by omega) hj)
  obtain ⟨g, off, rfl, _⟩ := hr.2 (by omega)
  have HSM := Lib.hid (sum_any (some ⟨g, off + i, none⟩) (j - i) (c - i) B _ w (hr.sub i (j - i) (by omega)) (by omega))
  obtain ⟨p, hp⟩ : ∃ p, numB ((b.drop j).take 4) = p := ⟨_, rfl⟩
  obtain ⟨q, hq⟩ : ∃ q, moreN 0 ((b.drop i).take (j - i)) = q := ⟨_, rfl⟩
  rw [hp] at HG
  rw [hq] at HSM
  rw [hp, hq] at hy
  have HY : Hid (((p : Int) == (q : Int)) = y) := (show _ = y by
    rw [← hy]
    by_cases h : p = q
    · rw [h]; simp
    · have e : (p == q) = false := by rw [beq_eq_false_iff_ne]; exact h
      rw [e, beq_eq_false_iff_ne]; omega)
  have h1 : (i : Int) ≤ (j : Int) := by omega
  have h2 : (j : Int) ≤ (c : Int) := by omega
  have h3 : (i : Int) < (c : Int) := by omega
  clear hr hp hq hy
  go_enter Tryz.func85, Tryz.ntmps85
  go_wp2_with fail
  refine HG.out.mono ?_
  rintro e w2 ⟨rfl, rfl⟩
  go_wp2_with fail
  refine HSM.out.mono ?_
  rintro e w2 ⟨rfl, rfl⟩
  go_wp2
  go_ret
  exact ⟨ret_bool HY.out, rfl⟩
theorem markStr : strB imMarkB = ⟨#[67, 78, 84, 76, 1, 0, 0, 0]⟩ := by rfl
set_option maxRecDepth 100000 in
set_option maxHeartbeats 1000000 in
theorem imhead_ok (w : World) (A : Option Addr) (n c B : Nat) (b : List UInt8) (hr : Rd w B A n b) (hnc : n ≤ c) (hc : c ≤ 9223372036854775807) (hn : n ≤ 900000) (h28 : 28 ≤ n) (hm : b.take 8 = imMarkB) (hs : (numB ((b.drop 24).take 4) == moreN 0 ((b.drop 0).take (24 - 0))) = true) (N K : Nat) (hN : numB ((b.drop 8).take 8) = N) (hK : numB ((b.drop 16).take 8) = K) (hlen : lenOk (N : Int) = true) (hk : K ≤ 1024) :
    Calls Tryz.prog 50 #[.slice A n c] w fun e w' => e = .returned (.tuple #[.int .i64 (N : Int), .int .i64 (K : Int), .nilIface]) ∧ w = w' := by
  have HS := Lib.hid (imhas_any w A n c B b 0 24 hr hnc hc hn (by omega) (by omega) true hs)
  have HG1 := Lib.hid (get_yes A n c B b 8 w hr hnc (by omega) (by omega))
  have HG2 := Lib.hid (get_yes A n c B b 16 w hr hnc (by omega) (by omega))
  rw [hN] at HG1
  rw [hK] at HG2
  have h3 := (lenOk_iff (N : Int)).1 hlen
  have HL := Lib.hid (imlen_any w N (by omega) true hlen)
  obtain ⟨g, off, rfl, _⟩ := hr.2 (by omega)
  have q1 : (convert 23 9 (.slice (some ⟨g, off, none⟩) 8 c)).run Tryz.prog w = .ok (.string ⟨#[67, 78, 84, 76, 1, 0, 0, 0]⟩) w := by
    have h := hr.sub 0 8 (by omega)
    rw [List.drop_zero, hm, Nat.add_zero] at h
    have h2 := conv_rd (c := c) h
    rw [markStr] at h2
    exact h2
  have g1 : decide (n < 28) = false := decide_eq_false (by omega)
  have g2 : decide (1024 < K) = false := decide_eq_false (by omega)
  have g3 : (8 : Int) ≤ (c : Int) := by omega
  clear hr hm hs hN hK hlen
  go_enter Tryz.func50, Tryz.ntmps50
  go_wp2_with fail
  refine HS.out.mono ?_
  rintro e w2 ⟨rfl, rfl⟩
  go_wp2_with fail
  refine HG1.out.mono ?_
  rintro e w2 ⟨rfl, rfl⟩
  go_wp2_with fail
  refine HG2.out.mono ?_
  rintro e w2 ⟨rfl, rfl⟩
  go_wp2_with fail
  refine HL.out.mono ?_
  rintro e w2 ⟨rfl, rfl⟩
  go_wp2
  go_ret3
  exact ⟨rfl, rfl⟩
set_option maxHeartbeats 400000 in
theorem imhead_nil (w : World) :
    Calls Tryz.prog 50 #[.slice none 0 0] w fun e w' => e = .returned (.tuple #[.int .i64 0, .int .i64 0, .iface 63 (.int .i64 3)]) ∧ w = w' := by
  go_enter Tryz.func50, Tryz.ntmps50
  go_wp2
  go_ret3
  exact ⟨rfl, rfl⟩
theorem imte_any (w : World) (k : Nat) (hk : k ≤ 100000) :
    Calls Tryz.prog 87 #[.int .i64 (k : Int)] w fun e w' => e = .returned (.int .i64 ((28 + k * 8 : Nat) : Int)) ∧ w = w' := by
  go_enter Tryz.func87, Tryz.ntmps87
  go_wp2
  go_ret
  exact ⟨by congr 2, rfl⟩
theorem bk_inf8 : (Tryz.prog.info? 51).map (fun i => (i.zero, i.size, i.bytes)) = some (some (.agg #[.int .i64 0, .int .i64 0, .bool false]), 3, 24) := by kernel_rfl
theorem mk_blk0 (W : World) : (Instr.makeSlice 28 (.int .i64 0) (.int .i64 0)).run Tryz.prog W = .ok (.slice (some ⟨W.heap.size, 0, none⟩) 0 0) (W.alloc (.cells #[] 51)) := by
  obtain ⟨i0, hi, hz0, hz1, hz2⟩ := info_parts bk_inf8
  have h := run_makeSlice (P := Tryz.prog) W 28 51 i0 _ Tryz.underlying28 hi hz0 .i64 .i64 0 0 (by omega) (by omega) (by simp) (by simp) (by omega)
  simp only [Int.toNat_zero, Nat.zero_mul] at h
  rw [Array.eq_empty_of_size_eq_zero (size_madeCells _ 0)] at h
  exact h
set_option maxRecDepth 100000 in
set_option maxHeartbeats 1000000 in
theorem imblocks_0 (w : World) (A : Option Addr) (n c B : Nat) (b : List UInt8) (hr : Rd w B A n b) (hnc : n ≤ c) (hc : c ≤ 9223372036854775807) (hn : n ≤ 900000) (h32 : 32 ≤ n) (hs : (numB ((b.drop 28).take 4) == moreN 0 ((b.drop 28).take (28 - 28))) = true) :
    Calls Tryz.prog 51 #[.slice A n c, .int .i64 184, .int .i64 0] w fun e w' => ∃ A2, e = .returned (.tuple #[.slice A2 0 0, .nilIface]) ∧ Below w.heap.size w w' := by
  have HT := Lib.hid (imte_any w 0 (by omega))
  have HS := Lib.hid (imhas_any w A n c B b 28 28 hr hnc hc hn (by omega) (by omega) true hs)
  have HMS : ∀ W : World, (Instr.makeSlice 28 (.int .i64 0) (.int .i64 0)).run Tryz.prog W = .ok (.slice (some ⟨W.heap.size, 0, none⟩) 0 0) (W.alloc (.cells #[] 51)) := fun W => mk_blk0 W
  obtain ⟨w1, hw1⟩ : ∃ w1, w.alloc (.cells #[] 51) = w1 := ⟨_, rfl⟩
  have hb1 : Below w.heap.size w w1 := by rw [← hw1]; exact (Below.refl _ _).alloc (Nat.le_refl _) _
  have HROW := Lib.hid (imrow_any w1 (some ⟨w.heap.size, 0, none⟩) 0 [] (fun h => absurd h (by simp)) (by simp) 184 (by omega) true rfl)
  have HW1 := Lib.hid hw1
  have HB1 := Lib.hid hb1
  have g1 : decide (n < 32) = false := decide_eq_false (by omega)
  clear hr hs hw1 hb1
  go_enter Tryz.func51, Tryz.ntmps51
  go_wp2_with fail
  refine HT.out.mono ?_
  rintro e w2 ⟨rfl, rfl⟩
  go_wp2_with fail
  refine HS.out.mono ?_
  rintro e w2 ⟨rfl, rfl⟩
  go_wp2_with (first | (rw [HW1.out]) | fail)
  go_loopw [10, 34] (fun o t wr => o = .int .i64 184 ∧ t = .int .i64 0 ∧ wr = w1) (fun _ _ _ => 0)
  case atStart => exact ⟨rfl, rfl, rfl⟩
  case round =>
    obtain ⟨rfl, rfl, rfl⟩ := hrel
    go_wp2_with fail
    refine HROW.out.mono ?_
    rintro e w3 ⟨rfl, hb3⟩
    have HF := Lib.hid (HB1.out.trans (hb3.mono HB1.out.size))
    clear hb3
    go_wp2
    go_ret2
    exact ⟨_, rfl, HF.out⟩
set_option maxRecDepth 100000 in
set_option maxHeartbeats 1000000 in
theorem imdata_0 (w : World) (A A2 : Option Addr) (c B k : Nat) (b : List UInt8) (hr : Rd w B A 40 b) (hnc : 40 ≤ c) (hc : c ≤ 9223372036854775807) (hs : (numB ((b.drop 32).take 4) == moreN 0 ((b.drop 32).take (32 - 32))) = true) (hs2 : (numB ((b.drop 36).take 4) == moreN 0 ((b.drop 0).take (36 - 0))) = true) :
    Calls Tryz.prog 52 #[.slice A 40 c, .slice A2 0 k] w fun e w' => e = .returned (.tuple #[.slice none 0 0, .nilIface]) ∧ w = w' := by
  have HT := Lib.hid (imte_any w 0 (by omega))
  have HS := Lib.hid (imhas_any w A 40 c B b 32 32 hr hnc hc (by omega) (by omega) (by omega) true hs)
  have HS2 := Lib.hid (imhas_any w A 40 c B b 0 36 hr hnc hc (by omega) (by omega) (by omega) true hs2)
  clear hr hs hs2
  go_enter Tryz.func52, Tryz.ntmps52
  go_wp2_with fail
  refine HT.out.mono ?_
  rintro e w2 ⟨rfl, rfl⟩
  go_wp2_with fail
  go_loopw [7, 20] (fun o t wr => o = .int .i64 32 ∧ t = .int .i64 0 ∧ w = wr) (fun _ _ _ => 0)
  case atStart => exact ⟨rfl, rfl, rfl⟩
  case round =>
    obtain ⟨rfl, rfl, hw⟩ := hrel
    subst hw
    go_wp2_with fail
    refine HS.out.mono ?_
    rintro e w2 ⟨rfl, rfl⟩
    go_wp2_with fail
    refine HS2.out.mono ?_
    rintro e w2 ⟨rfl, rfl⟩
    go_wp2_with fail
    go_loopw [6, 10, 52] (fun o l t wr => o = .int .i64 32 ∧ l = .slice none 0 0 ∧ t = .int .i64 0 ∧ w = wr) (fun _ _ _ _ => 0)
    case atStart => exact ⟨rfl, rfl, rfl, rfl⟩
    case round =>
      obtain ⟨rfl, rfl, rfl, hw⟩ := hrel
      subst hw
      go_wp2
      go_ret2
      exact ⟨rfl, rfl⟩
theorem im_ret {fn : Func} {R : Ending → World → Prop} {a : Act} {w : World} {p u : Tmp} {g : Nat} {x : Value} {n : Int} {A1 A2 : Option Addr} {a1 b1 a2 b2 : Nat} (hres : fn.results = #[.cell p 31, .tmp u]) (hp : a.tmps.getD p undef = .pointer (some ⟨g, 0, none⟩)) (hx : a.tmps.getD u undef = x) (hd : a.defers = [])
    (hg : w.heap[g]? = some (.cells #[.int .i64 n, .slice A1 a1 b1, .slice A2 a2 b2] 31 (0, 0))) (hR : R (.returned (.tuple #[.agg #[.int .i64 n, .slice A1 a1 b1, .slice A2 a2 b2], x])) w) : bodyPost Tryz.prog fn R .ret a w := by
  obtain ⟨c0, c1, c2⟩ := rk_cells hg
  refine bodyPost_ret (v := .tuple #[.agg #[.int .i64 n, .slice A1 a1 b1, .slice A2 a2 b2], x]) ?_ hd hR
  rw [results_cell_tmp hres, hp, hx]
  simp [go_sem, c0, c1, c2]
theorem im_set {y0 y1 y2 : Value} {w : World} {g : Nat} {t : TypeId} (h : w.heap[g]? = some (.cells #[y0, y1, y2] t (0, 0))) (x0 x1 x2 : Value) :
    (((w.setCell ⟨g, 0, none⟩ x0).setCell ⟨g, 1, none⟩ x1).setCell ⟨g, 2, none⟩ x2).heap[g]? = some (.cells #[x0, x1, x2] t (0, 0)) := by
  have h1 := heap_setCell_same w g 0 _ _ x0 h
  have h2 := heap_setCell_same _ g 1 _ _ x1 h1
  have h3 := heap_setCell_same _ g 2 _ _ x2 h2
  rw [h3]
  rfl
theorem im_thaw {w : World} {g : Nat} {cs : Array Value} {t : TypeId} (h : w.heap[g]? = some (.cells cs t (0, 0))) : w.frozen? ⟨g, 0, none⟩ = false ∧ w.frozen? ⟨g, 1, none⟩ = false ∧ w.frozen? ⟨g, 2, none⟩ = false :=
  ⟨frozen_of_row w g 0 _ _ h, frozen_of_row w g 1 _ _ h, frozen_of_row w g 2 _ _ h⟩
/-- The document's example: no blocks. -/
def b40 : List UInt8 := imPutB 184 [] []
theorem b40_len : b40.length = 40 := by kernel_rfl
theorem b40_mark : b40.take 8 = imMarkB := by kernel_rfl
theorem b40_s1 : (numB ((b40.drop 24).take 4) == moreN 0 ((b40.drop 0).take (24 - 0))) = true := by kernel_rfl
theorem b40_n : numB ((b40.drop 8).take 8) = 184 := by kernel_rfl
theorem b40_k : numB ((b40.drop 16).take 8) = 0 := by kernel_rfl
theorem b40_s2 : (numB ((b40.drop 28).take 4) == moreN 0 ((b40.drop 28).take (28 - 28))) = true := by kernel_rfl
theorem b40_s3 : (numB ((b40.drop 32).take 4) == moreN 0 ((b40.drop 32).take (32 - 32))) = true := by kernel_rfl
theorem b40_s4 : (numB ((b40.drop 36).take 4) == moreN 0 ((b40.drop 0).take (36 - 0))) = true := by kernel_rfl
set_option maxRecDepth 100000 in
set_option maxHeartbeats 1000000 in
theorem imget_up (w : World) (A : Option Addr) (c B : Nat) (hr : Rd w B A 40 b40) (hB : B ≤ w.heap.size) (hnc : 40 ≤ c) (hc : c ≤ 9223372036854775807) :
    Calls Tryz.prog 18 #[.slice A 40 c] w fun e w' => ∃ A2, e = .returned (.tuple #[.agg #[.int .i64 184, .slice A2 0 0, .slice none 0 0], .nilIface]) ∧ Below w.heap.size w w' := by
  obtain ⟨w1, hw1⟩ : ∃ w1, w.alloc (.cells #[.int .i64 0, .slice none 0 0, .slice none 0 0] 31) = w1 := ⟨_, rfl⟩
  have hb1 : Below w.heap.size w w1 := by rw [← hw1]; exact (Below.refl _ _).alloc (Nat.le_refl _) _
  have n1 : w1.heap[w.heap.size]? = some (.cells #[.int .i64 0, .slice none 0 0, .slice none 0 0] 31 (0, 0)) := by rw [← hw1]; exact heap_alloc_new w _
  have HR1 := Lib.hid ((hr.more hB).below hb1)
  have HH := Lib.hid (imhead_ok w1 A 40 c _ b40 HR1.out hnc hc (by omega) (by omega) b40_mark b40_s1 184 0 b40_n b40_k (by decide) (by omega))
  have HBL := Lib.hid (imblocks_0 w1 A 40 c _ b40 HR1.out hnc hc (by omega) (by omega) b40_s2)
  have HN1 := Lib.hid n1
  have HB1 := Lib.hid hb1
  have HW1 := Lib.hid hw1
  clear hr hw1 hb1 n1
  go_enter Tryz.func18, Tryz.ntmps18
  go_wp2_with (first | (rw [HW1.out]) | fail)
  refine HH.out.mono ?_
  rintro e w2 ⟨rfl, rfl⟩
  go_wp2_with fail
  refine HBL.out.mono ?_
  rintro e w2 ⟨A2, rfl, hb2⟩
  have HD := Lib.hid (imdata_0 w2 A A2 c w.heap.size 0 b40 (HR1.out.below (hb2.mono HB1.out.size)) hnc hc b40_s3 b40_s4)
  have n2 := (hb2.block _ (heap_lt1 HN1.out)).trans HN1.out
  have hl2 := heap_lt1 n2
  obtain ⟨f0, f1, f2⟩ := im_thaw n2
  obtain ⟨z0, z1, z2⟩ := rk_cells n2
  have HM := Lib.hid (im_set n2 (.int .i64 184) (.slice A2 0 0) (.slice none 0 0))
  have hbf : Below w.heap.size w (((w2.setCell ⟨w.heap.size, 0, none⟩ (.int .i64 184)).setCell ⟨w.heap.size, 1, none⟩ (.slice A2 0 0)).setCell ⟨w.heap.size, 2, none⟩ (.slice none 0 0)) := (((HB1.out.trans (hb2.mono HB1.out.size)).setCell (Nat.le_refl _) _).setCell (Nat.le_refl _) _).setCell (Nat.le_refl _) _
  have HF := Lib.hid hbf
  have N2 := Lib.hid n2
  clear hb2 hbf n2 HBL HH
  go_wp2_with fail
  refine HD.out.mono ?_
  rintro e w3 ⟨rfl, rfl⟩
  go_wp2
  (try simp only [Exit.inBlock, Exit.then])
  refine im_ret (g := w.heap.size) (x := .nilIface) Tryz.results18 ?_ ?_ ?_ HM.out ?_
  · rfl
  · rfl
  · rfl
  · exact ⟨A2, rfl, HF.out⟩
set_option maxRecDepth 100000 in
set_option maxHeartbeats 1000000 in
theorem imget_nil (w : World) :
    Calls Tryz.prog 18 #[.slice none 0 0] w fun e w' => e = .returned (.tuple #[.agg #[.int .i64 0, .slice none 0 0, .slice none 0 0], .iface 63 (.int .i64 3)]) ∧ Below w.heap.size w w' := by
  obtain ⟨w1, hw1⟩ : ∃ w1, w.alloc (.cells #[.int .i64 0, .slice none 0 0, .slice none 0 0] 31) = w1 := ⟨_, rfl⟩
  have hb1 : Below w.heap.size w w1 := by rw [← hw1]; exact (Below.refl _ _).alloc (Nat.le_refl _) _
  have n1 : w1.heap[w.heap.size]? = some (.cells #[.int .i64 0, .slice none 0 0, .slice none 0 0] 31 (0, 0)) := by rw [← hw1]; exact heap_alloc_new w _
  have hl1 := heap_lt1 n1
  obtain ⟨f0, f1, f2⟩ := im_thaw n1
  obtain ⟨z0, z1, z2⟩ := rk_cells n1
  have HH := Lib.hid (imhead_nil w1)
  have HM := Lib.hid (im_set n1 (.int .i64 0) (.slice none 0 0) (.slice none 0 0))
  have hbf : Below w.heap.size w (((w1.setCell ⟨w.heap.size, 0, none⟩ (.int .i64 0)).setCell ⟨w.heap.size, 1, none⟩ (.slice none 0 0)).setCell ⟨w.heap.size, 2, none⟩ (.slice none 0 0)) := ((hb1.setCell (Nat.le_refl _) _).setCell (Nat.le_refl _) _).setCell (Nat.le_refl _) _
  have HF := Lib.hid hbf
  have HW1 := Lib.hid hw1
  have N1 := Lib.hid n1
  clear hw1 hb1 hbf n1
  go_enter Tryz.func18, Tryz.ntmps18
  go_wp2_with (first | (rw [HW1.out]) | fail)
  refine HH.out.mono ?_
  rintro e w2 ⟨rfl, rfl⟩
  go_wp2
  (try simp only [Exit.inBlock, Exit.then])
  refine im_ret (g := w.heap.size) (x := .iface 63 (.int .i64 3)) Tryz.results18 ?_ ?_ ?_ HM.out ?_
  · rfl
  · rfl
  · rfl
  · exact ⟨rfl, HF.out⟩
end Go.Proofs.YtbemaoncakcnjaaGreat

/- Rows of slices of bytes, made by the call; blocks that are others. -/
namespace Go.Proofs.YtbemaoncakcnjaaGreat
open Go.RowKit

/-- What a row of slices tells of bytes. -/
def DtO (w : World) (d : List (List UInt8)) (xs : List Value) : Prop := ∀ (i : Nat) (y : List UInt8), d[i]? = some y → y.length ≤ 100000 ∧ ∃ A k, xs[i]? = some (.slice A y.length k) ∧ w.ownsRow 0 5 1 (.slice A y.length k) y.length (y.map bv)
theorem DtO.rd {w : World} {B : Nat} {A : Option Addr} {c : Nat} {d : List (List UInt8)} {xs : List Value} (h : DtO w d xs) (ho : w.ownsRow B 23 1 (.slice A d.length c) d.length xs) : DtRd w w.heap.size A d := fun hn => by
  rcases ho.2 with ⟨hv, h0⟩ | ⟨g, cap, cur, hv, hbg, hg, hnc, hcm, hsz, htk⟩
  · omega
  · injection hv with e1 e2 e3
    refine ⟨g, 0, e1, heap_lt1 hg, fun j y hy => ?_⟩
    obtain ⟨hyl, A', k, hx, hr⟩ := h j y hy
    have hj : j < d.length := (List.getElem?_eq_some_iff.1 hy).1
    obtain ⟨A2, k2, e, hk0⟩ := own_slc hr
    injection e with e4 e5 e6
    subst e4 e6
    refine ⟨A', k, ?_, own_reads hr, by unfold maxLen; omega, ?_, hk0⟩
    · rw [Nat.zero_add, cell_of_row _ _ _ _ _ _ hg]
      rw [← htk, List.getElem?_take, if_pos (by omega)] at hx
      rw [← hx]; simp
    · rcases hr.2 with ⟨hv2, h02⟩ | ⟨g2, cap2, cur2, hv2, _, _, hnc2, _⟩
      · omega
      · injection hv2 with _ _ e7
        omega
theorem DtO.grown {w w' : World} {d : List (List UInt8)} {xs : List Value} {r : Option Nat} (h : DtO w d xs) (hg : w.grownBy w' r) (hr : ∀ k, r = some k → ∃ cs t fz, t ≠ 5 ∧ w.heap[k]? = some (.cells cs t fz)) : DtO w' d xs := by
  intro i y hy
  obtain ⟨hyl, A, k, hx, ho⟩ := h i y hy
  refine ⟨hyl, A, k, hx, own_off ho hg fun q hq hrq => ?_⟩
  obtain ⟨cs, t, fz, hne, hc⟩ := hr q hrq
  rcases ho.2 with ⟨hv, _⟩ | ⟨g, cap, cur, hv, _, hgc, _⟩
  · rw [hv] at hq; cases hq
  · rw [hv] at hq
    unfold Value.ownBlock at hq
    injection hq with hq
    subst hq
    rw [hgc] at hc
    injection hc with hc
    injection hc with _ e _
    exact absurd e.symm hne
theorem DtO.snoc {w : World} {d : List (List UInt8)} {xs : List Value} (h : DtO w d xs) (hl : xs.length = d.length) {y : List UInt8} {A : Option Addr} {k : Nat} (hy : y.length ≤ 100000) (ho : w.ownsRow 0 5 1 (.slice A y.length k) y.length (y.map bv)) : DtO w (d ++ [y]) (xs ++ [.slice A y.length k]) := by
  intro i z hz
  by_cases hi : i < d.length
  · rw [List.getElem?_append_left hi] at hz
    rw [List.getElem?_append_left (by omega)]
    exact h i z hz
  · rw [List.getElem?_append_right (by omega)] at hz
    rw [List.getElem?_append_right (by omega), hl]
    have e : i - d.length = 0 := by
      have := (List.getElem?_eq_some_iff.1 hz).1
      simp at this
      omega
    rw [e] at hz ⊢
    simp at hz
    subst hz
    exact ⟨hy, A, k, rfl, ho⟩
theorem own_ltB {w : World} {base n size : Nat} {t : TypeId} {v : Value} {xs : List Value} (h : w.ownsRow base t size v n xs) : ∀ k, v.ownBlock = some k → k < w.heap.size := by
  intro k hk
  rcases h.2 with ⟨hv, _⟩ | ⟨g, cap, cur, hv, _, hg, _⟩
  · rw [hv] at hk; cases hk
  · rw [hv] at hk
    unfold Value.ownBlock at hk
    injection hk with hk
    subst hk
    exact heap_lt1 hg
theorem own_typ {w : World} {base n size k : Nat} {t t' : TypeId} {v : Value} {xs : List Value} {cs : Array Value} {fz : Nat × Nat} (h : w.ownsRow base t size v n xs) (hk : v.ownBlock = some k) (hc : w.heap[k]? = some (.cells cs t' fz)) (hne : t ≠ t') : False := by
  rcases h.2 with ⟨hv, _⟩ | ⟨g, cap, cur, hv, _, hg, _⟩
  · rw [hv] at hk; cases hk
  · rw [hv] at hk
    unfold Value.ownBlock at hk
    injection hk with hk
    subst hk
    rw [hg] at hc
    injection hc with hc
    injection hc with _ e _
    exact hne e
theorem own_row {w : World} {base n size : Nat} {t : TypeId} {v : Value} {xs : List Value} (h : w.ownsRow base t size v n xs) : ∀ k, v.ownBlock = some k → ∃ cs fz, w.heap[k]? = some (.cells cs t fz) := by
  intro k hk
  rcases h.2 with ⟨hv, _⟩ | ⟨g, cap, cur, hv, _, hg, _⟩
  · rw [hv] at hk; cases hk
  · rw [hv] at hk
    unfold Value.ownBlock at hk
    injection hk with hk
    subst hk
    exact ⟨_, _, hg⟩
theorem own_ge {w : World} {base n size : Nat} {t : TypeId} {v : Value} {xs : List Value} (h : w.ownsRow base t size v n xs) : ∀ k, v.ownBlock = some k → base ≤ k := by
  intro k hk
  rcases h.2 with ⟨hv, _⟩ | ⟨g, cap, cur, hv, hb, _, _⟩
  · rw [hv] at hk; cases hk
  · rw [hv] at hk
    unfold Value.ownBlock at hk
    injection hk with hk
    subst hk
    exact hb
theorem grown_set (w : World) (g i : Nat) (v : Value) : w.grownBy (w.setCell ⟨g, i, none⟩ v) (some g) :=
  ⟨rfl, rfl, rfl, by simp, fun k _ hne => heap_setCell_other _ _ _ _ (fun e => hne (by rw [e]))⟩
theorem DtO.stay {w w' : World} {d : List (List UInt8)} {xs : List Value} (h : DtO w d xs) (hb : Below w.heap.size w w') : DtO w' d xs := by
  intro i y hy
  obtain ⟨hyl, A, k, hx, ho⟩ := h i y hy
  exact ⟨hyl, A, k, hx, own_stay ho hb (own_ltB ho)⟩
theorem dt_inf : (Tryz.prog.info? 23).map (fun i => (i.zero, i.size, i.bytes)) = some (some (.slice none 0 0), 1, 24) := by kernel_rfl
theorem run_one_d (w : World) (A : Option Addr) (n c : Nat) : (Instr.buildSlice 29 1 #[(0, .slice A n c)]).run Tryz.prog w = .ok (.slice (some ⟨w.heap.size, 0, none⟩) 1 1) (w.alloc (.cells #[.slice A n c] 23)) := by
  obtain ⟨i0, hi, hz0, hz1, hz2⟩ := info_parts dt_inf
  refine run_buildSlice w 29 23 1 _ _ i0 _ Tryz.underlying29 hi hz0 (by omega) (by omega) ?_
  rw [hz1]
  have e : Array.range (1 * 1) = #[0] := by decide
  rw [e]
  simp [Instr.fill, Value.cells]
end Go.Proofs.YtbemaoncakcnjaaGreat
