/- Texts of mine, joined: Ref11, Law08, Cls1, ImgM, Img1, Img2, Img3, Img6, Img8, ImgD, Img16, Img19. -/
import Derived.Lib.Strings
import Derived.Lib.Slices
import Derived.Lib.Small
import Derived.Lib.Walk
import Derived.Lib.BitFns
import Derived.Deep.QuietTactic
import Derived.BigQuiet
import Derived.Deep.Cut
import Derived.Great.BuildSlice
import Derived.Laws.OwnMore
import Derived.Test.YtbemaoncakcnjaaR3

/- The contracts of the document's own check: in, Check. -/
namespace Go.Proofs.Ytbemaoncakcnjaa
open Go.RowKit

def nats (l : List Nat) : List Int := l.map fun n : Nat => (n : Int)
theorem own_ints {w : World} {base n : Nat} {t : TypeId} {A : Option Addr} {c : Nat} {l : List Nat} (h : w.ownsRow base t 1 (.slice A n c) n (l.map iV)) (hn : n = l.length) : IRd w w.heap.size A (nats l) := fun h0 => by
  have h0 : 0 < l.length := by simpa [nats] using h0
  rcases h.2 with ⟨_, h0'⟩ | ⟨g, _, _, h', _⟩
  · omega
  · injection h' with e
    subst e
    refine ⟨g, 0, rfl, (h.lt g rfl).2, fun j x hx => ?_⟩
    have hj : j < l.length := by
      rcases Nat.lt_or_ge j l.length with h | h
      · exact h
      · rw [nats, List.getElem?_map, List.getElem?_eq_none h] at hx; cases hx
    rw [Nat.zero_add, h.cellAt j (by omega), List.getElem?_map]
    rw [nats, List.getElem?_map] at hx
    cases hl : l[j]? with
    | none => rw [hl] at hx; cases hx
    | some y => rw [hl] at hx; injection hx with hx; rw [← hx]; rfl

theorem countP_take {α : Type} {p : α → Bool} {l : List α} {j : Nat} {x : α} (h : l[j]? = some x) : (l.take (j + 1)).countP p = (l.take j).countP p + if p x = true then 1 else 0 := by
  rw [List.take_add_one, h, List.countP_append]
  simp [List.countP_cons]
theorem any_take {α : Type} {p : α → Bool} {l : List α} {j : Nat} {x : α} (h : l[j]? = some x) : (l.take (j + 1)).any p = ((l.take j).any p || p x) := by
  rw [List.take_add_one, h, List.any_append]
  simp

section
variable (w : World)
end
end Go.Proofs.Ytbemaoncakcnjaa

/- Layer 8's laws over the contracts of the program's two functions: the head, ClassTells. -/
namespace Go.Proofs.Ytbemaoncakcnjaa
open Go.RowKit

def ClassC : Prop := ∀ (w : World) (s : Int), (-9223372036854775808 ≤ s ∧ s ≤ 9223372036854775807) → Calls Try.prog 86 #[.int .i64 s] w fun e w' => e = .returned (.int .i64 (classI s)) ∧ Below w.heap.size w w'

end Go.Proofs.Ytbemaoncakcnjaa

/- The program's classes: isSize, bits.Len, Need, Class. -/
namespace Go.Proofs.Ytbemaoncakcnjaa
open Go.RowKit

section
variable (w : World)
set_option maxHeartbeats 400000 in
theorem cissize_any (n : Int) (hn : -9223372036854775808 ≤ n ∧ n ≤ 9223372036854775807) (b : Bool) (hb : isSz n = b) :
    Calls Try.prog 95 #[.int .i64 n] w fun e w' => e = .returned (.bool b) ∧ w = w' := by
  by_cases h1 : 32 ≤ n
  · by_cases h2 : n ≤ 16384
    · have e : (n % 16 == 0) = b := by rw [← hb]; simp [isSz, h1, h2]
      have HE := Lib.hid e
      clear hb e
      go_enter Try.func95, Try.ntmps95
      go_wp2
      go_ret
      exact ⟨rt_b HE.out, rfl⟩
    · obtain rfl : false = b := by rw [← hb]; simp [isSz, h2]
      clear hb
      go_enter Try.func95, Try.ntmps95
      go_wp2
      go_ret
      exact ⟨rfl, rfl⟩
  · obtain rfl : false = b := by rw [← hb]; simp [isSz, h1]
    clear hb
    go_enter Try.func95, Try.ntmps95
    go_wp2
    go_ret
    exact ⟨rfl, rfl⟩

theorem len8_le : ∀ q : Fin 256, 0 ≤ Lib.len8 (q.1 : Int) ∧ Lib.len8 (q.1 : Int) ≤ 8 := by decide +kernel
set_option maxHeartbeats 4000000 in
set_option maxRecDepth 100000 in
theorem blen64_int (x : Int) (h0 : 0 ≤ x) (h1 : x ≤ 255) : Calls Try.prog 102 #[.int .u64 x] w fun e w' => e = .returned (.int .i64 (wrap64 (wrap64 (Lib.len8 x)))) ∧ w = w' := by
  go_enter Try.func102, Try.ntmps102
  go_wp2
  go_ret
  exact ⟨rfl, rfl⟩
theorem blen64_any (q : Nat) (hq : q ≤ 255) : Calls Try.prog 102 #[.int .u64 (q : Int)] w fun e w' => e = .returned (.int .i64 (Lib.len8 (q : Int))) ∧ w = w' := by
  have hl := len8_le ⟨q, by omega⟩
  have h := blen64_int w (q : Int) (by omega) (by omega)
  have e : wrap64 (wrap64 (Lib.len8 (q : Int))) = Lib.len8 (q : Int) := by
    simp only at hl
    unfold wrap64
    omega
  rw [e] at h
  exact h
set_option maxHeartbeats 400000 in
theorem blen_any (q : Nat) (hq : q ≤ 255) : Calls Try.prog 96 #[.int .u64 (q : Int)] w fun e w' => e = .returned (.int .i64 (Lib.len8 (q : Int))) ∧ w = w' := by
  have H := Lib.hid (blen64_any w q hq)
  go_enter Try.func96, Try.ntmps96
  go_wp2_with fail
  refine H.out.mono ?_
  rintro e w1 ⟨rfl, rfl⟩
  go_wp2
  go_ret
  exact ⟨rfl, rfl⟩

theorem class_len : ∀ q : Fin 65, 1 ≤ q.1 → (q.1 < 2 ∧ Lib.len8 (q.1 : Int) = 1) ∨ (2 ≤ q.1 ∧ q.1 < 4 ∧ Lib.len8 (q.1 : Int) = 2) ∨ (4 ≤ q.1 ∧ q.1 < 8 ∧ Lib.len8 (q.1 : Int) = 3) ∨ (8 ≤ q.1 ∧ q.1 < 16 ∧ Lib.len8 (q.1 : Int) = 4) ∨ (16 ≤ q.1 ∧ q.1 < 32 ∧ Lib.len8 (q.1 : Int) = 5) ∨ (32 ≤ q.1 ∧ q.1 < 64 ∧ Lib.len8 (q.1 : Int) = 6) ∨ (q.1 = 64 ∧ Lib.len8 (q.1 : Int) = 7) := by decide +kernel
end

theorem classC : ClassC := by
  intro w s hs
  cases hb : isSz s
  · rw [show classI s = -1 by simp [classI, hb]]
    have HI := Lib.hid (cissize_any w s hs false hb)
    clear hb
    go_enter Try.func86, Try.ntmps86
    go_wp2_with fail
    with_reducible refine HI.out.mono ?_
    rintro e w1 ⟨rfl, rfl⟩
    go_wp2
    go_ret
    exact ⟨rfl, Below.refl _ _⟩
  · have h := (isSz_iff s).1 hb
    have HI := Lib.hid (cissize_any w s hs true hb)
    by_cases h0 : s ≤ 256
    · have e : (s - 32) / 16 = classI s := by
        unfold classI
        rw [if_neg (by simp [hb]), if_pos h0]
        omega
      obtain ⟨c, hc⟩ : ∃ c, classI s = c := ⟨_, rfl⟩
      rw [hc] at e ⊢
      have HC := Lib.hid e
      clear e hc hb
      go_enter Try.func86, Try.ntmps86
      go_wp2_with fail
      with_reducible refine HI.out.mono ?_
      rintro e w1 ⟨rfl, rfl⟩
      go_wp2
      go_ret
      exact ⟨rt_i HC.out, Below.refl _ _⟩
    · obtain ⟨q, hq⟩ : ∃ q : Nat, s / 256 = (q : Int) := ⟨(s / 256).toNat, by omega⟩
      have hq1 : 1 ≤ q ∧ q ≤ 64 := by omega
      have cl := class_len ⟨q, by omega⟩ hq1.1
      simp only at cl
      have e : 14 + Lib.len8 (q : Int) = classI s := by
        unfold classI
        rw [if_neg (by simp [hb]), if_neg h0]
        rcases cl with ⟨_, cl⟩ | ⟨_, _, cl⟩ | ⟨_, _, cl⟩ | ⟨_, _, cl⟩ | ⟨_, _, cl⟩ | ⟨_, _, cl⟩ | ⟨_, cl⟩ <;> rw [cl] <;> (repeat' split) <;> omega
      obtain ⟨c, hc⟩ : ∃ c, classI s = c := ⟨_, rfl⟩
      rw [hc] at e ⊢
      have hl := len8_le ⟨q, by omega⟩
      simp only at hl
      have HC := Lib.hid e
      have HL := Lib.hid (fun W => blen_any W q (by omega))
      clear e hc hb cl
      obtain ⟨l, hl8⟩ : ∃ l, Lib.len8 (q : Int) = l := ⟨_, rfl⟩
      rw [hl8] at HC HL hl
      clear hl8
      go_enter Try.func86, Try.ntmps86
      go_wp2_with fail
      with_reducible refine HI.out.mono ?_
      rintro e w1 ⟨rfl, rfl⟩
      go_wp2_with fail
      refine (HL.out _).mono ?_
      rintro e w1 ⟨rfl, rfl⟩
      go_wp2
      go_ret
      exact ⟨rt_i HC.out, Below.refl _ _⟩
end Go.Proofs.Ytbemaoncakcnjaa

/- Images, plain: whether one may be, its bytes. No program in sight. -/
namespace Go.Proofs.Ytbemaoncakcnjaa

/-- A block as it was drawn. -/
structure Rk where
  o : Int
  s : Int
  u : Bool
def lenOk (n : Int) : Bool := decide (184 ≤ n) && (decide (n ≤ 16384) && (n - 184) % 16 == 0)
theorem lenOk_iff (n : Int) : lenOk n = true ↔ 184 ≤ n ∧ n ≤ 16384 ∧ (n - 184) % 16 = 0 := by simp [lenOk]
theorem lenOk_false (n : Int) : lenOk n = false ↔ ¬ (184 ≤ n ∧ n ≤ 16384 ∧ (n - 184) % 16 = 0) := by rw [← lenOk_iff]; simp
/-- Blocks that may be, from a place on, behind a free one or not. -/
def rowOk (n : Int) : Int → Bool → List Rk → Bool
  | e, _, [] => e == n
  | e, f, x :: r => (x.o == e) && (isSz x.s && (decide (x.s ≤ n - e) && (!(f && !x.u) && rowOk n (e + x.s) (!x.u) r)))
/-- As many as used blocks, each as long as what its block holds. -/
def datOk : List Rk → List (List UInt8) → Bool
  | [], d => d.isEmpty
  | x :: r, d => if x.u = true then (match d with
      | [] => false
      | y :: d' => ((y.length : Int) == x.s - 16) && datOk r d') else datOk r d
def mayI (n : Int) (l : List Rk) (d : List (List UInt8)) : Bool := lenOk n && (rowOk n 184 false l && datOk l d)
theorem rowOk_sz {n : Int} : ∀ {l : List Rk} {e : Int} {f : Bool}, rowOk n e f l = true → ∀ x ∈ l, isSz x.s = true
  | [], e, f, h, x, hx => by cases hx
  | y :: r, e, f, h, x, hx => by
    unfold rowOk at h
    simp only [Bool.and_eq_true] at h
    rcases List.mem_cons.1 hx with rfl | hx
    · exact h.2.1
    · exact rowOk_sz h.2.2.2.2 x hx
theorem take_snoc {α : Type} {l : List α} {j : Nat} {x : α} (h : l[j]? = some x) : l.take (j + 1) = l.take j ++ [x] := by
  rw [List.take_add_one, h]
  rfl
theorem flat_take {d : List (List UInt8)} {j : Nat} {x : List UInt8} (h : d[j]? = some x) : (d.take (j + 1)).flatten = (d.take j).flatten ++ x := by
  rw [take_snoc h, List.flatten_append]
  simp
theorem drop_at {α : Type} {l : List α} {j : Nat} {x : α} (h : l[j]? = some x) : l.drop j = x :: l.drop (j + 1) := by
  obtain ⟨hj, e⟩ := List.getElem?_eq_some_iff.1 h
  rw [List.drop_eq_getElem_cons hj, e]
end Go.Proofs.Ytbemaoncakcnjaa

/- Images in memory: blocks and bytes that came in. -/
namespace Go.Proofs.Ytbemaoncakcnjaa
open Go.RowKit

/-- A slice of blocks. -/
def RkRd (w : World) (B : Nat) (A : Option Addr) (l : List Rk) : Prop := 0 < l.length → ∃ b o, A = some ⟨b, o, none⟩ ∧ b < B ∧ ∀ j x, l[j]? = some x →
  w.cell? ⟨b, o + j * 3, none⟩ = some (.int .i64 x.o) ∧ w.cell? ⟨b, o + j * 3 + 1, none⟩ = some (.int .i64 x.s) ∧ w.cell? ⟨b, o + j * 3 + 2, none⟩ = some (.bool x.u) ∧
  (-9223372036854775808 ≤ x.o ∧ x.o ≤ 9223372036854775807) ∧ (-9223372036854775808 ≤ x.s ∧ x.s ≤ 9223372036854775807)
/-- A slice of slices of bytes. -/
def DtRd (w : World) (B : Nat) (A : Option Addr) (d : List (List UInt8)) : Prop := 0 < d.length → ∃ b o, A = some ⟨b, o, none⟩ ∧ b < B ∧ ∀ j y, d[j]? = some y →
  ∃ A' k, w.cell? ⟨b, o + j, none⟩ = some (.slice A' y.length k) ∧ Rd w B A' y.length y ∧ y.length ≤ maxLen ∧ y.length ≤ k ∧ (A' = none → k = 0)
section
variable {w w' : World} {B B' : Nat} {A : Option Addr} {l : List Rk} {d : List (List UInt8)}
theorem RkRd.below (h : RkRd w B A l) (hb : Below B w w') : RkRd w' B A l := fun hn => by
  obtain ⟨b, o, e, hB, hc⟩ := h hn
  refine ⟨b, o, e, hB, fun j x hx => ?_⟩
  obtain ⟨h0, h1, h2, h3⟩ := hc j x hx
  exact ⟨(hb.cell (p := ⟨b, o + j * 3, none⟩) hB).trans h0, (hb.cell (p := ⟨b, o + j * 3 + 1, none⟩) hB).trans h1, (hb.cell (p := ⟨b, o + j * 3 + 2, none⟩) hB).trans h2, h3⟩
theorem RkRd.more (h : RkRd w B A l) (hB : B ≤ B') : RkRd w B' A l := fun hn => by
  obtain ⟨b, o, e, hb, hc⟩ := h hn
  exact ⟨b, o, e, Nat.lt_of_lt_of_le hb hB, hc⟩
theorem DtRd.below (h : DtRd w B A d) (hb : Below B w w') : DtRd w' B A d := fun hn => by
  obtain ⟨b, o, e, hB, hc⟩ := h hn
  refine ⟨b, o, e, hB, fun j x hx => ?_⟩
  obtain ⟨A', k, h0, h1, h2⟩ := hc j x hx
  exact ⟨A', k, (hb.cell (p := ⟨b, o + j, none⟩) hB).trans h0, h1.below hb, h2⟩
theorem DtRd.more (h : DtRd w B A d) (hB : B ≤ B') : DtRd w B' A d := fun hn => by
  obtain ⟨b, o, e, hb, hc⟩ := h hn
  refine ⟨b, o, e, Nat.lt_of_lt_of_le hb hB, fun j x hx => ?_⟩
  obtain ⟨A', k, h0, h1, h2⟩ := hc j x hx
  exact ⟨A', k, h0, h1.more hB, h2⟩
end
theorem below_dN (w : World) (k : Nat) : Below w.heap.size w (w.drewN k) := ⟨rfl, rfl, rfl, Nat.le_refl _, fun _ _ => rfl⟩
/-- An operation whose guard says no. -/
theorem tail_no {P : Program} {ops : Array Oper} {Q : Exit → Act → World → Prop} {i B : Nat} {o : Oper} {a : Act} {w : World} {K : Act → World → Prop} (ho : ops[i]? = some o) (d : Option Tmp) (hd : o.dst = d) (hw : Region.wanted o (yielded ops a.tmps) = false) (hk : K (a.put d undef) w) : wpOp P ops Q i (fun a'' w'' => Below B w w'' ∧ K a'' w'') a w := by
  subst hd
  unfold wpOp
  simp only [ho]
  rw [if_neg (by rw [hw]; decide)]
  exact ⟨Below.refl _ _, hk⟩
/-- An image's value. -/
def imV (n : Int) (A1 : Option Addr) (ll k1 : Nat) (A2 : Option Addr) (dl k2 : Nat) : Value := .agg #[.int .i64 n, .slice A1 ll k1, .slice A2 dl k2]
end Go.Proofs.Ytbemaoncakcnjaa

/- The program's images: May (layer 15). -/
namespace Go.Proofs.Ytbemaoncakcnjaa
open Go.RowKit

theorem rk_cells {w : World} {x0 x1 x2 : Value} {g : Nat} {t : TypeId} (h : w.heap[g]? = some (.cells #[x0, x1, x2] t (0, 0))) :
    w.cell? ⟨g, 0, none⟩ = some x0 ∧ w.cell? ⟨g, 1, none⟩ = some x1 ∧ w.cell? ⟨g, 2, none⟩ = some x2 := by
  refine ⟨?_, ?_, ?_⟩
  · rw [cell_of_row w g 0 _ _ (0, 0) h]; rfl
  · rw [cell_of_row w g 1 _ _ (0, 0) h]; rfl
  · rw [cell_of_row w g 2 _ _ (0, 0) h]; rfl
theorem heap_lt1 {w : World} {g : Nat} {cs : Array Value} {t : TypeId} (h : w.heap[g]? = some (.cells cs t (0, 0))) : g < w.heap.size := by
  rcases Nat.lt_or_ge g w.heap.size with h' | h'
  · exact h'
  · rw [Array.getElem?_eq_none h'] at h; cases h
/-- Len, as a number of 64 bits. -/
def u64N (n : Int) : Nat := (n % 18446744073709551616).toNat
theorem lenOk_u64 (n : Int) (hn : -9223372036854775808 ≤ n ∧ n ≤ 9223372036854775807) : lenOk ((u64N n : Nat) : Int) = lenOk n := by
  unfold u64N
  rcases Int.lt_or_le n 0 with h | h
  · have e1 : lenOk n = false := (lenOk_false n).2 (by omega)
    rw [e1]
    exact (lenOk_false _).2 (by omega)
  · rw [Int.emod_eq_of_lt h (by omega), Int.toNat_of_nonneg h]
set_option maxRecDepth 100000 in
set_option maxHeartbeats 400000 in
theorem imlen_any (w : World) (v : Nat) (hv : v < 18446744073709551616) (b : Bool) (hb : lenOk (v : Int) = b) :
    Calls Try.prog 42 #[.int .u64 (v : Int)] w fun e w' => e = .returned (.bool b) ∧ w = w' := by
  by_cases h1 : 184 ≤ v
  · by_cases h2 : v ≤ 16384
    · by_cases h3 : (v - 184) % 16 = 0
      · obtain rfl : true = b := by rw [← hb]; exact ((lenOk_iff _).2 (by omega)).symm
        clear hb
        go_enter Try.func42, Try.ntmps42
        go_wp2
        go_ret
        exact ⟨ret_bool (by rw [beq_iff_eq]; omega), rfl⟩
      · obtain rfl : false = b := by rw [← hb]; exact ((lenOk_false _).2 (by omega)).symm
        clear hb
        go_enter Try.func42, Try.ntmps42
        go_wp2
        go_ret
        exact ⟨ret_bool (by rw [beq_eq_false_iff_ne]; omega), rfl⟩
    · obtain rfl : false = b := by rw [← hb]; exact ((lenOk_false _).2 (by omega)).symm
      clear hb
      go_enter Try.func42, Try.ntmps42
      go_wp2
      go_ret
      exact ⟨rfl, rfl⟩
  · obtain rfl : false = b := by rw [← hb]; exact ((lenOk_false _).2 (by omega)).symm
    clear hb
    go_enter Try.func42, Try.ntmps42
    go_wp2
    go_ret
    exact ⟨rfl, rfl⟩
set_option maxRecDepth 100000 in
set_option maxHeartbeats 4000000 in
theorem imrow_any (w : World) (A : Option Addr) (k1 : Nat) (l : List Rk) (hr : RkRd w w.heap.size A l) (hl : l.length ≤ 1000000) (n : Int) (hn : 184 ≤ n ∧ n ≤ 16384) (y : Bool) (hy : rowOk n 184 false l = y) :
    Calls Try.prog 43 #[.slice A l.length k1, .int .i64 n] w fun e w' => e = .returned (.bool y) ∧ Below w.heap.size w w' := by
  have HR := Lib.hid hr
  have HY := Lib.hid hy
  obtain ⟨m, hm⟩ : ∃ m, l.length = m := ⟨_, rfl⟩
  rw [hm] at hl ⊢
  have HM := Lib.hid hm
  clear hr hy hm
  go_enter Try.func43, Try.ntmps43
  go_wp2
  go_loopw [5, 6, 11] (fun e f t wr => ∃ (j : Nat) (z : Int) (b : Bool), t = .int .i64 (j : Int) ∧ e = .int .i64 z ∧ f = .bool b ∧ j ≤ m ∧ (184 ≤ z ∧ z ≤ n) ∧ rowOk n z b (l.drop j) = y ∧ Below w.heap.size w wr) (fun _ _ t _ => m - (intOf t).toNat)
  case atStart => exact ⟨0, 184, false, rfl, rfl, rfl, Nat.zero_le _, ⟨Int.le_refl _, hn.1⟩, HY.out, Below.refl _ _⟩
  case round =>
    obtain ⟨j, z, b, rfl, rfl, rfl, hj, hz, hyy, hb⟩ := hrel
    by_cases hlt : j < m
    · obtain ⟨x, hx⟩ : ∃ x, l[j]? = some x := ⟨l[j]'(by rw [HM.out]; exact hlt), List.getElem?_eq_getElem _⟩
      obtain ⟨b2, o, rfl, hbb, hcl⟩ := HR.out (by rw [HM.out]; omega)
      obtain ⟨p0, p1, p2, hxo, hxs⟩ := hcl j x hx
      have r0 := (hb.cell (p := ⟨b2, o + j * 3, none⟩) hbb).trans p0
      have r1 := (hb.cell (p := ⟨b2, o + j * 3 + 1, none⟩) hbb).trans p1
      have r2 := (hb.cell (p := ⟨b2, o + j * 3 + 2, none⟩) hbb).trans p2
      rw [drop_at hx] at hyy
      unfold rowOk at hyy
      obtain ⟨xo, xs, xu⟩ := x
      dsimp only at p0 p1 p2 r0 r1 r2 hyy hxo hxs
      obtain ⟨w4, hw4⟩ : ∃ w4, wr.alloc (.cells #[.int .i64 xo, .int .i64 xs, .bool xu] 65) = w4 := ⟨_, rfl⟩
      have hb4 : Below w.heap.size w w4 := by rw [← hw4]; exact hb.alloc hb.size _
      have n4 : w4.heap[wr.heap.size]? = some (.cells #[.int .i64 xo, .int .i64 xs, .bool xu] 65 (0, 0)) := by rw [← hw4]; exact heap_alloc_new wr _
      obtain ⟨d0, d1, d2⟩ := rk_cells n4
      have hl4 := heap_lt1 n4
      have HW4 := Lib.hid hw4
      have HB4 := Lib.hid hb4
      have HYY := Lib.hid hyy
      clear hx hb p0 p1 p2 hb4 n4 hw4 hcl hyy
      by_cases ho : xo = z
      · have g0 : (xo != z) = false := by rw [bne_eq_false_iff_eq]; exact ho
        obtain ⟨pk, hpk⟩ : ∃ pk, packN xs xu = pk := ⟨_, rfl⟩
        have HPK := Lib.hid (fun W => tpack_any (w := W) xs xu hxs pk hpk)
        by_cases hsz : isSz xs = true
        · have h3 := (isSz_iff _).1 hsz
          have hpk0 : pk ≠ 0 := by
            rw [← hpk]; unfold packN; rw [if_pos hsz]; omega
          have g1 : ((pk : Int) == 0) = false := by rw [beq_eq_false_iff_ne]; omega
          by_cases hle : xs ≤ n - z
          · have g2 : decide (n - z < xs) = false := decide_eq_false (by omega)
            by_cases hfu : b = true ∧ xu = false
            · obtain ⟨rfl, rfl⟩ := hfu
              have HF : Hid (y = false) := (show y = false by
                have e := HYY.out
                simp at e
                first | exact e.symm | exact e)
              clear hsz h3 hpk ho
              go_wp2_with (first | (rw [HW4.out]) | fail)
              refine (HPK.out _).mono ?_
              rintro e w5 ⟨rfl, rfl⟩
              go_wp2
              go_ret
              exact ⟨ret_bool HF.out.symm, HB4.out⟩
            · have HF : Hid (rowOk n (z + xs) (!xu) (l.drop (j + 1)) = y) := (show _ = y by
                have e := HYY.out
                have e1 : (b && !xu) = false := by
                  cases b <;> cases xu <;> first | rfl | exact absurd ⟨rfl, rfl⟩ hfu
                have e2 : (xo == z) = true := by rw [beq_iff_eq]; exact ho
                rw [e2, hsz, decide_eq_true hle, e1] at e
                simpa using e)
              clear hsz hpk ho
              cases b <;> cases xu
              all_goals first | exact absurd ⟨rfl, rfl⟩ hfu | skip
              all_goals
                clear hfu
                go_wp2_with (first | (rw [HW4.out]) | fail)
                refine (HPK.out _).mono ?_
                rintro e w5 ⟨rfl, rfl⟩
                go_wp2_with fail
                go_quiet (fail)
                go_wp2
                go_roundw
                case rel => exact ⟨j + 1, z + xs, _, by go_num, by go_num, rfl, by omega, by omega, HF.out, HB4.out.trans ((below_dN _ _).mono HB4.out.size)⟩
                case measure => simp only [intOf]; omega
          · have g2 : decide (n - z < xs) = true := decide_eq_true (by omega)
            have HF : Hid (y = false) := (show y = false by
              have e := HYY.out
              rw [decide_eq_false hle] at e
              simp at e
              first | exact e.symm | exact e)
            clear hsz hpk ho
            go_wp2_with (first | (rw [HW4.out]) | fail)
            refine (HPK.out _).mono ?_
            rintro e w5 ⟨rfl, rfl⟩
            go_wp2
            go_ret
            exact ⟨ret_bool HF.out.symm, HB4.out⟩
        · have hpk0 : pk = 0 := by rw [← hpk]; unfold packN; rw [if_neg hsz]
          subst hpk0
          have HF : Hid (y = false) := (show y = false by
            have e := HYY.out
            have hs2 : isSz xs = false := by simpa using hsz
            rw [hs2] at e
            simp at e
            first | exact e.symm | exact e)
          clear hsz hpk ho
          go_wp2_with (first | (rw [HW4.out]) | fail)
          refine (HPK.out _).mono ?_
          rintro e w5 ⟨rfl, rfl⟩
          go_wp2
          go_ret
          exact ⟨ret_bool HF.out.symm, HB4.out⟩
      · have g0 : (xo != z) = true := by rw [bne_iff_ne]; exact ho
        have HF : Hid (y = false) := (show y = false by
          have e := HYY.out
          have e2 : (xo == z) = false := by rw [beq_eq_false_iff_ne]; exact ho
          rw [e2] at e
          simp at e
          first | exact e.symm | exact e)
        clear ho
        go_wp2_with (first | (rw [HW4.out]) | fail)
        go_ret
        exact ⟨ret_bool HF.out.symm, HB4.out⟩
    · have hd : l.drop j = [] := List.drop_eq_nil_of_le (by rw [HM.out]; omega)
      rw [hd] at hyy
      unfold rowOk at hyy
      have HYY := Lib.hid hyy
      have HBB := Lib.hid hb
      clear hyy hb hd
      go_wp2
      go_ret
      exact ⟨ret_bool HYY.out, HBB.out⟩
set_option maxHeartbeats 400000 in
theorem imheld_any (w : World) (o s : Int) (u : Bool) (hs : isSz s = true) :
    Calls Try.prog 45 #[.agg #[.int .i64 o, .int .i64 s, .bool u]] w fun e w' => e = .returned (.int .i64 (s - 16)) ∧ Below w.heap.size w w' := by
  have h3 := (isSz_iff _).1 hs
  obtain ⟨w1, hw1⟩ : ∃ w1, w.alloc (.cells #[.int .i64 o, .int .i64 s, .bool u] 65) = w1 := ⟨_, rfl⟩
  have hb1 : Below w.heap.size w w1 := by rw [← hw1]; exact (Below.refl _ _).alloc (Nat.le_refl _) _
  have n1 : w1.heap[w.heap.size]? = some (.cells #[.int .i64 o, .int .i64 s, .bool u] 65 (0, 0)) := by rw [← hw1]; exact heap_alloc_new w _
  obtain ⟨_, d1, _⟩ := rk_cells n1
  have hl := heap_lt1 n1
  have HW1 := Lib.hid hw1
  have HB1 := Lib.hid hb1
  clear hw1 hb1 n1 hs
  go_enter Try.func45, Try.ntmps45
  go_wp2_with (first | (rw [HW1.out]) | fail)
  go_ret
  exact ⟨rfl, HB1.out⟩
set_option maxRecDepth 100000 in
set_option maxHeartbeats 4000000 in
theorem imdat_any (w : World) (A1 A2 : Option Addr) (k1 k2 : Nat) (l : List Rk) (d : List (List UInt8)) (hr : RkRd w w.heap.size A1 l) (hd : DtRd w w.heap.size A2 d) (hl : l.length ≤ 1000000) (hdl : d.length ≤ 1000000) (hs : ∀ x ∈ l, isSz x.s = true) (y : Bool) (hy : datOk l d = y) :
    Calls Try.prog 44 #[.slice A2 d.length k2, .slice A1 l.length k1] w fun e w' => e = .returned (.bool y) ∧ Below w.heap.size w w' := by
  have HR := Lib.hid hr
  have HD := Lib.hid hd
  have HY := Lib.hid hy
  have HS := Lib.hid hs
  obtain ⟨m, hm⟩ : ∃ m, l.length = m := ⟨_, rfl⟩
  obtain ⟨n, hn⟩ : ∃ n, d.length = n := ⟨_, rfl⟩
  rw [hm] at hl ⊢
  rw [hn] at hdl ⊢
  have HM := Lib.hid hm
  have HN := Lib.hid hn
  clear hr hd hy hs hm hn
  go_enter Try.func44, Try.ntmps44
  go_wp2
  go_loopw [5, 10] (fun v t wr => ∃ (j i : Nat), t = .int .i64 (j : Int) ∧ v = .int .i64 (i : Int) ∧ j ≤ m ∧ i ≤ n ∧ datOk (l.drop j) (d.drop i) = y ∧ Below w.heap.size w wr) (fun _ t _ => m - (intOf t).toNat)
  case atStart => exact ⟨0, 0, rfl, rfl, Nat.zero_le _, Nat.zero_le _, HY.out, Below.refl _ _⟩
  case round =>
    obtain ⟨j, i, rfl, rfl, hj, hi, hyy, hb⟩ := hrel
    by_cases hlt : j < m
    · obtain ⟨x, hx⟩ : ∃ x, l[j]? = some x := ⟨l[j]'(by rw [HM.out]; exact hlt), List.getElem?_eq_getElem _⟩
      obtain ⟨b2, o, rfl, hbb, hcl⟩ := HR.out (by rw [HM.out]; omega)
      obtain ⟨p0, p1, p2, hxo, hxs⟩ := hcl j x hx
      have r0 := (hb.cell (p := ⟨b2, o + j * 3, none⟩) hbb).trans p0
      have r1 := (hb.cell (p := ⟨b2, o + j * 3 + 1, none⟩) hbb).trans p1
      have r2 := (hb.cell (p := ⟨b2, o + j * 3 + 2, none⟩) hbb).trans p2
      have hsx := HS.out x (List.mem_of_getElem? hx)
      rw [drop_at hx] at hyy
      unfold datOk at hyy
      obtain ⟨xo, xs, xu⟩ := x
      dsimp only at p0 p1 p2 r0 r1 r2 hyy hxo hxs hsx
      obtain ⟨w4, hw4⟩ : ∃ w4, wr.alloc (.cells #[.int .i64 xo, .int .i64 xs, .bool xu] 65) = w4 := ⟨_, rfl⟩
      have hb4 : Below w.heap.size w w4 := by rw [← hw4]; exact hb.alloc hb.size _
      have n4 : w4.heap[wr.heap.size]? = some (.cells #[.int .i64 xo, .int .i64 xs, .bool xu] 65 (0, 0)) := by rw [← hw4]; exact heap_alloc_new wr _
      obtain ⟨d0, d1, d2⟩ := rk_cells n4
      have hl4 := heap_lt1 n4
      have HW4 := Lib.hid hw4
      have HB4 := Lib.hid hb4
      have HYY := Lib.hid hyy
      have HN4 := Lib.hid n4
      clear hx hb p0 p1 p2 hb4 n4 hw4 hcl hyy
      cases xu with
      | false =>
        have HF : Hid (datOk (l.drop (j + 1)) (d.drop i) = y) := (show _ = y from by
          have e := HYY.out
          rw [if_neg (by decide)] at e
          exact e)
        go_wp2_with (first | (rw [HW4.out]) | fail)
        go_roundw
        case rel => exact ⟨j + 1, i, by go_num, rfl, by omega, hi, HF.out, HB4.out⟩
        case measure => simp only [intOf]; omega
      | true =>
        by_cases hin : i = n
        · have g0 : ((i : Int) == (n : Int)) = true := by rw [beq_iff_eq]; omega
          have HF : Hid (y = false) := (show y = false from by
            have e := HYY.out
            rw [if_pos rfl, List.drop_eq_nil_of_le (by rw [HN.out]; omega)] at e
            exact e.symm)
          obtain ⟨wd, hwd⟩ : ∃ wd, w4.drew = wd := ⟨_, rfl⟩
          have HWD := Lib.hid hwd
          have HBD : Hid (Below w.heap.size w wd) := (show Below _ _ _ by rw [← hwd]; exact HB4.out.drew)
          clear hwd
          go_wp2_with (first | (rw [HW4.out]) | fail)
          refine wp_region_tail wd.heap.size [([0, 1, 2, 3, 4, 5, 6, 7, 8, 9, 10], 11)] [12, 13] [] (by kernel_rfl) (by kernel_rfl) (by kernel_rfl) (fun _ _ _ _ _ h => h) ?_
          rw [HWD.out]
          refine tail_cons (l := ?segA) ?hsegA ?_
          case hsegA => simp only [pick, List.getElem?_toArray, List.getElem?_cons_succ, List.getElem?_cons_zero]; rfl
          repeat (go_big_quiet_step (fail))
          refine wpQuiet_nil ?_
          refine tail_no rfl (some 28) rfl rfl ⟨wd.heap.size, Nat.le_refl _, ?_⟩
          simp only [Act.put, List.setIfInBounds_toArray, List.set_cons_zero, List.set_cons_succ]
          refine tail_last (l := ?lastA) (t := []) ?hlastA ?htlastA ?_
          case hlastA => simp only [pick, List.getElem?_toArray, List.getElem?_cons_succ, List.getElem?_cons_zero]; rfl
          case htlastA => rfl
          repeat (go_big_quiet_step (fail))
          refine wpQuiet_nil ?_
          go_wp2
          go_ret
          exact ⟨ret_bool HF.out.symm, HBD.out⟩
        · have g0 : ((i : Int) == (n : Int)) = false := by rw [beq_eq_false_iff_ne]; omega
          have hi2 : (i : Int) < (n : Int) := by omega
          obtain ⟨z, hz⟩ : ∃ z, d[i]? = some z := ⟨d[i]'(by rw [HN.out]; omega), List.getElem?_eq_getElem _⟩
          obtain ⟨b3, o3, rfl, hb3, hc3⟩ := HD.out (by rw [HN.out]; omega)
          obtain ⟨A', kz, z0, _, zl, _, _⟩ := hc3 i z hz
          obtain ⟨zn, hzn⟩ : ∃ zn, z.length = zn := ⟨_, rfl⟩
          rw [hzn] at z0 zl
          unfold maxLen at zl
          obtain ⟨wd, hwd⟩ : ∃ wd, w4.drew = wd := ⟨_, rfl⟩
          have hwb : Below w4.heap.size w4 wd := by rw [← hwd]; exact (Below.refl _ _).drew
          have hbd := HB4.out.trans (hwb.mono HB4.out.size)
          have nd := (hwb.block _ (heap_lt1 HN4.out)).trans HN4.out
          have zd := (hbd.cell (p := ⟨b3, o3 + i, none⟩) hb3).trans z0
          have l3 : b3 < wd.heap.size := Nat.lt_of_lt_of_le hb3 hbd.size
          obtain ⟨e0, e1, e2⟩ := rk_cells nd
          have le := heap_lt1 nd
          have hyy := HYY.out
          rw [if_pos rfl, drop_at hz] at hyy
          dsimp only at hyy
          rw [hzn] at hyy
          have HYZ := Lib.hid hyy
          have HHELD := Lib.hid (imheld_any wd xo xs true hsx)
          have HWD := Lib.hid hwd
          have HBD := Lib.hid hbd
          clear hwd hwb hbd nd hyy hz hc3 z0
          by_cases hzz : (zn : Int) = xs - 16
          · have g1 : ((zn : Int) != xs - 16) = false := by rw [bne_eq_false_iff_eq]; exact hzz
            have HF : Hid (datOk (l.drop (j + 1)) (d.drop (i + 1)) = y) := (show _ = y from by
              have e := HYZ.out
              have e2 : ((zn : Int) == xs - 16) = true := by rw [beq_iff_eq]; exact hzz
              rw [e2, Bool.true_and] at e
              exact e)
            clear hzz
            go_wp2_with (first | (rw [HW4.out]) | fail)
            refine wp_region_tail wd.heap.size [([0, 1, 2, 3, 4, 5, 6, 7, 8, 9, 10], 11)] [12, 13] [] (by kernel_rfl) (by kernel_rfl) (by kernel_rfl) (fun _ _ _ _ _ h => h) ?_
            rw [HWD.out]
            have q0 : ∀ z : LaterB wd.heap.size wd, z.val.cell? ⟨b3, o3 + i, none⟩ = some (.slice A' zn kz) := fun z => (z.ext.cell (p := ⟨b3, o3 + i, none⟩) l3).trans zd
            have q1 : ∀ z : LaterB wd.heap.size wd, z.val.cell? ⟨wr.heap.size, 0, none⟩ = some (.int .i64 xo) := fun z => (z.ext.cell (p := ⟨wr.heap.size, 0, none⟩) le).trans e0
            have q2 : ∀ z : LaterB wd.heap.size wd, z.val.cell? ⟨wr.heap.size, 1, none⟩ = some (.int .i64 xs) := fun z => (z.ext.cell (p := ⟨wr.heap.size, 1, none⟩) le).trans e1
            have q3 : ∀ z : LaterB wd.heap.size wd, z.val.cell? ⟨wr.heap.size, 2, none⟩ = some (.bool true) := fun z => (z.ext.cell (p := ⟨wr.heap.size, 2, none⟩) le).trans e2
            refine tail_cons (l := ?segB) ?hsegB ?_
            case hsegB => simp only [pick, List.getElem?_toArray, List.getElem?_cons_succ, List.getElem?_cons_zero]; rfl
            repeat (go_big_quiet_step (fail))
            refine wpQuiet_nil ?_
            clear q0 q1 q2 q3
            refine tail_call (vs := #[.agg #[.int .i64 xo, .int .i64 xs, .bool true]]) Try.call45 rfl rfl rfl (R := fun r w' => r = .int .i64 (xs - 16) ∧ Below wd.heap.size wd w') (HHELD.out.mono ?_) wd.heap.size (Nat.le_refl _) ?_
            · rintro e w' ⟨rfl, hb⟩
              exact ⟨_, rfl, hb, rfl, hb⟩
            rintro r w5 hb5 ⟨rfl, _⟩
            have HB5 := Lib.hid (HBD.out.trans (hb5.mono HBD.out.size))
            clear hb5
            simp only [Act.put, List.setIfInBounds_toArray, List.set_cons_zero, List.set_cons_succ]
            refine tail_last (l := ?lastB) (t := []) ?hlastB ?htlastB ?_
            case hlastB => simp only [pick, List.getElem?_toArray, List.getElem?_cons_succ, List.getElem?_cons_zero]; rfl
            case htlastB => rfl
            repeat (go_big_quiet_step (fail))
            refine wpQuiet_nil ?_
            go_wp2
            go_roundw
            case rel => exact ⟨j + 1, i + 1, by go_num, by go_num, by omega, by omega, HF.out, HB5.out⟩
            case measure => simp only [intOf]; omega
          · have g1 : ((zn : Int) != xs - 16) = true := by rw [bne_iff_ne]; exact hzz
            have HF : Hid (y = false) := (show y = false from by
              have e := HYZ.out
              have e2 : ((zn : Int) == xs - 16) = false := by rw [beq_eq_false_iff_ne]; exact hzz
              rw [e2, Bool.false_and] at e
              exact e.symm)
            clear hzz
            go_wp2_with (first | (rw [HW4.out]) | fail)
            refine wp_region_tail wd.heap.size [([0, 1, 2, 3, 4, 5, 6, 7, 8, 9, 10], 11)] [12, 13] [] (by kernel_rfl) (by kernel_rfl) (by kernel_rfl) (fun _ _ _ _ _ h => h) ?_
            rw [HWD.out]
            have q0 : ∀ z : LaterB wd.heap.size wd, z.val.cell? ⟨b3, o3 + i, none⟩ = some (.slice A' zn kz) := fun z => (z.ext.cell (p := ⟨b3, o3 + i, none⟩) l3).trans zd
            have q1 : ∀ z : LaterB wd.heap.size wd, z.val.cell? ⟨wr.heap.size, 0, none⟩ = some (.int .i64 xo) := fun z => (z.ext.cell (p := ⟨wr.heap.size, 0, none⟩) le).trans e0
            have q2 : ∀ z : LaterB wd.heap.size wd, z.val.cell? ⟨wr.heap.size, 1, none⟩ = some (.int .i64 xs) := fun z => (z.ext.cell (p := ⟨wr.heap.size, 1, none⟩) le).trans e1
            have q3 : ∀ z : LaterB wd.heap.size wd, z.val.cell? ⟨wr.heap.size, 2, none⟩ = some (.bool true) := fun z => (z.ext.cell (p := ⟨wr.heap.size, 2, none⟩) le).trans e2
            refine tail_cons (l := ?segC) ?hsegC ?_
            case hsegC => simp only [pick, List.getElem?_toArray, List.getElem?_cons_succ, List.getElem?_cons_zero]; rfl
            repeat (go_big_quiet_step (fail))
            refine wpQuiet_nil ?_
            clear q0 q1 q2 q3
            refine tail_call (vs := #[.agg #[.int .i64 xo, .int .i64 xs, .bool true]]) Try.call45 rfl rfl rfl (R := fun r w' => r = .int .i64 (xs - 16) ∧ Below wd.heap.size wd w') (HHELD.out.mono ?_) wd.heap.size (Nat.le_refl _) ?_
            · rintro e w' ⟨rfl, hb⟩
              exact ⟨_, rfl, hb, rfl, hb⟩
            rintro r w5 hb5 ⟨rfl, _⟩
            have HB5 := Lib.hid (HBD.out.trans (hb5.mono HBD.out.size))
            clear hb5
            simp only [Act.put, List.setIfInBounds_toArray, List.set_cons_zero, List.set_cons_succ]
            refine tail_last (l := ?lastC) (t := []) ?hlastC ?htlastC ?_
            case hlastC => simp only [pick, List.getElem?_toArray, List.getElem?_cons_succ, List.getElem?_cons_zero]; rfl
            case htlastC => rfl
            repeat (go_big_quiet_step (fail))
            refine wpQuiet_nil ?_
            go_wp2
            go_ret
            exact ⟨ret_bool HF.out.symm, HB5.out⟩
    · have hdn : l.drop j = [] := List.drop_eq_nil_of_le (by rw [HM.out]; omega)
      rw [hdn] at hyy
      unfold datOk at hyy
      have HYY := Lib.hid hyy
      have HBB := Lib.hid hb
      clear hyy hb hdn
      go_wp2
      go_ret
      exact ⟨ret_bool (by
        rw [← HYY.out]
        by_cases hin : i = n
        · rw [List.drop_eq_nil_of_le (by rw [HN.out]; omega)]
          rw [List.isEmpty_nil, beq_iff_eq]; omega
        · have e : ((i : Int) == (n : Int)) = false := by rw [beq_eq_false_iff_ne]; omega
          rw [e]
          cases hd2 : d.drop i with
          | nil => have := congrArg List.length hd2; rw [List.length_drop, HN.out] at this; simp at this; omega
          | cons _ _ => rfl), HBB.out⟩
end Go.Proofs.Ytbemaoncakcnjaa

/- The program's images: May, the whole. -/
namespace Go.Proofs.Ytbemaoncakcnjaa
open Go.RowKit

theorem u64N_cast (n : Int) : ((u64N n : Nat) : Int) = n % 18446744073709551616 := by unfold u64N; omega
set_option maxRecDepth 100000 in
set_option maxHeartbeats 1000000 in
theorem immay_any (w : World) (n : Int) (hn : -9223372036854775808 ≤ n ∧ n ≤ 9223372036854775807) (A1 A2 : Option Addr) (k1 k2 : Nat) (l : List Rk) (d : List (List UInt8)) (hr : RkRd w w.heap.size A1 l) (hd : DtRd w w.heap.size A2 d) (hl : l.length ≤ 1000000) (hdl : d.length ≤ 1000000) (y : Bool) (hy : mayI n l d = y) :
    Calls Try.prog 19 #[imV n A1 l.length k1 A2 d.length k2] w fun e w' => e = .returned (.bool y) ∧ Below w.heap.size w w' := by
  unfold imV
  obtain ⟨w1, hw1⟩ : ∃ w1, w.alloc (.cells #[.int .i64 n, .slice A1 l.length k1, .slice A2 d.length k2] 28) = w1 := ⟨_, rfl⟩
  have hb1 : Below w.heap.size w w1 := by rw [← hw1]; exact (Below.refl _ _).alloc (Nat.le_refl _) _
  have n1 : w1.heap[w.heap.size]? = some (.cells #[.int .i64 n, .slice A1 l.length k1, .slice A2 d.length k2] 28 (0, 0)) := by rw [← hw1]; exact heap_alloc_new w _
  obtain ⟨d0, d1, d2⟩ := rk_cells n1
  have hl1 := heap_lt1 n1
  have HLEN : Hid (∀ W, Calls Try.prog 42 #[.int .u64 (n % 18446744073709551616)] W fun e w' => e = .returned (.bool (lenOk n)) ∧ W = w') := fun W => by
    have h := imlen_any W (u64N n) (by unfold u64N; omega) (lenOk n) (lenOk_u64 n hn)
    rw [u64N_cast] at h
    exact h
  have HB1 := Lib.hid hb1
  have HR := Lib.hid hr
  have HD := Lib.hid hd
  have HY := Lib.hid hy
  obtain ⟨ll, hll⟩ : ∃ ll, l.length = ll := ⟨_, rfl⟩
  obtain ⟨dl, hdll⟩ : ∃ dl, d.length = dl := ⟨_, rfl⟩
  have HROW : Hid (lenOk n = true → Calls Try.prog 43 #[.slice A1 ll k1, .int .i64 n] w1 fun e w' => e = .returned (.bool (rowOk n 184 false l)) ∧ Below w1.heap.size w1 w') := fun hk => by
    have h3 := (lenOk_iff n).1 hk
    have := imrow_any w1 A1 k1 l ((hr.below hb1).more hb1.size) hl n ⟨h3.1, h3.2.1⟩ _ rfl
    rw [hll] at this
    exact this
  have HDAT : Hid (∀ W, Below w.heap.size w W → rowOk n 184 false l = true → Calls Try.prog 44 #[.slice A2 dl k2, .slice A1 ll k1] W fun e w' => e = .returned (.bool (datOk l d)) ∧ Below W.heap.size W w') := fun W hW hk => by
    have := imdat_any W A1 A2 k1 k2 l d ((hr.below hW).more hW.size) ((hd.below hW).more hW.size) hl hdl (rowOk_sz hk) _ rfl
    rw [hll, hdll] at this
    exact this
  rw [hll] at d1
  rw [hdll] at d2
  rw [hll, hdll]
  rw [hll, hdll] at hw1 n1
  have HN1 := Lib.hid n1
  have HW1 := Lib.hid hw1
  clear hw1 hb1 n1 hr hd hy hll hdll
  cases hlo : lenOk n with
  | false =>
    have HF : Hid (false = y) := (show false = y by rw [← HY.out]; unfold mayI; rw [hlo]; rfl)
    rw [hlo] at HLEN
    clear hlo
    go_enter Try.func19, Try.ntmps19
    go_wp2_with (first | (rw [HW1.out]) | fail)
    refine (HLEN.out _).mono ?_
    rintro e w2 ⟨rfl, rfl⟩
    go_wp2
    go_ret
    exact ⟨ret_bool HF.out, HB1.out⟩
  | true =>
    have HROW2 := Lib.hid (HROW.out hlo)
    rw [hlo] at HLEN
    cases hro : rowOk n 184 false l with
    | false =>
      have HF : Hid (false = y) := (show false = y by rw [← HY.out]; unfold mayI; rw [hlo, hro]; rfl)
      rw [hro] at HROW2
      clear hlo hro
      go_enter Try.func19, Try.ntmps19
      go_wp2_with (first | (rw [HW1.out]) | fail)
      refine (HLEN.out _).mono ?_
      rintro e w2 ⟨rfl, rfl⟩
      go_wp2_with fail
      refine HROW2.out.mono ?_
      rintro e w2 ⟨rfl, hb2⟩
      have HF2 := Lib.hid (HB1.out.trans (hb2.mono HB1.out.size))
      clear hb2
      go_wp2
      go_ret
      exact ⟨ret_bool HF.out, HF2.out⟩
    | true =>
      have HDAT2 := Lib.hid (fun W hW => HDAT.out W hW hro)
      have HF : Hid (datOk l d = y) := (show datOk l d = y by rw [← HY.out]; unfold mayI; rw [hlo, hro]; rfl)
      rw [hro] at HROW2
      clear hlo hro
      go_enter Try.func19, Try.ntmps19
      go_wp2_with (first | (rw [HW1.out]) | fail)
      refine (HLEN.out _).mono ?_
      rintro e w2 ⟨rfl, rfl⟩
      go_wp2_with fail
      refine HROW2.out.mono ?_
      rintro e w2 ⟨rfl, hb2⟩
      have hb02 := HB1.out.trans (hb2.mono HB1.out.size)
      have HD3 := Lib.hid (HDAT2.out w2 hb02)
      have n2 := (hb2.block _ (heap_lt1 HN1.out)).trans HN1.out
      obtain ⟨e0, e1, e2⟩ := rk_cells n2
      have hl2 := heap_lt1 n2
      have HF2 := Lib.hid hb02
      clear hb2 hb02 n2
      go_wp2_with fail
      refine HD3.out.mono ?_
      rintro e w3 ⟨rfl, hb3⟩
      have HF3 := Lib.hid (HF2.out.trans (hb3.mono HF2.out.size))
      clear hb3
      go_wp2
      go_ret
      exact ⟨ret_bool HF.out, HF3.out⟩
end Go.Proofs.Ytbemaoncakcnjaa

/- The document's images: Put (genimg6.py). -/
namespace Go.Proofs.Ytbemaoncakcnjaa
open Go.RowKit

theorem own_stay {w w' : World} {B' base n size : Nat} {t : TypeId} {v : Value} {xs : List Value} (h : w.ownsRow base t size v n xs) (hb : Below B' w w') (hlt : ∀ k, v.ownBlock = some k → k < B') : w'.ownsRow base t size v n xs := by
  refine ⟨h.1, ?_⟩
  rcases h.2 with h2 | ⟨g, cap, cur, hv, hg, hh, r⟩
  · exact .inl h2
  · exact .inr ⟨g, cap, cur, hv, hg, (hb.block g (hlt g (by rw [hv]; rfl))).trans hh, r⟩
theorem own_off {w w' : World} {base n size : Nat} {t : TypeId} {v : Value} {xs : List Value} {r : Option Nat} (h : w.ownsRow base t size v n xs) (hg : w.grownBy w' r) (hne : ∀ k, v.ownBlock = some k → r ≠ some k) : w'.ownsRow base t size v n xs := by
  refine ⟨h.1, ?_⟩
  rcases h.2 with h2 | ⟨g, cap, cur, hv, hb, hh, q⟩
  · exact .inl h2
  · have hk : v.ownBlock = some g := by rw [hv]; rfl
    refine .inr ⟨g, cap, cur, hv, hb, ?_, q⟩
    obtain ⟨_, _, _, _, h5⟩ := hg
    exact (h5 g (h.lt g hk).2 (fun e => hne g hk e.symm)).trans hh
theorem own_lift {w : World} {base base' n size : Nat} {t : TypeId} {v : Value} {xs : List Value} (h : w.ownsRow base t size v n xs) (hb : base' ≤ base) : w.ownsRow base' t size v n xs := by
  refine ⟨h.1, ?_⟩
  rcases h.2 with h2 | ⟨g, cap, cur, hv, hg, r⟩
  · exact .inl h2
  · exact .inr ⟨g, cap, cur, hv, Nat.le_trans hb hg, r⟩
theorem own_slc {w : World} {base n size : Nat} {t : TypeId} {v : Value} {xs : List Value} (h : w.ownsRow base t size v n xs) : ∃ A c, v = .slice A n c ∧ (A = none → c = 0) := by
  rcases h.2 with ⟨rfl, h0⟩ | ⟨g, cap, cur, rfl, _⟩
  · exact ⟨none, 0, by rw [h0], fun _ => rfl⟩
  · exact ⟨_, cap, rfl, fun e => by cases e⟩
/-- An own row, as bytes. -/
theorem own_reads {w : World} {base n c : Nat} {A : Option Addr} {bs : List UInt8} (h : w.ownsRow base 5 1 (.slice A n c) n (bs.map bv)) : Rd w w.heap.size A n bs := by
  obtain ⟨A', c', e, _, hr⟩ := own_any h
  injection e with e1 _ _
  subst e1
  exact hr
end Go.Proofs.Ytbemaoncakcnjaa

/- The program's images: a sum behind its bytes; the head; Get of the document's example, and of nothing. -/
namespace Go.Proofs.Ytbemaoncakcnjaa
open Go.RowKit

theorem im_ret {fn : Func} {R : Ending → World → Prop} {a : Act} {w : World} {p u : Tmp} {g : Nat} {x : Value} {n : Int} {A1 A2 : Option Addr} {a1 b1 a2 b2 : Nat} (hres : fn.results = #[.cell p 28, .tmp u]) (hp : a.tmps.getD p undef = .pointer (some ⟨g, 0, none⟩)) (hx : a.tmps.getD u undef = x) (hd : a.defers = [])
    (hg : w.heap[g]? = some (.cells #[.int .i64 n, .slice A1 a1 b1, .slice A2 a2 b2] 28 (0, 0))) (hR : R (.returned (.tuple #[.agg #[.int .i64 n, .slice A1 a1 b1, .slice A2 a2 b2], x])) w) : bodyPost Try.prog fn R .ret a w := by
  obtain ⟨c0, c1, c2⟩ := rk_cells hg
  refine bodyPost_ret (v := .tuple #[.agg #[.int .i64 n, .slice A1 a1 b1, .slice A2 a2 b2], x]) ?_ hd hR
  rw [results_cell_tmp hres, hp, hx]
  simp [go_sem, c0, c1, c2]
theorem im_set {y0 y1 y2 : Value} {w : World} {g : Nat} {t : TypeId} (h : w.heap[g]? = some (.cells #[y0, y1, y2] t (0, 0))) (x0 x1 x2 : Value) :
    (((w.setCell ⟨g, 0, none⟩ x0).setCell ⟨g, 1, none⟩ x1).setCell ⟨g, 2, none⟩ x2).heap[g]? = some (.cells #[x0, x1, x2] t (0, 0)) := by
  have h1 := heap_setCell_same w g 0 _ _ x0 h
  have h2 := heap_setCell_same _ g 1 _ _ x1 h1
  have h3 := heap_setCell_same _ g 2 _ _ x2 h2
  rw [h3]
  rfl
theorem im_thaw {w : World} {g : Nat} {cs : Array Value} {t : TypeId} (h : w.heap[g]? = some (.cells cs t (0, 0))) : w.frozen? ⟨g, 0, none⟩ = false ∧ w.frozen? ⟨g, 1, none⟩ = false ∧ w.frozen? ⟨g, 2, none⟩ = false :=
  ⟨frozen_of_row w g 0 _ _ h, frozen_of_row w g 1 _ _ h, frozen_of_row w g 2 _ _ h⟩
end Go.Proofs.Ytbemaoncakcnjaa

/- Rows of slices of bytes, made by the call; blocks that are others. -/
namespace Go.Proofs.Ytbemaoncakcnjaa
open Go.RowKit

/-- What a row of slices tells of bytes. -/
def DtO (w : World) (d : List (List UInt8)) (xs : List Value) : Prop := ∀ (i : Nat) (y : List UInt8), d[i]? = some y → y.length ≤ 100000 ∧ ∃ A k, xs[i]? = some (.slice A y.length k) ∧ w.ownsRow 0 5 1 (.slice A y.length k) y.length (y.map bv)
theorem DtO.rd {w : World} {B : Nat} {A : Option Addr} {c : Nat} {d : List (List UInt8)} {xs : List Value} (h : DtO w d xs) (ho : w.ownsRow B 44 1 (.slice A d.length c) d.length xs) : DtRd w w.heap.size A d := fun hn => by
  rcases ho.2 with ⟨hv, h0⟩ | ⟨g, cap, cur, hv, hbg, hg, hnc, hcm, hsz, htk⟩
  · omega
  · injection hv with e1 e2 e3
    refine ⟨g, 0, e1, heap_lt1 hg, fun j y hy => ?_⟩
    obtain ⟨hyl, A', k, hx, hr⟩ := h j y hy
    have hj : j < d.length := (List.getElem?_eq_some_iff.1 hy).1
    obtain ⟨A2, k2, e, hk0⟩ := own_slc hr
    injection e with e4 e5 e6
    subst e4 e6
    refine ⟨A', k, ?_, own_reads hr, by unfold maxLen; omega, ?_, hk0⟩
    · rw [Nat.zero_add, cell_of_row _ _ _ _ _ _ hg]
      rw [← htk, List.getElem?_take, if_pos (by omega)] at hx
      rw [← hx]; simp
    · rcases hr.2 with ⟨hv2, h02⟩ | ⟨g2, cap2, cur2, hv2, _, _, hnc2, _⟩
      · omega
      · injection hv2 with _ _ e7
        omega
theorem DtO.grown {w w' : World} {d : List (List UInt8)} {xs : List Value} {r : Option Nat} (h : DtO w d xs) (hg : w.grownBy w' r) (hr : ∀ k, r = some k → ∃ cs t fz, t ≠ 5 ∧ w.heap[k]? = some (.cells cs t fz)) : DtO w' d xs := by
  intro i y hy
  obtain ⟨hyl, A, k, hx, ho⟩ := h i y hy
  refine ⟨hyl, A, k, hx, own_off ho hg fun q hq hrq => ?_⟩
  obtain ⟨cs, t, fz, hne, hc⟩ := hr q hrq
  rcases ho.2 with ⟨hv, _⟩ | ⟨g, cap, cur, hv, _, hgc, _⟩
  · rw [hv] at hq; cases hq
  · rw [hv] at hq
    unfold Value.ownBlock at hq
    injection hq with hq
    subst hq
    rw [hgc] at hc
    injection hc with hc
    injection hc with _ e _
    exact absurd e.symm hne
theorem DtO.snoc {w : World} {d : List (List UInt8)} {xs : List Value} (h : DtO w d xs) (hl : xs.length = d.length) {y : List UInt8} {A : Option Addr} {k : Nat} (hy : y.length ≤ 100000) (ho : w.ownsRow 0 5 1 (.slice A y.length k) y.length (y.map bv)) : DtO w (d ++ [y]) (xs ++ [.slice A y.length k]) := by
  intro i z hz
  by_cases hi : i < d.length
  · rw [List.getElem?_append_left hi] at hz
    rw [List.getElem?_append_left (by omega)]
    exact h i z hz
  · rw [List.getElem?_append_right (by omega)] at hz
    rw [List.getElem?_append_right (by omega), hl]
    have e : i - d.length = 0 := by
      have := (List.getElem?_eq_some_iff.1 hz).1
      simp at this
      omega
    rw [e] at hz ⊢
    simp at hz
    subst hz
    exact ⟨hy, A, k, rfl, ho⟩
theorem own_ltB {w : World} {base n size : Nat} {t : TypeId} {v : Value} {xs : List Value} (h : w.ownsRow base t size v n xs) : ∀ k, v.ownBlock = some k → k < w.heap.size := by
  intro k hk
  rcases h.2 with ⟨hv, _⟩ | ⟨g, cap, cur, hv, _, hg, _⟩
  · rw [hv] at hk; cases hk
  · rw [hv] at hk
    unfold Value.ownBlock at hk
    injection hk with hk
    subst hk
    exact heap_lt1 hg
theorem own_typ {w : World} {base n size k : Nat} {t t' : TypeId} {v : Value} {xs : List Value} {cs : Array Value} {fz : Nat × Nat} (h : w.ownsRow base t size v n xs) (hk : v.ownBlock = some k) (hc : w.heap[k]? = some (.cells cs t' fz)) (hne : t ≠ t') : False := by
  rcases h.2 with ⟨hv, _⟩ | ⟨g, cap, cur, hv, _, hg, _⟩
  · rw [hv] at hk; cases hk
  · rw [hv] at hk
    unfold Value.ownBlock at hk
    injection hk with hk
    subst hk
    rw [hg] at hc
    injection hc with hc
    injection hc with _ e _
    exact hne e
theorem own_row {w : World} {base n size : Nat} {t : TypeId} {v : Value} {xs : List Value} (h : w.ownsRow base t size v n xs) : ∀ k, v.ownBlock = some k → ∃ cs fz, w.heap[k]? = some (.cells cs t fz) := by
  intro k hk
  rcases h.2 with ⟨hv, _⟩ | ⟨g, cap, cur, hv, _, hg, _⟩
  · rw [hv] at hk; cases hk
  · rw [hv] at hk
    unfold Value.ownBlock at hk
    injection hk with hk
    subst hk
    exact ⟨_, _, hg⟩
theorem own_ge {w : World} {base n size : Nat} {t : TypeId} {v : Value} {xs : List Value} (h : w.ownsRow base t size v n xs) : ∀ k, v.ownBlock = some k → base ≤ k := by
  intro k hk
  rcases h.2 with ⟨hv, _⟩ | ⟨g, cap, cur, hv, hb, _, _⟩
  · rw [hv] at hk; cases hk
  · rw [hv] at hk
    unfold Value.ownBlock at hk
    injection hk with hk
    subst hk
    exact hb
theorem grown_set (w : World) (g i : Nat) (v : Value) : w.grownBy (w.setCell ⟨g, i, none⟩ v) (some g) :=
  ⟨rfl, rfl, rfl, by simp, fun k _ hne => heap_setCell_other _ _ _ _ (fun e => hne (by rw [e]))⟩
theorem DtO.stay {w w' : World} {d : List (List UInt8)} {xs : List Value} (h : DtO w d xs) (hb : Below w.heap.size w w') : DtO w' d xs := by
  intro i y hy
  obtain ⟨hyl, A, k, hx, ho⟩ := h i y hy
  exact ⟨hyl, A, k, hx, own_stay ho hb (own_ltB ho)⟩
theorem dt_inf : (Try.prog.info? 44).map (fun i => (i.zero, i.size, i.bytes)) = some (some (.slice none 0 0), 1, 24) := by kernel_rfl
theorem run_one_d (w : World) (A : Option Addr) (n c : Nat) : (Instr.buildSlice 23 1 #[(0, .slice A n c)]).run Try.prog w = .ok (.slice (some ⟨w.heap.size, 0, none⟩) 1 1) (w.alloc (.cells #[.slice A n c] 44)) := by
  obtain ⟨i0, hi, hz0, hz1, hz2⟩ := info_parts dt_inf
  refine run_buildSlice w 23 44 1 _ _ i0 _ Try.underlying23 hi hz0 (by omega) (by omega) ?_
  rw [hz1]
  have e : Array.range (1 * 1) = #[0] := by decide
  rw [e]
  simp [Instr.fill, Value.cells]
end Go.Proofs.Ytbemaoncakcnjaa

/- The document's Same, of images alike. -/
namespace Go.Proofs.Ytbemaoncakcnjaa
open Go.RowKit

set_option maxRecDepth 100000 in
set_option maxHeartbeats 2000000 in
theorem rsame_eq (w : World) (n : Int) (A1 A2 C1 C2 : Option Addr) (k1 k2 e1 e2 : Nat) (l : List Rk) (d : List (List UInt8)) (hr : RkRd w w.heap.size A1 l) (hd : DtRd w w.heap.size A2 d) (hr2 : RkRd w w.heap.size C1 l) (hd2 : DtRd w w.heap.size C2 d) (hl : l.length ≤ 1000000) (hdl : d.length ≤ 1000000) :
    Calls Try.prog 21 #[imV n A1 l.length k1 A2 d.length k2, imV n C1 l.length e1 C2 d.length e2] w fun e w' => e = .returned (.bool true) ∧ Below w.heap.size w w' := by
  unfold imV
  obtain ⟨w1, hw1⟩ : ∃ w1, w.alloc (.cells #[.int .i64 n, .slice A1 l.length k1, .slice A2 d.length k2] 35) = w1 := ⟨_, rfl⟩
  obtain ⟨w2, hw2⟩ : ∃ w2, w1.alloc (.cells #[.int .i64 n, .slice C1 l.length e1, .slice C2 d.length e2] 35) = w2 := ⟨_, rfl⟩
  have hb1 : Below w.heap.size w w1 := by rw [← hw1]; exact (Below.refl _ _).alloc (Nat.le_refl _) _
  have hb2 : Below w1.heap.size w1 w2 := by rw [← hw2]; exact (Below.refl _ _).alloc (Nat.le_refl _) _
  have n1 : w1.heap[w.heap.size]? = some (.cells #[.int .i64 n, .slice A1 l.length k1, .slice A2 d.length k2] 35 (0, 0)) := by rw [← hw1]; exact heap_alloc_new w _
  have m2 : w2.heap[w1.heap.size]? = some (.cells #[.int .i64 n, .slice C1 l.length e1, .slice C2 d.length e2] 35 (0, 0)) := by rw [← hw2]; exact heap_alloc_new w1 _
  have n2 := (hb2.block _ (heap_lt1 n1)).trans n1
  have HR := Lib.hid hr
  have HD := Lib.hid hd
  have HR2 := Lib.hid hr2
  have HD2 := Lib.hid hd2
  have HW1 := Lib.hid hw1
  have HW2 := Lib.hid hw2
  have HB2 := Lib.hid (hb1.trans (hb2.mono hb1.size))
  have HN2 := Lib.hid n2
  have HM2 := Lib.hid m2
  obtain ⟨m, hm⟩ : ∃ m, l.length = m := ⟨_, rfl⟩
  obtain ⟨dm, hdm⟩ : ∃ dm, d.length = dm := ⟨_, rfl⟩
  rw [hm, hdm] at HW1 HW2 HN2 HM2
  rw [hm] at hl
  rw [hdm] at hdl
  rw [hm, hdm]
  have HLM := Lib.hid hm
  have HDM := Lib.hid hdm
  obtain ⟨a0, a1, a2⟩ := rk_cells HN2.out
  obtain ⟨b0, b1, b2⟩ := rk_cells HM2.out
  have la := heap_lt1 HN2.out
  have lb := heap_lt1 HM2.out
  clear hr hd hr2 hd2 hw1 hw2 hb1 hb2 n1 m2 n2 hm hdm
  go_enter Try.func21, Try.ntmps21
  go_wp2_with (first | (rw [HW1.out]) | (rw [HW2.out]) | fail)
  go_loopw [5] (fun t wr => ∃ (j : Nat), t = .int .i64 (j : Int) ∧ j ≤ m ∧ Below w2.heap.size w2 wr) (fun t _ => m - (intOf t).toNat)
  case atStart => exact ⟨0, rfl, Nat.zero_le _, Below.refl _ _⟩
  case round =>
    obtain ⟨j, rfl, hj, hb⟩ := hrel
    have a1' := (hb.cell (p := ⟨w.heap.size, 1, none⟩) la).trans a1
    have a2' := (hb.cell (p := ⟨w.heap.size, 2, none⟩) la).trans a2
    have b1' := (hb.cell (p := ⟨w1.heap.size, 1, none⟩) lb).trans b1
    have b2' := (hb.cell (p := ⟨w1.heap.size, 2, none⟩) lb).trans b2
    have lw := hb.size
    have lah : w.heap.size < wr.heap.size := by omega
    have lbh : w1.heap.size < wr.heap.size := by omega
    have HBW := Lib.hid hb
    clear hb
    by_cases hlt : j < m
    · obtain ⟨x, hx⟩ : ∃ x, l[j]? = some x := ⟨l[j]'(by rw [HLM.out]; exact hlt), List.getElem?_eq_getElem _⟩
      obtain ⟨g, o, rfl, hg, hcl⟩ := HR.out (by rw [HLM.out]; omega)
      obtain ⟨g', o', rfl, hg', hcl'⟩ := HR2.out (by rw [HLM.out]; omega)
      have hww := HB2.out.trans (HBW.out.mono HB2.out.size)
      obtain ⟨p0, p1, p2, _⟩ := hcl j x hx
      obtain ⟨p0', p1', p2', _⟩ := hcl' j x hx
      have r0 := (hww.cell (p := ⟨g, o + j * 3, none⟩) hg).trans p0
      have r1 := (hww.cell (p := ⟨g, o + j * 3 + 1, none⟩) hg).trans p1
      have r2 := (hww.cell (p := ⟨g, o + j * 3 + 2, none⟩) hg).trans p2
      have r0' := (hww.cell (p := ⟨g', o' + j * 3, none⟩) hg').trans p0'
      have r1' := (hww.cell (p := ⟨g', o' + j * 3 + 1, none⟩) hg').trans p1'
      have r2' := (hww.cell (p := ⟨g', o' + j * 3 + 2, none⟩) hg').trans p2'
      have lg : g < wr.heap.size := Nat.lt_of_lt_of_le hg hww.size
      have lg' : g' < wr.heap.size := Nat.lt_of_lt_of_le hg' hww.size
      obtain ⟨xo, xs, xu⟩ := x
      dsimp only at r0 r1 r2 r0' r1' r2'
      clear p0 p1 p2 p0' p1' p2' hcl hcl' hx hww
      go_wp2_with fail
      go_quiet (fail)
      go_wp2
      go_roundw
      case rel => exact ⟨j + 1, by go_num, by omega, HBW.out.trans ((below_dN _ _).mono HBW.out.size)⟩
      case measure => simp only [intOf]; omega
    · clear a1' b1'
      have hj2 : ¬ j < m := hlt
      have a1' := (HBW.out.cell (p := ⟨w.heap.size, 1, none⟩) la).trans a1
      have b1' := (HBW.out.cell (p := ⟨w1.heap.size, 1, none⟩) lb).trans b1
      go_wp2_with fail
      go_loopw [6] (fun t W => ∃ (i : Nat), t = .int .i64 (i : Int) ∧ i ≤ dm ∧ Below w2.heap.size w2 W) (fun t _ => dm - (intOf t).toNat)
      case atStart => exact ⟨0, rfl, Nat.zero_le _, HBW.out⟩
      case round =>
        obtain ⟨i, rfl, hi, hb⟩ := hrel
        clear a1' a2' b1' b2' lah lbh lw
        have a1' := (hb.cell (p := ⟨w.heap.size, 1, none⟩) la).trans a1
        have a2' := (hb.cell (p := ⟨w.heap.size, 2, none⟩) la).trans a2
        have b1' := (hb.cell (p := ⟨w1.heap.size, 1, none⟩) lb).trans b1
        have b2' := (hb.cell (p := ⟨w1.heap.size, 2, none⟩) lb).trans b2
        have lw := hb.size
        have lah : w.heap.size < wr.heap.size := by omega
        have lbh : w1.heap.size < wr.heap.size := by omega
        have HBX := Lib.hid hb
        clear hb
        by_cases hlt : i < dm
        · obtain ⟨x, hx⟩ : ∃ x, d[i]? = some x := ⟨d[i]'(by rw [HDM.out]; exact hlt), List.getElem?_eq_getElem _⟩
          obtain ⟨g, o, rfl, hg, hcl⟩ := HD.out (by rw [HDM.out]; omega)
          obtain ⟨g', o', rfl, hg', hcl'⟩ := HD2.out (by rw [HDM.out]; omega)
          have hww := HB2.out.trans (HBX.out.mono HB2.out.size)
          obtain ⟨P, kp, p0, pr, _⟩ := hcl i x hx
          obtain ⟨P', kp', p0', pr', _⟩ := hcl' i x hx
          have r0 := (hww.cell (p := ⟨g, o + i, none⟩) hg).trans p0
          have r0' := (hww.cell (p := ⟨g', o' + i, none⟩) hg').trans p0'
          have HP := Lib.hid (pr.below hww)
          have HP' := Lib.hid (pr'.below hww)
          have lg : g < wr.heap.size := Nat.lt_of_lt_of_le hg hww.size
          have lg' : g' < wr.heap.size := Nat.lt_of_lt_of_le hg' hww.size
          obtain ⟨xn, hxn⟩ : ∃ xn, x.length = xn := ⟨_, rfl⟩
          obtain ⟨S, hS⟩ : ∃ S, strB x = S := ⟨_, rfl⟩
          rw [hxn] at r0 r0' HP HP'
          have q0 : ∀ k : Nat, (convert 44 9 (.slice P xn kp)).run Try.prog (wr.drewN k) = .ok (.string S) (wr.drewN k) := fun k => by rw [← hS]; exact conv_rd (HP.out.below (below_dN _ _ |>.mono hww.size))
          have q0' : ∀ k : Nat, (convert 44 9 (.slice P' xn kp')).run Try.prog (wr.drewN k) = .ok (.string S) (wr.drewN k) := fun k => by rw [← hS]; exact conv_rd (HP'.out.below (below_dN _ _ |>.mono hww.size))
          clear p0 pr p0' pr' hcl hcl' hx hww hxn hS
          go_wp2_with fail
          go_quiet (fail)
          go_wp2
          go_roundw
          case rel => exact ⟨i + 1, by go_num, by omega, HBX.out.trans ((below_dN _ _).mono HBX.out.size)⟩
          case measure => simp only [intOf]; omega
        · go_wp2
          go_ret
          exact ⟨rfl, HB2.out.trans (HBX.out.mono HB2.out.size)⟩
end Go.Proofs.Ytbemaoncakcnjaa

/- An image of the document's in the making: its object, its row of blocks, its row of data. -/
namespace Go.Proofs.Ytbemaoncakcnjaa
open Go.RowKit

/-- Blocks as cells. -/
def flatR : List Rk → List Value
  | [] => []
  | x :: r => .int .i64 x.o :: .int .i64 x.s :: .bool x.u :: flatR r
theorem flatR_get : ∀ (l : List Rk) (i : Nat) (x : Rk), l[i]? = some x → (flatR l)[i * 3]? = some (.int .i64 x.o) ∧ (flatR l)[i * 3 + 1]? = some (.int .i64 x.s) ∧ (flatR l)[i * 3 + 2]? = some (.bool x.u)
  | [], _, _, h => by simp at h
  | y :: r, 0, x, h => by
    simp at h; subst h
    exact ⟨rfl, rfl, rfl⟩
  | y :: r, i + 1, x, h => by
    have := flatR_get r i x (by simpa using h)
    have e : (i + 1) * 3 = i * 3 + 1 + 1 + 1 := by omega
    rw [e]
    exact ⟨by simpa [flatR] using this.1, by simpa [flatR] using this.2.1, by simpa [flatR] using this.2.2⟩
/-- A block's numbers are within what an int holds. -/
def rkIn (l : List Rk) : Prop := ∀ x ∈ l, (0 ≤ x.o ∧ x.o ≤ 1000000000) ∧ (0 ≤ x.s ∧ x.s ≤ 20000)
section
variable {B g n : Nat} {N : Int} {A1 A2 : Option Addr} {c1 c2 : Nat} {l : List Rk} {d : List (List UInt8)} {xs : List Value} {w w3 w4 w' : World}
theorem rk_of_row {w : World} {B c : Nat} {A : Option Addr} {l : List Rk} (h : w.ownsRow B 65 3 (.slice A l.length c) l.length (flatR l)) (hl : rkIn l) : RkRd w w.heap.size A l := fun hn => by
  rcases h.2 with ⟨hv, h0⟩ | ⟨b, cap, cur, hv, hbg, hg, hnc, hcm, hsz, htk⟩
  · omega
  · injection hv with e1 e2 e3
    subst e1
    refine ⟨b, 0, rfl, heap_lt1 hg, fun j x hx => ?_⟩
    have hj : j < l.length := (List.getElem?_eq_some_iff.1 hx).1
    obtain ⟨q0, q1, q2⟩ := flatR_get l j x hx
    have hb := hl x (List.mem_of_getElem? hx)
    have hc : ∀ (i : Nat) (v : Value), i < l.length * 3 → (flatR l)[i]? = some v → w.cell? ⟨b, i, none⟩ = some v := fun i v hi hv => by
      rw [cell_of_row _ _ _ _ _ _ hg]
      rw [← htk, List.getElem?_take, if_pos hi] at hv
      rw [← hv]; simp
    simp only [Nat.zero_add]
    exact ⟨hc _ _ (by omega) q0, hc _ _ (by omega) q1, hc _ _ (by omega) q2, by omega, by omega⟩
end
section
variable {B g : Nat} {N : Int} {A1 A2 : Option Addr} {c1 c2 : Nat} {l : List Rk} {d : List (List UInt8)} {xs : List Value} {w : World}
end
end Go.Proofs.Ytbemaoncakcnjaa
