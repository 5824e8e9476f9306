/- Texts of mine, joined: Ref11, Law08, Cls1, ImgM, Img1, Img2, Img3, Img5, Img6, Img8, ImgD, Img19, OpenI, Law15a. -/
import Derived.Lib.Strings
import Derived.Lib.Slices
import Derived.Lib.Small
import Derived.Lib.Walk
import Derived.Lib.BitFns
import Derived.Deep.QuietTactic
import Derived.BigQuiet
import Derived.Deep.Cut
import Derived.Great.BuildSlice
import Derived.Laws.OwnMore
import Derived.Deep.Grids
import Derived.Deep.Fields
import Derived.Test.YtbemaoncakcnjaaK4

/- The contracts of the document's own check: in, Check. -/
namespace Go.Proofs.Ytbemaoncakcnjaa
open Go.RowKit

def nats (l : List Nat) : List Int := l.map fun n : Nat => (n : Int)
theorem own_ints {w : World} {base n : Nat} {t : TypeId} {A : Option Addr} {c : Nat} {l : List Nat} (h : w.ownsRow base t 1 (.slice A n c) n (l.map iV)) (hn : n = l.length) : IRd w w.heap.size A (nats l) := fun h0 => by
  have h0 : 0 < l.length := by simpa [nats] using h0
  rcases h.2 with ⟨_, h0'⟩ | ⟨g, _, _, h', _⟩
  · omega
  · injection h' with e
    subst e
    refine ⟨g, 0, rfl, (h.lt g rfl).2, fun j x hx => ?_⟩
    have hj : j < l.length := by
      rcases Nat.lt_or_ge j l.length with h | h
      · exact h
      · rw [nats, List.getElem?_map, List.getElem?_eq_none h] at hx; cases hx
    rw [Nat.zero_add, h.cellAt j (by omega), List.getElem?_map]
    rw [nats, List.getElem?_map] at hx
    cases hl : l[j]? with
    | none => rw [hl] at hx; cases hx
    | some y => rw [hl] at hx; injection hx with hx; rw [← hx]; rfl

theorem countP_take {α : Type} {p : α → Bool} {l : List α} {j : Nat} {x : α} (h : l[j]? = some x) : (l.take (j + 1)).countP p = (l.take j).countP p + if p x = true then 1 else 0 := by
  rw [List.take_add_one, h, List.countP_append]
  simp [List.countP_cons]
theorem any_take {α : Type} {p : α → Bool} {l : List α} {j : Nat} {x : α} (h : l[j]? = some x) : (l.take (j + 1)).any p = ((l.take j).any p || p x) := by
  rw [List.take_add_one, h, List.any_append]
  simp

section
variable (w : World)
end
end Go.Proofs.Ytbemaoncakcnjaa

/- Layer 8's laws over the contracts of the program's two functions: the head, ClassTells. -/
namespace Go.Proofs.Ytbemaoncakcnjaa
open Go.RowKit

def ClassC : Prop := ∀ (w : World) (s : Int), (-9223372036854775808 ≤ s ∧ s ≤ 9223372036854775807) → Calls Try.prog 86 #[.int .i64 s] w fun e w' => e = .returned (.int .i64 (classI s)) ∧ Below w.heap.size w w'

end Go.Proofs.Ytbemaoncakcnjaa

/- The program's classes: isSize, bits.Len, Need, Class. -/
namespace Go.Proofs.Ytbemaoncakcnjaa
open Go.RowKit

section
variable (w : World)
set_option maxHeartbeats 400000 in
theorem cissize_any (n : Int) (hn : -9223372036854775808 ≤ n ∧ n ≤ 9223372036854775807) (b : Bool) (hb : isSz n = b) :
    Calls Try.prog 95 #[.int .i64 n] w fun e w' => e = .returned (.bool b) ∧ w = w' := by
  by_cases h1 : 32 ≤ n
  · by_cases h2 : n ≤ 16384
    · have e : (n % 16 == 0) = b := by rw [← hb]; simp [isSz, h1, h2]
      have HE := Lib.hid e
      clear hb e
      go_enter Try.func95, Try.ntmps95
      go_wp2
      go_ret
      exact ⟨rt_b HE.out, rfl⟩
    · obtain rfl : false = b := by rw [← hb]; simp [isSz, h2]
      clear hb
      go_enter Try.func95, Try.ntmps95
      go_wp2
      go_ret
      exact ⟨rfl, rfl⟩
  · obtain rfl : false = b := by rw [← hb]; simp [isSz, h1]
    clear hb
    go_enter Try.func95, Try.ntmps95
    go_wp2
    go_ret
    exact ⟨rfl, rfl⟩

theorem len8_le : ∀ q : Fin 256, 0 ≤ Lib.len8 (q.1 : Int) ∧ Lib.len8 (q.1 : Int) ≤ 8 := by decide +kernel
set_option maxHeartbeats 4000000 in
set_option maxRecDepth 100000 in
theorem blen64_int (x : Int) (h0 : 0 ≤ x) (h1 : x ≤ 255) : Calls Try.prog 102 #[.int .u64 x] w fun e w' => e = .returned (.int .i64 (wrap64 (wrap64 (Lib.len8 x)))) ∧ w = w' := by
  go_enter Try.func102, Try.ntmps102
  go_wp2
  go_ret
  exact ⟨rfl, rfl⟩
theorem blen64_any (q : Nat) (hq : q ≤ 255) : Calls Try.prog 102 #[.int .u64 (q : Int)] w fun e w' => e = .returned (.int .i64 (Lib.len8 (q : Int))) ∧ w = w' := by
  have hl := len8_le ⟨q, by omega⟩
  have h := blen64_int w (q : Int) (by omega) (by omega)
  have e : wrap64 (wrap64 (Lib.len8 (q : Int))) = Lib.len8 (q : Int) := by
    simp only at hl
    unfold wrap64
    omega
  rw [e] at h
  exact h
set_option maxHeartbeats 400000 in
theorem blen_any (q : Nat) (hq : q ≤ 255) : Calls Try.prog 96 #[.int .u64 (q : Int)] w fun e w' => e = .returned (.int .i64 (Lib.len8 (q : Int))) ∧ w = w' := by
  have H := Lib.hid (blen64_any w q hq)
  go_enter Try.func96, Try.ntmps96
  go_wp2_with fail
  refine H.out.mono ?_
  rintro e w1 ⟨rfl, rfl⟩
  go_wp2
  go_ret
  exact ⟨rfl, rfl⟩

theorem class_len : ∀ q : Fin 65, 1 ≤ q.1 → (q.1 < 2 ∧ Lib.len8 (q.1 : Int) = 1) ∨ (2 ≤ q.1 ∧ q.1 < 4 ∧ Lib.len8 (q.1 : Int) = 2) ∨ (4 ≤ q.1 ∧ q.1 < 8 ∧ Lib.len8 (q.1 : Int) = 3) ∨ (8 ≤ q.1 ∧ q.1 < 16 ∧ Lib.len8 (q.1 : Int) = 4) ∨ (16 ≤ q.1 ∧ q.1 < 32 ∧ Lib.len8 (q.1 : Int) = 5) ∨ (32 ≤ q.1 ∧ q.1 < 64 ∧ Lib.len8 (q.1 : Int) = 6) ∨ (q.1 = 64 ∧ Lib.len8 (q.1 : Int) = 7) := by decide +kernel
end

theorem classC : ClassC := by
  intro w s hs
  cases hb : isSz s
  · rw [show classI s = -1 by simp [classI, hb]]
    have HI := Lib.hid (cissize_any w s hs false hb)
    clear hb
    go_enter Try.func86, Try.ntmps86
    go_wp2_with fail
    with_reducible refine HI.out.mono ?_
    rintro e w1 ⟨rfl, rfl⟩
    go_wp2
    go_ret
    exact ⟨rfl, Below.refl _ _⟩
  · have h := (isSz_iff s).1 hb
    have HI := Lib.hid (cissize_any w s hs true hb)
    by_cases h0 : s ≤ 256
    · have e : (s - 32) / 16 = classI s := by
        unfold classI
        rw [if_neg (by simp [hb]), if_pos h0]
        omega
      obtain ⟨c, hc⟩ : ∃ c, classI s = c := ⟨_, rfl⟩
      rw [hc] at e ⊢
      have HC := Lib.hid e
      clear e hc hb
      go_enter Try.func86, Try.ntmps86
      go_wp2_with fail
      with_reducible refine HI.out.mono ?_
      rintro e w1 ⟨rfl, rfl⟩
      go_wp2
      go_ret
      exact ⟨rt_i HC.out, Below.refl _ _⟩
    · obtain ⟨q, hq⟩ : ∃ q : Nat, s / 256 = (q : Int) := ⟨(s / 256).toNat, by omega⟩
      have hq1 : 1 ≤ q ∧ q ≤ 64 := by omega
      have cl := class_len ⟨q, by omega⟩ hq1.1
      simp only at cl
      have e : 14 + Lib.len8 (q : Int) = classI s := by
        unfold classI
        rw [if_neg (by simp [hb]), if_neg h0]
        rcases cl with ⟨_, cl⟩ | ⟨_, _, cl⟩ | ⟨_, _, cl⟩ | ⟨_, _, cl⟩ | ⟨_, _, cl⟩ | ⟨_, _, cl⟩ | ⟨_, cl⟩ <;> rw [cl] <;> (repeat' split) <;> omega
      obtain ⟨c, hc⟩ : ∃ c, classI s = c := ⟨_, rfl⟩
      rw [hc] at e ⊢
      have hl := len8_le ⟨q, by omega⟩
      simp only at hl
      have HC := Lib.hid e
      have HL := Lib.hid (fun W => blen_any W q (by omega))
      clear e hc hb cl
      obtain ⟨l, hl8⟩ : ∃ l, Lib.len8 (q : Int) = l := ⟨_, rfl⟩
      rw [hl8] at HC HL hl
      clear hl8
      go_enter Try.func86, Try.ntmps86
      go_wp2_with fail
      with_reducible refine HI.out.mono ?_
      rintro e w1 ⟨rfl, rfl⟩
      go_wp2_with fail
      refine (HL.out _).mono ?_
      rintro e w1 ⟨rfl, rfl⟩
      go_wp2
      go_ret
      exact ⟨rt_i HC.out, Below.refl _ _⟩
end Go.Proofs.Ytbemaoncakcnjaa

/- Images, plain: whether one may be, its bytes. No program in sight. -/
namespace Go.Proofs.Ytbemaoncakcnjaa

/-- A block as it was drawn. -/
structure Rk where
  o : Int
  s : Int
  u : Bool
def lenOk (n : Int) : Bool := decide (184 ≤ n) && (decide (n ≤ 16384) && (n - 184) % 16 == 0)
theorem lenOk_iff (n : Int) : lenOk n = true ↔ 184 ≤ n ∧ n ≤ 16384 ∧ (n - 184) % 16 = 0 := by simp [lenOk]
theorem lenOk_false (n : Int) : lenOk n = false ↔ ¬ (184 ≤ n ∧ n ≤ 16384 ∧ (n - 184) % 16 = 0) := by rw [← lenOk_iff]; simp
/-- Blocks that may be, from a place on, behind a free one or not. -/
def rowOk (n : Int) : Int → Bool → List Rk → Bool
  | e, _, [] => e == n
  | e, f, x :: r => (x.o == e) && (isSz x.s && (decide (x.s ≤ n - e) && (!(f && !x.u) && rowOk n (e + x.s) (!x.u) r)))
/-- As many as used blocks, each as long as what its block holds. -/
def datOk : List Rk → List (List UInt8) → Bool
  | [], d => d.isEmpty
  | x :: r, d => if x.u = true then (match d with
      | [] => false
      | y :: d' => ((y.length : Int) == x.s - 16) && datOk r d') else datOk r d
def mayI (n : Int) (l : List Rk) (d : List (List UInt8)) : Bool := lenOk n && (rowOk n 184 false l && datOk l d)
/-- Both at once, as the document has it. -/
def docOk (n : Int) : Int → Bool → List Rk → List (List UInt8) → Bool
  | e, _, [], d => (e == n) && d.isEmpty
  | e, f, x :: r, d => if isSz x.s = false ∨ x.o ≠ e ∨ (f = true ∧ x.u = false) then false else if x.u = true then (match d with
      | [] => false
      | y :: d' => if (y.length : Int) ≠ x.s - 16 then false else docOk n (e + x.s) (!x.u) r d')
      else docOk n (e + x.s) (!x.u) r d
theorem docOk_end {n : Int} : ∀ {l : List Rk} {e : Int} {f : Bool} {d : List (List UInt8)}, docOk n e f l d = true → e ≤ n
  | [], e, f, d, h => by
    unfold docOk at h
    simp only [Bool.and_eq_true, beq_iff_eq] at h
    omega
  | x :: r, e, f, d, h => by
    unfold docOk at h
    split at h
    · cases h
    · rename_i hc
      have hs : isSz x.s = true := by
        cases hx : isSz x.s with
        | true => rfl
        | false => exact absurd (.inl hx) hc
      have h3 := (isSz_iff _).1 hs
      split at h
      · split at h
        · cases h
        · split at h
          · cases h
          · have := docOk_end h; omega
      · have := docOk_end h; omega
theorem docOk_eq (n : Int) : ∀ (l : List Rk) (e : Int) (f : Bool) (d : List (List UInt8)), docOk n e f l d = (rowOk n e f l && datOk l d)
  | [], e, f, d => rfl
  | x :: r, e, f, d => by
    have ih := docOk_eq n r (e + x.s) (!x.u)
    by_cases hle : x.s ≤ n - e
    · unfold docOk rowOk datOk
      by_cases hs : isSz x.s = true
      · by_cases ho : x.o = e
        · cases hf : f <;> cases hu : x.u <;> simp only [hs, ho, hu, hle, decide_true, Bool.true_and, Bool.not_true, Bool.not_false, Bool.and_true, Bool.and_false, Bool.false_and, Bool.true_eq_false, Bool.false_eq_true, false_and, and_false, and_self, or_false, or_true, ne_eq, not_true, if_true, if_false, beq_self_eq_true] at ih ⊢
          all_goals (try rw [hu] at ih)
          all_goals first | exact ih d | skip
          all_goals
            cases d with
            | nil => simp
            | cons y d' =>
              dsimp only
              by_cases hy : (y.length : Int) = x.s - 16
              · rw [if_neg (by simpa using hy)]
                have : ((y.length : Int) == x.s - 16) = true := by simpa using hy
                rw [this, Bool.true_and]
                exact ih d'
              · rw [if_pos hy]
                have : ((y.length : Int) == x.s - 16) = false := by simpa using hy
                rw [this, Bool.false_and, Bool.and_false]
        · rw [if_pos (.inr (.inl ho))]
          have : (x.o == e) = false := by simpa using ho
          rw [this, Bool.false_and, Bool.false_and]
      · have hs : isSz x.s = false := by simpa using hs
        rw [if_pos (.inl hs), hs, Bool.false_and, Bool.and_false, Bool.false_and]
    · have h1 : docOk n e f (x :: r) d = false := by
        cases hd : docOk n e f (x :: r) d with
        | false => rfl
        | true =>
          exfalso
          unfold docOk at hd
          split at hd
          · cases hd
          · split at hd
            · split at hd
              · cases hd
              · split at hd
                · cases hd
                · have := docOk_end hd; omega
            · have := docOk_end hd; omega
      rw [h1]
      unfold rowOk
      rw [decide_eq_false hle]
      simp
theorem rowOk_len {n : Int} : ∀ {l : List Rk} {e : Int} {f : Bool}, rowOk n e f l = true → e + 32 * l.length ≤ n
  | [], e, f, h => by
    unfold rowOk at h
    have : e = n := by simpa using h
    simp; omega
  | x :: r, e, f, h => by
    unfold rowOk at h
    simp only [Bool.and_eq_true] at h
    have h3 := (isSz_iff _).1 h.2.1
    have h4 := rowOk_len h.2.2.2.2
    rw [List.length_cons]
    omega
theorem rowOk_sz {n : Int} : ∀ {l : List Rk} {e : Int} {f : Bool}, rowOk n e f l = true → ∀ x ∈ l, isSz x.s = true
  | [], e, f, h, x, hx => by cases hx
  | y :: r, e, f, h, x, hx => by
    unfold rowOk at h
    simp only [Bool.and_eq_true] at h
    rcases List.mem_cons.1 hx with rfl | hx
    · exact h.2.1
    · exact rowOk_sz h.2.2.2.2 x hx
theorem take_snoc {α : Type} {l : List α} {j : Nat} {x : α} (h : l[j]? = some x) : l.take (j + 1) = l.take j ++ [x] := by
  rw [List.take_add_one, h]
  rfl
theorem flat_take {d : List (List UInt8)} {j : Nat} {x : List UInt8} (h : d[j]? = some x) : (d.take (j + 1)).flatten = (d.take j).flatten ++ x := by
  rw [take_snoc h, List.flatten_append]
  simp
theorem drop_at {α : Type} {l : List α} {j : Nat} {x : α} (h : l[j]? = some x) : l.drop j = x :: l.drop (j + 1) := by
  obtain ⟨hj, e⟩ := List.getElem?_eq_some_iff.1 h
  rw [List.drop_eq_getElem_cons hj, e]
end Go.Proofs.Ytbemaoncakcnjaa

/- Images in memory: blocks and bytes that came in. -/
namespace Go.Proofs.Ytbemaoncakcnjaa
open Go.RowKit

/-- A slice of blocks. -/
def RkRd (w : World) (B : Nat) (A : Option Addr) (l : List Rk) : Prop := 0 < l.length → ∃ b o, A = some ⟨b, o, none⟩ ∧ b < B ∧ ∀ j x, l[j]? = some x →
  w.cell? ⟨b, o + j * 3, none⟩ = some (.int .i64 x.o) ∧ w.cell? ⟨b, o + j * 3 + 1, none⟩ = some (.int .i64 x.s) ∧ w.cell? ⟨b, o + j * 3 + 2, none⟩ = some (.bool x.u) ∧
  (-9223372036854775808 ≤ x.o ∧ x.o ≤ 9223372036854775807) ∧ (-9223372036854775808 ≤ x.s ∧ x.s ≤ 9223372036854775807)
/-- A slice of slices of bytes. -/
def DtRd (w : World) (B : Nat) (A : Option Addr) (d : List (List UInt8)) : Prop := 0 < d.length → ∃ b o, A = some ⟨b, o, none⟩ ∧ b < B ∧ ∀ j y, d[j]? = some y →
  ∃ A' k, w.cell? ⟨b, o + j, none⟩ = some (.slice A' y.length k) ∧ Rd w B A' y.length y ∧ y.length ≤ maxLen ∧ y.length ≤ k ∧ (A' = none → k = 0)
section
variable {w w' : World} {B B' : Nat} {A : Option Addr} {l : List Rk} {d : List (List UInt8)}
theorem RkRd.below (h : RkRd w B A l) (hb : Below B w w') : RkRd w' B A l := fun hn => by
  obtain ⟨b, o, e, hB, hc⟩ := h hn
  refine ⟨b, o, e, hB, fun j x hx => ?_⟩
  obtain ⟨h0, h1, h2, h3⟩ := hc j x hx
  exact ⟨(hb.cell (p := ⟨b, o + j * 3, none⟩) hB).trans h0, (hb.cell (p := ⟨b, o + j * 3 + 1, none⟩) hB).trans h1, (hb.cell (p := ⟨b, o + j * 3 + 2, none⟩) hB).trans h2, h3⟩
theorem RkRd.more (h : RkRd w B A l) (hB : B ≤ B') : RkRd w B' A l := fun hn => by
  obtain ⟨b, o, e, hb, hc⟩ := h hn
  exact ⟨b, o, e, Nat.lt_of_lt_of_le hb hB, hc⟩
theorem DtRd.below (h : DtRd w B A d) (hb : Below B w w') : DtRd w' B A d := fun hn => by
  obtain ⟨b, o, e, hB, hc⟩ := h hn
  refine ⟨b, o, e, hB, fun j x hx => ?_⟩
  obtain ⟨A', k, h0, h1, h2⟩ := hc j x hx
  exact ⟨A', k, (hb.cell (p := ⟨b, o + j, none⟩) hB).trans h0, h1.below hb, h2⟩
theorem DtRd.more (h : DtRd w B A d) (hB : B ≤ B') : DtRd w B' A d := fun hn => by
  obtain ⟨b, o, e, hb, hc⟩ := h hn
  refine ⟨b, o, e, Nat.lt_of_lt_of_le hb hB, fun j x hx => ?_⟩
  obtain ⟨A', k, h0, h1, h2⟩ := hc j x hx
  exact ⟨A', k, h0, h1.more hB, h2⟩
end
theorem below_dN (w : World) (k : Nat) : Below w.heap.size w (w.drewN k) := ⟨rfl, rfl, rfl, Nat.le_refl _, fun _ _ => rfl⟩
/-- An operation whose guard says no. -/
theorem tail_no {P : Program} {ops : Array Oper} {Q : Exit → Act → World → Prop} {i B : Nat} {o : Oper} {a : Act} {w : World} {K : Act → World → Prop} (ho : ops[i]? = some o) (d : Option Tmp) (hd : o.dst = d) (hw : Region.wanted o (yielded ops a.tmps) = false) (hk : K (a.put d undef) w) : wpOp P ops Q i (fun a'' w'' => Below B w w'' ∧ K a'' w'') a w := by
  subst hd
  unfold wpOp
  simp only [ho]
  rw [if_neg (by rw [hw]; decide)]
  exact ⟨Below.refl _ _, hk⟩
/-- An image's value. -/
def imV (n : Int) (A1 : Option Addr) (ll k1 : Nat) (A2 : Option Addr) (dl k2 : Nat) : Value := .agg #[.int .i64 n, .slice A1 ll k1, .slice A2 dl k2]
end Go.Proofs.Ytbemaoncakcnjaa

/- The program's images: May (layer 15). -/
namespace Go.Proofs.Ytbemaoncakcnjaa
open Go.RowKit

theorem rk_cells {w : World} {x0 x1 x2 : Value} {g : Nat} {t : TypeId} (h : w.heap[g]? = some (.cells #[x0, x1, x2] t (0, 0))) :
    w.cell? ⟨g, 0, none⟩ = some x0 ∧ w.cell? ⟨g, 1, none⟩ = some x1 ∧ w.cell? ⟨g, 2, none⟩ = some x2 := by
  refine ⟨?_, ?_, ?_⟩
  · rw [cell_of_row w g 0 _ _ (0, 0) h]; rfl
  · rw [cell_of_row w g 1 _ _ (0, 0) h]; rfl
  · rw [cell_of_row w g 2 _ _ (0, 0) h]; rfl
theorem heap_lt1 {w : World} {g : Nat} {cs : Array Value} {t : TypeId} (h : w.heap[g]? = some (.cells cs t (0, 0))) : g < w.heap.size := by
  rcases Nat.lt_or_ge g w.heap.size with h' | h'
  · exact h'
  · rw [Array.getElem?_eq_none h'] at h; cases h
/-- Len, as a number of 64 bits. -/
def u64N (n : Int) : Nat := (n % 18446744073709551616).toNat
theorem lenOk_u64 (n : Int) (hn : -9223372036854775808 ≤ n ∧ n ≤ 9223372036854775807) : lenOk ((u64N n : Nat) : Int) = lenOk n := by
  unfold u64N
  rcases Int.lt_or_le n 0 with h | h
  · have e1 : lenOk n = false := (lenOk_false n).2 (by omega)
    rw [e1]
    exact (lenOk_false _).2 (by omega)
  · rw [Int.emod_eq_of_lt h (by omega), Int.toNat_of_nonneg h]
set_option maxRecDepth 100000 in
set_option maxHeartbeats 400000 in
theorem imlen_any (w : World) (v : Nat) (hv : v < 18446744073709551616) (b : Bool) (hb : lenOk (v : Int) = b) :
    Calls Try.prog 42 #[.int .u64 (v : Int)] w fun e w' => e = .returned (.bool b) ∧ w = w' := by
  by_cases h1 : 184 ≤ v
  · by_cases h2 : v ≤ 16384
    · by_cases h3 : (v - 184) % 16 = 0
      · obtain rfl : true = b := by rw [← hb]; exact ((lenOk_iff _).2 (by omega)).symm
        clear hb
        go_enter Try.func42, Try.ntmps42
        go_wp2
        go_ret
        exact ⟨ret_bool (by rw [beq_iff_eq]; omega), rfl⟩
      · obtain rfl : false = b := by rw [← hb]; exact ((lenOk_false _).2 (by omega)).symm
        clear hb
        go_enter Try.func42, Try.ntmps42
        go_wp2
        go_ret
        exact ⟨ret_bool (by rw [beq_eq_false_iff_ne]; omega), rfl⟩
    · obtain rfl : false = b := by rw [← hb]; exact ((lenOk_false _).2 (by omega)).symm
      clear hb
      go_enter Try.func42, Try.ntmps42
      go_wp2
      go_ret
      exact ⟨rfl, rfl⟩
  · obtain rfl : false = b := by rw [← hb]; exact ((lenOk_false _).2 (by omega)).symm
    clear hb
    go_enter Try.func42, Try.ntmps42
    go_wp2
    go_ret
    exact ⟨rfl, rfl⟩
set_option maxRecDepth 100000 in
set_option maxHeartbeats 4000000 in
theorem imrow_any (w : World) (A : Option Addr) (k1 : Nat) (l : List Rk) (hr : RkRd w w.heap.size A l) (hl : l.length ≤ 1000000) (n : Int) (hn : 184 ≤ n ∧ n ≤ 16384) (y : Bool) (hy : rowOk n 184 false l = y) :
    Calls Try.prog 43 #[.slice A l.length k1, .int .i64 n] w fun e w' => e = .returned (.bool y) ∧ Below w.heap.size w w' := by
  have HR := Lib.hid hr
  have HY := Lib.hid hy
  obtain ⟨m, hm⟩ : ∃ m, l.length = m := ⟨_, rfl⟩
  rw [hm] at hl ⊢
  have HM := Lib.hid hm
  clear hr hy hm
  go_enter Try.func43, Try.ntmps43
  go_wp2
  go_loopw [5, 6, 11] (fun e f t wr => ∃ (j : Nat) (z : Int) (b : Bool), t = .int .i64 (j : Int) ∧ e = .int .i64 z ∧ f = .bool b ∧ j ≤ m ∧ (184 ≤ z ∧ z ≤ n) ∧ rowOk n z b (l.drop j) = y ∧ Below w.heap.size w wr) (fun _ _ t _ => m - (intOf t).toNat)
  case atStart => exact ⟨0, 184, false, rfl, rfl, rfl, Nat.zero_le _, ⟨Int.le_refl _, hn.1⟩, HY.out, Below.refl _ _⟩
  case round =>
    obtain ⟨j, z, b, rfl, rfl, rfl, hj, hz, hyy, hb⟩ := hrel
    by_cases hlt : j < m
    · obtain ⟨x, hx⟩ : ∃ x, l[j]? = some x := ⟨l[j]'(by rw [HM.out]; exact hlt), List.getElem?_eq_getElem _⟩
      obtain ⟨b2, o, rfl, hbb, hcl⟩ := HR.out (by rw [HM.out]; omega)
      obtain ⟨p0, p1, p2, hxo, hxs⟩ := hcl j x hx
      have r0 := (hb.cell (p := ⟨b2, o + j * 3, none⟩) hbb).trans p0
      have r1 := (hb.cell (p := ⟨b2, o + j * 3 + 1, none⟩) hbb).trans p1
      have r2 := (hb.cell (p := ⟨b2, o + j * 3 + 2, none⟩) hbb).trans p2
      rw [drop_at hx] at hyy
      unfold rowOk at hyy
      obtain ⟨xo, xs, xu⟩ := x
      dsimp only at p0 p1 p2 r0 r1 r2 hyy hxo hxs
      obtain ⟨w4, hw4⟩ : ∃ w4, wr.alloc (.cells #[.int .i64 xo, .int .i64 xs, .bool xu] 65) = w4 := ⟨_, rfl⟩
      have hb4 : Below w.heap.size w w4 := by rw [← hw4]; exact hb.alloc hb.size _
      have n4 : w4.heap[wr.heap.size]? = some (.cells #[.int .i64 xo, .int .i64 xs, .bool xu] 65 (0, 0)) := by rw [← hw4]; exact heap_alloc_new wr _
      obtain ⟨d0, d1, d2⟩ := rk_cells n4
      have hl4 := heap_lt1 n4
      have HW4 := Lib.hid hw4
      have HB4 := Lib.hid hb4
      have HYY := Lib.hid hyy
      clear hx hb p0 p1 p2 hb4 n4 hw4 hcl hyy
      by_cases ho : xo = z
      · have g0 : (xo != z) = false := by rw [bne_eq_false_iff_eq]; exact ho
        obtain ⟨pk, hpk⟩ : ∃ pk, packN xs xu = pk := ⟨_, rfl⟩
        have HPK := Lib.hid (fun W => tpack_any (w := W) xs xu hxs pk hpk)
        by_cases hsz : isSz xs = true
        · have h3 := (isSz_iff _).1 hsz
          have hpk0 : pk ≠ 0 := by
            rw [← hpk]; unfold packN; rw [if_pos hsz]; omega
          have g1 : ((pk : Int) == 0) = false := by rw [beq_eq_false_iff_ne]; omega
          by_cases hle : xs ≤ n - z
          · have g2 : decide (n - z < xs) = false := decide_eq_false (by omega)
            by_cases hfu : b = true ∧ xu = false
            · obtain ⟨rfl, rfl⟩ := hfu
              have HF : Hid (y = false) := (show y = false by
                have e := HYY.out
                simp at e
                first | exact e.symm | exact e)
              clear hsz h3 hpk ho
              go_wp2_with (first | (rw [HW4.out]) | fail)
              refine (HPK.out _).mono ?_
              rintro e w5 ⟨rfl, rfl⟩
              go_wp2
              go_ret
              exact ⟨ret_bool HF.out.symm, HB4.out⟩
            · have HF : Hid (rowOk n (z + xs) (!xu) (l.drop (j + 1)) = y) := (show _ = y by
                have e := HYY.out
                have e1 : (b && !xu) = false := by
                  cases b <;> cases xu <;> first | rfl | exact absurd ⟨rfl, rfl⟩ hfu
                have e2 : (xo == z) = true := by rw [beq_iff_eq]; exact ho
                rw [e2, hsz, decide_eq_true hle, e1] at e
                simpa using e)
              clear hsz hpk ho
              cases b <;> cases xu
              all_goals first | exact absurd ⟨rfl, rfl⟩ hfu | skip
              all_goals
                clear hfu
                go_wp2_with (first | (rw [HW4.out]) | fail)
                refine (HPK.out _).mono ?_
                rintro e w5 ⟨rfl, rfl⟩
                go_wp2_with fail
                go_quiet (fail)
                go_wp2
                go_roundw
                case rel => exact ⟨j + 1, z + xs, _, by go_num, by go_num, rfl, by omega, by omega, HF.out, HB4.out.trans ((below_dN _ _).mono HB4.out.size)⟩
                case measure => simp only [intOf]; omega
          · have g2 : decide (n - z < xs) = true := decide_eq_true (by omega)
            have HF : Hid (y = false) := (show y = false by
              have e := HYY.out
              rw [decide_eq_false hle] at e
              simp at e
              first | exact e.symm | exact e)
            clear hsz hpk ho
            go_wp2_with (first | (rw [HW4.out]) | fail)
            refine (HPK.out _).mono ?_
            rintro e w5 ⟨rfl, rfl⟩
            go_wp2
            go_ret
            exact ⟨ret_bool HF.out.symm, HB4.out⟩
        · have hpk0 : pk = 0 := by rw [← hpk]; unfold packN; rw [if_neg hsz]
          subst hpk0
          have HF : Hid (y = false) := (show y = false by
            have e := HYY.out
            have hs2 : isSz xs = false := by simpa using hsz
            rw [hs2] at e
            simp at e
            first | exact e.symm | exact e)
          clear hsz hpk ho
          go_wp2_with (first | (rw [HW4.out]) | fail)
          refine (HPK.out _).mono ?_
          rintro e w5 ⟨rfl, rfl⟩
          go_wp2
          go_ret
          exact ⟨ret_bool HF.out.symm, HB4.out⟩
      · have g0 : (xo != z) = true := by rw [bne_iff_ne]; exact ho
        have HF : Hid (y = false) := (show y = false by
          have e := HYY.out
          have e2 : (xo == z) = false := by rw [beq_eq_false_iff_ne]; exact ho
          rw [e2] at e
          simp at e
          first | exact e.symm | exact e)
        clear ho
        go_wp2_with (first | (rw [HW4.out]) | fail)
        go_ret
        exact ⟨ret_bool HF.out.symm, HB4.out⟩
    · have hd : l.drop j = [] := List.drop_eq_nil_of_le (by rw [HM.out]; omega)
      rw [hd] at hyy
      unfold rowOk at hyy
      have HYY := Lib.hid hyy
      have HBB := Lib.hid hb
      clear hyy hb hd
      go_wp2
      go_ret
      exact ⟨ret_bool HYY.out, HBB.out⟩
set_option maxHeartbeats 400000 in
theorem imheld_any (w : World) (o s : Int) (u : Bool) (hs : isSz s = true) :
    Calls Try.prog 45 #[.agg #[.int .i64 o, .int .i64 s, .bool u]] w fun e w' => e = .returned (.int .i64 (s - 16)) ∧ Below w.heap.size w w' := by
  have h3 := (isSz_iff _).1 hs
  obtain ⟨w1, hw1⟩ : ∃ w1, w.alloc (.cells #[.int .i64 o, .int .i64 s, .bool u] 65) = w1 := ⟨_, rfl⟩
  have hb1 : Below w.heap.size w w1 := by rw [← hw1]; exact (Below.refl _ _).alloc (Nat.le_refl _) _
  have n1 : w1.heap[w.heap.size]? = some (.cells #[.int .i64 o, .int .i64 s, .bool u] 65 (0, 0)) := by rw [← hw1]; exact heap_alloc_new w _
  obtain ⟨_, d1, _⟩ := rk_cells n1
  have hl := heap_lt1 n1
  have HW1 := Lib.hid hw1
  have HB1 := Lib.hid hb1
  clear hw1 hb1 n1 hs
  go_enter Try.func45, Try.ntmps45
  go_wp2_with (first | (rw [HW1.out]) | fail)
  go_ret
  exact ⟨rfl, HB1.out⟩
set_option maxRecDepth 100000 in
set_option maxHeartbeats 4000000 in
theorem imdat_any (w : World) (A1 A2 : Option Addr) (k1 k2 : Nat) (l : List Rk) (d : List (List UInt8)) (hr : RkRd w w.heap.size A1 l) (hd : DtRd w w.heap.size A2 d) (hl : l.length ≤ 1000000) (hdl : d.length ≤ 1000000) (hs : ∀ x ∈ l, isSz x.s = true) (y : Bool) (hy : datOk l d = y) :
    Calls Try.prog 44 #[.slice A2 d.length k2, .slice A1 l.length k1] w fun e w' => e = .returned (.bool y) ∧ Below w.heap.size w w' := by
  have HR := Lib.hid hr
  have HD := Lib.hid hd
  have HY := Lib.hid hy
  have HS := Lib.hid hs
  obtain ⟨m, hm⟩ : ∃ m, l.length = m := ⟨_, rfl⟩
  obtain ⟨n, hn⟩ : ∃ n, d.length = n := ⟨_, rfl⟩
  rw [hm] at hl ⊢
  rw [hn] at hdl ⊢
  have HM := Lib.hid hm
  have HN := Lib.hid hn
  clear hr hd hy hs hm hn
  go_enter Try.func44, Try.ntmps44
  go_wp2
  go_loopw [5, 10] (fun v t wr => ∃ (j i : Nat), t = .int .i64 (j : Int) ∧ v = .int .i64 (i : Int) ∧ j ≤ m ∧ i ≤ n ∧ datOk (l.drop j) (d.drop i) = y ∧ Below w.heap.size w wr) (fun _ t _ => m - (intOf t).toNat)
  case atStart => exact ⟨0, 0, rfl, rfl, Nat.zero_le _, Nat.zero_le _, HY.out, Below.refl _ _⟩
  case round =>
    obtain ⟨j, i, rfl, rfl, hj, hi, hyy, hb⟩ := hrel
    by_cases hlt : j < m
    · obtain ⟨x, hx⟩ : ∃ x, l[j]? = some x := ⟨l[j]'(by rw [HM.out]; exact hlt), List.getElem?_eq_getElem _⟩
      obtain ⟨b2, o, rfl, hbb, hcl⟩ := HR.out (by rw [HM.out]; omega)
      obtain ⟨p0, p1, p2, hxo, hxs⟩ := hcl j x hx
      have r0 := (hb.cell (p := ⟨b2, o + j * 3, none⟩) hbb).trans p0
      have r1 := (hb.cell (p := ⟨b2, o + j * 3 + 1, none⟩) hbb).trans p1
      have r2 := (hb.cell (p := ⟨b2, o + j * 3 + 2, none⟩) hbb).trans p2
      have hsx := HS.out x (List.mem_of_getElem? hx)
      rw [drop_at hx] at hyy
      unfold datOk at hyy
      obtain ⟨xo, xs, xu⟩ := x
      dsimp only at p0 p1 p2 r0 r1 r2 hyy hxo hxs hsx
      obtain ⟨w4, hw4⟩ : ∃ w4, wr.alloc (.cells #[.int .i64 xo, .int .i64 xs, .bool xu] 65) = w4 := ⟨_, rfl⟩
      have hb4 : Below w.heap.size w w4 := by rw [← hw4]; exact hb.alloc hb.size _
      have n4 : w4.heap[wr.heap.size]? = some (.cells #[.int .i64 xo, .int .i64 xs, .bool xu] 65 (0, 0)) := by rw [← hw4]; exact heap_alloc_new wr _
      obtain ⟨d0, d1, d2⟩ := rk_cells n4
      have hl4 := heap_lt1 n4
      have HW4 := Lib.hid hw4
      have HB4 := Lib.hid hb4
      have HYY := Lib.hid hyy
      have HN4 := Lib.hid n4
      clear hx hb p0 p1 p2 hb4 n4 hw4 hcl hyy
      cases xu with
      | false =>
        have HF : Hid (datOk (l.drop (j + 1)) (d.drop i) = y) := (show _ = y from by
          have e := HYY.out
          rw [if_neg (by decide)] at e
          exact e)
        go_wp2_with (first | (rw [HW4.out]) | fail)
        go_roundw
        case rel => exact ⟨j + 1, i, by go_num, rfl, by omega, hi, HF.out, HB4.out⟩
        case measure => simp only [intOf]; omega
      | true =>
        by_cases hin : i = n
        · have g0 : ((i : Int) == (n : Int)) = true := by rw [beq_iff_eq]; omega
          have HF : Hid (y = false) := (show y = false from by
            have e := HYY.out
            rw [if_pos rfl, List.drop_eq_nil_of_le (by rw [HN.out]; omega)] at e
            exact e.symm)
          obtain ⟨wd, hwd⟩ : ∃ wd, w4.drew = wd := ⟨_, rfl⟩
          have HWD := Lib.hid hwd
          have HBD : Hid (Below w.heap.size w wd) := (show Below _ _ _ by rw [← hwd]; exact HB4.out.drew)
          clear hwd
          go_wp2_with (first | (rw [HW4.out]) | fail)
          refine wp_region_tail wd.heap.size [([0, 1, 2, 3, 4, 5, 6, 7, 8, 9, 10], 11)] [12, 13] [] (by kernel_rfl) (by kernel_rfl) (by kernel_rfl) (fun _ _ _ _ _ h => h) ?_
          rw [HWD.out]
          refine tail_cons (l := ?segA) ?hsegA ?_
          case hsegA => simp only [pick, List.getElem?_toArray, List.getElem?_cons_succ, List.getElem?_cons_zero]; rfl
          repeat (go_big_quiet_step (fail))
          refine wpQuiet_nil ?_
          refine tail_no rfl (some 28) rfl rfl ⟨wd.heap.size, Nat.le_refl _, ?_⟩
          simp only [Act.put, List.setIfInBounds_toArray, List.set_cons_zero, List.set_cons_succ]
          refine tail_last (l := ?lastA) (t := []) ?hlastA ?htlastA ?_
          case hlastA => simp only [pick, List.getElem?_toArray, List.getElem?_cons_succ, List.getElem?_cons_zero]; rfl
          case htlastA => rfl
          repeat (go_big_quiet_step (fail))
          refine wpQuiet_nil ?_
          go_wp2
          go_ret
          exact ⟨ret_bool HF.out.symm, HBD.out⟩
        · have g0 : ((i : Int) == (n : Int)) = false := by rw [beq_eq_false_iff_ne]; omega
          have hi2 : (i : Int) < (n : Int) := by omega
          obtain ⟨z, hz⟩ : ∃ z, d[i]? = some z := ⟨d[i]'(by rw [HN.out]; omega), List.getElem?_eq_getElem _⟩
          obtain ⟨b3, o3, rfl, hb3, hc3⟩ := HD.out (by rw [HN.out]; omega)
          obtain ⟨A', kz, z0, _, zl, _, _⟩ := hc3 i z hz
          obtain ⟨zn, hzn⟩ : ∃ zn, z.length = zn := ⟨_, rfl⟩
          rw [hzn] at z0 zl
          unfold maxLen at zl
          obtain ⟨wd, hwd⟩ : ∃ wd, w4.drew = wd := ⟨_, rfl⟩
          have hwb : Below w4.heap.size w4 wd := by rw [← hwd]; exact (Below.refl _ _).drew
          have hbd := HB4.out.trans (hwb.mono HB4.out.size)
          have nd := (hwb.block _ (heap_lt1 HN4.out)).trans HN4.out
          have zd := (hbd.cell (p := ⟨b3, o3 + i, none⟩) hb3).trans z0
          have l3 : b3 < wd.heap.size := Nat.lt_of_lt_of_le hb3 hbd.size
          obtain ⟨e0, e1, e2⟩ := rk_cells nd
          have le := heap_lt1 nd
          have hyy := HYY.out
          rw [if_pos rfl, drop_at hz] at hyy
          dsimp only at hyy
          rw [hzn] at hyy
          have HYZ := Lib.hid hyy
          have HHELD := Lib.hid (imheld_any wd xo xs true hsx)
          have HWD := Lib.hid hwd
          have HBD := Lib.hid hbd
          clear hwd hwb hbd nd hyy hz hc3 z0
          by_cases hzz : (zn : Int) = xs - 16
          · have g1 : ((zn : Int) != xs - 16) = false := by rw [bne_eq_false_iff_eq]; exact hzz
            have HF : Hid (datOk (l.drop (j + 1)) (d.drop (i + 1)) = y) := (show _ = y from by
              have e := HYZ.out
              have e2 : ((zn : Int) == xs - 16) = true := by rw [beq_iff_eq]; exact hzz
              rw [e2, Bool.true_and] at e
              exact e)
            clear hzz
            go_wp2_with (first | (rw [HW4.out]) | fail)
            refine wp_region_tail wd.heap.size [([0, 1, 2, 3, 4, 5, 6, 7, 8, 9, 10], 11)] [12, 13] [] (by kernel_rfl) (by kernel_rfl) (by kernel_rfl) (fun _ _ _ _ _ h => h) ?_
            rw [HWD.out]
            have q0 : ∀ z : LaterB wd.heap.size wd, z.val.cell? ⟨b3, o3 + i, none⟩ = some (.slice A' zn kz) := fun z => (z.ext.cell (p := ⟨b3, o3 + i, none⟩) l3).trans zd
            have q1 : ∀ z : LaterB wd.heap.size wd, z.val.cell? ⟨wr.heap.size, 0, none⟩ = some (.int .i64 xo) := fun z => (z.ext.cell (p := ⟨wr.heap.size, 0, none⟩) le).trans e0
            have q2 : ∀ z : LaterB wd.heap.size wd, z.val.cell? ⟨wr.heap.size, 1, none⟩ = some (.int .i64 xs) := fun z => (z.ext.cell (p := ⟨wr.heap.size, 1, none⟩) le).trans e1
            have q3 : ∀ z : LaterB wd.heap.size wd, z.val.cell? ⟨wr.heap.size, 2, none⟩ = some (.bool true) := fun z => (z.ext.cell (p := ⟨wr.heap.size, 2, none⟩) le).trans e2
            refine tail_cons (l := ?segB) ?hsegB ?_
            case hsegB => simp only [pick, List.getElem?_toArray, List.getElem?_cons_succ, List.getElem?_cons_zero]; rfl
            repeat (go_big_quiet_step (fail))
            refine wpQuiet_nil ?_
            clear q0 q1 q2 q3
            refine tail_call (vs := #[.agg #[.int .i64 xo, .int .i64 xs, .bool true]]) Try.call45 rfl rfl rfl (R := fun r w' => r = .int .i64 (xs - 16) ∧ Below wd.heap.size wd w') (HHELD.out.mono ?_) wd.heap.size (Nat.le_refl _) ?_
            · rintro e w' ⟨rfl, hb⟩
              exact ⟨_, rfl, hb, rfl, hb⟩
            rintro r w5 hb5 ⟨rfl, _⟩
            have HB5 := Lib.hid (HBD.out.trans (hb5.mono HBD.out.size))
            clear hb5
            simp only [Act.put, List.setIfInBounds_toArray, List.set_cons_zero, List.set_cons_succ]
            refine tail_last (l := ?lastB) (t := []) ?hlastB ?htlastB ?_
            case hlastB => simp only [pick, List.getElem?_toArray, List.getElem?_cons_succ, List.getElem?_cons_zero]; rfl
            case htlastB => rfl
            repeat (go_big_quiet_step (fail))
            refine wpQuiet_nil ?_
            go_wp2
            go_roundw
            case rel => exact ⟨j + 1, i + 1, by go_num, by go_num, by omega, by omega, HF.out, HB5.out⟩
            case measure => simp only [intOf]; omega
          · have g1 : ((zn : Int) != xs - 16) = true := by rw [bne_iff_ne]; exact hzz
            have HF : Hid (y = false) := (show y = false from by
              have e := HYZ.out
              have e2 : ((zn : Int) == xs - 16) = false := by rw [beq_eq_false_iff_ne]; exact hzz
              rw [e2, Bool.false_and] at e
              exact e.symm)
            clear hzz
            go_wp2_with (first | (rw [HW4.out]) | fail)
            refine wp_region_tail wd.heap.size [([0, 1, 2, 3, 4, 5, 6, 7, 8, 9, 10], 11)] [12, 13] [] (by kernel_rfl) (by kernel_rfl) (by kernel_rfl) (fun _ _ _ _ _ h => h) ?_
            rw [HWD.out]
            have q0 : ∀ z : LaterB wd.heap.size wd, z.val.cell? ⟨b3, o3 + i, none⟩ = some (.slice A' zn kz) := fun z => (z.ext.cell (p := ⟨b3, o3 + i, none⟩) l3).trans zd
            have q1 : ∀ z : LaterB wd.heap.size wd, z.val.cell? ⟨wr.heap.size, 0, none⟩ = some (.int .i64 xo) := fun z => (z.ext.cell (p := ⟨wr.heap.size, 0, none⟩) le).trans e0
            have q2 : ∀ z : LaterB wd.heap.size wd, z.val.cell? ⟨wr.heap.size, 1, none⟩ = some (.int .i64 xs) := fun z => (z.ext.cell (p := ⟨wr.heap.size, 1, none⟩) le).trans e1
            have q3 : ∀ z : LaterB wd.heap.size wd, z.val.cell? ⟨wr.heap.size, 2, none⟩ = some (.bool true) := fun z => (z.ext.cell (p := ⟨wr.heap.size, 2, none⟩) le).trans e2
            refine tail_cons (l := ?segC) ?hsegC ?_
            case hsegC => simp only [pick, List.getElem?_toArray, List.getElem?_cons_succ, List.getElem?_cons_zero]; rfl
            repeat (go_big_quiet_step (fail))
            refine wpQuiet_nil ?_
            clear q0 q1 q2 q3
            refine tail_call (vs := #[.agg #[.int .i64 xo, .int .i64 xs, .bool true]]) Try.call45 rfl rfl rfl (R := fun r w' => r = .int .i64 (xs - 16) ∧ Below wd.heap.size wd w') (HHELD.out.mono ?_) wd.heap.size (Nat.le_refl _) ?_
            · rintro e w' ⟨rfl, hb⟩
              exact ⟨_, rfl, hb, rfl, hb⟩
            rintro r w5 hb5 ⟨rfl, _⟩
            have HB5 := Lib.hid (HBD.out.trans (hb5.mono HBD.out.size))
            clear hb5
            simp only [Act.put, List.setIfInBounds_toArray, List.set_cons_zero, List.set_cons_succ]
            refine tail_last (l := ?lastC) (t := []) ?hlastC ?htlastC ?_
            case hlastC => simp only [pick, List.getElem?_toArray, List.getElem?_cons_succ, List.getElem?_cons_zero]; rfl
            case htlastC => rfl
            repeat (go_big_quiet_step (fail))
            refine wpQuiet_nil ?_
            go_wp2
            go_ret
            exact ⟨ret_bool HF.out.symm, HB5.out⟩
    · have hdn : l.drop j = [] := List.drop_eq_nil_of_le (by rw [HM.out]; omega)
      rw [hdn] at hyy
      unfold datOk at hyy
      have HYY := Lib.hid hyy
      have HBB := Lib.hid hb
      clear hyy hb hdn
      go_wp2
      go_ret
      exact ⟨ret_bool (by
        rw [← HYY.out]
        by_cases hin : i = n
        · rw [List.drop_eq_nil_of_le (by rw [HN.out]; omega)]
          rw [List.isEmpty_nil, beq_iff_eq]; omega
        · have e : ((i : Int) == (n : Int)) = false := by rw [beq_eq_false_iff_ne]; omega
          rw [e]
          cases hd2 : d.drop i with
          | nil => have := congrArg List.length hd2; rw [List.length_drop, HN.out] at this; simp at this; omega
          | cons _ _ => rfl), HBB.out⟩
end Go.Proofs.Ytbemaoncakcnjaa

/- The program's images: May, the whole. -/
namespace Go.Proofs.Ytbemaoncakcnjaa
open Go.RowKit

theorem u64N_cast (n : Int) : ((u64N n : Nat) : Int) = n % 18446744073709551616 := by unfold u64N; omega
set_option maxRecDepth 100000 in
set_option maxHeartbeats 1000000 in
theorem immay_any (w : World) (n : Int) (hn : -9223372036854775808 ≤ n ∧ n ≤ 9223372036854775807) (A1 A2 : Option Addr) (k1 k2 : Nat) (l : List Rk) (d : List (List UInt8)) (hr : RkRd w w.heap.size A1 l) (hd : DtRd w w.heap.size A2 d) (hl : l.length ≤ 1000000) (hdl : d.length ≤ 1000000) (y : Bool) (hy : mayI n l d = y) :
    Calls Try.prog 19 #[imV n A1 l.length k1 A2 d.length k2] w fun e w' => e = .returned (.bool y) ∧ Below w.heap.size w w' := by
  unfold imV
  obtain ⟨w1, hw1⟩ : ∃ w1, w.alloc (.cells #[.int .i64 n, .slice A1 l.length k1, .slice A2 d.length k2] 28) = w1 := ⟨_, rfl⟩
  have hb1 : Below w.heap.size w w1 := by rw [← hw1]; exact (Below.refl _ _).alloc (Nat.le_refl _) _
  have n1 : w1.heap[w.heap.size]? = some (.cells #[.int .i64 n, .slice A1 l.length k1, .slice A2 d.length k2] 28 (0, 0)) := by rw [← hw1]; exact heap_alloc_new w _
  obtain ⟨d0, d1, d2⟩ := rk_cells n1
  have hl1 := heap_lt1 n1
  have HLEN : Hid (∀ W, Calls Try.prog 42 #[.int .u64 (n % 18446744073709551616)] W fun e w' => e = .returned (.bool (lenOk n)) ∧ W = w') := fun W => by
    have h := imlen_any W (u64N n) (by unfold u64N; omega) (lenOk n) (lenOk_u64 n hn)
    rw [u64N_cast] at h
    exact h
  have HB1 := Lib.hid hb1
  have HR := Lib.hid hr
  have HD := Lib.hid hd
  have HY := Lib.hid hy
  obtain ⟨ll, hll⟩ : ∃ ll, l.length = ll := ⟨_, rfl⟩
  obtain ⟨dl, hdll⟩ : ∃ dl, d.length = dl := ⟨_, rfl⟩
  have HROW : Hid (lenOk n = true → Calls Try.prog 43 #[.slice A1 ll k1, .int .i64 n] w1 fun e w' => e = .returned (.bool (rowOk n 184 false l)) ∧ Below w1.heap.size w1 w') := fun hk => by
    have h3 := (lenOk_iff n).1 hk
    have := imrow_any w1 A1 k1 l ((hr.below hb1).more hb1.size) hl n ⟨h3.1, h3.2.1⟩ _ rfl
    rw [hll] at this
    exact this
  have HDAT : Hid (∀ W, Below w.heap.size w W → rowOk n 184 false l = true → Calls Try.prog 44 #[.slice A2 dl k2, .slice A1 ll k1] W fun e w' => e = .returned (.bool (datOk l d)) ∧ Below W.heap.size W w') := fun W hW hk => by
    have := imdat_any W A1 A2 k1 k2 l d ((hr.below hW).more hW.size) ((hd.below hW).more hW.size) hl hdl (rowOk_sz hk) _ rfl
    rw [hll, hdll] at this
    exact this
  rw [hll] at d1
  rw [hdll] at d2
  rw [hll, hdll]
  rw [hll, hdll] at hw1 n1
  have HN1 := Lib.hid n1
  have HW1 := Lib.hid hw1
  clear hw1 hb1 n1 hr hd hy hll hdll
  cases hlo : lenOk n with
  | false =>
    have HF : Hid (false = y) := (show false = y by rw [← HY.out]; unfold mayI; rw [hlo]; rfl)
    rw [hlo] at HLEN
    clear hlo
    go_enter Try.func19, Try.ntmps19
    go_wp2_with (first | (rw [HW1.out]) | fail)
    refine (HLEN.out _).mono ?_
    rintro e w2 ⟨rfl, rfl⟩
    go_wp2
    go_ret
    exact ⟨ret_bool HF.out, HB1.out⟩
  | true =>
    have HROW2 := Lib.hid (HROW.out hlo)
    rw [hlo] at HLEN
    cases hro : rowOk n 184 false l with
    | false =>
      have HF : Hid (false = y) := (show false = y by rw [← HY.out]; unfold mayI; rw [hlo, hro]; rfl)
      rw [hro] at HROW2
      clear hlo hro
      go_enter Try.func19, Try.ntmps19
      go_wp2_with (first | (rw [HW1.out]) | fail)
      refine (HLEN.out _).mono ?_
      rintro e w2 ⟨rfl, rfl⟩
      go_wp2_with fail
      refine HROW2.out.mono ?_
      rintro e w2 ⟨rfl, hb2⟩
      have HF2 := Lib.hid (HB1.out.trans (hb2.mono HB1.out.size))
      clear hb2
      go_wp2
      go_ret
      exact ⟨ret_bool HF.out, HF2.out⟩
    | true =>
      have HDAT2 := Lib.hid (fun W hW => HDAT.out W hW hro)
      have HF : Hid (datOk l d = y) := (show datOk l d = y by rw [← HY.out]; unfold mayI; rw [hlo, hro]; rfl)
      rw [hro] at HROW2
      clear hlo hro
      go_enter Try.func19, Try.ntmps19
      go_wp2_with (first | (rw [HW1.out]) | fail)
      refine (HLEN.out _).mono ?_
      rintro e w2 ⟨rfl, rfl⟩
      go_wp2_with fail
      refine HROW2.out.mono ?_
      rintro e w2 ⟨rfl, hb2⟩
      have hb02 := HB1.out.trans (hb2.mono HB1.out.size)
      have HD3 := Lib.hid (HDAT2.out w2 hb02)
      have n2 := (hb2.block _ (heap_lt1 HN1.out)).trans HN1.out
      obtain ⟨e0, e1, e2⟩ := rk_cells n2
      have hl2 := heap_lt1 n2
      have HF2 := Lib.hid hb02
      clear hb2 hb02 n2
      go_wp2_with fail
      refine HD3.out.mono ?_
      rintro e w3 ⟨rfl, hb3⟩
      have HF3 := Lib.hid (HF2.out.trans (hb3.mono HF2.out.size))
      clear hb3
      go_wp2
      go_ret
      exact ⟨ret_bool HF.out, HF3.out⟩
end Go.Proofs.Ytbemaoncakcnjaa

/- The document's images: May (genimg5.py). -/
namespace Go.Proofs.Ytbemaoncakcnjaa
open Go.RowKit

/-- Whether the block ahead of the j-th is free. -/
def prevF15 (l : List Rk) : Nat → Bool
  | 0 => false
  | j + 1 => match l[j]? with
    | some x => !x.u
    | none => false
theorem prevF15_at {l : List Rk} {j : Nat} {x : Rk} (h : l[j]? = some x) : prevF15 l (j + 1) = !x.u := by
  show (match l[j]? with
    | some x => !x.u
    | none => false) = !x.u
  rw [h]
set_option maxRecDepth 100000 in
set_option maxHeartbeats 8000000 in
theorem rmay_any (w : World) (n : Int) (hn : -9223372036854775808 ≤ n ∧ n ≤ 9223372036854775807) (A1 A2 : Option Addr) (k1 k2 : Nat) (l : List Rk) (d : List (List UInt8)) (hr : RkRd w w.heap.size A1 l) (hd : DtRd w w.heap.size A2 d) (hl : l.length ≤ 1000000) (hdl : d.length ≤ 1000000) (y : Bool) (hy : mayI n l d = y) :
    Calls Try.prog 8 #[imV n A1 l.length k1 A2 d.length k2] w fun e w' => e = .returned (.bool y) ∧ Below w.heap.size w w' := by
  unfold imV
  obtain ⟨ll, hll⟩ : ∃ ll, l.length = ll := ⟨_, rfl⟩
  obtain ⟨dl, hdll⟩ : ∃ dl, d.length = dl := ⟨_, rfl⟩
  rw [hll] at hl
  rw [hdll] at hdl
  rw [hll, hdll]
  obtain ⟨w1, hw1⟩ : ∃ w1, w.alloc (.cells #[.int .i64 n, .slice A1 ll k1, .slice A2 dl k2] 35) = w1 := ⟨_, rfl⟩
  have hb1 : Below w.heap.size w w1 := by rw [← hw1]; exact (Below.refl _ _).alloc (Nat.le_refl _) _
  have n1 : w1.heap[w.heap.size]? = some (.cells #[.int .i64 n, .slice A1 ll k1, .slice A2 dl k2] 35 (0, 0)) := by rw [← hw1]; exact heap_alloc_new w _
  obtain ⟨d0, d1, d2⟩ := rk_cells n1
  have hl1 := heap_lt1 n1
  have HN1 := Lib.hid n1
  have HB1 := Lib.hid hb1
  have HW1 := Lib.hid hw1
  have HR := Lib.hid ((hr.below hb1).more hb1.size)
  have HD := Lib.hid ((hd.below hb1).more hb1.size)
  have HY := Lib.hid hy
  have HLL := Lib.hid hll
  have HDLL := Lib.hid hdll
  clear hw1 hb1 n1 hr hd hy hll hdll
  by_cases h1 : n < 184
  · have g1 : decide (n < 184) = true := decide_eq_true h1
    have HF : Hid (false = y) := (show false = y by rw [← HY.out]; unfold mayI; rw [(lenOk_false n).2 (by omega)]; rfl)
    go_enter Try.func8, Try.ntmps8
    go_wp2_with (first | (rw [HW1.out]) | fail)
    go_ret
    exact ⟨ret_bool HF.out, HB1.out⟩
  · have g1 : decide (n < 184) = false := decide_eq_false h1
    by_cases h2 : 16384 < n
    · have g2 : decide (16384 < n) = true := decide_eq_true h2
      have HF : Hid (false = y) := (show false = y by rw [← HY.out]; unfold mayI; rw [(lenOk_false n).2 (by omega)]; rfl)
      go_enter Try.func8, Try.ntmps8
      go_wp2_with (first | (rw [HW1.out]) | fail)
      go_ret
      exact ⟨ret_bool HF.out, HB1.out⟩
    · have g2 : decide (16384 < n) = false := decide_eq_false h2
      obtain ⟨N, rfl⟩ : ∃ N : Nat, n = (N : Int) := ⟨n.toNat, by omega⟩
      by_cases h3 : N % 16 = 8
      · have g3 : (((N : Int) % 16) != 8) = false := by rw [bne_eq_false_iff_eq]; omega
        by_cases h4 : 1024 < ll
        · have g4 : decide ((1024 : Int) < (ll : Int)) = true := decide_eq_true (by omega)
          have g4' : decide (1024 < ll) = true := decide_eq_true h4
          have HF : Hid (false = y) := (show false = y by
            rw [← HY.out]
            cases hm : mayI (N : Int) l d with
            | false => rfl
            | true =>
              unfold mayI at hm
              simp only [Bool.and_eq_true] at hm
              have := rowOk_len hm.2.1
              have := HLL.out
              omega)
          go_enter Try.func8, Try.ntmps8
          go_wp2_with (first | (rw [HW1.out]) | fail)
          go_ret
          exact ⟨ret_bool HF.out, HB1.out⟩
        · have g4 : decide ((1024 : Int) < (ll : Int)) = false := decide_eq_false (by omega)
          have g4' : decide (1024 < ll) = false := decide_eq_false h4
          have HYD : Hid (docOk (N : Int) 184 false l d = y) := (show _ = y by
            rw [← HY.out, docOk_eq]
            unfold mayI
            rw [(lenOk_iff (N : Int)).2 (by omega)]
            rfl)
          go_enter Try.func8, Try.ntmps8
          go_wp2_with (first | (rw [HW1.out]) | fail)
          go_loopw [3, 4, 5] (fun e u t wr => ∃ (j v z : Nat), t = .int .i64 (j : Int) ∧ e = .int .i64 (z : Int) ∧ u = .int .i64 (v : Int) ∧ j ≤ ll ∧ v ≤ dl ∧ z ≤ 184 + 16384 * j ∧ docOk (N : Int) (z : Int) (prevF15 l j) (l.drop j) (d.drop v) = y ∧ Below w1.heap.size w1 wr) (fun _ _ t _ => ll - (intOf t).toNat)
          case atStart => exact ⟨0, 0, 184, rfl, rfl, rfl, Nat.zero_le _, Nat.zero_le _, by omega, HYD.out, Below.refl _ _⟩
          case round =>
            obtain ⟨j, v, z, rfl, rfl, rfl, hj, hv, hz, hyy, hb⟩ := hrel
            have m1 := (hb.cell (p := ⟨w.heap.size, 1, none⟩) hl1).trans d1
            have m2 := (hb.cell (p := ⟨w.heap.size, 2, none⟩) hl1).trans d2
            have m0 := (hb.cell (p := ⟨w.heap.size, 0, none⟩) hl1).trans d0
            have hlr : w.heap.size < wr.heap.size := Nat.lt_of_lt_of_le hl1 hb.size
            by_cases hlt : j < ll
            · obtain ⟨x, hx⟩ : ∃ x, l[j]? = some x := ⟨l[j]'(by rw [HLL.out]; exact hlt), List.getElem?_eq_getElem _⟩
              obtain ⟨b2, o, rfl, hbb, hcl⟩ := HR.out (by rw [HLL.out]; omega)
              obtain ⟨p0, p1, p2, hxo, hxs⟩ := hcl j x hx
              have r0 := (hb.cell (p := ⟨b2, o + j * 3, none⟩) hbb).trans p0
              have r1 := (hb.cell (p := ⟨b2, o + j * 3 + 1, none⟩) hbb).trans p1
              have r2 := (hb.cell (p := ⟨b2, o + j * 3 + 2, none⟩) hbb).trans p2
              rw [drop_at hx] at hyy
              have hpn : prevF15 l (j + 1) = !x.u := prevF15_at hx
              have hprev : 0 < j → ∃ (xo' xs' : Int) (pu : Bool), prevF15 l j = !pu ∧ wr.cell? ⟨b2, o + (j - 1) * 3 + 2, none⟩ = some (.bool pu) := fun h0 => by
                obtain ⟨x', hx'⟩ : ∃ x', l[j - 1]? = some x' := ⟨l[j - 1]'(by rw [HLL.out]; omega), List.getElem?_eq_getElem _⟩
                obtain ⟨_, _, q2, _⟩ := hcl (j - 1) x' hx'
                refine ⟨0, 0, x'.u, ?_, (hb.cell (p := ⟨b2, o + (j - 1) * 3 + 2, none⟩) hbb).trans q2⟩
                obtain ⟨i, rfl⟩ : ∃ i, j = i + 1 := ⟨j - 1, by omega⟩
                rw [show i + 1 - 1 = i by omega] at hx'
                exact prevF15_at hx'
              unfold docOk at hyy
              obtain ⟨xo, xs, xu⟩ := x
              dsimp only at p0 p1 p2 r0 r1 r2 hyy hxo hxs hpn
              obtain ⟨w4, hw4⟩ : ∃ w4, wr.alloc (.cells #[.int .i64 xo, .int .i64 xs, .bool xu] 65) = w4 := ⟨_, rfl⟩
              have hb4' : Below wr.heap.size wr w4 := by rw [← hw4]; exact (Below.refl _ _).alloc (Nat.le_refl _) _
              have hb4 : Below w1.heap.size w1 w4 := hb.trans (hb4'.mono hb.size)
              have n4 : w4.heap[wr.heap.size]? = some (.cells #[.int .i64 xo, .int .i64 xs, .bool xu] 65 (0, 0)) := by rw [← hw4]; exact heap_alloc_new wr _
              have e0 := (hb4'.cell (p := ⟨w.heap.size, 0, none⟩) hlr).trans m0
              have e1 := (hb4'.cell (p := ⟨w.heap.size, 1, none⟩) hlr).trans m1
              have e2 := (hb4'.cell (p := ⟨w.heap.size, 2, none⟩) hlr).trans m2
              obtain ⟨x0, x1, x2⟩ := rk_cells n4
              have hl4 := heap_lt1 n4
              have hbr : b2 < wr.heap.size := Nat.lt_of_lt_of_le hbb hb.size
              have HP4 : Hid (0 < j → ∃ (pu : Bool), prevF15 l j = !pu ∧ w4.cell? ⟨b2, o + (j - 1) * 3 + 2, none⟩ = some (.bool pu)) := fun h0 => by
                obtain ⟨_, _, pu, a1, a2⟩ := hprev h0
                exact ⟨pu, a1, (hb4'.cell (p := ⟨b2, o + (j - 1) * 3 + 2, none⟩) hbr).trans a2⟩
              have HW4 := Lib.hid hw4
              have HB4 := Lib.hid hb4
              have HYY := Lib.hid hyy
              have HPN := Lib.hid hpn
              have HN4 := Lib.hid n4
              clear hx hb p0 p1 p2 hb4 hb4' n4 hw4 hcl hyy hprev hpn
              obtain ⟨sb, hsb⟩ : ∃ sb, isSz xs = sb := ⟨_, rfl⟩
              have HSZ := Lib.hid (fun W => rissize_any W xs hxs sb hsb)
              by_cases hbad : sb = false ∨ xo ≠ (z : Int) ∨ (prevF15 l j = true ∧ xu = false)
              · have HF : Hid (false = y) := (show false = y by
                  have e := HYY.out
                  rw [hsb, if_pos hbad] at e
                  exact e)
                cases sb with
                | false =>
                  clear hbad
                  go_wp2_with (first | (rw [HW4.out]) | fail)
                  refine (HSZ.out _).mono ?_
                  rintro e w5 ⟨rfl, rfl⟩
                  go_wp2
                  go_ret
                  exact ⟨ret_bool HF.out, HB1.out.trans (HB4.out.mono HB1.out.size)⟩
                | true =>
                  by_cases hxz : xo = (z : Int)
                  · have gz : (xo != (z : Int)) = false := by rw [bne_eq_false_iff_eq]; exact hxz
                    obtain ⟨hp, rfl⟩ : prevF15 l j = true ∧ xu = false := by
                      rcases hbad with h | h | h
                      · cases h
                      · exact absurd hxz h
                      · exact h
                    have hj0 : 0 < j := by
                      cases j with
                      | zero => cases hp
                      | succ j => omega
                    obtain ⟨pu, a1, a2⟩ := HP4.out hj0
                    rw [hp] at a1
                    obtain rfl : pu = false := by cases pu with | true => cases a1 | false => rfl
                    have gj : decide ((0 : Int) < (j : Int)) = true := decide_eq_true (by omega)
                    have gj' : decide (0 < j) = true := decide_eq_true hj0
                    have hmx : max ((j : Int) - 1) 0 = ((j - 1 : Nat) : Int) := by omega
                    have hjm : ((j - 1 : Nat) : Int) < (ll : Int) := by omega
                    clear hbad a1 hp hxz
                    go_wp2_with (first | (rw [HW4.out]) | fail)
                    refine (HSZ.out _).mono ?_
                    rintro e w5 ⟨rfl, rfl⟩
                    go_wp2
                    go_ret
                    exact ⟨ret_bool HF.out, HB1.out.trans (HB4.out.mono HB1.out.size)⟩
                  · have gz : (xo != (z : Int)) = true := by rw [bne_iff_ne]; exact hxz
                    clear hbad
                    go_wp2_with (first | (rw [HW4.out]) | fail)
                    refine (HSZ.out _).mono ?_
                    rintro e w5 ⟨rfl, rfl⟩
                    go_wp2
                    go_ret
                    exact ⟨ret_bool HF.out, HB1.out.trans (HB4.out.mono HB1.out.size)⟩
              · have hsbt : sb = true := by
                  cases sb with
                  | true => rfl
                  | false => exact absurd (.inl rfl) hbad
                subst hsbt
                have hxz : xo = (z : Int) := Classical.byContradiction fun h => hbad (.inr (.inl h))
                have gz : (xo != (z : Int)) = false := by rw [bne_eq_false_iff_eq]; exact hxz
                have hsz := (isSz_iff _).1 hsb
                have HYC := Lib.hid (show (if xu = true then (match d.drop v with
                    | [] => false
                    | y :: d' => if (y.length : Int) ≠ xs - 16 then false else docOk (N : Int) ((z : Int) + xs) (!xu) (l.drop (j + 1)) d')
                    else docOk (N : Int) ((z : Int) + xs) (!xu) (l.drop (j + 1)) (d.drop v)) = y by
                  have e := HYY.out
                  rw [if_neg (by rw [hsb]; exact hbad)] at e
                  exact e)
                obtain ⟨xn, rfl⟩ : ∃ xn : Nat, xs = (xn : Int) := ⟨xs.toNat, by omega⟩
                cases xu with
                | false =>
                  have HGO : Hid (docOk (N : Int) ((z + xn : Nat) : Int) (prevF15 l (j + 1)) (l.drop (j + 1)) (d.drop v) = y) := (show _ = y by
                    have e := HYC.out
                    rw [if_neg (by decide)] at e
                    rw [HPN.out, Int.natCast_add]
                    exact e)
                  have HEND : Hid (∀ W, Below w1.heap.size w1 W → True) := fun _ _ => trivial
                  by_cases hj0 : 0 < j
                  · obtain ⟨pu, a1, a2⟩ := HP4.out hj0
                    obtain rfl : pu = true := by
                      cases pu with
                      | true => rfl
                      | false => exact absurd (.inr (.inr ⟨a1, rfl⟩)) hbad
                    have gj : decide ((0 : Int) < (j : Int)) = true := decide_eq_true (by omega)
                    have gj' : decide (0 < j) = true := decide_eq_true hj0
                    have hmx : max ((j : Int) - 1) 0 = ((j - 1 : Nat) : Int) := by omega
                    have hjm : ((j - 1 : Nat) : Int) < (ll : Int) := by omega
                    clear hbad a1 hxz hsb
                    go_wp2_with (first | (rw [HW4.out]) | fail)
                    refine (HSZ.out _).mono ?_
                    rintro e w5 ⟨rfl, rfl⟩
                    go_wp2
                    go_roundw
                    case rel => exact ⟨j + 1, v, z + xn, by go_num, by go_num, rfl, by omega, hv, by omega, HGO.out, HB4.out⟩
                    case measure => simp only [intOf]; omega
                  · have gj : decide ((0 : Int) < (j : Int)) = false := decide_eq_false (by omega)
                    have gj' : decide (0 < j) = false := decide_eq_false hj0
                    clear hbad hxz hsb
                    go_wp2_with (first | (rw [HW4.out]) | fail)
                    refine (HSZ.out _).mono ?_
                    rintro e w5 ⟨rfl, rfl⟩
                    go_wp2
                    go_roundw
                    case rel => exact ⟨j + 1, v, z + xn, by go_num, by go_num, rfl, by omega, hv, by omega, HGO.out, HB4.out⟩
                    case measure => simp only [intOf]; omega
                | true =>
                  by_cases hvd : v < dl
                  · obtain ⟨q, hq⟩ : ∃ q, d[v]? = some q := ⟨d[v]'(by rw [HDLL.out]; exact hvd), List.getElem?_eq_getElem _⟩
                    obtain ⟨b3, o3, rfl, hb3, hc3⟩ := HD.out (by rw [HDLL.out]; omega)
                    obtain ⟨A', kz, z0, _, zl, _, _⟩ := hc3 v q hq
                    obtain ⟨zn, hzn⟩ : ∃ zn, q.length = zn := ⟨_, rfl⟩
                    rw [hzn] at z0 zl
                    unfold maxLen at zl
                    have z4 := (HB4.out.cell (p := ⟨b3, o3 + v, none⟩) hb3).trans z0
                    have l3 : b3 < w4.heap.size := Nat.lt_of_lt_of_le hb3 HB4.out.size
                    have gv : decide ((dl : Int) ≤ (v : Int)) = false := decide_eq_false (by omega)
                    have gv' : decide (dl ≤ v) = false := decide_eq_false (by omega)
                    have hvi : (v : Int) < (dl : Int) := by omega
                    have HYQ := Lib.hid (show (if (zn : Int) ≠ (xn : Int) - 16 then false else docOk (N : Int) ((z : Int) + (xn : Int)) (!true) (l.drop (j + 1)) (d.drop (v + 1))) = y by
                      have e := HYC.out
                      rw [if_pos rfl, drop_at hq] at e
                      dsimp only at e
                      rw [hzn] at e
                      exact e)
                    clear hq hc3 z0 hzn hsb
                    by_cases hzz : (zn : Int) = (xn : Int) - 16
                    · have g5 : ((zn : Int) != (xn : Int) - 16) = false := by rw [bne_eq_false_iff_eq]; exact hzz
                      have HGO : Hid (docOk (N : Int) ((z + xn : Nat) : Int) (prevF15 l (j + 1)) (l.drop (j + 1)) (d.drop (v + 1)) = y) := (show _ = y by
                        have e := HYQ.out
                        rw [if_neg (by simpa using hzz)] at e
                        rw [HPN.out, Int.natCast_add]
                        exact e)
                      clear hzz hbad hxz
                      by_cases hj0 : 0 < j
                      · have gj : decide ((0 : Int) < (j : Int)) = true := decide_eq_true (by omega)
                        have gj' : decide (0 < j) = true := decide_eq_true hj0
                        go_wp2_with (first | (rw [HW4.out]) | fail)
                        refine (HSZ.out _).mono ?_
                        rintro e w5 ⟨rfl, rfl⟩
                        go_wp2_with fail
                        go_quiet (fail)
                        go_wp2
                        go_roundw
                        case rel => exact ⟨j + 1, v + 1, z + xn, by go_num, by go_num, by go_num, by omega, by omega, by omega, HGO.out, HB4.out.trans ((below_dN _ _).mono HB4.out.size)⟩
                        case measure => simp only [intOf]; omega
                      · have gj : decide ((0 : Int) < (j : Int)) = false := decide_eq_false (by omega)
                        have gj' : decide (0 < j) = false := decide_eq_false hj0
                        go_wp2_with (first | (rw [HW4.out]) | fail)
                        refine (HSZ.out _).mono ?_
                        rintro e w5 ⟨rfl, rfl⟩
                        go_wp2_with fail
                        go_quiet (fail)
                        go_wp2
                        go_roundw
                        case rel => exact ⟨j + 1, v + 1, z + xn, by go_num, by go_num, by go_num, by omega, by omega, by omega, HGO.out, HB4.out.trans ((below_dN _ _).mono HB4.out.size)⟩
                        case measure => simp only [intOf]; omega
                    · have g5 : ((zn : Int) != (xn : Int) - 16) = true := by rw [bne_iff_ne]; exact hzz
                      have HF : Hid (false = y) := (show false = y by
                        have e := HYQ.out
                        rw [if_pos hzz] at e
                        exact e)
                      clear hzz hbad hxz
                      by_cases hj0 : 0 < j
                      · have gj : decide ((0 : Int) < (j : Int)) = true := decide_eq_true (by omega)
                        have gj' : decide (0 < j) = true := decide_eq_true hj0
                        go_wp2_with (first | (rw [HW4.out]) | fail)
                        refine (HSZ.out _).mono ?_
                        rintro e w5 ⟨rfl, rfl⟩
                        go_wp2_with fail
                        go_quiet (fail)
                        go_wp2
                        go_ret
                        exact ⟨ret_bool HF.out, HB1.out.trans ((HB4.out.trans ((below_dN _ _).mono HB4.out.size)).mono HB1.out.size)⟩
                      · have gj : decide ((0 : Int) < (j : Int)) = false := decide_eq_false (by omega)
                        have gj' : decide (0 < j) = false := decide_eq_false hj0
                        go_wp2_with (first | (rw [HW4.out]) | fail)
                        refine (HSZ.out _).mono ?_
                        rintro e w5 ⟨rfl, rfl⟩
                        go_wp2_with fail
                        go_quiet (fail)
                        go_wp2
                        go_ret
                        exact ⟨ret_bool HF.out, HB1.out.trans ((HB4.out.trans ((below_dN _ _).mono HB4.out.size)).mono HB1.out.size)⟩
                  · have gv : decide ((dl : Int) ≤ (v : Int)) = true := decide_eq_true (by omega)
                    have gv' : decide (dl ≤ v) = true := decide_eq_true (by omega)
                    have HF : Hid (false = y) := (show false = y by
                      have e := HYC.out
                      rw [if_pos rfl, List.drop_eq_nil_of_le (by rw [HDLL.out]; omega)] at e
                      exact e)
                    clear hbad hxz hsb
                    by_cases hj0 : 0 < j
                    · have gj : decide ((0 : Int) < (j : Int)) = true := decide_eq_true (by omega)
                      have gj' : decide (0 < j) = true := decide_eq_true hj0
                      go_wp2_with (first | (rw [HW4.out]) | fail)
                      refine (HSZ.out _).mono ?_
                      rintro e w5 ⟨rfl, rfl⟩
                      go_wp2
                      go_ret
                      exact ⟨ret_bool HF.out, HB1.out.trans (HB4.out.mono HB1.out.size)⟩
                    · have gj : decide ((0 : Int) < (j : Int)) = false := decide_eq_false (by omega)
                      have gj' : decide (0 < j) = false := decide_eq_false hj0
                      go_wp2_with (first | (rw [HW4.out]) | fail)
                      refine (HSZ.out _).mono ?_
                      rintro e w5 ⟨rfl, rfl⟩
                      go_wp2
                      go_ret
                      exact ⟨ret_bool HF.out, HB1.out.trans (HB4.out.mono HB1.out.size)⟩
            · have hdn : l.drop j = [] := List.drop_eq_nil_of_le (by rw [HLL.out]; omega)
              rw [hdn] at hyy
              unfold docOk at hyy
              have HYY := Lib.hid hyy
              have HBB := Lib.hid (HB1.out.trans (hb.mono HB1.out.size))
              clear hyy hb hdn
              by_cases hzn : z = N
              · have g6 : ((z : Int) == (N : Int)) = true := by rw [beq_iff_eq]; omega
                have HF : Hid ((v == dl) = y) := (show _ = y by
                  have e := HYY.out
                  rw [g6, Bool.true_and] at e
                  rw [← e]
                  by_cases hvd : v = dl
                  · rw [List.drop_eq_nil_of_le (by rw [HDLL.out]; omega), hvd]; simp
                  · have e5 : (v == dl) = false := by rw [beq_eq_false_iff_ne]; exact hvd
                    rw [e5]
                    cases hd2 : d.drop v with
                    | nil => have := congrArg List.length hd2; rw [List.length_drop, HDLL.out] at this; simp at this; omega
                    | cons _ _ => rfl)
                have HF2 : Hid (((v : Int) == (dl : Int)) = y) := (show _ = y by
                  rw [← HF.out]
                  by_cases hvd : v = dl
                  · rw [hvd]; simp
                  · have e5 : (v == dl) = false := by rw [beq_eq_false_iff_ne]; exact hvd
                    rw [e5, beq_eq_false_iff_ne]; omega)
                go_wp2
                go_ret
                exact ⟨ret_bool HF2.out, HBB.out⟩
              · have g6 : ((z : Int) == (N : Int)) = false := by rw [beq_eq_false_iff_ne]; omega
                have HF : Hid (false = y) := (show false = y by
                  have e := HYY.out
                  rw [g6, Bool.false_and] at e
                  exact e)
                go_wp2
                go_ret
                exact ⟨ret_bool HF.out, HBB.out⟩
      · have g3 : (((N : Int) % 16) != 8) = true := by rw [bne_iff_ne]; omega
        have HF : Hid (false = y) := (show false = y by rw [← HY.out]; unfold mayI; rw [(lenOk_false (N : Int)).2 (by omega)]; rfl)
        go_enter Try.func8, Try.ntmps8
        go_wp2_with (first | (rw [HW1.out]) | fail)
        go_ret
        exact ⟨ret_bool HF.out, HB1.out⟩
end Go.Proofs.Ytbemaoncakcnjaa

/- The document's images: Put (genimg6.py). -/
namespace Go.Proofs.Ytbemaoncakcnjaa
open Go.RowKit

theorem own_off {w w' : World} {base n size : Nat} {t : TypeId} {v : Value} {xs : List Value} {r : Option Nat} (h : w.ownsRow base t size v n xs) (hg : w.grownBy w' r) (hne : ∀ k, v.ownBlock = some k → r ≠ some k) : w'.ownsRow base t size v n xs := by
  refine ⟨h.1, ?_⟩
  rcases h.2 with h2 | ⟨g, cap, cur, hv, hb, hh, q⟩
  · exact .inl h2
  · have hk : v.ownBlock = some g := by rw [hv]; rfl
    refine .inr ⟨g, cap, cur, hv, hb, ?_, q⟩
    obtain ⟨_, _, _, _, h5⟩ := hg
    exact (h5 g (h.lt g hk).2 (fun e => hne g hk e.symm)).trans hh
/-- An own row, as bytes. -/
theorem own_reads {w : World} {base n c : Nat} {A : Option Addr} {bs : List UInt8} (h : w.ownsRow base 5 1 (.slice A n c) n (bs.map bv)) : Rd w w.heap.size A n bs := by
  obtain ⟨A', c', e, _, hr⟩ := own_any h
  injection e with e1 _ _
  subst e1
  exact hr
end Go.Proofs.Ytbemaoncakcnjaa

/- The program's images: a sum behind its bytes; the head; Get of the document's example, and of nothing. -/
namespace Go.Proofs.Ytbemaoncakcnjaa
open Go.RowKit

theorem im_set {y0 y1 y2 : Value} {w : World} {g : Nat} {t : TypeId} (h : w.heap[g]? = some (.cells #[y0, y1, y2] t (0, 0))) (x0 x1 x2 : Value) :
    (((w.setCell ⟨g, 0, none⟩ x0).setCell ⟨g, 1, none⟩ x1).setCell ⟨g, 2, none⟩ x2).heap[g]? = some (.cells #[x0, x1, x2] t (0, 0)) := by
  have h1 := heap_setCell_same w g 0 _ _ x0 h
  have h2 := heap_setCell_same _ g 1 _ _ x1 h1
  have h3 := heap_setCell_same _ g 2 _ _ x2 h2
  rw [h3]
  rfl
theorem im_thaw {w : World} {g : Nat} {cs : Array Value} {t : TypeId} (h : w.heap[g]? = some (.cells cs t (0, 0))) : w.frozen? ⟨g, 0, none⟩ = false ∧ w.frozen? ⟨g, 1, none⟩ = false ∧ w.frozen? ⟨g, 2, none⟩ = false :=
  ⟨frozen_of_row w g 0 _ _ h, frozen_of_row w g 1 _ _ h, frozen_of_row w g 2 _ _ h⟩
end Go.Proofs.Ytbemaoncakcnjaa

/- Rows of slices of bytes, made by the call; blocks that are others. -/
namespace Go.Proofs.Ytbemaoncakcnjaa
open Go.RowKit

theorem own_typ {w : World} {base n size k : Nat} {t t' : TypeId} {v : Value} {xs : List Value} {cs : Array Value} {fz : Nat × Nat} (h : w.ownsRow base t size v n xs) (hk : v.ownBlock = some k) (hc : w.heap[k]? = some (.cells cs t' fz)) (hne : t ≠ t') : False := by
  rcases h.2 with ⟨hv, _⟩ | ⟨g, cap, cur, hv, _, hg, _⟩
  · rw [hv] at hk; cases hk
  · rw [hv] at hk
    unfold Value.ownBlock at hk
    injection hk with hk
    subst hk
    rw [hg] at hc
    injection hc with hc
    injection hc with _ e _
    exact hne e
theorem own_ge {w : World} {base n size : Nat} {t : TypeId} {v : Value} {xs : List Value} (h : w.ownsRow base t size v n xs) : ∀ k, v.ownBlock = some k → base ≤ k := by
  intro k hk
  rcases h.2 with ⟨hv, _⟩ | ⟨g, cap, cur, hv, hb, _, _⟩
  · rw [hv] at hk; cases hk
  · rw [hv] at hk
    unfold Value.ownBlock at hk
    injection hk with hk
    subst hk
    exact hb
theorem dt_inf : (Try.prog.info? 44).map (fun i => (i.zero, i.size, i.bytes)) = some (some (.slice none 0 0), 1, 24) := by kernel_rfl
theorem run_one_d (w : World) (A : Option Addr) (n c : Nat) : (Instr.buildSlice 23 1 #[(0, .slice A n c)]).run Try.prog w = .ok (.slice (some ⟨w.heap.size, 0, none⟩) 1 1) (w.alloc (.cells #[.slice A n c] 44)) := by
  obtain ⟨i0, hi, hz0, hz1, hz2⟩ := info_parts dt_inf
  refine run_buildSlice w 23 44 1 _ _ i0 _ Try.underlying23 hi hz0 (by omega) (by omega) ?_
  rw [hz1]
  have e : Array.range (1 * 1) = #[0] := by decide
  rw [e]
  simp [Instr.fill, Value.cells]
end Go.Proofs.Ytbemaoncakcnjaa

/- An image of the document's in the making: its object, its row of blocks, its row of data. -/
namespace Go.Proofs.Ytbemaoncakcnjaa
open Go.RowKit

section
variable {B g n : Nat} {N : Int} {A1 A2 : Option Addr} {c1 c2 : Nat} {l : List Rk} {d : List (List UInt8)} {xs : List Value} {w w3 w4 w' : World}
end
section
variable {B g : Nat} {N : Int} {A1 A2 : Option Addr} {c1 c2 : Nat} {l : List Rk} {d : List (List UInt8)} {xs : List Value} {w : World}
end
theorem own_atB {w : World} {base n c : Nat} {t : TypeId} {A : Option Addr} {xs : List Value} (h : w.ownsRow base t 1 (.slice A n c) n xs) (hn : 0 < n) : ∃ g, A = some ⟨g, 0, none⟩ ∧ n ≤ c ∧ c ≤ 9223372036854775807 ∧ g < w.heap.size ∧ base ≤ g := by
  rcases h.2 with ⟨_, h0⟩ | ⟨g, cap, cur, hv, hb, hg, h1, h2, _⟩
  · omega
  · injection hv with e1 _ e3
    subst e1 e3
    unfold maxLen at h2
    exact ⟨g, rfl, h1, h2, heap_lt1 hg, hb⟩
theorem bk_info21 : (Try.prog.info? 65).map (fun i => (i.zero, i.size, i.bytes)) = some (some (.agg #[.int .i64 0, .int .i64 0, .bool false]), 3, 24) := by kernel_rfl
theorem run_one_bk (w : World) (o s : Int) (u : Bool) : (Instr.buildSlice 22 1 #[(0, .agg #[.int .i64 o, .int .i64 s, .bool u])]).run Try.prog w = .ok (.slice (some ⟨w.heap.size, 0, none⟩) 1 1) (w.alloc (.cells #[.int .i64 o, .int .i64 s, .bool u] 65)) := by
  obtain ⟨i0, hi, hz0, hz1, hz2⟩ := info_parts bk_info21
  refine run_buildSlice w 22 65 1 _ _ i0 _ Try.underlying22 hi hz0 (by omega) (by omega) ?_
  rw [hz1]
  have e : Array.range (1 * 3) = #[0, 1, 2] := by decide
  rw [e]
  simp [Instr.fill, Value.cells]
theorem run_mk21 (n : Nat) (hn : n ≤ 1000000) (z : List UInt8) (hz : List.replicate n (0 : UInt8) = z) (W : World) : (Instr.makeSlice 44 (.int .i64 (n : Int)) (.int .i64 (n : Int))).run Try.prog W = .ok (.slice (some ⟨W.heap.size, 0, none⟩) n n) (W.alloc (.cells (rowB z) 5)) := by
  have := run_make_row' (P := Try.prog) 44 5 (.int .u8 0) 1 Try.underlying44 u8_info rfl .i64 .i64 n (by omega) (by omega) W
  rw [rowB_zeros, hz] at this
  exact this
theorem run_none21 (w : World) : (Instr.buildSlice 44 0 #[]).run Try.prog w = .ok (.slice (some ⟨w.heap.size, 0, none⟩) 0 0) (w.alloc (.cells #[] 5)) := by
  obtain ⟨i0, hi, hz0, hz1, hz2⟩ := info_parts u8_info
  have e : Array.range 0 = #[] := by decide
  simp [Instr.buildSlice, run_underlying Try.underlying44, sizeOf, typeInfo, hi, newRow, Instr.fill, e]
end Go.Proofs.Ytbemaoncakcnjaa

/- Slices of blocks, and of slices of bytes, that came in. -/
namespace Go.Proofs.Ytbemaoncakcnjaa
open Go.RowKit Go.ChangeShapes Go.WideShapes Go.Deep
abbrev RkB := Rk

section
variable {H : Type} {enc : TypeId × Value → H} {w : World} {base : Nat} {held : Bool} {fuel : Nat} {A : Option Addr} {len cap : Nat} {x : DataW H × List MemPlace}
set_option maxRecDepth 100000 in
theorem open_rks (h : DataW.trod enc Try.prog w base (fun _ => true) held fuel 22 [.slice A len cap] = some x) : ∃ l : List Rk, l.length = len ∧ RkRd w w.heap.size A l ∧ len ≤ maxLen := by
  have hC : Try.prog.cellsOf 65 = 3 := by kernel_rfl
  have hone : oneCellFields Try.prog (match Try.prog.underlying 65 with
    | some (.struct fs) => fs
    | _ => #[]) = true := by kernel_rfl
  rw [Try.underlying65] at hone
  dsimp only at hone
  rcases open_slice Try.underlying22 h with ⟨hcs, _⟩ | ⟨a, l, c, m, n, D, Pl, hcs, _, hl, hm, hmm, _, hi⟩
  · simp at hcs
    obtain ⟨rfl, rfl, rfl⟩ := hcs
    exact ⟨[], rfl, fun hn => absurd hn (by simp), Nat.zero_le _⟩
  · simp at hcs
    obtain ⟨rfl, rfl, rfl⟩ := hcs
    simp only [if_true] at hmm
    subst hmm
    rw [hC] at hi
    obtain ⟨ds, hd, hp⟩ := list_of (p := fun i (d : Rk) => w.cell? (a.add (i * 3)) = some (.int .i64 d.o) ∧ w.cell? (a.add (i * 3 + 1)) = some (.int .i64 d.s) ∧ w.cell? (a.add (i * 3 + 2)) = some (.bool d.u) ∧
        (-9223372036854775808 ≤ d.o ∧ d.o ≤ 9223372036854775807) ∧ (-9223372036854775808 ≤ d.s ∧ d.s ≤ 9223372036854775807)) len (fun i hil => by
      obtain ⟨cs', hc, ht⟩ := hi i (by omega)
      obtain ⟨_, hcl, hat⟩ := World.cells?_some hc
      obtain ⟨xs, n', _, _, _, hlen, hf⟩ := DataW.trod_struct Try.underlying65 ht
      match cs', hcl, xs, hlen with
      | [v0, v1, v2], _, [y0, y1, y2], _ =>
        have g0 := hf 0 _ rfl
        have g1 := hf 1 _ rfl
        have g2 := hf 2 _ rfl
        rw [(hone_of hone 0 _ rfl).1, (hone_of hone 0 _ rfl).2] at g0
        rw [(hone_of hone 1 _ rfl).1, (hone_of hone 1 _ rfl).2] at g1
        rw [(hone_of hone 2 _ rfl).1, (hone_of hone 2 _ rfl).2] at g2
        simp only [List.drop_zero, List.drop_succ_cons, List.take_succ_cons, List.take_zero, List.getElem?_cons_zero, List.getElem?_cons_succ] at g0 g1 g2
        obtain ⟨n0, h0, _, w0⟩ := DataW.trod_int Try.underlying3 g0
        obtain ⟨n1, h1, _, w1⟩ := DataW.trod_int Try.underlying3 g1
        obtain ⟨u, h2, _⟩ := DataW.trod_bool Try.underlying4 g2
        simp at h0 h1 h2
        subst h0 h1 h2
        have b0 := bounds_i64 w0
        have b1 := bounds_i64 w1
        have a0 := hat 0 (by omega)
        have a1 := hat 1 (by omega)
        have a2 := hat 2 (by omega)
        rw [Go.Deep.add_add] at a0 a1 a2
        exact ⟨⟨n0, n1, u⟩, a0, a1, a2, by dsimp only; omega, by dsimp only; omega⟩)
    refine ⟨ds, hd, fun hn => ?_, by omega⟩
    obtain ⟨d, hd0⟩ : ∃ d, ds[0]? = some d := ⟨ds[0], List.getElem?_eq_getElem hn⟩
    obtain ⟨h0, _⟩ := hp 0 d hd0
    rw [Nat.zero_mul] at h0
    obtain ⟨b, o, rfl, hlt, e⟩ := add_plain h0
    refine ⟨b, o, rfl, hlt, fun j d hj => ?_⟩
    obtain ⟨h0, h1, h2, h3⟩ := hp j d hj
    rw [e] at h0 h1 h2
    exact ⟨h0, h1, h2, h3⟩
set_option maxRecDepth 100000 in
theorem open_dts (h : DataW.trod enc Try.prog w base (fun _ => true) held fuel 23 [.slice A len cap] = some x) : ∃ l : List (List UInt8), l.length = len ∧ DtRd w w.heap.size A l ∧ len ≤ maxLen := by
  have hC : Try.prog.cellsOf 44 = 1 := by kernel_rfl
  rcases open_slice Try.underlying23 h with ⟨hcs, _⟩ | ⟨a, l, c, m, n, D, Pl, hcs, _, hl, hm, hmm, _, hi⟩
  · simp at hcs
    obtain ⟨rfl, rfl, rfl⟩ := hcs
    exact ⟨[], rfl, fun hn => absurd hn (by simp), Nat.zero_le _⟩
  · simp at hcs
    obtain ⟨rfl, rfl, rfl⟩ := hcs
    simp only [if_true] at hmm
    subst hmm
    rw [hC] at hi
    obtain ⟨ds, hd, hp⟩ := list_of (p := fun i (y : List UInt8) => ∃ A' k, w.cell? (a.add i) = some (.slice A' y.length k) ∧ Rd w w.heap.size A' y.length y ∧ y.length ≤ maxLen ∧ y.length ≤ k ∧ (A' = none → k = 0)) len (fun i hil => by
      obtain ⟨cs', hc, ht⟩ := hi i (by omega)
      obtain ⟨_, hcl, hat⟩ := World.cells?_some hc
      match cs', hcl with
      | [v5], _ =>
        obtain ⟨bA, bn, bc, rfl⟩ : ∃ bA bn bc, v5 = .slice bA bn bc := by
          rcases open_slice Try.underlying44 ht with ⟨h, _⟩ | ⟨a, l, c, _, _, _, _, h, _⟩
          · exact ⟨_, _, _, by simpa using h⟩
          · exact ⟨_, _, _, by simpa using h⟩
        obtain ⟨bs, hbs, hbl, hbc, hA0⟩ := open_byt ht
        obtain rfl : bs.length = bn := hbs.1
        have a0 := hat 0 (by omega)
        rw [Go.Deep.add_add] at a0
        rw [Nat.mul_one, Nat.add_zero] at a0
        exact ⟨bs, bA, bc, a0, hbs, Nat.le_trans hbl hbc, hbl, hA0⟩)
    refine ⟨ds, hd, fun hn => ?_, by omega⟩
    obtain ⟨d, hd0⟩ : ∃ d, ds[0]? = some d := ⟨ds[0], List.getElem?_eq_getElem hn⟩
    obtain ⟨A', k, h0, _⟩ := hp 0 d hd0
    obtain ⟨b, o, rfl, hlt, e⟩ := add_plain h0
    refine ⟨b, o, rfl, hlt, fun j d hj => ?_⟩
    obtain ⟨A', k, h0, h1, h2⟩ := hp j d hj
    rw [e] at h0
    exact ⟨A', k, h0, h1, h2⟩
end
end Go.Proofs.Ytbemaoncakcnjaa

/- Layer 15's laws: the example at their head, Few, Like; ImagePuts. -/
namespace Go.Proofs.Ytbemaoncakcnjaa
open Go.RowKit

/-- Few of everything. -/
def fewI (l : List Rk) (d : List (List UInt8)) : Bool := decide (l.length ≤ 600) && (decide (d.length ≤ 600) && ((d.all fun y => decide (y.length ≤ 20000)) && decide (d.flatten.length ≤ 40000)))
set_option maxRecDepth 100000 in
set_option maxHeartbeats 2000000 in
theorem few15_any (w : World) (A1 A2 : Option Addr) (k1 k2 : Nat) (l : List Rk) (d : List (List UInt8)) (hd : DtRd w w.heap.size A2 d) (hl : l.length ≤ maxLen) (hdl : d.length ≤ maxLen) (v : Int) (hv : (if fewI l d = true then (1 : Int) else 0) = v) :
    Calls Try.prog 6 #[.slice A1 l.length k1, .slice A2 d.length k2] w fun e w' => e = .returned (.int .i64 v) ∧ w = w' := by
  unfold maxLen at hl hdl
  by_cases h1 : 600 < l.length
  · have HV : Hid (v = 0) := (show v = 0 by rw [← hv]; unfold fewI; rw [decide_eq_false (by omega)]; rfl)
    have g1 : decide (600 < l.length) = true := decide_eq_true h1
    clear hv hd
    go_enter Try.func6, Try.ntmps6
    go_wp2
    go_ret
    rw [HV.out]
    exact ⟨rfl, rfl⟩
  · have g1 : decide (600 < l.length) = false := decide_eq_false h1
    by_cases h2 : 600 < d.length
    · have HV : Hid (v = 0) := (show v = 0 by rw [← hv]; unfold fewI; rw [decide_eq_true (by omega), decide_eq_false (by omega)]; rfl)
      have g2 : decide (600 < d.length) = true := decide_eq_true h2
      clear hv hd
      go_enter Try.func6, Try.ntmps6
      go_wp2
      go_ret
      rw [HV.out]
      exact ⟨rfl, rfl⟩
    · have g2 : decide (600 < d.length) = false := decide_eq_false h2
      have HE : Hid (v = if ((d.all fun y => decide (y.length ≤ 20000)) && decide (d.flatten.length ≤ 40000)) = true then 1 else 0) := (show _ = _ by
        rw [← hv]; unfold fewI; rw [decide_eq_true (by omega), decide_eq_true (by omega), Bool.true_and, Bool.true_and])
      obtain ⟨ln, hln⟩ : ∃ ln, l.length = ln := ⟨_, rfl⟩
      obtain ⟨n, hn⟩ : ∃ n, d.length = n := ⟨_, rfl⟩
      rw [hln] at g1
      rw [hn] at g2 h2
      rw [hln, hn]
      have HN := Lib.hid hn
      have HD := Lib.hid hd
      have n1 : ¬ 600 < ln := by rw [← hln]; exact h1
      have i1 : decide ((600 : Int) < (ln : Int)) = false := decide_eq_false (by omega)
      have i2 : decide ((600 : Int) < (n : Int)) = false := decide_eq_false (by omega)
      clear hv hd hn hln h1 hl hdl
      go_enter Try.func6, Try.ntmps6
      go_wp2
      go_loopw [5, 6] (fun s i wr => ∃ (j q : Nat), i = .int .i64 (j : Int) ∧ s = .int .i64 (q : Int) ∧ j ≤ n ∧ q = (d.take j).flatten.length ∧ q ≤ 20000 * j ∧ (∀ i y, i < j → d[i]? = some y → y.length ≤ 20000) ∧ w = wr) (fun _ i _ => n - (intOf i).toNat)
      case atStart => exact ⟨0, 0, rfl, rfl, Nat.zero_le _, rfl, by omega, fun i y hi => absurd hi (Nat.not_lt_zero _), rfl⟩
      case round =>
        obtain ⟨j, q, rfl, rfl, hj, hq, hq2, hs, rfl⟩ := hrel
        by_cases hlt : j < n
        · obtain ⟨y, hy⟩ : ∃ y, d[j]? = some y := ⟨d[j]'(by rw [HN.out]; exact hlt), List.getElem?_eq_getElem _⟩
          obtain ⟨b, o, rfl, _, hc⟩ := HD.out (by rw [HN.out]; omega)
          obtain ⟨A', k', c0, _⟩ := hc j y hy
          obtain ⟨yn, hyn⟩ : ∃ yn, y.length = yn := ⟨_, rfl⟩
          rw [hyn] at c0
          by_cases hb : 20000 < yn
          · have g3 : decide (20000 < yn) = true := decide_eq_true hb
            have HV : Hid (v = 0) := (show v = 0 by
              rw [HE.out]
              have : (d.all fun y => decide (y.length ≤ 20000)) = false := by
                rw [List.all_eq_false]
                exact ⟨y, List.mem_of_getElem? hy, by simp; omega⟩
              rw [this, Bool.false_and]
              rfl)
            clear hc hy hyn hq hs
            go_wp2
            go_ret
            rw [HV.out]
            exact ⟨rfl, rfl⟩
          · have g3 : decide (20000 < yn) = false := decide_eq_false hb
            have HQ : Hid (q + yn = (d.take (j + 1)).flatten.length) := (show _ = _ by rw [flat_take hy, List.length_append, hyn, ← hq])
            have HS2 : Hid (∀ i z, i < j + 1 → d[i]? = some z → z.length ≤ 20000) := fun i z hi hz => by
              by_cases e : i < j
              · exact hs i z e hz
              · obtain rfl : i = j := by omega
                rw [hy] at hz
                injection hz with hz
                rw [← hz, hyn]; omega
            clear hc hy hyn hq hs
            go_wp2
            go_roundw
            case rel => exact ⟨j + 1, q + yn, by go_num, by go_num, by omega, HQ.out, by omega, HS2.out, trivial⟩
            case measure => simp only [intOf]; omega
        · have hall : (d.all fun y => decide (y.length ≤ 20000)) = true := by
            rw [List.all_eq_true]
            intro y hy
            obtain ⟨i, hi⟩ := List.mem_iff_getElem?.1 hy
            have : i < d.length := by
              rcases Nat.lt_or_ge i d.length with h' | h'
              · exact h'
              · rw [List.getElem?_eq_none h'] at hi; cases hi
            exact decide_eq_true (hs i y (by have := HN.out; omega) hi)
          have hqq : q = d.flatten.length := by rw [hq, List.take_of_length_le (by rw [HN.out]; omega)]
          by_cases h4 : 40000 < q
          · have g4 : decide (40000 < q) = true := decide_eq_true h4
            have HV : Hid (v = 0) := (show v = 0 by rw [HE.out, hall, decide_eq_false (by omega)]; rfl)
            clear hq hs hall hqq
            go_wp2
            go_ret
            rw [HV.out]
            exact ⟨rfl, rfl⟩
          · have g4 : decide (40000 < q) = false := decide_eq_false h4
            have HV : Hid (v = 1) := (show v = 1 by rw [HE.out, hall, decide_eq_true (by omega)]; rfl)
            clear hq hs hall hqq
            go_wp2
            go_ret
            rw [HV.out]
            exact ⟨rfl, rfl⟩
set_option maxRecDepth 100000 in
theorem im_ret1 {fn : Func} {R : Ending → World → Prop} {a : Act} {w : World} {p : Tmp} {g : Nat} {n : Int} {A1 A2 : Option Addr} {a1 b1 a2 b2 : Nat} (hres : fn.results = #[.cell p 35]) (hp : a.tmps.getD p undef = .pointer (some ⟨g, 0, none⟩)) (hd : a.defers = [])
    (hg : w.heap[g]? = some (.cells #[.int .i64 n, .slice A1 a1 b1, .slice A2 a2 b2] 35 (0, 0))) (hR : R (.returned (.agg #[.int .i64 n, .slice A1 a1 b1, .slice A2 a2 b2])) w) : bodyPost Try.prog fn R .ret a w := by
  refine bodyPost_ret (v := .agg #[.int .i64 n, .slice A1 a1 b1, .slice A2 a2 b2]) ?_ hd hR
  exact results_cell_row hres _ _ g _ _ _ _ hp hg rfl rfl rfl
set_option maxRecDepth 100000 in
set_option maxHeartbeats 1000000 in
theorem like_any (w : World) (n : Int) (A1 A2 : Option Addr) (a1 b1 a2 b2 : Nat) :
    Calls Try.prog 9 #[imV n A1 a1 b1 A2 a2 b2] w fun e w' => e = .returned (imV n A1 a1 b1 A2 a2 b2) ∧ Below w.heap.size w w' := by
  unfold imV
  obtain ⟨w1, hw1⟩ : ∃ w1, w.alloc (.cells #[.int .i64 n, .slice A1 a1 b1, .slice A2 a2 b2] 28) = w1 := ⟨_, rfl⟩
  have hb1 : Below w.heap.size w w1 := by rw [← hw1]; exact (Below.refl _ _).alloc (Nat.le_refl _) _
  have n1 : w1.heap[w.heap.size]? = some (.cells #[.int .i64 n, .slice A1 a1 b1, .slice A2 a2 b2] 28 (0, 0)) := by rw [← hw1]; exact heap_alloc_new w _
  obtain ⟨w2, hw2⟩ : ∃ w2, w1.alloc (.cells #[.int .i64 0, .slice none 0 0, .slice none 0 0] 35) = w2 := ⟨_, rfl⟩
  have hb2 : Below w1.heap.size w1 w2 := by rw [← hw2]; exact (Below.refl _ _).alloc (Nat.le_refl _) _
  have n2 : w2.heap[w1.heap.size]? = some (.cells #[.int .i64 0, .slice none 0 0, .slice none 0 0] 35 (0, 0)) := by rw [← hw2]; exact heap_alloc_new w1 _
  have m2 := (hb2.block _ (heap_lt1 n1)).trans n1
  obtain ⟨c0, c1, c2⟩ := rk_cells m2
  have hl := heap_lt1 m2
  obtain ⟨z0, z1, z2⟩ := rk_cells n2
  obtain ⟨f0, f1, f2⟩ := im_thaw n2
  have hl2 := heap_lt1 n2
  have HM := Lib.hid (im_set n2 (.int .i64 n) (.slice A1 a1 b1) (.slice A2 a2 b2))
  have hb02 := hb1.trans (hb2.mono hb1.size)
  have hbf : Below w.heap.size w (((w2.setCell ⟨w1.heap.size, 0, none⟩ (.int .i64 n)).setCell ⟨w1.heap.size, 1, none⟩ (.slice A1 a1 b1)).setCell ⟨w1.heap.size, 2, none⟩ (.slice A2 a2 b2)) := ((hb02.setCell hb1.size _).setCell hb1.size _).setCell hb1.size _
  have HF := Lib.hid hbf
  have HW1 := Lib.hid hw1
  have HW2 := Lib.hid hw2
  clear hw1 hw2 hb1 n1 hb2 n2 m2 hb02 hbf
  go_enter Try.func9, Try.ntmps9
  go_wp2_with (first | (rw [HW1.out]) | (rw [HW2.out]) | fail)
  (try simp only [Exit.inBlock, Exit.then])
  refine im_ret1 (g := w1.heap.size) Try.results9 ?_ ?_ HM.out ?_
  · rfl
  · rfl
  · exact ⟨rfl, HF.out⟩
end Go.Proofs.Ytbemaoncakcnjaa
