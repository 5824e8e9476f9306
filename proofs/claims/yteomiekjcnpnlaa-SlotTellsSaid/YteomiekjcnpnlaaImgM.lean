/- Images, plain: whether one may be, its bytes. No program in sight. -/
import Derived.Test.YteomiekjcnpnlaaTagM
import Derived.Test.YteomiekjcnpnlaaCrc
namespace Go.Proofs.Yteomiekjcnpnlaa

/-- A block as it was drawn. -/
structure Rk where
  o : Int
  s : Int
  u : Bool
def lenOk (n : Int) : Bool := decide (184 ≤ n) && (decide (n ≤ 16384) && (n - 184) % 16 == 0)
theorem lenOk_iff (n : Int) : lenOk n = true ↔ 184 ≤ n ∧ n ≤ 16384 ∧ (n - 184) % 16 = 0 := by simp [lenOk]
theorem lenOk_false (n : Int) : lenOk n = false ↔ ¬ (184 ≤ n ∧ n ≤ 16384 ∧ (n - 184) % 16 = 0) := by rw [← lenOk_iff]; simp
/-- Blocks that may be, from a place on, behind a free one or not. -/
def rowOk (n : Int) : Int → Bool → List Rk → Bool
  | e, _, [] => e == n
  | e, f, x :: r => (x.o == e) && (isSz x.s && (decide (x.s ≤ n - e) && (!(f && !x.u) && rowOk n (e + x.s) (!x.u) r)))
/-- As many as used blocks, each as long as what its block holds. -/
def datOk : List Rk → List (List UInt8) → Bool
  | [], d => d.isEmpty
  | x :: r, d => if x.u = true then (match d with
      | [] => false
      | y :: d' => ((y.length : Int) == x.s - 16) && datOk r d') else datOk r d
def mayI (n : Int) (l : List Rk) (d : List (List UInt8)) : Bool := lenOk n && (rowOk n 184 false l && datOk l d)
/-- Both at once, as the document has it. -/
def docOk (n : Int) : Int → Bool → List Rk → List (List UInt8) → Bool
  | e, _, [], d => (e == n) && d.isEmpty
  | e, f, x :: r, d => if isSz x.s = false ∨ x.o ≠ e ∨ (f = true ∧ x.u = false) then false else if x.u = true then (match d with
      | [] => false
      | y :: d' => if (y.length : Int) ≠ x.s - 16 then false else docOk n (e + x.s) (!x.u) r d')
      else docOk n (e + x.s) (!x.u) r d
theorem docOk_end {n : Int} : ∀ {l : List Rk} {e : Int} {f : Bool} {d : List (List UInt8)}, docOk n e f l d = true → e ≤ n
  | [], e, f, d, h => by
    unfold docOk at h
    simp only [Bool.and_eq_true, beq_iff_eq] at h
    omega
  | x :: r, e, f, d, h => by
    unfold docOk at h
    split at h
    · cases h
    · rename_i hc
      have hs : isSz x.s = true := by
        cases hx : isSz x.s with
        | true => rfl
        | false => exact absurd (.inl hx) hc
      have h3 := (isSz_iff _).1 hs
      split at h
      · split at h
        · cases h
        · split at h
          · cases h
          · have := docOk_end h; omega
      · have := docOk_end h; omega
theorem docOk_eq (n : Int) : ∀ (l : List Rk) (e : Int) (f : Bool) (d : List (List UInt8)), docOk n e f l d = (rowOk n e f l && datOk l d)
  | [], e, f, d => rfl
  | x :: r, e, f, d => by
    have ih := docOk_eq n r (e + x.s) (!x.u)
    by_cases hle : x.s ≤ n - e
    · unfold docOk rowOk datOk
      by_cases hs : isSz x.s = true
      · by_cases ho : x.o = e
        · cases hf : f <;> cases hu : x.u <;> simp only [hs, ho, hu, hle, decide_true, Bool.true_and, Bool.not_true, Bool.not_false, Bool.and_true, Bool.and_false, Bool.false_and, Bool.true_eq_false, Bool.false_eq_true, false_and, and_false, and_self, or_false, or_true, ne_eq, not_true, if_true, if_false, beq_self_eq_true] at ih ⊢
          all_goals (try rw [hu] at ih)
          all_goals first | exact ih d | skip
          all_goals
            cases d with
            | nil => simp
            | cons y d' =>
              dsimp only
              by_cases hy : (y.length : Int) = x.s - 16
              · rw [if_neg (by simpa using hy)]
                have : ((y.length : Int) == x.s - 16) = true := by simpa using hy
                rw [this, Bool.true_and]
                exact ih d'
              · rw [if_pos hy]
                have : ((y.length : Int) == x.s - 16) = false := by simpa using hy
                rw [this, Bool.false_and, Bool.and_false]
        · rw [if_pos (.inr (.inl ho))]
          have : (x.o == e) = false := by simpa using ho
          rw [this, Bool.false_and, Bool.false_and]
      · have hs : isSz x.s = false := by simpa using hs
        rw [if_pos (.inl hs), hs, Bool.false_and, Bool.and_false, Bool.false_and]
    · have h1 : docOk n e f (x :: r) d = false := by
        cases hd : docOk n e f (x :: r) d with
        | false => rfl
        | true =>
          exfalso
          unfold docOk at hd
          split at hd
          · cases hd
          · split at hd
            · split at hd
              · cases hd
              · split at hd
                · cases hd
                · have := docOk_end hd; omega
            · have := docOk_end hd; omega
      rw [h1]
      unfold rowOk
      rw [decide_eq_false hle]
      simp
theorem rowOk_len {n : Int} : ∀ {l : List Rk} {e : Int} {f : Bool}, rowOk n e f l = true → e + 32 * l.length ≤ n
  | [], e, f, h => by
    unfold rowOk at h
    have : e = n := by simpa using h
    simp; omega
  | x :: r, e, f, h => by
    unfold rowOk at h
    simp only [Bool.and_eq_true] at h
    have h3 := (isSz_iff _).1 h.2.1
    have h4 := rowOk_len h.2.2.2.2
    rw [List.length_cons]
    omega
theorem rowOk_sz {n : Int} : ∀ {l : List Rk} {e : Int} {f : Bool}, rowOk n e f l = true → ∀ x ∈ l, isSz x.s = true
  | [], e, f, h, x, hx => by cases hx
  | y :: r, e, f, h, x, hx => by
    unfold rowOk at h
    simp only [Bool.and_eq_true] at h
    rcases List.mem_cons.1 hx with rfl | hx
    · exact h.2.1
    · exact rowOk_sz h.2.2.2.2 x hx
/-- Tags, sums. -/
def tagB (x : Rk) : List UInt8 := lowB 8 (packN x.s x.u)
def tagsB (l : List Rk) : List UInt8 := (l.map tagB).flatten
def sum4 (b : List UInt8) : List UInt8 := lowB 4 (moreN 0 b)
def imMarkB : List UInt8 := [67, 78, 84, 76, 1, 0, 0, 0]
def headB (n k : Nat) : List UInt8 := imMarkB ++ lowB 8 n ++ lowB 8 k
/-- With a sum behind. -/
def wSum (b : List UInt8) (k : Nat) : List UInt8 := b ++ sum4 (b.drop k)
def putA (n k : Nat) : List UInt8 := wSum (headB n k) 0
def putT (n : Nat) (l : List Rk) : List UInt8 := wSum (putA n l.length ++ tagsB l) 28
def putD (n : Nat) (l : List Rk) (d : List (List UInt8)) : List UInt8 := wSum (putT n l ++ d.flatten) (putT n l).length
def imPutB (n : Nat) (l : List Rk) (d : List (List UInt8)) : List UInt8 := wSum (putD n l d) 0
theorem sum4_len (b : List UInt8) : (sum4 b).length = 4 := lowB_length _ _
theorem headB_len (n k : Nat) : (headB n k).length = 24 := by unfold headB imMarkB; simp [lowB_length]
theorem putA_len (n k : Nat) : (putA n k).length = 28 := by unfold putA wSum; rw [List.length_append, headB_len, sum4_len]
theorem tagsB_len : ∀ l : List Rk, (tagsB l).length = 8 * l.length
  | [] => rfl
  | x :: r => by
    have ih := tagsB_len r
    unfold tagsB at ih ⊢
    rw [List.map_cons, List.flatten_cons, List.length_append, ih, List.length_cons]
    unfold tagB
    rw [lowB_length]
    omega
theorem putT_len (n : Nat) (l : List Rk) : (putT n l).length = 32 + 8 * l.length := by
  unfold putT wSum
  rw [List.length_append, List.length_append, putA_len, tagsB_len, sum4_len]
  omega
theorem take_snoc {α : Type} {l : List α} {j : Nat} {x : α} (h : l[j]? = some x) : l.take (j + 1) = l.take j ++ [x] := by
  rw [List.take_add_one, h]
  rfl
theorem tagsB_take {l : List Rk} {j : Nat} {x : Rk} (h : l[j]? = some x) : tagsB (l.take (j + 1)) = tagsB (l.take j) ++ tagB x := by
  rw [take_snoc h]
  unfold tagsB
  rw [List.map_append, List.flatten_append]
  simp
theorem flat_take {d : List (List UInt8)} {j : Nat} {x : List UInt8} (h : d[j]? = some x) : (d.take (j + 1)).flatten = (d.take j).flatten ++ x := by
  rw [take_snoc h, List.flatten_append]
  simp
theorem drop_at {α : Type} {l : List α} {j : Nat} {x : α} (h : l[j]? = some x) : l.drop j = x :: l.drop (j + 1) := by
  obtain ⟨hj, e⟩ := List.getElem?_eq_some_iff.1 h
  rw [List.drop_eq_getElem_cons hj, e]
end Go.Proofs.Yteomiekjcnpnlaa
