/- What Get tells, by its stages; data of zeros. Plain. -/
import Derived.Test.YtlhahibdddcpfaaImg19
namespace Go.Proofs.Ytlhahibdddcpfaa
open Go.RowKit

/-- What the used blocks hold, all 0. -/
def zerL : List Rk → List (List UInt8)
  | [] => []
  | x :: l => if x.u then List.replicate (x.s.toNat - 16) 0 :: zerL l else zerL l
theorem zerL_snoc (x : Rk) : ∀ l : List Rk, zerL (l ++ [x]) = zerL l ++ (if x.u then [List.replicate (x.s.toNat - 16) 0] else [])
  | [] => by cases h : x.u <;> simp [zerL, h]
  | y :: l => by cases h : y.u <;> simp [zerL, h, zerL_snoc x l]
theorem heldL_snoc (x : Rk) : ∀ l : List Rk, heldL (l ++ [x]) = heldL l + (if x.u then x.s.toNat - 16 else 0)
  | [] => by simp [heldL]
  | y :: l => by simp [heldL, heldL_snoc x l, Nat.add_assoc]
theorem datOk_zer : ∀ {l : List Rk}, (∀ x ∈ l, isSz x.s = true) → datOk l (zerL l) = true
  | [], _ => rfl
  | x :: l, h => by
    have hx := (isSz_iff _).1 (h x (by simp))
    have ih := datOk_zer (l := l) fun y hy => h y (by simp [hy])
    unfold datOk zerL
    cases hu : x.u with
    | false => simpa using ih
    | true =>
      simp only [if_true]
      rw [ih]
      simp
      omega
theorem cutL_len : ∀ (l : List Rk) (b : List UInt8), (cutL l b).length = (zerL l).length
  | [], _ => rfl
  | x :: l, b => by
    unfold cutL zerL
    cases hu : x.u with
    | false => simpa using cutL_len l b
    | true => simpa using cutL_len l (b.drop (x.s.toNat - 16))
theorem zerL_le : ∀ l : List Rk, (zerL l).length ≤ l.length
  | [] => Nat.le_refl _
  | x :: l => by
    have := zerL_le l
    unfold zerL
    cases hu : x.u <;> simp <;> omega
theorem cutL_get : ∀ {l : List Rk} {b : List UInt8} {j : Nat} {y : List UInt8}, heldL l ≤ b.length → (cutL l b)[j]? = some y → y = (b.drop ((cutL l b).take j).flatten.length).take y.length ∧ (zerL l)[j]? = some (List.replicate y.length 0) ∧ ((cutL l b).take j).flatten.length + y.length ≤ heldL l
  | [], b, j, y, _, h => by simp [cutL] at h
  | x :: l, b, j, y, hl, h => by
    unfold heldL at hl
    unfold cutL at h ⊢
    unfold zerL heldL
    cases hu : x.u with
    | false =>
      rw [hu] at hl h
      simp only [Bool.false_eq_true, if_false, Nat.zero_add] at hl h ⊢
      exact cutL_get hl h
    | true =>
      rw [hu] at hl h
      simp only [if_true] at hl h ⊢
      cases j with
      | zero =>
        simp at h
        subst h
        have hln : (b.take (x.s.toNat - 16)).length = x.s.toNat - 16 := by rw [List.length_take]; omega
        rw [hln]
        simp
      | succ j =>
        rw [List.getElem?_cons_succ] at h
        have hd : heldL l ≤ (b.drop (x.s.toNat - 16)).length := by rw [List.length_drop]; omega
        obtain ⟨h1, h2, h3⟩ := cutL_get hd h
        have hln : (b.take (x.s.toNat - 16)).length = x.s.toNat - 16 := by rw [List.length_take]; omega
        refine ⟨?_, by rw [List.getElem?_cons_succ]; exact h2, ?_⟩
        · rw [List.take_succ_cons, List.flatten_cons, List.length_append, hln, ← List.drop_drop]
          exact h1
        · rw [List.take_succ_cons, List.flatten_cons, List.length_append, hln]
          omega
theorem cutL_flat : ∀ {l : List Rk} {b : List UInt8}, heldL l ≤ b.length → (cutL l b).flatten = b.take (heldL l)
  | [], b, _ => by simp [cutL, heldL]
  | x :: l, b, hl => by
    unfold heldL at hl
    unfold cutL heldL
    cases hu : x.u with
    | false =>
      rw [hu] at hl
      simp only [Bool.false_eq_true, if_false, Nat.zero_add] at hl ⊢
      exact cutL_flat hl
    | true =>
      rw [hu] at hl
      simp only [if_true] at hl ⊢
      rw [List.flatten_cons, cutL_flat (by rw [List.length_drop]; omega), List.take_add]
section
variable {b : List UInt8} {n N K : Nat} {l : List Rk}
/-- A head that is right. -/
structure HeadOk (b : List UInt8) (n N K : Nat) : Prop where
  hn : b.length = n
  h28 : 28 ≤ n
  hm : b.take 8 = markB
  hs : sumAt b 0 24 = true
  hN : lenN b = N
  hK : cntN b = K
theorem HeadOk.bad (h : HeadOk b n N K) (hb : ¬ (184 ≤ N ∧ N ≤ 16384 ∧ N % 16 = 8 ∧ K ≤ 1024 ∧ 32 + 8 * K ≤ n)) : getG b = (3, 0, [], []) := by
  obtain ⟨e1, e2, e3, e4, e5, e6⟩ := h
  subst e5 e6
  by_cases h1 : lenOk (lenN b : Int) = true ∧ cntN b ≤ 1024
  · have hh : headG b = 0 := by
      unfold headG
      rw [if_neg (by omega), if_neg (by simpa using e3), if_neg (by rw [e4]; simp), if_neg (by rw [h1.1]; simp), if_neg (by omega)]
    have := (lenOk_iff _).1 h1.1
    have hbl : blksG b (lenN b) (cntN b) = (3, []) := by
      unfold blksG
      rw [if_pos (by omega)]
    unfold getG
    rw [if_neg (by rw [hh]; simp), if_pos (by rw [hbl]; simp), hbl]
  · have hh : headG b = 3 := by
      unfold headG
      rw [if_neg (by omega), if_neg (by simpa using e3), if_neg (by rw [e4]; simp)]
      by_cases h2 : lenOk (lenN b : Int) = false
      · rw [if_pos h2]
      · rw [if_neg h2, if_pos]
        cases h3 : lenOk (lenN b : Int) with
        | false => exact absurd h3 h2
        | true => exact Nat.lt_of_not_le fun h4 => h1 ⟨h3, h4⟩
    unfold getG
    rw [if_pos (by rw [hh]; simp), hh]
structure NumOk (n N K : Nat) : Prop where
  n0 : 184 ≤ N
  n1 : N ≤ 16384
  n2 : N % 16 = 8
  n3 : K ≤ 1024
  n4 : 32 + 8 * K ≤ n
theorem HeadOk.zero (h : HeadOk b n N K) (k : NumOk n N K) : headG b = 0 := by
  obtain ⟨e1, e2, e3, e4, e5, e6⟩ := h
  obtain ⟨k0, k1, k2, k3, k4⟩ := k
  subst e5 e6
  unfold headG
  rw [if_neg (by omega), if_neg (by simpa using e3), if_neg (by rw [e4]; simp), if_neg, if_neg (by omega)]
  rw [(lenOk_iff _).2 (by omega)]
  simp
theorem HeadOk.tags (h : HeadOk b n N K) (k : NumOk n N K) (ht : sumAt b 28 (28 + 8 * K) = false) : getG b = (9, 0, [], []) := by
  have hz := h.zero k
  obtain ⟨e1, e2, e3, e4, e5, e6⟩ := h
  have := k.n4
  subst e5 e6
  have hbl : blksG b (lenN b) (cntN b) = (9, []) := by
    unfold blksG
    rw [if_neg (by omega), if_pos ht]
  unfold getG
  rw [if_neg (by rw [hz]; simp), if_pos (by rw [hbl]; simp), hbl]
theorem HeadOk.blks (h : HeadOk b n N K) (k : NumOk n N K) (ht : sumAt b 28 (28 + 8 * K) = true) : blksG b (lenN b) (cntN b) = rowG N (blksOf (b.drop 28) K 184) := by
  obtain ⟨e1, e2, e3, e4, e5, e6⟩ := h
  have := k.n4
  subst e5 e6
  unfold blksG
  rw [if_neg (by omega), if_neg (by rw [ht]; simp)]
theorem HeadOk.none (h : HeadOk b n N K) (k : NumOk n N K) (ht : sumAt b 28 (28 + 8 * K) = true) (hb : blksOf (b.drop 28) K 184 = Option.none) : getG b = (3, 0, [], []) := by
  have hz := h.zero k
  have hbl := h.blks k ht
  rw [hb] at hbl
  have hbl2 : blksG b (lenN b) (cntN b) = (3, []) := hbl
  unfold getG
  rw [if_neg (by rw [hz]; simp), if_pos (by rw [hbl2]; simp), hbl2]
theorem HeadOk.rowBad (h : HeadOk b n N K) (k : NumOk n N K) (ht : sumAt b 28 (28 + 8 * K) = true) (hb : blksOf (b.drop 28) K 184 = some l) (hr : rowOk (N : Int) 184 false l = false) : getG b = (3, 0, [], []) := by
  have hz := h.zero k
  have hbl := h.blks k ht
  rw [hb] at hbl
  have hbl2 : blksG b (lenN b) (cntN b) = (3, []) := by
    rw [hbl]
    unfold rowG
    dsimp only
    rw [if_pos hr]
  unfold getG
  rw [if_neg (by rw [hz]; simp), if_pos (by rw [hbl2]; simp), hbl2]
theorem HeadOk.row (h : HeadOk b n N K) (k : NumOk n N K) (ht : sumAt b 28 (28 + 8 * K) = true) (hb : blksOf (b.drop 28) K 184 = some l) (hr : rowOk (N : Int) 184 false l = true) : getG b = if (datG b l).1 ≠ 0 then ((datG b l).1, 0, [], []) else (0, N, l, (datG b l).2) := by
  have hz := h.zero k
  have hbl := h.blks k ht
  rw [hb] at hbl
  have hbl2 : blksG b (lenN b) (cntN b) = (0, l) := by
    rw [hbl]
    unfold rowG
    dsimp only
    rw [if_neg (by rw [hr]; simp)]
  unfold getG
  rw [if_neg (by rw [hz]; simp), if_neg (by rw [hbl2]; simp), hbl2, h.hN]
theorem datG_len (h : b.length = n) (hl : l.length = K) (hn : n ≠ 32 + 8 * K + heldL l + 8) : datG b l = (3, []) := by
  unfold datG
  rw [hl, if_pos (by omega)]
theorem datG_sum (h : b.length = n) (hl : l.length = K) (hn : n = 32 + 8 * K + heldL l + 8) (y1 y2 : Bool) (h1 : sumAt b (32 + 8 * K) (32 + 8 * K + heldL l) = y1) (h2 : sumAt b 0 (32 + 8 * K + heldL l + 4) = y2) (hy : y1 = false ∨ y2 = false) : datG b l = (9, []) := by
  unfold datG
  rw [hl, if_neg (by omega), h1, h2]
  rcases hy with rfl | rfl
  · rw [if_pos rfl]
  · cases y1
    · rw [if_pos rfl]
    · rw [if_neg (by simp), if_pos rfl]
theorem datG_ok (h : b.length = n) (hl : l.length = K) (hn : n = 32 + 8 * K + heldL l + 8) (h1 : sumAt b (32 + 8 * K) (32 + 8 * K + heldL l) = true) (h2 : sumAt b 0 (32 + 8 * K + heldL l + 4) = true) : datG b l = (0, cutL l (b.drop (32 + 8 * K))) := by
  unfold datG
  rw [hl, if_neg (by omega), h1, h2, if_neg (by simp), if_neg (by simp)]
end
end Go.Proofs.Ytlhahibdddcpfaa
