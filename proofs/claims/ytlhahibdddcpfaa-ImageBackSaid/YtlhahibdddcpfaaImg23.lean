/- Bytes that are an image's: what was put is got, what is got, put, is those bytes; turned, or of another length, they are none. Plain. -/
import Derived.Test.YtlhahibdddcpfaaImg22
namespace Go.Proofs.Ytlhahibdddcpfaa
open Go.RowKit

/-- Bytes that are an image's. -/
structure Good (b : List UInt8) (N : Nat) (l : List Rk) (d : List (List UInt8)) : Prop where
  h28 : 28 ≤ b.length
  hm : b.take 8 = markB
  hs : sumAt b 0 24 = true
  hN : lenN b = N
  hlo : lenOk (N : Int) = true
  hK : cntN b = l.length
  hk : l.length ≤ 1024
  hst : sumAt b 28 (28 + 8 * l.length) = true
  hb : blksOf (b.drop 28) l.length 184 = some l
  hr : rowOk (N : Int) 184 false l = true
  hlen : b.length = 32 + 8 * l.length + heldL l + 8
  h1 : sumAt b (32 + 8 * l.length) (32 + 8 * l.length + heldL l) = true
  h2 : sumAt b 0 (32 + 8 * l.length + heldL l + 4) = true
  hd : d = cutL l (b.drop (32 + 8 * l.length))
section
variable {b c : List UInt8} {N : Nat} {l : List Rk} {d : List (List UInt8)}
theorem Good.got (h : Good b N l d) : getG b = (0, N, l, d) := by
  have ho : HeadOk b b.length N l.length := ⟨rfl, h.h28, h.hm, h.hs, h.hN, h.hK⟩
  have hl := (lenOk_iff _).1 h.hlo
  have hno : NumOk b.length N l.length := ⟨by omega, by omega, by omega, h.hk, by have := h.hlen; omega⟩
  rw [ho.row hno h.hst h.hb h.hr, datG_ok rfl rfl h.hlen h.h1 h.h2, if_neg (by simp), h.hd]
theorem bool_true {x : Bool} (h : ¬ x = false) : x = true := by
  cases x with
  | true => rfl
  | false => exact absurd rfl h
theorem getG_good (h : getG b = (0, N, l, d)) : Good b N l d := by
  unfold getG at h
  by_cases h0 : headG b ≠ 0
  · rw [if_pos h0] at h
    injection h with h _
    exact absurd h h0
  rw [if_neg h0] at h
  have h0 : headG b = 0 := Decidable.byContradiction h0
  by_cases h1 : (blksG b (lenN b) (cntN b)).1 ≠ 0
  · rw [if_pos h1] at h
    injection h with h _
    exact absurd h h1
  rw [if_neg h1] at h
  have h1 : (blksG b (lenN b) (cntN b)).1 = 0 := Decidable.byContradiction h1
  by_cases h2 : (datG b (blksG b (lenN b) (cntN b)).2).1 ≠ 0
  · rw [if_pos h2] at h
    injection h with h _
    exact absurd h h2
  rw [if_neg h2] at h
  have h2 : (datG b (blksG b (lenN b) (cntN b)).2).1 = 0 := Decidable.byContradiction h2
  injection h with _ h
  injection h with hN h
  injection h with hl hd
  obtain ⟨hlo, hcn⟩ := headG_ok h0
  unfold headG at h0
  by_cases a1 : b.length < 28
  · rw [if_pos a1] at h0; cases h0
  rw [if_neg a1] at h0
  by_cases a2 : b.take 8 ≠ markB
  · rw [if_pos a2] at h0; cases h0
  rw [if_neg a2] at h0
  by_cases a3 : sumAt b 0 24 = false
  · rw [if_pos a3] at h0; cases h0
  have a2 : b.take 8 = markB := Decidable.byContradiction a2
  obtain ⟨hlK, _⟩ := blksG_ok h1
  rw [hl] at hlK hd h2
  unfold blksG at h1 hl
  by_cases a4 : b.length < 32 + 8 * cntN b
  · rw [if_pos a4] at h1; cases h1
  rw [if_neg a4] at h1 hl
  by_cases a5 : sumAt b 28 (28 + 8 * cntN b) = false
  · rw [if_pos a5] at h1; cases h1
  rw [if_neg a5] at h1 hl
  cases hbk : blksOf (b.drop 28) (cntN b) 184 with
  | none => rw [hbk] at h1; cases h1
  | some l' =>
    rw [hbk] at h1 hl
    unfold rowG at h1 hl
    dsimp only at h1 hl
    by_cases a6 : rowOk (lenN b : Int) 184 false l' = false
    · rw [if_pos a6] at h1; cases h1
    rw [if_neg a6] at h1 hl
    dsimp only at hl
    subst hl
    have hlK' := hlK
    unfold datG at h2 hd
    by_cases a7 : b.length ≠ 32 + 8 * l'.length + heldL l' + 8
    · rw [if_pos a7] at h2; cases h2
    rw [if_neg a7] at h2 hd
    by_cases a8 : sumAt b (32 + 8 * l'.length) (32 + 8 * l'.length + heldL l') = false
    · rw [if_pos a8] at h2; cases h2
    rw [if_neg a8] at h2 hd
    by_cases a9 : sumAt b 0 (32 + 8 * l'.length + heldL l' + 4) = false
    · rw [if_pos a9] at h2; cases h2
    rw [if_neg a9] at hd
    have a7 : b.length = 32 + 8 * l'.length + heldL l' + 8 := Decidable.byContradiction a7
    subst hN
    exact ⟨by omega, a2, bool_true a3, rfl, hlo, hlK.symm, by omega, by rw [hlK]; exact bool_true a5, by rw [hlK]; exact hbk, bool_true a6, a7, bool_true a8, bool_true a9, hd.symm⟩
/-- A sum that stands where it is to. -/
theorem take_sum {X : List UInt8} {i j : Nat} (hX : b.take j = X) (hj : j + 4 ≤ b.length) (hij : i ≤ j) (h : sumAt b i j = true) : b.take (j + 4) = wSum X i := by
  rw [← sumAt_iff hj] at h
  have h := of_decide_eq_true h
  unfold wSum
  rw [List.take_add, ← h, ← hX, List.drop_take]
theorem sumAt_put {X r : List UInt8} {i j : Nat} (hj : X.length = j) (hij : i ≤ j) : sumAt (wSum X i ++ r) i j = true := by
  have hl : (wSum X i ++ r).length = j + 4 + r.length := by unfold wSum; rw [List.length_append, List.length_append, sum4_len, hj]
  rw [← sumAt_iff (by omega)]
  apply decide_eq_true
  unfold wSum
  have e1 : ((X ++ sum4 (X.drop i) ++ r).drop i).take (j - i) = X.drop i := by
    rw [List.append_assoc, List.drop_append_of_le_length (by omega), List.take_append_of_le_length (by rw [List.length_drop]; omega), List.take_of_length_le (by rw [List.length_drop]; omega)]
  have e2 : ((X ++ sum4 (X.drop i) ++ r).drop j).take 4 = sum4 (X.drop i) := by
    rw [List.append_assoc, ← hj, List.drop_left, List.take_append_of_le_length (by rw [sum4_len]; omega), List.take_of_length_le (by rw [sum4_len]; omega)]
  rw [e1, e2]
theorem low8_of {x : List UInt8} (h : x.length = 8) : lowB 8 (numB x) = x := by
  have := lowB_numB x
  rw [h] at this
  exact this
theorem tag_back {x : List UInt8} {s : Nat} {u : Bool} (h : x.length = 8) (hu : unpN (numB x) = some (s, u)) (o : Int) : tagB ⟨o, (s : Int), u⟩ = x := by
  obtain ⟨h1, h2⟩ := unpN_some hu
  have h3 := unpN_packN h1 u
  unfold tagB
  have e : packN (s : Int) u = numB x := by
    rw [h2]
    unfold packN
    rw [if_pos h1]
    simp
  rw [e]
  exact low8_of h
theorem blksOf_tags : ∀ {k : Nat} {b : List UInt8} {o : Nat} {l : List Rk}, 8 * k ≤ b.length → blksOf b k o = some l → tagsB l = b.take (8 * k)
  | 0, b, o, l, _, h => by
    rw [blksOf] at h
    injection h with h
    rw [← h]; rfl
  | k + 1, b, o, l, hl, h => by
    rw [blksOf] at h
    split at h
    · cases h
    · rename_i s u e
      cases hm : blksOf (b.drop 8) k (o + s) with
      | none => rw [hm] at h; cases h
      | some l' =>
        rw [hm] at h
        injection h with h
        rw [← h]
        have ih := blksOf_tags (by rw [List.length_drop]; omega) hm
        have : tagsB (⟨(o : Int), (s : Int), u⟩ :: l') = tagB ⟨(o : Int), (s : Int), u⟩ ++ tagsB l' := by
          unfold tagsB
          rw [List.map_cons, List.flatten_cons]
        rw [this, ih, tag_back (by rw [List.length_take]; omega) e, show 8 * (k + 1) = 8 + 8 * k from by omega, List.take_add]
theorem datOk_cut : ∀ {l : List Rk} {b : List UInt8}, (∀ x ∈ l, isSz x.s = true) → heldL l ≤ b.length → datOk l (cutL l b) = true
  | [], _, _, _ => rfl
  | x :: l, b, h, hl => by
    have hx := (isSz_iff _).1 (h x (by simp))
    unfold heldL at hl
    unfold datOk cutL
    cases hu : x.u with
    | false =>
      rw [hu] at hl
      simp only [Bool.false_eq_true, if_false, Nat.zero_add] at hl ⊢
      exact datOk_cut (l := l) (fun y hy => h y (by simp [hy])) hl
    | true =>
      rw [hu] at hl
      simp only [if_true] at hl ⊢
      have ih := datOk_cut (l := l) (b := b.drop (x.s.toNat - 16)) (fun y hy => h y (by simp [hy])) (by rw [List.length_drop]; omega)
      rw [ih, Bool.and_true, beq_iff_eq, List.length_take]
      omega
theorem Good.put (h : Good b N l d) : b = putB N l d ∧ mayI (N : Int) l d = true := by
  obtain ⟨h28, hm, hs, hN, hlo, hK, hk, hst, hb, hr, hlen, h1, h2, hd⟩ := h
  have hlB := (lenOk_iff _).1 hlo
  have hh : b.take 24 = headB N l.length := by
    have e1 : (b.drop 8).take 8 = lowB 8 N := by rw [← hN]; unfold lenN; rw [low8_of]; rw [List.length_take, List.length_drop]; omega
    have e2 : (b.drop 16).take 8 = lowB 8 l.length := by rw [← hK]; unfold cntN; rw [low8_of]; rw [List.length_take, List.length_drop]; omega
    unfold headB
    rw [show 24 = 8 + (8 + 8) from rfl, List.take_add, List.take_add, List.drop_drop, hm, e1, e2, List.append_assoc]
  have hA : b.take 28 = putA N l.length := take_sum hh (by omega) (by omega) hs
  have hT0 : b.take (28 + 8 * l.length) = putA N l.length ++ tagsB l := by
    rw [List.take_add, hA, blksOf_tags (by rw [List.length_drop]; omega) hb]
  have hT : b.take (28 + 8 * l.length + 4) = putT N l := take_sum hT0 (by omega) (by omega) hst
  rw [show 28 + 8 * l.length + 4 = 32 + 8 * l.length from by omega] at hT
  have hheld : heldL l ≤ (b.drop (32 + 8 * l.length)).length := by rw [List.length_drop]; omega
  have hD0 : b.take (32 + 8 * l.length + heldL l) = putT N l ++ d.flatten := by
    rw [List.take_add, hT, hd, cutL_flat hheld]
  have hD : b.take (32 + 8 * l.length + heldL l + 4) = putD N l d := by
    have := take_sum hD0 (by omega) (by omega) h1
    rw [this]
    unfold putD
    rw [putT_len]
  have hB : b.take (32 + 8 * l.length + heldL l + 4 + 4) = putB N l d := take_sum hD (by omega) (by omega) h2
  refine ⟨?_, ?_⟩
  · rw [← hB, List.take_of_length_le (by omega)]
  · unfold mayI
    rw [hlo, hr, hd, datOk_cut (rowOk_sz hr) hheld]
    rfl
theorem datOk_held : ∀ {l : List Rk} {d : List (List UInt8)}, datOk l d = true → (∀ x ∈ l, isSz x.s = true) → heldL l = d.flatten.length
  | [], d, h, _ => by
    unfold datOk at h
    rw [List.isEmpty_iff] at h
    rw [h]; rfl
  | x :: l, d, h, hz => by
    have hx := (isSz_iff _).1 (hz x (by simp))
    have hz2 : ∀ y ∈ l, isSz y.s = true := fun y hy => hz y (by simp [hy])
    unfold datOk at h
    unfold heldL
    cases hu : x.u with
    | false =>
      rw [hu] at h
      simp only [Bool.false_eq_true, if_false, Nat.zero_add] at h ⊢
      exact datOk_held h hz2
    | true =>
      rw [hu] at h
      simp only [if_true] at h ⊢
      cases d with
      | nil => cases h
      | cons y d' =>
        simp only [Bool.and_eq_true, beq_iff_eq] at h
        rw [datOk_held h.2 hz2, List.flatten_cons, List.length_append]
        omega
theorem datOk_cutL : ∀ {l : List Rk} {d : List (List UInt8)} {r : List UInt8}, datOk l d = true → (∀ x ∈ l, isSz x.s = true) → cutL l (d.flatten ++ r) = d
  | [], d, r, h, _ => by
    unfold datOk at h
    rw [List.isEmpty_iff] at h
    rw [h]; rfl
  | x :: l, d, r, h, hz => by
    have hx := (isSz_iff _).1 (hz x (by simp))
    have hz2 : ∀ y ∈ l, isSz y.s = true := fun y hy => hz y (by simp [hy])
    unfold datOk at h
    unfold cutL
    cases hu : x.u with
    | false =>
      rw [hu] at h
      simp only [Bool.false_eq_true, if_false] at h ⊢
      exact datOk_cutL h hz2
    | true =>
      rw [hu] at h
      simp only [if_true] at h ⊢
      cases d with
      | nil => cases h
      | cons y d' =>
        simp only [Bool.and_eq_true, beq_iff_eq] at h
        have hy : x.s.toNat - 16 = y.length := by omega
        rw [List.flatten_cons, List.append_assoc, hy, List.take_left, List.drop_left, datOk_cutL h.2 hz2]
theorem blksOf_row {n : Int} : ∀ {l : List Rk} {o : Nat} {f : Bool} {r : List UInt8}, rowOk n (o : Int) f l = true → blksOf (tagsB l ++ r) l.length o = some l
  | [], o, f, r, _ => rfl
  | x :: l, o, f, r, h => by
    unfold rowOk at h
    simp only [Bool.and_eq_true, beq_iff_eq] at h
    obtain ⟨ho, hs, _, _, hr⟩ := h
    have hx := (isSz_iff _).1 hs
    have e : tagsB (x :: l) ++ r = tagB x ++ (tagsB l ++ r) := by
      unfold tagsB
      rw [List.map_cons, List.flatten_cons, List.append_assoc]
    have hl : (tagB x).length = 8 := lowB_length _ _
    have hp := packN_lt x.s x.u
    have hu : unpN (numB (tagB x)) = some (x.s.toNat, x.u) := by
      unfold tagB
      rw [numB_lowB, Nat.mod_eq_of_lt (by omega)]
      exact unpN_packN hs x.u
    rw [e, List.length_cons, blksOf, ← hl, List.take_left, List.drop_left, hu]
    dsimp only
    have hr2 : rowOk n ((o + x.s.toNat : Nat) : Int) (!x.u) l = true := by
      rw [show ((o + x.s.toNat : Nat) : Int) = (o : Int) + x.s from by omega]
      exact hr
    rw [blksOf_row hr2]
    have hxs : ((x.s.toNat : Nat) : Int) = x.s := by omega
    show some ((⟨(o : Int), ((x.s.toNat : Nat) : Int), x.u⟩ : Rk) :: l) = some (x :: l)
    rw [hxs, ← ho]
theorem putB_good (h : mayI (N : Int) l d = true) : Good (putB N l d) N l d := by
  unfold mayI at h
  simp only [Bool.and_eq_true] at h
  obtain ⟨hlo, hr, hdo⟩ := h
  have hl := (lenOk_iff _).1 hlo
  have hk : l.length ≤ 1024 := by have := rowOk_len hr; omega
  have hz := rowOk_sz hr
  have hheld := datOk_held hdo hz
  have hDl : (putT N l ++ d.flatten).length = 32 + 8 * l.length + heldL l := by rw [List.length_append, putT_len, hheld]
  have hPD : (putD N l d).length = 32 + 8 * l.length + heldL l + 4 := by unfold putD wSum; rw [List.length_append, hDl, sum4_len]
  have hPB : (putB N l d).length = 32 + 8 * l.length + heldL l + 8 := by unfold putB wSum; rw [List.length_append, hPD, sum4_len]
  -- the bytes, cut at each sum
  obtain ⟨r3, e3⟩ : ∃ r, putB N l d = putD N l d ++ r := ⟨_, rfl⟩
  obtain ⟨r2, e2⟩ : ∃ r, putB N l d = putT N l ++ d.flatten ++ r := by
    rw [e3]; unfold putD wSum; rw [List.append_assoc]; exact ⟨_, rfl⟩
  obtain ⟨r1, e1⟩ : ∃ r, putB N l d = putT N l ++ r := by rw [e2, List.append_assoc]; exact ⟨_, rfl⟩
  obtain ⟨r0, e0⟩ : ∃ r, putB N l d = putA N l.length ++ (tagsB l ++ r) := by
    rw [e1]; unfold putT wSum; rw [List.append_assoc, List.append_assoc]; exact ⟨_, rfl⟩
  obtain ⟨rh, eh⟩ : ∃ r, putB N l d = headB N l.length ++ r := by
    rw [e0]; unfold putA wSum; rw [List.append_assoc]; exact ⟨_, rfl⟩
  have hbl : blksOf ((putB N l d).drop 28) l.length 184 = some l := by
    rw [e0, ← putA_len N l.length, List.drop_left]
    exact blksOf_row hr
  have s0 : sumAt (putB N l d) 0 24 = true := by rw [e0]; exact sumAt_put (headB_len _ _) (by omega)
  have s1 : sumAt (putB N l d) 28 (28 + 8 * l.length) = true := by
    rw [e1]
    exact sumAt_put (by rw [List.length_append, putA_len, tagsB_len]) (by omega)
  have s2 : sumAt (putB N l d) (32 + 8 * l.length) (32 + 8 * l.length + heldL l) = true := by
    rw [e3]
    unfold putD
    rw [putT_len]
    exact sumAt_put hDl (by omega)
  have s3 : sumAt (putB N l d) 0 (32 + 8 * l.length + heldL l + 4) = true := by
    have := sumAt_put (X := putD N l d) (r := []) (i := 0) hPD (by omega)
    rw [List.append_nil] at this
    exact this
  have hmk : (putB N l d).take 8 = markB := by
    rw [eh]
    unfold headB
    rw [List.append_assoc, List.append_assoc, List.take_append_of_le_length (by decide)]
    rfl
  have hN : lenN (putB N l d) = N := by
    unfold lenN
    rw [eh]
    unfold headB
    rw [List.append_assoc, List.append_assoc, show (8 : Nat) = markB.length from rfl, List.drop_left]
    have : (lowB markB.length N).length = markB.length := lowB_length _ _
    rw [List.take_append_of_le_length (by rw [this]; exact Nat.le_refl _), List.take_of_length_le (by rw [this]; exact Nat.le_refl _), numB_lowB]
    exact Nat.mod_eq_of_lt (by show N < 256 ^ 8; omega)
  have hC : cntN (putB N l d) = l.length := by
    unfold cntN
    rw [eh]
    unfold headB
    have h16 : (markB ++ lowB 8 N).length = 16 := by rw [List.length_append, lowB_length]; rfl
    rw [List.append_assoc, ← h16, List.drop_left]
    have : (lowB 8 l.length).length = 8 := lowB_length _ _
    rw [List.take_append_of_le_length (by rw [this]; exact Nat.le_refl _), List.take_of_length_le (by rw [this]; exact Nat.le_refl _), numB_lowB]
    exact Nat.mod_eq_of_lt (by omega)
  refine ⟨by omega, hmk, s0, hN, hlo, hC, hk, s1, hbl, hr, hPB, s2, s3, ?_⟩
  rw [e2, List.append_assoc, ← putT_len N l, List.drop_left, datOk_cutL hdo hz]
theorem blksOf_pre : ∀ {k : Nat} {b c : List UInt8} {o : Nat}, 8 * k ≤ b.length → blksOf b k o = blksOf (b ++ c) k o
  | 0, _, _, _, _ => rfl
  | k + 1, b, c, o, h => by
    have e1 : (b ++ c).take 8 = b.take 8 := List.take_append_of_le_length (by omega)
    have e2 : (b ++ c).drop 8 = b.drop 8 ++ c := List.drop_append_of_le_length (by omega)
    rw [blksOf, blksOf, e1, e2]
    split
    · rfl
    · rename_i s u _
      rw [blksOf_pre (c := c) (b := b.drop 8) (by rw [List.length_drop]; omega)]
/-- No more bytes, and no fewer. -/
theorem Good.alone {N' : Nat} {l' : List Rk} {d' : List (List UInt8)} (h : Good b N l d) (k : Good (b ++ c) N' l' d') : c = [] := by
  have e1 : cntN (b ++ c) = cntN b := by
    unfold cntN
    have := h.h28
    rw [List.drop_append_of_le_length (by omega), List.take_append_of_le_length (by rw [List.length_drop]; omega)]
  have e2 : l'.length = l.length := by rw [← k.hK, e1, h.hK]
  have e3 : l' = l := by
    have h1 := h.hb
    have h2 := k.hb
    have := h.hlen
    rw [blksOf_pre (c := c) (by rw [List.length_drop]; omega)] at h1
    rw [List.drop_append_of_le_length (by omega), e2, h1] at h2
    injection h2 with h2
    exact h2.symm
  have h1 := h.hlen
  have h2 := k.hlen
  rw [e3, List.length_append] at h2
  exact List.eq_nil_of_length_eq_zero (by omega)
theorem xor_all {r : Nat} (h : r < 4294967296) : r ^^^ (4294967295 - r) = 4294967295 := by
  apply Nat.eq_of_testBit_eq
  intro i
  have e : 4294967295 - r = 2 ^ 32 - (r + 1) := by omega
  rw [Nat.testBit_xor, e, Nat.testBit_two_pow_sub_succ (show r < 2 ^ 32 from h), show (4294967295 : Nat) = 2 ^ 32 - 1 from rfl, Nat.testBit_two_pow_sub_one]
  by_cases hi : i < 32
  · simp [hi]
  · have : r.testBit i = false := Nat.testBit_lt_two_pow (Nat.lt_of_lt_of_le h (Nat.pow_le_pow_right (by omega) (by omega) : 2 ^ 32 ≤ 2 ^ i))
    simp [hi, this]
/-- Bytes with their sum behind have one and the same sum. -/
theorem sum_res (b : List UInt8) : moreN 0 (wSum b 0) = 4294967295 - stepN 32 4294967295 := by
  unfold wSum sum4
  have hl := foldN_lt (r := 4294967295) b (by omega)
  unfold moreN
  rw [List.drop_zero, Nat.sub_zero, foldN_append, foldN_num _ (lowB 4 _), lowB_length, numB_lowB, Nat.mod_eq_of_lt (show 4294967295 - foldN 4294967295 b < 256 ^ 4 by omega), xor_all hl]
/-- Four bytes that stand together, turned: those, or none. -/
theorem Good.turned {N' : Nat} {l' : List Rk} {d' : List (List UInt8)} {a q q' r : List UInt8} (hq : q.length = 4) (hq' : q'.length = 4) (h : Good (a ++ q ++ r) N l d) (k : Good (a ++ q' ++ r) N' l' d') : q' = q := by
  have h1 := sum_res (putD N l d)
  have h2 := sum_res (putD N' l' d')
  have e1 : wSum (putD N l d) 0 = a ++ q ++ r := h.put.1.symm
  have e2 : wSum (putD N' l' d') 0 = a ++ q' ++ r := k.put.1.symm
  rw [e1] at h1
  rw [e2] at h2
  have l1 := lowB_numB q
  have l2 := lowB_numB q'
  rw [hq] at l1
  rw [hq'] at l2
  have b1 : numB q < 4294967296 := by have := numB_lt q; rw [hq] at this; exact this
  have b2 : numB q' < 4294967296 := by have := numB_lt q'; rw [hq'] at this; exact this
  have := moreN_four a r (s := 0) b2 b1 (by rw [l1, l2, h1, h2])
  rw [← l1, ← l2, this]
end
end Go.Proofs.Ytlhahibdddcpfaa
