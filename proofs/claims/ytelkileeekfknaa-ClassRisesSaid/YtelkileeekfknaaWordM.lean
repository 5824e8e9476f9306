/- Numbers laid into bytes, and bits: plain facts. No program in sight. -/
import Derived.Test.YtelkileeekfknaaBlkM
namespace Go.Proofs.Ytelkileeekfknaa

/-- A number laid at an offset. -/
def lyN (bs : List UInt8) (o v : Nat) : List UInt8 := bs.take o ++ (lowB 8 v ++ bs.drop (o + 8))
theorem lyN_length (bs : List UInt8) (o v : Nat) (h : o + 8 ≤ bs.length) : (lyN bs o v).length = bs.length := by
  unfold lyN
  rw [List.length_append, List.length_append, lowB_length, List.length_take, List.length_drop]
  omega
theorem lyN_get (bs : List UInt8) (o v i : Nat) (h : o + 8 ≤ bs.length) (hi : i < o ∨ o + 8 ≤ i) : (lyN bs o v)[i]? = bs[i]? := by
  unfold lyN
  have e1 : (bs.take o).length = o := by rw [List.length_take]; omega
  rcases hi with hi | hi
  · rw [List.getElem?_append_left (by omega), List.getElem?_take_of_lt hi]
  · rw [List.getElem?_append_right (by omega), e1, List.getElem?_append_right (by rw [lowB_length]; omega), lowB_length, List.getElem?_drop]
    congr 1
    omega
theorem wordN_same (bs : List UInt8) (o v : Nat) (h : o + 8 ≤ bs.length) (hv : v < 18446744073709551616) : wordN (lyN bs o v) o = v := by
  have e1 : (bs.take o).length = o := by rw [List.length_take]; omega
  have e : ((lyN bs o v).drop o).take 8 = lowB 8 v := by
    unfold lyN
    rw [List.drop_append, e1, List.drop_eq_nil_of_le (by omega), List.nil_append, Nat.sub_self, List.drop_zero]
    have := lowB_length 8 v
    rw [List.take_append_of_le_length (by omega), List.take_of_length_le (by omega)]
  unfold wordN
  rw [e, numB_lowB]
  exact Nat.mod_eq_of_lt hv
theorem wordN_congr (bs bs' : List UInt8) (p : Nat) (h : ∀ i, p ≤ i → i < p + 8 → bs'[i]? = bs[i]?) : wordN bs' p = wordN bs p := by
  unfold wordN
  congr 1
  apply List.ext_getElem?
  intro i
  rcases Nat.lt_or_ge i 8 with hi | hi
  · rw [List.getElem?_take_of_lt hi, List.getElem?_take_of_lt hi, List.getElem?_drop, List.getElem?_drop]
    exact h _ (by omega) (by omega)
  · rw [List.getElem?_eq_none (by rw [List.length_take]; omega), List.getElem?_eq_none (by rw [List.length_take]; omega)]
theorem wordN_other (bs : List UInt8) (o v p : Nat) (h : o + 8 ≤ bs.length) (hd : p + 8 ≤ o ∨ o + 8 ≤ p) : wordN (lyN bs o v) p = wordN bs p :=
  wordN_congr _ _ _ fun i h1 h2 => lyN_get bs o v i h (by omega)

/-- Blocks stand by their tags. -/
theorem getB_congr (bs bs' : List UInt8) (x : Bk) (hl : bs'.length = bs.length) (hx : getB bs (x.off : Int) = some x) (h1 : wordN bs' x.off = wordN bs x.off) (h2 : wordN bs' (x.off + x.size - 8) = wordN bs (x.off + x.size - 8)) : getB bs' (x.off : Int) = some x := by
  obtain ⟨_, g1, g2, g3, g4, g5, g6⟩ := getB_some hx
  exact getB_of g1 g2 (by omega) (by rw [h1]; exact g5) (by rw [h1, h2]; exact g6)

/-- A bit of a number. -/
def bitN (w c : Nat) : Bool := w / 2 ^ c % 2 == 1
theorem bitN_succ (w c : Nat) : bitN w (c + 1) = bitN (w / 2) c := by
  unfold bitN
  rw [Nat.pow_succ, Nat.mul_comm, Nat.div_div_eq_div_mul]
theorem bitN_add (w c : Nat) (h : bitN w c = false) (d : Nat) : bitN (w + 2 ^ c) d = if d = c then true else bitN w d := by
  induction c generalizing w d with
  | zero =>
    have h0 : w % 2 = 0 := by
      unfold bitN at h
      simp at h
      omega
    cases d with
    | zero => simp [bitN]; omega
    | succ d =>
      rw [if_neg (by omega), bitN_succ, bitN_succ]
      congr 1
      simp; omega
  | succ c ih =>
    rw [bitN_succ] at h
    have e : (w + 2 ^ (c + 1)) / 2 = w / 2 + 2 ^ c := by rw [Nat.pow_succ]; omega
    cases d with
    | zero =>
      rw [if_neg (by omega)]
      simp only [bitN, Nat.pow_zero, Nat.div_one]
      rw [Nat.pow_succ]
      congr 1
      omega
    | succ d =>
      rw [bitN_succ, e, ih (w / 2) h d, bitN_succ w d]
      by_cases hd : d = c
      · rw [if_pos hd, if_pos (by omega)]
      · rw [if_neg hd, if_neg (by omega)]
theorem bitN_ge (w c : Nat) (h : bitN w c = true) : 2 ^ c ≤ w := by
  unfold bitN at h
  rw [beq_iff_eq] at h
  rcases Nat.lt_or_ge w (2 ^ c) with h1 | h1
  · rw [Nat.div_eq_of_lt h1] at h; cases h
  · exact h1
theorem bitN_sub_c (w c : Nat) (h : bitN w c = true) : bitN (w - 2 ^ c) c = false := by
  have hg := bitN_ge w c h
  have hp : 0 < 2 ^ c := Nat.two_pow_pos c
  unfold bitN at h ⊢
  rw [beq_iff_eq] at h
  have e : w / 2 ^ c = (w - 2 ^ c) / 2 ^ c + 1 := by
    conv => lhs; rw [← Nat.sub_add_cancel hg]
    rw [Nat.add_div_right _ hp]
  rw [e] at h
  rw [beq_eq_false_iff_ne]
  omega
theorem bitN_sub (w c : Nat) (h : bitN w c = true) (d : Nat) : bitN (w - 2 ^ c) d = if d = c then false else bitN w d := by
  have hg := bitN_ge w c h
  have h0 := bitN_sub_c w c h
  have := bitN_add (w - 2 ^ c) c h0 d
  rw [Nat.sub_add_cancel hg] at this
  by_cases hd : d = c
  · rw [if_pos hd, hd]; exact h0
  · rw [if_neg hd] at this ⊢
    exact this.symm
theorem bitN_lt (w c : Nat) (hc : c < 64) (hw : w < 18446744073709551616) (h : bitN w c = false) : w + 2 ^ c < 18446744073709551616 := by
  have e : (18446744073709551616 : Nat) = 2 ^ (63 - c) * 2 * 2 ^ c := by
    rw [← Nat.pow_succ, ← Nat.pow_add, show (63 - c).succ + c = 64 by omega]
  have hp : 0 < 2 ^ c := Nat.two_pow_pos c
  have h1 : w / 2 ^ c < 2 ^ (63 - c) * 2 := by
    rw [Nat.div_lt_iff_lt_mul hp, ← e]; exact hw
  have h2 : w / 2 ^ c % 2 = 0 := by
    unfold bitN at h
    rw [beq_eq_false_iff_ne] at h
    omega
  have h3 : w / 2 ^ c + 2 ≤ 2 ^ (63 - c) * 2 := by omega
  have h4 := Nat.div_add_mod w (2 ^ c)
  have h5 := Nat.mod_lt w hp
  have h6 : (w / 2 ^ c + 2) * 2 ^ c ≤ 2 ^ (63 - c) * 2 * 2 ^ c := Nat.mul_le_mul_right _ h3
  rw [← e, Nat.add_mul, Nat.mul_comm (w / 2 ^ c)] at h6
  omega
end Go.Proofs.Ytelkileeekfknaa
