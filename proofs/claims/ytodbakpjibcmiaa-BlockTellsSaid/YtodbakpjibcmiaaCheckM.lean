/- What Check asks, and that blocks whose lists are made anew are right. Plain facts, no program in sight. -/
import Derived.Test.YtodbakpjibcmiaaRebM
namespace Go.Proofs.Ytodbakpjibcmiaa

theorem allF_len (bs : List UInt8) (c : Nat) : ∀ (k last p : Nat) (l : List Nat), allF bs c k last p = some l → l.length ≤ k
  | 0, last, p, l, h => by
    unfold allF at h
    split at h
    · injection h with h; subst h; exact Nat.le_refl _
    · cases h
  | k + 1, last, p, l, h => by
    unfold allF at h
    by_cases hp : p = 0
    · rw [if_pos hp] at h; injection h with h; subst h; exact Nat.zero_le _
    · rw [if_neg hp] at h
      dsimp only at h
      by_cases hm : memberB bs p (c : Int) = true ∧ wordN bs (p + 16) = last
      · rw [if_pos hm] at h
        cases hr : allF bs c k p (wordN bs (p + 8)) with
        | none => rw [hr] at h; cases h
        | some l' =>
          rw [hr] at h
          injection h with h
          subst h
          have := allF_len bs c k p _ l' hr
          rw [List.length_cons]; omega
      · rw [if_neg hm] at h; cases h
theorem allB_len {bs : List UInt8} {c : Nat} {l : List Nat} (h : allB bs c = some l) : l.length ≤ 1024 := by
  unfold allB at h
  split at h
  · cases h
  · split at h
    · cases h
    · exact allF_len bs c _ _ _ l h
theorem walkF_len (bs : List UInt8) : ∀ (k o : Nat) (l : List Bk), walkF bs k o = some l → l.length ≤ k
  | 0, _, _, h => by cases h
  | k + 1, o, l, h => by
    unfold walkF at h
    by_cases hlt : o < bs.length
    · rw [if_pos hlt] at h
      cases hg : getB bs (o : Int) with
      | none => rw [hg] at h; cases h
      | some y =>
        rw [hg] at h
        dsimp only at h
        cases hr : walkF bs k (o + y.size) with
        | none => rw [hr] at h; cases h
        | some r =>
          rw [hr] at h
          injection h with h
          subst h
          have := walkF_len bs k _ r hr
          rw [List.length_cons]; omega
    · rw [if_neg hlt] at h
      injection h with h
      subst h
      exact Nat.zero_le _
theorem walkB_len {bs : List UInt8} {l : List Bk} (h : walkB bs = some l) : l.length ≤ bs.length + 1 := by
  unfold walkB at h
  split at h
  · cases h
  · exact walkF_len bs _ _ l h

def cntFree (l : List Bk) : Nat := l.countP fun x => !x.used
def usedAt (l : List Bk) (i : Nat) : Bool := match l[i]? with
  | some x => x.used
  | none => true
def pairOk (l : List Bk) (i : Nat) : Bool := i == 0 || (usedAt l i || usedAt l (i - 1))
def noAdj (l : List Bk) : Bool := (List.range l.length).all (pairOk l)
def foundB (l : List Bk) (o : Nat) : Bool := l.any fun x => x.off == o && !x.used
def okO (l : List Bk) (all : List Nat) (o : Nat) : Bool := foundB l o && all.count o == 1
def chkC (bs : List UInt8) (l : List Bk) : Nat → Nat → Int → Bool
  | 0, _, fr => fr == 0
  | k + 1, c, fr => match allB bs c with
    | none => false
    | some all => all.all (okO l all) && chkC bs l k (c + 1) (fr - all.length)
def checkB (bs : List UInt8) : Bool := match walkB bs with
  | none => false
  | some l => decide (numO bs 0 < 4194304) && (noAdj l && chkC bs l 22 0 (cntFree l))


/-- How many numbers the lists from class c on have. -/
def sumF (l : List Bk) : Nat → Nat → Nat
  | 0, _ => 0
  | k + 1, c => (freeL l c).length + sumF l k (c + 1)
theorem sumF_nil : ∀ k c, sumF [] k c = 0
  | 0, _ => rfl
  | k + 1, c => by
    unfold sumF
    rw [sumF_nil k (c + 1)]; rfl
theorem sumF_snoc (l : List Bk) (x : Bk) : ∀ k c : Nat, sumF (l ++ [x]) k c = sumF l k c + if x.used = false ∧ (c : Int) ≤ classI (x.size : Int) ∧ classI (x.size : Int) < (c : Int) + (k : Int) then 1 else 0
  | 0, c => by
    unfold sumF
    rw [if_neg (by omega)]
  | k + 1, c => by
    unfold sumF
    rw [sumF_snoc l x k (c + 1), freeL_snoc]
    by_cases h : x.used = false ∧ classI (x.size : Int) = (c : Int)
    · rw [if_pos h, if_neg (by have := h.2; omega), if_pos ⟨h.1, by have := h.2; omega, by have := h.2; omega⟩, List.length_cons]
      omega
    · rw [if_neg h]
      by_cases h2 : x.used = false ∧ ((c : Int) ≤ classI (x.size : Int) ∧ classI (x.size : Int) < (c : Int) + ((k + 1 : Nat) : Int))
      · have : ¬ classI (x.size : Int) = (c : Int) := fun e => h ⟨h2.1, e⟩
        rw [if_pos h2, if_pos ⟨h2.1, by have := h2.2; omega, by have := h2.2; omega⟩]
        omega
      · rw [if_neg h2, if_neg (fun h3 => h2 ⟨h3.1, by have := h3.2; omega, by have := h3.2; omega⟩)]
        omega
/-- All classes have just the free ones. -/
theorem sumF_all (l : List Bk) (h : ∀ x ∈ l, isSz (x.size : Int) = true) : sumF l 22 0 = cntFree l := by
  have key : ∀ (r d : List Bk), (∀ x ∈ r, isSz (x.size : Int) = true) → sumF d 22 0 = cntFree d → sumF (d ++ r) 22 0 = cntFree (d ++ r) := by
    intro r
    induction r with
    | nil => intro d _ hd; rw [List.append_nil]; exact hd
    | cons x r ih =>
      intro d hr hd
      have e : d ++ x :: r = (d ++ [x]) ++ r := by simp
      rw [e]
      refine ih (d ++ [x]) (fun y hy => hr y (by simp [hy])) ?_
      obtain ⟨c, hc, hc22⟩ := class_nat (hr x (by simp))
      rw [sumF_snoc, hd]
      unfold cntFree
      rw [List.countP_append]
      cases hu : x.used with
      | true => rw [if_neg (by simp)]; simp [hu]
      | false => rw [if_pos ⟨rfl, by omega, by omega⟩]; simp [hu]
  have := key l [] h (sumF_nil 22 0)
  simpa using this

theorem freeL_len (l : List Bk) (c : Nat) : (freeL l c).length ≤ l.length := by
  unfold freeL
  rw [List.length_map]
  have := List.length_filter_le (fun x : Bk => !x.used && classI (x.size : Int) == (c : Int)) l.reverse
  rw [List.length_reverse] at this
  exact this
theorem chkC_lists {bs : List UInt8} {l : List Bk} (h : Lists bs l (freeL l)) (hl : l.length ≤ 1024) : ∀ (k c : Nat) (fr : Int), c + k = 22 → chkC bs l k c fr = (fr - sumF l k c == 0)
  | 0, c, fr, _ => by unfold chkC sumF; simp
  | k + 1, c, fr, hc => by
    have ha := h.all (c := c) (by omega) (Nat.le_trans (freeL_len l c) hl)
    have hok : (freeL l c).all (okO l (freeL l c)) = true := by
      rw [List.all_eq_true]
      intro o ho
      unfold okO foundB
      rw [Bool.and_eq_true]
      constructor
      · rw [List.any_eq_true]
        obtain ⟨x, hx, e, hu, _⟩ := freeL_mem ho
        exact ⟨x, hx, by simp [e, hu]⟩
      · rw [List.Nodup.count (h.nodup c (by omega)), if_pos ho]; rfl
    unfold chkC
    rw [ha]
    dsimp only
    rw [hok, Bool.true_and, chkC_lists h hl k (c + 1) _ (by omega)]
    have e : fr - (sumF l (k + 1) c : Nat) = fr - ((freeL l c).length : Int) - (sumF l k (c + 1) : Nat) := by
      have : sumF l (k + 1) c = (freeL l c).length + sumF l k (c + 1) := rfl
      omega
    rw [e]
/-- With lists of just the free ones: right, if no two free ones stand together. -/
theorem checkB_lists {bs : List UInt8} {l : List Bk} (hw : walkB bs = some l) (h : Lists bs l (freeL l)) (h0 : wordN bs 0 < 4194304) : checkB bs = noAdj l := by
  obtain ⟨h184, ht, hg⟩ := walkB_tiles hw
  have hm := tile_mem l _ _ ht
  have hlen : l.length ≤ 1024 := by
    have key : ∀ (l : List Bk) (o e : Nat), tile o l e → l.length * 32 + o ≤ e := by
      intro l
      induction l with
      | nil => intro o e h; have : o = e := h; simp; omega
      | cons x r ih =>
        rintro o e ⟨a, b, c⟩
        have q := (isSz_iff _).1 b
        have := ih _ _ c
        rw [List.length_cons]; omega
    have := key l _ _ ht
    have := h.small
    omega
  have e0 : numO bs 0 = wordN bs 0 := by unfold numO word?; rw [if_pos (by omega)]; rfl
  unfold checkB
  rw [hw]
  dsimp only
  rw [e0, decide_eq_true h0, Bool.true_and, chkC_lists h hlen 22 0 _ rfl, sumF_all l (fun x hx => (hm.2 x hx).2.2.1)]
  have : ((cntFree l : Int) - (cntFree l : Int) == 0) = true := by rw [Int.sub_self]; rfl
  rw [this, Bool.and_true]

/-- The bits behind the classes stay. -/
theorem bit_up (w c : Nat) (hc : c < 22) (h : bitN w c = false) : (w + 2 ^ c) / 4194304 = w / 4194304 := by
  obtain ⟨d, hd⟩ : ∃ d, 22 = c + 1 + d := ⟨21 - c, by omega⟩
  have e : 4194304 = 2 ^ (c + 1) * 2 ^ d := by rw [← Nat.pow_add, ← hd]
  have hp : 0 < 2 ^ c := Nat.two_pow_pos c
  have h1 : w / 2 ^ c % 2 = 0 := by
    unfold bitN at h
    have : ¬ w / 2 ^ c % 2 = 1 := by simpa using h
    omega
  have key : (w + 2 ^ c) / 2 ^ (c + 1) = w / 2 ^ (c + 1) := by
    rw [Nat.pow_succ, ← Nat.div_div_eq_div_mul, ← Nat.div_div_eq_div_mul, Nat.add_div_right _ hp]
    omega
  rw [e, ← Nat.div_div_eq_div_mul, ← Nat.div_div_eq_div_mul, key]
theorem bit_down (w c : Nat) (hc : c < 22) (h : bitN w c = true) : (w - 2 ^ c) / 4194304 = w / 4194304 := by
  have h1 := bitN_ge w c h
  have h2 := bit_up (w - 2 ^ c) c hc (bitN_sub_c w c h)
  rw [Nat.sub_add_cancel h1] at h2
  exact h2.symm
theorem markB_high (bs : List UInt8) (c : Nat) (hc : c < 22) (hl : 184 ≤ bs.length) : wordN (markB bs c) 0 / 4194304 = wordN bs 0 / 4194304 := by
  have hw := wordN_lt bs 0
  unfold markB
  split
  · rename_i h
    rw [wordN_same _ _ _ (by omega) (Nat.lt_of_le_of_lt (Nat.sub_le _ _) hw)]
    exact bit_down _ c hc h.1
  · split
    · rename_i h
      rw [wordN_same _ _ _ (by omega) (bitN_lt _ c (by omega) hw h.1)]
      exact bit_up _ c hc h.1
    · rfl
theorem markB_length (bs : List UInt8) (c : Nat) (hl : 184 ≤ bs.length) : (markB bs c).length = bs.length := by
  unfold markB
  split
  · exact lyN_length _ _ _ (by omega)
  · split
    · exact lyN_length _ _ _ (by omega)
    · rfl
theorem putB_high {bs out : List UInt8} {o : Int} (hl : 184 ≤ bs.length) (h : putB bs o = some out) : out.length = bs.length ∧ wordN out 0 / 4194304 = wordN bs 0 / 4194304 := by
  unfold putB at h
  by_cases hf : freeI bs o < 0
  · rw [if_pos hf] at h; cases h
  · rw [if_neg hf] at h
    obtain ⟨x, hg, hc⟩ : ∃ x, getB bs o = some x ∧ freeI bs o = classI (x.size : Int) := by
      unfold freeI at hf ⊢
      cases hg : getB bs o with
      | none => rw [hg] at hf; simp at hf
      | some x =>
        rw [hg] at hf
        dsimp only at hf ⊢
        cases hu : x.used with
        | true => rw [hu] at hf; simp at hf
        | false => exact ⟨x, rfl, by simp⟩
    have hb := classI_bounds (x.size : Int)
    obtain ⟨c, hcc⟩ : ∃ c, (freeI bs o).toNat = c := ⟨_, rfl⟩
    have hc22 : c < 22 := by omega
    obtain ⟨g0, g1, _, g3, g4, _⟩ := getB_some hg
    have q := (isSz_iff _).1 g4
    rw [hcc] at h
    dsimp only at h
    obtain ⟨f, hfe⟩ : ∃ f, wordN bs (8 + 8 * c) = f := ⟨_, rfl⟩
    rw [hfe] at h
    by_cases hm : (f : Int) = o ∨ (f ≠ 0 ∧ memberB bs f (c : Int) = false)
    · rw [if_pos hm] at h; cases h
    · rw [if_neg hm] at h
      injection h with h
      have ho : o.toNat = x.off := by omega
      rw [ho] at h
      have l1 := lyN_length bs (x.off + 8) f (by omega)
      have l2 := lyN_length (lyN bs (x.off + 8) f) (x.off + 16) 0 (by omega)
      have w2 : wordN (lyN (lyN bs (x.off + 8) f) (x.off + 16) 0) 0 = wordN bs 0 := by
        rw [wordN_other _ _ _ _ (by omega) (by omega), wordN_other _ _ _ _ (by omega) (by omega)]
      obtain ⟨b2, hb2⟩ : ∃ b2, (if f ≠ 0 then lyN (lyN (lyN bs (x.off + 8) f) (x.off + 16) 0) (f + 16) x.off else lyN (lyN bs (x.off + 8) f) (x.off + 16) 0) = b2 := ⟨_, rfl⟩
      have hb : b2.length = bs.length ∧ wordN b2 0 = wordN bs 0 := by
        rw [← hb2]
        by_cases hf0 : f ≠ 0
        · have hmem : memberB bs f (c : Int) = true := by
            cases hmb : memberB bs f (c : Int) with
            | true => rfl
            | false => exact absurd (.inr ⟨hf0, hmb⟩) hm
          unfold memberB at hmem
          cases hgf : getB bs (f : Int) with
          | none => rw [hgf] at hmem; simp at hmem
          | some y =>
            obtain ⟨r0, r1, _, r3, r4, _⟩ := getB_some hgf
            have q2 := (isSz_iff _).1 r4
            rw [if_pos hf0]
            exact ⟨(lyN_length _ _ _ (by omega)).trans (l2.trans l1), by rw [wordN_other _ _ _ _ (by omega) (by omega), w2]⟩
        · rw [if_neg hf0]
          exact ⟨l2.trans l1, w2⟩
      rw [hb2] at h
      have l3 := lyN_length b2 (8 + 8 * c) x.off (by omega)
      rw [← h]
      refine ⟨(markB_length _ c (by omega)).trans (l3.trans hb.1), ?_⟩
      rw [markB_high _ c hc22 (by omega), wordN_other _ _ _ _ (by omega) (by omega), hb.2]
theorem reb_high : ∀ (l : List Bk) (bs : List UInt8), 184 ≤ bs.length → (l.foldl rebF bs).length = bs.length ∧ wordN (l.foldl rebF bs) 0 / 4194304 = wordN bs 0 / 4194304
  | [], _, _ => ⟨rfl, rfl⟩
  | x :: r, bs, hl => by
    rw [List.foldl_cons]
    have e : (rebF bs x).length = bs.length ∧ wordN (rebF bs x) 0 / 4194304 = wordN bs 0 / 4194304 := by
      unfold rebF
      cases x.used with
      | true => exact ⟨rfl, rfl⟩
      | false =>
        cases hp : putB bs (x.off : Int) with
        | none => exact ⟨rfl, rfl⟩
        | some out => exact putB_high hl hp
    obtain ⟨i1, i2⟩ := reb_high r (rebF bs x) (by omega)
    exact ⟨i1.trans e.1, i2.trans e.2⟩
/-- Blocks one behind the other, the lists made anew: right, just if no two free ones stand together. -/
theorem checkB_built {bs : List UInt8} {l : List Bk} (h : walkB bs = some l) (hm : bs.length ≤ 16384) :
    ∃ out, rebuildB bs = some out ∧ Lists out l (freeL l) ∧ out.length = bs.length ∧ walkB out = some l ∧ wordN out 0 < 4194304 ∧ checkB out = noAdj l := by
  obtain ⟨out, e, h1, h2, h3⟩ := rebuildB_lists h hm
  obtain ⟨h184, _⟩ := walkB_tiles h
  have el : (List.replicate 184 (0 : UInt8) ++ bs.drop 184).length = bs.length := by rw [List.length_append, List.length_replicate, List.length_drop]; omega
  have e2 : out = l.foldl rebF (List.replicate 184 0 ++ bs.drop 184) := by
    unfold rebuildB at e
    rw [h] at e
    injection e with e
    exact e.symm
  have hh := (reb_high l _ (by rw [el]; exact h184)).2
  rw [← e2, wordN_zeros _ _ _ (by omega)] at hh
  have h0 : wordN out 0 < 4194304 := by omega
  exact ⟨out, e, h1, h2, h3, h0, checkB_lists h3 h1 h0⟩
end Go.Proofs.Ytodbakpjibcmiaa
