/- Blocks one behind the other: what comes of setting them all, of walking, of looking ahead. Plain facts, no program in sight. -/
import Derived.Test.YtelkileeekfknaaListM
namespace Go.Proofs.Ytelkileeekfknaa

def tagN (x : Bk) : Nat := packN (x.size : Int) x.used
/-- Both tags of a block laid. -/
def setT (bs : List UInt8) (x : Bk) : List UInt8 := lyN (lyN bs x.off (tagN x)) (x.off + x.size - 8) (tagN x)
def setAll (bs : List UInt8) (l : List Bk) : List UInt8 := l.foldl setT bs
/-- One behind the other, from o to e. -/
def tile : Nat → List Bk → Nat → Prop
  | o, [], e => o = e
  | o, x :: r, e => x.off = o ∧ isSz (x.size : Int) = true ∧ tile (o + x.size) r e

theorem tile_mem : ∀ (l : List Bk) (o e : Nat), tile o l e → o ≤ e ∧ ∀ x ∈ l, o ≤ x.off ∧ x.off + x.size ≤ e ∧ isSz (x.size : Int) = true ∧ x.off % 16 = o % 16
  | [], o, e, h => ⟨Nat.le_of_eq h, fun x hx => by cases hx⟩
  | y :: r, o, e, ⟨h1, h2, h3⟩ => by
    obtain ⟨q, h⟩ := tile_mem r _ e h3
    have hs := (isSz_iff _).1 h2
    refine ⟨by omega, fun x hx => ?_⟩
    rcases List.mem_cons.1 hx with rfl | hx
    · exact ⟨by omega, by omega, h2, by omega⟩
    · obtain ⟨a, b, c, d⟩ := h x hx
      exact ⟨by omega, b, c, by omega⟩
theorem tile_snoc : ∀ (l : List Bk) (o e : Nat) (x : Bk), tile o l e → x.off = e → isSz (x.size : Int) = true → tile o (l ++ [x]) (e + x.size)
  | [], o, e, x, h, h1, h2 => ⟨by rw [h1]; exact h.symm, h2, by have : o = e := h; rw [this]; rfl⟩
  | y :: r, o, e, x, ⟨a, b, c⟩, h1, h2 => ⟨a, b, tile_snoc r _ e x c h1 h2⟩
/-- Two of them are the same, or apart. -/
theorem tile_apart : ∀ (l : List Bk) (o e : Nat), tile o l e → ∀ x ∈ l, ∀ y ∈ l, x = y ∨ x.off + x.size ≤ y.off ∨ y.off + y.size ≤ x.off
  | [], _, _, _, x, hx, _, _ => by cases hx
  | z :: r, o, e, ⟨h1, h2, h3⟩, x, hx, y, hy => by
    have hm := (tile_mem r _ e h3).2
    rcases List.mem_cons.1 hx with rfl | hx'
    · rcases List.mem_cons.1 hy with rfl | hy'
      · exact .inl rfl
      · have := hm y hy'; exact .inr (.inl (by omega))
    · rcases List.mem_cons.1 hy with rfl | hy'
      · have := hm x hx'; exact .inr (.inr (by omega))
      · exact tile_apart r _ e h3 x hx' y hy' 

section
variable {bs : List UInt8} {x y : Bk}
theorem setT_length (hs : isSz (x.size : Int) = true) (h : x.off + x.size ≤ bs.length) : (setT bs x).length = bs.length := by
  have hs := (isSz_iff _).1 hs
  have e := lyN_length bs x.off (tagN x) (by omega)
  unfold setT
  rw [lyN_length _ _ _ (by omega), e]
theorem setT_same (hs : isSz (x.size : Int) = true) (h : x.off + x.size ≤ bs.length) (p : Nat) (hp : p + 8 ≤ x.off ∨ x.off + x.size ≤ p ∨ (x.off + 8 ≤ p ∧ p + 8 ≤ x.off + x.size - 8)) : wordN (setT bs x) p = wordN bs p := by
  have hs := (isSz_iff _).1 hs
  have e := lyN_length bs x.off (tagN x) (by omega)
  unfold setT
  rw [wordN_other _ _ _ _ (by omega) (by omega), wordN_other _ _ _ _ (by omega) (by omega)]
theorem setT_at (h1 : 184 ≤ x.off) (h2 : x.off % 16 = 8) (h3 : x.off + x.size ≤ bs.length) (hs : isSz (x.size : Int) = true) : getB (setT bs x) (x.off : Int) = some x := by
  have q := (isSz_iff _).1 hs
  have e := lyN_length bs x.off (tagN x) (by omega)
  have ht : tagN x < 18446744073709551616 := by have := packN_lt (x.size : Int) x.used; unfold tagN; omega
  have w1 : wordN (setT bs x) x.off = tagN x := by
    unfold setT
    rw [wordN_other _ _ _ _ (by omega) (by omega), wordN_same _ _ _ (by omega) ht]
  have w2 : wordN (setT bs x) (x.off + x.size - 8) = tagN x := by
    unfold setT
    rw [wordN_same _ _ _ (by omega) ht]
  refine getB_of h1 h2 (by rw [setT_length hs h3]; exact h3) ?_ (by rw [w1, w2])
  rw [w1]
  unfold tagN
  rw [unpN_packN hs]
  rfl
theorem setT_keep (hs : isSz (x.size : Int) = true) (h : x.off + x.size ≤ bs.length) (hy : getB bs (y.off : Int) = some y) (hd : y.off + y.size ≤ x.off ∨ x.off + x.size ≤ y.off) : getB (setT bs x) (y.off : Int) = some y := by
  obtain ⟨_, _, _, g3, g4, _⟩ := getB_some hy
  have q := (isSz_iff _).1 g4
  exact getB_congr bs _ y (setT_length hs h) hy (setT_same hs h _ (by omega)) (setT_same hs h _ (by omega))
end

/-- All set: each stands, what stood ahead of them or behind stands, and other numbers are what they were. -/
theorem setAll_spec : ∀ (l : List Bk) (bs : List UInt8) (o e : Nat), 184 ≤ o → o % 16 = 8 → tile o l e → e ≤ bs.length →
    (setAll bs l).length = bs.length ∧ (∀ x ∈ l, getB (setAll bs l) (x.off : Int) = some x) ∧
    (∀ y, getB bs (y.off : Int) = some y → y.off + y.size ≤ o ∨ e ≤ y.off → getB (setAll bs l) (y.off : Int) = some y) ∧
    (∀ p, p + 8 ≤ o ∨ e ≤ p ∨ (∃ x ∈ l, x.off + 8 ≤ p ∧ p + 8 ≤ x.off + x.size - 8) → wordN (setAll bs l) p = wordN bs p)
  | [], bs, o, e, _, _, _, _ => ⟨rfl, fun x hx => (by cases hx), fun _ hy _ => hy, fun _ _ => rfl⟩
  | z :: r, bs, o, e, ho, ho2, ⟨h1, h2, h3⟩, he => by
    have q := (isSz_iff _).1 h2
    obtain ⟨hoe, hm⟩ := tile_mem r _ e h3
    have hz : z.off + z.size ≤ bs.length := by omega
    have el := setT_length h2 hz
    obtain ⟨i1, i2, i3, i4⟩ := setAll_spec r (setT bs z) (o + z.size) e (by omega) (by omega) h3 (by omega)
    have eq : setAll bs (z :: r) = setAll (setT bs z) r := rfl
    rw [eq]
    refine ⟨i1.trans el, fun x hx => ?_, fun y hy hd => ?_, fun p hp => ?_⟩
    · rcases List.mem_cons.1 hx with rfl | hx
      · exact i3 x (setT_at (by omega) (by omega) hz h2) (.inl (by omega))
      · exact i2 x hx
    · obtain ⟨_, _, _, g3, g4, _⟩ := getB_some hy
      have q2 := (isSz_iff _).1 g4
      exact i3 y (setT_keep h2 hz hy (by omega)) (by omega)
    · rcases hp with hp | hp | ⟨x, hx, a, b⟩
      · rw [i4 p (.inl (by omega)), setT_same h2 hz p (.inl (by omega))]
      · rw [i4 p (.inr (.inl hp)), setT_same h2 hz p (.inr (.inl (by omega)))]
      · rcases List.mem_cons.1 hx with rfl | hx
        · rw [i4 p (.inl (by omega)), setT_same h2 hz p (.inr (.inr ⟨a, b⟩))]
        · have := hm x hx
          rw [i4 p (.inr (.inr ⟨x, hx, a, b⟩)), setT_same h2 hz p (.inr (.inl (by omega)))]

/-- Blocks that stand one behind the other are walked. -/
theorem walkF_tile (bs : List UInt8) : ∀ (l : List Bk) (o k : Nat), tile o l bs.length → (∀ x ∈ l, getB bs (x.off : Int) = some x) → bs.length < o + k → walkF bs k o = some l
  | [], o, k, h, _, hk => by
    have h : o = bs.length := h
    obtain ⟨k, rfl⟩ : ∃ k', k = k' + 1 := ⟨k - 1, by omega⟩
    unfold walkF
    rw [if_neg (by omega)]
  | x :: r, o, k, ⟨h1, h2, h3⟩, hg, hk => by
    have q := (isSz_iff _).1 h2
    have hoe := (tile_mem r _ _ h3).1
    obtain ⟨k, rfl⟩ : ∃ k', k = k' + 1 := ⟨k - 1, by omega⟩
    unfold walkF
    rw [if_pos (by omega), ← h1, hg x (by simp)]
    dsimp only
    rw [h1, walkF_tile bs r (o + x.size) k h3 (fun y hy => hg y (by simp [hy])) (by omega)]
    rfl
theorem walkB_tile {bs : List UInt8} {l : List Bk} (h : tile 184 l bs.length) (hg : ∀ x ∈ l, getB bs (x.off : Int) = some x) : walkB bs = some l := by
  have := (tile_mem l _ _ h).1
  unfold walkB
  rw [if_neg (by omega)]
  exact walkF_tile bs l 184 _ h hg (by omega)
/-- And the other way round: what was walked is one behind the other. -/
theorem walkF_tiles (bs : List UInt8) : ∀ (k o : Nat) (l : List Bk), o ≤ bs.length → walkF bs k o = some l → tile o l bs.length ∧ ∀ x ∈ l, getB bs (x.off : Int) = some x
  | 0, _, _, _, h => by cases h
  | k + 1, o, l, ho, h => by
    unfold walkF at h
    by_cases hlt : o < bs.length
    · rw [if_pos hlt] at h
      cases hg : getB bs (o : Int) with
      | none => rw [hg] at h; cases h
      | some y =>
        rw [hg] at h
        dsimp only at h
        obtain ⟨g0, _, _, g3, g4, _⟩ := getB_some hg
        have g0 : y.off = o := by omega
        cases hr : walkF bs k (o + y.size) with
        | none => rw [hr] at h; cases h
        | some r =>
          rw [hr] at h
          injection h with h
          subst h
          obtain ⟨i1, i2⟩ := walkF_tiles bs k _ r (by omega) hr
          refine ⟨⟨g0, g4, i1⟩, fun x hx => ?_⟩
          rcases List.mem_cons.1 hx with rfl | hx
          · rw [g0]; exact hg
          · exact i2 x hx
    · rw [if_neg hlt] at h
      injection h with h
      subst h
      exact ⟨by show o = bs.length; omega, fun x hx => by cases hx⟩
theorem walkB_tiles {bs : List UInt8} {l : List Bk} (h : walkB bs = some l) : 184 ≤ bs.length ∧ tile 184 l bs.length ∧ ∀ x ∈ l, getB bs (x.off : Int) = some x := by
  unfold walkB at h
  split at h
  · cases h
  · exact ⟨by omega, walkF_tiles bs _ _ l (by omega) h⟩
/-- The block that ends there is told from behind. -/
theorem aheadB_of {bs : List UInt8} {x : Bk} (h : getB bs (x.off : Int) = some x) : aheadB bs ((x.off : Int) + (x.size : Int)) = some x := by
  obtain ⟨_, g1, _, g3, g4, g5, g6⟩ := getB_some h
  have q := (isSz_iff _).1 g4
  unfold aheadB
  rw [if_neg (by omega)]
  have e1 : ((x.off : Int) + (x.size : Int)).toNat - 8 = x.off + x.size - 8 := by omega
  have e2 : (x.off : Int) + (x.size : Int) - (x.size : Int) = (x.off : Int) := by omega
  rw [e1, g6, g5]
  dsimp only
  rw [e2, h]
  dsimp only
  rw [if_pos ⟨rfl, rfl⟩]
/-- Blocks in an arena whose head is 0: all lists are empty. -/
theorem lists_none {bs : List UInt8} {P : List Bk} (hl : 184 ≤ bs.length) (hm : bs.length ≤ 16384) (hst : Stands bs P) (hz : ∀ p, p + 8 ≤ 184 → p % 8 = 0 → wordN bs p = 0) : Lists bs P (fun _ => []) where
  len := hl
  small := hm
  st := hst
  head := fun c hc => by rw [hz _ (by omega) (by omega)]; rfl
  bit := fun c hc => by
    rw [hz 0 (by omega) rfl]
    have : ∀ c, bitN 0 c = false := fun c => by unfold bitN; simp
    rw [this]; rfl
  mem := fun c _ o ho => by cases ho
  links := fun c _ => trivial
  nodup := fun c _ => List.nodup_nil
end Go.Proofs.Ytelkileeekfknaa
