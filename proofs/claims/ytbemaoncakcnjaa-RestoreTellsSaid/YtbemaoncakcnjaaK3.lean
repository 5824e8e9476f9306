/- Texts of mine, joined: CheckM, CheckM2, HpM, HpM2, HpM3, Ref7a, Ref7b, Ref7c, Ref7d, Ref7e, Ref7f, Law00, OpenB, Ref9a, Ref9b. -/
import Derived.Laws.ResultCell
import Derived.Test.YtbemaoncakcnjaaChecked
import Derived.Deep.QuietTactic
import Derived.BigQuiet
import Derived.WalkSpells
import Derived.IntWalk
import Derived.Deep.Grids
import Derived.Deep.Fields
import Derived.Lib.SmallJoins
import Derived.Test.YtbemaoncakcnjaaK2

/- What Check asks, and that blocks whose lists are made anew are right. Plain facts, no program in sight. -/
namespace Go.Proofs.Ytbemaoncakcnjaa

theorem allF_len (bs : List UInt8) (c : Nat) : ∀ (k last p : Nat) (l : List Nat), allF bs c k last p = some l → l.length ≤ k
  | 0, last, p, l, h => by
    unfold allF at h
    split at h
    · injection h with h; subst h; exact Nat.le_refl _
    · cases h
  | k + 1, last, p, l, h => by
    unfold allF at h
    by_cases hp : p = 0
    · rw [if_pos hp] at h; injection h with h; subst h; exact Nat.zero_le _
    · rw [if_neg hp] at h
      dsimp only at h
      by_cases hm : memberB bs p (c : Int) = true ∧ wordN bs (p + 16) = last
      · rw [if_pos hm] at h
        cases hr : allF bs c k p (wordN bs (p + 8)) with
        | none => rw [hr] at h; cases h
        | some l' =>
          rw [hr] at h
          injection h with h
          subst h
          have := allF_len bs c k p _ l' hr
          rw [List.length_cons]; omega
      · rw [if_neg hm] at h; cases h
theorem allB_len {bs : List UInt8} {c : Nat} {l : List Nat} (h : allB bs c = some l) : l.length ≤ 1024 := by
  unfold allB at h
  split at h
  · cases h
  · split at h
    · cases h
    · exact allF_len bs c _ _ _ l h
theorem walkF_len (bs : List UInt8) : ∀ (k o : Nat) (l : List Bk), walkF bs k o = some l → l.length ≤ k
  | 0, _, _, h => by cases h
  | k + 1, o, l, h => by
    unfold walkF at h
    by_cases hlt : o < bs.length
    · rw [if_pos hlt] at h
      cases hg : getB bs (o : Int) with
      | none => rw [hg] at h; cases h
      | some y =>
        rw [hg] at h
        dsimp only at h
        cases hr : walkF bs k (o + y.size) with
        | none => rw [hr] at h; cases h
        | some r =>
          rw [hr] at h
          injection h with h
          subst h
          have := walkF_len bs k _ r hr
          rw [List.length_cons]; omega
    · rw [if_neg hlt] at h
      injection h with h
      subst h
      exact Nat.zero_le _
theorem walkB_len {bs : List UInt8} {l : List Bk} (h : walkB bs = some l) : l.length ≤ bs.length + 1 := by
  unfold walkB at h
  split at h
  · cases h
  · exact walkF_len bs _ _ l h

def cntFree (l : List Bk) : Nat := l.countP fun x => !x.used
def usedAt (l : List Bk) (i : Nat) : Bool := match l[i]? with
  | some x => x.used
  | none => true
def pairOk (l : List Bk) (i : Nat) : Bool := i == 0 || (usedAt l i || usedAt l (i - 1))
def noAdj (l : List Bk) : Bool := (List.range l.length).all (pairOk l)
def foundB (l : List Bk) (o : Nat) : Bool := l.any fun x => x.off == o && !x.used
def okO (l : List Bk) (all : List Nat) (o : Nat) : Bool := foundB l o && all.count o == 1
def chkC (bs : List UInt8) (l : List Bk) : Nat → Nat → Int → Bool
  | 0, _, fr => fr == 0
  | k + 1, c, fr => match allB bs c with
    | none => false
    | some all => all.all (okO l all) && chkC bs l k (c + 1) (fr - all.length)
def checkB (bs : List UInt8) : Bool := match walkB bs with
  | none => false
  | some l => decide (numO bs 0 < 4194304) && (noAdj l && chkC bs l 22 0 (cntFree l))


/-- How many numbers the lists from class c on have. -/
def sumF (l : List Bk) : Nat → Nat → Nat
  | 0, _ => 0
  | k + 1, c => (freeL l c).length + sumF l k (c + 1)
theorem sumF_nil : ∀ k c, sumF [] k c = 0
  | 0, _ => rfl
  | k + 1, c => by
    unfold sumF
    rw [sumF_nil k (c + 1)]; rfl
theorem sumF_snoc (l : List Bk) (x : Bk) : ∀ k c : Nat, sumF (l ++ [x]) k c = sumF l k c + if x.used = false ∧ (c : Int) ≤ classI (x.size : Int) ∧ classI (x.size : Int) < (c : Int) + (k : Int) then 1 else 0
  | 0, c => by
    unfold sumF
    rw [if_neg (by omega)]
  | k + 1, c => by
    unfold sumF
    rw [sumF_snoc l x k (c + 1), freeL_snoc]
    by_cases h : x.used = false ∧ classI (x.size : Int) = (c : Int)
    · rw [if_pos h, if_neg (by have := h.2; omega), if_pos ⟨h.1, by have := h.2; omega, by have := h.2; omega⟩, List.length_cons]
      omega
    · rw [if_neg h]
      by_cases h2 : x.used = false ∧ ((c : Int) ≤ classI (x.size : Int) ∧ classI (x.size : Int) < (c : Int) + ((k + 1 : Nat) : Int))
      · have : ¬ classI (x.size : Int) = (c : Int) := fun e => h ⟨h2.1, e⟩
        rw [if_pos h2, if_pos ⟨h2.1, by have := h2.2; omega, by have := h2.2; omega⟩]
        omega
      · rw [if_neg h2, if_neg (fun h3 => h2 ⟨h3.1, by have := h3.2; omega, by have := h3.2; omega⟩)]
        omega
/-- All classes have just the free ones. -/
theorem sumF_all (l : List Bk) (h : ∀ x ∈ l, isSz (x.size : Int) = true) : sumF l 22 0 = cntFree l := by
  have key : ∀ (r d : List Bk), (∀ x ∈ r, isSz (x.size : Int) = true) → sumF d 22 0 = cntFree d → sumF (d ++ r) 22 0 = cntFree (d ++ r) := by
    intro r
    induction r with
    | nil => intro d _ hd; rw [List.append_nil]; exact hd
    | cons x r ih =>
      intro d hr hd
      have e : d ++ x :: r = (d ++ [x]) ++ r := by simp
      rw [e]
      refine ih (d ++ [x]) (fun y hy => hr y (by simp [hy])) ?_
      obtain ⟨c, hc, hc22⟩ := class_nat (hr x (by simp))
      rw [sumF_snoc, hd]
      unfold cntFree
      rw [List.countP_append]
      cases hu : x.used with
      | true => rw [if_neg (by simp)]; simp [hu]
      | false => rw [if_pos ⟨rfl, by omega, by omega⟩]; simp [hu]
  have := key l [] h (sumF_nil 22 0)
  simpa using this

theorem freeL_len (l : List Bk) (c : Nat) : (freeL l c).length ≤ l.length := by
  unfold freeL
  rw [List.length_map]
  have := List.length_filter_le (fun x : Bk => !x.used && classI (x.size : Int) == (c : Int)) l.reverse
  rw [List.length_reverse] at this
  exact this
theorem chkC_lists {bs : List UInt8} {l : List Bk} (h : Lists bs l (freeL l)) (hl : l.length ≤ 1024) : ∀ (k c : Nat) (fr : Int), c + k = 22 → chkC bs l k c fr = (fr - sumF l k c == 0)
  | 0, c, fr, _ => by unfold chkC sumF; simp
  | k + 1, c, fr, hc => by
    have ha := h.all (c := c) (by omega) (Nat.le_trans (freeL_len l c) hl)
    have hok : (freeL l c).all (okO l (freeL l c)) = true := by
      rw [List.all_eq_true]
      intro o ho
      unfold okO foundB
      rw [Bool.and_eq_true]
      constructor
      · rw [List.any_eq_true]
        obtain ⟨x, hx, e, hu, _⟩ := freeL_mem ho
        exact ⟨x, hx, by simp [e, hu]⟩
      · rw [List.Nodup.count (h.nodup c (by omega)), if_pos ho]; rfl
    unfold chkC
    rw [ha]
    dsimp only
    rw [hok, Bool.true_and, chkC_lists h hl k (c + 1) _ (by omega)]
    have e : fr - (sumF l (k + 1) c : Nat) = fr - ((freeL l c).length : Int) - (sumF l k (c + 1) : Nat) := by
      have : sumF l (k + 1) c = (freeL l c).length + sumF l k (c + 1) := rfl
      omega
    rw [e]
/-- With lists of just the free ones: right, if no two free ones stand together. -/
theorem checkB_lists {bs : List UInt8} {l : List Bk} (hw : walkB bs = some l) (h : Lists bs l (freeL l)) (h0 : wordN bs 0 < 4194304) : checkB bs = noAdj l := by
  obtain ⟨h184, ht, hg⟩ := walkB_tiles hw
  have hm := tile_mem l _ _ ht
  have hlen : l.length ≤ 1024 := by
    have key : ∀ (l : List Bk) (o e : Nat), tile o l e → l.length * 32 + o ≤ e := by
      intro l
      induction l with
      | nil => intro o e h; have : o = e := h; simp; omega
      | cons x r ih =>
        rintro o e ⟨a, b, c⟩
        have q := (isSz_iff _).1 b
        have := ih _ _ c
        rw [List.length_cons]; omega
    have := key l _ _ ht
    have := h.small
    omega
  have e0 : numO bs 0 = wordN bs 0 := by unfold numO word?; rw [if_pos (by omega)]; rfl
  unfold checkB
  rw [hw]
  dsimp only
  rw [e0, decide_eq_true h0, Bool.true_and, chkC_lists h hlen 22 0 _ rfl, sumF_all l (fun x hx => (hm.2 x hx).2.2.1)]
  have : ((cntFree l : Int) - (cntFree l : Int) == 0) = true := by rw [Int.sub_self]; rfl
  rw [this, Bool.and_true]

/-- The bits behind the classes stay. -/
theorem bit_up (w c : Nat) (hc : c < 22) (h : bitN w c = false) : (w + 2 ^ c) / 4194304 = w / 4194304 := by
  obtain ⟨d, hd⟩ : ∃ d, 22 = c + 1 + d := ⟨21 - c, by omega⟩
  have e : 4194304 = 2 ^ (c + 1) * 2 ^ d := by rw [← Nat.pow_add, ← hd]
  have hp : 0 < 2 ^ c := Nat.two_pow_pos c
  have h1 : w / 2 ^ c % 2 = 0 := by
    unfold bitN at h
    have : ¬ w / 2 ^ c % 2 = 1 := by simpa using h
    omega
  have key : (w + 2 ^ c) / 2 ^ (c + 1) = w / 2 ^ (c + 1) := by
    rw [Nat.pow_succ, ← Nat.div_div_eq_div_mul, ← Nat.div_div_eq_div_mul, Nat.add_div_right _ hp]
    omega
  rw [e, ← Nat.div_div_eq_div_mul, ← Nat.div_div_eq_div_mul, key]
theorem bit_down (w c : Nat) (hc : c < 22) (h : bitN w c = true) : (w - 2 ^ c) / 4194304 = w / 4194304 := by
  have h1 := bitN_ge w c h
  have h2 := bit_up (w - 2 ^ c) c hc (bitN_sub_c w c h)
  rw [Nat.sub_add_cancel h1] at h2
  exact h2.symm
theorem markB_high (bs : List UInt8) (c : Nat) (hc : c < 22) (hl : 184 ≤ bs.length) : wordN (markB bs c) 0 / 4194304 = wordN bs 0 / 4194304 := by
  have hw := wordN_lt bs 0
  unfold markB
  split
  · rename_i h
    rw [wordN_same _ _ _ (by omega) (Nat.lt_of_le_of_lt (Nat.sub_le _ _) hw)]
    exact bit_down _ c hc h.1
  · split
    · rename_i h
      rw [wordN_same _ _ _ (by omega) (bitN_lt _ c (by omega) hw h.1)]
      exact bit_up _ c hc h.1
    · rfl
theorem markB_length (bs : List UInt8) (c : Nat) (hl : 184 ≤ bs.length) : (markB bs c).length = bs.length := by
  unfold markB
  split
  · exact lyN_length _ _ _ (by omega)
  · split
    · exact lyN_length _ _ _ (by omega)
    · rfl
theorem putB_high {bs out : List UInt8} {o : Int} (hl : 184 ≤ bs.length) (h : putB bs o = some out) : out.length = bs.length ∧ wordN out 0 / 4194304 = wordN bs 0 / 4194304 := by
  unfold putB at h
  by_cases hf : freeI bs o < 0
  · rw [if_pos hf] at h; cases h
  · rw [if_neg hf] at h
    obtain ⟨x, hg, hc⟩ : ∃ x, getB bs o = some x ∧ freeI bs o = classI (x.size : Int) := by
      unfold freeI at hf ⊢
      cases hg : getB bs o with
      | none => rw [hg] at hf; simp at hf
      | some x =>
        rw [hg] at hf
        dsimp only at hf ⊢
        cases hu : x.used with
        | true => rw [hu] at hf; simp at hf
        | false => exact ⟨x, rfl, by simp⟩
    have hb := classI_bounds (x.size : Int)
    obtain ⟨c, hcc⟩ : ∃ c, (freeI bs o).toNat = c := ⟨_, rfl⟩
    have hc22 : c < 22 := by omega
    obtain ⟨g0, g1, _, g3, g4, _⟩ := getB_some hg
    have q := (isSz_iff _).1 g4
    rw [hcc] at h
    dsimp only at h
    obtain ⟨f, hfe⟩ : ∃ f, wordN bs (8 + 8 * c) = f := ⟨_, rfl⟩
    rw [hfe] at h
    by_cases hm : (f : Int) = o ∨ (f ≠ 0 ∧ memberB bs f (c : Int) = false)
    · rw [if_pos hm] at h; cases h
    · rw [if_neg hm] at h
      injection h with h
      have ho : o.toNat = x.off := by omega
      rw [ho] at h
      have l1 := lyN_length bs (x.off + 8) f (by omega)
      have l2 := lyN_length (lyN bs (x.off + 8) f) (x.off + 16) 0 (by omega)
      have w2 : wordN (lyN (lyN bs (x.off + 8) f) (x.off + 16) 0) 0 = wordN bs 0 := by
        rw [wordN_other _ _ _ _ (by omega) (by omega), wordN_other _ _ _ _ (by omega) (by omega)]
      obtain ⟨b2, hb2⟩ : ∃ b2, (if f ≠ 0 then lyN (lyN (lyN bs (x.off + 8) f) (x.off + 16) 0) (f + 16) x.off else lyN (lyN bs (x.off + 8) f) (x.off + 16) 0) = b2 := ⟨_, rfl⟩
      have hb : b2.length = bs.length ∧ wordN b2 0 = wordN bs 0 := by
        rw [← hb2]
        by_cases hf0 : f ≠ 0
        · have hmem : memberB bs f (c : Int) = true := by
            cases hmb : memberB bs f (c : Int) with
            | true => rfl
            | false => exact absurd (.inr ⟨hf0, hmb⟩) hm
          unfold memberB at hmem
          cases hgf : getB bs (f : Int) with
          | none => rw [hgf] at hmem; simp at hmem
          | some y =>
            obtain ⟨r0, r1, _, r3, r4, _⟩ := getB_some hgf
            have q2 := (isSz_iff _).1 r4
            rw [if_pos hf0]
            exact ⟨(lyN_length _ _ _ (by omega)).trans (l2.trans l1), by rw [wordN_other _ _ _ _ (by omega) (by omega), w2]⟩
        · rw [if_neg hf0]
          exact ⟨l2.trans l1, w2⟩
      rw [hb2] at h
      have l3 := lyN_length b2 (8 + 8 * c) x.off (by omega)
      rw [← h]
      refine ⟨(markB_length _ c (by omega)).trans (l3.trans hb.1), ?_⟩
      rw [markB_high _ c hc22 (by omega), wordN_other _ _ _ _ (by omega) (by omega), hb.2]
theorem reb_high : ∀ (l : List Bk) (bs : List UInt8), 184 ≤ bs.length → (l.foldl rebF bs).length = bs.length ∧ wordN (l.foldl rebF bs) 0 / 4194304 = wordN bs 0 / 4194304
  | [], _, _ => ⟨rfl, rfl⟩
  | x :: r, bs, hl => by
    rw [List.foldl_cons]
    have e : (rebF bs x).length = bs.length ∧ wordN (rebF bs x) 0 / 4194304 = wordN bs 0 / 4194304 := by
      unfold rebF
      cases x.used with
      | true => exact ⟨rfl, rfl⟩
      | false =>
        cases hp : putB bs (x.off : Int) with
        | none => exact ⟨rfl, rfl⟩
        | some out => exact putB_high hl hp
    obtain ⟨i1, i2⟩ := reb_high r (rebF bs x) (by omega)
    exact ⟨i1.trans e.1, i2.trans e.2⟩
/-- Blocks one behind the other, the lists made anew: right, just if no two free ones stand together. -/
theorem checkB_built {bs : List UInt8} {l : List Bk} (h : walkB bs = some l) (hm : bs.length ≤ 16384) :
    ∃ out, rebuildB bs = some out ∧ Lists out l (freeL l) ∧ out.length = bs.length ∧ walkB out = some l ∧ wordN out 0 < 4194304 ∧ checkB out = noAdj l := by
  obtain ⟨out, e, h1, h2, h3⟩ := rebuildB_lists h hm
  obtain ⟨h184, _⟩ := walkB_tiles h
  have el : (List.replicate 184 (0 : UInt8) ++ bs.drop 184).length = bs.length := by rw [List.length_append, List.length_replicate, List.length_drop]; omega
  have e2 : out = l.foldl rebF (List.replicate 184 0 ++ bs.drop 184) := by
    unfold rebuildB at e
    rw [h] at e
    injection e with e
    exact e.symm
  have hh := (reb_high l _ (by rw [el]; exact h184)).2
  rw [← e2, wordN_zeros _ _ _ (by omega)] at hh
  have h0 : wordN out 0 < 4194304 := by omega
  exact ⟨out, e, h1, h2, h3, h0, checkB_lists h3 h1 h0⟩
end Go.Proofs.Ytbemaoncakcnjaa

/- A number of the head turned: not right. Plain facts, no program in sight. -/
namespace Go.Proofs.Ytbemaoncakcnjaa

theorem chkC_true {bs : List UInt8} {l : List Bk} : ∀ (k c : Nat) (fr : Int), chkC bs l k c fr = true → ∀ d, c ≤ d → d < c + k → ∃ al, allB bs d = some al ∧ al.all (okO l al) = true
  | 0, c, fr, _, d, h1, h2 => by omega
  | k + 1, c, fr, h, d, h1, h2 => by
    unfold chkC at h
    cases ha : allB bs c with
    | none => rw [ha] at h; cases h
    | some al =>
      rw [ha] at h
      dsimp only at h
      rw [Bool.and_eq_true] at h
      rcases Nat.lt_or_ge c d with hlt | hge
      · exact chkC_true k (c + 1) _ h.2 d hlt (by omega)
      · obtain rfl : d = c := by omega
        exact ⟨al, ha, h.1⟩
theorem allB_bit {bs : List UInt8} {c : Nat} {l : List Nat} (h : allB bs c = some l) : bitN (wordN bs 0) c = decide (wordN bs (8 + 8 * c) ≠ 0) ∧ allF bs c 1024 0 (wordN bs (8 + 8 * c)) = some l := by
  unfold allB at h
  split at h
  · cases h
  · split at h
    · cases h
    · rename_i hb
      exact ⟨Decidable.not_not.1 hb, h⟩
end Go.Proofs.Ytbemaoncakcnjaa

/- The document's heap, plain: blocks, lists, what each block holds; what in, out, drop, put, give, cut, Find, Take, Give, Trim come to. No program in sight. -/
namespace Go.Proofs.Ytbemaoncakcnjaa

/-- What a block holds: its slice, and the bytes. -/
abbrev Dt : Type := Value × List UInt8
/-- A heap. -/
structure Hp where
  cap : Nat
  blks : List Bk
  ds : List Dt
  lists : Nat → List Nat

/-- Where the last block ends. -/
def sumB : List Bk → Nat
  | [] => 0
  | x :: r => x.size + sumB r
def lenB (l : List Bk) : Nat := 184 + sumB l
/-- The i-th block. -/
def bkAt (l : List Bk) (i : Nat) : Bk := l.getD i ⟨0, 0, false⟩
def clsB (x : Bk) : Nat := (classI (x.size : Int)).toNat
def Hp.in_ (H : Hp) (i : Nat) : Hp := { H with lists := setL H.lists (clsB (bkAt H.blks i)) ((bkAt H.blks i).off :: H.lists (clsB (bkAt H.blks i))) }
/-- All blocks one behind the other, all within 16384 bytes; as many slices as blocks; no list is long. -/
structure Hp.Ok (H : Hp) : Prop where
  tl : tile 184 H.blks (lenB H.blks)
  le : lenB H.blks ≤ 16384
  dl : H.ds.length = H.blks.length
theorem tile_sum : ∀ (l : List Bk) (o e : Nat), tile o l e → e = o + sumB l
  | [], o, e, h => by simp [tile] at h; simp [sumB]; omega
  | x :: r, o, e, h => by
    obtain ⟨h1, h2, h3⟩ := h
    have := tile_sum r _ e h3
    simp [sumB]; omega
theorem tile_app : ∀ (a b : List Bk) (o e : Nat), tile o (a ++ b) e ↔ tile o a (o + sumB a) ∧ tile (o + sumB a) b e
  | [], b, o, e => by simp [sumB, tile]
  | x :: r, b, o, e => by
    simp only [List.cons_append, tile, sumB]
    rw [tile_app r b]
    constructor
    · rintro ⟨h1, h2, h3, h4⟩
      refine ⟨⟨h1, h2, ?_⟩, ?_⟩
      · rw [show o + (x.size + sumB r) = o + x.size + sumB r by omega]; exact h3
      · rw [show o + (x.size + sumB r) = o + x.size + sumB r by omega]; exact h4
    · rintro ⟨⟨h1, h2, h3⟩, h4⟩
      rw [show o + (x.size + sumB r) = o + x.size + sumB r by omega] at h3 h4
      exact ⟨h1, h2, h3, h4⟩
theorem sumB_app (a b : List Bk) : sumB (a ++ b) = sumB a + sumB b := by
  induction a with
  | nil => simp [sumB]
  | cons x r ih => simp only [List.cons_append, sumB, ih]; omega
theorem bkAt_of {l : List Bk} {i : Nat} {x : Bk} (h : l[i]? = some x) : bkAt l i = x := by
  unfold bkAt
  rw [List.getD_eq_getElem?_getD, h]
  rfl
theorem bkAt_get {l : List Bk} {i : Nat} (h : i < l.length) : l[i]? = some (bkAt l i) := by
  rw [List.getElem?_eq_getElem h]
  exact congrArg some (bkAt_of (List.getElem?_eq_getElem h)).symm
theorem lst_split {α : Type} {l : List α} {i : Nat} {x : α} (h : l[i]? = some x) : l = l.take i ++ x :: l.drop (i + 1) := by
  have hi : i < l.length := by
    rcases Nat.lt_or_ge i l.length with h' | h'
    · exact h'
    · rw [List.getElem?_eq_none h'] at h; cases h
  have e : l[i] = x := by rw [List.getElem?_eq_getElem hi] at h; injection h
  calc l = l.take i ++ l.drop i := (List.take_append_drop i l).symm
    _ = _ := by rw [List.drop_eq_getElem_cons hi, e]
section
variable {l : List Bk} {e i : Nat} {x : Bk}
/-- What lies ahead of the i-th block, it itself, and what lies behind it. -/
theorem tile_at (h : tile 184 l e) (hx : l[i]? = some x) : tile 184 (l.take i) x.off ∧ x.off = 184 + sumB (l.take i) ∧ isSz (x.size : Int) = true ∧ tile (x.off + x.size) (l.drop (i + 1)) e := by
  rw [lst_split hx, tile_app] at h
  obtain ⟨h1, h2, h3, h4⟩ := h
  have e1 : (184 + sumB (l.take i)) = x.off := by omega
  rw [e1] at h1
  refine ⟨h1, by omega, h3, ?_⟩
  rw [e1] at h4
  exact h4
theorem tile_len (h : tile 184 l e) : lenB l = e := by
  have := tile_sum _ _ _ h
  unfold lenB; omega
end
end Go.Proofs.Ytbemaoncakcnjaa

/- The document's heap, plain: that all stays one behind the other when a block is given, cut, taken. No program in sight. -/
namespace Go.Proofs.Ytbemaoncakcnjaa

section
variable {H : Hp} {i s : Nat}
theorem Hp.Ok.at_ (h : H.Ok) (hi : i < H.blks.length) : tile 184 (H.blks.take i) (bkAt H.blks i).off ∧ isSz ((bkAt H.blks i).size : Int) = true ∧ tile ((bkAt H.blks i).off + (bkAt H.blks i).size) (H.blks.drop (i + 1)) (lenB H.blks) := by
  obtain ⟨a, _, b, c⟩ := tile_at h.tl (bkAt_get hi)
  exact ⟨a, b, c⟩
theorem Hp.Ok.sz (h : H.Ok) (hi : i < H.blks.length) : isSz ((bkAt H.blks i).size : Int) = true := (h.at_ hi).2.1
theorem Hp.Ok.len (h : H.Ok) : H.blks.length * 32 ≤ lenB H.blks := by
  have go : ∀ (l : List Bk) (o e : Nat), tile o l e → l.length * 32 ≤ sumB l := by
    intro l
    induction l with
    | nil => intro o e _; simp [sumB]
    | cons x r ih =>
      intro o e ht
      obtain ⟨_, h2, h3⟩ := ht
      have h4 := ih _ _ h3
      have h5 := (isSz_iff _).1 h2
      simp only [List.length_cons, sumB]
      omega
  have := go H.blks 184 _ h.tl
  unfold lenB
  omega
theorem Hp.Ok.n (h : H.Ok) : H.blks.length ≤ 512 := by
  have h1 := h.len
  have h2 := h.le
  omega
/-- No list has more than N. -/
def Hp.Few (H : Hp) (N : Nat) : Prop := ∀ d, d < 22 → (H.lists d).length ≤ N
theorem Hp.Few.in_ {N : Nat} (h : H.Few N) : (H.in_ i).Few (N + 1) := fun d hd => by
  show (setL H.lists _ _ d).length ≤ N + 1
  unfold setL
  split
  · rename_i e
    rw [← e, List.length_cons]
    exact Nat.succ_le_succ (h d hd)
  · exact Nat.le_succ_of_le (h d hd)
theorem Hp.Few.more {N M : Nat} (h : H.Few N) (hm : N ≤ M) : H.Few M := fun d hd => Nat.le_trans (h d hd) hm
end
end Go.Proofs.Ytbemaoncakcnjaa

/- The document's heap, plain: that there are as many slices as blocks; an arena's bytes that are such a heap. No program in sight. -/
namespace Go.Proofs.Ytbemaoncakcnjaa

/-- As many slices as blocks. -/
def Hp.Dl (H : Hp) : Prop := H.ds.length = H.blks.length
section
variable {H : Hp} {i s : Nat}
end

/-- Bytes that are a heap: its blocks, its lists; they are right. -/
structure Rt (bs : List UInt8) (H : Hp) : Prop where
  walk : walkB bs = some H.blks
  all_ : ∀ c, c < 22 → allB bs c = some (H.lists c)
  chk : checkB bs = true
  len : bs.length ≤ H.cap
section
variable {bs : List UInt8} {H : Hp}
theorem Rt.lenE (h : Rt bs H) : lenB H.blks = bs.length := tile_len (walkB_tiles h.walk).2.1
theorem Rt.ok (h : Rt bs H) (hc : H.cap ≤ 16384) (hd : H.Dl) : H.Ok := ⟨by rw [h.lenE]; exact (walkB_tiles h.walk).2.1, by rw [h.lenE]; exact Nat.le_trans h.len hc, hd⟩
theorem Rt.few (h : Rt bs H) : H.Few 1024 := fun d hd => allB_len (h.all_ d hd)
end
end Go.Proofs.Ytbemaoncakcnjaa

/- The contracts of the document's own blocks: Word, Could, Get. -/
namespace Go.Proofs.Ytbemaoncakcnjaa
open Go.RowKit

/-- A block's value; what Get tells. -/
def Bk.val (x : Bk) : Value := .agg #[.int .i64 (x.off : Int), .int .i64 (x.size : Int), .bool x.used]
def bkV (o : Option Bk) : Value := match o with
  | some x => x.val
  | none => .agg #[.int .i64 0, .int .i64 0, .bool false]
def wordV (o : Option Nat) : Value := match o with
  | some v => .tuple #[.int .u64 (v : Int), .bool true]
  | none => .tuple #[.int .u64 0, .bool false]

theorem blk_set {w : World} {g : Nat} {t : TypeId} {a b c : Value} (h : w.heap[g]? = some (.cells #[a, b, c] t (0, 0))) (x y z : Value) :
    (((w.setCell ⟨g, 0, none⟩ x).setCell ⟨g, 1, none⟩ y).setCell ⟨g, 2, none⟩ z).heap[g]? = some (.cells #[x, y, z] t (0, 0)) := by
  have h1 := heap_setCell_same w g 0 _ _ x h
  have h2 := heap_setCell_same (w.setCell ⟨g, 0, none⟩ x) g 1 _ _ y h1
  have h3 := heap_setCell_same ((w.setCell ⟨g, 0, none⟩ x).setCell ⟨g, 1, none⟩ y) g 2 _ _ z h2
  rw [h3]
  rfl
theorem blk_cells {w : World} {g : Nat} {t : TypeId} {a b c : Value} (h : w.heap[g]? = some (.cells #[a, b, c] t (0, 0))) : (w.cell? ⟨g, 0, none⟩ = some a ∧ w.cell? ⟨g, 1, none⟩ = some b ∧ w.cell? ⟨g, 2, none⟩ = some c) ∧ (w.frozen? ⟨g, 0, none⟩ = false ∧ w.frozen? ⟨g, 1, none⟩ = false ∧ w.frozen? ⟨g, 2, none⟩ = false) := by
  refine ⟨⟨?_, ?_, ?_⟩, frozen_of_row w g 0 _ _ h, frozen_of_row w g 1 _ _ h, frozen_of_row w g 2 _ _ h⟩
  · rw [cell_of_row w g 0 _ _ (0, 0) h]; rfl
  · rw [cell_of_row w g 1 _ _ (0, 0) h]; rfl
  · rw [cell_of_row w g 2 _ _ (0, 0) h]; rfl
theorem blk_ret {fn : Func} {R : Ending → World → Prop} {a : Act} {w : World} {p u : Tmp} {g : Nat} {o s : Int} {b : Bool} {x : Value} (hres : fn.results = #[.cell p 65, .tmp u]) (hp : a.tmps.getD p undef = .pointer (some ⟨g, 0, none⟩)) (hx : a.tmps.getD u undef = x) (hd : a.defers = [])
    (hg : w.heap[g]? = some (.cells #[.int .i64 o, .int .i64 s, .bool b] 65 (0, 0))) (hR : R (.returned (.tuple #[.agg #[.int .i64 o, .int .i64 s, .bool b], x])) w) : bodyPost Try.prog fn R .ret a w := by
  have c0 := cell_of_row w g 0 _ _ (0, 0) hg
  have c1 := cell_of_row w g 1 _ _ (0, 0) hg
  have c2 := cell_of_row w g 2 _ _ (0, 0) hg
  simp only [List.getElem?_toArray, List.getElem?_cons_zero, List.getElem?_cons_succ] at c0 c1 c2
  refine bodyPost_ret (v := .tuple #[.agg #[.int .i64 o, .int .i64 s, .bool b], x]) ?_ hd hR
  rw [results_cell_tmp hres, hp, hx]
  simp [go_sem, c0, c1, c2]

theorem Rd.alloc' {w : World} {B n : Nat} {A : Option Addr} {bs : List UInt8} (h : Rd w B A n bs) (o : Obj) : Rd (w.alloc o) B A n bs := by
  refine ⟨h.1, fun hn => ?_⟩
  obtain ⟨b, off, e, hb, hc⟩ := h.2 hn
  refine ⟨b, off, e, hb, fun j u hu => ?_⟩
  have h1 := hc j u hu
  rw [← h1]
  exact (World.cell?_of_block (a := ⟨b, off + j, none⟩) (((Below.refl _ _).alloc (Nat.le_refl _) o).block b (cell_lt' h1)))
where cell_lt' {w : World} {a : Addr} {v : Value} (h : w.cell? a = some v) : a.block < w.heap.size := by
        unfold World.cell? at h
        rcases Nat.lt_or_ge a.block w.heap.size with h1 | h1
        · exact h1
        · rw [Array.getElem?_eq_none h1] at h; simp at h

section
variable (w : World)
set_option maxHeartbeats 400000 in
theorem rword_any (A : Option Addr) (c B : Nat) (bs : List UInt8) (h : Rd w B A bs.length bs) (hlc : bs.length ≤ c) (hl : bs.length ≤ 1000000) (o : Int) (ho : o ≤ 9223372036854775807) :
    Calls Try.prog 90 #[.slice A bs.length c, .int .i64 o] w fun e w' => e = .returned (wordV (word? bs o)) ∧ w = w' := by
  by_cases h0 : o < 0
  · have e : word? bs o = none := by unfold word?; rw [if_neg (by omega)]
    rw [e]
    clear e
    go_enter Try.func90, Try.ntmps90
    go_wp2
    go_ret2
    exact ⟨rfl, rfl⟩
  · obtain ⟨p, rfl⟩ : ∃ p : Nat, o = (p : Int) := ⟨o.toNat, by omega⟩
    by_cases h1 : bs.length < p
    · have e : word? bs (p : Int) = none := by unfold word?; rw [if_neg (by omega)]
      rw [e]
      clear e
      go_enter Try.func90, Try.ntmps90
      go_wp2
      go_ret2
      exact ⟨rfl, rfl⟩
    · by_cases h2 : p + 8 ≤ bs.length
      · have e : word? bs (p : Int) = some (wordN bs p) := by unfold word?; rw [if_pos (by omega)]; rfl
        rw [e]
        have HG := Lib.hid (rget_yes A bs.length c B bs p 8 w h hlc hl (by omega) (by omega) h2)
        clear e h
        go_enter Try.func90, Try.ntmps90
        go_wp2_with fail
        refine HG.out.mono ?_
        rintro e w' ⟨rfl, rfl⟩
        go_wp2
        go_ret2
        exact ⟨rfl, rfl⟩
      · have e : word? bs (p : Int) = none := by unfold word?; rw [if_neg (by omega)]
        rw [e]
        have HG := Lib.hid (rget_no A bs.length c p 8 w hl (by omega) (by omega))
        clear e h
        go_enter Try.func90, Try.ntmps90
        go_wp2_with fail
        refine HG.out.mono ?_
        rintro e w' ⟨rfl, rfl⟩
        go_wp2
        go_ret2
        exact ⟨rfl, rfl⟩

set_option maxHeartbeats 400000 in
theorem rcould_any (A : Option Addr) (n c : Nat) (hl : n ≤ 1000000) (o s : Int) (ho : -9223372036854775808 ≤ o ∧ o ≤ 9223372036854775807) (b : Bool) (hb : could n o s = b) :
    Calls Try.prog 54 #[.slice A n c, .int .i64 o, .int .i64 s] w fun e w' => e = .returned (.bool b) ∧ w = w' := by
  by_cases h1 : 184 ≤ o
  · by_cases h2 : o % 16 = 8
    · have s2 : (o % 16 == 8) = true := by rw [beq_iff_eq]; exact h2
      by_cases h3 : o ≤ (n : Int)
      · have e : decide (s ≤ (n : Int) - o) = b := by rw [← hb]; simp [could, h1, h2, h3]
        have HE := Lib.hid e
        clear hb e h2
        go_enter Try.func54, Try.ntmps54
        go_wp2
        go_ret
        exact ⟨rt_b HE.out, rfl⟩
      · obtain rfl : false = b := by rw [← hb]; simp [could, h3]
        clear hb h2
        go_enter Try.func54, Try.ntmps54
        go_wp2
        go_ret
        exact ⟨rfl, rfl⟩
    · have s2 : (o % 16 == 8) = false := by rw [beq_eq_false_iff_ne]; exact h2
      obtain rfl : false = b := by rw [← hb]; simp [could, h2]
      clear hb h2
      go_enter Try.func54, Try.ntmps54
      go_wp2
      go_ret
      exact ⟨rfl, rfl⟩
  · obtain rfl : false = b := by rw [← hb]; simp [could, h1]
    clear hb
    go_enter Try.func54, Try.ntmps54
    go_wp2
    go_ret
    exact ⟨rfl, rfl⟩
end
end Go.Proofs.Ytbemaoncakcnjaa

/- The contracts of the document's own blocks: Get, all ways. -/
namespace Go.Proofs.Ytbemaoncakcnjaa
open Go.RowKit

section
variable (w : World)

set_option maxHeartbeats 1000000 in
theorem rgetB_1 (A : Option Addr) (c : Nat) (bs : List UInt8) (hl : bs.length ≤ 1000000) (o : Int) (ho : -9223372036854775808 ≤ o ∧ o ≤ 9223372036854775807) (hc : could bs.length o 8 = false) :
    Calls Try.prog 79 #[.slice A bs.length c, .int .i64 o] w fun e w' => e = .returned (.tuple #[bkV none, .bool false]) ∧ Below w.heap.size w w' := by
  obtain ⟨w1, hw1⟩ : ∃ w1, w.alloc (.cells #[.int .i64 0, .int .i64 0, .bool false] 65) = w1 := ⟨_, rfl⟩
  have hb1 : Below w.heap.size w w1 := by rw [← hw1]; exact (Below.refl _ _).alloc (Nat.le_refl _) _
  have hn1 : w1.heap[w.heap.size]? = some (.cells #[.int .i64 0, .int .i64 0, .bool false] 65 (0, 0)) := by rw [← hw1]; exact heap_alloc_new w _
  have HC := Lib.hid (rcould_any w1 A bs.length c hl o 8 ho false hc)
  have HW1 := Lib.hid hw1
  have HB1 := Lib.hid hb1
  have HN1 := Lib.hid hn1
  clear hc hw1 hb1 hn1
  go_enter Try.func79, Try.ntmps79
  go_wp2_with fail
  rw [HW1.out]
  with_reducible refine HC.out.mono ?_
  rintro e w2 ⟨rfl, rfl⟩
  obtain ⟨⟨c0, c1, c2⟩, f0, f1, f2⟩ := blk_cells HN1.out
  go_wp2
  (try simp only [Exit.inBlock, Exit.then])
  refine blk_ret (x := .bool false) Try.results79 ?_ ?_ ?_ (blk_set HN1.out _ _ _) ?_
  · rfl
  · rfl
  · rfl
  · exact ⟨rfl, ((HB1.out.setCell (Nat.le_refl _) _).setCell (Nat.le_refl _) _).setCell (Nat.le_refl _) _⟩

set_option maxHeartbeats 1000000 in
theorem rgetB_2 (A : Option Addr) (c B : Nat) (bs : List UInt8) (hr : Rd w B A bs.length bs) (hlc : bs.length ≤ c) (hl : bs.length ≤ 1000000) (o : Nat) (v : Nat) (hc : could bs.length o 8 = true) (hv : wordN bs o = v) (hu : unpN v = none) :
    Calls Try.prog 79 #[.slice A bs.length c, .int .i64 (o : Int)] w fun e w' => e = .returned (.tuple #[bkV none, .bool false]) ∧ Below w.heap.size w w' := by
  have hb := (could_iff _ _ _).1 hc
  obtain ⟨w1, hw1⟩ : ∃ w1, w.alloc (.cells #[.int .i64 0, .int .i64 0, .bool false] 65) = w1 := ⟨_, rfl⟩
  have hb1 : Below w.heap.size w w1 := by rw [← hw1]; exact (Below.refl _ _).alloc (Nat.le_refl _) _
  have hn1 : w1.heap[w.heap.size]? = some (.cells #[.int .i64 0, .int .i64 0, .bool false] 65 (0, 0)) := by rw [← hw1]; exact heap_alloc_new w _
  have HC := Lib.hid (rcould_any w1 A bs.length c hl (o : Int) 8 (by omega) true hc)
  have hr1 : Rd w1 B A bs.length bs := by rw [← hw1]; exact hr.alloc' _
  have hw := rword_any w1 A c B bs hr1 hlc hl (o : Int) (by omega)
  have e : word? bs (o : Int) = some v := by unfold word?; rw [if_pos (by omega), Int.toNat_natCast, hv]
  rw [e] at hw
  have hup := runpack_any w1 v (by rw [← hv]; exact wordN_lt _ _)
  rw [hu] at hup
  dsimp only [wordV] at hw
  dsimp only [unpV] at hup
  have HW := Lib.hid hw
  have HU := Lib.hid hup
  have HW1 := Lib.hid hw1
  have HB1 := Lib.hid hb1
  have HN1 := Lib.hid hn1
  clear hc hv hu hr hr1 hw e hup hw1 hb1 hn1
  go_enter Try.func79, Try.ntmps79
  go_wp2_with fail
  rw [HW1.out]
  with_reducible refine HC.out.mono ?_
  rintro e w2 ⟨rfl, rfl⟩
  go_wp2_with fail
  with_reducible refine HW.out.mono ?_
  rintro e w2 ⟨rfl, rfl⟩
  go_wp2_with fail
  with_reducible refine HU.out.mono ?_
  rintro e w2 ⟨rfl, rfl⟩
  obtain ⟨⟨c0, c1, c2⟩, f0, f1, f2⟩ := blk_cells HN1.out
  go_wp2
  (try simp only [Exit.inBlock, Exit.then])
  refine blk_ret (x := .bool false) Try.results79 ?_ ?_ ?_ (blk_set HN1.out _ _ _) ?_
  · rfl
  · rfl
  · rfl
  · exact ⟨rfl, ((HB1.out.setCell (Nat.le_refl _) _).setCell (Nat.le_refl _) _).setCell (Nat.le_refl _) _⟩

set_option maxHeartbeats 1000000 in
theorem rgetB_3 (A : Option Addr) (c B : Nat) (bs : List UInt8) (hr : Rd w B A bs.length bs) (hlc : bs.length ≤ c) (hl : bs.length ≤ 1000000) (o : Nat) (v : Nat) (s : Nat) (u : Bool) (hc : could bs.length o 8 = true) (hv : wordN bs o = v) (hu : unpN v = some (s, u)) (hc2 : could bs.length o s = false) :
    Calls Try.prog 79 #[.slice A bs.length c, .int .i64 (o : Int)] w fun e w' => e = .returned (.tuple #[bkV none, .bool false]) ∧ Below w.heap.size w w' := by
  have hb := (could_iff _ _ _).1 hc
  have hss := (isSz_iff _).1 (unpN_some hu).1
  obtain ⟨w1, hw1⟩ : ∃ w1, w.alloc (.cells #[.int .i64 0, .int .i64 0, .bool false] 65) = w1 := ⟨_, rfl⟩
  have hb1 : Below w.heap.size w w1 := by rw [← hw1]; exact (Below.refl _ _).alloc (Nat.le_refl _) _
  have hn1 : w1.heap[w.heap.size]? = some (.cells #[.int .i64 0, .int .i64 0, .bool false] 65 (0, 0)) := by rw [← hw1]; exact heap_alloc_new w _
  have HC := Lib.hid (rcould_any w1 A bs.length c hl (o : Int) 8 (by omega) true hc)
  have hr1 : Rd w1 B A bs.length bs := by rw [← hw1]; exact hr.alloc' _
  have hw := rword_any w1 A c B bs hr1 hlc hl (o : Int) (by omega)
  have e : word? bs (o : Int) = some v := by unfold word?; rw [if_pos (by omega), Int.toNat_natCast, hv]
  rw [e] at hw
  have hup := runpack_any w1 v (by rw [← hv]; exact wordN_lt _ _)
  rw [hu] at hup
  dsimp only [wordV] at hw
  dsimp only [unpV] at hup
  have HW := Lib.hid hw
  have HU := Lib.hid hup
  have HC2 := Lib.hid (rcould_any w1 A bs.length c hl (o : Int) (s : Int) (by omega) false hc2)
  have HW1 := Lib.hid hw1
  have HB1 := Lib.hid hb1
  have HN1 := Lib.hid hn1
  clear hc hv hu hc2 hr hr1 hw e hup hw1 hb1 hn1
  go_enter Try.func79, Try.ntmps79
  go_wp2_with fail
  rw [HW1.out]
  with_reducible refine HC.out.mono ?_
  rintro e w2 ⟨rfl, rfl⟩
  go_wp2_with fail
  with_reducible refine HW.out.mono ?_
  rintro e w2 ⟨rfl, rfl⟩
  go_wp2_with fail
  with_reducible refine HU.out.mono ?_
  rintro e w2 ⟨rfl, rfl⟩
  go_wp2_with fail
  with_reducible refine HC2.out.mono ?_
  rintro e w2 ⟨rfl, rfl⟩
  obtain ⟨⟨c0, c1, c2⟩, f0, f1, f2⟩ := blk_cells HN1.out
  go_wp2
  (try simp only [Exit.inBlock, Exit.then])
  refine blk_ret (x := .bool false) Try.results79 ?_ ?_ ?_ (blk_set HN1.out _ _ _) ?_
  · rfl
  · rfl
  · rfl
  · exact ⟨rfl, ((HB1.out.setCell (Nat.le_refl _) _).setCell (Nat.le_refl _) _).setCell (Nat.le_refl _) _⟩

set_option maxHeartbeats 1000000 in
theorem rgetB_4 (A : Option Addr) (c B : Nat) (bs : List UInt8) (hr : Rd w B A bs.length bs) (hlc : bs.length ≤ c) (hl : bs.length ≤ 1000000) (o : Nat) (v : Nat) (s : Nat) (u : Bool) (hc : could bs.length o 8 = true) (hv : wordN bs o = v) (hu : unpN v = some (s, u)) (hc2 : could bs.length o s = true) (v2 : Nat) (hv2 : wordN bs (o + s - 8) = v2) (hne : v2 ≠ v) :
    Calls Try.prog 79 #[.slice A bs.length c, .int .i64 (o : Int)] w fun e w' => e = .returned (.tuple #[bkV none, .bool false]) ∧ Below w.heap.size w w' := by
  have hb := (could_iff _ _ _).1 hc
  have hb2 := (could_iff _ _ _).1 hc2
  have hss := (isSz_iff _).1 (unpN_some hu).1
  obtain ⟨w1, hw1⟩ : ∃ w1, w.alloc (.cells #[.int .i64 0, .int .i64 0, .bool false] 65) = w1 := ⟨_, rfl⟩
  have hb1 : Below w.heap.size w w1 := by rw [← hw1]; exact (Below.refl _ _).alloc (Nat.le_refl _) _
  have hn1 : w1.heap[w.heap.size]? = some (.cells #[.int .i64 0, .int .i64 0, .bool false] 65 (0, 0)) := by rw [← hw1]; exact heap_alloc_new w _
  have HC := Lib.hid (rcould_any w1 A bs.length c hl (o : Int) 8 (by omega) true hc)
  have hr1 : Rd w1 B A bs.length bs := by rw [← hw1]; exact hr.alloc' _
  have hw := rword_any w1 A c B bs hr1 hlc hl (o : Int) (by omega)
  have e : word? bs (o : Int) = some v := by unfold word?; rw [if_pos (by omega), Int.toNat_natCast, hv]
  rw [e] at hw
  have hup := runpack_any w1 v (by rw [← hv]; exact wordN_lt _ _)
  rw [hu] at hup
  dsimp only [wordV] at hw
  dsimp only [unpV] at hup
  have HW := Lib.hid hw
  have HU := Lib.hid hup
  have HC2 := Lib.hid (rcould_any w1 A bs.length c hl (o : Int) (s : Int) (by omega) true hc2)
  have hwb := rword_any w1 A c B bs hr1 hlc hl ((o : Int) + (s : Int) - 8) (by omega)
  have e2 : word? bs ((o : Int) + (s : Int) - 8) = some v2 := by
    unfold word?
    rw [if_pos (by omega), show ((o : Int) + (s : Int) - 8).toNat = o + s - 8 by omega, hv2]
  rw [e2] at hwb
  dsimp only [wordV] at hwb
  have HWB := Lib.hid hwb
  have hq : ((v2 : Int) != (v : Int)) = true := by rw [bne_iff_ne]; omega
  have HW1 := Lib.hid hw1
  have HB1 := Lib.hid hb1
  have HN1 := Lib.hid hn1
  clear hc hv hu hc2 hv2 hne hr hr1 hw e hup hwb e2 hw1 hb1 hn1
  go_enter Try.func79, Try.ntmps79
  go_wp2_with fail
  rw [HW1.out]
  with_reducible refine HC.out.mono ?_
  rintro e w2 ⟨rfl, rfl⟩
  go_wp2_with fail
  with_reducible refine HW.out.mono ?_
  rintro e w2 ⟨rfl, rfl⟩
  go_wp2_with fail
  with_reducible refine HU.out.mono ?_
  rintro e w2 ⟨rfl, rfl⟩
  go_wp2_with fail
  with_reducible refine HC2.out.mono ?_
  rintro e w2 ⟨rfl, rfl⟩
  go_wp2_with fail
  with_reducible refine HWB.out.mono ?_
  rintro e w2 ⟨rfl, rfl⟩
  obtain ⟨⟨c0, c1, c2⟩, f0, f1, f2⟩ := blk_cells HN1.out
  go_wp2
  (try simp only [Exit.inBlock, Exit.then])
  refine blk_ret (x := .bool false) Try.results79 ?_ ?_ ?_ (blk_set HN1.out _ _ _) ?_
  · rfl
  · rfl
  · rfl
  · exact ⟨rfl, ((HB1.out.setCell (Nat.le_refl _) _).setCell (Nat.le_refl _) _).setCell (Nat.le_refl _) _⟩

set_option maxHeartbeats 1000000 in
theorem rgetB_5 (A : Option Addr) (c B : Nat) (bs : List UInt8) (hr : Rd w B A bs.length bs) (hlc : bs.length ≤ c) (hl : bs.length ≤ 1000000) (o : Nat) (v : Nat) (s : Nat) (u : Bool) (hc : could bs.length o 8 = true) (hv : wordN bs o = v) (hu : unpN v = some (s, u)) (hc2 : could bs.length o s = true) (hv2 : wordN bs (o + s - 8) = v) :
    Calls Try.prog 79 #[.slice A bs.length c, .int .i64 (o : Int)] w fun e w' => e = .returned (.tuple #[bkV (some ⟨o, s, u⟩), .bool true]) ∧ Below w.heap.size w w' := by
  have hb := (could_iff _ _ _).1 hc
  have hb2 := (could_iff _ _ _).1 hc2
  have hss := (isSz_iff _).1 (unpN_some hu).1
  obtain ⟨w1, hw1⟩ : ∃ w1, w.alloc (.cells #[.int .i64 0, .int .i64 0, .bool false] 65) = w1 := ⟨_, rfl⟩
  have hb1 : Below w.heap.size w w1 := by rw [← hw1]; exact (Below.refl _ _).alloc (Nat.le_refl _) _
  have hn1 : w1.heap[w.heap.size]? = some (.cells #[.int .i64 0, .int .i64 0, .bool false] 65 (0, 0)) := by rw [← hw1]; exact heap_alloc_new w _
  have HC := Lib.hid (rcould_any w1 A bs.length c hl (o : Int) 8 (by omega) true hc)
  have hr1 : Rd w1 B A bs.length bs := by rw [← hw1]; exact hr.alloc' _
  have hw := rword_any w1 A c B bs hr1 hlc hl (o : Int) (by omega)
  have e : word? bs (o : Int) = some v := by unfold word?; rw [if_pos (by omega), Int.toNat_natCast, hv]
  rw [e] at hw
  have hup := runpack_any w1 v (by rw [← hv]; exact wordN_lt _ _)
  rw [hu] at hup
  dsimp only [wordV] at hw
  dsimp only [unpV] at hup
  have HW := Lib.hid hw
  have HU := Lib.hid hup
  have HC2 := Lib.hid (rcould_any w1 A bs.length c hl (o : Int) (s : Int) (by omega) true hc2)
  have hwb := rword_any w1 A c B bs hr1 hlc hl ((o : Int) + (s : Int) - 8) (by omega)
  have e2 : word? bs ((o : Int) + (s : Int) - 8) = some v := by
    unfold word?
    rw [if_pos (by omega), show ((o : Int) + (s : Int) - 8).toNat = o + s - 8 by omega, hv2]
  rw [e2] at hwb
  dsimp only [wordV] at hwb
  have HWB := Lib.hid hwb
  have HW1 := Lib.hid hw1
  have HB1 := Lib.hid hb1
  have HN1 := Lib.hid hn1
  clear hc hv hu hc2 hv2 hr hr1 hw e hup hwb e2 hw1 hb1 hn1
  go_enter Try.func79, Try.ntmps79
  go_wp2_with fail
  rw [HW1.out]
  with_reducible refine HC.out.mono ?_
  rintro e w2 ⟨rfl, rfl⟩
  go_wp2_with fail
  with_reducible refine HW.out.mono ?_
  rintro e w2 ⟨rfl, rfl⟩
  go_wp2_with fail
  with_reducible refine HU.out.mono ?_
  rintro e w2 ⟨rfl, rfl⟩
  go_wp2_with fail
  with_reducible refine HC2.out.mono ?_
  rintro e w2 ⟨rfl, rfl⟩
  go_wp2_with fail
  with_reducible refine HWB.out.mono ?_
  rintro e w2 ⟨rfl, rfl⟩
  obtain ⟨⟨c0, c1, c2⟩, f0, f1, f2⟩ := blk_cells HN1.out
  go_wp2
  (try simp only [Exit.inBlock, Exit.then])
  refine blk_ret (x := .bool true) Try.results79 ?_ ?_ ?_ (blk_set HN1.out _ _ _) ?_
  · rfl
  · rfl
  · rfl
  · exact ⟨rfl, ((HB1.out.setCell (Nat.le_refl _) _).setCell (Nat.le_refl _) _).setCell (Nat.le_refl _) _⟩

theorem rgetB_any (A : Option Addr) (c B : Nat) (bs : List UInt8) (hr : Rd w B A bs.length bs) (hlc : bs.length ≤ c) (hl : bs.length ≤ 1000000) (o : Int) (ho : -9223372036854775808 ≤ o ∧ o ≤ 9223372036854775807) (x : Option Bk) (hx : getB bs o = x) :
    Calls Try.prog 79 #[.slice A bs.length c, .int .i64 o] w fun e w' => e = .returned (.tuple #[bkV x, .bool x.isSome]) ∧ Below w.heap.size w w' := by
  subst hx
  cases hc : could bs.length o 8 with
  | false =>
    have e : getB bs o = none := by unfold getB; rw [if_pos hc]
    rw [e]
    exact rgetB_1 w A c bs hl o ho hc
  | true =>
    have hb := (could_iff _ _ _).1 hc
    obtain ⟨p, rfl⟩ : ∃ p : Nat, o = (p : Int) := ⟨o.toNat, by omega⟩
    cases hu : unpN (wordN bs p) with
    | none =>
      have e : getB bs (p : Int) = none := by unfold getB; rw [if_neg (by rw [hc]; simp), Int.toNat_natCast, hu]
      rw [e]
      exact rgetB_2 w A c B bs hr hlc hl p _ hc rfl hu
    | some su =>
      obtain ⟨s, u⟩ := su
      cases hc2 : could bs.length (p : Int) (s : Int) with
      | false =>
        have e : getB bs (p : Int) = none := by unfold getB; rw [if_neg (by rw [hc]; simp), Int.toNat_natCast, hu]; dsimp only; rw [if_pos hc2]
        rw [e]
        exact rgetB_3 w A c B bs hr hlc hl p _ s u hc rfl hu hc2
      | true =>
        by_cases hw : wordN bs (p + s - 8) = wordN bs p
        · have e : getB bs (p : Int) = some ⟨p, s, u⟩ := by unfold getB; rw [if_neg (by rw [hc]; simp), Int.toNat_natCast, hu]; dsimp only; rw [if_neg (by rw [hc2]; simp), if_pos hw]
          rw [e]
          exact rgetB_5 w A c B bs hr hlc hl p _ s u hc rfl hu hc2 hw
        · have e : getB bs (p : Int) = none := by unfold getB; rw [if_neg (by rw [hc]; simp), Int.toNat_natCast, hu]; dsimp only; rw [if_neg (by rw [hc2]; simp), if_neg hw]
          rw [e]
          exact rgetB_4 w A c B bs hr hlc hl p _ s u hc rfl hu hc2 _ rfl hw
end
end Go.Proofs.Ytbemaoncakcnjaa

/- The contracts of the document's own blocks: Ahead, all ways. -/
namespace Go.Proofs.Ytbemaoncakcnjaa
open Go.RowKit

theorem heap_lt' {w : World} {g : Nat} {o : Obj} (h : w.heap[g]? = some o) : g < w.heap.size := by
  rcases Nat.lt_or_ge g w.heap.size with h1 | h1
  · exact h1
  · rw [Array.getElem?_eq_none h1] at h; cases h

section
variable (w : World)

end
end Go.Proofs.Ytbemaoncakcnjaa

/- The contracts of the document's own blocks: Lay, Set. -/
namespace Go.Proofs.Ytbemaoncakcnjaa
open Go.RowKit

theorem u8_infb : (Try.prog.info? 5).map (fun i => (i.zero, i.size, i.bytes)) = some (some (.int .u8 0), 1, 1) := by kernel_rfl
/-- A number laid at an offset. -/
def layN (bs : List UInt8) (o v : Nat) : List UInt8 := lay bs o (lowB 8 v)
theorem layN_length (bs : List UInt8) (o v : Nat) (h : o + 8 ≤ bs.length) : (layN bs o v).length = bs.length := lay_length _ _ _ (by rw [lowB_length]; exact h)
theorem lay_snoc (bs cs : List UInt8) (d : Nat) (u : UInt8) (h : d + cs.length < bs.length) : (lay bs d cs).set (d + cs.length) u = lay bs d (cs ++ [u]) := by
  unfold lay
  have e1 : (bs.take d).length = d := by rw [List.length_take]; omega
  rw [List.set_append_right _ _ (by omega), List.set_append_right _ _ (by omega), e1, show d + cs.length - d - cs.length = 0 by omega, List.drop_eq_getElem_cons h, List.set_cons_zero, List.append_assoc, List.length_append]
  rfl
/-- A slice of bytes. -/
def RowTold (bs : List UInt8) (w : World) (e : Ending) (w' : World) : Prop :=
  ∃ A' c', e = .returned (.slice A' bs.length c') ∧ w'.ownsRow w.heap.size 5 1 (.slice A' bs.length c') bs.length (bs.map bv) ∧ Below w.heap.size w w'

section
variable (w : World)
set_option maxHeartbeats 1000000 in
theorem rlay_any (A : Option Addr) (c B : Nat) (bs : List UInt8) (hr : Rd w B A bs.length bs) (hB : B ≤ w.heap.size) (hA0 : A = none → c = 0) (hl : bs.length ≤ 100000) (o v : Nat) (hv : v < 18446744073709551616) (ho : o + 8 ≤ bs.length) :
    Calls Try.prog 56 #[.slice A bs.length c, .int .i64 (o : Int), .int .u64 (v : Int)] w fun e w' => RowTold (layN bs o v) w e w' := by
  have OWN1 : Hid ((w.alloc (.cells #[] 5)).ownsRow w.heap.size 5 1 (.slice (some ⟨w.heap.size, 0, none⟩) 0 0) 0 (([] : List UInt8).map bv)) := World.ownsRow_lit w _ 0 (Nat.le_refl _) (by unfold maxLen; omega) rfl
  have HRA := Lib.hid (hr.alloc hB (.cells #[] 5))
  have HV := Lib.hid hv
  obtain ⟨B0, hB0⟩ : ∃ B0, w.heap.size = B0 := ⟨_, rfl⟩
  rw [hB0] at OWN1
  have HB0 := Lib.hid hB0
  have hBB : B0 ≤ (w.alloc (.cells #[] 5)).heap.size := by simp; omega
  clear hr hv
  go_enter Try.func56, Try.ntmps56
  go_wp2_with (first
    | (at_builtin; go_must (refine append_bytes rfl (.tmp 10) (.tmp 11) 44 5 rfl Try.underlying44 u8_infb B0 (.slice (some ⟨B0, 0, none⟩) 0 0) 0 [] rfl OWN1.out B A bs.length c bs rfl HRA.out hA0 (by omega) hBB ?_); intro x3 w3 own3 hb3 gr3; have own4 : w3.ownsRow B0 5 1 x3 bs.length (bs.map bv) := (by simpa using own3); have OWN3 := Lib.hid own4; have HB3 : Hid (Below B0 w w3) := (((Below.refl _ _).alloc (Nat.le_of_eq hB0.symm) _).trans hb3); clear own3 own4 gr3 hb3)
    | fail)
  obtain ⟨ga, ca, rfl, hca, _⟩ := own_rd OWN3.out (by omega)
  go_wp2_with fail
  refine (rlow8 v w3 HV.out).mono ?_
  rintro e w4 ⟨gl, cl, rfl, hgl, rl, hb4⟩
  have own4 := own_below OWN3.out hb4
  have hga := (OWN3.out.lt ga rfl)
  have e0 : layN bs o v = lay bs o (lowB 8 v) := rfl
  have OWN4 : Hid (w4.ownsRow B0 5 1 (.slice (some ⟨ga, 0, none⟩) bs.length ca) bs.length ((lay bs o (lowB 0 v)).map bv)) := (show World.ownsRow _ _ _ _ _ _ _ by
    have : lay bs o (lowB 0 v) = bs := lay_nil bs o
    rw [this]; exact own4)
  have RL := Lib.hid rl
  have HB4 := Lib.hid (HB3.out.trans (hb4.mono (by have := HB3.out.size; omega)))
  have HSZ := Lib.hid hb4.size
  clear own4 rl hb4 OWN1 HRA OWN3 HB3 hBB e0
  go_wp2
  go_loopw [9] (fun i wr => ∃ j : Nat, j ≤ 8 ∧ i = .int .i64 j ∧ wr.ownsRow B0 5 1 (.slice (some ⟨ga, 0, none⟩) bs.length ca) bs.length ((lay bs o (lowB j v)).map bv) ∧ Rd wr wr.heap.size (some ⟨gl, 0, none⟩) 8 (lowB 8 v) ∧ Below B0 w wr) (fun i _ => 8 - (intOf i).toNat)
  case atStart => exact ⟨0, Nat.zero_le _, rfl, OWN4.out, RL.out, HB4.out⟩
  case round =>
    obtain ⟨j, hj, rfl, hown, hrl, hb⟩ := hrel
    by_cases hlt : j < 8
    · obtain ⟨_, _, e, _, hlen, hcell⟩ := hrl.at_ hlt
      injection e with e
      injection e with e1 e2
      subst e1 e2
      rw [Nat.zero_add] at hcell
      have hget := lowB_getElem 8 v j hlt
      rw [List.getElem?_eq_getElem hlen] at hget
      injection hget with hget
      rw [hget] at hcell
      have hst := (hown.stored (o + j) (bv (UInt8.ofNat (v / 256 ^ j % 256)))).1
      rw [← List.map_set] at hst
      have hsn := lay_snoc bs (lowB j v) o (UInt8.ofNat (v / 256 ^ j % 256)) (by rw [lowB_length]; omega)
      rw [lowB_length] at hsn
      rw [hsn, ← lowB_snoc] at hst
      have hfz := hown.frozenAt (o + j)
      have hc : ∃ u, wr.cell? ⟨ga, o + j, none⟩ = some u := by
        have hll : (lay bs o (lowB j v)).length = bs.length := lay_length _ _ _ (by rw [lowB_length]; omega)
        refine ⟨_, (hown.cellAt (o + j) (by omega)).trans (List.getElem?_eq_getElem (by rw [List.length_map, hll]; omega))⟩
      obtain ⟨u, hcu⟩ := hc
      have hne : gl ≠ ga := by omega
      have hrl' : Rd (wr.setCell ⟨ga, o + j, none⟩ (bv (UInt8.ofNat (v / 256 ^ j % 256)))) (wr.setCell ⟨ga, o + j, none⟩ (bv (UInt8.ofNat (v / 256 ^ j % 256)))).heap.size (some ⟨gl, 0, none⟩) 8 (lowB 8 v) :=
        hrl.tch (S := fun k => k = ga) (Tch.set (S := fun k => k = ga) wr ⟨ga, o + j, none⟩ _ rfl) (fun a e h => by injection e with e; subst e; exact hne h)
      have hb' : Below B0 w (wr.setCell ⟨ga, o + j, none⟩ (bv (UInt8.ofNat (v / 256 ^ j % 256)))) := hb.setCell hga.1 _
      obtain ⟨q, hq⟩ : ∃ q, UInt8.ofNat (v / 256 ^ j % 256) = q := ⟨_, rfl⟩
      rw [hq] at hcell hst hrl' hb'
      have hcell' : wr.cell? ⟨gl, j, none⟩ = some (.int .u8 (q.toNat : Int)) := hcell
      have HST : Hid ((wr.setCell ⟨ga, o + j, none⟩ (.int .u8 (q.toNat : Int))).ownsRow B0 5 1 (.slice (some ⟨ga, 0, none⟩) bs.length ca) bs.length ((lay bs o (lowB (j + 1) v)).map bv)) := hst
      have HRL : Hid (Rd (wr.setCell ⟨ga, o + j, none⟩ (.int .u8 (q.toNat : Int))) (wr.setCell ⟨ga, o + j, none⟩ (.int .u8 (q.toNat : Int))).heap.size (some ⟨gl, 0, none⟩) 8 (lowB 8 v)) := hrl'
      have HBE : Hid (Below B0 w (wr.setCell ⟨ga, o + j, none⟩ (.int .u8 (q.toNat : Int)))) := hb'
      clear hst hrl' hb' hq hcell hget hsn hown hrl hb OWN4 RL
      go_wp2
      go_roundw
      case rel => exact ⟨j + 1, by omega, by go_num, HST.out, HRL.out, HBE.out⟩
      case measure => simp [intOf]; omega
    · have HO := Lib.hid hown
      have HB := Lib.hid hb
      clear hown hb hrl OWN4 RL
      go_wp2
      go_ret
      obtain rfl : j = 8 := by omega
      have e := layN_length bs o v ho
      refine ⟨some ⟨ga, 0, none⟩, ca, by rw [e]; rfl, ?_, ?_⟩
      · rw [e, HB0.out]; exact HO.out
      · rw [HB0.out]; exact HB.out
end
end Go.Proofs.Ytbemaoncakcnjaa

/- The contracts of the document's own blocks: Set. -/
namespace Go.Proofs.Ytbemaoncakcnjaa
open Go.RowKit

/-- Both tags of a block laid; none: it can't be. -/
def setB (bs : List UInt8) (o s : Int) (u : Bool) : Option (List UInt8) :=
  if isSz s = true ∧ could bs.length o s = true then some (layN (layN bs o.toNat (packN s u)) (o + s - 8).toNat (packN s u)) else none
theorem own_facts {w : World} {base n c : Nat} {A : Option Addr} {bs : List UInt8} (h : w.ownsRow base 5 1 (.slice A n c) n (bs.map bv)) : Rd w w.heap.size A n bs ∧ n ≤ c ∧ (A = none → c = 0) := by
  obtain ⟨A', c', e, h1, h2⟩ := own_any h
  injection e with e1 _ e3
  subst e1 e3
  refine ⟨h2, h1, fun e => ?_⟩
  subst e
  rcases h.2 with ⟨h', _⟩ | ⟨_, _, _, h', _⟩
  · injection h' with _ _ e
  · injection h' with e; cases e

section
variable (w : World)
end
end Go.Proofs.Ytbemaoncakcnjaa

/- The contracts of the document's own blocks: Walk. -/
namespace Go.Proofs.Ytbemaoncakcnjaa
open Go.RowKit

/-- Blocks as cells. -/
def flatK : List Bk → List Value
  | [] => []
  | x :: r => .int .i64 (x.off : Int) :: .int .i64 (x.size : Int) :: .bool x.used :: flatK r
theorem flatK_length : ∀ l : List Bk, (flatK l).length = l.length * 3
  | [] => rfl
  | x :: r => by simp [flatK, flatK_length r]; omega
theorem flatK_append (a b : List Bk) : flatK (a ++ b) = flatK a ++ flatK b := by
  induction a with
  | nil => rfl
  | cons x r ih => simp [flatK, ih]
theorem flatK_get : ∀ (l : List Bk) (i : Nat) (x : Bk), l[i]? = some x → (flatK l)[i * 3]? = some (.int .i64 (x.off : Int)) ∧ (flatK l)[i * 3 + 1]? = some (.int .i64 (x.size : Int)) ∧ (flatK l)[i * 3 + 2]? = some (.bool x.used)
  | [], _, _, h => by simp at h
  | y :: r, 0, x, h => by
    simp at h; subst h
    exact ⟨rfl, rfl, rfl⟩
  | y :: r, i + 1, x, h => by
    have := flatK_get r i x (by simpa using h)
    have e : (i + 1) * 3 = i * 3 + 1 + 1 + 1 := by omega
    rw [e]
    exact ⟨by simpa [flatK] using this.1, by simpa [flatK] using this.2.1, by simpa [flatK] using this.2.2⟩
theorem bk_inf : (Try.prog.info? 65).map (fun i => (i.zero, i.size, i.bytes)) = some (some (.agg #[.int .i64 0, .int .i64 0, .bool false]), 3, 24) := by kernel_rfl
/-- A slice of blocks. -/
def BksTold (x : Option (List Bk)) (w : World) (e : Ending) (w' : World) : Prop :=
  ∃ A' c', e = .returned (.tuple #[.slice A' (x.getD []).length c', .bool x.isSome]) ∧ w'.ownsRow w.heap.size 65 3 (.slice A' (x.getD []).length c') (x.getD []).length (flatK (x.getD [])) ∧ Below w.heap.size w w'
theorem own_sl {w : World} {base n size : Nat} {t : TypeId} {v : Value} {xs : List Value} (h : w.ownsRow base t size v n xs) : ∃ A c, v = .slice A n c := by
  rcases h.2 with ⟨rfl, h0⟩ | ⟨g, cap, cur, rfl, _⟩
  · rw [h0]; exact ⟨none, 0, rfl⟩
  · exact ⟨_, _, rfl⟩
theorem own_below' {w w' : World} {base n size : Nat} {t : TypeId} {v : Value} {xs : List Value} (h : w.ownsRow base t size v n xs) (hb : Below w.heap.size w w') : w'.ownsRow base t size v n xs := by
  refine ⟨h.1, ?_⟩
  rcases h.2 with h2 | ⟨g, cap, cur, hv, hg, hh, r⟩
  · exact .inl h2
  · refine .inr ⟨g, cap, cur, hv, hg, ?_, r⟩
    have := (h.lt g (by rw [hv]; rfl)).2
    rw [hb.block g this]; exact hh

section
variable (w : World)
set_option maxRecDepth 100000 in
set_option maxHeartbeats 2000000 in
theorem rwalkB_any (A : Option Addr) (c B : Nat) (bs : List UInt8) (hr : Rd w B A bs.length bs) (hB : B ≤ w.heap.size) (hlc : bs.length ≤ c) (hl : bs.length ≤ 100000) (x : Option (List Bk)) (hx : walkB bs = x) :
    Calls Try.prog 57 #[.slice A bs.length c] w fun e w' => BksTold x w e w' := by
  by_cases h0 : bs.length < 184
  · obtain rfl : none = x := by rw [← hx]; unfold walkB; rw [if_pos h0]
    clear hx hr
    go_enter Try.func57, Try.ntmps57
    go_wp2
    go_ret2
    exact ⟨none, 0, rfl, World.ownsRow_nil _ _ _ _, Below.refl _ _⟩
  · have hx' : walkF bs (bs.length + 1) 184 = x := by rw [← hx]; unfold walkB; rw [if_neg h0]
    obtain ⟨i0, hi, hz0, hz1, hz2⟩ := info_parts bk_inf
    have HX := Lib.hid hx'
    have HR := Lib.hid hr
    obtain ⟨B0, hB0⟩ : ∃ B0, w.heap.size = B0 := ⟨_, rfl⟩
    have HB0 := Lib.hid hB0
    clear hx hx' hr hB0
    go_enter Try.func57, Try.ntmps57
    go_wp2
    go_loopw [4, 5] (fun q t wr => ∃ (l : List Bk) (o k : Nat), t = .int .i64 (o : Int) ∧ 184 ≤ o ∧ o ≤ bs.length ∧ bs.length < o + k ∧ l.length * 32 ≤ o ∧ x = (walkF bs k o).map (l ++ ·) ∧ wr.ownsRow B0 65 3 q l.length (flatK l) ∧ Below B0 w wr) (fun _ t _ => bs.length - (intOf t).toNat)
    case atStart => exact ⟨[], 184, bs.length + 1, rfl, Nat.le_refl _, by omega, by omega, by simp, by rw [HX.out]; simp, World.ownsRow_nil _ _ _ _, Below.refl _ _⟩
    case round =>
      obtain ⟨l, o, k, rfl, ho1, ho2, hk, hll, hxl, hown, hb⟩ := hrel
      obtain ⟨A7, c7, rfl⟩ := own_sl hown
      obtain ⟨k, rfl⟩ : ∃ k', k = k' + 1 := ⟨k - 1, by omega⟩
      have hBw : B0 ≤ wr.heap.size := by have := hb.size; have := HB0.out; omega
      by_cases hlt : o < bs.length
      · have hrw : Rd wr B A bs.length bs := HR.out.keep (fun q hq => hb.cell (p := q) (by have := HB0.out; omega))
        cases hg : getB bs (o : Int) with
        | none =>
          have hG := rgetB_any wr A c B bs hrw hlc (by omega) (o : Int) (by omega) _ hg
          dsimp only [bkV, Option.isSome] at hG
          obtain rfl : x = none := by rw [hxl]; simp [walkF, hlt, hg]
          have HG := Lib.hid hG
          have HB := Lib.hid hb
          clear hG hown hb hg hxl hrw HX
          go_wp2_with fail
          with_reducible refine HG.out.mono ?_
          rintro e w2 ⟨rfl, hb2⟩
          have HB2 := Lib.hid (HB.out.trans (hb2.mono hBw))
          clear hb2
          go_wp2
          go_ret2
          exact ⟨none, 0, rfl, World.ownsRow_nil _ _ _ _, by rw [HB0.out]; exact HB2.out.alloc (by have := HB2.out.size; have := HB0.out; omega) _⟩
        | some y =>
          obtain ⟨yo, ys, yu⟩ := y
          obtain ⟨q1, _, _, q2, q3, _⟩ := getB_some hg
          dsimp only at q1 q2 q3
          obtain rfl : o = yo := by omega
          have q4 := (isSz_iff _).1 q3
          have hG := rgetB_any wr A c B bs hrw hlc (by omega) (o : Int) (by omega) _ hg
          dsimp only [bkV, Bk.val, Option.isSome] at hG
          have hxl' : x = (walkF bs k (o + ys)).map ((l ++ [⟨o, ys, yu⟩]) ++ ·) := by
            rw [hxl]
            simp [walkF, hlt, hg, Option.map_map, Function.comp_def]
          have HG := Lib.hid hG
          have HB := Lib.hid hb
          have HXL := Lib.hid hxl'
          have HOWN := Lib.hid hown
          have HALT : Hid (∀ k, (Value.slice A7 l.length c7).ownBlock = some k → B0 ≤ k ∧ k < wr.heap.size) := hown.lt
          clear hG hown hb hg hxl hxl' hrw q1 q3 HX
          go_wp2_with fail
          with_reducible refine HG.out.mono ?_
          rintro e w2 ⟨rfl, hb2⟩
          have own2 := own_below' HOWN.out hb2
          have HB2 := Lib.hid (HB.out.trans (hb2.mono hBw))
          have hw2 : B0 ≤ w2.heap.size := Nat.le_trans hBw hb2.size
          have hwr := hb2.size
          obtain ⟨w3, hw3⟩ : ∃ w3, w2.alloc (.cells #[.int .i64 (o : Int), .int .i64 (ys : Int), .bool yu] 65) = w3 := ⟨_, rfl⟩
          obtain ⟨w4, hw4⟩ : ∃ w4, w3.alloc (.cells #[.int .i64 (o : Int), .int .i64 (ys : Int), .bool yu] 65) = w4 := ⟨_, rfl⟩
          have b3 : Below w2.heap.size w2 w3 := by rw [← hw3]; exact (Below.refl _ _).alloc (Nat.le_refl _) _
          have b4 : Below w3.heap.size w3 w4 := by rw [← hw4]; exact (Below.refl _ _).alloc (Nat.le_refl _) _
          have own4 := own_below' (own_below' own2 b3) b4
          have n4 : w4.heap[w3.heap.size]? = some (.cells #[.int .i64 (o : Int), .int .i64 (ys : Int), .bool yu] 65 (0, 0)) := by rw [← hw4]; exact heap_alloc_new w3 _
          have s3 : w3.heap.size = w2.heap.size + 1 := by rw [← hw3]; simp
          have n3 : w3.heap[w2.heap.size]? = some (.cells #[.int .i64 (o : Int), .int .i64 (ys : Int), .bool yu] 65 (0, 0)) := by rw [← hw3]; exact heap_alloc_new w2 _
          obtain ⟨⟨d0, d1, d2⟩, _⟩ := blk_cells n3
          have n4' := (b4.block _ (heap_lt' n3)).trans n3
          have HNEW : Hid (∀ j u, [Value.int .i64 (o : Int), .int .i64 (ys : Int), .bool yu][j]? = some u → w4.cell? ((⟨w3.heap.size, 0, none⟩ : Addr).add j) = some u) := fun j u hu => by
            have e : (⟨w3.heap.size, 0, none⟩ : Addr).add j = ⟨w3.heap.size, j, none⟩ := by unfold Addr.add; split <;> simp_all
            rw [e, cell_of_row w4 _ j _ _ (0, 0) n4]
            simpa using hu
          have HONE : Hid (∀ u ∈ [Value.int .i64 (o : Int), .int .i64 (ys : Int), .bool yu], u.oneCell' = true) := fun u hu => by
            simp at hu
            rcases hu with rfl | rfl | rfl <;> rfl
          have hB4 : B0 ≤ w4.heap.size := by have := b4.size; omega
          have HB4 := Lib.hid (HB2.out.trans ((b3.trans (b4.mono b3.size)).mono hw2))
          have OWN4 := Lib.hid own4
          have HN4 := Lib.hid n4'
          have hs4 : w3.heap.size < w4.heap.size := heap_lt' n4
          have HS3 := Lib.hid s3
          have HFL : Hid (flatK (l ++ [⟨o, ys, yu⟩]) = flatK l ++ [.int .i64 (o : Int), .int .i64 (ys : Int), .bool yu]) := flatK_append _ _
          have hg2 : w2.heap.size < w4.heap.size := heap_lt' n4'
          clear own2 own4 n3 n4 n4' b3 b4 hb2 HOWN HG s3
          go_wp2_with (first
            | (at_builtin; go_must (refine wpList_append_own _ rfl _ _ 22 rfl B0 65 i0 _ 3 24 Try.underlying22 hi hz0 hz1 hz2 rfl (by decide) _ l.length (flatK l) rfl OWN4.out ⟨w3.heap.size, 0, none⟩ 1 1 [.int .i64 (o : Int), .int .i64 (ys : Int), .bool yu] rfl rfl HNEW.out HONE.out (by unfold maxLen; omega) (by omega) hB4 ?_); intro x5 w5 own5 gr5 at5;
               have gr5' : w4.grownBy w5 (Value.slice A7 l.length c7).ownBlock := gr5; have e5 := (gr5'.block _ hg2 (fun e => by have := (HALT.out _ e.symm).2; omega)).trans HN4.out; obtain ⟨⟨c0, c1, c2⟩, _⟩ := blk_cells e5; have HB5 : Hid (Below B0 w w5) := HB4.out.grown gr5' hB4 (fun k hk => (HALT.out k hk).1); have OWN5 : Hid (w5.ownsRow B0 65 3 x5 (l.length + 1) (flatK (l ++ [⟨o, ys, yu⟩]))) := (show World.ownsRow _ _ _ _ _ _ _ by rw [HFL.out]; exact own5); clear own5 gr5 gr5' at5 e5)
            | fail)
          go_roundw
          case rel => exact ⟨l ++ [⟨o, ys, yu⟩], o + ys, k, by go_num, by omega, by omega, by omega, by rw [List.length_append, List.length_singleton]; omega, HXL.out, by rw [List.length_append, List.length_singleton]; exact OWN5.out, HB5.out⟩
          case measure => simp [intOf]; omega
      · obtain rfl : o = bs.length := by omega
        obtain rfl : x = some l := by rw [hxl]; simp [walkF]
        have HB := Lib.hid hb
        have HO := Lib.hid hown
        clear hxl hown hb HX
        go_wp2
        go_ret2
        exact ⟨A7, c7, rfl, by rw [HB0.out]; exact HO.out, by rw [HB0.out]; exact HB.out⟩
end
end Go.Proofs.Ytbemaoncakcnjaa

/- The contracts of the laws' words: Pick, Blocks and Ints of lists that are the same. -/
namespace Go.Proofs.Ytbemaoncakcnjaa
open Go.RowKit

/-- A slice of blocks reads so; a slice of numbers. -/
def BkRd (w : World) (B : Nat) (A : Option Addr) (l : List Bk) : Prop := 0 < l.length → ∃ b o, A = some ⟨b, o, none⟩ ∧ b < B ∧ ∀ j x, l[j]? = some x →
  w.cell? ⟨b, o + j * 3, none⟩ = some (.int .i64 (x.off : Int)) ∧ w.cell? ⟨b, o + j * 3 + 1, none⟩ = some (.int .i64 (x.size : Int)) ∧ w.cell? ⟨b, o + j * 3 + 2, none⟩ = some (.bool x.used)
def IRd (w : World) (B : Nat) (A : Option Addr) (l : List Int) : Prop := 0 < l.length → ∃ b o, A = some ⟨b, o, none⟩ ∧ b < B ∧ ∀ j x, l[j]? = some x → w.cell? ⟨b, o + j, none⟩ = some (.int .i64 x)
theorem BkRd.below {w w' : World} {B : Nat} {A : Option Addr} {l : List Bk} (h : BkRd w B A l) (hb : Below B w w') : BkRd w' B A l := fun hn => by
  obtain ⟨b, o, e, hB, hc⟩ := h hn
  refine ⟨b, o, e, hB, fun j x hx => ?_⟩
  obtain ⟨h0, h1, h2⟩ := hc j x hx
  exact ⟨(hb.cell (p := ⟨b, _, none⟩) hB).trans h0, (hb.cell (p := ⟨b, _, none⟩) hB).trans h1, (hb.cell (p := ⟨b, _, none⟩) hB).trans h2⟩
theorem IRd.below {w w' : World} {B : Nat} {A : Option Addr} {l : List Int} (h : IRd w B A l) (hb : Below B w w') : IRd w' B A l := fun hn => by
  obtain ⟨b, o, e, hB, hc⟩ := h hn
  exact ⟨b, o, e, hB, fun j x hx => (hb.cell (p := ⟨b, _, none⟩) hB).trans (hc j x hx)⟩
set_option maxRecDepth 100000 in
set_option maxHeartbeats 1000000 in
theorem blocks_same (w : World) (A1 A2 : Option Addr) (c1 c2 : Nat) (l : List Bk) (h1 : BkRd w w.heap.size A1 l) (h2 : BkRd w w.heap.size A2 l) (hl : l.length ≤ 1000000) :
    Calls Try.prog 37 #[.slice A1 l.length c1, .slice A2 l.length c2] w fun e w' => e = .returned (.int .i64 1) ∧ Below w.heap.size w w' := by
  go_enter Try.func37, Try.ntmps37
  go_wp2
  go_loopw [5] (fun i wr => ∃ j : Nat, j ≤ l.length ∧ i = .int .i64 j ∧ Below w.heap.size w wr) (fun i _ => l.length - (intOf i).toNat)
  case atStart => exact ⟨0, Nat.zero_le _, rfl, Below.refl _ _⟩
  case round =>
    obtain ⟨j, hj, rfl, hb⟩ := hrel
    by_cases hlt : j < l.length
    · obtain ⟨x, hx⟩ : ∃ x, l[j]? = some x := ⟨l[j], List.getElem?_eq_getElem hlt⟩
      obtain ⟨b1, o1, rfl, _, hc1⟩ := (h1.below hb) (by omega)
      obtain ⟨b2, o2, rfl, _, hc2⟩ := (h2.below hb) (by omega)
      obtain ⟨p0, p1, p2⟩ := hc1 j x hx
      obtain ⟨q0, q1, q2⟩ := hc2 j x hx
      have hji : (j : Int) < (l.length : Int) := by omega
      clear hc1 hc2 hx
      go_wp2_with fail
      go_quiet (fail)
      have HB : Hid (Below w.heap.size w (wr.drewN nq)) := ⟨hb.os, hb.tape, hb.output, hb.size, hb.block⟩
      clear hb p0 p1 p2 q0 q1 q2
      generalize wr.drewN nq = w2 at HB ⊢
      go_wp2
      go_roundw
      case rel => exact ⟨j + 1, by omega, by go_num, HB.out⟩
      case measure => simp [intOf]; omega
    · go_wp2
      go_ret
      exact ⟨rfl, hb⟩

set_option maxRecDepth 100000 in
set_option maxHeartbeats 1000000 in
theorem ints_same (w : World) (A1 A2 : Option Addr) (c1 c2 : Nat) (l : List Int) (h1 : IRd w w.heap.size A1 l) (h2 : IRd w w.heap.size A2 l) (hl : l.length ≤ 1000000) :
    Calls Try.prog 41 #[.slice A1 l.length c1, .slice A2 l.length c2] w fun e w' => e = .returned (.int .i64 1) ∧ Below w.heap.size w w' := by
  go_enter Try.func41, Try.ntmps41
  go_wp2
  go_loopw [5] (fun i wr => ∃ j : Nat, j ≤ l.length ∧ i = .int .i64 j ∧ Below w.heap.size w wr) (fun i _ => l.length - (intOf i).toNat)
  case atStart => exact ⟨0, Nat.zero_le _, rfl, Below.refl _ _⟩
  case round =>
    obtain ⟨j, hj, rfl, hb⟩ := hrel
    by_cases hlt : j < l.length
    · obtain ⟨x, hx⟩ : ∃ x, l[j]? = some x := ⟨l[j], List.getElem?_eq_getElem hlt⟩
      obtain ⟨b1, o1, rfl, _, hc1⟩ := (h1.below hb) (by omega)
      obtain ⟨b2, o2, rfl, _, hc2⟩ := (h2.below hb) (by omega)
      have p0 := hc1 j x hx
      have q0 := hc2 j x hx
      have hji : (j : Int) < (l.length : Int) := by omega
      clear hc1 hc2 hx
      go_wp2_with fail
      go_quiet (fail)
      have HB : Hid (Below w.heap.size w (wr.drewN nq)) := ⟨hb.os, hb.tape, hb.output, hb.size, hb.block⟩
      clear hb p0 q0
      generalize wr.drewN nq = w2 at HB ⊢
      go_wp2
      go_roundw
      case rel => exact ⟨j + 1, by omega, by go_num, HB.out⟩
      case measure => simp [intOf]; omega
    · go_wp2
      go_ret
      exact ⟨rfl, hb⟩
end Go.Proofs.Ytbemaoncakcnjaa

/- Slices and structs that came in, in the words of the contracts: bytes, bools, numbers, what is laid, a block. -/
namespace Go.Proofs.Ytbemaoncakcnjaa
open Go.RowKit Go.ChangeShapes Go.WideShapes Go.Deep

theorem list_of {α : Type} {p : Nat → α → Prop} : ∀ (n : Nat), (∀ i, i < n → ∃ x, p i x) → ∃ l : List α, l.length = n ∧ ∀ i x, l[i]? = some x → p i x
  | 0, _ => ⟨[], rfl, fun i x h => by simp at h⟩
  | n + 1, h => by
    obtain ⟨l, hl, hp⟩ := list_of n (fun i hi => h i (by omega))
    obtain ⟨x, hx⟩ := h n (by omega)
    refine ⟨l ++ [x], by simp [hl], fun i y hy => ?_⟩
    rcases Nat.lt_or_ge i l.length with h1 | h1
    · rw [List.getElem?_append_left h1] at hy
      exact hp i y hy
    · rw [List.getElem?_append_right h1] at hy
      have e : i - l.length = 0 := by
        rcases Nat.eq_zero_or_pos (i - l.length) with h2 | h2
        · exact h2
        · rw [List.getElem?_eq_none (by simp; omega)] at hy; cases hy
      rw [e] at hy
      obtain rfl : x = y := by simpa using hy
      obtain rfl : i = n := by omega
      exact hx

theorem add_plain {w : World} {a : Addr} {v : Value} (h : w.cell? (a.add 0) = some v) : ∃ b o, a = ⟨b, o, none⟩ ∧ b < w.heap.size ∧ ∀ j, a.add j = ⟨b, o + j, none⟩ := by
  obtain ⟨b, o, sp⟩ := a
  obtain rfl : sp = none := by simpa [Addr.add] using World.cell?_spot h
  have e : ∀ j, (⟨b, o, none⟩ : Addr).add j = ⟨b, o + j, none⟩ := fun j => by unfold Addr.add; split <;> simp_all
  refine ⟨b, o, rfl, ?_, e⟩
  rw [e] at h
  exact cell_lt h

section
variable {H : Type} {enc : TypeId × Value → H} {w : World} {base : Nat} {held : Bool} {fuel : Nat} {A : Option Addr} {len cap : Nat} {x : DataW H × List MemPlace}
theorem open_byt {fuel : Nat} {A : Option Addr} {len cap : Nat} {x : DataW H × List MemPlace} (h : DataW.trod enc Try.prog w base (fun _ => true) held fuel 44 [.slice A len cap] = some x) : ∃ bs : List UInt8, Rd w w.heap.size A len bs ∧ len ≤ cap ∧ cap ≤ maxLen ∧ (A = none → cap = 0) := by
  rcases open_ints Try.underlying44 Try.underlying5 (by kernel_rfl) h with ⟨hcs, _⟩ | ⟨y, l, c, zs, hcs, _, hl, hm, hz, _, hcell, hwz⟩
  · simp at hcs
    obtain ⟨rfl, rfl, rfl⟩ := hcs
    exact rd_of_row (zs := []) (.inl ⟨rfl, rfl, rfl, rfl⟩)
  · simp at hcs
    obtain ⟨rfl, rfl, rfl⟩ := hcs
    exact rd_of_row (zs := zs) (.inr ⟨_, rfl, hl, hm, by simpa using hz, hcell, hwz⟩)

end
end Go.Proofs.Ytbemaoncakcnjaa

/- The contracts of the document's own lists: num, bit, one, Free, Member. -/
namespace Go.Proofs.Ytbemaoncakcnjaa
open Go.RowKit

theorem layN_eq (bs : List UInt8) (o v : Nat) : layN bs o v = lyN bs o v := by
  unfold layN lay lyN
  rw [lowB_length]

section
variable (w : World)
set_option maxHeartbeats 400000 in
theorem rnum_any (A : Option Addr) (c B : Nat) (bs : List UInt8) (h : Rd w B A bs.length bs) (hlc : bs.length ≤ c) (hl : bs.length ≤ 1000000) (o : Int) (ho : o ≤ 9223372036854775807) (v : Nat) (hv : numO bs o = v) :
    Calls Try.prog 81 #[.slice A bs.length c, .int .i64 o] w fun e w' => e = .returned (.int .u64 (v : Int)) ∧ w = w' := by
  have hw := rword_any w A c B bs h hlc hl o ho
  unfold numO at hv
  cases he : word? bs o with
  | none =>
    rw [he] at hw hv
    obtain rfl : 0 = v := hv
    dsimp only [wordV] at hw
    have HW := Lib.hid hw
    clear hw he h
    go_enter Try.func81, Try.ntmps81
    go_wp2_with fail
    with_reducible refine HW.out.mono ?_
    rintro e w1 ⟨rfl, rfl⟩
    go_wp2
    go_ret
    exact ⟨rfl, rfl⟩
  | some x =>
    rw [he] at hw hv
    obtain rfl : x = v := hv
    dsimp only [wordV] at hw
    have HW := Lib.hid hw
    clear hw he h
    go_enter Try.func81, Try.ntmps81
    go_wp2_with fail
    with_reducible refine HW.out.mono ?_
    rintro e w1 ⟨rfl, rfl⟩
    go_wp2
    go_ret
    exact ⟨rfl, rfl⟩

theorem numO_at (bs : List UInt8) (o : Nat) (h : o + 8 ≤ bs.length) : numO bs (o : Int) = wordN bs o := by
  unfold numO word?
  rw [if_pos (by omega)]
  rfl
theorem div_pow_succ (v k q : Nat) (h : v / 2 ^ k = q) : Value.int .u64 ((q : Int) / 2) = Value.int .u64 ((v / 2 ^ (k + 1) : Nat) : Int) := by
  rw [Nat.pow_succ, ← Nat.div_div_eq_div_mul, h]; simp

set_option maxRecDepth 100000 in
set_option maxHeartbeats 1000000 in
theorem rbit_any (v c : Nat) (hv : v < 18446744073709551616) (hc : c ≤ 1000) (b : Bool) (hb : bitN v c = b) :
    Calls Try.prog 92 #[.int .u64 (v : Int), .int .i64 (c : Int)] w fun e w' => e = .returned (.bool b) ∧ w = w' := by
  have HB := Lib.hid hb
  clear hb
  go_enter Try.func92, Try.ntmps92
  go_wp2
  go_loop [0, 5] (fun q i => ∃ k : Nat, k ≤ c ∧ i = .int .i64 (k : Int) ∧ q = .int .u64 ((v / 2 ^ k : Nat) : Int)) (fun _ i => c - (intOf i).toNat)
  case atStart => exact ⟨0, Nat.zero_le _, rfl, by simp⟩
  case round =>
    obtain ⟨k, hk, rfl, rfl⟩ := hrel
    have hq : v / 2 ^ k < 18446744073709551616 := Nat.lt_of_le_of_lt (Nat.div_le_self _ _) hv
    by_cases hlt : k < c
    · generalize hqq : v / 2 ^ k = q at *
      have HQ := Lib.hid hqq
      clear hqq
      go_wp2
      go_round
      case rel => exact ⟨k + 1, by omega, by go_num, div_pow_succ v k q HQ.out⟩
      case measure => simp [intOf]; omega
    · obtain rfl : k = c := by omega
      have HR : Hid (((((v / 2 ^ k : Nat) : Int) % 2) == 1) = b) := (show _ = _ by
        rw [← HB.out]
        unfold bitN
        rw [Bool.eq_iff_iff, beq_iff_eq, beq_iff_eq]
        omega)
      generalize v / 2 ^ k = q at *
      go_wp2
      go_ret
      exact ⟨rt_b HR.out, rfl⟩

set_option maxRecDepth 100000 in
set_option maxHeartbeats 1000000 in
theorem rone_any (c : Nat) (hc : c < 63) (v : Nat) (hv : 2 ^ c = v) :
    Calls Try.prog 93 #[.int .i64 (c : Int)] w fun e w' => e = .returned (.int .u64 (v : Int)) ∧ w = w' := by
  have HV := Lib.hid hv
  clear hv
  go_enter Try.func93, Try.ntmps93
  go_wp2
  go_loop [3, 4] (fun q i => ∃ k : Nat, k ≤ c ∧ i = .int .i64 (k : Int) ∧ q = .int .u64 ((2 ^ k : Nat) : Int)) (fun _ i => c - (intOf i).toNat)
  case atStart => exact ⟨0, Nat.zero_le _, rfl, rfl⟩
  case round =>
    obtain ⟨k, hk, rfl, rfl⟩ := hrel
    have hq : 2 ^ k ≤ 2 ^ 62 := Nat.pow_le_pow_right (by omega) (by omega)
    have hs : 2 ^ (k + 1) = 2 * 2 ^ k := by rw [Nat.pow_succ, Nat.mul_comm]
    have HS := Lib.hid hs
    clear hs
    by_cases hlt : k < c
    · generalize 2 ^ k = q at *
      have hq' : q ≤ 4611686018427387904 := hq
      clear hq
      go_wp2
      go_round
      case rel => exact ⟨k + 1, by omega, by go_num, by rw [HS.out]; go_num⟩
      case measure => simp [intOf]; omega
    · obtain rfl : k = c := by omega
      have HR : Hid (((2 ^ k : Nat) : Int) = (v : Int)) := (show _ = _ by rw [HV.out])
      generalize 2 ^ k = q at *
      clear hq
      go_wp2
      go_ret
      exact ⟨rt_i HR.out, rfl⟩

set_option maxRecDepth 100000 in
set_option maxHeartbeats 1000000 in
theorem rfree_any (A : Option Addr) (c B : Nat) (bs : List UInt8) (hr : Rd w B A bs.length bs) (hlc : bs.length ≤ c) (hl : bs.length ≤ 1000000) (o : Int) (ho : -9223372036854775808 ≤ o ∧ o ≤ 9223372036854775807) (k : Int) (hk : freeI bs o = k) :
    Calls Try.prog 80 #[.slice A bs.length c, .int .i64 o] w fun e w' => e = .returned (.int .i64 k) ∧ Below w.heap.size w w' := by
  cases hg : getB bs o with
  | none =>
    have hG := rgetB_any w A c B bs hr hlc hl o ho _ hg
    dsimp only [bkV, Option.isSome] at hG
    obtain rfl : -1 = k := by rw [← hk]; unfold freeI; rw [hg]
    have HG := Lib.hid hG
    clear hG hr hk hg
    go_enter Try.func80, Try.ntmps80
    go_wp2_with fail
    with_reducible refine HG.out.mono ?_
    rintro e w1 ⟨rfl, hb⟩
    go_wp2
    go_ret
    exact ⟨rfl, hb.alloc hb.size _⟩
  | some x =>
    obtain ⟨xo, xs, xu⟩ := x
    have hG := rgetB_any w A c B bs hr hlc hl o ho _ hg
    dsimp only [bkV, Bk.val, Option.isSome] at hG
    have q := (isSz_iff _).1 (getB_some hg).2.2.2.2.1
    dsimp only at q
    cases xu with
    | true =>
      obtain rfl : -1 = k := by rw [← hk]; unfold freeI; rw [hg]; rfl
      have HG := Lib.hid hG
      clear hG hr hk hg
      go_enter Try.func80, Try.ntmps80
      go_wp2_with fail
      with_reducible refine HG.out.mono ?_
      rintro e w1 ⟨rfl, hb⟩
      go_wp2
      go_ret
      exact ⟨rfl, hb.alloc hb.size _⟩
    | false =>
      have hk' : classI (xs : Int) = k := by rw [← hk]; unfold freeI; rw [hg]; rfl
      have HC := Lib.hid (fun w => rclass_any w (xs : Int) (by omega) k hk')
      have HG := Lib.hid hG
      clear hG hr hk hg hk'
      go_enter Try.func80, Try.ntmps80
      go_wp2_with fail
      with_reducible refine HG.out.mono ?_
      rintro e w1 ⟨rfl, hb⟩
      go_wp2_with fail
      with_reducible refine (HC.out _).mono ?_
      rintro e w2 ⟨rfl, rfl⟩
      go_wp2
      go_ret
      exact ⟨rfl, hb.alloc hb.size _⟩

set_option maxRecDepth 100000 in
set_option maxHeartbeats 1000000 in
theorem rmember_any (A : Option Addr) (c B : Nat) (bs : List UInt8) (hr : Rd w B A bs.length bs) (hlc : bs.length ≤ c) (hl : bs.length ≤ 1000000) (p : Nat) (hp : p < 18446744073709551616) (k : Int) (b : Bool) (hb : memberB bs p k = b) :
    Calls Try.prog 82 #[.slice A bs.length c, .int .u64 (p : Int), .int .i64 k] w fun e w' => e = .returned (.bool b) ∧ Below w.heap.size w w' := by
  by_cases h0 : 20000 < p
  · obtain rfl : false = b := by rw [← hb]; unfold memberB; rw [decide_eq_false (by omega)]; rfl
    clear hr hb
    go_enter Try.func82, Try.ntmps82
    go_wp2
    go_ret
    exact ⟨rfl, Below.refl _ _⟩
  · have hb' : (match getB bs (p : Int) with
      | some x => !x.used && classI x.size == k
      | none => false) = b := by rw [← hb]; unfold memberB; rw [decide_eq_true (by omega), Bool.true_and]; cases getB bs (p : Int) <;> rfl
    cases hg : getB bs (p : Int) with
    | none =>
      have hG := rgetB_any w A c B bs hr hlc hl (p : Int) (by omega) _ hg
      dsimp only [bkV, Option.isSome] at hG
      rw [hg] at hb'
      obtain rfl : false = b := hb'
      have HG := Lib.hid hG
      clear hG hr hb hg
      go_enter Try.func82, Try.ntmps82
      go_wp2_with fail
      with_reducible refine HG.out.mono ?_
      rintro e w1 ⟨rfl, hb⟩
      go_wp2
      go_ret
      exact ⟨rfl, hb.alloc hb.size _⟩
    | some x =>
      obtain ⟨xo, xs, xu⟩ := x
      have hG := rgetB_any w A c B bs hr hlc hl (p : Int) (by omega) _ hg
      dsimp only [bkV, Bk.val, Option.isSome] at hG
      have q := (isSz_iff _).1 (getB_some hg).2.2.2.2.1
      dsimp only at q
      rw [hg] at hb'
      cases xu with
      | true =>
        obtain rfl : false = b := hb'
        have HG := Lib.hid hG
        clear hG hr hb hg
        go_enter Try.func82, Try.ntmps82
        go_wp2_with fail
        with_reducible refine HG.out.mono ?_
        rintro e w1 ⟨rfl, hb⟩
        go_wp2
        go_ret
        exact ⟨rfl, hb.alloc hb.size _⟩
      | false =>
        obtain ⟨d, hd⟩ : ∃ d, classI (xs : Int) = d := ⟨_, rfl⟩
        have hb2 : (d == k) = b := by rw [← hd]; simpa using hb'
        have HC := Lib.hid (fun w => rclass_any w (xs : Int) (by omega) d hd)
        have HG := Lib.hid hG
        have HBB := Lib.hid hb2
        clear hG hr hb hb' hg hd hb2
        go_enter Try.func82, Try.ntmps82
        go_wp2_with fail
        with_reducible refine HG.out.mono ?_
        rintro e w1 ⟨rfl, hb⟩
        go_wp2_with fail
        with_reducible refine (HC.out _).mono ?_
        rintro e w2 ⟨rfl, rfl⟩
        go_wp2
        go_ret
        exact ⟨rt_b HBB.out, hb.alloc hb.size _⟩
end
end Go.Proofs.Ytbemaoncakcnjaa

/- The contracts of the document's own lists: mark, Put. -/
namespace Go.Proofs.Ytbemaoncakcnjaa
open Go.RowKit

/-- A slice that is nil with nothing behind it, or lies in a block of S. -/
def KO (S : Nat → Prop) (A : Option Addr) (c : Nat) : Prop := (A = none → c = 0) ∧ ∀ a, A = some a → S a.block
/-- A slice of bytes that reads so. -/
def SlR (out : List UInt8) (w : World) (e : Ending) (w' : World) : Prop :=
  ∃ A' c', e = .returned (.slice A' out.length c') ∧ Rd w' w'.heap.size A' out.length out ∧ out.length ≤ c' ∧ (A' = none → c' = 0) ∧ Below w.heap.size w w'

section
variable (w : World)
theorem rlay_sl (S : Nat → Prop) (hS : ∀ k, w.heap.size ≤ k → S k) (A : Option Addr) (c B : Nat) (bs : List UInt8) (n : Nat) (hn : bs.length = n) (hr : Rd w B A n bs) (hB : B ≤ w.heap.size) (hA0 : KO S A c) (hl : n ≤ 100000) (o : Int) (v : Nat) (hv : v < 18446744073709551616) (p : Nat) (hp : o = (p : Int)) (ho : p + 8 ≤ n) :
    Calls Try.prog 56 #[.slice A n c, .int .i64 o, .int .u64 (v : Int)] w fun e w' => ∃ A' c', e = .returned (.slice A' n c') ∧ Rd w' w'.heap.size A' n (lyN bs p v) ∧ n ≤ c' ∧ KO S A' c' ∧ Below w.heap.size w w' := by
  subst hn hp
  refine (rlay_any w A c B bs hr hB hA0.1 hl p v hv ho).mono ?_
  rintro e w' ⟨A', c', rfl, hown, hb⟩
  rw [layN_eq, lyN_length _ _ _ ho] at hown ⊢
  obtain ⟨h1, h2, h3⟩ := own_facts hown
  exact ⟨A', c', rfl, h1, h2, ⟨h3, fun a e => hS _ (hown.lt a.block (by rw [e]; rfl)).1⟩, hb⟩

set_option maxRecDepth 100000 in
set_option maxHeartbeats 1000000 in
theorem rmark_any (S : Nat → Prop) (hS : ∀ k, w.heap.size ≤ k → S k) (A : Option Addr) (ca : Nat) (bs : List UInt8) (n : Nat) (hn : bs.length = n) (hr : Rd w w.heap.size A n bs) (hlc : n ≤ ca) (hA0 : KO S A ca) (hl : n ≤ 100000) (hl2 : 184 ≤ n) (c : Nat) (hc : c < 22) :
    Calls Try.prog 83 #[.slice A n ca, .int .i64 (c : Int)] w fun e w' => ∃ A' c', e = .returned (.slice A' n c') ∧ Rd w' w'.heap.size A' n (markB bs c) ∧ n ≤ c' ∧ KO S A' c' ∧ Below w.heap.size w w' := by
  subst hn
  obtain ⟨v, hv⟩ : ∃ v, wordN bs 0 = v := ⟨_, rfl⟩
  obtain ⟨f, hf⟩ : ∃ f, wordN bs (8 + 8 * c) = f := ⟨_, rfl⟩
  obtain ⟨b, hb⟩ : ∃ b, bitN v c = b := ⟨_, rfl⟩
  have hvl : v < 18446744073709551616 := by rw [← hv]; exact wordN_lt _ _
  have hfl : f < 18446744073709551616 := by rw [← hf]; exact wordN_lt _ _
  have n0 := rnum_any w A ca w.heap.size bs hr hlc (by omega) 0 (by omega) v (by rw [← hv]; exact numO_at bs 0 (by omega))
  have n1 := rnum_any w A ca w.heap.size bs hr hlc (by omega) (8 + 8 * (c : Int)) (by omega) f (by rw [← hf, ← numO_at bs (8 + 8 * c) (by omega)]; rfl)
  have bt := rbit_any w v c hvl (by omega) b hb
  have HN0 := Lib.hid n0
  have HN1 := Lib.hid n1
  have HBT := Lib.hid bt
  have HO := Lib.hid (rone_any w c (by omega) (2 ^ c) rfl)
  have hmk : markB bs c = if b = true ∧ f = 0 then lyN bs 0 (v - 2 ^ c) else if b = false ∧ f ≠ 0 then lyN bs 0 (v + 2 ^ c) else bs := by
    unfold markB
    rw [hv, hf, hb]
  have hle : b = true → 2 ^ c ≤ v := fun e => bitN_ge v c (by rw [hb, e])
  have hlt : b = false → v + 2 ^ c < 18446744073709551616 := fun e => bitN_lt v c (by omega) hvl (by rw [hb, e])
  obtain ⟨P, hP⟩ : ∃ P, 2 ^ c = P := ⟨_, rfl⟩
  have hPl : P ≤ 4194304 := by rw [← hP]; exact (Nat.pow_le_pow_right (by omega) (by omega) : 2 ^ c ≤ 2 ^ 22)
  rw [hP] at HO hmk hle hlt
  have HM := Lib.hid hmk
  have HR := Lib.hid hr
  have HA0 := Lib.hid hA0
  clear n0 n1 bt hv hf hb hmk hr hA0 hP
  by_cases f0 : f = 0
  · subst f0
    cases b with
    | true =>
      have hle := hle rfl
      have HL := rlay_sl w S hS A ca w.heap.size bs bs.length rfl HR.out (Nat.le_refl _) HA0.out hl 0 (v - P) (by omega) 0 rfl (by omega)
      rw [show ((v - P : Nat) : Int) = (v : Int) - (P : Int) by omega] at HL
      have HL := Lib.hid HL
      have e : markB bs c = lyN bs 0 (v - P) := by rw [HM.out]; rfl
      have HE := Lib.hid e
      clear e HM
      go_enter Try.func83, Try.ntmps83
      go_wp2_with fail
      with_reducible refine HN0.out.mono ?_
      rintro e w1 ⟨rfl, rfl⟩
      go_wp2_with fail
      with_reducible refine HBT.out.mono ?_
      rintro e w1 ⟨rfl, rfl⟩
      go_wp2_with fail
      with_reducible refine HN1.out.mono ?_
      rintro e w1 ⟨rfl, rfl⟩
      go_wp2_with fail
      with_reducible refine HO.out.mono ?_
      rintro e w1 ⟨rfl, rfl⟩
      go_wp2_with fail
      refine HL.out.mono ?_
      rintro e w1 ⟨A', c', rfl, h1, h2, h3, h4⟩
      have H1 := Lib.hid h1
      have H4 := Lib.hid h4
      clear h1 h4
      go_wp2
      go_ret
      exact ⟨A', c', rfl, by rw [HE.out]; exact H1.out, h2, h3, H4.out⟩
    | false =>
      have e : markB bs c = bs := by rw [HM.out]; rfl
      have HE := Lib.hid e
      clear e HM
      go_enter Try.func83, Try.ntmps83
      go_wp2_with fail
      with_reducible refine HN0.out.mono ?_
      rintro e w1 ⟨rfl, rfl⟩
      go_wp2_with fail
      with_reducible refine HBT.out.mono ?_
      rintro e w1 ⟨rfl, rfl⟩
      go_wp2_with fail
      with_reducible refine HN1.out.mono ?_
      rintro e w1 ⟨rfl, rfl⟩
      go_wp2
      go_ret
      exact ⟨A, ca, rfl, by rw [HE.out]; exact HR.out, hlc, HA0.out, Below.refl _ _⟩
  · have hq : ((f : Int) != 0) = true := by rw [bne_iff_ne]; omega
    cases b with
    | true =>
      have e : markB bs c = bs := by rw [HM.out, if_neg (fun h => f0 h.2), if_neg (fun h => by cases h.1)]
      have HE := Lib.hid e
      clear e HM f0
      go_enter Try.func83, Try.ntmps83
      go_wp2_with fail
      with_reducible refine HN0.out.mono ?_
      rintro e w1 ⟨rfl, rfl⟩
      go_wp2_with fail
      with_reducible refine HBT.out.mono ?_
      rintro e w1 ⟨rfl, rfl⟩
      go_wp2_with fail
      with_reducible refine HN1.out.mono ?_
      rintro e w1 ⟨rfl, rfl⟩
      go_wp2
      go_ret
      exact ⟨A, ca, rfl, by rw [HE.out]; exact HR.out, hlc, HA0.out, Below.refl _ _⟩
    | false =>
      have hlt := hlt rfl
      have HL := rlay_sl w S hS A ca w.heap.size bs bs.length rfl HR.out (Nat.le_refl _) HA0.out hl 0 (v + P) (by omega) 0 rfl (by omega)
      rw [Int.natCast_add] at HL
      have HL := Lib.hid HL
      have e : markB bs c = lyN bs 0 (v + P) := by rw [HM.out, if_neg (fun h => by cases h.1), if_pos ⟨rfl, f0⟩]
      have HE := Lib.hid e
      clear e HM f0
      go_enter Try.func83, Try.ntmps83
      go_wp2_with fail
      with_reducible refine HN0.out.mono ?_
      rintro e w1 ⟨rfl, rfl⟩
      go_wp2_with fail
      with_reducible refine HBT.out.mono ?_
      rintro e w1 ⟨rfl, rfl⟩
      go_wp2_with fail
      with_reducible refine HN1.out.mono ?_
      rintro e w1 ⟨rfl, rfl⟩
      go_wp2_with fail
      with_reducible refine HO.out.mono ?_
      rintro e w1 ⟨rfl, rfl⟩
      go_wp2_with fail
      refine HL.out.mono ?_
      rintro e w1 ⟨A', c', rfl, h1, h2, h3, h4⟩
      have H1 := Lib.hid h1
      have H4 := Lib.hid h4
      clear h1 h4
      go_wp2
      go_ret
      exact ⟨A', c', rfl, by rw [HE.out]; exact H1.out, h2, h3, H4.out⟩
end
end Go.Proofs.Ytbemaoncakcnjaa
