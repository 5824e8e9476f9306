/- Lists of free blocks in bytes: plain definitions; what Put, Take, All come to where the lists are right. No program in sight. -/
import Derived.Test.YtelkileeekfknaaWordM
namespace Go.Proofs.Ytelkileeekfknaa

/-- The number at an offset; 0, if there is none. -/
def numO (bs : List UInt8) (o : Int) : Nat := (word? bs o).getD 0
/-- The class of the free block at o; -1: there is none. -/
def freeI (bs : List UInt8) (o : Int) : Int := match getB bs o with
  | some x => if x.used = true then -1 else classI x.size
  | none => -1
/-- Does a free block of a class stand there? -/
def memberB (bs : List UInt8) (p : Nat) (c : Int) : Bool := decide (p ≤ 20000) && (match getB bs (p : Int) with
  | some x => !x.used && classI x.size == c
  | none => false)
/-- A class's bit, as its first one tells. -/
def markB (bs : List UInt8) (c : Nat) : List UInt8 :=
  if bitN (wordN bs 0) c = true ∧ wordN bs (8 + 8 * c) = 0 then lyN bs 0 (wordN bs 0 - 2 ^ c)
  else if bitN (wordN bs 0) c = false ∧ wordN bs (8 + 8 * c) ≠ 0 then lyN bs 0 (wordN bs 0 + 2 ^ c) else bs
/-- What comes of putting the block at o. -/
def putB (bs : List UInt8) (o : Int) : Option (List UInt8) :=
  if freeI bs o < 0 then none else
  let c := (freeI bs o).toNat
  let f := wordN bs (8 + 8 * c)
  if (f : Int) = o ∨ (f ≠ 0 ∧ memberB bs f (c : Int) = false) then none else
  let b1 := lyN (lyN bs (o.toNat + 8) f) (o.toNat + 16) 0
  let b2 := if f ≠ 0 then lyN b1 (f + 16) o.toNat else b1
  some (markB (lyN b2 (8 + 8 * c) o.toNat) c)
/-- What comes of taking the block at o. -/
def takeB (bs : List UInt8) (o : Int) : Option (List UInt8) :=
  if freeI bs o < 0 then none else
  let c := (freeI bs o).toNat
  let n := wordN bs (o.toNat + 8)
  let p := wordN bs (o.toNat + 16)
  if p = 0 ∧ (wordN bs (8 + 8 * c) : Int) ≠ o then none
  else if p ≠ 0 ∧ (memberB bs p (c : Int) = false ∨ (wordN bs (p + 8) : Int) ≠ o) then none
  else if n ≠ 0 ∧ (memberB bs n (c : Int) = false ∨ (wordN bs (n + 16) : Int) ≠ o) then none
  else
    let b1 := if p = 0 then lyN bs (8 + 8 * c) n else lyN bs (p + 8) n
    let b2 := if n ≠ 0 then lyN b1 (n + 16) p else b1
    some (markB b2 c)
/-- All of a class, from one on. -/
def allF (bs : List UInt8) (c : Nat) : Nat → Nat → Nat → Option (List Nat)
  | k, last, p => if p = 0 then some [] else match k with
    | 0 => none
    | k + 1 => if memberB bs p (c : Int) = true ∧ wordN bs (p + 16) = last then (allF bs c k p (wordN bs (p + 8))).map (p :: ·) else none
def allB (bs : List UInt8) (c : Nat) : Option (List Nat) :=
  if bs.length < 184 then none
  else if bitN (wordN bs 0) c ≠ decide (wordN bs (8 + 8 * c) ≠ 0) then none
  else allF bs c 1024 0 (wordN bs (8 + 8 * c))

/-- Blocks that stand, apart from each other. -/
structure Stands (bs : List UInt8) (P : List Bk) : Prop where
  at_ : ∀ x ∈ P, getB bs (x.off : Int) = some x
  apart : ∀ x ∈ P, ∀ y ∈ P, x = y ∨ x.off + x.size ≤ y.off ∨ y.off + y.size ≤ x.off
/-- The numbers of a list's blocks, one behind the other: p is ahead of it, n behind. -/
def link (bs : List UInt8) : Nat → List Nat → Nat → Prop
  | _, [], _ => True
  | p, o :: r, n => wordN bs (o + 16) = p ∧ wordN bs (o + 8) = r.headD n ∧ link bs o r n
/-- The lists of all classes, of blocks out of P. -/
structure Lists (bs : List UInt8) (P : List Bk) (L : Nat → List Nat) : Prop where
  len : 184 ≤ bs.length
  small : bs.length ≤ 16384
  st : Stands bs P
  head : ∀ c, c < 22 → wordN bs (8 + 8 * c) = (L c).headD 0
  bit : ∀ c, c < 22 → bitN (wordN bs 0) c = !(L c).isEmpty
  mem : ∀ c, c < 22 → ∀ o ∈ L c, ∃ x ∈ P, x.off = o ∧ x.used = false ∧ classI x.size = (c : Int)
  links : ∀ c, c < 22 → link bs 0 (L c) 0
  nodup : ∀ c, c < 22 → (L c).Nodup

theorem link_append (bs : List UInt8) (l1 l2 : List Nat) (p n : Nat) : link bs p (l1 ++ l2) n ↔ link bs p l1 (l2.headD n) ∧ link bs (l1.getLastD p) l2 n := by
  induction l1 generalizing p with
  | nil => simp [link]
  | cons o r ih =>
    have e : (r ++ l2).headD n = r.headD (l2.headD n) := by cases r <;> rfl
    have e2 : (o :: r).getLastD p = r.getLastD o := by cases r <;> rfl
    simp only [List.cons_append, link, e, e2, ih]
    constructor
    · rintro ⟨a, b, c, d⟩; exact ⟨⟨a, b, c⟩, d⟩
    · rintro ⟨⟨a, b, c⟩, d⟩; exact ⟨a, b, c, d⟩
theorem link_congr {bs bs' : List UInt8} : ∀ (l : List Nat) (p n : Nat), (∀ o ∈ l, wordN bs' (o + 16) = wordN bs (o + 16) ∧ wordN bs' (o + 8) = wordN bs (o + 8)) → link bs p l n → link bs' p l n
  | [], _, _, _, _ => trivial
  | o :: r, p, n, h, hl => by
    obtain ⟨h1, h2⟩ := h o (by simp)
    obtain ⟨a, b, c⟩ := hl
    exact ⟨h1.trans a, h2.trans b, link_congr r o n (fun q hq => h q (by simp [hq])) c⟩

section
variable {bs : List UInt8} {P : List Bk} {L : Nat → List Nat}
theorem Stands.facts (h : Stands bs P) {x : Bk} (hx : x ∈ P) : 184 ≤ x.off ∧ x.off % 16 = 8 ∧ x.off + x.size ≤ bs.length ∧ 32 ≤ x.size ∧ x.size % 16 = 0 ∧ isSz (x.size : Int) = true := by
  obtain ⟨_, g1, g2, g3, g4, _⟩ := getB_some (h.at_ x hx)
  have := (isSz_iff _).1 g4
  exact ⟨g1, g2, g3, by omega, by omega, g4⟩
theorem Stands.uniq (h : Stands bs P) {x y : Bk} (hx : x ∈ P) (hy : y ∈ P) (e : x.off = y.off) : x = y := by
  have h1 := h.at_ x hx
  rw [e, h.at_ y hy] at h1
  injection h1 with h1
  exact h1.symm
/-- A number laid into the head, or between a block's tags, moves no block. -/
theorem Stands.lay (h : Stands bs P) (q v : Nat) (hq : q + 8 ≤ 184 ∨ ∃ y ∈ P, y.off + 8 ≤ q ∧ q + 8 ≤ y.off + y.size - 8) (hl : 184 ≤ bs.length) : Stands (lyN bs q v) P := by
  have hqb : q + 8 ≤ bs.length := by
    rcases hq with hq | ⟨y, hy, h1, h2⟩
    · omega
    · have := h.facts hy; omega
  refine ⟨fun x hx => ?_, h.apart⟩
  have hf := h.facts hx
  refine getB_congr bs _ x (lyN_length _ _ _ hqb) (h.at_ x hx) (wordN_other _ _ _ _ hqb ?_) (wordN_other _ _ _ _ hqb ?_)
  · rcases hq with hq | ⟨y, hy, h1, h2⟩
    · omega
    · have hy' := h.facts hy
      rcases h.apart x hx y hy with rfl | h3 | h3
      · omega
      · omega
      · omega
  · rcases hq with hq | ⟨y, hy, h1, h2⟩
    · omega
    · have hy' := h.facts hy
      rcases h.apart x hx y hy with rfl | h3 | h3
      · omega
      · omega
      · omega
theorem Lists.member (h : Lists bs P L) {c o : Nat} (hc : c < 22) (ho : o ∈ L c) : memberB bs o (c : Int) = true ∧ ∃ x ∈ P, x.off = o ∧ x.used = false ∧ classI x.size = (c : Int) := by
  obtain ⟨x, hx, rfl, hu, hcl⟩ := h.mem c hc o ho
  have hf := h.st.facts hx
  have hs := h.small
  refine ⟨?_, x, hx, rfl, hu, hcl⟩
  unfold memberB
  rw [h.st.at_ x hx]
  simp [hu, hcl]
  omega
theorem allF_link (h : Lists bs P L) {c : Nat} (hc : c < 22) : ∀ (l : List Nat) (k p : Nat), (∀ o ∈ l, o ∈ L c) → l.length ≤ k → link bs p l 0 → allF bs c k p (l.headD 0) = some l
  | [], k, _, _, _, _ => by cases k <;> simp [allF]
  | o :: r, 0, _, _, hk, _ => by simp at hk
  | o :: r, k + 1, p, hm, hk, hl => by
    obtain ⟨l1, l2, l3⟩ := hl
    obtain ⟨m1, x, hx, rfl, _⟩ := h.member hc (hm o (by simp))
    have hf := h.st.facts hx
    have ih := allF_link h hc r k x.off (fun q hq => hm q (by simp [hq])) (by simpa using hk) l3
    show allF bs c (k + 1) p x.off = _
    unfold allF
    rw [if_neg (by omega)]
    dsimp only
    rw [if_pos ⟨m1, l1⟩, l2, ih]
    rfl
/-- All of a class are its list. -/
theorem Lists.all (h : Lists bs P L) {c : Nat} (hc : c < 22) (hl : (L c).length ≤ 1024) : allB bs c = some (L c) := by
  have hlen := h.len
  unfold allB
  rw [if_neg (by omega), h.head c hc, h.bit c hc]
  have e : (!(L c).isEmpty) = decide ((L c).headD 0 ≠ 0) := by
    cases hL : L c with
    | nil => rfl
    | cons o r =>
      obtain ⟨_, x, hx, e, _⟩ := h.member hc (o := o) (by rw [hL]; simp)
      have hf := h.st.facts hx
      have : o ≠ 0 := by omega
      simp [this]
  rw [if_neg (by rw [e]; simp)]
  exact allF_link h hc (L c) 1024 0 (fun _ h => h) hl (h.links c hc)
end

theorem wordN_ly (bs : List UInt8) (q v p : Nat) (h : q + 8 ≤ bs.length) (hv : v < 18446744073709551616) (hp : p % 8 = 0) (hq : q % 8 = 0) : wordN (lyN bs q v) p = if p = q then v else wordN bs p := by
  by_cases e : p = q
  · rw [if_pos e, e]; exact wordN_same bs q v h hv
  · rw [if_neg e]; exact wordN_other bs q v p h (by omega)
/-- What markB comes to. -/
theorem markB_spec (bs : List UInt8) (c : Nat) (hc : c < 22) (hl : 184 ≤ bs.length) :
    (markB bs c).length = bs.length ∧ (∀ p, p % 8 = 0 → p ≠ 0 → wordN (markB bs c) p = wordN bs p) ∧ (∀ d, bitN (wordN (markB bs c) 0) d = if d = c then decide (wordN bs (8 + 8 * c) ≠ 0) else bitN (wordN bs 0) d) ∧
    (∀ P, Stands bs P → Stands (markB bs c) P) ∧ ∀ i, 8 ≤ i → (markB bs c)[i]? = bs[i]? := by
  have hw := wordN_lt bs 0
  unfold markB
  by_cases h1 : bitN (wordN bs 0) c = true ∧ wordN bs (8 + 8 * c) = 0
  · rw [if_pos h1]
    have hv : wordN bs 0 - 2 ^ c < 18446744073709551616 := Nat.lt_of_le_of_lt (Nat.sub_le _ _) hw
    refine ⟨lyN_length _ _ _ (by omega), fun p hp h0 => ?_, fun d => ?_, fun P hP => hP.lay 0 _ (.inl (by omega)) hl, fun i hi => lyN_get _ _ _ _ (by omega) (by omega)⟩
    · rw [wordN_ly _ _ _ _ (by omega) hv hp rfl, if_neg h0]
    · rw [wordN_same _ _ _ (by omega) hv, bitN_sub _ _ h1.1, h1.2]
      simp
  · rw [if_neg h1]
    by_cases h2 : bitN (wordN bs 0) c = false ∧ wordN bs (8 + 8 * c) ≠ 0
    · rw [if_pos h2]
      have hv := bitN_lt (wordN bs 0) c (by omega) hw h2.1
      refine ⟨lyN_length _ _ _ (by omega), fun p hp h0 => ?_, fun d => ?_, fun P hP => hP.lay 0 _ (.inl (by omega)) hl, fun i hi => lyN_get _ _ _ _ (by omega) (by omega)⟩
      · rw [wordN_ly _ _ _ _ (by omega) hv hp rfl, if_neg h0]
      · rw [wordN_same _ _ _ (by omega) hv, bitN_add _ _ h2.1]
        simp [h2.2]
    · rw [if_neg h2]
      refine ⟨rfl, fun _ _ _ => rfl, fun d => ?_, fun P hP => hP, fun _ _ => rfl⟩
      by_cases hd : d = c
      · rw [if_pos hd, hd]
        cases hb : bitN (wordN bs 0) c with
        | true =>
          have : wordN bs (8 + 8 * c) ≠ 0 := fun e => h1 ⟨hb, e⟩
          simp [this]
        | false =>
          have : wordN bs (8 + 8 * c) = 0 := by
            rcases Nat.eq_zero_or_pos (wordN bs (8 + 8 * c)) with e | e
            · exact e
            · exact absurd ⟨hb, by omega⟩ h2
          simp [this]
      · rw [if_neg hd]
/-- All that isn't the head, nor a free block's numbers. -/
def Kept (P : List Bk) (bs bs' : List UInt8) : Prop := ∀ i, 184 ≤ i → (∀ y ∈ P, y.used = false → i < y.off + 8 ∨ y.off + 24 ≤ i) → bs'[i]? = bs[i]?
theorem Kept.refl (P : List Bk) (bs : List UInt8) : Kept P bs bs := fun _ _ _ => rfl
theorem Kept.trans {P : List Bk} {b1 b2 b3 : List UInt8} (h : Kept P b1 b2) (k : Kept P b2 b3) : Kept P b1 b3 := fun i h1 h2 => (k i h1 h2).trans (h i h1 h2)
theorem Kept.ly (P : List Bk) (bs : List UInt8) (q v : Nat) (h : q + 8 ≤ bs.length) (hq : q + 8 ≤ 184 ∨ ∃ y ∈ P, y.used = false ∧ (q = y.off + 8 ∨ q = y.off + 16)) : Kept P bs (lyN bs q v) := fun i h1 h2 => by
  refine lyN_get _ _ _ _ h ?_
  rcases hq with hq | ⟨y, hy, hu, hq⟩
  · omega
  · have := h2 y hy hu
    omega
/-- The lists with one of them another. -/
def setL (L : Nat → List Nat) (c : Nat) (l : List Nat) (d : Nat) : List Nat := if d = c then l else L d

section
variable {bs : List UInt8} {P : List Bk} {L : Nat → List Nat}
theorem class_nat {x : Bk} (hs : isSz (x.size : Int) = true) : ∃ c : Nat, classI (x.size : Int) = (c : Int) ∧ c < 22 := by
  have h1 := classI_bounds (x.size : Int)
  have h2 : ¬ classI (x.size : Int) < 0 := by rw [classI_neg]; simp [hs]
  exact ⟨(classI (x.size : Int)).toNat, by omega, by omega⟩
theorem Lists.off8 (h : Lists bs P L) {x : Bk} (hx : x ∈ P) : (x.off + 8) % 8 = 0 ∧ (x.off + 16) % 8 = 0 := by
  have := h.st.facts hx; omega
theorem Lists.put (h : Lists bs P L) {x : Bk} (hx : x ∈ P) (hu : x.used = false) {c : Nat} (hc : classI (x.size : Int) = (c : Int)) (hc22 : c < 22) (hn : x.off ∉ L c) :
    ∃ bs', putB bs (x.off : Int) = some bs' ∧ Lists bs' P (setL L c (x.off :: L c)) ∧ bs'.length = bs.length ∧ Kept P bs bs' := by
  have hf := h.st.facts hx
  have hlen := h.len
  have hsm := h.small
  have hfr : freeI bs (x.off : Int) = (c : Int) := by unfold freeI; rw [h.st.at_ x hx]; simp [hu, hc]
  have hhead := h.head c hc22
  obtain ⟨f, hfe⟩ : ∃ f, wordN bs (8 + 8 * c) = f := ⟨_, rfl⟩
  have hflt : f < 18446744073709551616 := by rw [← hfe]; exact wordN_lt _ _
  rw [hfe] at hhead
  -- what the first one is
  have hcase : (L c = [] ∧ f = 0) ∨ ∃ y ∈ P, ∃ r, L c = f :: r ∧ y.off = f ∧ y.used = false ∧ memberB bs f (c : Int) = true := by
    cases hL : L c with
    | nil => left; rw [hL] at hhead; exact ⟨rfl, hhead⟩
    | cons o r =>
      right
      rw [hL] at hhead
      obtain rfl : f = o := hhead
      obtain ⟨m1, y, hy, e, yu, _⟩ := h.member hc22 (o := f) (by rw [hL]; simp)
      exact ⟨y, hy, r, rfl, e, yu, m1⟩
  have hput : putB bs (x.off : Int) = some (markB (lyN (if f ≠ 0 then lyN (lyN (lyN bs (x.off + 8) f) (x.off + 16) 0) (f + 16) x.off else lyN (lyN bs (x.off + 8) f) (x.off + 16) 0) (8 + 8 * c) x.off) c) := by
    unfold putB
    rw [hfr, if_neg (by omega)]
    simp only [Int.toNat_natCast, hfe]
    rw [if_neg]
    rintro (e | ⟨e1, e2⟩)
    · rcases hcase with ⟨_, e0⟩ | ⟨y, hy, r, hL, _⟩
      · omega
      · exact hn (by rw [hL, show x.off = f by omega]; simp)
    · rcases hcase with ⟨_, e0⟩ | ⟨y, hy, r, hL, _, _, m⟩
      · exact e1 e0
      · rw [m] at e2; cases e2
  obtain ⟨b1, hb1⟩ : ∃ b1, lyN (lyN bs (x.off + 8) f) (x.off + 16) 0 = b1 := ⟨_, rfl⟩
  have l0 : (lyN bs (x.off + 8) f).length = bs.length := lyN_length _ _ _ (by omega)
  have l1 : b1.length = bs.length := by rw [← hb1, lyN_length _ _ _ (by omega)]; exact l0
  have st1 : Stands b1 P := by
    rw [← hb1]
    exact (h.st.lay (x.off + 8) f (.inr ⟨x, hx, by omega, by omega⟩) hlen).lay _ _ (.inr ⟨x, hx, by omega, by omega⟩) (by omega)
  have w1 : ∀ p, p % 8 = 0 → wordN b1 p = if p = x.off + 16 then 0 else if p = x.off + 8 then f else wordN bs p := fun p hp => by
    rw [← hb1, wordN_ly _ _ _ _ (by omega) (by omega) hp (by omega), wordN_ly _ _ _ _ (by omega) hflt hp (by omega)]
  have k1 : Kept P bs b1 := by
    rw [← hb1]
    exact (Kept.ly P bs _ _ (by omega) (.inr ⟨x, hx, hu, .inl rfl⟩)).trans (Kept.ly P _ _ _ (by omega) (.inr ⟨x, hx, hu, .inr rfl⟩))
  rw [hb1] at hput
  obtain ⟨b2, hb2⟩ : ∃ b2, (if f ≠ 0 then lyN b1 (f + 16) x.off else b1) = b2 := ⟨_, rfl⟩
  have hb2f : b2.length = bs.length ∧ Stands b2 P ∧ (∀ p, p % 8 = 0 → wordN b2 p = if f ≠ 0 ∧ p = f + 16 then x.off else wordN b1 p) ∧ Kept P b1 b2 := by
    rcases hcase with ⟨_, e0⟩ | ⟨y, hy, r, hL, hyf, hyu, _⟩
    · rw [if_neg (by omega)] at hb2
      subst hb2
      exact ⟨l1, st1, fun p _ => by rw [if_neg (by omega)], Kept.refl _ _⟩
    · have hy' := h.st.facts hy
      rw [if_pos (by omega)] at hb2
      subst hb2
      refine ⟨by rw [lyN_length _ _ _ (by omega)]; exact l1, st1.lay _ _ (.inr ⟨y, hy, by omega, by omega⟩) (by omega), fun p hp => ?_, Kept.ly P _ _ _ (by omega) (.inr ⟨y, hy, hyu, .inr (by omega)⟩)⟩
      rw [wordN_ly _ _ _ _ (by omega) (by omega) hp (by omega)]
      by_cases e : p = f + 16
      · rw [if_pos e, if_pos ⟨by omega, e⟩]
      · rw [if_neg e, if_neg (fun h => e h.2)]
  obtain ⟨l2, st2, w2, k2⟩ := hb2f
  rw [hb2] at hput
  obtain ⟨b3, hb3⟩ : ∃ b3, lyN b2 (8 + 8 * c) x.off = b3 := ⟨_, rfl⟩
  have l3 : b3.length = bs.length := by rw [← hb3, lyN_length _ _ _ (by omega)]; exact l2
  have st3 : Stands b3 P := by rw [← hb3]; exact st2.lay _ _ (.inl (by omega)) (by omega)
  have w3 : ∀ p, p % 8 = 0 → wordN b3 p = if p = 8 + 8 * c then x.off else wordN b2 p := fun p hp => by
    rw [← hb3, wordN_ly _ _ _ _ (by omega) (by omega) hp (by omega)]
  have k3 : Kept P b2 b3 := by rw [← hb3]; exact Kept.ly P _ _ _ (by omega) (.inl (by omega))
  rw [hb3] at hput
  obtain ⟨m1, m2, m3, m4, m5⟩ := markB_spec b3 c hc22 (by omega)
  refine ⟨_, hput, ⟨by omega, by omega, m4 P st3, fun d hd => ?_, fun d hd => ?_, fun d hd o ho => ?_, fun d hd => ?_, fun d hd => ?_⟩, by omega, ((k1.trans k2).trans k3).trans fun i h1 _ => m5 i (by omega)⟩
  · -- the first of each class
    rw [m2 _ (by omega) (by omega), w3 _ (by omega)]
    unfold setL
    by_cases hdc : d = c
    · rw [if_pos (by omega), if_pos hdc]; rfl
    · rw [if_neg (by omega), if_neg hdc, w2 _ (by omega), ← h.head d hd]
      have hn1 : ¬ (f ≠ 0 ∧ 8 + 8 * d = f + 16) := by
        rintro ⟨h1, h2⟩
        rcases hcase with ⟨_, e0⟩ | ⟨y, hy, _, _, hyf, _⟩
        · exact h1 e0
        · have := h.st.facts hy; omega
      rw [if_neg hn1, w1 _ (by omega), if_neg (by omega), if_neg (by omega)]
  · -- the bits
    rw [m3 d]
    unfold setL
    by_cases hdc : d = c
    · rw [if_pos hdc, if_pos hdc, w3 _ (by omega), if_pos rfl]
      have : x.off ≠ 0 := by omega
      simp [this]
    · rw [if_neg hdc, if_neg hdc, ← h.bit d hd, w3 _ rfl, if_neg (by omega), w2 _ rfl]
      have hn1 : ¬ (f ≠ 0 ∧ 0 = f + 16) := by omega
      rw [if_neg hn1, w1 _ rfl, if_neg (by omega), if_neg (by omega)]
  · -- the members
    unfold setL at ho
    by_cases hdc : d = c
    · subst hdc
      rw [if_pos rfl] at ho
      rcases List.mem_cons.1 ho with rfl | ho
      · exact ⟨x, hx, rfl, hu, hc⟩
      · exact h.mem d hd o ho
    · rw [if_neg hdc] at ho
      exact h.mem d hd o ho
  · -- the links
    have hw : ∀ o, (∃ y ∈ P, y.off = o ∧ o ≠ x.off) → ∀ k, k = 8 ∨ k = 16 → wordN (markB b3 c) (o + k) = if f ≠ 0 ∧ o = f ∧ k = 16 then x.off else wordN bs (o + k) := by
      rintro o ⟨y, hy, rfl, hne⟩ k hk
      have hy' := h.st.facts hy
      have hap := h.st.apart x hx y hy
      have hne2 : y.off + k ≠ x.off + 8 ∧ y.off + k ≠ x.off + 16 := by
        rcases hap with e | e | e
        · rw [e] at hne; exact absurd rfl hne
        · omega
        · omega
      rw [m2 _ (by omega) (by omega), w3 _ (by omega), if_neg (by omega), w2 _ (by omega), w1 _ (by omega), if_neg hne2.2, if_neg hne2.1]
      by_cases e : f ≠ 0 ∧ y.off = f ∧ k = 16
      · rw [if_pos e, if_pos ⟨e.1, by omega⟩]
      · rw [if_neg e, if_neg]
        rintro ⟨e1, e2⟩
        rcases hcase with ⟨_, e0⟩ | ⟨z, hz, r, hL, hzf, _⟩
        · exact e1 e0
        · have hz' := h.st.facts hz
          refine e ⟨e1, ?_, ?_⟩
          · omega
          · omega
    unfold setL
    by_cases hdc : d = c
    · subst hdc
      rw [if_pos rfl]
      refine ⟨?_, ?_, ?_⟩
      · rw [m2 _ (by omega) (by omega), w3 _ (by omega), if_neg (by omega), w2 _ (by omega)]
        rw [if_neg (by
          rintro ⟨e1, e2⟩
          rcases hcase with ⟨_, e0⟩ | ⟨z, hz, r, hL, hzf, _⟩
          · exact e1 e0
          · exact hn (by rw [hL, show x.off = f by omega]; simp)), w1 _ (by omega), if_pos rfl]
      · rw [m2 _ (by omega) (by omega), w3 _ (by omega), if_neg (by omega), w2 _ (by omega)]
        rw [if_neg (by
          rintro ⟨e1, e2⟩
          rcases hcase with ⟨_, e0⟩ | ⟨z, hz, r, hL, hzf, _⟩
          · exact e1 e0
          · have hz' := h.st.facts hz
            have hap := h.st.apart x hx z hz
            rcases hap with e | e | e
            · rw [e] at e2; omega
            · omega
            · omega), w1 _ (by omega), if_neg (by omega), if_pos rfl]
        rw [hhead]
      · have hl := h.links d hd
        cases hL : L d with
        | nil => trivial
        | cons o r =>
          rw [hL] at hl hhead
          obtain rfl : f = o := hhead
          obtain ⟨_, l2', l3'⟩ := hl
          have hof : ∃ y ∈ P, y.off = f ∧ f ≠ x.off := by
            obtain ⟨y, hy, e, _⟩ := h.mem d hd f (by rw [hL]; simp)
            exact ⟨y, hy, e, fun e2 => hn (by rw [hL, e2]; simp)⟩
          have hf0 : f ≠ 0 := by
            obtain ⟨y, hy, e, _⟩ := hof
            have := h.st.facts hy; omega
          refine ⟨?_, ?_, ?_⟩
          · rw [hw f hof 16 (.inr rfl), if_pos ⟨hf0, rfl, rfl⟩]
          · rw [hw f hof 8 (.inl rfl), if_neg (by omega)]; exact l2'
          · refine link_congr r _ _ (fun q hq => ?_) l3'
            have hnd := h.nodup d hd
            rw [hL] at hnd
            have hqf : q ≠ f := fun e => (List.nodup_cons.1 hnd).1 (e ▸ hq)
            have hqo : ∃ y ∈ P, y.off = q ∧ q ≠ x.off := by
              obtain ⟨y, hy, e, _⟩ := h.mem d hd q (by rw [hL]; simp [hq])
              exact ⟨y, hy, e, fun e2 => hn (by rw [hL, ← e2]; simp [hq])⟩
            rw [hw q hqo 16 (.inr rfl), hw q hqo 8 (.inl rfl), if_neg (by omega), if_neg (by omega)]
            exact ⟨rfl, rfl⟩
    · rw [if_neg hdc]
      refine link_congr (L d) _ _ (fun q hq => ?_) (h.links d hd)
      obtain ⟨y, hy, e, _, hcl⟩ := h.mem d hd q hq
      have hqx : q ≠ x.off := fun e2 => by
        have := h.st.uniq hy hx (by omega)
        subst this
        rw [hc] at hcl; omega
      have hqf : ¬ (f ≠ 0 ∧ q = f ∧ (16 : Nat) = 16) := by
        rintro ⟨e1, e2, _⟩
        rcases hcase with ⟨_, e0⟩ | ⟨z, hz, r, hL, hzf, _⟩
        · exact e1 e0
        · obtain ⟨z2, hz2, e3, _, hcl2⟩ := h.mem c hc22 f (by rw [hL]; simp)
          have := h.st.uniq hy hz2 (by omega)
          subst this
          rw [hcl] at hcl2; omega
      rw [hw q ⟨y, hy, e, hqx⟩ 16 (.inr rfl), hw q ⟨y, hy, e, hqx⟩ 8 (.inl rfl), if_neg hqf, if_neg (by omega)]
      exact ⟨rfl, rfl⟩
  · unfold setL
    by_cases hdc : d = c
    · subst hdc
      rw [if_pos rfl]
      exact List.nodup_cons.2 ⟨hn, h.nodup d hd⟩
    · rw [if_neg hdc]; exact h.nodup d hd
end
end Go.Proofs.Ytelkileeekfknaa
