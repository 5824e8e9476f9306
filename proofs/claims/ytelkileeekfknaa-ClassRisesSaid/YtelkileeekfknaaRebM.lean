/- The lists made anew, and what is found then. Plain facts, no program in sight. -/
import Derived.Test.YtelkileeekfknaaTileM
namespace Go.Proofs.Ytelkileeekfknaa

/-- How many bytes the block at o has. -/
def szB (bs : List UInt8) (o : Nat) : Nat := match getB bs (o : Int) with
  | some x => x.size
  | none => 0
theorem szB_of {bs : List UInt8} {o : Nat} {x : Bk} (h : getB bs (o : Int) = some x) : szB bs o = x.size := by
  unfold szB; rw [h]
/-- The first block from class c on that has so many bytes. -/
def findF (bs : List UInt8) (s : Int) : Nat → Nat → Option Nat
  | 0, _ => some 0
  | k + 1, c => match allB bs c with
    | none => none
    | some l => match l.find? (fun o => decide (s ≤ (szB bs o : Int))) with
      | some o => some o
      | none => findF bs s k (c + 1)
def findB (bs : List UInt8) (s : Int) : Option Nat := findF bs s (22 - (classI s).toNat) (classI s).toNat
/-- Behind the blocks so far: the bytes with one more, if it is free. -/
def rebF (out : List UInt8) (x : Bk) : List UInt8 := if x.used = true then out else (putB out (x.off : Int)).getD out
def rebuildB (bs : List UInt8) : Option (List UInt8) := (walkB bs).map fun l => l.foldl rebF (List.replicate 184 0 ++ bs.drop 184)

/-- A class's free blocks, the last one first. -/
def freeL (l : List Bk) (c : Nat) : List Nat := (l.reverse.filter fun x => !x.used && classI (x.size : Int) == (c : Int)).map Bk.off
theorem freeL_snoc (l : List Bk) (x : Bk) (c : Nat) : freeL (l ++ [x]) c = if x.used = false ∧ classI (x.size : Int) = (c : Int) then x.off :: freeL l c else freeL l c := by
  unfold freeL
  rw [List.reverse_append, List.reverse_singleton, List.singleton_append, List.filter_cons]
  by_cases h : x.used = false ∧ classI (x.size : Int) = (c : Int)
  · rw [if_pos h, if_pos (by simp [h.1, h.2]), List.map_cons]
  · rw [if_neg h, if_neg (by intro h'; apply h; simpa using h')]
theorem freeL_mem {l : List Bk} {c o : Nat} (h : o ∈ freeL l c) : ∃ x ∈ l, x.off = o ∧ x.used = false ∧ classI (x.size : Int) = (c : Int) := by
  unfold freeL at h
  obtain ⟨x, hx, e⟩ := List.mem_map.1 h
  obtain ⟨h1, h2⟩ := List.mem_filter.1 hx
  have h2' : x.used = false ∧ classI (x.size : Int) = (c : Int) := by simpa using h2
  exact ⟨x, List.mem_reverse.1 h1, e, h2'.1, h2'.2⟩
theorem mem_freeL {l : List Bk} {c : Nat} {x : Bk} (h : x ∈ l) (hu : x.used = false) (hc : classI (x.size : Int) = (c : Int)) : x.off ∈ freeL l c := by
  unfold freeL
  exact List.mem_map.2 ⟨x, List.mem_filter.2 ⟨List.mem_reverse.2 h, by simp [hu, hc]⟩, rfl⟩

/-- Free blocks put one after the other. -/
theorem reb_lists {P : List Bk} : ∀ (rest done : List Bk) (bs : List UInt8), (∀ x ∈ rest, x ∈ P) → (done ++ rest).Pairwise (fun x y => x.off ≠ y.off) → Lists bs P (freeL done) →
    Lists (rest.foldl rebF bs) P (freeL (done ++ rest)) ∧ (rest.foldl rebF bs).length = bs.length ∧ Kept P bs (rest.foldl rebF bs)
  | [], done, bs, _, _, h => by rw [List.append_nil]; exact ⟨h, rfl, Kept.refl _ _⟩
  | x :: r, done, bs, hm, hp, h => by
    have e : done ++ x :: r = (done ++ [x]) ++ r := by simp
    have hxP := hm x (by simp)
    rw [e] at hp ⊢
    cases hu : x.used with
    | true =>
      have e1 : rebF bs x = bs := by unfold rebF; rw [if_pos hu]
      have e2 : freeL (done ++ [x]) = freeL done := by
        funext c
        rw [freeL_snoc, if_neg (by rw [hu]; simp)]
      rw [List.foldl_cons, e1]
      exact reb_lists r (done ++ [x]) bs (fun y hy => hm y (by simp [hy])) hp (by rw [e2]; exact h)
    | false =>
      obtain ⟨c, hc, hc22⟩ := class_nat (h.st.facts hxP).2.2.2.2.2
      have hn : x.off ∉ freeL done c := fun hmem => by
        obtain ⟨y, hy, ey, _⟩ := freeL_mem hmem
        have h1 := (List.pairwise_append.1 (List.pairwise_append.1 hp).1).2.2
        exact h1 y hy x (by simp) ey
      obtain ⟨bs', q1, q2, q3, q4⟩ := h.put hxP hu hc hc22 hn
      have e1 : rebF bs x = bs' := by unfold rebF; rw [if_neg (by rw [hu]; simp), q1]; rfl
      have e2 : setL (freeL done) c (x.off :: freeL done c) = freeL (done ++ [x]) := by
        funext d
        rw [freeL_snoc]
        unfold setL
        by_cases hd : d = c
        · subst hd
          rw [if_pos rfl, if_pos ⟨hu, hc⟩]
        · rw [if_neg hd, if_neg (fun h => hd (by have := h.2; omega))]
      rw [List.foldl_cons, e1]
      obtain ⟨i1, i2, i3⟩ := reb_lists r (done ++ [x]) bs' (fun y hy => hm y (by simp [hy])) hp (by rw [← e2]; exact q2)
      exact ⟨i1, i2.trans q3, q4.trans i3⟩

theorem tile_ne : ∀ (l : List Bk) (o e : Nat), tile o l e → l.Pairwise (fun x y => x.off ≠ y.off)
  | [], _, _, _ => List.Pairwise.nil
  | x :: r, o, e, ⟨h1, h2, h3⟩ => by
    have q := (isSz_iff _).1 h2
    refine List.Pairwise.cons (fun y hy => ?_) (tile_ne r _ e h3)
    have := (tile_mem r _ e h3).2 y hy
    omega
theorem numB_zeros (n : Nat) : numB (List.replicate n 0) = 0 := by
  induction n with
  | zero => rfl
  | succ n ih => rw [List.replicate_succ]; simp [numB, ih]
theorem wordN_zeros (bs : List UInt8) (n p : Nat) (h : p + 8 ≤ n) : wordN (List.replicate n 0 ++ bs) p = 0 := by
  unfold wordN
  rw [List.drop_append_of_le_length (by simp; omega), List.take_append_of_le_length (by simp; omega), List.drop_replicate, List.take_replicate, numB_zeros]
theorem head_get (bs : List UInt8) (n i : Nat) (h : n ≤ i) : (List.replicate n (0 : UInt8) ++ bs.drop n)[i]? = bs[i]? := by
  rw [List.getElem?_append_right (by simpa using h), List.length_replicate, List.getElem?_drop]
  congr 1; omega
/-- Blocks that stand one behind the other, the lists made anew: just the free ones, the last first. -/
theorem rebuildB_lists {bs : List UInt8} {l : List Bk} (h : walkB bs = some l) (hm : bs.length ≤ 16384) :
    ∃ out, rebuildB bs = some out ∧ Lists out l (freeL l) ∧ out.length = bs.length ∧ walkB out = some l := by
  obtain ⟨h184, ht, hg⟩ := walkB_tiles h
  have hmem := (tile_mem l _ _ ht).2
  have el : (List.replicate 184 (0 : UInt8) ++ bs.drop 184).length = bs.length := by rw [List.length_append, List.length_replicate, List.length_drop]; omega
  have hst : Stands (List.replicate 184 (0 : UInt8) ++ bs.drop 184) l := by
    refine ⟨fun x hx => ?_, tile_apart l _ _ ht⟩
    obtain ⟨a, b, c, _⟩ := hmem x hx
    have q := (isSz_iff _).1 c
    refine getB_congr bs _ x el (hg x hx) ?_ ?_
    · exact wordN_congr _ _ _ fun i h1 _ => head_get bs 184 i (by omega)
    · exact wordN_congr _ _ _ fun i h1 _ => head_get bs 184 i (by omega)
  have hL := lists_none (by rw [el]; exact h184) (by rw [el]; exact hm) hst (fun p hp _ => wordN_zeros _ _ _ hp)
  have e0 : (fun _ => []) = freeL [] := by funext c; rfl
  rw [e0] at hL
  obtain ⟨i1, i2, _⟩ := reb_lists l [] _ (fun x hx => hx) (by simpa using tile_ne l _ _ ht) hL
  rw [List.nil_append] at i1
  refine ⟨_, by unfold rebuildB; rw [h]; rfl, i1, i2.trans el, ?_⟩
  exact walkB_tile (by rw [i2, el]; exact ht) i1.st.at_

/-- Greater sizes have no lesser class. -/
theorem classI_mono {a b : Int} (ha : isSz a = true) (hb : isSz b = true) (h : a ≤ b) : classI a ≤ classI b := by
  have key : ∀ s : Int, isSz s = true → (s ≤ 256 ∧ classI s = s / 16 - 2) ∨ (256 < s ∧ s < 512 ∧ classI s = 15) ∨ (512 ≤ s ∧ s < 1024 ∧ classI s = 16) ∨ (1024 ≤ s ∧ s < 2048 ∧ classI s = 17) ∨ (2048 ≤ s ∧ s < 4096 ∧ classI s = 18) ∨ (4096 ≤ s ∧ s < 8192 ∧ classI s = 19) ∨ (8192 ≤ s ∧ s < 16384 ∧ classI s = 20) ∨ (16384 ≤ s ∧ classI s = 21) := fun s hs => by
    unfold classI
    rw [if_neg (by rw [hs]; simp)]
    split
    · exact .inl ⟨by assumption, rfl⟩
    · split
      · exact .inr (.inl ⟨by omega, by assumption, rfl⟩)
      · split
        · exact .inr (.inr (.inl ⟨by omega, by assumption, rfl⟩))
        · split
          · exact .inr (.inr (.inr (.inl ⟨by omega, by assumption, rfl⟩)))
          · split
            · exact .inr (.inr (.inr (.inr (.inl ⟨by omega, by assumption, rfl⟩))))
            · split
              · exact .inr (.inr (.inr (.inr (.inr (.inl ⟨by omega, by assumption, rfl⟩)))))
              · split
                · exact .inr (.inr (.inr (.inr (.inr (.inr (.inl ⟨by omega, by assumption, rfl⟩))))))
                · exact .inr (.inr (.inr (.inr (.inr (.inr (.inr ⟨by omega, rfl⟩))))))
  rcases key a ha with h1 | h1 | h1 | h1 | h1 | h1 | h1 | h1 <;> rcases key b hb with h2 | h2 | h2 | h2 | h2 | h2 | h2 | h2 <;> omega
/-- Found is a free block that has so many bytes, of the first class that has one; 0, if there is none. -/
theorem findF_spec {bs : List UInt8} {P : List Bk} {L : Nat → List Nat} (h : Lists bs P L) (hl : ∀ c, c < 22 → (L c).length ≤ 1024) (s : Int) : ∀ (k c : Nat), c + k = 22 →
    ∃ o, findF bs s k c = some o ∧ ((o = 0 ∧ ∀ d, c ≤ d → d < 22 → ∀ q ∈ L d, (szB bs q : Int) < s) ∨ (∃ d, c ≤ d ∧ d < 22 ∧ o ∈ L d ∧ s ≤ (szB bs o : Int)))
  | 0, c, hc => ⟨0, rfl, .inl ⟨rfl, fun d h1 h2 => by omega⟩⟩
  | k + 1, c, hc => by
    have ha := h.all (c := c) (by omega) (hl c (by omega))
    unfold findF
    rw [ha]
    dsimp only
    cases hf : (L c).find? (fun o => decide (s ≤ (szB bs o : Int))) with
    | some o =>
      refine ⟨o, rfl, .inr ⟨c, Nat.le_refl _, by omega, List.mem_of_find?_eq_some hf, ?_⟩⟩
      have := List.find?_some hf
      simpa using this
    | none =>
      dsimp only
      obtain ⟨o, e, hh⟩ := findF_spec h hl s k (c + 1) (by omega)
      refine ⟨o, e, ?_⟩
      rcases hh with ⟨h0, hn⟩ | ⟨d, h1, h2, h3, h4⟩
      · refine .inl ⟨h0, fun d h1 h2 q hq => ?_⟩
        rcases Nat.lt_or_ge c d with hlt | hge
        · exact hn d hlt h2 q hq
        · obtain rfl : d = c := by omega
          have := List.find?_eq_none.1 hf q hq
          simpa using this
      · exact .inr ⟨d, by omega, h2, h3, h4⟩
end Go.Proofs.Ytelkileeekfknaa
