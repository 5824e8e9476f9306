/- Texts of mine, joined: CheckM2, CheckM3, HpM, HpM2, HpM3, Ref7a, Ref7b, Ref7c, Ref7d, Ref7e, Ref7f, Law00, Ref9a, Ref9b, Ref9c, Ref9d, Ref10a, Ref10b, Ref11, Law08, Cls1, Spec7, Blk1, Blk2, Blk3, Blk4. -/
import Derived.Laws.ResultCell
import Derived.Test.YtbldlidpapdkbaaGreatDoorChecked
import Derived.Deep.QuietTactic
import Derived.BigQuiet
import Derived.WalkSpells
import Derived.IntWalk
import Derived.Lib.Strings
import Derived.Lib.Slices
import Derived.Lib.Small
import Derived.Lib.Walk
import Derived.Lib.BitFns
import Derived.Test.YtbldlidpapdkbaaGreatDoorM2

/- A number of the head turned: not right. Plain facts, no program in sight. -/
namespace Go.Proofs.YtbldlidpapdkbaaGreatDoor

theorem chkC_true {bs : List UInt8} {l : List Bk} : ∀ (k c : Nat) (fr : Int), chkC bs l k c fr = true → ∀ d, c ≤ d → d < c + k → ∃ al, allB bs d = some al ∧ al.all (okO l al) = true
  | 0, c, fr, _, d, h1, h2 => by omega
  | k + 1, c, fr, h, d, h1, h2 => by
    unfold chkC at h
    cases ha : allB bs c with
    | none => rw [ha] at h; cases h
    | some al =>
      rw [ha] at h
      dsimp only at h
      rw [Bool.and_eq_true] at h
      rcases Nat.lt_or_ge c d with hlt | hge
      · exact chkC_true k (c + 1) _ h.2 d hlt (by omega)
      · obtain rfl : d = c := by omega
        exact ⟨al, ha, h.1⟩
theorem allB_bit {bs : List UInt8} {c : Nat} {l : List Nat} (h : allB bs c = some l) : bitN (wordN bs 0) c = decide (wordN bs (8 + 8 * c) ≠ 0) ∧ allF bs c 1024 0 (wordN bs (8 + 8 * c)) = some l := by
  unfold allB at h
  split at h
  · cases h
  · split at h
    · cases h
    · rename_i hb
      exact ⟨Decidable.not_not.1 hb, h⟩
end Go.Proofs.YtbldlidpapdkbaaGreatDoor

/- A tag turned: not right. Plain facts, no program in sight. -/
namespace Go.Proofs.YtbldlidpapdkbaaGreatDoor

end Go.Proofs.YtbldlidpapdkbaaGreatDoor

/- The document's heap, plain: blocks, lists, what each block holds; what in, out, drop, put, give, cut, Find, Take, Give, Trim come to. No program in sight. -/
namespace Go.Proofs.YtbldlidpapdkbaaGreatDoor

/-- What a block holds: its slice, and the bytes. -/
abbrev Dt : Type := Value × List UInt8
def nilD : Dt := (.slice none 0 0, [])
/-- A heap. -/
structure Hp where
  cap : Nat
  blks : List Bk
  ds : List Dt
  lists : Nat → List Nat

/-- Where the last block ends. -/
def sumB : List Bk → Nat
  | [] => 0
  | x :: r => x.size + sumB r
def lenB (l : List Bk) : Nat := 184 + sumB l
/-- The i-th block. -/
def bkAt (l : List Bk) (i : Nat) : Bk := l.getD i ⟨0, 0, false⟩
/-- Which block stands at o. -/
def atB (o : Int) : List Bk → Option Nat
  | [] => none
  | x :: r => if (x.off : Int) = o then some 0 else (atB o r).map (· + 1)
def usedB (l : List Bk) (o : Int) : Option Nat := match atB o l with
  | none => none
  | some i => if (bkAt l i).used = true then some i else none
def clsB (x : Bk) : Nat := (classI (x.size : Int)).toNat
def Hp.out (H : Hp) (i : Nat) : Hp := { H with lists := setL H.lists (clsB (bkAt H.blks i)) ((H.lists (clsB (bkAt H.blks i))).filter fun o => o != (bkAt H.blks i).off) }
def Hp.in_ (H : Hp) (i : Nat) : Hp := { H with lists := setL H.lists (clsB (bkAt H.blks i)) ((bkAt H.blks i).off :: H.lists (clsB (bkAt H.blks i))) }
def Hp.drop (H : Hp) (i : Nat) : Hp := { H with blks := H.blks.take i ++ H.blks.drop (i + 1), ds := H.ds.take i ++ H.ds.drop (i + 1) }
def Hp.put (H : Hp) (i : Nat) (x : Bk) : Hp := { H with blks := H.blks.take i ++ x :: H.blks.drop i, ds := H.ds.take i ++ nilD :: H.ds.drop i }
def Hp.size (H : Hp) (i s : Nat) : Hp := { H with blks := H.blks.set i { bkAt H.blks i with size := s } }
def Hp.use (H : Hp) (i : Nat) (u : Bool) : Hp := { H with blks := H.blks.set i { bkAt H.blks i with used := u } }
def Hp.wipe (H : Hp) (i : Nat) : Hp := { H with ds := H.ds.set i nilD }
/-- Is there a free block right behind the i-th? -/
def nextF (l : List Bk) (i : Nat) : Bool := decide (i + 1 < l.length) && !(bkAt l (i + 1)).used
def prevF (l : List Bk) (i : Nat) : Bool := decide (0 < i) && !(bkAt l (i - 1)).used
/-- The i-th and the one behind it are one. -/
def Hp.join (H : Hp) (i : Nat) : Hp := ((H.size i ((bkAt H.blks i).size + (bkAt H.blks (i + 1)).size)).drop (i + 1))
def Hp.giveB (H : Hp) (i : Nat) : Hp := if nextF H.blks i = true then (H.out (i + 1)).join i else H
def Hp.giveC (H : Hp) (i : Nat) : Hp := if prevF H.blks i = true then ((H.out (i - 1)).join (i - 1)).in_ (i - 1) else H.in_ i
def Hp.give (H : Hp) (i : Nat) : Hp := (((H.use i false).wipe i).giveB i).giveC i
def Hp.cut (H : Hp) (i s : Nat) : Hp := if (bkAt H.blks i).size < s + 32 then H.use i true else (((H.use i true).size i s).put (i + 1) ⟨(bkAt H.blks i).off + s, (bkAt H.blks i).size - s, true⟩).give (i + 1)
/-- The first of a list with so many bytes. -/
def findL (l : List Bk) (s : Nat) : List Nat → Option Nat
  | [] => none
  | o :: r => match atB (o : Int) l with
    | none => none
    | some i => if s ≤ (bkAt l i).size then some i else findL l s r
def Hp.findC (H : Hp) (s : Nat) : Nat → Nat → Option Nat
  | 0, _ => none
  | k + 1, c => match findL H.blks s (H.lists c) with
    | some i => some i
    | none => H.findC s k (c + 1)
def Hp.find (H : Hp) (s : Nat) : Option Nat := H.findC s (22 - (classI (s : Int)).toNat) (classI (s : Int)).toNat
/-- How many bytes the last block has, if it is free. -/
def tailF (l : List Bk) : Nat := if l.length = 0 then 0 else if (bkAt l (l.length - 1)).used = true then 0 else (bkAt l (l.length - 1)).size
/-- Where a block of a size is taken, if it can be; the heap then. -/
def Hp.take (H : Hp) (s : Nat) : Option Nat × Hp := match H.find s with
  | some i => (some (bkAt H.blks i).off, (H.out i).cut i s)
  | none => if H.cap < lenB H.blks + s - tailF H.blks then (none, H)
    else if 0 < tailF H.blks then (some (bkAt H.blks (H.blks.length - 1)).off, ((H.out (H.blks.length - 1)).size (H.blks.length - 1) s).use (H.blks.length - 1) true)
    else (some (lenB H.blks), H.put H.blks.length ⟨lenB H.blks, s, true⟩)
def Hp.giveO (H : Hp) (o : Int) : Option Hp := (usedB H.blks o).map H.give
def Hp.trimO (H : Hp) (o : Int) (s : Nat) : Option Hp := match usedB H.blks o with
  | none => none
  | some i => if (bkAt H.blks i).size < s then none else some (H.cut i s)

/-- All blocks one behind the other, all within 16384 bytes; as many slices as blocks; no list is long. -/
structure Hp.Ok (H : Hp) : Prop where
  tl : tile 184 H.blks (lenB H.blks)
  le : lenB H.blks ≤ 16384
  dl : H.ds.length = H.blks.length
/-- Whatever is listed is a block. -/
def Hp.Listed (H : Hp) : Prop := ∀ c, c < 22 → ∀ o ∈ H.lists c, ∃ i, atB (o : Int) H.blks = some i

theorem tile_sum : ∀ (l : List Bk) (o e : Nat), tile o l e → e = o + sumB l
  | [], o, e, h => by simp [tile] at h; simp [sumB]; omega
  | x :: r, o, e, h => by
    obtain ⟨h1, h2, h3⟩ := h
    have := tile_sum r _ e h3
    simp [sumB]; omega
theorem tile_app : ∀ (a b : List Bk) (o e : Nat), tile o (a ++ b) e ↔ tile o a (o + sumB a) ∧ tile (o + sumB a) b e
  | [], b, o, e => by simp [sumB, tile]
  | x :: r, b, o, e => by
    simp only [List.cons_append, tile, sumB]
    rw [tile_app r b]
    constructor
    · rintro ⟨h1, h2, h3, h4⟩
      refine ⟨⟨h1, h2, ?_⟩, ?_⟩
      · rw [show o + (x.size + sumB r) = o + x.size + sumB r by omega]; exact h3
      · rw [show o + (x.size + sumB r) = o + x.size + sumB r by omega]; exact h4
    · rintro ⟨⟨h1, h2, h3⟩, h4⟩
      rw [show o + (x.size + sumB r) = o + x.size + sumB r by omega] at h3 h4
      exact ⟨h1, h2, h3, h4⟩
theorem sumB_app (a b : List Bk) : sumB (a ++ b) = sumB a + sumB b := by
  induction a with
  | nil => simp [sumB]
  | cons x r ih => simp only [List.cons_append, sumB, ih]; omega
theorem atB_some {o : Int} : ∀ {l : List Bk} {i : Nat}, atB o l = some i → ∃ x, l[i]? = some x ∧ (x.off : Int) = o
  | [], _, h => by cases h
  | x :: r, i, h => by
    unfold atB at h
    split at h
    · rename_i hx
      injection h with h
      subst h
      exact ⟨x, rfl, hx⟩
    · cases hr : atB o r with
      | none => rw [hr] at h; cases h
      | some j =>
        rw [hr] at h
        injection h with h
        subst h
        obtain ⟨y, h1, h2⟩ := atB_some hr
        exact ⟨y, by simpa using h1, h2⟩
theorem atB_none {o : Int} : ∀ {l : List Bk}, atB o l = none → ∀ x ∈ l, (x.off : Int) ≠ o
  | [], _, x, hx => by cases hx
  | y :: r, h, x, hx => by
    unfold atB at h
    split at h
    · cases h
    · rename_i hy
      rcases List.mem_cons.1 hx with rfl | hx
      · exact hy
      · cases hr : atB o r with
        | none => exact atB_none hr x hx
        | some j => rw [hr] at h; cases h
theorem bkAt_of {l : List Bk} {i : Nat} {x : Bk} (h : l[i]? = some x) : bkAt l i = x := by
  unfold bkAt
  rw [List.getD_eq_getElem?_getD, h]
  rfl
theorem bkAt_get {l : List Bk} {i : Nat} (h : i < l.length) : l[i]? = some (bkAt l i) := by
  rw [List.getElem?_eq_getElem h]
  exact congrArg some (bkAt_of (List.getElem?_eq_getElem h)).symm
theorem atB_at {l : List Bk} {i : Nat} {o : Int} (h : atB o l = some i) : i < l.length ∧ ((bkAt l i).off : Int) = o := by
  obtain ⟨x, h1, h2⟩ := atB_some h
  have hi : i < l.length := by
    rcases Nat.lt_or_ge i l.length with h | h
    · exact h
    · rw [List.getElem?_eq_none h] at h1; cases h1
  rw [bkAt_of h1]
  exact ⟨hi, h2⟩
theorem lst_split {α : Type} {l : List α} {i : Nat} {x : α} (h : l[i]? = some x) : l = l.take i ++ x :: l.drop (i + 1) := by
  have hi : i < l.length := by
    rcases Nat.lt_or_ge i l.length with h' | h'
    · exact h'
    · rw [List.getElem?_eq_none h'] at h; cases h
  have e : l[i] = x := by rw [List.getElem?_eq_getElem hi] at h; injection h
  calc l = l.take i ++ l.drop i := (List.take_append_drop i l).symm
    _ = _ := by rw [List.drop_eq_getElem_cons hi, e]
theorem lst_set {α : Type} {l : List α} {i : Nat} {x : α} (y : α) (h : l[i]? = some x) : l.set i y = l.take i ++ y :: l.drop (i + 1) := by
  have hi : i < l.length := by
    rcases Nat.lt_or_ge i l.length with h' | h'
    · exact h'
    · rw [List.getElem?_eq_none h'] at h; cases h
  rw [List.set_eq_take_append_cons_drop, if_pos hi]

section
variable {l : List Bk} {e i : Nat} {x : Bk}
/-- What lies ahead of the i-th block, it itself, and what lies behind it. -/
theorem tile_at (h : tile 184 l e) (hx : l[i]? = some x) : tile 184 (l.take i) x.off ∧ x.off = 184 + sumB (l.take i) ∧ isSz (x.size : Int) = true ∧ tile (x.off + x.size) (l.drop (i + 1)) e := by
  rw [lst_split hx, tile_app] at h
  obtain ⟨h1, h2, h3, h4⟩ := h
  have e1 : (184 + sumB (l.take i)) = x.off := by omega
  rw [e1] at h1
  refine ⟨h1, by omega, h3, ?_⟩
  rw [e1] at h4
  exact h4
theorem tile_of (h1 : tile 184 (l.take i) x.off) (h3 : isSz (x.size : Int) = true) {r : List Bk} (h4 : tile (x.off + x.size) r e) : tile 184 (l.take i ++ x :: r) e := by
  have := tile_sum _ _ _ h1
  rw [tile_app]
  rw [← this]
  exact ⟨h1, rfl, h3, h4⟩
theorem tile_len (h : tile 184 l e) : lenB l = e := by
  have := tile_sum _ _ _ h
  unfold lenB; omega
end
end Go.Proofs.YtbldlidpapdkbaaGreatDoor

/- The document's heap, plain: that all stays one behind the other when a block is given, cut, taken. No program in sight. -/
namespace Go.Proofs.YtbldlidpapdkbaaGreatDoor

theorem lst_lt {α : Type} {l : List α} {i : Nat} {x : α} (h : l[i]? = some x) : i < l.length := by
  rcases Nat.lt_or_ge i l.length with h' | h'
  · exact h'
  · rw [List.getElem?_eq_none h'] at h; cases h
theorem set_take {α : Type} (l : List α) (i : Nat) (y : α) (hi : i < l.length) : (l.set i y).take (i + 1) = l.take i ++ [y] := by
  rw [List.take_set, List.take_add_one, List.getElem?_eq_getElem hi]
  rw [Option.toList_some, List.set_append_right _ _ (by rw [List.length_take]; omega), List.length_take]
  congr 1
  have e : i - min i l.length = 0 := by omega
  rw [e]
  rfl
theorem set_drop {α : Type} (l : List α) (i k : Nat) (y : α) (hk : i < k) : (l.set i y).drop k = l.drop k := List.drop_set_of_lt hk
theorem bkAt_set (l : List Bk) (i j : Nat) (y : Bk) (hi : i < l.length) : bkAt (l.set i y) j = if j = i then y else bkAt l j := by
  unfold bkAt
  rw [List.getD_eq_getElem?_getD, List.getD_eq_getElem?_getD]
  by_cases h : j = i
  · subst h
    rw [List.getElem?_set_self hi, if_pos rfl]
    rfl
  · rw [List.getElem?_set_ne (fun e => h e.symm), if_neg h]
theorem sz_add {a b : Nat} (ha : isSz (a : Int) = true) (hb : isSz (b : Int) = true) (h : a + b ≤ 16384) : isSz ((a + b : Nat) : Int) = true := by
  have h1 := (isSz_iff _).1 ha
  have h2 := (isSz_iff _).1 hb
  exact (isSz_iff _).2 (by omega)

section
variable {H : Hp} {i s : Nat}
theorem Hp.Ok.at_ (h : H.Ok) (hi : i < H.blks.length) : tile 184 (H.blks.take i) (bkAt H.blks i).off ∧ isSz ((bkAt H.blks i).size : Int) = true ∧ tile ((bkAt H.blks i).off + (bkAt H.blks i).size) (H.blks.drop (i + 1)) (lenB H.blks) := by
  obtain ⟨a, _, b, c⟩ := tile_at h.tl (bkAt_get hi)
  exact ⟨a, b, c⟩
theorem Hp.Ok.sz (h : H.Ok) (hi : i < H.blks.length) : isSz ((bkAt H.blks i).size : Int) = true := (h.at_ hi).2.1
theorem Hp.Ok.len (h : H.Ok) : H.blks.length * 32 ≤ lenB H.blks := by
  have go : ∀ (l : List Bk) (o e : Nat), tile o l e → l.length * 32 ≤ sumB l := by
    intro l
    induction l with
    | nil => intro o e _; simp [sumB]
    | cons x r ih =>
      intro o e ht
      obtain ⟨_, h2, h3⟩ := ht
      have h4 := ih _ _ h3
      have h5 := (isSz_iff _).1 h2
      simp only [List.length_cons, sumB]
      omega
  have := go H.blks 184 _ h.tl
  unfold lenB
  omega
theorem Hp.Ok.n (h : H.Ok) : H.blks.length ≤ 512 := by
  have h1 := h.len
  have h2 := h.le
  omega
/-- The ends of the i-th, and of the one behind it. -/
theorem Hp.Ok.two (h : H.Ok) (hi : i + 1 < H.blks.length) : (bkAt H.blks (i + 1)).off = (bkAt H.blks i).off + (bkAt H.blks i).size ∧ (bkAt H.blks i).size + (bkAt H.blks (i + 1)).size ≤ 16384 := by
  obtain ⟨_, hs, ht⟩ := h.at_ (i := i) (by omega)
  rw [List.drop_eq_getElem_cons hi] at ht
  have e : H.blks[i + 1] = bkAt H.blks (i + 1) := by
    have := bkAt_get hi
    rw [List.getElem?_eq_getElem hi] at this
    exact Option.some.inj this
  rw [e] at ht
  obtain ⟨h1, _, h3⟩ := ht
  have h4 := (tile_mem _ _ _ h3).1
  have h5 := h.le
  exact ⟨h1, by omega⟩
/-- A block with the same place and size. -/
theorem Hp.Ok.same (h : H.Ok) (hi : i < H.blks.length) (y : Bk) (ho : y.off = (bkAt H.blks i).off) (hs : y.size = (bkAt H.blks i).size) : tile 184 (H.blks.set i y) (lenB H.blks) ∧ lenB (H.blks.set i y) = lenB H.blks := by
  obtain ⟨a, b, c⟩ := h.at_ hi
  have ht : tile 184 (H.blks.set i y) (lenB H.blks) := by
    rw [lst_set y (bkAt_get hi)]
    refine tile_of (by rw [ho]; exact a) (by rw [hs]; exact b) ?_
    rw [ho, hs]; exact c
  exact ⟨ht, tile_len ht⟩
theorem Hp.Ok.use (h : H.Ok) (hi : i < H.blks.length) (u : Bool) : (H.use i u).Ok := by
  obtain ⟨h1, h2⟩ := h.same hi { bkAt H.blks i with used := u } rfl rfl
  refine ⟨?_, ?_, ?_⟩
  · show tile 184 (H.blks.set i _) (lenB (H.blks.set i _))
    rw [h2]; exact h1
  · show lenB (H.blks.set i _) ≤ _
    rw [h2]; exact h.le
  · show H.ds.length = (H.blks.set i _).length
    rw [List.length_set]; exact h.dl
theorem Hp.Ok.wipe (h : H.Ok) : (H.wipe i).Ok := ⟨h.tl, h.le, by show (H.ds.set i _).length = _; rw [List.length_set]; exact h.dl⟩
theorem Hp.Ok.out (h : H.Ok) : (H.out i).Ok := ⟨h.tl, h.le, h.dl⟩
theorem Hp.Ok.in_ (h : H.Ok) : (H.in_ i).Ok := ⟨h.tl, h.le, h.dl⟩
theorem join_blks (H : Hp) (hi : i + 1 < H.blks.length) : (H.join i).blks = H.blks.take i ++ { bkAt H.blks i with size := (bkAt H.blks i).size + (bkAt H.blks (i + 1)).size } :: H.blks.drop (i + 2) := by
  show (H.blks.set i _).take (i + 1) ++ (H.blks.set i _).drop (i + 1 + 1) = _
  rw [set_take _ _ _ (by omega), set_drop _ _ _ _ (by omega), List.append_assoc]
  rfl
theorem Hp.Ok.join (h : H.Ok) (hi : i + 1 < H.blks.length) : (H.join i).Ok := by
  obtain ⟨a, b, c⟩ := h.at_ (i := i) (by omega)
  obtain ⟨_, b2, c2⟩ := h.at_ (i := i + 1) hi
  obtain ⟨e, hle⟩ := h.two hi
  have ht : tile 184 (H.join i).blks (lenB H.blks) := by
    rw [join_blks H hi]
    refine tile_of (x := { bkAt H.blks i with size := (bkAt H.blks i).size + (bkAt H.blks (i + 1)).size }) a (sz_add b b2 hle) ?_
    show tile ((bkAt H.blks i).off + ((bkAt H.blks i).size + (bkAt H.blks (i + 1)).size)) _ _
    rw [← Nat.add_assoc, ← e]
    exact c2
  have hl := tile_len ht
  refine ⟨by rw [hl]; exact ht, by rw [hl]; exact h.le, ?_⟩
  show (H.ds.take (i + 1) ++ H.ds.drop (i + 1 + 1)).length = (H.join i).blks.length
  rw [join_blks H hi]
  have := h.dl
  simp only [List.length_append, List.length_take, List.length_drop, List.length_cons]
  omega
theorem join_at (H : Hp) (hi : i + 1 < H.blks.length) : i < (H.join i).blks.length ∧ bkAt (H.join i).blks i = { bkAt H.blks i with size := (bkAt H.blks i).size + (bkAt H.blks (i + 1)).size } ∧ (H.join i).blks.length + 1 = H.blks.length := by
  rw [join_blks H hi]
  refine ⟨?_, bkAt_of ?_, ?_⟩
  · simp only [List.length_append, List.length_take, List.length_cons]; omega
  · rw [List.getElem?_append_right (by rw [List.length_take]; omega), List.length_take, show i - min i H.blks.length = 0 by omega]
    rfl
  · simp only [List.length_append, List.length_take, List.length_cons, List.length_drop]; omega
theorem cut_blks (H : Hp) (hi : i < H.blks.length) (y : Bk) : (((H.use i true).size i s).put (i + 1) y).blks = H.blks.take i ++ { bkAt H.blks i with used := true, size := s } :: y :: H.blks.drop (i + 1) := by
  have e : bkAt (H.blks.set i { bkAt H.blks i with used := true }) i = { bkAt H.blks i with used := true } := by rw [bkAt_set _ _ _ _ hi, if_pos rfl]
  show ((H.blks.set i { bkAt H.blks i with used := true }).set i { bkAt (H.blks.set i { bkAt H.blks i with used := true }) i with size := s }).take (i + 1) ++ y :: ((H.blks.set i { bkAt H.blks i with used := true }).set i { bkAt (H.blks.set i { bkAt H.blks i with used := true }) i with size := s }).drop (i + 1) = _
  rw [e, List.set_set, set_take _ _ _ hi, set_drop _ _ _ _ (by omega), List.append_assoc]
  rfl
theorem Hp.Ok.cut (h : H.Ok) (hi : i < H.blks.length) (hs : isSz (s : Int) = true) (hle : s + 32 ≤ (bkAt H.blks i).size) : (((H.use i true).size i s).put (i + 1) ⟨(bkAt H.blks i).off + s, (bkAt H.blks i).size - s, true⟩).Ok := by
  obtain ⟨a, b, c⟩ := h.at_ hi
  have h1 := (isSz_iff _).1 hs
  have h2 := (isSz_iff _).1 b
  have ht : tile 184 (((H.use i true).size i s).put (i + 1) ⟨(bkAt H.blks i).off + s, (bkAt H.blks i).size - s, true⟩).blks (lenB H.blks) := by
    rw [cut_blks H hi]
    refine tile_of (x := { bkAt H.blks i with used := true, size := s }) a hs ⟨rfl, (isSz_iff _).2 (by dsimp only; omega), ?_⟩
    dsimp only
    rw [show (bkAt H.blks i).off + s + ((bkAt H.blks i).size - s) = (bkAt H.blks i).off + (bkAt H.blks i).size by omega]
    exact c
  have hl := tile_len ht
  refine ⟨by rw [hl]; exact ht, by rw [hl]; exact h.le, ?_⟩
  rw [cut_blks H hi]
  show (H.ds.take (i + 1) ++ nilD :: H.ds.drop (i + 1)).length = _
  have := h.dl
  simp only [List.length_append, List.length_take, List.length_drop, List.length_cons]
  omega
theorem cut_len (H : Hp) (hi : i < H.blks.length) (y : Bk) : (((H.use i true).size i s).put (i + 1) y).blks.length = H.blks.length + 1 := by
  rw [cut_blks H hi]
  simp only [List.length_append, List.length_take, List.length_drop, List.length_cons]
  omega

/-- No list has more than N. -/
def Hp.Few (H : Hp) (N : Nat) : Prop := ∀ d, d < 22 → (H.lists d).length ≤ N
theorem Hp.Few.out {N : Nat} (h : H.Few N) : (H.out i).Few N := fun d hd => by
  show (setL H.lists _ _ d).length ≤ N
  unfold setL
  split
  · rename_i e
    rw [← e]
    exact Nat.le_trans (List.length_filter_le _ _) (h d hd)
  · exact h d hd
theorem Hp.Few.in_ {N : Nat} (h : H.Few N) : (H.in_ i).Few (N + 1) := fun d hd => by
  show (setL H.lists _ _ d).length ≤ N + 1
  unfold setL
  split
  · rename_i e
    rw [← e, List.length_cons]
    exact Nat.succ_le_succ (h d hd)
  · exact Nat.le_succ_of_le (h d hd)
theorem Hp.Few.more {N M : Nat} (h : H.Few N) (hm : N ≤ M) : H.Few M := fun d hd => Nat.le_trans (h d hd) hm
end
end Go.Proofs.YtbldlidpapdkbaaGreatDoor

/- The document's heap, plain: that there are as many slices as blocks; an arena's bytes that are such a heap. No program in sight. -/
namespace Go.Proofs.YtbldlidpapdkbaaGreatDoor

/-- As many slices as blocks. -/
def Hp.Dl (H : Hp) : Prop := H.ds.length = H.blks.length
section
variable {H : Hp} {i s : Nat}
theorem Hp.Dl.use (h : H.Dl) (u : Bool) : (H.use i u).Dl := by show H.ds.length = (H.blks.set i _).length; rw [List.length_set]; exact h
theorem Hp.Dl.size (h : H.Dl) : (H.size i s).Dl := by show H.ds.length = (H.blks.set i _).length; rw [List.length_set]; exact h
theorem Hp.Dl.wipe (h : H.Dl) : (H.wipe i).Dl := by show (H.ds.set i _).length = H.blks.length; rw [List.length_set]; exact h
theorem Hp.Dl.out (h : H.Dl) : (H.out i).Dl := h
theorem Hp.Dl.in_ (h : H.Dl) : (H.in_ i).Dl := h
theorem Hp.Dl.drop (h : H.Dl) : (H.drop i).Dl := by
  show (H.ds.take i ++ H.ds.drop (i + 1)).length = (H.blks.take i ++ H.blks.drop (i + 1)).length
  have h : H.ds.length = H.blks.length := h
  simp only [List.length_append, List.length_take, List.length_drop, h]
theorem Hp.Dl.put (h : H.Dl) (x : Bk) : (H.put i x).Dl := by
  show (H.ds.take i ++ nilD :: H.ds.drop i).length = (H.blks.take i ++ x :: H.blks.drop i).length
  have h : H.ds.length = H.blks.length := h
  simp only [List.length_append, List.length_take, List.length_drop, List.length_cons, h]
theorem Hp.Dl.join (h : H.Dl) : (H.join i).Dl := Hp.Dl.drop (Hp.Dl.size h)
theorem Hp.Dl.giveB (h : H.Dl) : (H.giveB i).Dl := by
  unfold Hp.giveB
  split
  · exact Hp.Dl.join (Hp.Dl.out h)
  · exact h
theorem Hp.Dl.giveC (h : H.Dl) : (H.giveC i).Dl := by
  unfold Hp.giveC
  split
  · exact Hp.Dl.in_ (Hp.Dl.join (Hp.Dl.out h))
  · exact Hp.Dl.in_ h
theorem Hp.Dl.give (h : H.Dl) : (H.give i).Dl := (h.use false).wipe.giveB.giveC
theorem Hp.Dl.cut (h : H.Dl) : (H.cut i s).Dl := by
  unfold Hp.cut
  split
  · exact h.use true
  · exact ((h.use true).size.put _).give
theorem Hp.Dl.take (h : H.Dl) : (H.take s).2.Dl := by
  unfold Hp.take
  split
  · exact Hp.Dl.cut (Hp.Dl.out h)
  · split
    · exact h
    · split
      · exact Hp.Dl.use (Hp.Dl.size (Hp.Dl.out h)) true
      · exact h.put _
theorem Hp.Dl.giveO {o : Int} {H' : Hp} (h : H.Dl) (hg : H.giveO o = some H') : H'.Dl := by
  unfold Hp.giveO at hg
  cases hu : usedB H.blks o with
  | none => rw [hu] at hg; cases hg
  | some i => rw [hu] at hg; injection hg with hg; subst hg; exact h.give
theorem Hp.Dl.trimO {o : Int} {H' : Hp} (h : H.Dl) (hg : H.trimO o s = some H') : H'.Dl := by
  unfold Hp.trimO at hg
  cases hu : usedB H.blks o with
  | none => rw [hu] at hg; cases hg
  | some i =>
    rw [hu] at hg
    dsimp only at hg
    split at hg
    · cases hg
    · injection hg with hg; subst hg; exact h.cut

theorem giveB_cap : (H.giveB i).cap = H.cap := by unfold Hp.giveB; split <;> rfl
theorem giveC_cap : (H.giveC i).cap = H.cap := by unfold Hp.giveC; split <;> rfl
theorem give_cap : (H.give i).cap = H.cap := by unfold Hp.give; rw [giveC_cap, giveB_cap]; rfl
theorem cut_cap : (H.cut i s).cap = H.cap := by
  unfold Hp.cut
  split
  · rfl
  · rw [give_cap]; rfl
theorem take_cap : (H.take s).2.cap = H.cap := by
  unfold Hp.take
  split
  · exact cut_cap
  · split
    · rfl
    · split <;> rfl
theorem giveO_cap {o : Int} {H' : Hp} (hg : H.giveO o = some H') : H'.cap = H.cap := by
  unfold Hp.giveO at hg
  cases hu : usedB H.blks o with
  | none => rw [hu] at hg; cases hg
  | some i => rw [hu] at hg; injection hg with hg; subst hg; exact give_cap
end

/-- Bytes that are a heap: its blocks, its lists; they are right. -/
structure Rt (bs : List UInt8) (H : Hp) : Prop where
  walk : walkB bs = some H.blks
  all_ : ∀ c, c < 22 → allB bs c = some (H.lists c)
  chk : checkB bs = true
  len : bs.length ≤ H.cap
section
variable {bs : List UInt8} {H : Hp}
theorem Rt.lenE (h : Rt bs H) : lenB H.blks = bs.length := tile_len (walkB_tiles h.walk).2.1
theorem Rt.ok (h : Rt bs H) (hc : H.cap ≤ 16384) (hd : H.Dl) : H.Ok := ⟨by rw [h.lenE]; exact (walkB_tiles h.walk).2.1, by rw [h.lenE]; exact Nat.le_trans h.len hc, hd⟩
theorem Rt.few (h : Rt bs H) : H.Few 1024 := fun d hd => allB_len (h.all_ d hd)
theorem atB_mem {l : List Bk} {x : Bk} (hx : x ∈ l) : ∃ i, atB (x.off : Int) l = some i := by
  cases h : atB (x.off : Int) l with
  | some i => exact ⟨i, rfl⟩
  | none => exact absurd rfl (atB_none h x hx)
theorem Rt.listed (h : Rt bs H) : H.Listed := fun c hc o ho => by
  have hk := h.chk
  unfold checkB at hk
  rw [h.walk] at hk
  simp only [Bool.and_eq_true] at hk
  obtain ⟨al, h1, h2⟩ := chkC_true 22 0 _ hk.2.2 c (Nat.zero_le _) (by omega)
  rw [h.all_ c hc] at h1
  injection h1 with h1
  subst h1
  have h3 := List.all_eq_true.1 h2 o ho
  unfold okO at h3
  rw [Bool.and_eq_true] at h3
  have h4 := h3.1
  unfold foundB at h4
  obtain ⟨x, hx, hx2⟩ := List.any_eq_true.1 h4
  simp only [Bool.and_eq_true, beq_iff_eq] at hx2
  rw [← hx2.1]
  exact atB_mem hx
end
/-- What is used in both heaps holds what it held, as far as both go. -/
def Held (H : Hp) (bs : List UInt8) (H' : Hp) (out : List UInt8) : Prop :=
  ∀ x ∈ H.blks, x.used = true → ∀ y ∈ H'.blks, y.used = true → y.off = x.off → ∀ i, x.off + 8 ≤ i → i + 8 < x.off + x.size → i + 8 < y.off + y.size → out[i]? = bs[i]?
end Go.Proofs.YtbldlidpapdkbaaGreatDoor

/- The contracts of the document's own blocks: Word, Could, Get. -/
namespace Go.Proofs.YtbldlidpapdkbaaGreatDoor
open Go.RowKit

/-- A block's value; what Get tells. -/
def Bk.val (x : Bk) : Value := .agg #[.int .i64 (x.off : Int), .int .i64 (x.size : Int), .bool x.used]
def bkV (o : Option Bk) : Value := match o with
  | some x => x.val
  | none => .agg #[.int .i64 0, .int .i64 0, .bool false]
theorem blk_set {w : World} {g : Nat} {t : TypeId} {a b c : Value} (h : w.heap[g]? = some (.cells #[a, b, c] t (0, 0))) (x y z : Value) :
    (((w.setCell ⟨g, 0, none⟩ x).setCell ⟨g, 1, none⟩ y).setCell ⟨g, 2, none⟩ z).heap[g]? = some (.cells #[x, y, z] t (0, 0)) := by
  have h1 := heap_setCell_same w g 0 _ _ x h
  have h2 := heap_setCell_same (w.setCell ⟨g, 0, none⟩ x) g 1 _ _ y h1
  have h3 := heap_setCell_same ((w.setCell ⟨g, 0, none⟩ x).setCell ⟨g, 1, none⟩ y) g 2 _ _ z h2
  rw [h3]
  rfl
theorem blk_cells {w : World} {g : Nat} {t : TypeId} {a b c : Value} (h : w.heap[g]? = some (.cells #[a, b, c] t (0, 0))) : (w.cell? ⟨g, 0, none⟩ = some a ∧ w.cell? ⟨g, 1, none⟩ = some b ∧ w.cell? ⟨g, 2, none⟩ = some c) ∧ (w.frozen? ⟨g, 0, none⟩ = false ∧ w.frozen? ⟨g, 1, none⟩ = false ∧ w.frozen? ⟨g, 2, none⟩ = false) := by
  refine ⟨⟨?_, ?_, ?_⟩, frozen_of_row w g 0 _ _ h, frozen_of_row w g 1 _ _ h, frozen_of_row w g 2 _ _ h⟩
  · rw [cell_of_row w g 0 _ _ (0, 0) h]; rfl
  · rw [cell_of_row w g 1 _ _ (0, 0) h]; rfl
  · rw [cell_of_row w g 2 _ _ (0, 0) h]; rfl
theorem blk_ret {fn : Func} {R : Ending → World → Prop} {a : Act} {w : World} {p u : Tmp} {g : Nat} {o s : Int} {b : Bool} {x : Value} (hres : fn.results = #[.cell p 82, .tmp u]) (hp : a.tmps.getD p undef = .pointer (some ⟨g, 0, none⟩)) (hx : a.tmps.getD u undef = x) (hd : a.defers = [])
    (hg : w.heap[g]? = some (.cells #[.int .i64 o, .int .i64 s, .bool b] 82 (0, 0))) (hR : R (.returned (.tuple #[.agg #[.int .i64 o, .int .i64 s, .bool b], x])) w) : bodyPost Tryz.prog fn R .ret a w := by
  have c0 := cell_of_row w g 0 _ _ (0, 0) hg
  have c1 := cell_of_row w g 1 _ _ (0, 0) hg
  have c2 := cell_of_row w g 2 _ _ (0, 0) hg
  simp only [List.getElem?_toArray, List.getElem?_cons_zero, List.getElem?_cons_succ] at c0 c1 c2
  refine bodyPost_ret (v := .tuple #[.agg #[.int .i64 o, .int .i64 s, .bool b], x]) ?_ hd hR
  rw [results_cell_tmp hres, hp, hx]
  simp [go_sem, c0, c1, c2]

section
variable (w : World)
end
end Go.Proofs.YtbldlidpapdkbaaGreatDoor

/- The contracts of the document's own blocks: Get, all ways. -/
namespace Go.Proofs.YtbldlidpapdkbaaGreatDoor
open Go.RowKit

section
variable (w : World)

end
end Go.Proofs.YtbldlidpapdkbaaGreatDoor

/- The contracts of the document's own blocks: Ahead, all ways. -/
namespace Go.Proofs.YtbldlidpapdkbaaGreatDoor
open Go.RowKit

theorem heap_lt' {w : World} {g : Nat} {o : Obj} (h : w.heap[g]? = some o) : g < w.heap.size := by
  rcases Nat.lt_or_ge g w.heap.size with h1 | h1
  · exact h1
  · rw [Array.getElem?_eq_none h1] at h; cases h

section
variable (w : World)

end
end Go.Proofs.YtbldlidpapdkbaaGreatDoor

/- The contracts of the document's own blocks: Lay, Set. -/
namespace Go.Proofs.YtbldlidpapdkbaaGreatDoor
open Go.RowKit

theorem u8_infb : (Tryz.prog.info? 5).map (fun i => (i.zero, i.size, i.bytes)) = some (some (.int .u8 0), 1, 1) := by kernel_rfl
/-- A number laid at an offset. -/
def layN (bs : List UInt8) (o v : Nat) : List UInt8 := lay bs o (lowB 8 v)
section
variable (w : World)
end
end Go.Proofs.YtbldlidpapdkbaaGreatDoor

/- The contracts of the document's own blocks: Set. -/
namespace Go.Proofs.YtbldlidpapdkbaaGreatDoor
open Go.RowKit

/-- Both tags of a block laid; none: it can't be. -/
def setB (bs : List UInt8) (o s : Int) (u : Bool) : Option (List UInt8) :=
  if isSz s = true ∧ could bs.length o s = true then some (layN (layN bs o.toNat (packN s u)) (o + s - 8).toNat (packN s u)) else none
section
variable (w : World)
end
end Go.Proofs.YtbldlidpapdkbaaGreatDoor

/- The contracts of the document's own blocks: Walk. -/
namespace Go.Proofs.YtbldlidpapdkbaaGreatDoor
open Go.RowKit

/-- Blocks as cells. -/
def flatK : List Bk → List Value
  | [] => []
  | x :: r => .int .i64 (x.off : Int) :: .int .i64 (x.size : Int) :: .bool x.used :: flatK r
theorem flatK_append (a b : List Bk) : flatK (a ++ b) = flatK a ++ flatK b := by
  induction a with
  | nil => rfl
  | cons x r ih => simp [flatK, ih]
theorem flatK_get : ∀ (l : List Bk) (i : Nat) (x : Bk), l[i]? = some x → (flatK l)[i * 3]? = some (.int .i64 (x.off : Int)) ∧ (flatK l)[i * 3 + 1]? = some (.int .i64 (x.size : Int)) ∧ (flatK l)[i * 3 + 2]? = some (.bool x.used)
  | [], _, _, h => by simp at h
  | y :: r, 0, x, h => by
    simp at h; subst h
    exact ⟨rfl, rfl, rfl⟩
  | y :: r, i + 1, x, h => by
    have := flatK_get r i x (by simpa using h)
    have e : (i + 1) * 3 = i * 3 + 1 + 1 + 1 := by omega
    rw [e]
    exact ⟨by simpa [flatK] using this.1, by simpa [flatK] using this.2.1, by simpa [flatK] using this.2.2⟩
theorem bk_inf : (Tryz.prog.info? 82).map (fun i => (i.zero, i.size, i.bytes)) = some (some (.agg #[.int .i64 0, .int .i64 0, .bool false]), 3, 24) := by kernel_rfl
theorem own_sl {w : World} {base n size : Nat} {t : TypeId} {v : Value} {xs : List Value} (h : w.ownsRow base t size v n xs) : ∃ A c, v = .slice A n c := by
  rcases h.2 with ⟨rfl, h0⟩ | ⟨g, cap, cur, rfl, _⟩
  · rw [h0]; exact ⟨none, 0, rfl⟩
  · exact ⟨_, _, rfl⟩
theorem own_below' {w w' : World} {base n size : Nat} {t : TypeId} {v : Value} {xs : List Value} (h : w.ownsRow base t size v n xs) (hb : Below w.heap.size w w') : w'.ownsRow base t size v n xs := by
  refine ⟨h.1, ?_⟩
  rcases h.2 with h2 | ⟨g, cap, cur, hv, hg, hh, r⟩
  · exact .inl h2
  · refine .inr ⟨g, cap, cur, hv, hg, ?_, r⟩
    have := (h.lt g (by rw [hv]; rfl)).2
    rw [hb.block g this]; exact hh

section
variable (w : World)
end
end Go.Proofs.YtbldlidpapdkbaaGreatDoor

/- The contracts of the laws' words: Pick, Blocks and Ints of lists that are the same. -/
namespace Go.Proofs.YtbldlidpapdkbaaGreatDoor
open Go.RowKit

/-- A slice of blocks reads so; a slice of numbers. -/
def BkRd (w : World) (B : Nat) (A : Option Addr) (l : List Bk) : Prop := 0 < l.length → ∃ b o, A = some ⟨b, o, none⟩ ∧ b < B ∧ ∀ j x, l[j]? = some x →
  w.cell? ⟨b, o + j * 3, none⟩ = some (.int .i64 (x.off : Int)) ∧ w.cell? ⟨b, o + j * 3 + 1, none⟩ = some (.int .i64 (x.size : Int)) ∧ w.cell? ⟨b, o + j * 3 + 2, none⟩ = some (.bool x.used)
def IRd (w : World) (B : Nat) (A : Option Addr) (l : List Int) : Prop := 0 < l.length → ∃ b o, A = some ⟨b, o, none⟩ ∧ b < B ∧ ∀ j x, l[j]? = some x → w.cell? ⟨b, o + j, none⟩ = some (.int .i64 x)
/-- A number, or a block, that is laid. -/
structure La where
  what : Int
  at_ : Int
  v : Nat
/-- A slice of such. -/
def LaRd (w : World) (B : Nat) (A : Option Addr) (l : List La) : Prop := 0 < l.length → ∃ b o, A = some ⟨b, o, none⟩ ∧ b < B ∧ ∀ j x, l[j]? = some x →
  w.cell? ⟨b, o + j * 3, none⟩ = some (.int .i64 x.what) ∧ w.cell? ⟨b, o + j * 3 + 1, none⟩ = some (.int .i64 x.at_) ∧ w.cell? ⟨b, o + j * 3 + 2, none⟩ = some (.int .u64 (x.v : Int)) ∧
  (-9223372036854775808 ≤ x.what ∧ x.what ≤ 9223372036854775807) ∧ (-9223372036854775808 ≤ x.at_ ∧ x.at_ ≤ 9223372036854775807) ∧ x.v < 18446744073709551616
theorem LaRd.below {w w' : World} {B : Nat} {A : Option Addr} {l : List La} (h : LaRd w B A l) (hb : Below B w w') : LaRd w' B A l := fun hn => by
  obtain ⟨b, o, e, hB, hc⟩ := h hn
  refine ⟨b, o, e, hB, fun j x hx => ?_⟩
  obtain ⟨h0, h1, h2, h3⟩ := hc j x hx
  exact ⟨(hb.cell (p := ⟨b, _, none⟩) hB).trans h0, (hb.cell (p := ⟨b, _, none⟩) hB).trans h1, (hb.cell (p := ⟨b, _, none⟩) hB).trans h2, h3⟩

theorem BkRd.below {w w' : World} {B : Nat} {A : Option Addr} {l : List Bk} (h : BkRd w B A l) (hb : Below B w w') : BkRd w' B A l := fun hn => by
  obtain ⟨b, o, e, hB, hc⟩ := h hn
  refine ⟨b, o, e, hB, fun j x hx => ?_⟩
  obtain ⟨h0, h1, h2⟩ := hc j x hx
  exact ⟨(hb.cell (p := ⟨b, _, none⟩) hB).trans h0, (hb.cell (p := ⟨b, _, none⟩) hB).trans h1, (hb.cell (p := ⟨b, _, none⟩) hB).trans h2⟩
theorem BkRd.more {w : World} {B B' : Nat} {A : Option Addr} {l : List Bk} (h : BkRd w B A l) (hB : B ≤ B') : BkRd w B' A l := fun hn => by
  obtain ⟨b, o, e, h1, hc⟩ := h hn
  exact ⟨b, o, e, Nat.lt_of_lt_of_le h1 hB, hc⟩
theorem IRd.below {w w' : World} {B : Nat} {A : Option Addr} {l : List Int} (h : IRd w B A l) (hb : Below B w w') : IRd w' B A l := fun hn => by
  obtain ⟨b, o, e, hB, hc⟩ := h hn
  exact ⟨b, o, e, hB, fun j x hx => (hb.cell (p := ⟨b, _, none⟩) hB).trans (hc j x hx)⟩
theorem IRd.more {w : World} {B B' : Nat} {A : Option Addr} {l : List Int} (h : IRd w B A l) (hB : B ≤ B') : IRd w B' A l := fun hn => by
  obtain ⟨b, o, e, h1, hc⟩ := h hn
  exact ⟨b, o, e, Nat.lt_of_lt_of_le h1 hB, hc⟩
theorem pk_i {k : IntKind} {a b : Int} (h : a = b) : Ending.returned (.int k a) = .returned (.int k b) := by rw [h]

set_option maxRecDepth 100000 in
set_option maxHeartbeats 400000 in
theorem lpick_any (n : Int) (m : Nat) (w : World) (hm : 0 < m) (hm2 : m ≤ 1000000) (p : Nat) (hp : (n % (m : Int)).toNat = p) :
    Calls Tryz.prog 33 #[.int .i64 n, .int .i64 (m : Int)] w fun e w' => e = .returned (.int .i64 (p : Int)) ∧ w = w' := by
  have h1 := Int.emod_nonneg n (b := (m : Int)) (by omega)
  have h2 := Int.emod_lt_of_pos n (b := (m : Int)) (by omega)
  obtain ⟨e, he⟩ : ∃ e, n % (m : Int) = e := ⟨_, rfl⟩
  rw [he] at h1 h2 hp
  have h3 : (n.tmod (m : Int) = e) ∨ (n.tmod (m : Int) = e - m) := by
    have := Int.tmod_eq_emod (a := n) (b := (m : Int))
    rw [he] at this
    rw [this]
    split
    · left; simp
    · right; simp
  obtain ⟨r, hr⟩ : ∃ r, n.tmod (m : Int) = r := ⟨_, rfl⟩
  rw [hr] at h3
  clear he
  have hm0 : ((m : Int) == 0) = false := by rw [beq_eq_false_iff_ne]; omega
  by_cases h4 : r < 0
  · have h6 : -1000000 ≤ r := by omega
    have h5 : r + (m : Int) = (p : Int) := by omega
    have H5 := Lib.hid h5
    clear h3 h5 hp
    go_enter Tryz.func33, Tryz.ntmps33
    go_wp2
    go_ret
    exact ⟨pk_i H5.out, rfl⟩
  · have h5 : r = (p : Int) := by omega
    have H5 := Lib.hid h5
    clear h3 h5 hp
    go_enter Tryz.func33, Tryz.ntmps33
    go_wp2
    go_ret
    exact ⟨pk_i H5.out, rfl⟩

end Go.Proofs.YtbldlidpapdkbaaGreatDoor

/- The contracts of the document's own lists: num, bit, one, Free, Member. -/
namespace Go.Proofs.YtbldlidpapdkbaaGreatDoor
open Go.RowKit

theorem layN_eq (bs : List UInt8) (o v : Nat) : layN bs o v = lyN bs o v := by
  unfold layN lay lyN
  rw [lowB_length]

section
variable (w : World)
end
end Go.Proofs.YtbldlidpapdkbaaGreatDoor

/- The contracts of the document's own lists: mark, Put. -/
namespace Go.Proofs.YtbldlidpapdkbaaGreatDoor
open Go.RowKit

section
variable (w : World)
end
end Go.Proofs.YtbldlidpapdkbaaGreatDoor

/- The contracts of the document's own lists: Put, all ways. -/
namespace Go.Proofs.YtbldlidpapdkbaaGreatDoor
open Go.RowKit

section
variable (w : World)

end
end Go.Proofs.YtbldlidpapdkbaaGreatDoor

/- The contracts of the document's own lists: All. -/
namespace Go.Proofs.YtbldlidpapdkbaaGreatDoor
open Go.RowKit

theorem int_inf : (Tryz.prog.info? 3).map (fun i => (i.zero, i.size, i.bytes)) = some (some (.int .i64 0), 1, 8) := by kernel_rfl
def iV (n : Nat) : Value := .int .i64 (n : Int)
section
variable (w : World)
end
end Go.Proofs.YtbldlidpapdkbaaGreatDoor

/- The contracts of the document's own fits: Find. -/
namespace Go.Proofs.YtbldlidpapdkbaaGreatDoor
open Go.RowKit

theorem find_take {p : Nat → Bool} {l : List Nat} {j o : Nat} (h : ∀ q ∈ l.take j, p q = false) (hj : l[j]? = some o) (ho : p o = true) : l.find? p = some o := by
  have hlt : j < l.length := by
    rcases Nat.lt_or_ge j l.length with h | h
    · exact h
    · rw [List.getElem?_eq_none h] at hj; cases hj
  rw [List.getElem?_eq_getElem hlt] at hj
  injection hj with hj
  have e : l = l.take j ++ (o :: l.drop (j + 1)) := by rw [← hj, ← List.drop_eq_getElem_cons hlt, List.take_append_drop]
  rw [e, List.find?_append]
  have hn : (l.take j).find? p = none := List.find?_eq_none.2 fun q hq => by rw [h q hq]; simp
  rw [hn, Option.none_or, List.find?_cons_of_pos ho]
theorem find_none' {p : Nat → Bool} {l : List Nat} (h : ∀ q ∈ l, p q = false) : l.find? p = none := List.find?_eq_none.2 fun q hq => by rw [h q hq]; simp

theorem allF_member (bs : List UInt8) (c : Nat) : ∀ (k last p : Nat) (l : List Nat), allF bs c k last p = some l → ∀ o ∈ l, memberB bs o (c : Int) = true
  | 0, last, p, l, h, o, ho => by
    unfold allF at h
    split at h
    · injection h with h; subst h; cases ho
    · cases h
  | k + 1, last, p, l, h, o, ho => by
    unfold allF at h
    by_cases hp : p = 0
    · rw [if_pos hp] at h; injection h with h; subst h; cases ho
    · rw [if_neg hp] at h
      dsimp only at h
      by_cases hm : memberB bs p (c : Int) = true ∧ wordN bs (p + 16) = last
      · rw [if_pos hm] at h
        cases hr : allF bs c k p (wordN bs (p + 8)) with
        | none => rw [hr] at h; cases h
        | some l' =>
          rw [hr] at h
          injection h with h
          subst h
          rcases List.mem_cons.1 ho with e | ho
          · rw [e]; exact hm.1
          · exact allF_member bs c k p _ l' hr o ho
      · rw [if_neg hm] at h; cases h
theorem allB_member {bs : List UInt8} {c : Nat} {l : List Nat} (h : allB bs c = some l) : ∀ o ∈ l, memberB bs o (c : Int) = true := by
  unfold allB at h
  split at h
  · cases h
  · split at h
    · cases h
    · exact allF_member bs c _ _ _ l h
theorem memberB_get {bs : List UInt8} {p : Nat} {c : Int} (h : memberB bs p c = true) : p ≤ 20000 ∧ ∃ x, getB bs (p : Int) = some x := by
  unfold memberB at h
  cases hg : getB bs (p : Int) with
  | none => rw [hg] at h; simp at h
  | some x => rw [hg] at h; simp at h; exact ⟨h.1, x, rfl⟩
section
variable (w : World)
end
end Go.Proofs.YtbldlidpapdkbaaGreatDoor

/- The contracts of the document's own fits: Rebuild. -/
namespace Go.Proofs.YtbldlidpapdkbaaGreatDoor
open Go.RowKit

theorem own_bks {w : World} {base n : Nat} {t : TypeId} {A : Option Addr} {c : Nat} {l : List Bk} (h : w.ownsRow base t 3 (.slice A n c) n (flatK l)) (hn : n = l.length) : BkRd w w.heap.size A l := fun h0 => by
  rcases h.2 with ⟨_, h0'⟩ | ⟨g, _, _, h', _⟩
  · omega
  · injection h' with e
    subst e
    refine ⟨g, 0, rfl, (h.lt g rfl).2, fun j x hx => ?_⟩
    obtain ⟨q0, q1, q2⟩ := flatK_get l j x hx
    have hj : j < l.length := by
      rcases Nat.lt_or_ge j l.length with h | h
      · exact h
      · rw [List.getElem?_eq_none h] at hx; cases hx
    refine ⟨?_, ?_, ?_⟩
    · rw [Nat.zero_add, h.cellAt (j * 3) (by omega), q0]
    · rw [Nat.zero_add, h.cellAt (j * 3 + 1) (by omega), q1]
    · rw [Nat.zero_add, h.cellAt (j * 3 + 2) (by omega), q2]

/-- make([]byte, n): a block of n bytes that are 0. -/
theorem run_mk0 (n : Nat) (hn : n ≤ 1000000) (z : List UInt8) (hz : List.replicate n (0 : UInt8) = z) (W : World) : (Instr.makeSlice 36 (.int .i64 (n : Int)) (.int .i64 (n : Int))).run Tryz.prog W = .ok (.slice (some ⟨W.heap.size, 0, none⟩) n n) (W.alloc (.cells (rowB z) 5)) := by
  have := run_make_row' (P := Tryz.prog) 36 5 (.int .u8 0) 1 Tryz.underlying36 u8_infb rfl .i64 .i64 n (by omega) (by omega) W
  rw [rowB_zeros, hz] at this
  exact this
theorem mk_run {P : Program} {o : Oper} {a : Act} {w w1 : World} {v L C : Value} {t : TypeId} {l c : Operand} (ho : o.op = .makeSlice t l c) (hl : a.eval l = L) (hc : a.eval c = C)
    (hr : (Instr.makeSlice t L C).run P w = .ok v w1) : (execOp a.eval o).run P w = .ok (.value v) w1 := by
  unfold execOp
  simp only [ho]
  rw [hl, hc, Sem.run_bind, hr]
  rfl

section
variable (w : World)
end
end Go.Proofs.YtbldlidpapdkbaaGreatDoor

/- The contracts of the document's own check: in, Check. -/
namespace Go.Proofs.YtbldlidpapdkbaaGreatDoor
open Go.RowKit

section
variable (w : World)
end
end Go.Proofs.YtbldlidpapdkbaaGreatDoor

/- Layer 8's laws over the contracts of the program's two functions: the head, ClassTells. -/
namespace Go.Proofs.YtbldlidpapdkbaaGreatDoor
open Go.RowKit

def NeedC : Prop := ∀ (w : World) (n : Nat), n < 18446744073709551616 → Calls Tryz.prog 56 #[.int .u64 (n : Int)] w fun e w' => e = .returned (needV (needN n)) ∧ Below w.heap.size w w'
def ClassC : Prop := ∀ (w : World) (s : Int), (-9223372036854775808 ≤ s ∧ s ≤ 9223372036854775807) → Calls Tryz.prog 106 #[.int .i64 s] w fun e w' => e = .returned (.int .i64 (classI s)) ∧ Below w.heap.size w w'

end Go.Proofs.YtbldlidpapdkbaaGreatDoor

/- The program's classes: isSize, bits.Len, Need, Class. -/
namespace Go.Proofs.YtbldlidpapdkbaaGreatDoor
open Go.RowKit

section
variable (w : World)
set_option maxHeartbeats 400000 in
theorem cissize_any (n : Int) (hn : -9223372036854775808 ≤ n ∧ n ≤ 9223372036854775807) (b : Bool) (hb : isSz n = b) :
    Calls Tryz.prog 130 #[.int .i64 n] w fun e w' => e = .returned (.bool b) ∧ w = w' := by
  by_cases h1 : 32 ≤ n
  · by_cases h2 : n ≤ 16384
    · have e : (n % 16 == 0) = b := by rw [← hb]; simp [isSz, h1, h2]
      have HE := Lib.hid e
      clear hb e
      go_enter Tryz.func130, Tryz.ntmps130
      go_wp2
      go_ret
      exact ⟨rt_b HE.out, rfl⟩
    · obtain rfl : false = b := by rw [← hb]; simp [isSz, h2]
      clear hb
      go_enter Tryz.func130, Tryz.ntmps130
      go_wp2
      go_ret
      exact ⟨rfl, rfl⟩
  · obtain rfl : false = b := by rw [← hb]; simp [isSz, h1]
    clear hb
    go_enter Tryz.func130, Tryz.ntmps130
    go_wp2
    go_ret
    exact ⟨rfl, rfl⟩

theorem len8_le : ∀ q : Fin 256, 0 ≤ Lib.len8 (q.1 : Int) ∧ Lib.len8 (q.1 : Int) ≤ 8 := by decide +kernel
set_option maxHeartbeats 4000000 in
set_option maxRecDepth 100000 in
theorem blen64_int (x : Int) (h0 : 0 ≤ x) (h1 : x ≤ 255) : Calls Tryz.prog 142 #[.int .u64 x] w fun e w' => e = .returned (.int .i64 (wrap64 (wrap64 (Lib.len8 x)))) ∧ w = w' := by
  go_enter Tryz.func142, Tryz.ntmps142
  go_wp2
  go_ret
  exact ⟨rfl, rfl⟩
theorem blen64_any (q : Nat) (hq : q ≤ 255) : Calls Tryz.prog 142 #[.int .u64 (q : Int)] w fun e w' => e = .returned (.int .i64 (Lib.len8 (q : Int))) ∧ w = w' := by
  have hl := len8_le ⟨q, by omega⟩
  have h := blen64_int w (q : Int) (by omega) (by omega)
  have e : wrap64 (wrap64 (Lib.len8 (q : Int))) = Lib.len8 (q : Int) := by
    simp only at hl
    unfold wrap64
    omega
  rw [e] at h
  exact h
set_option maxHeartbeats 400000 in
theorem blen_any (q : Nat) (hq : q ≤ 255) : Calls Tryz.prog 131 #[.int .u64 (q : Int)] w fun e w' => e = .returned (.int .i64 (Lib.len8 (q : Int))) ∧ w = w' := by
  have H := Lib.hid (blen64_any w q hq)
  go_enter Tryz.func131, Tryz.ntmps131
  go_wp2_with fail
  refine H.out.mono ?_
  rintro e w1 ⟨rfl, rfl⟩
  go_wp2
  go_ret
  exact ⟨rfl, rfl⟩

theorem class_len : ∀ q : Fin 65, 1 ≤ q.1 → (q.1 < 2 ∧ Lib.len8 (q.1 : Int) = 1) ∨ (2 ≤ q.1 ∧ q.1 < 4 ∧ Lib.len8 (q.1 : Int) = 2) ∨ (4 ≤ q.1 ∧ q.1 < 8 ∧ Lib.len8 (q.1 : Int) = 3) ∨ (8 ≤ q.1 ∧ q.1 < 16 ∧ Lib.len8 (q.1 : Int) = 4) ∨ (16 ≤ q.1 ∧ q.1 < 32 ∧ Lib.len8 (q.1 : Int) = 5) ∨ (32 ≤ q.1 ∧ q.1 < 64 ∧ Lib.len8 (q.1 : Int) = 6) ∨ (q.1 = 64 ∧ Lib.len8 (q.1 : Int) = 7) := by decide +kernel
end

theorem nv_some {x : Int} {s : Nat} (h : x = (s : Int)) : Ending.returned (.tuple #[.int .i64 x, .bool true]) = .returned (needV (some s)) := by rw [h]; rfl

theorem needC : NeedC := by
  intro w n hn
  by_cases h : n ≤ 16368
  · obtain ⟨s, hs⟩ : ∃ s, needN n = some s := ⟨_, if_pos h⟩
    have e : s = max 32 ((n + 31) / 16 * 16) := by
      have h2 : needN n = some (max 32 ((n + 31) / 16 * 16)) := if_pos h
      rw [h2] at hs
      injection hs with hs
      exact hs.symm
    rw [hs]
    have E := Lib.hid (show s = max 32 ((n + 31) / 16 * 16) from e)
    clear hs e
    go_enter Tryz.func56, Tryz.ntmps56
    go_wp2
    all_goals (go_ret2; exact ⟨nv_some (by have := E.out; omega), Below.refl _ _⟩)
  · rw [show needN n = none from if_neg h]
    go_enter Tryz.func56, Tryz.ntmps56
    go_wp2
    go_ret2
    exact ⟨rfl, Below.refl _ _⟩

theorem classC : ClassC := by
  intro w s hs
  cases hb : isSz s
  · rw [show classI s = -1 by simp [classI, hb]]
    have HI := Lib.hid (cissize_any w s hs false hb)
    clear hb
    go_enter Tryz.func106, Tryz.ntmps106
    go_wp2_with fail
    with_reducible refine HI.out.mono ?_
    rintro e w1 ⟨rfl, rfl⟩
    go_wp2
    go_ret
    exact ⟨rfl, Below.refl _ _⟩
  · have h := (isSz_iff s).1 hb
    have HI := Lib.hid (cissize_any w s hs true hb)
    by_cases h0 : s ≤ 256
    · have e : (s - 32) / 16 = classI s := by
        unfold classI
        rw [if_neg (by simp [hb]), if_pos h0]
        omega
      obtain ⟨c, hc⟩ : ∃ c, classI s = c := ⟨_, rfl⟩
      rw [hc] at e ⊢
      have HC := Lib.hid e
      clear e hc hb
      go_enter Tryz.func106, Tryz.ntmps106
      go_wp2_with fail
      with_reducible refine HI.out.mono ?_
      rintro e w1 ⟨rfl, rfl⟩
      go_wp2
      go_ret
      exact ⟨rt_i HC.out, Below.refl _ _⟩
    · obtain ⟨q, hq⟩ : ∃ q : Nat, s / 256 = (q : Int) := ⟨(s / 256).toNat, by omega⟩
      have hq1 : 1 ≤ q ∧ q ≤ 64 := by omega
      have cl := class_len ⟨q, by omega⟩ hq1.1
      simp only at cl
      have e : 14 + Lib.len8 (q : Int) = classI s := by
        unfold classI
        rw [if_neg (by simp [hb]), if_neg h0]
        rcases cl with ⟨_, cl⟩ | ⟨_, _, cl⟩ | ⟨_, _, cl⟩ | ⟨_, _, cl⟩ | ⟨_, _, cl⟩ | ⟨_, _, cl⟩ | ⟨_, cl⟩ <;> rw [cl] <;> (repeat' split) <;> omega
      obtain ⟨c, hc⟩ : ∃ c, classI s = c := ⟨_, rfl⟩
      rw [hc] at e ⊢
      have hl := len8_le ⟨q, by omega⟩
      simp only at hl
      have HC := Lib.hid e
      have HL := Lib.hid (fun W => blen_any W q (by omega))
      clear e hc hb cl
      obtain ⟨l, hl8⟩ : ∃ l, Lib.len8 (q : Int) = l := ⟨_, rfl⟩
      rw [hl8] at HC HL hl
      clear hl8
      go_enter Tryz.func106, Tryz.ntmps106
      go_wp2_with fail
      with_reducible refine HI.out.mono ?_
      rintro e w1 ⟨rfl, rfl⟩
      go_wp2_with fail
      refine (HL.out _).mono ?_
      rintro e w1 ⟨rfl, rfl⟩
      go_wp2
      go_ret
      exact ⟨rt_i HC.out, Below.refl _ _⟩
end Go.Proofs.YtbldlidpapdkbaaGreatDoor

/- What the program's blocks (layer 7) are to tell: the words in which the laws of the layers above ask for it. -/
namespace Go.Proofs.YtbldlidpapdkbaaGreatDoor
open Go.RowKit

/-- No error, or one of api's. -/
def errV (ok : Bool) (k : Int) : Value := match ok with
  | true => .nilIface
  | false => .iface 68 (.int .i64 k)
/-- A block, or an error. -/
def BlkTold (x : Option Bk) (w : World) (e : Ending) (w' : World) : Prop := e = .returned (.tuple #[bkV x, errV x.isSome 3]) ∧ Below w.heap.size w w'
/-- Blocks, or an error. -/
def BlksTold (x : Option (List Bk)) (w : World) (e : Ending) (w' : World) : Prop :=
  ∃ A' c', e = .returned (.tuple #[.slice A' (x.getD []).length c', errV x.isSome 3]) ∧ w'.ownsRow w.heap.size 82 3 (.slice A' (x.getD []).length c') (x.getD []).length (flatK (x.getD [])) ∧ Below w.heap.size w w'
/-- The arena has other bytes, or there is an error, and all is as it was. -/
def Done (k : Int) (t : TypeId) (g base cap : Nat) (A : Option Addr) (y : Option (List UInt8)) (w : World) (e : Ending) (w' : World) : Prop :=
  match y with
  | none => e = .returned (errV false k) ∧ Below w.heap.size w w'
  | some out => e = .returned (errV true k) ∧ Became t g base cap A out w w'

def GetC : Prop := ∀ (w : World) (g base cap c : Nat) (A : Option Addr) (bs : List UInt8) (o : Int) (x : Option Bk), Ar w 80 g base cap A c bs → base ≤ 4611686018427387904 → bs.length ≤ 16384 → (-9223372036854775808 ≤ o ∧ o ≤ 9223372036854775807) → getB bs o = x →
  Calls Tryz.prog 73 #[.pointer (some ⟨g, 0, none⟩), .int .i64 o] w fun e w' => BlkTold x w e w'
def AheadC : Prop := ∀ (w : World) (g base cap c : Nat) (A : Option Addr) (bs : List UInt8) (o : Int) (x : Option Bk), Ar w 80 g base cap A c bs → base ≤ 4611686018427387904 → bs.length ≤ 16384 → (-9223372036854775808 ≤ o ∧ o ≤ 9223372036854775807) → aheadB bs o = x →
  Calls Tryz.prog 134 #[.pointer (some ⟨g, 0, none⟩), .int .i64 o] w fun e w' => BlkTold x w e w'
def SetC : Prop := ∀ (w : World) (g base cap c : Nat) (A : Option Addr) (bs : List UInt8) (o s : Int) (u : Bool) (y : Option (List UInt8)), Ar w 80 g base cap A c bs → base ≤ 4611686018427387904 → bs.length ≤ 16384 → (-9223372036854775808 ≤ o ∧ o ≤ 9223372036854775807) → (-9223372036854775808 ≤ s ∧ s ≤ 9223372036854775807) → setB bs o s u = y →
  Calls Tryz.prog 118 #[.pointer (some ⟨g, 0, none⟩), .agg #[.int .i64 o, .int .i64 s, .bool u]] w fun e w' => Done 1 80 g base cap A y w e w'
def WalkC : Prop := ∀ (w : World) (g base cap c : Nat) (A : Option Addr) (bs : List UInt8) (x : Option (List Bk)), Ar w 80 g base cap A c bs → base ≤ 4611686018427387904 → bs.length ≤ 16384 → walkB bs = x →
  Calls Tryz.prog 43 #[.pointer (some ⟨g, 0, none⟩)] w fun e w' => BlksTold x w e w'

theorem setB_of (bs : List UInt8) (x : Bk) (h1 : 184 ≤ x.off) (h2 : x.off % 16 = 8) (h3 : x.off + x.size ≤ bs.length) (h4 : isSz (x.size : Int) = true) : setB bs (x.off : Int) (x.size : Int) x.used = some (setT bs x) := by
  have h5 := (isSz_iff _).1 h4
  unfold setB setT tagN
  rw [if_pos ⟨h4, (could_iff _ _ _).2 (by omega)⟩, layN_eq, layN_eq]
  have e : ((x.off : Int) + (x.size : Int) - 8).toNat = x.off + x.size - 8 := by omega
  rw [e]
  simp
theorem BkRd.of_own {w : World} {base : Nat} {t : TypeId} {A : Option Addr} {c : Nat} {l : List Bk} (h : w.ownsRow base t 3 (.slice A l.length c) l.length (flatK l)) : BkRd w w.heap.size A l := own_bks h rfl

end Go.Proofs.YtbldlidpapdkbaaGreatDoor

/- The contracts of what the program's blocks are made of: isPlace, address, and an arena's Word at an offset. -/
namespace Go.Proofs.YtbldlidpapdkbaaGreatDoor
open Go.RowKit

/-- What an offset means. -/
def adr (base : Nat) (o : Int) : Nat := (((base : Int) + o) % 18446744073709551616).toNat
theorem adr_lt (base : Nat) (o : Int) : adr base o < 18446744073709551616 := by unfold adr; omega
theorem adr_pos (base : Nat) (hb : base ≤ 4611686018427387904) (o : Nat) (ho : (o : Int) ≤ 9223372036854775807) : adr base (o : Int) = base + o := by unfold adr; omega
theorem adr_neg (base : Nat) (hb : base ≤ 4611686018427387904) (o : Int) (ho : -9223372036854775900 ≤ o ∧ o ≤ 9223372036854775807) (n k : Nat) (hn : n + k ≤ 1000000) (hk : 1 ≤ k) (h : o < 0 ∨ (n : Int) < o + k) : base ≤ adr base o → n < adr base o - base + k := by unfold adr; omega
/-- The number at an offset, or an error. -/
def wdV (o : Option Nat) : Value := match o with
  | some v => .tuple #[.int .u64 (v : Int), .nilIface]
  | none => .tuple #[.int .u64 0, .iface 68 (.int .i64 2)]
/-- May a block stand at o, as far as o tells? -/
def plc (o : Int) : Bool := decide (184 ≤ o) && (o % 16 == 8)
theorem plc_iff (o : Int) : plc o = true ↔ 184 ≤ o ∧ o % 16 = 8 := by simp [plc]

section
variable {w : World} {g base cap c : Nat} {A : Option Addr} {bs : List UInt8}
theorem word_at (h : Ar w 80 g base cap A c bs) (hb : base ≤ 4611686018427387904) (hl : bs.length ≤ 16384) (o : Int) (ho : -9223372036854775900 ≤ o ∧ o ≤ 9223372036854775807) (x : Option Nat) (hx : word? bs o = x) :
    Calls Tryz.prog 103 #[.pointer (some ⟨g, 0, none⟩), .int .u64 (adr base o : Int)] w fun e w' => e = .returned (wdV x) ∧ w = w' := by
  subst hx
  by_cases h1 : 0 ≤ o ∧ o + 8 ≤ bs.length
  · obtain ⟨p, rfl⟩ : ∃ p : Nat, o = (p : Int) := ⟨o.toNat, by omega⟩
    have e : word? bs (p : Int) = some (wordN bs p) := by unfold word?; rw [if_pos (by omega)]; rfl
    rw [e, adr_pos base hb p (by omega)]
    exact word_ok h (by omega) (base + p) p (by omega) (by omega) (by omega) (by omega)
  · have e : word? bs o = none := by unfold word?; rw [if_neg h1]
    rw [e]
    exact word_no h (by omega) (adr base o) (adr_lt _ _) (adr_neg base hb o ho bs.length 8 (by omega) (by omega) (by omega))

set_option maxHeartbeats 400000 in
theorem address_any (h : Ar w 80 g base cap A c bs) (o : Int) :
    Calls Tryz.prog 104 #[.pointer (some ⟨g, 0, none⟩), .int .i64 o] w fun e w' => e = .returned (.int .u64 (adr base o : Int)) ∧ w = w' := by
  have HB := Lib.hid (base_any h)
  go_enter Tryz.func104, Tryz.ntmps104
  go_wp2_with fail
  refine HB.out.mono ?_
  rintro e w1 ⟨rfl, rfl⟩
  go_wp2
  go_ret
  exact ⟨rt_i (by simp only [IntKind.wrap_u64]; unfold adr; omega), rfl⟩

set_option maxHeartbeats 400000 in
theorem isplace_any (w : World) (o : Int) (ho : -9223372036854775808 ≤ o ∧ o ≤ 9223372036854775807) (b : Bool) (hb : plc o = b) :
    Calls Tryz.prog 102 #[.int .i64 o] w fun e w' => e = .returned (.bool b) ∧ w = w' := by
  by_cases h1 : 184 ≤ o
  · have e : ((o - 184) % 16 == 0) = b := by
      rw [← hb]
      unfold plc
      rw [decide_eq_true h1, Bool.true_and, Bool.eq_iff_iff, beq_iff_eq, beq_iff_eq]
      omega
    have HE := Lib.hid e
    clear hb e
    go_enter Tryz.func102, Tryz.ntmps102
    go_wp2
    go_ret
    exact ⟨rt_b HE.out, rfl⟩
  · obtain rfl : false = b := by rw [← hb]; simp [plc, h1]
    clear hb
    go_enter Tryz.func102, Tryz.ntmps102
    go_wp2
    go_ret
    exact ⟨rfl, rfl⟩
end
end Go.Proofs.YtbldlidpapdkbaaGreatDoor

/- The contract of the program's Get: the block at an offset, all ways. -/
namespace Go.Proofs.YtbldlidpapdkbaaGreatDoor
open Go.RowKit

section
variable {w : World} {g base cap c : Nat} {A : Option Addr} {bs : List UInt8}
set_option maxHeartbeats 1000000 in
theorem get_1 (h : Ar w 80 g base cap A c bs) (o : Int) (ho : -9223372036854775808 ≤ o ∧ o ≤ 9223372036854775807) (hc : plc o = false) :
    Calls Tryz.prog 73 #[.pointer (some ⟨g, 0, none⟩), .int .i64 o] w fun e w' => e = .returned (.tuple #[bkV none, errV false 3]) ∧ Below w.heap.size w w' := by
  obtain ⟨w1, hw1⟩ : ∃ w1, w.alloc (.cells #[.int .i64 0, .int .i64 0, .bool false] 82) = w1 := ⟨_, rfl⟩
  have hb1 : Below w.heap.size w w1 := by rw [← hw1]; exact (Below.refl _ _).alloc (Nat.le_refl _) _
  have hn1 : w1.heap[w.heap.size]? = some (.cells #[.int .i64 0, .int .i64 0, .bool false] 82 (0, 0)) := by rw [← hw1]; exact heap_alloc_new w _
  have h1 := h.below hb1
  have HC := Lib.hid (isplace_any w1 o ho false hc)
  have HW1 := Lib.hid hw1
  have HB1 := Lib.hid hb1
  have HN1 := Lib.hid hn1
  clear hc hw1 hb1 hn1 h1 h
  go_enter Tryz.func73, Tryz.ntmps73
  go_wp2_with fail
  rw [HW1.out]
  with_reducible refine HC.out.mono ?_
  rintro e w2 ⟨rfl, rfl⟩
  obtain ⟨⟨c0, c1, c2⟩, f0, f1, f2⟩ := blk_cells HN1.out
  go_wp2
  (try simp only [Exit.inBlock, Exit.then])
  refine blk_ret (x := errV false 3) Tryz.results73 ?_ ?_ ?_ (blk_set HN1.out _ _ _) ?_
  · rfl
  · rfl
  · rfl
  · exact ⟨rfl, ((HB1.out.setCell (Nat.le_refl _) _).setCell (Nat.le_refl _) _).setCell (Nat.le_refl _) _⟩

set_option maxHeartbeats 1000000 in
theorem get_2 (h : Ar w 80 g base cap A c bs) (hb : base ≤ 4611686018427387904) (hl : bs.length ≤ 16384) (o : Int) (ho : -9223372036854775808 ≤ o ∧ o ≤ 9223372036854775807) (hc : plc o = true) (hv : word? bs o = none) :
    Calls Tryz.prog 73 #[.pointer (some ⟨g, 0, none⟩), .int .i64 o] w fun e w' => e = .returned (.tuple #[bkV none, errV false 3]) ∧ Below w.heap.size w w' := by
  obtain ⟨w1, hw1⟩ : ∃ w1, w.alloc (.cells #[.int .i64 0, .int .i64 0, .bool false] 82) = w1 := ⟨_, rfl⟩
  have hb1 : Below w.heap.size w w1 := by rw [← hw1]; exact (Below.refl _ _).alloc (Nat.le_refl _) _
  have hn1 : w1.heap[w.heap.size]? = some (.cells #[.int .i64 0, .int .i64 0, .bool false] 82 (0, 0)) := by rw [← hw1]; exact heap_alloc_new w _
  have h1 := h.below hb1
  have HC := Lib.hid (isplace_any w1 o ho true hc)
  have HA := Lib.hid (address_any h1 o)
  have hwd := word_at h1 hb hl o (by omega) _ hv
  dsimp only [wdV] at hwd
  have HW := Lib.hid hwd
  have HW1 := Lib.hid hw1
  have HB1 := Lib.hid hb1
  have HN1 := Lib.hid hn1
  clear hc hv hwd hw1 hb1 hn1 h1 h
  go_enter Tryz.func73, Tryz.ntmps73
  go_wp2_with fail
  rw [HW1.out]
  with_reducible refine HC.out.mono ?_
  rintro e w2 ⟨rfl, rfl⟩
  go_wp2_with fail
  with_reducible refine HA.out.mono ?_
  rintro e w2 ⟨rfl, rfl⟩
  go_wp2_with fail
  with_reducible refine HW.out.mono ?_
  rintro e w2 ⟨rfl, rfl⟩
  obtain ⟨⟨c0, c1, c2⟩, f0, f1, f2⟩ := blk_cells HN1.out
  go_wp2
  (try simp only [Exit.inBlock, Exit.then])
  refine blk_ret (x := errV false 3) Tryz.results73 ?_ ?_ ?_ (blk_set HN1.out _ _ _) ?_
  · rfl
  · rfl
  · rfl
  · exact ⟨rfl, ((HB1.out.setCell (Nat.le_refl _) _).setCell (Nat.le_refl _) _).setCell (Nat.le_refl _) _⟩

set_option maxHeartbeats 1000000 in
theorem get_3 (h : Ar w 80 g base cap A c bs) (hb : base ≤ 4611686018427387904) (hl : bs.length ≤ 16384) (o : Int) (ho : -9223372036854775808 ≤ o ∧ o ≤ 9223372036854775807) (hc : plc o = true) (v : Nat) (hvl : v < 18446744073709551616) (hv : word? bs o = some v) (hu : unpN v = none) :
    Calls Tryz.prog 73 #[.pointer (some ⟨g, 0, none⟩), .int .i64 o] w fun e w' => e = .returned (.tuple #[bkV none, errV false 3]) ∧ Below w.heap.size w w' := by
  obtain ⟨w1, hw1⟩ : ∃ w1, w.alloc (.cells #[.int .i64 0, .int .i64 0, .bool false] 82) = w1 := ⟨_, rfl⟩
  have hb1 : Below w.heap.size w w1 := by rw [← hw1]; exact (Below.refl _ _).alloc (Nat.le_refl _) _
  have hn1 : w1.heap[w.heap.size]? = some (.cells #[.int .i64 0, .int .i64 0, .bool false] 82 (0, 0)) := by rw [← hw1]; exact heap_alloc_new w _
  have h1 := h.below hb1
  have HC := Lib.hid (isplace_any w1 o ho true hc)
  have HA := Lib.hid (address_any h1 o)
  have hwd := word_at h1 hb hl o (by omega) _ hv
  dsimp only [wdV] at hwd
  have HW := Lib.hid hwd
  have hup := tunpack_any w1 v hvl
  rw [hu] at hup
  dsimp only [unpV] at hup
  have HU := Lib.hid hup
  have HW1 := Lib.hid hw1
  have HB1 := Lib.hid hb1
  have HN1 := Lib.hid hn1
  clear hc hv hwd hu hup hw1 hb1 hn1 h1 h
  go_enter Tryz.func73, Tryz.ntmps73
  go_wp2_with fail
  rw [HW1.out]
  with_reducible refine HC.out.mono ?_
  rintro e w2 ⟨rfl, rfl⟩
  go_wp2_with fail
  with_reducible refine HA.out.mono ?_
  rintro e w2 ⟨rfl, rfl⟩
  go_wp2_with fail
  with_reducible refine HW.out.mono ?_
  rintro e w2 ⟨rfl, rfl⟩
  go_wp2_with fail
  with_reducible refine HU.out.mono ?_
  rintro e w2 ⟨rfl, rfl⟩
  obtain ⟨⟨c0, c1, c2⟩, f0, f1, f2⟩ := blk_cells HN1.out
  go_wp2
  (try simp only [Exit.inBlock, Exit.then])
  refine blk_ret (x := errV false 3) Tryz.results73 ?_ ?_ ?_ (blk_set HN1.out _ _ _) ?_
  · rfl
  · rfl
  · rfl
  · exact ⟨rfl, ((HB1.out.setCell (Nat.le_refl _) _).setCell (Nat.le_refl _) _).setCell (Nat.le_refl _) _⟩

set_option maxHeartbeats 1000000 in
theorem get_4 (h : Ar w 80 g base cap A c bs) (hb : base ≤ 4611686018427387904) (hl : bs.length ≤ 16384) (o : Int) (ho : -9223372036854775808 ≤ o ∧ o ≤ 9223372036854775807) (hc : plc o = true) (v : Nat) (hvl : v < 18446744073709551616) (hv : word? bs o = some v) (s : Nat) (u : Bool) (hu : unpN v = some (s, u)) (hs : 32 ≤ s ∧ s ≤ 16384) (hob : 0 ≤ o ∧ o ≤ 16384) (hv2 : word? bs (o + (s : Int) - 8) = none) :
    Calls Tryz.prog 73 #[.pointer (some ⟨g, 0, none⟩), .int .i64 o] w fun e w' => e = .returned (.tuple #[bkV none, errV false 3]) ∧ Below w.heap.size w w' := by
  obtain ⟨w1, hw1⟩ : ∃ w1, w.alloc (.cells #[.int .i64 0, .int .i64 0, .bool false] 82) = w1 := ⟨_, rfl⟩
  have hb1 : Below w.heap.size w w1 := by rw [← hw1]; exact (Below.refl _ _).alloc (Nat.le_refl _) _
  have hn1 : w1.heap[w.heap.size]? = some (.cells #[.int .i64 0, .int .i64 0, .bool false] 82 (0, 0)) := by rw [← hw1]; exact heap_alloc_new w _
  have h1 := h.below hb1
  have HC := Lib.hid (isplace_any w1 o ho true hc)
  have HA := Lib.hid (address_any h1 o)
  have hwd := word_at h1 hb hl o (by omega) _ hv
  dsimp only [wdV] at hwd
  have HW := Lib.hid hwd
  have hup := tunpack_any w1 v hvl
  rw [hu] at hup
  dsimp only [unpV] at hup
  have HU := Lib.hid hup
  have HA2 := Lib.hid (address_any h1 (o + (s : Int) - 8))
  have hwd2 := word_at h1 hb hl (o + (s : Int) - 8) (by omega) _ hv2
  dsimp only [wdV] at hwd2
  have HW2 := Lib.hid hwd2
  have HW1 := Lib.hid hw1
  have HB1 := Lib.hid hb1
  have HN1 := Lib.hid hn1
  clear hc hv hwd hu hup hv2 hwd2 hw1 hb1 hn1 h1 h
  go_enter Tryz.func73, Tryz.ntmps73
  go_wp2_with fail
  rw [HW1.out]
  with_reducible refine HC.out.mono ?_
  rintro e w2 ⟨rfl, rfl⟩
  go_wp2_with fail
  with_reducible refine HA.out.mono ?_
  rintro e w2 ⟨rfl, rfl⟩
  go_wp2_with fail
  with_reducible refine HW.out.mono ?_
  rintro e w2 ⟨rfl, rfl⟩
  go_wp2_with fail
  with_reducible refine HU.out.mono ?_
  rintro e w2 ⟨rfl, rfl⟩
  go_wp2_with fail
  with_reducible refine HA2.out.mono ?_
  rintro e w2 ⟨rfl, rfl⟩
  go_wp2_with fail
  with_reducible refine HW2.out.mono ?_
  rintro e w2 ⟨rfl, rfl⟩
  obtain ⟨⟨c0, c1, c2⟩, f0, f1, f2⟩ := blk_cells HN1.out
  go_wp2
  (try simp only [Exit.inBlock, Exit.then])
  refine blk_ret (x := errV false 3) Tryz.results73 ?_ ?_ ?_ (blk_set HN1.out _ _ _) ?_
  · rfl
  · rfl
  · rfl
  · exact ⟨rfl, ((HB1.out.setCell (Nat.le_refl _) _).setCell (Nat.le_refl _) _).setCell (Nat.le_refl _) _⟩

set_option maxHeartbeats 1000000 in
theorem get_5 (h : Ar w 80 g base cap A c bs) (hb : base ≤ 4611686018427387904) (hl : bs.length ≤ 16384) (o : Int) (ho : -9223372036854775808 ≤ o ∧ o ≤ 9223372036854775807) (hc : plc o = true) (v : Nat) (hvl : v < 18446744073709551616) (hv : word? bs o = some v) (s : Nat) (u : Bool) (hu : unpN v = some (s, u)) (hs : 32 ≤ s ∧ s ≤ 16384) (hob : 0 ≤ o ∧ o ≤ 16384) (v2 : Nat) (hv2 : word? bs (o + (s : Int) - 8) = some v2) (hne : v2 ≠ v) :
    Calls Tryz.prog 73 #[.pointer (some ⟨g, 0, none⟩), .int .i64 o] w fun e w' => e = .returned (.tuple #[bkV none, errV false 3]) ∧ Below w.heap.size w w' := by
  obtain ⟨w1, hw1⟩ : ∃ w1, w.alloc (.cells #[.int .i64 0, .int .i64 0, .bool false] 82) = w1 := ⟨_, rfl⟩
  have hb1 : Below w.heap.size w w1 := by rw [← hw1]; exact (Below.refl _ _).alloc (Nat.le_refl _) _
  have hn1 : w1.heap[w.heap.size]? = some (.cells #[.int .i64 0, .int .i64 0, .bool false] 82 (0, 0)) := by rw [← hw1]; exact heap_alloc_new w _
  have h1 := h.below hb1
  have HC := Lib.hid (isplace_any w1 o ho true hc)
  have HA := Lib.hid (address_any h1 o)
  have hwd := word_at h1 hb hl o (by omega) _ hv
  dsimp only [wdV] at hwd
  have HW := Lib.hid hwd
  have hup := tunpack_any w1 v hvl
  rw [hu] at hup
  dsimp only [unpV] at hup
  have HU := Lib.hid hup
  have HA2 := Lib.hid (address_any h1 (o + (s : Int) - 8))
  have hwd2 := word_at h1 hb hl (o + (s : Int) - 8) (by omega) _ hv2
  dsimp only [wdV] at hwd2
  have HW2 := Lib.hid hwd2
  have hq : ((v2 : Int) != (v : Int)) = true := by rw [bne_iff_ne]; omega
  have HW1 := Lib.hid hw1
  have HB1 := Lib.hid hb1
  have HN1 := Lib.hid hn1
  clear hc hv hwd hu hup hv2 hwd2 hne hw1 hb1 hn1 h1 h
  go_enter Tryz.func73, Tryz.ntmps73
  go_wp2_with fail
  rw [HW1.out]
  with_reducible refine HC.out.mono ?_
  rintro e w2 ⟨rfl, rfl⟩
  go_wp2_with fail
  with_reducible refine HA.out.mono ?_
  rintro e w2 ⟨rfl, rfl⟩
  go_wp2_with fail
  with_reducible refine HW.out.mono ?_
  rintro e w2 ⟨rfl, rfl⟩
  go_wp2_with fail
  with_reducible refine HU.out.mono ?_
  rintro e w2 ⟨rfl, rfl⟩
  go_wp2_with fail
  with_reducible refine HA2.out.mono ?_
  rintro e w2 ⟨rfl, rfl⟩
  go_wp2_with fail
  with_reducible refine HW2.out.mono ?_
  rintro e w2 ⟨rfl, rfl⟩
  obtain ⟨⟨c0, c1, c2⟩, f0, f1, f2⟩ := blk_cells HN1.out
  go_wp2
  (try simp only [Exit.inBlock, Exit.then])
  refine blk_ret (x := errV false 3) Tryz.results73 ?_ ?_ ?_ (blk_set HN1.out _ _ _) ?_
  · rfl
  · rfl
  · rfl
  · exact ⟨rfl, ((HB1.out.setCell (Nat.le_refl _) _).setCell (Nat.le_refl _) _).setCell (Nat.le_refl _) _⟩

set_option maxHeartbeats 1000000 in
theorem get_6 (h : Ar w 80 g base cap A c bs) (hb : base ≤ 4611686018427387904) (hl : bs.length ≤ 16384) (o : Nat) (ho : -9223372036854775808 ≤ (o : Int) ∧ (o : Int) ≤ 9223372036854775807) (hc : plc (o : Int) = true) (v : Nat) (hvl : v < 18446744073709551616) (hv : word? bs (o : Int) = some v) (s : Nat) (u : Bool) (hu : unpN v = some (s, u)) (hs : 32 ≤ s ∧ s ≤ 16384) (hob : 0 ≤ (o : Int) ∧ (o : Int) ≤ 16384) (hv2 : word? bs ((o : Int) + (s : Int) - 8) = some v) :
    Calls Tryz.prog 73 #[.pointer (some ⟨g, 0, none⟩), .int .i64 (o : Int)] w fun e w' => e = .returned (.tuple #[bkV (some ⟨o, s, u⟩), errV true 3]) ∧ Below w.heap.size w w' := by
  obtain ⟨w1, hw1⟩ : ∃ w1, w.alloc (.cells #[.int .i64 0, .int .i64 0, .bool false] 82) = w1 := ⟨_, rfl⟩
  have hb1 : Below w.heap.size w w1 := by rw [← hw1]; exact (Below.refl _ _).alloc (Nat.le_refl _) _
  have hn1 : w1.heap[w.heap.size]? = some (.cells #[.int .i64 0, .int .i64 0, .bool false] 82 (0, 0)) := by rw [← hw1]; exact heap_alloc_new w _
  have h1 := h.below hb1
  have HC := Lib.hid (isplace_any w1 (o : Int) ho true hc)
  have HA := Lib.hid (address_any h1 (o : Int))
  have hwd := word_at h1 hb hl (o : Int) (by omega) _ hv
  dsimp only [wdV] at hwd
  have HW := Lib.hid hwd
  have hup := tunpack_any w1 v hvl
  rw [hu] at hup
  dsimp only [unpV] at hup
  have HU := Lib.hid hup
  have HA2 := Lib.hid (address_any h1 ((o : Int) + (s : Int) - 8))
  have hwd2 := word_at h1 hb hl ((o : Int) + (s : Int) - 8) (by omega) _ hv2
  dsimp only [wdV] at hwd2
  have HW2 := Lib.hid hwd2
  have HW1 := Lib.hid hw1
  have HB1 := Lib.hid hb1
  have HN1 := Lib.hid hn1
  clear hc hv hwd hu hup hv2 hwd2 hw1 hb1 hn1 h1 h
  go_enter Tryz.func73, Tryz.ntmps73
  go_wp2_with fail
  rw [HW1.out]
  with_reducible refine HC.out.mono ?_
  rintro e w2 ⟨rfl, rfl⟩
  go_wp2_with fail
  with_reducible refine HA.out.mono ?_
  rintro e w2 ⟨rfl, rfl⟩
  go_wp2_with fail
  with_reducible refine HW.out.mono ?_
  rintro e w2 ⟨rfl, rfl⟩
  go_wp2_with fail
  with_reducible refine HU.out.mono ?_
  rintro e w2 ⟨rfl, rfl⟩
  go_wp2_with fail
  with_reducible refine HA2.out.mono ?_
  rintro e w2 ⟨rfl, rfl⟩
  go_wp2_with fail
  with_reducible refine HW2.out.mono ?_
  rintro e w2 ⟨rfl, rfl⟩
  obtain ⟨⟨c0, c1, c2⟩, f0, f1, f2⟩ := blk_cells HN1.out
  go_wp2
  (try simp only [Exit.inBlock, Exit.then])
  refine blk_ret (x := errV true 3) Tryz.results73 ?_ ?_ ?_ (blk_set HN1.out _ _ _) ?_
  · rfl
  · rfl
  · rfl
  · exact ⟨rfl, ((HB1.out.setCell (Nat.le_refl _) _).setCell (Nat.le_refl _) _).setCell (Nat.le_refl _) _⟩

end
theorem getC : GetC := by
  intro w g base cap c A bs o x h hb hl ho hx
  subst hx
  unfold BlkTold
  cases hc : plc o with
  | false =>
    have e : getB bs o = none := by
      unfold getB
      rw [if_pos]
      rw [Bool.eq_false_iff]
      intro h2
      have := (could_iff _ _ _).1 h2
      rw [(plc_iff o).2 (by omega)] at hc
      cases hc
    rw [e]
    exact get_1 h o ho hc
  | true =>
    have hp := (plc_iff o).1 hc
    obtain ⟨p, rfl⟩ : ∃ p : Nat, o = (p : Int) := ⟨o.toNat, by omega⟩
    by_cases h8 : p + 8 ≤ bs.length
    · have hcd : could bs.length (p : Int) 8 = true := (could_iff _ _ _).2 (by omega)
      have hv : word? bs (p : Int) = some (wordN bs p) := by unfold word?; rw [if_pos (by omega)]; rfl
      cases hu : unpN (wordN bs p) with
      | none =>
        have e : getB bs (p : Int) = none := by unfold getB; rw [if_neg (by rw [hcd]; simp), Int.toNat_natCast, hu]
        rw [e]
        exact get_3 h hb hl (p : Int) ho hc _ (wordN_lt _ _) hv hu
      | some su =>
        obtain ⟨s, u⟩ := su
        have hss := (isSz_iff _).1 (unpN_some hu).1
        cases hc2 : could bs.length (p : Int) (s : Int) with
        | false =>
          have e : getB bs (p : Int) = none := by unfold getB; rw [if_neg (by rw [hcd]; simp), Int.toNat_natCast, hu]; dsimp only; rw [if_pos hc2]
          rw [e]
          refine get_4 h hb hl (p : Int) ho hc _ (wordN_lt _ _) hv s u hu (by omega) (by omega) ?_
          unfold word?
          rw [if_neg]
          intro h2
          rw [(could_iff _ _ _).2 (by omega)] at hc2
          cases hc2
        | true =>
          have hb2 := (could_iff _ _ _).1 hc2
          have hv2 : word? bs ((p : Int) + (s : Int) - 8) = some (wordN bs (p + s - 8)) := by
            unfold word?
            rw [if_pos (by omega), show ((p : Int) + (s : Int) - 8).toNat = p + s - 8 by omega]
          by_cases hw : wordN bs (p + s - 8) = wordN bs p
          · have e : getB bs (p : Int) = some ⟨p, s, u⟩ := by unfold getB; rw [if_neg (by rw [hcd]; simp), Int.toNat_natCast, hu]; dsimp only; rw [if_neg (by rw [hc2]; simp), if_pos hw]
            rw [e]
            rw [hw] at hv2
            exact get_6 h hb hl p ho hc _ (wordN_lt _ _) hv s u hu (by omega) (by omega) hv2
          · have e : getB bs (p : Int) = none := by unfold getB; rw [if_neg (by rw [hcd]; simp), Int.toNat_natCast, hu]; dsimp only; rw [if_neg (by rw [hc2]; simp), if_neg hw]
            rw [e]
            exact get_5 h hb hl (p : Int) ho hc _ (wordN_lt _ _) hv s u hu (by omega) (by omega) _ hv2 hw
    · have e : getB bs (p : Int) = none := by
        unfold getB
        rw [if_pos]
        rw [Bool.eq_false_iff]
        intro h2
        have := (could_iff _ _ _).1 h2
        omega
      rw [e]
      exact get_2 h hb hl (p : Int) ho hc (by unfold word?; rw [if_neg (by omega)])
end Go.Proofs.YtbldlidpapdkbaaGreatDoor

/- The contract of the program's Ahead: the block that ends at an offset, all ways. -/
namespace Go.Proofs.YtbldlidpapdkbaaGreatDoor
open Go.RowKit

/-- What Ahead tells, said by what it asks. -/
theorem aheadB_eq (bs : List UInt8) (o : Int) : aheadB bs o = (match word? bs (o - 8) with
  | none => none
  | some v => match unpN v with
    | none => none
    | some (s, _) => match getB bs (o - (s : Int)) with
      | none => none
      | some x => if x.size = s then some x else none) := by
  by_cases h0 : o < 8 ∨ (bs.length : Int) < o
  · have e : word? bs (o - 8) = none := by unfold word?; rw [if_neg (by omega)]
    rw [e]
    unfold aheadB
    rw [if_pos (by omega)]
  · obtain ⟨p, rfl⟩ : ∃ p : Nat, o = (p : Int) := ⟨o.toNat, by omega⟩
    have e : word? bs ((p : Int) - 8) = some (wordN bs (p - 8)) := by
      unfold word?
      rw [if_pos (by omega), show ((p : Int) - 8).toNat = p - 8 by omega]
    rw [e]
    dsimp only
    by_cases h1 : (p : Int) < 184
    · unfold aheadB
      rw [if_pos (by omega)]
      cases hu : unpN (wordN bs (p - 8)) with
      | none => rfl
      | some su =>
        obtain ⟨s, u⟩ := su
        dsimp only
        cases hx : getB bs ((p : Int) - (s : Int)) with
        | none => rfl
        | some x =>
          have := getB_some hx
          omega
    · unfold aheadB
      rw [if_neg (by omega), Int.toNat_natCast]
      cases hu : unpN (wordN bs (p - 8)) with
      | none => rfl
      | some su =>
        obtain ⟨s, u⟩ := su
        dsimp only
        cases hx : getB bs ((p : Int) - (s : Int)) with
        | none => rfl
        | some x =>
          dsimp only
          obtain ⟨q1, q2, q3, q4, q5, q6, q7⟩ := getB_some hx
          by_cases hs : x.size = s
          · have e2 : x.off + x.size - 8 = p - 8 := by omega
            rw [e2] at q7
            rw [← q7, hu] at q6
            injection q6 with q6
            injection q6 with q6 q8
            rw [if_pos ⟨hs, q8.symm⟩, if_pos hs]
          · rw [if_neg (fun h => hs h.1), if_neg hs]

section
variable {w : World} {g base cap c : Nat} {A : Option Addr} {bs : List UInt8}
set_option maxHeartbeats 1000000 in
theorem ahead_1 (h : Ar w 80 g base cap A c bs) (hb : base ≤ 4611686018427387904) (hl : bs.length ≤ 16384) (o : Int) (ho : -9223372036854775808 ≤ o ∧ o ≤ 9223372036854775807) (hv : word? bs (o - 8) = none) :
    Calls Tryz.prog 134 #[.pointer (some ⟨g, 0, none⟩), .int .i64 o] w fun e w' => e = .returned (.tuple #[bkV none, errV false 3]) ∧ Below w.heap.size w w' := by
  obtain ⟨w1, hw1⟩ : ∃ w1, w.alloc (.cells #[.int .i64 0, .int .i64 0, .bool false] 82) = w1 := ⟨_, rfl⟩
  have hb1 : Below w.heap.size w w1 := by rw [← hw1]; exact (Below.refl _ _).alloc (Nat.le_refl _) _
  have hn1 : w1.heap[w.heap.size]? = some (.cells #[.int .i64 0, .int .i64 0, .bool false] 82 (0, 0)) := by rw [← hw1]; exact heap_alloc_new w _
  have h1 := h.below hb1
  have HA := Lib.hid (address_any h1 o)
  have hs8 : IntKind.u64.wrap ((adr base o : Int) - 8) = (adr base (o - 8) : Int) := by rw [IntKind.wrap_u64]; unfold adr; omega
  have HS8 := Lib.hid hs8
  have hwd := word_at h1 hb hl (o - 8) (by omega) _ hv
  dsimp only [wdV] at hwd
  have HW := Lib.hid hwd
  have HW1 := Lib.hid hw1
  have HB1 := Lib.hid hb1
  have HN1 := Lib.hid hn1
  clear hv hwd hs8 hw1 hb1 hn1 h1 h
  go_enter Tryz.func134, Tryz.ntmps134
  go_wp2_with fail
  rw [HW1.out]
  with_reducible refine HA.out.mono ?_
  rintro e w2 ⟨rfl, rfl⟩
  go_wp2_with fail
  rw [HS8.out]
  with_reducible refine HW.out.mono ?_
  rintro e w2 ⟨rfl, rfl⟩
  have hlt := heap_lt' HN1.out
  obtain ⟨⟨c0, c1, c2⟩, f0, f1, f2⟩ := blk_cells HN1.out
  go_wp2
  (try simp only [Exit.inBlock, Exit.then])
  refine blk_ret (x := errV false 3) (g := w.heap.size) (o := 0) (s := 0) (b := false) Tryz.results134 ?_ ?_ ?_ ?_ ?_
  · rfl
  · rfl
  · rfl
  · exact blk_set HN1.out _ _ _
  · exact ⟨rfl, ((HB1.out.setCell (Nat.le_refl _) _).setCell (Nat.le_refl _) _).setCell (Nat.le_refl _) _⟩

set_option maxHeartbeats 1000000 in
theorem ahead_2 (h : Ar w 80 g base cap A c bs) (hb : base ≤ 4611686018427387904) (hl : bs.length ≤ 16384) (o : Int) (ho : -9223372036854775808 ≤ o ∧ o ≤ 9223372036854775807) (v : Nat) (hvl : v < 18446744073709551616) (hv : word? bs (o - 8) = some v) (hu : unpN v = none) :
    Calls Tryz.prog 134 #[.pointer (some ⟨g, 0, none⟩), .int .i64 o] w fun e w' => e = .returned (.tuple #[bkV none, errV false 3]) ∧ Below w.heap.size w w' := by
  obtain ⟨w1, hw1⟩ : ∃ w1, w.alloc (.cells #[.int .i64 0, .int .i64 0, .bool false] 82) = w1 := ⟨_, rfl⟩
  have hb1 : Below w.heap.size w w1 := by rw [← hw1]; exact (Below.refl _ _).alloc (Nat.le_refl _) _
  have hn1 : w1.heap[w.heap.size]? = some (.cells #[.int .i64 0, .int .i64 0, .bool false] 82 (0, 0)) := by rw [← hw1]; exact heap_alloc_new w _
  have h1 := h.below hb1
  have HA := Lib.hid (address_any h1 o)
  have hs8 : IntKind.u64.wrap ((adr base o : Int) - 8) = (adr base (o - 8) : Int) := by rw [IntKind.wrap_u64]; unfold adr; omega
  have HS8 := Lib.hid hs8
  have hwd := word_at h1 hb hl (o - 8) (by omega) _ hv
  dsimp only [wdV] at hwd
  have HW := Lib.hid hwd
  have hup := tunpack_any w1 v hvl
  rw [hu] at hup
  dsimp only [unpV] at hup
  have HU := Lib.hid hup
  have HW1 := Lib.hid hw1
  have HB1 := Lib.hid hb1
  have HN1 := Lib.hid hn1
  clear hv hwd hu hup hs8 hw1 hb1 hn1 h1 h
  go_enter Tryz.func134, Tryz.ntmps134
  go_wp2_with fail
  rw [HW1.out]
  with_reducible refine HA.out.mono ?_
  rintro e w2 ⟨rfl, rfl⟩
  go_wp2_with fail
  rw [HS8.out]
  with_reducible refine HW.out.mono ?_
  rintro e w2 ⟨rfl, rfl⟩
  go_wp2_with fail
  with_reducible refine HU.out.mono ?_
  rintro e w2 ⟨rfl, rfl⟩
  have hlt := heap_lt' HN1.out
  obtain ⟨⟨c0, c1, c2⟩, f0, f1, f2⟩ := blk_cells HN1.out
  go_wp2
  (try simp only [Exit.inBlock, Exit.then])
  refine blk_ret (x := errV false 3) (g := w.heap.size) (o := 0) (s := 0) (b := false) Tryz.results134 ?_ ?_ ?_ ?_ ?_
  · rfl
  · rfl
  · rfl
  · exact blk_set HN1.out _ _ _
  · exact ⟨rfl, ((HB1.out.setCell (Nat.le_refl _) _).setCell (Nat.le_refl _) _).setCell (Nat.le_refl _) _⟩

set_option maxHeartbeats 1000000 in
theorem ahead_3 (h : Ar w 80 g base cap A c bs) (hb : base ≤ 4611686018427387904) (hl : bs.length ≤ 16384) (o : Int) (ho : -9223372036854775808 ≤ o ∧ o ≤ 9223372036854775807) (v : Nat) (hvl : v < 18446744073709551616) (hv : word? bs (o - 8) = some v) (s : Nat) (u : Bool) (hu : unpN v = some (s, u)) (hs : 32 ≤ s ∧ s ≤ 16384) (hob : 0 ≤ o ∧ o ≤ 16384) (hx : getB bs (o - (s : Int)) = none) :
    Calls Tryz.prog 134 #[.pointer (some ⟨g, 0, none⟩), .int .i64 o] w fun e w' => e = .returned (.tuple #[bkV none, errV false 3]) ∧ Below w.heap.size w w' := by
  obtain ⟨w1, hw1⟩ : ∃ w1, w.alloc (.cells #[.int .i64 0, .int .i64 0, .bool false] 82) = w1 := ⟨_, rfl⟩
  have hb1 : Below w.heap.size w w1 := by rw [← hw1]; exact (Below.refl _ _).alloc (Nat.le_refl _) _
  have hn1 : w1.heap[w.heap.size]? = some (.cells #[.int .i64 0, .int .i64 0, .bool false] 82 (0, 0)) := by rw [← hw1]; exact heap_alloc_new w _
  have h1 := h.below hb1
  have HA := Lib.hid (address_any h1 o)
  have hs8 : IntKind.u64.wrap ((adr base o : Int) - 8) = (adr base (o - 8) : Int) := by rw [IntKind.wrap_u64]; unfold adr; omega
  have HS8 := Lib.hid hs8
  have hwd := word_at h1 hb hl (o - 8) (by omega) _ hv
  dsimp only [wdV] at hwd
  have HW := Lib.hid hwd
  have hup := tunpack_any w1 v hvl
  rw [hu] at hup
  dsimp only [unpV] at hup
  have HU := Lib.hid hup
  have hg := getC w1 g base cap c A bs (o - (s : Int)) _ h1 hb hl (by omega) hx
  dsimp only [BlkTold, bkV, Bk.val, Option.isSome, errV] at hg
  have HG := Lib.hid hg
  have HW1 := Lib.hid hw1
  have HB1 := Lib.hid hb1
  have HN1 := Lib.hid hn1
  clear hv hwd hu hup hx hg hs8 hw1 hb1 hn1 h1 h
  go_enter Tryz.func134, Tryz.ntmps134
  go_wp2_with fail
  rw [HW1.out]
  with_reducible refine HA.out.mono ?_
  rintro e w2 ⟨rfl, rfl⟩
  go_wp2_with fail
  rw [HS8.out]
  with_reducible refine HW.out.mono ?_
  rintro e w2 ⟨rfl, rfl⟩
  go_wp2_with fail
  with_reducible refine HU.out.mono ?_
  rintro e w2 ⟨rfl, rfl⟩
  go_wp2_with fail
  with_reducible refine HG.out.mono ?_
  rintro e w2 ⟨rfl, hb2⟩
  have hlt := Nat.lt_of_lt_of_le (heap_lt' HN1.out) hb2.size
  have hn2 := (hb2.block _ (heap_lt' HN1.out)).trans HN1.out
  have hb02 : Below w.heap.size w w2 := HB1.out.trans (hb2.mono HB1.out.size)
  obtain ⟨⟨c0, c1, c2⟩, f0, f1, f2⟩ := blk_cells hn2
  have HN2 := Lib.hid hn2
  have HB2 := Lib.hid hb02
  clear hn2 hb02 hb2
  go_wp2
  (try simp only [Exit.inBlock, Exit.then])
  refine blk_ret (x := errV false 3) (g := w.heap.size) (o := 0) (s := 0) (b := false) Tryz.results134 ?_ ?_ ?_ ?_ ?_
  · rfl
  · rfl
  · rfl
  · exact (((Below.refl _ _).alloc (Nat.le_refl _) _).block _ (by simp [World.setCell]; omega)).trans (blk_set HN2.out _ _ _)
  · exact ⟨rfl, (((HB2.out.setCell (Nat.le_refl _) _).setCell (Nat.le_refl _) _).setCell (Nat.le_refl _) _).alloc (by simp [World.setCell]; omega) _⟩

set_option maxHeartbeats 1000000 in
theorem ahead_4 (h : Ar w 80 g base cap A c bs) (hb : base ≤ 4611686018427387904) (hl : bs.length ≤ 16384) (o : Int) (ho : -9223372036854775808 ≤ o ∧ o ≤ 9223372036854775807) (v : Nat) (hvl : v < 18446744073709551616) (hv : word? bs (o - 8) = some v) (s : Nat) (u : Bool) (hu : unpN v = some (s, u)) (hs : 32 ≤ s ∧ s ≤ 16384) (hob : 0 ≤ o ∧ o ≤ 16384) (xo xs : Nat) (xu : Bool) (hx : getB bs (o - (s : Int)) = some ⟨xo, xs, xu⟩) (hne : xs ≠ s) :
    Calls Tryz.prog 134 #[.pointer (some ⟨g, 0, none⟩), .int .i64 o] w fun e w' => e = .returned (.tuple #[bkV none, errV false 3]) ∧ Below w.heap.size w w' := by
  obtain ⟨w1, hw1⟩ : ∃ w1, w.alloc (.cells #[.int .i64 0, .int .i64 0, .bool false] 82) = w1 := ⟨_, rfl⟩
  have hb1 : Below w.heap.size w w1 := by rw [← hw1]; exact (Below.refl _ _).alloc (Nat.le_refl _) _
  have hn1 : w1.heap[w.heap.size]? = some (.cells #[.int .i64 0, .int .i64 0, .bool false] 82 (0, 0)) := by rw [← hw1]; exact heap_alloc_new w _
  have h1 := h.below hb1
  have HA := Lib.hid (address_any h1 o)
  have hs8 : IntKind.u64.wrap ((adr base o : Int) - 8) = (adr base (o - 8) : Int) := by rw [IntKind.wrap_u64]; unfold adr; omega
  have HS8 := Lib.hid hs8
  have hwd := word_at h1 hb hl (o - 8) (by omega) _ hv
  dsimp only [wdV] at hwd
  have HW := Lib.hid hwd
  have hup := tunpack_any w1 v hvl
  rw [hu] at hup
  dsimp only [unpV] at hup
  have HU := Lib.hid hup
  have hg := getC w1 g base cap c A bs (o - (s : Int)) _ h1 hb hl (by omega) hx
  dsimp only [BlkTold, bkV, Bk.val, Option.isSome, errV] at hg
  have HG := Lib.hid hg
  have hq : ((xs : Int) != (s : Int)) = true := by rw [bne_iff_ne]; omega
  have HW1 := Lib.hid hw1
  have HB1 := Lib.hid hb1
  have HN1 := Lib.hid hn1
  clear hv hwd hu hup hx hg hne hs8 hw1 hb1 hn1 h1 h
  go_enter Tryz.func134, Tryz.ntmps134
  go_wp2_with fail
  rw [HW1.out]
  with_reducible refine HA.out.mono ?_
  rintro e w2 ⟨rfl, rfl⟩
  go_wp2_with fail
  rw [HS8.out]
  with_reducible refine HW.out.mono ?_
  rintro e w2 ⟨rfl, rfl⟩
  go_wp2_with fail
  with_reducible refine HU.out.mono ?_
  rintro e w2 ⟨rfl, rfl⟩
  go_wp2_with fail
  with_reducible refine HG.out.mono ?_
  rintro e w2 ⟨rfl, hb2⟩
  have hlt := Nat.lt_of_lt_of_le (heap_lt' HN1.out) hb2.size
  have hn2 := (hb2.block _ (heap_lt' HN1.out)).trans HN1.out
  have hb02 : Below w.heap.size w w2 := HB1.out.trans (hb2.mono HB1.out.size)
  obtain ⟨⟨c0, c1, c2⟩, f0, f1, f2⟩ := blk_cells hn2
  have HN2 := Lib.hid hn2
  have HB2 := Lib.hid hb02
  clear hn2 hb02 hb2
  go_wp2
  (try simp only [Exit.inBlock, Exit.then])
  refine blk_ret (x := errV false 3) (g := w.heap.size) (o := 0) (s := 0) (b := false) Tryz.results134 ?_ ?_ ?_ ?_ ?_
  · rfl
  · rfl
  · rfl
  · exact (((Below.refl _ _).alloc (Nat.le_refl _) _).block _ (by simp [World.setCell]; omega)).trans (blk_set HN2.out _ _ _)
  · exact ⟨rfl, (((HB2.out.setCell (Nat.le_refl _) _).setCell (Nat.le_refl _) _).setCell (Nat.le_refl _) _).alloc (by simp [World.setCell]; omega) _⟩

set_option maxHeartbeats 1000000 in
theorem ahead_5 (h : Ar w 80 g base cap A c bs) (hb : base ≤ 4611686018427387904) (hl : bs.length ≤ 16384) (o : Int) (ho : -9223372036854775808 ≤ o ∧ o ≤ 9223372036854775807) (v : Nat) (hvl : v < 18446744073709551616) (hv : word? bs (o - 8) = some v) (s : Nat) (u : Bool) (hu : unpN v = some (s, u)) (hs : 32 ≤ s ∧ s ≤ 16384) (hob : 0 ≤ o ∧ o ≤ 16384) (xo : Nat) (xu : Bool) (hx : getB bs (o - (s : Int)) = some ⟨xo, s, xu⟩) :
    Calls Tryz.prog 134 #[.pointer (some ⟨g, 0, none⟩), .int .i64 o] w fun e w' => e = .returned (.tuple #[bkV (some ⟨xo, s, xu⟩), errV true 3]) ∧ Below w.heap.size w w' := by
  obtain ⟨w1, hw1⟩ : ∃ w1, w.alloc (.cells #[.int .i64 0, .int .i64 0, .bool false] 82) = w1 := ⟨_, rfl⟩
  have hb1 : Below w.heap.size w w1 := by rw [← hw1]; exact (Below.refl _ _).alloc (Nat.le_refl _) _
  have hn1 : w1.heap[w.heap.size]? = some (.cells #[.int .i64 0, .int .i64 0, .bool false] 82 (0, 0)) := by rw [← hw1]; exact heap_alloc_new w _
  have h1 := h.below hb1
  have HA := Lib.hid (address_any h1 o)
  have hs8 : IntKind.u64.wrap ((adr base o : Int) - 8) = (adr base (o - 8) : Int) := by rw [IntKind.wrap_u64]; unfold adr; omega
  have HS8 := Lib.hid hs8
  have hwd := word_at h1 hb hl (o - 8) (by omega) _ hv
  dsimp only [wdV] at hwd
  have HW := Lib.hid hwd
  have hup := tunpack_any w1 v hvl
  rw [hu] at hup
  dsimp only [unpV] at hup
  have HU := Lib.hid hup
  have hg := getC w1 g base cap c A bs (o - (s : Int)) _ h1 hb hl (by omega) hx
  dsimp only [BlkTold, bkV, Bk.val, Option.isSome, errV] at hg
  have HG := Lib.hid hg
  have HW1 := Lib.hid hw1
  have HB1 := Lib.hid hb1
  have HN1 := Lib.hid hn1
  clear hv hwd hu hup hx hg hs8 hw1 hb1 hn1 h1 h
  go_enter Tryz.func134, Tryz.ntmps134
  go_wp2_with fail
  rw [HW1.out]
  with_reducible refine HA.out.mono ?_
  rintro e w2 ⟨rfl, rfl⟩
  go_wp2_with fail
  rw [HS8.out]
  with_reducible refine HW.out.mono ?_
  rintro e w2 ⟨rfl, rfl⟩
  go_wp2_with fail
  with_reducible refine HU.out.mono ?_
  rintro e w2 ⟨rfl, rfl⟩
  go_wp2_with fail
  with_reducible refine HG.out.mono ?_
  rintro e w2 ⟨rfl, hb2⟩
  have hlt := Nat.lt_of_lt_of_le (heap_lt' HN1.out) hb2.size
  have hn2 := (hb2.block _ (heap_lt' HN1.out)).trans HN1.out
  have hb02 : Below w.heap.size w w2 := HB1.out.trans (hb2.mono HB1.out.size)
  obtain ⟨⟨c0, c1, c2⟩, f0, f1, f2⟩ := blk_cells hn2
  have HN2 := Lib.hid hn2
  have HB2 := Lib.hid hb02
  clear hn2 hb02 hb2
  go_wp2
  (try simp only [Exit.inBlock, Exit.then])
  refine blk_ret (x := errV true 3) (g := w.heap.size) (o := (xo : Int)) (s := (s : Int)) (b := xu) Tryz.results134 ?_ ?_ ?_ ?_ ?_
  · rfl
  · rfl
  · rfl
  · exact (((Below.refl _ _).alloc (Nat.le_refl _) _).block _ (by simp [World.setCell]; omega)).trans (blk_set HN2.out _ _ _)
  · exact ⟨rfl, (((HB2.out.setCell (Nat.le_refl _) _).setCell (Nat.le_refl _) _).setCell (Nat.le_refl _) _).alloc (by simp [World.setCell]; omega) _⟩

end
theorem aheadC : AheadC := by
  intro w g base cap c A bs o x h hb hl ho hx
  subst hx
  unfold BlkTold
  rw [aheadB_eq]
  cases hv : word? bs (o - 8) with
  | none => exact ahead_1 h hb hl o ho hv
  | some v =>
    have h8 : 0 ≤ o - 8 ∧ o - 8 + 8 ≤ bs.length := by
      unfold word? at hv
      split at hv
      · assumption
      · cases hv
    have hvl : v < 18446744073709551616 := by
      have hvi : some (wordN bs (o - 8).toNat) = some v := by rw [← hv]; unfold word?; rw [if_pos h8]
      rw [← Option.some.inj hvi]
      exact wordN_lt _ _
    dsimp only
    cases hu : unpN v with
    | none => exact ahead_2 h hb hl o ho v hvl hv hu
    | some su =>
      obtain ⟨s, u⟩ := su
      have hss := (isSz_iff _).1 (unpN_some hu).1
      dsimp only
      cases hx : getB bs (o - (s : Int)) with
      | none => exact ahead_3 h hb hl o ho v hvl hv s u hu (by omega) (by omega) hx
      | some x =>
        obtain ⟨xo, xs, xu⟩ := x
        dsimp only
        by_cases hs : xs = s
        · subst hs
          rw [if_pos rfl]
          exact ahead_5 h hb hl o ho v hvl hv xs u hu (by omega) (by omega) xo xu hx
        · rw [if_neg hs]
          exact ahead_4 h hb hl o ho v hvl hv s u hu (by omega) (by omega) xo xs xu hx hs
end Go.Proofs.YtbldlidpapdkbaaGreatDoor

/- The contract of the program's Set: both tags of a block, all ways. -/
namespace Go.Proofs.YtbldlidpapdkbaaGreatDoor
open Go.RowKit

theorem layN_swap (bs : List UInt8) (o v e k : Nat) (h1 : o + 8 ≤ e) (h2 : e + 8 ≤ bs.length) : layN (layN bs e k) o v = layN (layN bs o v) e k := by
  have hv := lowB_length 8 v
  have hk := lowB_length 8 k
  unfold layN lay
  rw [hv, hk]
  refine List.ext_getElem? fun i => ?_
  simp only [List.getElem?_append, List.length_append, List.length_take, List.length_drop, List.getElem?_take, List.getElem?_drop, hv, hk]
  repeat' split
  all_goals first | rfl | omega | (congr 1; omega) | skip
theorem Became.trans {t : TypeId} {g base cap c' : Nat} {A A' : Option Addr} {b1 b2 : List UInt8} {w w1 w2 : World} (h : Ar w1 t g base cap A' c' b1) (ht : Tch (foot g A) w w1) (hA : A' = A ∨ ∀ a, A' = some a → w.heap.size ≤ a.block) (k : Became t g base cap A' b2 w1 w2) : Became t g base cap A b2 w w2 := by
  obtain ⟨A2, c2, k1, k2, k3⟩ := k
  refine ⟨A2, c2, k1, ht.trans k2 (fun i hi hf => ?_), ?_⟩
  · rcases hf with rfl | ⟨a, e, rfl⟩
    · exact .inl rfl
    · rcases hA with hA | hA
      · exact .inr ⟨a, hA ▸ e, rfl⟩
      · exact absurd (hA a e) (by omega)
  · rcases k3 with k3 | k3
    · rcases hA with hA | hA
      · exact .inl (k3.trans hA)
      · exact .inr fun a ha => hA a (k3 ▸ ha)
    · exact .inr fun a ha => Nat.le_trans ht.size (k3 a ha)

section
variable {w : World} {g base cap c : Nat} {A : Option Addr} {bs : List UInt8}
set_option maxHeartbeats 1000000 in
theorem set_1 (w : World) (g : Nat) (o s : Int) (hs : -9223372036854775808 ≤ s ∧ s ≤ 9223372036854775807) (u : Bool) (m : Nat) (hm : packN s u = m) (h0 : m = 0) :
    Calls Tryz.prog 118 #[.pointer (some ⟨g, 0, none⟩), .agg #[.int .i64 o, .int .i64 s, .bool u]] w fun e w' => e = .returned (errV false 1) ∧ Below w.heap.size w w' := by
  obtain ⟨w1, hw1⟩ : ∃ w1, w.alloc (.cells #[.int .i64 o, .int .i64 s, .bool u] 82) = w1 := ⟨_, rfl⟩
  have hb1 : Below w.heap.size w w1 := by rw [← hw1]; exact (Below.refl _ _).alloc (Nat.le_refl _) _
  have hn1 : w1.heap[w.heap.size]? = some (.cells #[.int .i64 o, .int .i64 s, .bool u] 82 (0, 0)) := by rw [← hw1]; exact heap_alloc_new w _
  have HP := Lib.hid (tpack_any w1 s u (by omega) m hm)
  have HW1 := Lib.hid hw1
  have HB1 := Lib.hid hb1
  have HN1 := Lib.hid hn1
  subst h0
  clear hm hw1 hb1 hn1
  go_enter Tryz.func118, Tryz.ntmps118
  obtain ⟨⟨c0, c1, c2⟩, f0, f1, f2⟩ := blk_cells HN1.out
  go_wp2_with fail
  rw [HW1.out]
  go_wp2_with fail
  with_reducible refine HP.out.mono ?_
  rintro e w2 ⟨rfl, rfl⟩
  go_wp2
  go_ret
  exact ⟨rfl, HB1.out⟩

set_option maxHeartbeats 1000000 in
theorem set_2 (w : World) (g : Nat) (o : Int) (ho : -9223372036854775808 ≤ o ∧ o ≤ 9223372036854775807) (s : Int) (hs : -9223372036854775808 ≤ s ∧ s ≤ 9223372036854775807) (u : Bool) (m : Nat) (hm : packN s u = m) (h0 : m ≠ 0) (hc : plc o = false) :
    Calls Tryz.prog 118 #[.pointer (some ⟨g, 0, none⟩), .agg #[.int .i64 o, .int .i64 s, .bool u]] w fun e w' => e = .returned (errV false 1) ∧ Below w.heap.size w w' := by
  obtain ⟨w1, hw1⟩ : ∃ w1, w.alloc (.cells #[.int .i64 o, .int .i64 s, .bool u] 82) = w1 := ⟨_, rfl⟩
  have hb1 : Below w.heap.size w w1 := by rw [← hw1]; exact (Below.refl _ _).alloc (Nat.le_refl _) _
  have hn1 : w1.heap[w.heap.size]? = some (.cells #[.int .i64 o, .int .i64 s, .bool u] 82 (0, 0)) := by rw [← hw1]; exact heap_alloc_new w _
  have HP := Lib.hid (tpack_any w1 s u (by omega) m hm)
  have HC := Lib.hid (isplace_any w1 o ho false hc)
  have hm0 : ((m : Int) == 0) = false := by rw [beq_eq_false_iff_ne]; omega
  have HW1 := Lib.hid hw1
  have HB1 := Lib.hid hb1
  have HN1 := Lib.hid hn1
  clear hm hw1 hb1 hn1 h0 hc
  go_enter Tryz.func118, Tryz.ntmps118
  obtain ⟨⟨c0, c1, c2⟩, f0, f1, f2⟩ := blk_cells HN1.out
  go_wp2_with fail
  rw [HW1.out]
  go_wp2_with fail
  with_reducible refine HP.out.mono ?_
  rintro e w2 ⟨rfl, rfl⟩
  go_wp2_with fail
  with_reducible refine HC.out.mono ?_
  rintro e w2 ⟨rfl, rfl⟩
  go_wp2
  go_ret
  exact ⟨rfl, HB1.out⟩

set_option maxHeartbeats 1000000 in
theorem set_3 (h : Ar w 80 g base cap A c bs) (hb : base ≤ 4611686018427387904) (hl : bs.length ≤ 16384) (o : Int) (ho : -9223372036854775808 ≤ o ∧ o ≤ 9223372036854775807) (s : Int) (hs : -9223372036854775808 ≤ s ∧ s ≤ 9223372036854775807) (u : Bool) (m : Nat) (hm : packN s u = m) (hm2 : m < 18446744073709551616) (h0 : m ≠ 0) (hc : plc o = true) (hss : 32 ≤ s ∧ s ≤ 16384) (hlt : (bs.length : Int) < o + s) :
    Calls Tryz.prog 118 #[.pointer (some ⟨g, 0, none⟩), .agg #[.int .i64 o, .int .i64 s, .bool u]] w fun e w' => e = .returned (errV false 1) ∧ Below w.heap.size w w' := by
  obtain ⟨w1, hw1⟩ : ∃ w1, w.alloc (.cells #[.int .i64 o, .int .i64 s, .bool u] 82) = w1 := ⟨_, rfl⟩
  have hb1 : Below w.heap.size w w1 := by rw [← hw1]; exact (Below.refl _ _).alloc (Nat.le_refl _) _
  have hn1 : w1.heap[w.heap.size]? = some (.cells #[.int .i64 o, .int .i64 s, .bool u] 82 (0, 0)) := by rw [← hw1]; exact heap_alloc_new w _
  have h1 := h.below hb1
  have HP := Lib.hid (tpack_any w1 s u (by omega) m hm)
  have HC := Lib.hid (isplace_any w1 o ho true hc)
  have hm0 : ((m : Int) == 0) = false := by rw [beq_eq_false_iff_ne]; omega
  have hpl := (plc_iff o).1 hc
  obtain ⟨z, hz⟩ : ∃ z, wrap64 (wrap64 (o + s) - 8) = z := ⟨_, rfl⟩
  have hzb : -9223372036854775808 ≤ z ∧ z ≤ 9223372036854775807 ∧ (z < 0 ∨ (bs.length : Int) < z + 8) := by rw [← hz]; unfold wrap64; omega
  have HZ := Lib.hid hz
  have HA := Lib.hid (address_any h1 z)
  have HS := Lib.hid (setword_no h1 (by omega) (adr base z) m (adr_lt _ _) hm2 (adr_neg base hb z (by omega) bs.length 8 (by omega) (by omega) hzb.2.2))
  have HW1 := Lib.hid hw1
  have HB1 := Lib.hid hb1
  have HN1 := Lib.hid hn1
  clear hm hw1 hb1 hn1 h0 hc h1 h hz hpl
  go_enter Tryz.func118, Tryz.ntmps118
  obtain ⟨⟨c0, c1, c2⟩, f0, f1, f2⟩ := blk_cells HN1.out
  go_wp2_with fail
  rw [HW1.out]
  go_wp2_with fail
  with_reducible refine HP.out.mono ?_
  rintro e w2 ⟨rfl, rfl⟩
  go_wp2_with fail
  with_reducible refine HC.out.mono ?_
  rintro e w2 ⟨rfl, rfl⟩
  go_wp2_with fail
  rw [HZ.out]
  with_reducible refine HA.out.mono ?_
  rintro e w2 ⟨rfl, rfl⟩
  go_wp2_with fail
  with_reducible refine HS.out.mono ?_
  rintro e w2 ⟨rfl, hb2⟩
  have HB2 := Lib.hid (HB1.out.trans (hb2.mono HB1.out.size))
  clear hb2
  go_wp2
  go_ret
  exact ⟨rfl, HB2.out⟩

set_option maxHeartbeats 1000000 in
theorem set_4 (h : Ar w 80 g base cap A c bs) (hb : base ≤ 4611686018427387904) (hl : bs.length ≤ 16384) (o s : Nat) (u : Bool) (m : Nat) (hm : packN (s : Int) u = m) (hm2 : m < 18446744073709551616) (h0 : m ≠ 0) (hc : plc (o : Int) = true) (hss : 32 ≤ s ∧ s ≤ 16384) (hle : o + s ≤ bs.length) :
    Calls Tryz.prog 118 #[.pointer (some ⟨g, 0, none⟩), .agg #[.int .i64 (o : Int), .int .i64 (s : Int), .bool u]] w fun e w' => e = .returned (errV true 1) ∧ Became 80 g base cap A (layN (layN bs o m) (o + s - 8) m) w w' := by
  obtain ⟨w1, hw1⟩ : ∃ w1, w.alloc (.cells #[.int .i64 (o : Int), .int .i64 (s : Int), .bool u] 82) = w1 := ⟨_, rfl⟩
  have hb1 : Below w.heap.size w w1 := by rw [← hw1]; exact (Below.refl _ _).alloc (Nat.le_refl _) _
  have hn1 : w1.heap[w.heap.size]? = some (.cells #[.int .i64 (o : Int), .int .i64 (s : Int), .bool u] 82 (0, 0)) := by rw [← hw1]; exact heap_alloc_new w _
  have h1 := h.below hb1
  have HP := Lib.hid (tpack_any w1 (s : Int) u (by omega) m hm)
  have HC := Lib.hid (isplace_any w1 (o : Int) (by omega) true hc)
  have hm0 : ((m : Int) == 0) = false := by rw [beq_eq_false_iff_ne]; omega
  have hgl : ∀ k, foot g A k → k < w.heap.size := fun k hk => h.foot_lt hk
  have HA := Lib.hid (address_any h1 ((o : Int) + (s : Int) - 8))
  have e1 : adr base ((o : Int) + (s : Int) - 8) = base + (o + s - 8) := by rw [show (o : Int) + (s : Int) - 8 = ((o + s - 8 : Nat) : Int) by omega]; exact adr_pos base hb _ (by omega)
  obtain ⟨x1, hx1⟩ : ∃ x1 : Nat, base + (o + s - 8) = x1 := ⟨_, rfl⟩
  obtain ⟨x2, hx2⟩ : ∃ x2 : Nat, base + o = x2 := ⟨_, rfl⟩
  rw [e1, hx1] at HA
  have HS := Lib.hid (setword_ok h1 (by omega) x1 (o + s - 8) m (by omega) hm2 (by omega) (by omega) (by omega))
  have HW1 := Lib.hid hw1
  have HB1 := Lib.hid hb1
  have HN1 := Lib.hid hn1
  have HSW := Lib.hid (layN_swap bs o m (o + s - 8) m (by omega) (by omega))
  have HGL := Lib.hid hgl
  have HX2 := Lib.hid hx2
  have HBB := Lib.hid hb
  clear hm hw1 hb1 hn1 h0 hc h1 h e1 hgl hx1
  go_enter Tryz.func118, Tryz.ntmps118
  obtain ⟨⟨c0, c1, c2⟩, f0, f1, f2⟩ := blk_cells HN1.out
  go_wp2_with fail
  rw [HW1.out]
  go_wp2_with fail
  with_reducible refine HP.out.mono ?_
  rintro e w2 ⟨rfl, rfl⟩
  go_wp2_with fail
  with_reducible refine HC.out.mono ?_
  rintro e w2 ⟨rfl, rfl⟩
  go_wp2_with fail
  with_reducible refine HA.out.mono ?_
  rintro e w2 ⟨rfl, rfl⟩
  go_wp2_with fail
  with_reducible refine HS.out.mono ?_
  rintro e w2 ⟨rfl, A2, c2, a2, t2, k2⟩
  have hn2 := (t2.block _ (heap_lt HN1.out) (fun hf => absurd (HGL.out _ hf) (by omega))).trans HN1.out
  obtain ⟨⟨d0, d1, d2⟩, _⟩ := blk_cells hn2
  have HA2 := Lib.hid (address_any a2 (o : Int))
  rw [adr_pos base HBB.out o (by omega), HX2.out] at HA2
  have HS2 := Lib.hid (setword_ok a2 (by rw [lay_length _ _ _ (by rw [lowB_length]; omega)]; omega) x2 o m (by omega) hm2 (by omega) (by omega) (by rw [lay_length _ _ _ (by rw [lowB_length]; omega)]; omega))
  have HAR := Lib.hid a2
  have HT := Lib.hid t2
  have HK := Lib.hid k2
  clear a2 t2 k2 hn2
  go_wp2_with fail
  with_reducible refine HA2.out.mono ?_
  rintro e w3 ⟨rfl, rfl⟩
  go_wp2_with fail
  with_reducible refine HS2.out.mono ?_
  rintro e w3 ⟨rfl, hbe⟩
  have hbe2 := (Became.trans HAR.out HT.out HK.out hbe).after HB1.out
  have hbe3 : Became 80 g base cap A (layN (layN bs o m) (o + s - 8) m) w w3 := by rw [← HSW.out]; exact hbe2
  have HE := Lib.hid hbe3
  clear hbe hbe2 hbe3
  go_wp2
  go_ret
  exact ⟨rfl, HE.out⟩

end
theorem setC : SetC := by
  intro w g base cap c A bs o s u y h hb hl ho hs hy
  subst hy
  cases hz : isSz s with
  | false =>
    have e : setB bs o s u = none := by unfold setB; rw [if_neg (fun h => by rw [hz] at h; cases h.1)]
    rw [e]
    exact set_1 w g o s hs u _ rfl (by simp [packN, hz])
  | true =>
    have hss := (isSz_iff _).1 hz
    have hm0 : packN s u ≠ 0 := by
      simp only [packN, hz, if_true]
      omega
    have hm2 : packN s u < 18446744073709551616 := by have := packN_lt s u; omega
    cases hc : plc o with
    | false =>
      have e : setB bs o s u = none := by
        unfold setB
        rw [if_neg]
        rintro ⟨_, h2⟩
        have := (could_iff _ _ _).1 h2
        rw [(plc_iff o).2 (by omega)] at hc
        cases hc
      rw [e]
      exact set_2 w g o ho s hs u _ rfl hm0 hc
    | true =>
      have hp := (plc_iff o).1 hc
      by_cases hle : o + s ≤ bs.length
      · obtain ⟨p, rfl⟩ : ∃ p : Nat, o = (p : Int) := ⟨o.toNat, by omega⟩
        obtain ⟨q, rfl⟩ : ∃ q : Nat, s = (q : Int) := ⟨s.toNat, by omega⟩
        have e : setB bs (p : Int) (q : Int) u = some (layN (layN bs p (packN (q : Int) u)) (p + q - 8) (packN (q : Int) u)) := by
          unfold setB
          rw [if_pos ⟨hz, (could_iff _ _ _).2 (by omega)⟩, Int.toNat_natCast, show ((p : Int) + (q : Int) - 8).toNat = p + q - 8 by omega]
        rw [e]
        exact set_4 h hb hl p q u _ rfl hm2 hm0 hc (by omega) (by omega)
      · have e : setB bs o s u = none := by
          unfold setB
          rw [if_neg]
          rintro ⟨_, h2⟩
          have := (could_iff _ _ _).1 h2
          omega
        rw [e]
        exact set_3 h hb hl o ho s hs u _ rfl hm2 hm0 hc (by omega) (by omega)
end Go.Proofs.YtbldlidpapdkbaaGreatDoor
