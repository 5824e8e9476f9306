/- Texts of mine, joined: HpM, HpM2, HpM3, Ref7a, Ref7b, Ref7c, Ref7d, Ref7e, Ref7f, Law00, OpenB, Ref9a, Ref9b, Ref9c, Ref9d, Ref10a, Ref10b. -/
import Derived.Laws.ResultCell
import Derived.Test.YtlamhidaicikfaaChecked
import Derived.Deep.QuietTactic
import Derived.BigQuiet
import Derived.WalkSpells
import Derived.IntWalk
import Derived.Deep.Grids
import Derived.Deep.Fields
import Derived.Lib.SmallJoins
import Derived.Test.YtlamhidaicikfaaM2

/- The document's heap, plain: blocks, lists, what each block holds; what in, out, drop, put, give, cut, Find, Take, Give, Trim come to. No program in sight. -/
namespace Go.Proofs.Ytlamhidaicikfaa

/-- What a block holds: its slice, and the bytes. -/
abbrev Dt : Type := Value × List UInt8
def nilD : Dt := (.slice none 0 0, [])
/-- A heap. -/
structure Hp where
  cap : Nat
  blks : List Bk
  ds : List Dt
  lists : Nat → List Nat

/-- Where the last block ends. -/
def sumB : List Bk → Nat
  | [] => 0
  | x :: r => x.size + sumB r
def lenB (l : List Bk) : Nat := 184 + sumB l
/-- The i-th block. -/
def bkAt (l : List Bk) (i : Nat) : Bk := l.getD i ⟨0, 0, false⟩
/-- Which block stands at o. -/
def atB (o : Int) : List Bk → Option Nat
  | [] => none
  | x :: r => if (x.off : Int) = o then some 0 else (atB o r).map (· + 1)
def usedB (l : List Bk) (o : Int) : Option Nat := match atB o l with
  | none => none
  | some i => if (bkAt l i).used = true then some i else none
def clsB (x : Bk) : Nat := (classI (x.size : Int)).toNat
def Hp.out (H : Hp) (i : Nat) : Hp := { H with lists := setL H.lists (clsB (bkAt H.blks i)) ((H.lists (clsB (bkAt H.blks i))).filter fun o => o != (bkAt H.blks i).off) }
def Hp.in_ (H : Hp) (i : Nat) : Hp := { H with lists := setL H.lists (clsB (bkAt H.blks i)) ((bkAt H.blks i).off :: H.lists (clsB (bkAt H.blks i))) }
def Hp.drop (H : Hp) (i : Nat) : Hp := { H with blks := H.blks.take i ++ H.blks.drop (i + 1), ds := H.ds.take i ++ H.ds.drop (i + 1) }
def Hp.put (H : Hp) (i : Nat) (x : Bk) : Hp := { H with blks := H.blks.take i ++ x :: H.blks.drop i, ds := H.ds.take i ++ nilD :: H.ds.drop i }
def Hp.size (H : Hp) (i s : Nat) : Hp := { H with blks := H.blks.set i { bkAt H.blks i with size := s } }
def Hp.use (H : Hp) (i : Nat) (u : Bool) : Hp := { H with blks := H.blks.set i { bkAt H.blks i with used := u } }
def Hp.wipe (H : Hp) (i : Nat) : Hp := { H with ds := H.ds.set i nilD }
/-- Is there a free block right behind the i-th? -/
def nextF (l : List Bk) (i : Nat) : Bool := decide (i + 1 < l.length) && !(bkAt l (i + 1)).used
def prevF (l : List Bk) (i : Nat) : Bool := decide (0 < i) && !(bkAt l (i - 1)).used
/-- The i-th and the one behind it are one. -/
def Hp.join (H : Hp) (i : Nat) : Hp := ((H.size i ((bkAt H.blks i).size + (bkAt H.blks (i + 1)).size)).drop (i + 1))
def Hp.giveB (H : Hp) (i : Nat) : Hp := if nextF H.blks i = true then (H.out (i + 1)).join i else H
def Hp.giveC (H : Hp) (i : Nat) : Hp := if prevF H.blks i = true then ((H.out (i - 1)).join (i - 1)).in_ (i - 1) else H.in_ i
def Hp.give (H : Hp) (i : Nat) : Hp := (((H.use i false).wipe i).giveB i).giveC i
def Hp.cut (H : Hp) (i s : Nat) : Hp := if (bkAt H.blks i).size < s + 32 then H.use i true else (((H.use i true).size i s).put (i + 1) ⟨(bkAt H.blks i).off + s, (bkAt H.blks i).size - s, true⟩).give (i + 1)
/-- The first of a list with so many bytes. -/
def findL (l : List Bk) (s : Nat) : List Nat → Option Nat
  | [] => none
  | o :: r => match atB (o : Int) l with
    | none => none
    | some i => if s ≤ (bkAt l i).size then some i else findL l s r
def Hp.findC (H : Hp) (s : Nat) : Nat → Nat → Option Nat
  | 0, _ => none
  | k + 1, c => match findL H.blks s (H.lists c) with
    | some i => some i
    | none => H.findC s k (c + 1)
def Hp.find (H : Hp) (s : Nat) : Option Nat := H.findC s (22 - (classI (s : Int)).toNat) (classI (s : Int)).toNat
/-- How many bytes the last block has, if it is free. -/
def tailF (l : List Bk) : Nat := if l.length = 0 then 0 else if (bkAt l (l.length - 1)).used = true then 0 else (bkAt l (l.length - 1)).size
/-- Where a block of a size is taken, if it can be; the heap then. -/
def Hp.take (H : Hp) (s : Nat) : Option Nat × Hp := match H.find s with
  | some i => (some (bkAt H.blks i).off, (H.out i).cut i s)
  | none => if H.cap < lenB H.blks + s - tailF H.blks then (none, H)
    else if 0 < tailF H.blks then (some (bkAt H.blks (H.blks.length - 1)).off, ((H.out (H.blks.length - 1)).size (H.blks.length - 1) s).use (H.blks.length - 1) true)
    else (some (lenB H.blks), H.put H.blks.length ⟨lenB H.blks, s, true⟩)
def Hp.giveO (H : Hp) (o : Int) : Option Hp := (usedB H.blks o).map H.give
def Hp.trimO (H : Hp) (o : Int) (s : Nat) : Option Hp := match usedB H.blks o with
  | none => none
  | some i => if (bkAt H.blks i).size < s then none else some (H.cut i s)

/-- All blocks one behind the other, all within 16384 bytes; as many slices as blocks; no list is long. -/
structure Hp.Ok (H : Hp) : Prop where
  tl : tile 184 H.blks (lenB H.blks)
  le : lenB H.blks ≤ 16384
  dl : H.ds.length = H.blks.length
/-- Whatever is listed is a block. -/
def Hp.Listed (H : Hp) : Prop := ∀ c, c < 22 → ∀ o ∈ H.lists c, ∃ i, atB (o : Int) H.blks = some i

theorem tile_sum : ∀ (l : List Bk) (o e : Nat), tile o l e → e = o + sumB l
  | [], o, e, h => by simp [tile] at h; simp [sumB]; omega
  | x :: r, o, e, h => by
    obtain ⟨h1, h2, h3⟩ := h
    have := tile_sum r _ e h3
    simp [sumB]; omega
theorem tile_app : ∀ (a b : List Bk) (o e : Nat), tile o (a ++ b) e ↔ tile o a (o + sumB a) ∧ tile (o + sumB a) b e
  | [], b, o, e => by simp [sumB, tile]
  | x :: r, b, o, e => by
    simp only [List.cons_append, tile, sumB]
    rw [tile_app r b]
    constructor
    · rintro ⟨h1, h2, h3, h4⟩
      refine ⟨⟨h1, h2, ?_⟩, ?_⟩
      · rw [show o + (x.size + sumB r) = o + x.size + sumB r by omega]; exact h3
      · rw [show o + (x.size + sumB r) = o + x.size + sumB r by omega]; exact h4
    · rintro ⟨⟨h1, h2, h3⟩, h4⟩
      rw [show o + (x.size + sumB r) = o + x.size + sumB r by omega] at h3 h4
      exact ⟨h1, h2, h3, h4⟩
theorem sumB_app (a b : List Bk) : sumB (a ++ b) = sumB a + sumB b := by
  induction a with
  | nil => simp [sumB]
  | cons x r ih => simp only [List.cons_append, sumB, ih]; omega
theorem atB_some {o : Int} : ∀ {l : List Bk} {i : Nat}, atB o l = some i → ∃ x, l[i]? = some x ∧ (x.off : Int) = o
  | [], _, h => by cases h
  | x :: r, i, h => by
    unfold atB at h
    split at h
    · rename_i hx
      injection h with h
      subst h
      exact ⟨x, rfl, hx⟩
    · cases hr : atB o r with
      | none => rw [hr] at h; cases h
      | some j =>
        rw [hr] at h
        injection h with h
        subst h
        obtain ⟨y, h1, h2⟩ := atB_some hr
        exact ⟨y, by simpa using h1, h2⟩
theorem atB_none {o : Int} : ∀ {l : List Bk}, atB o l = none → ∀ x ∈ l, (x.off : Int) ≠ o
  | [], _, x, hx => by cases hx
  | y :: r, h, x, hx => by
    unfold atB at h
    split at h
    · cases h
    · rename_i hy
      rcases List.mem_cons.1 hx with rfl | hx
      · exact hy
      · cases hr : atB o r with
        | none => exact atB_none hr x hx
        | some j => rw [hr] at h; cases h
theorem atB_first {o : Int} : ∀ {l : List Bk} {i : Nat}, atB o l = some i → ∀ j x, j < i → l[j]? = some x → (x.off : Int) ≠ o
  | [], _, h => by cases h
  | y :: r, i, h => by
    intro j x hj hx
    unfold atB at h
    split at h
    · injection h with h; omega
    · rename_i hy
      cases hr : atB o r with
      | none => rw [hr] at h; cases h
      | some k =>
        rw [hr] at h
        injection h with h
        subst h
        cases j with
        | zero => simp at hx; subst hx; exact hy
        | succ j => exact atB_first hr j x (Nat.lt_of_succ_lt_succ (show j + 1 < k + 1 from hj)) (by simpa using hx)
theorem bkAt_of {l : List Bk} {i : Nat} {x : Bk} (h : l[i]? = some x) : bkAt l i = x := by
  unfold bkAt
  rw [List.getD_eq_getElem?_getD, h]
  rfl
theorem bkAt_get {l : List Bk} {i : Nat} (h : i < l.length) : l[i]? = some (bkAt l i) := by
  rw [List.getElem?_eq_getElem h]
  exact congrArg some (bkAt_of (List.getElem?_eq_getElem h)).symm
theorem atB_at {l : List Bk} {i : Nat} {o : Int} (h : atB o l = some i) : i < l.length ∧ ((bkAt l i).off : Int) = o := by
  obtain ⟨x, h1, h2⟩ := atB_some h
  have hi : i < l.length := by
    rcases Nat.lt_or_ge i l.length with h | h
    · exact h
    · rw [List.getElem?_eq_none h] at h1; cases h1
  rw [bkAt_of h1]
  exact ⟨hi, h2⟩
theorem lst_split {α : Type} {l : List α} {i : Nat} {x : α} (h : l[i]? = some x) : l = l.take i ++ x :: l.drop (i + 1) := by
  have hi : i < l.length := by
    rcases Nat.lt_or_ge i l.length with h' | h'
    · exact h'
    · rw [List.getElem?_eq_none h'] at h; cases h
  have e : l[i] = x := by rw [List.getElem?_eq_getElem hi] at h; injection h
  calc l = l.take i ++ l.drop i := (List.take_append_drop i l).symm
    _ = _ := by rw [List.drop_eq_getElem_cons hi, e]
theorem lst_set {α : Type} {l : List α} {i : Nat} {x : α} (y : α) (h : l[i]? = some x) : l.set i y = l.take i ++ y :: l.drop (i + 1) := by
  have hi : i < l.length := by
    rcases Nat.lt_or_ge i l.length with h' | h'
    · exact h'
    · rw [List.getElem?_eq_none h'] at h; cases h
  rw [List.set_eq_take_append_cons_drop, if_pos hi]

section
variable {l : List Bk} {e i : Nat} {x : Bk}
/-- What lies ahead of the i-th block, it itself, and what lies behind it. -/
theorem tile_at (h : tile 184 l e) (hx : l[i]? = some x) : tile 184 (l.take i) x.off ∧ x.off = 184 + sumB (l.take i) ∧ isSz (x.size : Int) = true ∧ tile (x.off + x.size) (l.drop (i + 1)) e := by
  rw [lst_split hx, tile_app] at h
  obtain ⟨h1, h2, h3, h4⟩ := h
  have e1 : (184 + sumB (l.take i)) = x.off := by omega
  rw [e1] at h1
  refine ⟨h1, by omega, h3, ?_⟩
  rw [e1] at h4
  exact h4
theorem tile_of (h1 : tile 184 (l.take i) x.off) (h3 : isSz (x.size : Int) = true) {r : List Bk} (h4 : tile (x.off + x.size) r e) : tile 184 (l.take i ++ x :: r) e := by
  have := tile_sum _ _ _ h1
  rw [tile_app]
  rw [← this]
  exact ⟨h1, rfl, h3, h4⟩
theorem tile_len (h : tile 184 l e) : lenB l = e := by
  have := tile_sum _ _ _ h
  unfold lenB; omega
end
end Go.Proofs.Ytlamhidaicikfaa

/- The document's heap, plain: that all stays one behind the other when a block is given, cut, taken. No program in sight. -/
namespace Go.Proofs.Ytlamhidaicikfaa

theorem lst_lt {α : Type} {l : List α} {i : Nat} {x : α} (h : l[i]? = some x) : i < l.length := by
  rcases Nat.lt_or_ge i l.length with h' | h'
  · exact h'
  · rw [List.getElem?_eq_none h'] at h; cases h
theorem set_take {α : Type} (l : List α) (i : Nat) (y : α) (hi : i < l.length) : (l.set i y).take (i + 1) = l.take i ++ [y] := by
  rw [List.take_set, List.take_add_one, List.getElem?_eq_getElem hi]
  rw [Option.toList_some, List.set_append_right _ _ (by rw [List.length_take]; omega), List.length_take]
  congr 1
  have e : i - min i l.length = 0 := by omega
  rw [e]
  rfl
theorem set_drop {α : Type} (l : List α) (i k : Nat) (y : α) (hk : i < k) : (l.set i y).drop k = l.drop k := List.drop_set_of_lt hk
theorem bkAt_set (l : List Bk) (i j : Nat) (y : Bk) (hi : i < l.length) : bkAt (l.set i y) j = if j = i then y else bkAt l j := by
  unfold bkAt
  rw [List.getD_eq_getElem?_getD, List.getD_eq_getElem?_getD]
  by_cases h : j = i
  · subst h
    rw [List.getElem?_set_self hi, if_pos rfl]
    rfl
  · rw [List.getElem?_set_ne (fun e => h e.symm), if_neg h]
theorem sz_add {a b : Nat} (ha : isSz (a : Int) = true) (hb : isSz (b : Int) = true) (h : a + b ≤ 16384) : isSz ((a + b : Nat) : Int) = true := by
  have h1 := (isSz_iff _).1 ha
  have h2 := (isSz_iff _).1 hb
  exact (isSz_iff _).2 (by omega)

section
variable {H : Hp} {i s : Nat}
theorem Hp.Ok.at_ (h : H.Ok) (hi : i < H.blks.length) : tile 184 (H.blks.take i) (bkAt H.blks i).off ∧ isSz ((bkAt H.blks i).size : Int) = true ∧ tile ((bkAt H.blks i).off + (bkAt H.blks i).size) (H.blks.drop (i + 1)) (lenB H.blks) := by
  obtain ⟨a, _, b, c⟩ := tile_at h.tl (bkAt_get hi)
  exact ⟨a, b, c⟩
theorem Hp.Ok.sz (h : H.Ok) (hi : i < H.blks.length) : isSz ((bkAt H.blks i).size : Int) = true := (h.at_ hi).2.1
theorem Hp.Ok.len (h : H.Ok) : H.blks.length * 32 ≤ lenB H.blks := by
  have go : ∀ (l : List Bk) (o e : Nat), tile o l e → l.length * 32 ≤ sumB l := by
    intro l
    induction l with
    | nil => intro o e _; simp [sumB]
    | cons x r ih =>
      intro o e ht
      obtain ⟨_, h2, h3⟩ := ht
      have h4 := ih _ _ h3
      have h5 := (isSz_iff _).1 h2
      simp only [List.length_cons, sumB]
      omega
  have := go H.blks 184 _ h.tl
  unfold lenB
  omega
theorem Hp.Ok.n (h : H.Ok) : H.blks.length ≤ 512 := by
  have h1 := h.len
  have h2 := h.le
  omega
/-- The ends of the i-th, and of the one behind it. -/
theorem Hp.Ok.two (h : H.Ok) (hi : i + 1 < H.blks.length) : (bkAt H.blks (i + 1)).off = (bkAt H.blks i).off + (bkAt H.blks i).size ∧ (bkAt H.blks i).size + (bkAt H.blks (i + 1)).size ≤ 16384 := by
  obtain ⟨_, hs, ht⟩ := h.at_ (i := i) (by omega)
  rw [List.drop_eq_getElem_cons hi] at ht
  have e : H.blks[i + 1] = bkAt H.blks (i + 1) := by
    have := bkAt_get hi
    rw [List.getElem?_eq_getElem hi] at this
    exact Option.some.inj this
  rw [e] at ht
  obtain ⟨h1, _, h3⟩ := ht
  have h4 := (tile_mem _ _ _ h3).1
  have h5 := h.le
  exact ⟨h1, by omega⟩
/-- A block with the same place and size. -/
theorem Hp.Ok.same (h : H.Ok) (hi : i < H.blks.length) (y : Bk) (ho : y.off = (bkAt H.blks i).off) (hs : y.size = (bkAt H.blks i).size) : tile 184 (H.blks.set i y) (lenB H.blks) ∧ lenB (H.blks.set i y) = lenB H.blks := by
  obtain ⟨a, b, c⟩ := h.at_ hi
  have ht : tile 184 (H.blks.set i y) (lenB H.blks) := by
    rw [lst_set y (bkAt_get hi)]
    refine tile_of (by rw [ho]; exact a) (by rw [hs]; exact b) ?_
    rw [ho, hs]; exact c
  exact ⟨ht, tile_len ht⟩
theorem Hp.Ok.use (h : H.Ok) (hi : i < H.blks.length) (u : Bool) : (H.use i u).Ok := by
  obtain ⟨h1, h2⟩ := h.same hi { bkAt H.blks i with used := u } rfl rfl
  refine ⟨?_, ?_, ?_⟩
  · show tile 184 (H.blks.set i _) (lenB (H.blks.set i _))
    rw [h2]; exact h1
  · show lenB (H.blks.set i _) ≤ _
    rw [h2]; exact h.le
  · show H.ds.length = (H.blks.set i _).length
    rw [List.length_set]; exact h.dl
theorem Hp.Ok.wipe (h : H.Ok) : (H.wipe i).Ok := ⟨h.tl, h.le, by show (H.ds.set i _).length = _; rw [List.length_set]; exact h.dl⟩
theorem Hp.Ok.out (h : H.Ok) : (H.out i).Ok := ⟨h.tl, h.le, h.dl⟩
theorem Hp.Ok.in_ (h : H.Ok) : (H.in_ i).Ok := ⟨h.tl, h.le, h.dl⟩
theorem join_blks (H : Hp) (hi : i + 1 < H.blks.length) : (H.join i).blks = H.blks.take i ++ { bkAt H.blks i with size := (bkAt H.blks i).size + (bkAt H.blks (i + 1)).size } :: H.blks.drop (i + 2) := by
  show (H.blks.set i _).take (i + 1) ++ (H.blks.set i _).drop (i + 1 + 1) = _
  rw [set_take _ _ _ (by omega), set_drop _ _ _ _ (by omega), List.append_assoc]
  rfl
theorem Hp.Ok.join (h : H.Ok) (hi : i + 1 < H.blks.length) : (H.join i).Ok := by
  obtain ⟨a, b, c⟩ := h.at_ (i := i) (by omega)
  obtain ⟨_, b2, c2⟩ := h.at_ (i := i + 1) hi
  obtain ⟨e, hle⟩ := h.two hi
  have ht : tile 184 (H.join i).blks (lenB H.blks) := by
    rw [join_blks H hi]
    refine tile_of (x := { bkAt H.blks i with size := (bkAt H.blks i).size + (bkAt H.blks (i + 1)).size }) a (sz_add b b2 hle) ?_
    show tile ((bkAt H.blks i).off + ((bkAt H.blks i).size + (bkAt H.blks (i + 1)).size)) _ _
    rw [← Nat.add_assoc, ← e]
    exact c2
  have hl := tile_len ht
  refine ⟨by rw [hl]; exact ht, by rw [hl]; exact h.le, ?_⟩
  show (H.ds.take (i + 1) ++ H.ds.drop (i + 1 + 1)).length = (H.join i).blks.length
  rw [join_blks H hi]
  have := h.dl
  simp only [List.length_append, List.length_take, List.length_drop, List.length_cons]
  omega
theorem join_at (H : Hp) (hi : i + 1 < H.blks.length) : i < (H.join i).blks.length ∧ bkAt (H.join i).blks i = { bkAt H.blks i with size := (bkAt H.blks i).size + (bkAt H.blks (i + 1)).size } ∧ (H.join i).blks.length + 1 = H.blks.length := by
  rw [join_blks H hi]
  refine ⟨?_, bkAt_of ?_, ?_⟩
  · simp only [List.length_append, List.length_take, List.length_cons]; omega
  · rw [List.getElem?_append_right (by rw [List.length_take]; omega), List.length_take, show i - min i H.blks.length = 0 by omega]
    rfl
  · simp only [List.length_append, List.length_take, List.length_cons, List.length_drop]; omega
theorem cut_blks (H : Hp) (hi : i < H.blks.length) (y : Bk) : (((H.use i true).size i s).put (i + 1) y).blks = H.blks.take i ++ { bkAt H.blks i with used := true, size := s } :: y :: H.blks.drop (i + 1) := by
  have e : bkAt (H.blks.set i { bkAt H.blks i with used := true }) i = { bkAt H.blks i with used := true } := by rw [bkAt_set _ _ _ _ hi, if_pos rfl]
  show ((H.blks.set i { bkAt H.blks i with used := true }).set i { bkAt (H.blks.set i { bkAt H.blks i with used := true }) i with size := s }).take (i + 1) ++ y :: ((H.blks.set i { bkAt H.blks i with used := true }).set i { bkAt (H.blks.set i { bkAt H.blks i with used := true }) i with size := s }).drop (i + 1) = _
  rw [e, List.set_set, set_take _ _ _ hi, set_drop _ _ _ _ (by omega), List.append_assoc]
  rfl
theorem Hp.Ok.cut (h : H.Ok) (hi : i < H.blks.length) (hs : isSz (s : Int) = true) (hle : s + 32 ≤ (bkAt H.blks i).size) : (((H.use i true).size i s).put (i + 1) ⟨(bkAt H.blks i).off + s, (bkAt H.blks i).size - s, true⟩).Ok := by
  obtain ⟨a, b, c⟩ := h.at_ hi
  have h1 := (isSz_iff _).1 hs
  have h2 := (isSz_iff _).1 b
  have ht : tile 184 (((H.use i true).size i s).put (i + 1) ⟨(bkAt H.blks i).off + s, (bkAt H.blks i).size - s, true⟩).blks (lenB H.blks) := by
    rw [cut_blks H hi]
    refine tile_of (x := { bkAt H.blks i with used := true, size := s }) a hs ⟨rfl, (isSz_iff _).2 (by dsimp only; omega), ?_⟩
    dsimp only
    rw [show (bkAt H.blks i).off + s + ((bkAt H.blks i).size - s) = (bkAt H.blks i).off + (bkAt H.blks i).size by omega]
    exact c
  have hl := tile_len ht
  refine ⟨by rw [hl]; exact ht, by rw [hl]; exact h.le, ?_⟩
  rw [cut_blks H hi]
  show (H.ds.take (i + 1) ++ nilD :: H.ds.drop (i + 1)).length = _
  have := h.dl
  simp only [List.length_append, List.length_take, List.length_drop, List.length_cons]
  omega
theorem cut_len (H : Hp) (hi : i < H.blks.length) (y : Bk) : (((H.use i true).size i s).put (i + 1) y).blks.length = H.blks.length + 1 := by
  rw [cut_blks H hi]
  simp only [List.length_append, List.length_take, List.length_drop, List.length_cons]
  omega

/-- No list has more than N. -/
def Hp.Few (H : Hp) (N : Nat) : Prop := ∀ d, d < 22 → (H.lists d).length ≤ N
theorem Hp.Few.out {N : Nat} (h : H.Few N) : (H.out i).Few N := fun d hd => by
  show (setL H.lists _ _ d).length ≤ N
  unfold setL
  split
  · rename_i e
    rw [← e]
    exact Nat.le_trans (List.length_filter_le _ _) (h d hd)
  · exact h d hd
theorem Hp.Few.in_ {N : Nat} (h : H.Few N) : (H.in_ i).Few (N + 1) := fun d hd => by
  show (setL H.lists _ _ d).length ≤ N + 1
  unfold setL
  split
  · rename_i e
    rw [← e, List.length_cons]
    exact Nat.succ_le_succ (h d hd)
  · exact Nat.le_succ_of_le (h d hd)
theorem Hp.Few.more {N M : Nat} (h : H.Few N) (hm : N ≤ M) : H.Few M := fun d hd => Nat.le_trans (h d hd) hm
end
end Go.Proofs.Ytlamhidaicikfaa

/- The document's heap, plain: that there are as many slices as blocks; an arena's bytes that are such a heap. No program in sight. -/
namespace Go.Proofs.Ytlamhidaicikfaa

/-- As many slices as blocks. -/
def Hp.Dl (H : Hp) : Prop := H.ds.length = H.blks.length
section
variable {H : Hp} {i s : Nat}
theorem Hp.Dl.use (h : H.Dl) (u : Bool) : (H.use i u).Dl := by show H.ds.length = (H.blks.set i _).length; rw [List.length_set]; exact h
theorem Hp.Dl.size (h : H.Dl) : (H.size i s).Dl := by show H.ds.length = (H.blks.set i _).length; rw [List.length_set]; exact h
theorem Hp.Dl.wipe (h : H.Dl) : (H.wipe i).Dl := by show (H.ds.set i _).length = H.blks.length; rw [List.length_set]; exact h
theorem Hp.Dl.out (h : H.Dl) : (H.out i).Dl := h
theorem Hp.Dl.in_ (h : H.Dl) : (H.in_ i).Dl := h
theorem Hp.Dl.drop (h : H.Dl) : (H.drop i).Dl := by
  show (H.ds.take i ++ H.ds.drop (i + 1)).length = (H.blks.take i ++ H.blks.drop (i + 1)).length
  have h : H.ds.length = H.blks.length := h
  simp only [List.length_append, List.length_take, List.length_drop, h]
theorem Hp.Dl.put (h : H.Dl) (x : Bk) : (H.put i x).Dl := by
  show (H.ds.take i ++ nilD :: H.ds.drop i).length = (H.blks.take i ++ x :: H.blks.drop i).length
  have h : H.ds.length = H.blks.length := h
  simp only [List.length_append, List.length_take, List.length_drop, List.length_cons, h]
theorem Hp.Dl.join (h : H.Dl) : (H.join i).Dl := Hp.Dl.drop (Hp.Dl.size h)
theorem Hp.Dl.giveB (h : H.Dl) : (H.giveB i).Dl := by
  unfold Hp.giveB
  split
  · exact Hp.Dl.join (Hp.Dl.out h)
  · exact h
theorem Hp.Dl.giveC (h : H.Dl) : (H.giveC i).Dl := by
  unfold Hp.giveC
  split
  · exact Hp.Dl.in_ (Hp.Dl.join (Hp.Dl.out h))
  · exact Hp.Dl.in_ h
theorem Hp.Dl.give (h : H.Dl) : (H.give i).Dl := (h.use false).wipe.giveB.giveC
theorem Hp.Dl.cut (h : H.Dl) : (H.cut i s).Dl := by
  unfold Hp.cut
  split
  · exact h.use true
  · exact ((h.use true).size.put _).give
theorem Hp.Dl.take (h : H.Dl) : (H.take s).2.Dl := by
  unfold Hp.take
  split
  · exact Hp.Dl.cut (Hp.Dl.out h)
  · split
    · exact h
    · split
      · exact Hp.Dl.use (Hp.Dl.size (Hp.Dl.out h)) true
      · exact h.put _
theorem Hp.Dl.giveO {o : Int} {H' : Hp} (h : H.Dl) (hg : H.giveO o = some H') : H'.Dl := by
  unfold Hp.giveO at hg
  cases hu : usedB H.blks o with
  | none => rw [hu] at hg; cases hg
  | some i => rw [hu] at hg; injection hg with hg; subst hg; exact h.give
theorem Hp.Dl.trimO {o : Int} {H' : Hp} (h : H.Dl) (hg : H.trimO o s = some H') : H'.Dl := by
  unfold Hp.trimO at hg
  cases hu : usedB H.blks o with
  | none => rw [hu] at hg; cases hg
  | some i =>
    rw [hu] at hg
    dsimp only at hg
    split at hg
    · cases hg
    · injection hg with hg; subst hg; exact h.cut

theorem giveB_cap : (H.giveB i).cap = H.cap := by unfold Hp.giveB; split <;> rfl
theorem giveC_cap : (H.giveC i).cap = H.cap := by unfold Hp.giveC; split <;> rfl
theorem give_cap : (H.give i).cap = H.cap := by unfold Hp.give; rw [giveC_cap, giveB_cap]; rfl
theorem cut_cap : (H.cut i s).cap = H.cap := by
  unfold Hp.cut
  split
  · rfl
  · rw [give_cap]; rfl
theorem take_cap : (H.take s).2.cap = H.cap := by
  unfold Hp.take
  split
  · exact cut_cap
  · split
    · rfl
    · split <;> rfl
theorem giveO_cap {o : Int} {H' : Hp} (hg : H.giveO o = some H') : H'.cap = H.cap := by
  unfold Hp.giveO at hg
  cases hu : usedB H.blks o with
  | none => rw [hu] at hg; cases hg
  | some i => rw [hu] at hg; injection hg with hg; subst hg; exact give_cap
theorem trimO_cap {o : Int} {H' : Hp} (hg : H.trimO o s = some H') : H'.cap = H.cap := by
  unfold Hp.trimO at hg
  cases hu : usedB H.blks o with
  | none => rw [hu] at hg; cases hg
  | some i =>
    rw [hu] at hg
    dsimp only at hg
    split at hg
    · cases hg
    · injection hg with hg; subst hg; exact cut_cap
end

/-- Bytes that are a heap: its blocks, its lists; they are right. -/
structure Rt (bs : List UInt8) (H : Hp) : Prop where
  walk : walkB bs = some H.blks
  all_ : ∀ c, c < 22 → allB bs c = some (H.lists c)
  chk : checkB bs = true
  len : bs.length ≤ H.cap
section
variable {bs : List UInt8} {H : Hp}
theorem Rt.lenE (h : Rt bs H) : lenB H.blks = bs.length := tile_len (walkB_tiles h.walk).2.1
theorem Rt.ok (h : Rt bs H) (hc : H.cap ≤ 16384) (hd : H.Dl) : H.Ok := ⟨by rw [h.lenE]; exact (walkB_tiles h.walk).2.1, by rw [h.lenE]; exact Nat.le_trans h.len hc, hd⟩
theorem Rt.few (h : Rt bs H) : H.Few 1024 := fun d hd => allB_len (h.all_ d hd)
theorem atB_mem {l : List Bk} {x : Bk} (hx : x ∈ l) : ∃ i, atB (x.off : Int) l = some i := by
  cases h : atB (x.off : Int) l with
  | some i => exact ⟨i, rfl⟩
  | none => exact absurd rfl (atB_none h x hx)
theorem Rt.listed (h : Rt bs H) : H.Listed := fun c hc o ho => by
  have hk := h.chk
  unfold checkB at hk
  rw [h.walk] at hk
  simp only [Bool.and_eq_true] at hk
  obtain ⟨al, h1, h2⟩ := chkC_true 22 0 _ hk.2.2 c (Nat.zero_le _) (by omega)
  rw [h.all_ c hc] at h1
  injection h1 with h1
  subst h1
  have h3 := List.all_eq_true.1 h2 o ho
  unfold okO at h3
  rw [Bool.and_eq_true] at h3
  have h4 := h3.1
  unfold foundB at h4
  obtain ⟨x, hx, hx2⟩ := List.any_eq_true.1 h4
  simp only [Bool.and_eq_true, beq_iff_eq] at hx2
  rw [← hx2.1]
  exact atB_mem hx
end
/-- What is used in both heaps holds what it held, as far as both go. -/
def Held (H : Hp) (bs : List UInt8) (H' : Hp) (out : List UInt8) : Prop :=
  ∀ x ∈ H.blks, x.used = true → ∀ y ∈ H'.blks, y.used = true → y.off = x.off → ∀ i, x.off + 8 ≤ i → i + 8 < x.off + x.size → i + 8 < y.off + y.size → out[i]? = bs[i]?
end Go.Proofs.Ytlamhidaicikfaa

/- The contracts of the document's own blocks: Word, Could, Get. -/
namespace Go.Proofs.Ytlamhidaicikfaa
open Go.RowKit

/-- A block's value; what Get tells. -/
def Bk.val (x : Bk) : Value := .agg #[.int .i64 (x.off : Int), .int .i64 (x.size : Int), .bool x.used]
def bkV (o : Option Bk) : Value := match o with
  | some x => x.val
  | none => .agg #[.int .i64 0, .int .i64 0, .bool false]
def wordV (o : Option Nat) : Value := match o with
  | some v => .tuple #[.int .u64 (v : Int), .bool true]
  | none => .tuple #[.int .u64 0, .bool false]

theorem blk_set {w : World} {g : Nat} {t : TypeId} {a b c : Value} (h : w.heap[g]? = some (.cells #[a, b, c] t (0, 0))) (x y z : Value) :
    (((w.setCell ⟨g, 0, none⟩ x).setCell ⟨g, 1, none⟩ y).setCell ⟨g, 2, none⟩ z).heap[g]? = some (.cells #[x, y, z] t (0, 0)) := by
  have h1 := heap_setCell_same w g 0 _ _ x h
  have h2 := heap_setCell_same (w.setCell ⟨g, 0, none⟩ x) g 1 _ _ y h1
  have h3 := heap_setCell_same ((w.setCell ⟨g, 0, none⟩ x).setCell ⟨g, 1, none⟩ y) g 2 _ _ z h2
  rw [h3]
  rfl
theorem blk_cells {w : World} {g : Nat} {t : TypeId} {a b c : Value} (h : w.heap[g]? = some (.cells #[a, b, c] t (0, 0))) : (w.cell? ⟨g, 0, none⟩ = some a ∧ w.cell? ⟨g, 1, none⟩ = some b ∧ w.cell? ⟨g, 2, none⟩ = some c) ∧ (w.frozen? ⟨g, 0, none⟩ = false ∧ w.frozen? ⟨g, 1, none⟩ = false ∧ w.frozen? ⟨g, 2, none⟩ = false) := by
  refine ⟨⟨?_, ?_, ?_⟩, frozen_of_row w g 0 _ _ h, frozen_of_row w g 1 _ _ h, frozen_of_row w g 2 _ _ h⟩
  · rw [cell_of_row w g 0 _ _ (0, 0) h]; rfl
  · rw [cell_of_row w g 1 _ _ (0, 0) h]; rfl
  · rw [cell_of_row w g 2 _ _ (0, 0) h]; rfl
theorem blk_ret {fn : Func} {R : Ending → World → Prop} {a : Act} {w : World} {p u : Tmp} {g : Nat} {o s : Int} {b : Bool} {x : Value} (hres : fn.results = #[.cell p 43, .tmp u]) (hp : a.tmps.getD p undef = .pointer (some ⟨g, 0, none⟩)) (hx : a.tmps.getD u undef = x) (hd : a.defers = [])
    (hg : w.heap[g]? = some (.cells #[.int .i64 o, .int .i64 s, .bool b] 43 (0, 0))) (hR : R (.returned (.tuple #[.agg #[.int .i64 o, .int .i64 s, .bool b], x])) w) : bodyPost Try.prog fn R .ret a w := by
  have c0 := cell_of_row w g 0 _ _ (0, 0) hg
  have c1 := cell_of_row w g 1 _ _ (0, 0) hg
  have c2 := cell_of_row w g 2 _ _ (0, 0) hg
  simp only [List.getElem?_toArray, List.getElem?_cons_zero, List.getElem?_cons_succ] at c0 c1 c2
  refine bodyPost_ret (v := .tuple #[.agg #[.int .i64 o, .int .i64 s, .bool b], x]) ?_ hd hR
  rw [results_cell_tmp hres, hp, hx]
  simp [go_sem, c0, c1, c2]

theorem Rd.alloc' {w : World} {B n : Nat} {A : Option Addr} {bs : List UInt8} (h : Rd w B A n bs) (o : Obj) : Rd (w.alloc o) B A n bs := by
  refine ⟨h.1, fun hn => ?_⟩
  obtain ⟨b, off, e, hb, hc⟩ := h.2 hn
  refine ⟨b, off, e, hb, fun j u hu => ?_⟩
  have h1 := hc j u hu
  rw [← h1]
  exact (World.cell?_of_block (a := ⟨b, off + j, none⟩) (((Below.refl _ _).alloc (Nat.le_refl _) o).block b (cell_lt' h1)))
where cell_lt' {w : World} {a : Addr} {v : Value} (h : w.cell? a = some v) : a.block < w.heap.size := by
        unfold World.cell? at h
        rcases Nat.lt_or_ge a.block w.heap.size with h1 | h1
        · exact h1
        · rw [Array.getElem?_eq_none h1] at h; simp at h

section
variable (w : World)
end
end Go.Proofs.Ytlamhidaicikfaa

/- The contracts of the document's own blocks: Get, all ways. -/
namespace Go.Proofs.Ytlamhidaicikfaa
open Go.RowKit

section
variable (w : World)

end
end Go.Proofs.Ytlamhidaicikfaa

/- The contracts of the document's own blocks: Ahead, all ways. -/
namespace Go.Proofs.Ytlamhidaicikfaa
open Go.RowKit

theorem heap_lt' {w : World} {g : Nat} {o : Obj} (h : w.heap[g]? = some o) : g < w.heap.size := by
  rcases Nat.lt_or_ge g w.heap.size with h1 | h1
  · exact h1
  · rw [Array.getElem?_eq_none h1] at h; cases h

section
variable (w : World)

end
end Go.Proofs.Ytlamhidaicikfaa

/- The contracts of the document's own blocks: Lay, Set. -/
namespace Go.Proofs.Ytlamhidaicikfaa
open Go.RowKit

theorem u8_infb : (Try.prog.info? 5).map (fun i => (i.zero, i.size, i.bytes)) = some (some (.int .u8 0), 1, 1) := by kernel_rfl
/-- A number laid at an offset. -/
def layN (bs : List UInt8) (o v : Nat) : List UInt8 := lay bs o (lowB 8 v)
theorem layN_length (bs : List UInt8) (o v : Nat) (h : o + 8 ≤ bs.length) : (layN bs o v).length = bs.length := lay_length _ _ _ (by rw [lowB_length]; exact h)
theorem lay_snoc (bs cs : List UInt8) (d : Nat) (u : UInt8) (h : d + cs.length < bs.length) : (lay bs d cs).set (d + cs.length) u = lay bs d (cs ++ [u]) := by
  unfold lay
  have e1 : (bs.take d).length = d := by rw [List.length_take]; omega
  rw [List.set_append_right _ _ (by omega), List.set_append_right _ _ (by omega), e1, show d + cs.length - d - cs.length = 0 by omega, List.drop_eq_getElem_cons h, List.set_cons_zero, List.append_assoc, List.length_append]
  rfl
/-- A slice of bytes. -/
def RowTold (bs : List UInt8) (w : World) (e : Ending) (w' : World) : Prop :=
  ∃ A' c', e = .returned (.slice A' bs.length c') ∧ w'.ownsRow w.heap.size 5 1 (.slice A' bs.length c') bs.length (bs.map bv) ∧ Below w.heap.size w w'

section
variable (w : World)
end
end Go.Proofs.Ytlamhidaicikfaa

/- The contracts of the document's own blocks: Set. -/
namespace Go.Proofs.Ytlamhidaicikfaa
open Go.RowKit

/-- Both tags of a block laid; none: it can't be. -/
def setB (bs : List UInt8) (o s : Int) (u : Bool) : Option (List UInt8) :=
  if isSz s = true ∧ could bs.length o s = true then some (layN (layN bs o.toNat (packN s u)) (o + s - 8).toNat (packN s u)) else none
theorem setB_length {bs out : List UInt8} {o s : Int} {u : Bool} (h : setB bs o s u = some out) : out.length = bs.length := by
  unfold setB at h
  split at h
  · rename_i hc
    injection h with h
    have h1 := (isSz_iff _).1 hc.1
    have h2 := (could_iff _ _ _).1 hc.2
    have e := layN_length bs o.toNat (packN s u) (by omega)
    rw [← h, layN_length _ _ _ (by omega), e]
  · cases h
/-- A slice of bytes, and whether. -/
def SlTold (bs : List UInt8) (ok : Bool) (w : World) (e : Ending) (w' : World) : Prop :=
  ∃ A' c', e = .returned (.tuple #[.slice A' bs.length c', .bool ok]) ∧ Rd w' w'.heap.size A' bs.length bs ∧ bs.length ≤ c' ∧ (A' = none → c' = 0) ∧ Below w.heap.size w w'
theorem own_facts {w : World} {base n c : Nat} {A : Option Addr} {bs : List UInt8} (h : w.ownsRow base 5 1 (.slice A n c) n (bs.map bv)) : Rd w w.heap.size A n bs ∧ n ≤ c ∧ (A = none → c = 0) := by
  obtain ⟨A', c', e, h1, h2⟩ := own_any h
  injection e with e1 _ e3
  subst e1 e3
  refine ⟨h2, h1, fun e => ?_⟩
  subst e
  rcases h.2 with ⟨h', _⟩ | ⟨_, _, _, h', _⟩
  · injection h' with _ _ e
  · injection h' with e; cases e

section
variable (w : World)
end
end Go.Proofs.Ytlamhidaicikfaa

/- The contracts of the document's own blocks: Walk. -/
namespace Go.Proofs.Ytlamhidaicikfaa
open Go.RowKit

/-- Blocks as cells. -/
def flatK : List Bk → List Value
  | [] => []
  | x :: r => .int .i64 (x.off : Int) :: .int .i64 (x.size : Int) :: .bool x.used :: flatK r
theorem flatK_length : ∀ l : List Bk, (flatK l).length = l.length * 3
  | [] => rfl
  | x :: r => by simp [flatK, flatK_length r]; omega
theorem flatK_append (a b : List Bk) : flatK (a ++ b) = flatK a ++ flatK b := by
  induction a with
  | nil => rfl
  | cons x r ih => simp [flatK, ih]
theorem flatK_get : ∀ (l : List Bk) (i : Nat) (x : Bk), l[i]? = some x → (flatK l)[i * 3]? = some (.int .i64 (x.off : Int)) ∧ (flatK l)[i * 3 + 1]? = some (.int .i64 (x.size : Int)) ∧ (flatK l)[i * 3 + 2]? = some (.bool x.used)
  | [], _, _, h => by simp at h
  | y :: r, 0, x, h => by
    simp at h; subst h
    exact ⟨rfl, rfl, rfl⟩
  | y :: r, i + 1, x, h => by
    have := flatK_get r i x (by simpa using h)
    have e : (i + 1) * 3 = i * 3 + 1 + 1 + 1 := by omega
    rw [e]
    exact ⟨by simpa [flatK] using this.1, by simpa [flatK] using this.2.1, by simpa [flatK] using this.2.2⟩
theorem bk_inf : (Try.prog.info? 43).map (fun i => (i.zero, i.size, i.bytes)) = some (some (.agg #[.int .i64 0, .int .i64 0, .bool false]), 3, 24) := by kernel_rfl
/-- A slice of blocks. -/
def BksTold (x : Option (List Bk)) (w : World) (e : Ending) (w' : World) : Prop :=
  ∃ A' c', e = .returned (.tuple #[.slice A' (x.getD []).length c', .bool x.isSome]) ∧ w'.ownsRow w.heap.size 43 3 (.slice A' (x.getD []).length c') (x.getD []).length (flatK (x.getD [])) ∧ Below w.heap.size w w'
theorem own_sl {w : World} {base n size : Nat} {t : TypeId} {v : Value} {xs : List Value} (h : w.ownsRow base t size v n xs) : ∃ A c, v = .slice A n c := by
  rcases h.2 with ⟨rfl, h0⟩ | ⟨g, cap, cur, rfl, _⟩
  · rw [h0]; exact ⟨none, 0, rfl⟩
  · exact ⟨_, _, rfl⟩
theorem own_below' {w w' : World} {base n size : Nat} {t : TypeId} {v : Value} {xs : List Value} (h : w.ownsRow base t size v n xs) (hb : Below w.heap.size w w') : w'.ownsRow base t size v n xs := by
  refine ⟨h.1, ?_⟩
  rcases h.2 with h2 | ⟨g, cap, cur, hv, hg, hh, r⟩
  · exact .inl h2
  · refine .inr ⟨g, cap, cur, hv, hg, ?_, r⟩
    have := (h.lt g (by rw [hv]; rfl)).2
    rw [hb.block g this]; exact hh

section
variable (w : World)
end
end Go.Proofs.Ytlamhidaicikfaa

/- The contracts of the laws' words: Pick, Blocks and Ints of lists that are the same. -/
namespace Go.Proofs.Ytlamhidaicikfaa
open Go.RowKit

/-- A slice of blocks reads so; a slice of numbers. -/
def BkRd (w : World) (B : Nat) (A : Option Addr) (l : List Bk) : Prop := 0 < l.length → ∃ b o, A = some ⟨b, o, none⟩ ∧ b < B ∧ ∀ j x, l[j]? = some x →
  w.cell? ⟨b, o + j * 3, none⟩ = some (.int .i64 (x.off : Int)) ∧ w.cell? ⟨b, o + j * 3 + 1, none⟩ = some (.int .i64 (x.size : Int)) ∧ w.cell? ⟨b, o + j * 3 + 2, none⟩ = some (.bool x.used)
def IRd (w : World) (B : Nat) (A : Option Addr) (l : List Int) : Prop := 0 < l.length → ∃ b o, A = some ⟨b, o, none⟩ ∧ b < B ∧ ∀ j x, l[j]? = some x → w.cell? ⟨b, o + j, none⟩ = some (.int .i64 x)
/-- A number, or a block, that is laid. -/
structure La where
  what : Int
  at_ : Int
  v : Nat
/-- A slice of such. -/
def LaRd (w : World) (B : Nat) (A : Option Addr) (l : List La) : Prop := 0 < l.length → ∃ b o, A = some ⟨b, o, none⟩ ∧ b < B ∧ ∀ j x, l[j]? = some x →
  w.cell? ⟨b, o + j * 3, none⟩ = some (.int .i64 x.what) ∧ w.cell? ⟨b, o + j * 3 + 1, none⟩ = some (.int .i64 x.at_) ∧ w.cell? ⟨b, o + j * 3 + 2, none⟩ = some (.int .u64 (x.v : Int)) ∧
  (-9223372036854775808 ≤ x.what ∧ x.what ≤ 9223372036854775807) ∧ (-9223372036854775808 ≤ x.at_ ∧ x.at_ ≤ 9223372036854775807) ∧ x.v < 18446744073709551616
theorem LaRd.below {w w' : World} {B : Nat} {A : Option Addr} {l : List La} (h : LaRd w B A l) (hb : Below B w w') : LaRd w' B A l := fun hn => by
  obtain ⟨b, o, e, hB, hc⟩ := h hn
  refine ⟨b, o, e, hB, fun j x hx => ?_⟩
  obtain ⟨h0, h1, h2, h3⟩ := hc j x hx
  exact ⟨(hb.cell (p := ⟨b, _, none⟩) hB).trans h0, (hb.cell (p := ⟨b, _, none⟩) hB).trans h1, (hb.cell (p := ⟨b, _, none⟩) hB).trans h2, h3⟩

theorem BkRd.below {w w' : World} {B : Nat} {A : Option Addr} {l : List Bk} (h : BkRd w B A l) (hb : Below B w w') : BkRd w' B A l := fun hn => by
  obtain ⟨b, o, e, hB, hc⟩ := h hn
  refine ⟨b, o, e, hB, fun j x hx => ?_⟩
  obtain ⟨h0, h1, h2⟩ := hc j x hx
  exact ⟨(hb.cell (p := ⟨b, _, none⟩) hB).trans h0, (hb.cell (p := ⟨b, _, none⟩) hB).trans h1, (hb.cell (p := ⟨b, _, none⟩) hB).trans h2⟩
theorem BkRd.more {w : World} {B B' : Nat} {A : Option Addr} {l : List Bk} (h : BkRd w B A l) (hB : B ≤ B') : BkRd w B' A l := fun hn => by
  obtain ⟨b, o, e, h1, hc⟩ := h hn
  exact ⟨b, o, e, Nat.lt_of_lt_of_le h1 hB, hc⟩
theorem IRd.below {w w' : World} {B : Nat} {A : Option Addr} {l : List Int} (h : IRd w B A l) (hb : Below B w w') : IRd w' B A l := fun hn => by
  obtain ⟨b, o, e, hB, hc⟩ := h hn
  exact ⟨b, o, e, hB, fun j x hx => (hb.cell (p := ⟨b, _, none⟩) hB).trans (hc j x hx)⟩
theorem IRd.more {w : World} {B B' : Nat} {A : Option Addr} {l : List Int} (h : IRd w B A l) (hB : B ≤ B') : IRd w B' A l := fun hn => by
  obtain ⟨b, o, e, h1, hc⟩ := h hn
  exact ⟨b, o, e, Nat.lt_of_lt_of_le h1 hB, hc⟩
theorem pk_i {k : IntKind} {a b : Int} (h : a = b) : Ending.returned (.int k a) = .returned (.int k b) := by rw [h]

set_option maxRecDepth 100000 in
set_option maxHeartbeats 400000 in
theorem lpick_any (n : Int) (m : Nat) (w : World) (hm : 0 < m) (hm2 : m ≤ 1000000) (p : Nat) (hp : (n % (m : Int)).toNat = p) :
    Calls Try.prog 11 #[.int .i64 n, .int .i64 (m : Int)] w fun e w' => e = .returned (.int .i64 (p : Int)) ∧ w = w' := by
  have h1 := Int.emod_nonneg n (b := (m : Int)) (by omega)
  have h2 := Int.emod_lt_of_pos n (b := (m : Int)) (by omega)
  obtain ⟨e, he⟩ : ∃ e, n % (m : Int) = e := ⟨_, rfl⟩
  rw [he] at h1 h2 hp
  have h3 : (n.tmod (m : Int) = e) ∨ (n.tmod (m : Int) = e - m) := by
    have := Int.tmod_eq_emod (a := n) (b := (m : Int))
    rw [he] at this
    rw [this]
    split
    · left; simp
    · right; simp
  obtain ⟨r, hr⟩ : ∃ r, n.tmod (m : Int) = r := ⟨_, rfl⟩
  rw [hr] at h3
  clear he
  have hm0 : ((m : Int) == 0) = false := by rw [beq_eq_false_iff_ne]; omega
  by_cases h4 : r < 0
  · have h6 : -1000000 ≤ r := by omega
    have h5 : r + (m : Int) = (p : Int) := by omega
    have H5 := Lib.hid h5
    clear h3 h5 hp
    go_enter Try.func11, Try.ntmps11
    go_wp2
    go_ret
    exact ⟨pk_i H5.out, rfl⟩
  · have h5 : r = (p : Int) := by omega
    have H5 := Lib.hid h5
    clear h3 h5 hp
    go_enter Try.func11, Try.ntmps11
    go_wp2
    go_ret
    exact ⟨pk_i H5.out, rfl⟩

set_option maxRecDepth 100000 in
set_option maxHeartbeats 1000000 in
theorem blocks_same (w : World) (A1 A2 : Option Addr) (c1 c2 : Nat) (l : List Bk) (h1 : BkRd w w.heap.size A1 l) (h2 : BkRd w w.heap.size A2 l) (hl : l.length ≤ 1000000) :
    Calls Try.prog 16 #[.slice A1 l.length c1, .slice A2 l.length c2] w fun e w' => e = .returned (.int .i64 1) ∧ Below w.heap.size w w' := by
  go_enter Try.func16, Try.ntmps16
  go_wp2
  go_loopw [5] (fun i wr => ∃ j : Nat, j ≤ l.length ∧ i = .int .i64 j ∧ Below w.heap.size w wr) (fun i _ => l.length - (intOf i).toNat)
  case atStart => exact ⟨0, Nat.zero_le _, rfl, Below.refl _ _⟩
  case round =>
    obtain ⟨j, hj, rfl, hb⟩ := hrel
    by_cases hlt : j < l.length
    · obtain ⟨x, hx⟩ : ∃ x, l[j]? = some x := ⟨l[j], List.getElem?_eq_getElem hlt⟩
      obtain ⟨b1, o1, rfl, _, hc1⟩ := (h1.below hb) (by omega)
      obtain ⟨b2, o2, rfl, _, hc2⟩ := (h2.below hb) (by omega)
      obtain ⟨p0, p1, p2⟩ := hc1 j x hx
      obtain ⟨q0, q1, q2⟩ := hc2 j x hx
      have hji : (j : Int) < (l.length : Int) := by omega
      clear hc1 hc2 hx
      go_wp2_with fail
      go_quiet (fail)
      have HB : Hid (Below w.heap.size w (wr.drewN nq)) := ⟨hb.os, hb.tape, hb.output, hb.size, hb.block⟩
      clear hb p0 p1 p2 q0 q1 q2
      generalize wr.drewN nq = w2 at HB ⊢
      go_wp2
      go_roundw
      case rel => exact ⟨j + 1, by omega, by go_num, HB.out⟩
      case measure => simp [intOf]; omega
    · go_wp2
      go_ret
      exact ⟨rfl, hb⟩

set_option maxRecDepth 100000 in
set_option maxHeartbeats 1000000 in
theorem ints_same (w : World) (A1 A2 : Option Addr) (c1 c2 : Nat) (l : List Int) (h1 : IRd w w.heap.size A1 l) (h2 : IRd w w.heap.size A2 l) (hl : l.length ≤ 1000000) :
    Calls Try.prog 33 #[.slice A1 l.length c1, .slice A2 l.length c2] w fun e w' => e = .returned (.int .i64 1) ∧ Below w.heap.size w w' := by
  go_enter Try.func33, Try.ntmps33
  go_wp2
  go_loopw [5] (fun i wr => ∃ j : Nat, j ≤ l.length ∧ i = .int .i64 j ∧ Below w.heap.size w wr) (fun i _ => l.length - (intOf i).toNat)
  case atStart => exact ⟨0, Nat.zero_le _, rfl, Below.refl _ _⟩
  case round =>
    obtain ⟨j, hj, rfl, hb⟩ := hrel
    by_cases hlt : j < l.length
    · obtain ⟨x, hx⟩ : ∃ x, l[j]? = some x := ⟨l[j], List.getElem?_eq_getElem hlt⟩
      obtain ⟨b1, o1, rfl, _, hc1⟩ := (h1.below hb) (by omega)
      obtain ⟨b2, o2, rfl, _, hc2⟩ := (h2.below hb) (by omega)
      have p0 := hc1 j x hx
      have q0 := hc2 j x hx
      have hji : (j : Int) < (l.length : Int) := by omega
      clear hc1 hc2 hx
      go_wp2_with fail
      go_quiet (fail)
      have HB : Hid (Below w.heap.size w (wr.drewN nq)) := ⟨hb.os, hb.tape, hb.output, hb.size, hb.block⟩
      clear hb p0 q0
      generalize wr.drewN nq = w2 at HB ⊢
      go_wp2
      go_roundw
      case rel => exact ⟨j + 1, by omega, by go_num, HB.out⟩
      case measure => simp [intOf]; omega
    · go_wp2
      go_ret
      exact ⟨rfl, hb⟩
end Go.Proofs.Ytlamhidaicikfaa

/- Slices and structs that came in, in the words of the contracts: bytes, bools, numbers, what is laid, a block. -/
namespace Go.Proofs.Ytlamhidaicikfaa
open Go.RowKit Go.ChangeShapes Go.WideShapes Go.Deep

theorem list_of {α : Type} {p : Nat → α → Prop} : ∀ (n : Nat), (∀ i, i < n → ∃ x, p i x) → ∃ l : List α, l.length = n ∧ ∀ i x, l[i]? = some x → p i x
  | 0, _ => ⟨[], rfl, fun i x h => by simp at h⟩
  | n + 1, h => by
    obtain ⟨l, hl, hp⟩ := list_of n (fun i hi => h i (by omega))
    obtain ⟨x, hx⟩ := h n (by omega)
    refine ⟨l ++ [x], by simp [hl], fun i y hy => ?_⟩
    rcases Nat.lt_or_ge i l.length with h1 | h1
    · rw [List.getElem?_append_left h1] at hy
      exact hp i y hy
    · rw [List.getElem?_append_right h1] at hy
      have e : i - l.length = 0 := by
        rcases Nat.eq_zero_or_pos (i - l.length) with h2 | h2
        · exact h2
        · rw [List.getElem?_eq_none (by simp; omega)] at hy; cases hy
      rw [e] at hy
      obtain rfl : x = y := by simpa using hy
      obtain rfl : i = n := by omega
      exact hx

theorem add_plain {w : World} {a : Addr} {v : Value} (h : w.cell? (a.add 0) = some v) : ∃ b o, a = ⟨b, o, none⟩ ∧ b < w.heap.size ∧ ∀ j, a.add j = ⟨b, o + j, none⟩ := by
  obtain ⟨b, o, sp⟩ := a
  obtain rfl : sp = none := by simpa [Addr.add] using World.cell?_spot h
  have e : ∀ j, (⟨b, o, none⟩ : Addr).add j = ⟨b, o + j, none⟩ := fun j => by unfold Addr.add; split <;> simp_all
  refine ⟨b, o, rfl, ?_, e⟩
  rw [e] at h
  exact cell_lt h

/-- A slice of bools that came in. -/
def Boo (w : World) (A : Option Addr) (kb : List Bool) : Prop := 0 < kb.length → ∃ b o, A = some ⟨b, o, none⟩ ∧ b < w.heap.size ∧ ∀ j u, kb[j]? = some u → w.cell? ⟨b, o + j, none⟩ = some (.bool u)

section
variable {H : Type} {enc : TypeId × Value → H} {w : World} {base : Nat} {held : Bool} {fuel : Nat} {A : Option Addr} {len cap : Nat} {x : DataW H × List MemPlace}
theorem open_byt {fuel : Nat} {A : Option Addr} {len cap : Nat} {x : DataW H × List MemPlace} (h : DataW.trod enc Try.prog w base (fun _ => true) held fuel 28 [.slice A len cap] = some x) : ∃ bs : List UInt8, Rd w w.heap.size A len bs ∧ len ≤ cap ∧ cap ≤ maxLen ∧ (A = none → cap = 0) := by
  rcases open_ints Try.underlying28 Try.underlying5 (by kernel_rfl) h with ⟨hcs, _⟩ | ⟨y, l, c, zs, hcs, _, hl, hm, hz, _, hcell, hwz⟩
  · simp at hcs
    obtain ⟨rfl, rfl, rfl⟩ := hcs
    exact rd_of_row (zs := []) (.inl ⟨rfl, rfl, rfl, rfl⟩)
  · simp at hcs
    obtain ⟨rfl, rfl, rfl⟩ := hcs
    exact rd_of_row (zs := zs) (.inr ⟨_, rfl, hl, hm, by simpa using hz, hcell, hwz⟩)

theorem open_ns (h : DataW.trod enc Try.prog w base (fun _ => true) held fuel 67 [.slice A len cap] = some x) : ∃ l : List Int, l.length = len ∧ IRd w w.heap.size A l ∧ (∀ z ∈ l, -9223372036854775808 ≤ z ∧ z ≤ 9223372036854775807) ∧ len ≤ maxLen := by
  rcases open_ints Try.underlying67 Try.underlying3 (by kernel_rfl) h with ⟨hcs, _⟩ | ⟨y, l, c, zs, hcs, _, hl, hm, hz, _, hcell, hwz⟩
  · simp at hcs
    obtain ⟨rfl, rfl, rfl⟩ := hcs
    exact ⟨[], rfl, fun hn => absurd hn (by simp), (fun z hz => by cases hz), Nat.zero_le _⟩
  · simp at hcs
    obtain ⟨rfl, rfl, rfl⟩ := hcs
    have hz : zs.length = cap := by simpa using hz
    refine ⟨zs.take len, by rw [List.length_take]; omega, fun hn => ?_, fun z hz' => ?_, by omega⟩
    · rw [List.length_take] at hn
      obtain ⟨b, o, rfl, hlt, e⟩ := add_plain (hcell 0 (by omega))
      refine ⟨b, o, rfl, hlt, fun j u hu => ?_⟩
      rw [List.getElem?_take] at hu
      split at hu
      · have hc := hcell j (by omega)
        rw [e, List.getD_eq_getElem?_getD, hu] at hc
        exact hc
      · cases hu
    · have := bounds_i64 (hwz z (List.mem_of_mem_take hz'))
      omega

set_option maxRecDepth 100000 in
theorem open_blk {r : Reach} {b0 : Nat} {v : Value} {d : DataW H} {p : List MemPlace} (hval : Value.okWide Try.prog w r b0 43 v) (h : DataW.Trod enc Try.prog w base (fun _ => true) held 43 v d p) :
    ∃ (o s : Int) (u : Bool), v = .agg #[.int .i64 o, .int .i64 s, .bool u] ∧ (-9223372036854775808 ≤ o ∧ o ≤ 9223372036854775807) ∧ (-9223372036854775808 ≤ s ∧ s ≤ 9223372036854775807) := by
  obtain ⟨v0, v1, v2, y0, y1, y2, n, rfl, _, _, g0, g1, g2⟩ := Go.Joins.open_agg3 Try.underlying43 (by kernel_rfl) (by kernel_rfl) hval h
  obtain ⟨n0, h0, _, w0⟩ := DataW.trod_int Try.underlying3 g0
  obtain ⟨n1, h1, _, w1⟩ := DataW.trod_int Try.underlying3 g1
  obtain ⟨u, h2, _⟩ := DataW.trod_bool Try.underlying4 g2
  simp at h0 h1 h2
  subst h0 h1 h2
  have b0 := bounds_i64 w0
  have b1 := bounds_i64 w1
  exact ⟨n0, n1, u, rfl, by omega, by omega⟩

end
end Go.Proofs.Ytlamhidaicikfaa

/- The contracts of the document's own lists: num, bit, one, Free, Member. -/
namespace Go.Proofs.Ytlamhidaicikfaa
open Go.RowKit

theorem layN_eq (bs : List UInt8) (o v : Nat) : layN bs o v = lyN bs o v := by
  unfold layN lay lyN
  rw [lowB_length]

section
variable (w : World)
theorem numO_at (bs : List UInt8) (o : Nat) (h : o + 8 ≤ bs.length) : numO bs (o : Int) = wordN bs o := by
  unfold numO word?
  rw [if_pos (by omega)]
  rfl
theorem div_pow_succ (v k q : Nat) (h : v / 2 ^ k = q) : Value.int .u64 ((q : Int) / 2) = Value.int .u64 ((v / 2 ^ (k + 1) : Nat) : Int) := by
  rw [Nat.pow_succ, ← Nat.div_div_eq_div_mul, h]; simp

end
end Go.Proofs.Ytlamhidaicikfaa

/- The contracts of the document's own lists: mark, Put. -/
namespace Go.Proofs.Ytlamhidaicikfaa
open Go.RowKit

/-- A slice that is nil with nothing behind it, or lies in a block of S. -/
def KO (S : Nat → Prop) (A : Option Addr) (c : Nat) : Prop := (A = none → c = 0) ∧ ∀ a, A = some a → S a.block
/-- A slice of bytes that reads so. -/
def SlR (out : List UInt8) (w : World) (e : Ending) (w' : World) : Prop :=
  ∃ A' c', e = .returned (.slice A' out.length c') ∧ Rd w' w'.heap.size A' out.length out ∧ out.length ≤ c' ∧ (A' = none → c' = 0) ∧ Below w.heap.size w w'

section
variable (w : World)
end
end Go.Proofs.Ytlamhidaicikfaa

/- The contracts of the document's own lists: Put, all ways. -/
namespace Go.Proofs.Ytlamhidaicikfaa
open Go.RowKit

/-- What Put, and Take, and Set tell. -/
def SlB (S : Nat → Prop) (n : Nat) (out : List UInt8) (ok : Bool) (w : World) (e : Ending) (w' : World) : Prop :=
  ∃ A' c', e = .returned (.tuple #[.slice A' n c', .bool ok]) ∧ Rd w' w'.heap.size A' n out ∧ n ≤ c' ∧ KO S A' c' ∧ Below w.heap.size w w'

section
variable (w : World)

end
end Go.Proofs.Ytlamhidaicikfaa

/- The contracts of the document's own lists: All. -/
namespace Go.Proofs.Ytlamhidaicikfaa
open Go.RowKit

theorem int_inf : (Try.prog.info? 3).map (fun i => (i.zero, i.size, i.bytes)) = some (some (.int .i64 0), 1, 8) := by kernel_rfl
def iV (n : Nat) : Value := .int .i64 (n : Int)
/-- A slice of numbers. -/
def IntsTold (x : Option (List Nat)) (w : World) (e : Ending) (w' : World) : Prop :=
  ∃ A' c', e = .returned (.tuple #[.slice A' (x.getD []).length c', .bool x.isSome]) ∧ w'.ownsRow w.heap.size 3 1 (.slice A' (x.getD []).length c') (x.getD []).length ((x.getD []).map iV) ∧ Below w.heap.size w w'

section
variable (w : World)
end
end Go.Proofs.Ytlamhidaicikfaa

/- The contracts of the document's own fits: Find. -/
namespace Go.Proofs.Ytlamhidaicikfaa
open Go.RowKit

theorem find_take {p : Nat → Bool} {l : List Nat} {j o : Nat} (h : ∀ q ∈ l.take j, p q = false) (hj : l[j]? = some o) (ho : p o = true) : l.find? p = some o := by
  have hlt : j < l.length := by
    rcases Nat.lt_or_ge j l.length with h | h
    · exact h
    · rw [List.getElem?_eq_none h] at hj; cases hj
  rw [List.getElem?_eq_getElem hlt] at hj
  injection hj with hj
  have e : l = l.take j ++ (o :: l.drop (j + 1)) := by rw [← hj, ← List.drop_eq_getElem_cons hlt, List.take_append_drop]
  rw [e, List.find?_append]
  have hn : (l.take j).find? p = none := List.find?_eq_none.2 fun q hq => by rw [h q hq]; simp
  rw [hn, Option.none_or, List.find?_cons_of_pos ho]
theorem find_none' {p : Nat → Bool} {l : List Nat} (h : ∀ q ∈ l, p q = false) : l.find? p = none := List.find?_eq_none.2 fun q hq => by rw [h q hq]; simp

theorem allF_member (bs : List UInt8) (c : Nat) : ∀ (k last p : Nat) (l : List Nat), allF bs c k last p = some l → ∀ o ∈ l, memberB bs o (c : Int) = true
  | 0, last, p, l, h, o, ho => by
    unfold allF at h
    split at h
    · injection h with h; subst h; cases ho
    · cases h
  | k + 1, last, p, l, h, o, ho => by
    unfold allF at h
    by_cases hp : p = 0
    · rw [if_pos hp] at h; injection h with h; subst h; cases ho
    · rw [if_neg hp] at h
      dsimp only at h
      by_cases hm : memberB bs p (c : Int) = true ∧ wordN bs (p + 16) = last
      · rw [if_pos hm] at h
        cases hr : allF bs c k p (wordN bs (p + 8)) with
        | none => rw [hr] at h; cases h
        | some l' =>
          rw [hr] at h
          injection h with h
          subst h
          rcases List.mem_cons.1 ho with e | ho
          · rw [e]; exact hm.1
          · exact allF_member bs c k p _ l' hr o ho
      · rw [if_neg hm] at h; cases h
theorem allB_member {bs : List UInt8} {c : Nat} {l : List Nat} (h : allB bs c = some l) : ∀ o ∈ l, memberB bs o (c : Int) = true := by
  unfold allB at h
  split at h
  · cases h
  · split at h
    · cases h
    · exact allF_member bs c _ _ _ l h
theorem memberB_get {bs : List UInt8} {p : Nat} {c : Int} (h : memberB bs p c = true) : p ≤ 20000 ∧ ∃ x, getB bs (p : Int) = some x := by
  unfold memberB at h
  cases hg : getB bs (p : Int) with
  | none => rw [hg] at h; simp at h
  | some x => rw [hg] at h; simp at h; exact ⟨h.1, x, rfl⟩
section
variable (w : World)
end
end Go.Proofs.Ytlamhidaicikfaa

/- The contracts of the document's own fits: Rebuild. -/
namespace Go.Proofs.Ytlamhidaicikfaa
open Go.RowKit

theorem walkF_mem (bs : List UInt8) : ∀ (k o : Nat) (l : List Bk), walkF bs k o = some l → ∀ x ∈ l, getB bs (x.off : Int) = some x
  | 0, _, _, h, _, _ => by cases h
  | k + 1, o, l, h, x, hx => by
    unfold walkF at h
    by_cases hlt : o < bs.length
    · rw [if_pos hlt] at h
      cases hg : getB bs (o : Int) with
      | none => rw [hg] at h; cases h
      | some y =>
        rw [hg] at h
        dsimp only at h
        cases hr : walkF bs k (o + y.size) with
        | none => rw [hr] at h; cases h
        | some r =>
          rw [hr] at h
          injection h with h
          subst h
          rcases List.mem_cons.1 hx with e | hx
          · subst e
            have := (getB_some hg).1
            rw [← this, hg]
          · exact walkF_mem bs k _ r hr x hx
    · rw [if_neg hlt] at h
      injection h with h
      subst h
      cases hx
theorem walkB_mem {bs : List UInt8} {l : List Bk} (h : walkB bs = some l) : 184 ≤ bs.length ∧ ∀ x ∈ l, getB bs (x.off : Int) = some x := by
  unfold walkB at h
  split at h
  · cases h
  · exact ⟨by omega, walkF_mem bs _ _ l h⟩
theorem own_bks {w : World} {base n : Nat} {t : TypeId} {A : Option Addr} {c : Nat} {l : List Bk} (h : w.ownsRow base t 3 (.slice A n c) n (flatK l)) (hn : n = l.length) : BkRd w w.heap.size A l := fun h0 => by
  rcases h.2 with ⟨_, h0'⟩ | ⟨g, _, _, h', _⟩
  · omega
  · injection h' with e
    subst e
    refine ⟨g, 0, rfl, (h.lt g rfl).2, fun j x hx => ?_⟩
    obtain ⟨q0, q1, q2⟩ := flatK_get l j x hx
    have hj : j < l.length := by
      rcases Nat.lt_or_ge j l.length with h | h
      · exact h
      · rw [List.getElem?_eq_none h] at hx; cases hx
    refine ⟨?_, ?_, ?_⟩
    · rw [Nat.zero_add, h.cellAt (j * 3) (by omega), q0]
    · rw [Nat.zero_add, h.cellAt (j * 3 + 1) (by omega), q1]
    · rw [Nat.zero_add, h.cellAt (j * 3 + 2) (by omega), q2]

/-- make([]byte, n): a block of n bytes that are 0. -/
theorem run_mk0 (n : Nat) (hn : n ≤ 1000000) (z : List UInt8) (hz : List.replicate n (0 : UInt8) = z) (W : World) : (Instr.makeSlice 28 (.int .i64 (n : Int)) (.int .i64 (n : Int))).run Try.prog W = .ok (.slice (some ⟨W.heap.size, 0, none⟩) n n) (W.alloc (.cells (rowB z) 5)) := by
  have := run_make_row' (P := Try.prog) 28 5 (.int .u8 0) 1 Try.underlying28 u8_infb rfl .i64 .i64 n (by omega) (by omega) W
  rw [rowB_zeros, hz] at this
  exact this
theorem mk_run {P : Program} {o : Oper} {a : Act} {w w1 : World} {v L C : Value} {t : TypeId} {l c : Operand} (ho : o.op = .makeSlice t l c) (hl : a.eval l = L) (hc : a.eval c = C)
    (hr : (Instr.makeSlice t L C).run P w = .ok v w1) : (execOp a.eval o).run P w = .ok (.value v) w1 := by
  unfold execOp
  simp only [ho]
  rw [hl, hc, Sem.run_bind, hr]
  rfl

/-- What a slice is from a place on. -/
theorem rd_from {w : World} {B b o ca k : Nat} {bs : List UInt8} (hb : b < B) (hc : ∀ (j : Nat) (u : UInt8), bs[j]? = some u → w.cell? ⟨b, o + j, none⟩ = some (.int .u8 (u.toNat : Int))) (hlc : bs.length ≤ ca) :
    Rd w B (if ca = k then some ⟨b, o, none⟩ else some ⟨b, o + k, none⟩) (bs.length - k) (bs.drop k) := by
  refine ⟨by simp, fun h => ?_⟩
  rw [if_neg (by omega)]
  refine ⟨b, o + k, rfl, hb, fun j u hu => ?_⟩
  rw [List.getElem?_drop] at hu
  have := hc (k + j) u hu
  rw [Nat.add_assoc]
  exact this

section
variable (w : World)
end
end Go.Proofs.Ytlamhidaicikfaa
