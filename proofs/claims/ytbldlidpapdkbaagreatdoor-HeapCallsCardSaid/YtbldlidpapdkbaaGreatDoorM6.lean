/- Texts of mine, joined: HpZ, HpM16, TakM, TakM2, TakM3, TakM4, TakM5, TakM6, RezM, Pair. -/
import Derived.Test.YtbldlidpapdkbaaGreatDoorM5

/- The document's heap, plain: one without blocks; lists made anew; one out of any bytes that are right. No program in sight. -/
namespace Go.Proofs.YtbldlidpapdkbaaGreatDoor

def hpZero (cap : Nat) : Hp := ⟨cap, [], [], fun _ => []⟩
/-- Bytes of 0 are a heap without blocks. -/
theorem rt_zero {z : List UInt8} (hz : List.replicate 184 (0 : UInt8) = z) (cap : Nat) (hc : 184 ≤ cap) : Rt z ⟨cap, [], [], fun _ => []⟩ := by
  have hl : z.length = 184 := by rw [← hz]; exact List.length_replicate
  have hw0 : ∀ p, p + 8 ≤ 184 → p % 8 = 0 → wordN z p = 0 := fun p hp _ => by
    have := wordN_zeros [] 184 p hp
    rw [List.append_nil, hz] at this
    exact this
  have hwk : walkB z = some [] := walkB_tile (by rw [hl]; rfl) (fun x hx => by cases hx)
  have hli : Lists z [] (fun _ => []) := lists_none (by omega) (by omega) ⟨fun x hx => (by cases hx), fun x hx => (by cases hx)⟩ hw0
  refine ⟨hwk, fun c hc => hli.all hc (Nat.zero_le _), ?_, by show z.length ≤ cap; omega⟩
  have e : freeL [] = fun _ => [] := rfl
  rw [checkB_lists hwk (by rw [e]; exact hli) (by rw [hw0 0 (by omega) rfl]; omega)]
  rfl
theorem rtd_zero {z : List UInt8} (hz : List.replicate 184 (0 : UInt8) = z) (cap : Nat) (hc : 184 ≤ cap) : RtD z (hpZero cap) :=
  ⟨rt_zero hz cap hc, rfl, fun j x d ha => by have h := ha.1; cases h⟩
end Go.Proofs.YtbldlidpapdkbaaGreatDoor

/- The document's heap, plain: what a call comes to: a reply, and the heap then; where slices lie is no matter. No program in sight. -/
namespace Go.Proofs.YtbldlidpapdkbaaGreatDoor

/-- Used ones, free ones, bytes that are usable. -/
def statL : List Bk → Nat × Nat × Nat
  | [] => (0, 0, 0)
  | x :: r => if x.used = true then ((statL r).1 + 1, (statL r).2.1, (statL r).2.2 + (x.size - 16)) else ((statL r).1, (statL r).2.1 + 1, (statL r).2.2)
/-- Stats: used, free, bytes, length, capacity. -/
structure St5 where
  used : Nat
  free : Nat
  bytes : Nat
  len : Nat
  cap : Nat
def St5.none : St5 := ⟨0, 0, 0, 0, 0⟩
def Hp.stats (H : Hp) : St5 := ⟨(statL H.blks).1, (statL H.blks).2.1, (statL H.blks).2.2, lenB H.blks, H.cap⟩
/-- What comes of a call. -/
structure Rp where
  code : Int
  hd : Nat
  n : Nat
  b : List UInt8
  st : St5
def Rp.err (k : Int) : Rp := ⟨k, 0, 0, [], St5.none⟩
/-- A call of a handle's bytes: Usable (5), Read (6), Write (7). -/
def Hp.heldC (H : Hp) (op : Int) (q n p : Nat) (b : List UInt8) : Rp × Hp := match H.handleB q with
  | none => (Rp.err 4, H)
  | some i => if op = 5 then (⟨0, 0, (H.ds.getD i nilD).2.length, [], St5.none⟩, H)
    else if (H.ds.getD i nilD).2.length < p + (if op = 7 then b.length else n) then (Rp.err 2, H)
    else if op = 6 then (⟨0, 0, 0, ((H.ds.getD i nilD).2.drop p).take n, St5.none⟩, H)
    else (Rp.err 0, H.dset i ((H.ds.getD i nilD).1, lay (H.ds.getD i nilD).2 p b))
def gotR (r : (Nat × Int) × Hp) : Rp × Hp := (⟨r.1.2, r.1.1, 0, [], St5.none⟩, r.2)
/-- What a call comes to. -/
def Hp.doC (H : Hp) (op : Int) (q n m p : Nat) (b : List UInt8) : Rp × Hp :=
  if op = 1 then gotR (H.get n 165)
  else if op = 2 then gotR (H.calloc n m)
  else if op = 3 then match H.handleB q with
    | none => (Rp.err 4, H)
    | some i => (Rp.err 0, H.give i)
  else if op = 4 then gotR (H.realloc q n)
  else if op = 5 ∨ op = 6 ∨ op = 7 then H.heldC op q n p b
  else if op = 8 then (⟨0, 0, 0, [], H.stats⟩, H)
  else (Rp.err 1, H)

section
variable {H : Hp}
end
end Go.Proofs.YtbldlidpapdkbaaGreatDoor

/- Taking and giving back, plain: what laying tags does to lists; a heap in bytes on the way, with lists that may lack a block. No program in sight. -/
namespace Go.Proofs.YtbldlidpapdkbaaGreatDoor

theorem setT_get {bs : List UInt8} {x : Bk} (hs : isSz (x.size : Int) = true) (h : x.off + x.size ≤ bs.length) (i : Nat) (hi : (i < x.off ∨ x.off + 8 ≤ i) ∧ (i < x.off + x.size - 8 ∨ x.off + x.size ≤ i)) : (setT bs x)[i]? = bs[i]? := by
  have hs := (isSz_iff _).1 hs
  have e := lyN_length bs x.off (tagN x) (by omega)
  unfold setT
  rw [lyN_get _ _ _ _ (by omega) (by omega), lyN_get _ _ _ _ (by omega) (by omega)]
section
variable {bs : List UInt8} {P Q : List Bk} {L : Nat → List Nat}
/-- A block set where no listed one stands. -/
theorem Lists.set (h : Lists bs P L) {x : Bk} (x1 : 184 ≤ x.off) (x2 : x.off % 16 = 8) (x3 : x.off + x.size ≤ bs.length) (hs : isSz (x.size : Int) = true)
    (hQ : ∀ y ∈ Q, y = x ∨ (y ∈ P ∧ (y.off + y.size ≤ x.off ∨ x.off + x.size ≤ y.off)))
    (hL : ∀ c, c < 22 → ∀ o ∈ L c, ∃ y ∈ Q, y ∈ P ∧ y.off = o ∧ (y.off + y.size ≤ x.off ∨ x.off + x.size ≤ y.off)) : Lists (setT bs x) Q L := by
  have hl := setT_length hs x3
  have hlen := h.len
  have sz := (isSz_iff _).1 hs
  refine ⟨by omega, by rw [hl]; exact h.small, ⟨fun y hy => ?_, fun y hy z hz => ?_⟩, fun c hc => ?_, fun c hc => ?_, fun c hc o ho => ?_, fun c hc => ?_, h.nodup⟩
  · rcases hQ y hy with rfl | ⟨hy, hd⟩
    · exact setT_at x1 x2 x3 hs
    · exact setT_keep hs x3 (h.st.at_ y hy) hd
  · rcases hQ y hy with rfl | ⟨hy, hd⟩
    · rcases hQ z hz with rfl | ⟨hz, hd⟩
      · exact .inl rfl
      · exact .inr hd.symm
    · rcases hQ z hz with rfl | ⟨hz, _⟩
      · exact .inr hd
      · exact h.st.apart y hy z hz
  · rw [setT_same hs x3 _ (by omega)]; exact h.head c hc
  · rw [setT_same hs x3 _ (by omega)]; exact h.bit c hc
  · obtain ⟨y, hy, hyP, e, hd⟩ := hL c hc o ho
    obtain ⟨z, hz, ez, hu, hcl⟩ := h.mem c hc o ho
    have := h.st.uniq hyP hz (by omega)
    subst this
    exact ⟨y, hy, e, hu, hcl⟩
  · refine link_congr (L c) 0 0 (fun o ho => ?_) (h.links c hc)
    obtain ⟨y, hy, hyP, e, hd⟩ := hL c hc o ho
    have hf := h.st.facts hyP
    exact ⟨setT_same hs x3 _ (by omega), setT_same hs x3 _ (by omega)⟩
theorem more_get (bs : List UInt8) (n i : Nat) (h : i < bs.length) : (bs ++ List.replicate n (0 : UInt8))[i]? = bs[i]? := List.getElem?_append_left h
theorem more_word (bs : List UInt8) (n p : Nat) (h : p + 8 ≤ bs.length) : wordN (bs ++ List.replicate n 0) p = wordN bs p := wordN_congr _ _ _ fun i _ h2 => more_get bs n i (by omega)
/-- Zeros behind. -/
theorem Lists.more (h : Lists bs P L) (n : Nat) (hn : bs.length + n ≤ 16384) : Lists (bs ++ List.replicate n 0) P L := by
  have hlen := h.len
  have hl : (bs ++ List.replicate n (0 : UInt8)).length = bs.length + n := by rw [List.length_append, List.length_replicate]
  refine ⟨by omega, by omega, ⟨fun y hy => ?_, h.st.apart⟩, fun c hc => ?_, fun c hc => ?_, h.mem, fun c hc => ?_, h.nodup⟩
  · obtain ⟨_, g1, g2, g3, g4, g5, g6⟩ := getB_some (h.st.at_ y hy)
    have q := (isSz_iff _).1 g4
    refine getB_of g1 g2 (by omega) ?_ ?_
    · rw [more_word _ _ _ (by omega)]; exact g5
    · rw [more_word _ _ _ (by omega), more_word _ _ _ (by omega)]; exact g6
  · rw [more_word _ _ _ (by omega)]; exact h.head c hc
  · rw [more_word _ _ _ (by omega)]; exact h.bit c hc
  · refine link_congr (L c) 0 0 (fun o ho => ?_) (h.links c hc)
    obtain ⟨_, y, hyP, e, _⟩ := h.member hc ho
    have hf := h.st.facts hyP
    exact ⟨more_word _ _ _ (by omega), more_word _ _ _ (by omega)⟩
end
theorem memberB_lt {bs : List UInt8} {p : Nat} {c : Int} (h : memberB bs p c = true) : 184 ≤ p ∧ p + 32 ≤ bs.length := by
  unfold memberB at h
  cases hg : getB bs (p : Int) with
  | none => rw [hg] at h; simp at h
  | some y =>
    obtain ⟨r0, r1, _, r3, r4, _⟩ := getB_some hg
    have q := (isSz_iff _).1 r4
    omega
/-- The bits behind the classes stay. -/
theorem takeB_high {bs out : List UInt8} {o : Int} (hl : 184 ≤ bs.length) (h : takeB bs o = some out) : wordN out 0 / 4194304 = wordN bs 0 / 4194304 := by
  unfold takeB at h
  by_cases hf : freeI bs o < 0
  · rw [if_pos hf] at h; cases h
  rw [if_neg hf] at h
  have hb : freeI bs o < 22 := by
    unfold freeI
    split
    · rename_i x _
      have := classI_bounds (x.size : Int)
      split <;> omega
    · omega
  obtain ⟨c, hcc⟩ : ∃ c, (freeI bs o).toNat = c := ⟨_, rfl⟩
  have hc22 : c < 22 := by omega
  rw [hcc] at h
  dsimp only at h
  obtain ⟨n, hn⟩ : ∃ n, wordN bs (o.toNat + 8) = n := ⟨_, rfl⟩
  obtain ⟨p, hp⟩ : ∃ p, wordN bs (o.toNat + 16) = p := ⟨_, rfl⟩
  rw [hn, hp] at h
  split at h
  · cases h
  split at h
  · cases h
  rename_i hp2
  split at h
  · cases h
  rename_i hn2
  injection h with h
  have hpm : p ≠ 0 → 184 ≤ p ∧ p + 32 ≤ bs.length := fun e => by
    cases hm : memberB bs p (c : Int) with
    | true => exact memberB_lt hm
    | false => exact absurd ⟨e, .inl hm⟩ hp2
  have hnm : n ≠ 0 → 184 ≤ n ∧ n + 32 ≤ bs.length := fun e => by
    cases hm : memberB bs n (c : Int) with
    | true => exact memberB_lt hm
    | false => exact absurd ⟨e, .inl hm⟩ hn2
  obtain ⟨b1, hb1⟩ : ∃ b1, (if p = 0 then lyN bs (8 + 8 * c) n else lyN bs (p + 8) n) = b1 := ⟨_, rfl⟩
  have f1 : b1.length = bs.length ∧ wordN b1 0 = wordN bs 0 := by
    rw [← hb1]
    by_cases e : p = 0
    · rw [if_pos e]
      exact ⟨lyN_length _ _ _ (by omega), wordN_other _ _ _ _ (by omega) (by omega)⟩
    · have := hpm e
      rw [if_neg e]
      exact ⟨lyN_length _ _ _ (by omega), wordN_other _ _ _ _ (by omega) (by omega)⟩
  rw [hb1] at h
  obtain ⟨b2, hb2⟩ : ∃ b2, (if n ≠ 0 then lyN b1 (n + 16) p else b1) = b2 := ⟨_, rfl⟩
  have f2 : b2.length = bs.length ∧ wordN b2 0 = wordN bs 0 := by
    rw [← hb2]
    by_cases e : n ≠ 0
    · have := hnm e
      rw [if_pos e]
      exact ⟨(lyN_length _ _ _ (by omega)).trans f1.1, (wordN_other _ _ _ _ (by omega) (by omega)).trans f1.2⟩
    · rw [if_neg e]; exact f1
  rw [hb2] at h
  obtain ⟨b3, hb3⟩ : ∃ b3, (if p ≠ 0 ∧ (wordN bs (8 + 8 * c) : Int) = o then lyN b2 (8 + 8 * c) n else b2) = b3 := ⟨_, rfl⟩
  have f3 : b3.length = bs.length ∧ wordN b3 0 = wordN bs 0 := by
    rw [← hb3]
    by_cases e : p ≠ 0 ∧ (wordN bs (8 + 8 * c) : Int) = o
    · rw [if_pos e]
      exact ⟨(lyN_length _ _ _ (by omega)).trans f2.1, (wordN_other _ _ _ _ (by omega) (by omega)).trans f2.2⟩
    · rw [if_neg e]; exact f2
  rw [hb3] at h
  rw [← h, markB_high _ c hc22 (by omega), f3.2]

theorem tile_cnt : ∀ (l : List Bk) (o e : Nat), tile o l e → l.length * 32 + o ≤ e
  | [], o, e, h => by have : o = e := h; simp; omega
  | x :: r, o, e, ⟨_, b, c⟩ => by
    have q := (isSz_iff _).1 b
    have := tile_cnt r _ e c
    rw [List.length_cons]; omega
theorem freeL_nodup {l : List Bk} {o e : Nat} (ht : tile o l e) (c : Nat) : (freeL l c).Nodup := by
  unfold freeL
  have h := tile_ne l o e ht
  refine List.pairwise_map.2 (List.Pairwise.filter _ (List.pairwise_reverse.2 (h.imp fun h => h.symm)))
/-- From one on, all of a class are linked. -/
theorem allF_links {bs : List UInt8} {c : Nat} : ∀ (k last p : Nat) (l : List Nat), allF bs c k last p = some l → link bs last l 0 ∧ l.headD 0 = p
  | k, last, p, l, h => by
    unfold allF at h
    by_cases hp : p = 0
    · rw [if_pos hp] at h
      injection h with h
      subst h
      exact ⟨trivial, hp.symm⟩
    · rw [if_neg hp] at h
      cases k with
      | zero => cases h
      | succ k =>
        dsimp only at h
        split at h
        · rename_i hc
          cases hr : allF bs c k p (wordN bs (p + 8)) with
          | none => rw [hr] at h; cases h
          | some r =>
            rw [hr] at h
            injection h with h
            subst h
            obtain ⟨i1, i2⟩ := allF_links k _ _ r hr
            exact ⟨⟨hc.2, i2.symm, i1⟩, rfl⟩
        · cases h

/-- Bytes that are such a heap, its lists, which may lack a block. -/
structure Md (bs : List UInt8) (H : Hp) : Prop where
  tl : tile 184 H.blks bs.length
  ls : Lists bs H.blks H.lists
  hi : wordN bs 0 < 4194304
  len : bs.length ≤ H.cap
theorem Rt.md {bs : List UInt8} {H : Hp} (h : Rt bs H) (hc : H.cap ≤ 16384) : Md bs H := by
  obtain ⟨w1, w2, w3⟩ := walkB_tiles h.walk
  obtain ⟨n1, _, _⟩ := h.nfree
  have hl := h.len
  have hk := h.chk
  unfold checkB at hk
  rw [h.walk] at hk
  simp only [Bool.and_eq_true] at hk
  have h0 : wordN bs 0 < 4194304 := by
    have e0 : numO bs 0 = wordN bs 0 := by unfold numO word?; rw [if_pos (by omega)]; rfl
    rw [← e0]; exact of_decide_eq_true hk.1
  refine ⟨w2, ⟨w1, by omega, ⟨w3, tile_apart _ _ _ w2⟩, fun c hc => ?_, fun c hc => ?_, fun c hc o ho => freeL_mem ((n1 c hc).2 o ho), fun c hc => ?_, fun c hc => (n1 c hc).1⟩, h0, hl⟩
  · exact (allF_links _ _ _ _ (allB_bit (h.all_ c hc)).2).2.symm
  · obtain ⟨b1, b2⟩ := allB_bit (h.all_ c hc)
    have e := (allF_links _ _ _ _ b2).2
    rw [b1, ← e]
    cases hL : H.lists c with
    | nil => rfl
    | cons o r =>
      obtain ⟨x, hx, ex, _⟩ := freeL_mem ((n1 c hc).2 o (by rw [hL]; simp))
      have := ((tile_mem _ _ _ w2).2 x hx).1
      have : o ≠ 0 := by omega
      simp [this]
  · exact (allF_links _ _ _ _ (allB_bit (h.all_ c hc)).2).1
theorem chkC_full {bs : List UInt8} {l : List Bk} {L : Nat → List Nat} (h : Lists bs l L) (hl : ∀ c, c < 22 → (L c).length ≤ 1024) (hn : ∀ c, c < 22 → (L c).length = (freeL l c).length) : ∀ (k c : Nat) (fr : Int), c + k = 22 → chkC bs l k c fr = (fr - sumF l k c == 0)
  | 0, c, fr, _ => by unfold chkC sumF; simp
  | k + 1, c, fr, hc => by
    have ha := h.all (c := c) (by omega) (hl c (by omega))
    have hok : (L c).all (okO l (L c)) = true := by
      rw [List.all_eq_true]
      intro o ho
      unfold okO foundB
      rw [Bool.and_eq_true]
      constructor
      · rw [List.any_eq_true]
        obtain ⟨x, hx, e, hu, _⟩ := h.mem c (by omega) o ho
        exact ⟨x, hx, by simp [e, hu]⟩
      · rw [List.Nodup.count (h.nodup c (by omega)), if_pos ho]; rfl
    unfold chkC
    rw [ha]
    dsimp only
    rw [hok, Bool.true_and, chkC_full h hl hn k (c + 1) _ (by omega)]
    have e : fr - (sumF l (k + 1) c : Nat) = fr - ((L c).length : Int) - (sumF l k (c + 1) : Nat) := by
      have : sumF l (k + 1) c = (freeL l c).length + sumF l k (c + 1) := rfl
      have := hn c (by omega)
      omega
    rw [e]
theorem Md.sub {bs : List UInt8} {H : Hp} (h : Md bs H) {c : Nat} (hc : c < 22) : ∀ o ∈ H.lists c, o ∈ freeL H.blks c := fun o ho => by
  obtain ⟨x, hx, e, hu, hcl⟩ := h.ls.mem c hc o ho
  rw [← e]
  exact mem_freeL hx hu hcl
theorem Md.small {bs : List UInt8} {H : Hp} (h : Md bs H) {c : Nat} (hc : c < 22) : (H.lists c).length ≤ 1024 := by
  have h1 := nodup_le (h.ls.nodup c hc) (h.sub hc)
  have h2 := freeL_len H.blks c
  have h3 := tile_cnt _ _ _ h.tl
  have h4 := h.ls.small
  omega
/-- With all free ones in the lists, and no two together, it is right. -/
theorem Md.rt {bs : List UInt8} {H : Hp} (h : Md bs H) (hF : ∀ c, c < 22 → ∀ o ∈ freeL H.blks c, o ∈ H.lists c) (hn : noAdj H.blks = true) : Rt bs H := by
  have hw : walkB bs = some H.blks := walkB_tile h.tl h.ls.st.at_
  have hlen := h.ls.len
  refine ⟨hw, fun c hc => h.ls.all hc (h.small hc), ?_, h.len⟩
  have e0 : numO bs 0 = wordN bs 0 := by unfold numO word?; rw [if_pos (by omega)]; rfl
  have hnn : ∀ c, c < 22 → (H.lists c).length = (freeL H.blks c).length := fun c hc => Nat.le_antisymm (nodup_le (h.ls.nodup c hc) (h.sub hc)) (nodup_le (freeL_nodup h.tl c) (hF c hc))
  have hm := (tile_mem _ _ _ h.tl).2
  unfold checkB
  rw [hw]
  dsimp only
  rw [e0, decide_eq_true h.hi, hn, Bool.true_and, Bool.true_and, chkC_full h.ls (fun c hc => h.small hc) hnn 22 0 _ rfl, sumF_all H.blks (fun x hx => (hm x hx).2.2.1), Int.sub_self]
  rfl

/-- No two free ones together; u: is what is ahead used? -/
def nadj : Bool → List Bk → Bool
  | _, [] => true
  | u, x :: r => (u || x.used) && nadj x.used r
def lastU : Bool → List Bk → Bool
  | u, [] => u
  | _, x :: r => lastU x.used r
theorem nadj_app : ∀ (a b : List Bk) (u : Bool), nadj u (a ++ b) = (nadj u a && nadj (lastU u a) b)
  | [], b, u => by simp [nadj, lastU]
  | x :: r, b, u => by simp only [List.cons_append, nadj, lastU]; rw [nadj_app r b x.used, Bool.and_assoc]
theorem lastU_app : ∀ (a b : List Bk) (u : Bool), lastU u (a ++ b) = lastU (lastU u a) b
  | [], _, _ => rfl
  | x :: r, b, _ => lastU_app r b x.used
theorem tkUsed_of {l : List Bk} {j : Nat} {y : Bk} (h : l[j]? = some y) : usedAt l j = y.used := by unfold usedAt; rw [h]
theorem nadj_get : ∀ (l : List Bk) (u : Bool), nadj u l = true ↔ (∀ y, l[0]? = some y → u = true ∨ y.used = true) ∧ ∀ j, j + 1 < l.length → usedAt l (j + 1) = true ∨ usedAt l j = true
  | [], u => by simp [nadj]
  | x :: r, u => by
    unfold nadj
    rw [Bool.and_eq_true, Bool.or_eq_true, nadj_get r x.used]
    constructor
    · rintro ⟨h1, h2, h3⟩
      refine ⟨fun y hy => ?_, fun j hj => ?_⟩
      · injection hy with hy
        subst hy
        exact h1
      · rw [List.length_cons] at hj
        cases j with
        | zero =>
          obtain ⟨y, hy⟩ : ∃ y, r[0]? = some y := ⟨_, List.getElem?_eq_getElem (by omega)⟩
          rw [tkUsed_of (y := y) (by simpa using hy), tkUsed_of (y := x) rfl]
          exact (h2 y hy).symm
        | succ j => exact h3 j (by omega)
    · rintro ⟨h1, h2⟩
      refine ⟨h1 x rfl, fun y hy => ?_, fun j hj => ?_⟩
      · have hl := lst_lt hy
        have := h2 0 (by rw [List.length_cons]; omega)
        rw [tkUsed_of (y := y) (by simpa using hy), tkUsed_of (y := x) rfl] at this
        exact this.symm
      · exact h2 (j + 1) (by rw [List.length_cons]; omega)
theorem noAdj_nadj (l : List Bk) : noAdj l = nadj true l := by
  rw [Bool.eq_iff_iff, nadj_get]
  unfold noAdj
  rw [List.all_eq_true]
  constructor
  · intro h
    refine ⟨fun _ _ => .inl rfl, fun j hj => ?_⟩
    have := h (j + 1) (List.mem_range.2 hj)
    unfold pairOk at this
    rw [Bool.or_eq_true, Bool.or_eq_true, Nat.add_sub_cancel] at this
    rcases this with h1 | h1
    · simp at h1
    · exact h1
  · rintro ⟨_, h⟩ j hj
    have hj := List.mem_range.1 hj
    unfold pairOk
    cases j with
    | zero => rfl
    | succ j =>
      rw [Bool.or_eq_true, Bool.or_eq_true, Nat.add_sub_cancel]
      exact .inr (h j hj)
end Go.Proofs.YtbldlidpapdkbaaGreatDoor

/- What giving a block back comes to, plain: the blocks and the lists then. No program in sight. -/
namespace Go.Proofs.YtbldlidpapdkbaaGreatDoor

/-- A list without a block, and with it. -/
def tkL (L : Nat → List Nat) (y : Bk) : Nat → List Nat := setL L (clsB y) ((L (clsB y)).filter fun o => o != y.off)
def ptL (L : Nat → List Nat) (y : Bk) : Nat → List Nat := setL L (clsB y) (y.off :: L (clsB y))
def tkO (L : Nat → List Nat) : Option Bk → Nat → List Nat
  | none => L
  | some y => tkL L y
theorem mid_at (A : List Bk) (y : Bk) (B : List Bk) : bkAt (A ++ y :: B) A.length = y := bkAt_of (by rw [List.getElem?_append_right (Nat.le_refl _), Nat.sub_self]; rfl)
theorem mid_at1 (A : List Bk) (y z : Bk) (B : List Bk) : bkAt (A ++ y :: z :: B) (A.length + 1) = z := bkAt_of (by rw [List.getElem?_append_right (by omega), show A.length + 1 - A.length = 1 by omega]; rfl)
theorem mid_split {l : List Bk} {i : Nat} (hi : i < l.length) : l = l.take i ++ bkAt l i :: l.drop (i + 1) ∧ (l.take i).length = i := by
  refine ⟨?_, by rw [List.length_take]; omega⟩
  have e : l.drop i = bkAt l i :: l.drop (i + 1) := by
    have h := bkAt_get hi
    rw [List.getElem?_eq_getElem hi] at h
    injection h with h
    rw [List.drop_eq_getElem_cons hi, h]
  rw [← e, List.take_append_drop]
section
variable {H : Hp} {A B : List Bk} {y z : Bk} {i : Nat}
theorem mid_use (hb : H.blks = A ++ y :: B) (u : Bool) : (H.use A.length u).blks = A ++ { y with used := u } :: B := by
  show H.blks.set A.length { bkAt H.blks A.length with used := u } = _
  rw [hb, mid_at, List.set_append_right _ _ (Nat.le_refl _), Nat.sub_self]
  rfl
theorem mid_size (hb : H.blks = A ++ y :: B) (s : Nat) : (H.size A.length s).blks = A ++ { y with size := s } :: B := by
  show H.blks.set A.length { bkAt H.blks A.length with size := s } = _
  rw [hb, mid_at, List.set_append_right _ _ (Nat.le_refl _), Nat.sub_self]
  rfl
theorem mid_join (hb : H.blks = A ++ y :: z :: B) : (H.join A.length).blks = A ++ { y with size := y.size + z.size } :: B := by
  rw [join_blks H (i := A.length) (by rw [hb]; simp), hb, mid_at, mid_at1, List.take_left, show A ++ y :: z :: B = (A ++ [y, z]) ++ B by simp, List.drop_left' (by simp)]
theorem mid_out (hb : H.blks = A ++ y :: B) : (H.out A.length).lists = tkL H.lists y := by
  show setL H.lists (clsB (bkAt H.blks A.length)) _ = _
  rw [hb, mid_at]
  rfl
theorem mid_in (hb : H.blks = A ++ y :: B) : (H.in_ A.length).lists = ptL H.lists y := by
  show setL H.lists (clsB (bkAt H.blks A.length)) _ = _
  rw [hb, mid_at]
  rfl
end
theorem nextF_mid (A : List Bk) (x : Bk) (B : List Bk) : nextF (A ++ x :: B) A.length = match B with
  | [] => false
  | n :: _ => !n.used := by
  unfold nextF
  cases B with
  | nil => simp
  | cons n r =>
    rw [mid_at1]
    simp
theorem prevF_mid (A : List Bk) (p x : Bk) (B : List Bk) : prevF (A ++ p :: x :: B) (A.length + 1) = !p.used := by
  unfold prevF
  rw [Nat.add_sub_cancel, mid_at]
  simp

/-- What is free right behind, and what right ahead. -/
structure Near (A1 : List Bk) (p : Option Bk) (n : Option Bk) (B1 : List Bk) : Prop where
  pf : ∀ y, p = some y → y.used = false
  nf : ∀ y, n = some y → y.used = false
  pu : p = none → ∀ y r, A1 = r ++ [y] → y.used = true
  nu : n = none → ∀ y r, B1 = y :: r → y.used = true
theorem near_of (A B : List Bk) : ∃ A1 p n B1, A = A1 ++ p.toList ∧ B = n.toList ++ B1 ∧ Near A1 p n B1 := by
  have h1 : ∃ A1 p, A = A1 ++ p.toList ∧ (∀ y, p = some y → y.used = false) ∧ (p = none → ∀ y r, A1 = r ++ [y] → y.used = true) := by
    rcases List.eq_nil_or_concat A with e | ⟨r, y, e⟩
    · refine ⟨[], none, e, fun y hy => (by cases hy), fun _ y r h => ?_⟩
      have := congrArg List.length h
      simp at this
    · rw [List.concat_eq_append] at e
      cases hu : y.used with
      | false => exact ⟨r, some y, e, fun z hz => (by injection hz with hz; rw [← hz]; exact hu), fun h => (by cases h)⟩
      | true =>
        refine ⟨A, none, by simp, fun y hy => (by cases hy), fun _ z r2 h => ?_⟩
        rw [e] at h
        have := List.append_inj_right' h rfl
        injection this with h1
        rw [← h1]; exact hu
  have h2 : ∃ n B1, B = n.toList ++ B1 ∧ (∀ y, n = some y → y.used = false) ∧ (n = none → ∀ y r, B1 = y :: r → y.used = true) := by
    cases B with
    | nil => exact ⟨none, [], rfl, fun y hy => (by cases hy), fun _ y r h => (by cases h)⟩
    | cons y r =>
      cases hu : y.used with
      | false => exact ⟨some y, r, rfl, fun z hz => (by injection hz with hz; rw [← hz]; exact hu), fun h => (by cases h)⟩
      | true => exact ⟨none, y :: r, rfl, fun y hy => (by cases hy), fun _ z r2 h => (by injection h with h1 _; rw [← h1]; exact hu)⟩
  obtain ⟨A1, p, e1, e2, e3⟩ := h1
  obtain ⟨n, B1, f1, f2, f3⟩ := h2
  exact ⟨A1, p, n, B1, e1, f1, e2, f2, e3, f3⟩
/-- The whole that is free then. -/
def whole (p : Option Bk) (x : Bk) (n : Option Bk) : Bk := ⟨(p.getD x).off, (p.map Bk.size).getD 0 + x.size + (n.map Bk.size).getD 0, false⟩

/-- The blocks and the lists behind Give. -/
theorem give_at {H : Hp} {A1 B1 : List Bk} {p n : Option Bk} {x : Bk} (hb : H.blks = (A1 ++ p.toList) ++ x :: (n.toList ++ B1)) (hN : Near A1 p n B1) :
    (H.give (A1 ++ p.toList).length).blks = A1 ++ whole p x n :: B1 ∧ (H.give (A1 ++ p.toList).length).lists = ptL (tkO (tkO H.lists n) p) (whole p x n) := by
  obtain ⟨A, hA⟩ : ∃ A, A1 ++ p.toList = A := ⟨_, rfl⟩
  rw [hA] at hb ⊢
  obtain ⟨H0, hH0⟩ : ∃ H0, (H.use A.length false).wipe A.length = H0 := ⟨_, rfl⟩
  have b0 : H0.blks = A ++ { x with used := false } :: (n.toList ++ B1) := by rw [← hH0]; exact mid_use hb false
  have l0 : H0.lists = H.lists := by rw [← hH0]; rfl
  -- what is behind
  have h1 : (H0.giveB A.length).blks = A ++ ⟨x.off, x.size + (n.map Bk.size).getD 0, false⟩ :: B1 ∧ (H0.giveB A.length).lists = tkO H.lists n := by
    unfold Hp.giveB
    rw [b0, nextF_mid]
    cases n with
    | none =>
      have e : (match (none : Option Bk).toList ++ B1 with
        | [] => false
        | n :: _ => !n.used) = false := by
        cases B1 with
        | nil => rfl
        | cons y r =>
          show (!y.used) = false
          rw [hN.nu rfl y r rfl]; rfl
      rw [e, if_neg (by simp)]
      exact ⟨b0, l0⟩
    | some m =>
      have hm := hN.nf m rfl
      show (if (!m.used) = true then _ else _ : Hp).blks = _ ∧ (if (!m.used) = true then _ else _ : Hp).lists = _
      rw [hm, if_pos (by rfl)]
      constructor
      · exact mid_join (H := H0.out (A.length + 1)) (y := { x with used := false }) (z := m) b0
      · have b0' : H0.blks = (A ++ [{ x with used := false }]) ++ m :: B1 := by rw [b0]; simp
        have := mid_out b0'
        rw [List.length_append, List.length_singleton] at this
        show (H0.out (A.length + 1)).lists = _
        rw [this, l0]
        rfl
  obtain ⟨b1, l1⟩ := h1
  have e : H.give A.length = (H0.giveB A.length).giveC A.length := by rw [← hH0]; rfl
  rw [e]
  obtain ⟨G, hG⟩ : ∃ G, H0.giveB A.length = G := ⟨_, rfl⟩
  rw [hG] at b1 l1 ⊢
  -- what is ahead
  unfold Hp.giveC
  cases p with
  | none =>
    have hA : A1 = A := by rw [← hA]; simp
    have hp : prevF G.blks A.length = false := by
      rcases List.eq_nil_or_concat A with e | ⟨r, y, e⟩
      · rw [b1, e]; rfl
      · rw [List.concat_eq_append] at e
        have hu := hN.pu rfl y r (by rw [hA]; exact e)
        rw [b1, e, List.append_assoc, List.length_append]
        exact (prevF_mid r y _ B1).trans (by rw [hu]; rfl)
    rw [hp, if_neg (by simp)]
    have hw : whole none x n = ⟨x.off, x.size + (n.map Bk.size).getD 0, false⟩ := by unfold whole; simp
    rw [hw]
    refine ⟨by rw [hA]; exact b1, ?_⟩
    rw [mid_in b1, l1]
    rfl
  | some q =>
    have hq := hN.pf q rfl
    have hA' : A = A1 ++ [q] := by rw [← hA]; rfl
    have b1' : G.blks = A1 ++ q :: ⟨x.off, x.size + (n.map Bk.size).getD 0, false⟩ :: B1 := by rw [b1, hA']; simp
    have hlen : A.length = A1.length + 1 := by rw [hA']; simp
    rw [hlen, Nat.add_sub_cancel, b1', prevF_mid, hq, if_pos (by rfl)]
    have hw : whole (some q) x n = { q with size := q.size + (x.size + (n.map Bk.size).getD 0) } := by
      unfold whole
      show Bk.mk q.off (q.size + x.size + (n.map Bk.size).getD 0) false = Bk.mk q.off (q.size + (x.size + (n.map Bk.size).getD 0)) q.used
      rw [hq, Nat.add_assoc]
    have b2 : ((G.out A1.length).join A1.length).blks = A1 ++ whole (some q) x n :: B1 := by
      rw [hw]
      exact mid_join (H := G.out A1.length) b1'
    refine ⟨b2, ?_⟩
    rw [mid_in b2]
    show ptL (G.out A1.length).lists _ = _
    rw [mid_out b1', l1]
    rfl
end Go.Proofs.YtbldlidpapdkbaaGreatDoor

/- Giving a block back in bytes, plain: each step of it, and that what stands then is the heap behind it. No program in sight. -/
namespace Go.Proofs.YtbldlidpapdkbaaGreatDoor

/-- A byte of what a block holds. -/
def Pay (z : Bk) (i : Nat) : Prop := z.off + 8 ≤ i ∧ i + 8 < z.off + z.size
theorem Kept.pay {P : List Bk} {bs out : List UInt8} (h : Kept P bs out) (h1 : ∀ y ∈ P, 184 ≤ y.off ∧ 32 ≤ y.size) (ha : ∀ x ∈ P, ∀ y ∈ P, x = y ∨ x.off + x.size ≤ y.off ∨ y.off + y.size ≤ x.off) {z : Bk} (hz : z ∈ P) (hu : z.used = true) {i : Nat} (hi : Pay z i) : out[i]? = bs[i]? := by
  have hz1 := h1 z hz
  obtain ⟨p1, p2⟩ := hi
  refine h i (by omega) fun y hy hyu => ?_
  have hy1 := h1 y hy
  rcases ha z hz y hy with rfl | hd | hd
  · rw [hu] at hyu; cases hyu
  · omega
  · omega
theorem cls_of {y : Bk} (h : isSz (y.size : Int) = true) : classI (y.size : Int) = (clsB y : Int) ∧ clsB y < 22 := by
  obtain ⟨c, h1, h2⟩ := class_nat h
  unfold clsB
  rw [h1]
  exact ⟨rfl, h2⟩
theorem tkL_mem {L : Nat → List Nat} {y : Bk} {c o : Nat} : o ∈ tkL L y c ↔ o ∈ L c ∧ (c = clsB y → o ≠ y.off) := by
  unfold tkL setL
  by_cases h : c = clsB y
  · subst h
    rw [if_pos rfl, List.mem_filter]
    simp
  · rw [if_neg h]
    simp [h]
theorem tkO_mem {L : Nat → List Nat} {p : Option Bk} {c o : Nat} : o ∈ tkO L p c ↔ o ∈ L c ∧ ∀ y, p = some y → c = clsB y → o ≠ y.off := by
  cases p with
  | none => simp [tkO]
  | some y => simp [tkO, tkL_mem]
theorem ptL_mem {L : Nat → List Nat} {y : Bk} {c o : Nat} : o ∈ ptL L y c ↔ (c = clsB y ∧ o = y.off) ∨ o ∈ L c := by
  unfold ptL setL
  by_cases h : c = clsB y
  · subst h
    rw [if_pos rfl, List.mem_cons]
    simp
  · rw [if_neg h]
    simp [h]

theorem nadj_cons (u : Bool) (x : Bk) (r : List Bk) : nadj u (x :: r) = ((u || x.used) && nadj x.used r) := rfl
/-- What comes of taking a block out, if there is one. -/
def outB (bs : List UInt8) : Option Bk → Option (List UInt8)
  | none => some bs
  | some y => takeB bs (y.off : Int)
section
variable {bs : List UInt8} {H : Hp}
theorem Md.congr {H' : Hp} (h : Md bs H) (e1 : H'.blks = H.blks) (e2 : H'.lists = H.lists) (e3 : H'.cap = H.cap) : Md bs H' := ⟨by rw [e1]; exact h.tl, by rw [e1, e2]; exact h.ls, h.hi, by rw [e3]; exact h.len⟩
theorem Md.facts (h : Md bs H) : ∀ y ∈ H.blks, 184 ≤ y.off ∧ 32 ≤ y.size := fun y hy => by
  have := h.ls.st.facts hy
  omega
theorem Md.takeO (h : Md bs H) (n : Option Bk) (hn : ∀ y, n = some y → y ∈ H.blks ∧ y.off ∈ H.lists (clsB y)) : ∃ out, outB bs n = some out ∧ Md out { H with lists := tkO H.lists n } ∧ out.length = bs.length ∧ Kept H.blks bs out := by
  cases n with
  | none => exact ⟨bs, rfl, h, rfl, Kept.refl _ _⟩
  | some y =>
    obtain ⟨hy, hm⟩ := hn y rfl
    have hf := h.ls.st.facts hy
    obtain ⟨_, hc22⟩ := cls_of hf.2.2.2.2.2
    obtain ⟨out, h1, h2, h3, h4⟩ := h.ls.take hy hc22 hm
    have e : (fun q : Nat => decide (q ≠ y.off)) = (fun o => o != y.off) := by funext q; simp [bne]; rfl
    rw [e] at h2
    have h5 := takeB_high h.ls.len h1
    have h6 := h.hi
    exact ⟨out, h1, ⟨by rw [h3]; exact h.tl, h2, by omega, by rw [h3]; exact h.len⟩, h3, h4⟩
theorem Md.put (h : Md bs H) {y : Bk} (hy : y ∈ H.blks) (hu : y.used = false) (hm : y.off ∉ H.lists (clsB y)) : ∃ out, putB bs (y.off : Int) = some out ∧ Md out { H with lists := ptL H.lists y } ∧ out.length = bs.length ∧ Kept H.blks bs out := by
  have hf := h.ls.st.facts hy
  obtain ⟨hc, hc22⟩ := cls_of hf.2.2.2.2.2
  obtain ⟨out, h1, h2, h3, h4⟩ := h.ls.put hy hu hc hc22 hm
  have h5 := (putB_high h.ls.len h1).2
  have h6 := h.hi
  exact ⟨out, h1, ⟨by rw [h3]; exact h.tl, h2, by omega, by rw [h3]; exact h.len⟩, h3, h4⟩
/-- What is free of what was told. -/
def frO : Option Bk → Option Bk
  | none => none
  | some y => if y.used = true then none else some y
theorem getB_end (bs : List UInt8) : getB bs (bs.length : Int) = none := by
  cases h : getB bs (bs.length : Int) with
  | none => rfl
  | some x =>
    obtain ⟨h1, _, _, h2, h3, _⟩ := getB_some h
    have := (isSz_iff _).1 h3
    omega
theorem aheadB_184 (bs : List UInt8) : aheadB bs 184 = none := by
  unfold aheadB
  split
  · rfl
  · split
    · rfl
    · split
      · rfl
      · rename_i s u _ x hg
        obtain ⟨h1, h2, _, _, h3, _⟩ := getB_some hg
        have := (isSz_iff _).1 h3
        rw [if_neg (by omega)]
theorem Md.behind (h : Md bs H) {A1 B1 : List Bk} {p n : Option Bk} {x : Bk} (hb : H.blks = (A1 ++ p.toList) ++ x :: (n.toList ++ B1)) (hN : Near A1 p n B1) : frO (getB bs ((x.off : Int) + (x.size : Int))) = n := by
  have ht := h.tl
  rw [hb, tile_app] at ht
  obtain ⟨_, h1, _, h3⟩ := ht
  have e : (x.off : Int) + (x.size : Int) = ((184 + sumB (A1 ++ p.toList) + x.size : Nat) : Int) := by omega
  rw [e]
  obtain ⟨q, hq⟩ : ∃ q, 184 + sumB (A1 ++ p.toList) + x.size = q := ⟨_, rfl⟩
  rw [hq] at h3 ⊢
  cases n with
  | some m =>
    obtain ⟨a, _, _⟩ := h3
    rw [← a, h.ls.st.at_ m (by rw [hb]; simp)]
    show (if m.used = true then none else some m) = some m
    rw [hN.nf m rfl, if_neg (by simp)]
  | none =>
    cases B1 with
    | nil =>
      have e : q = bs.length := h3
      rw [e, getB_end]; rfl
    | cons y r =>
      obtain ⟨a, _, _⟩ := h3
      rw [← a, h.ls.st.at_ y (by rw [hb]; simp)]
      show (if y.used = true then none else some y) = none
      rw [hN.nu rfl y r rfl, if_pos rfl]
/-- What ends where these end. -/
theorem Md.ends (h : Md bs H) {A B : List Bk} (hb : H.blks = A ++ B) {o : Nat} (ho : o = 184 + sumB A) : (A = [] ∧ aheadB bs (o : Int) = none) ∨ ∃ r y, A = r ++ [y] ∧ aheadB bs (o : Int) = some y := by
  rcases List.eq_nil_or_concat A with e | ⟨r, y, e⟩
  · left
    subst e
    subst ho
    exact ⟨rfl, aheadB_184 bs⟩
  · right
    rw [List.concat_eq_append] at e
    refine ⟨r, y, e, ?_⟩
    have ht := h.tl
    rw [hb, e, List.append_assoc, tile_app] at ht
    obtain ⟨_, h1, _, _⟩ := ht
    have hy := aheadB_of (h.ls.st.at_ y (by rw [hb, e]; simp))
    have e2 : (o : Int) = (y.off : Int) + (y.size : Int) := by
      rw [ho, e, sumB_app]
      show ((184 + (sumB r + (y.size + 0)) : Nat) : Int) = _
      omega
    rw [e2]
    exact hy
theorem Md.ahead (h : Md bs H) {A1 B1 : List Bk} {p n : Option Bk} {x : Bk} (hb : H.blks = (A1 ++ p.toList) ++ x :: (n.toList ++ B1)) (hN : Near A1 p n B1) : frO (aheadB bs (x.off : Int)) = p := by
  have ht := h.tl
  rw [hb, tile_app] at ht
  obtain ⟨_, h1, _, _⟩ := ht
  rcases h.ends hb h1 with ⟨e, e2⟩ | ⟨r, y, e, e2⟩
  · rw [e2]
    cases p with
    | none => rfl
    | some q => simp at e
  · rw [e2]
    cases p with
    | none =>
      show (if y.used = true then none else some y) = none
      rw [hN.pu rfl y r (by simpa using e), if_pos rfl]
    | some q =>
      have h1 : q = y := by
        have := congrArg List.getLast? e
        simpa using this
      have hq := hN.pf q rfl
      rw [h1] at hq ⊢
      unfold frO
      dsimp only
      rw [hq, if_neg (by simp)]

/-- Giving back. -/
theorem Rt.gives (h : Rt bs H) (hc : H.cap ≤ 16384) {A1 B1 : List Bk} {p n : Option Bk} {x : Bk} (hb : H.blks = (A1 ++ p.toList) ++ x :: (n.toList ++ B1)) (hN : Near A1 p n B1) (hu : x.used = true) :
    ∃ b1 b2 out, outB bs n = some b1 ∧ outB b1 p = some b2 ∧ setB b2 ((whole p x n).off : Int) ((whole p x n).size : Int) false = some (setT b2 (whole p x n)) ∧ putB (setT b2 (whole p x n)) ((whole p x n).off : Int) = some out ∧
      b1.length = bs.length ∧ b2.length = bs.length ∧ (setT b2 (whole p x n)).length = bs.length ∧ out.length = bs.length ∧ Rt out (H.give (A1 ++ p.toList).length) ∧ ∀ z ∈ H.blks, z.used = true → z ≠ x → ∀ i, Pay z i → out[i]? = bs[i]? := by
  obtain ⟨gb, gl⟩ := give_at hb hN
  have gc : (H.give (A1 ++ p.toList).length).cap = H.cap := give_cap
  obtain ⟨w, hw⟩ : ∃ w, whole p x n = w := ⟨_, rfl⟩
  have hwu : w.used = false := by rw [← hw]; rfl
  rw [hw] at gb gl ⊢
  have hM := h.md hc
  have hF := h.complete
  have hadj : nadj true H.blks = true := by rw [← noAdj_nadj]; exact h.nfree.2.1
  have hsm := hM.ls.small
  -- where all stands
  have ht := hM.tl
  rw [hb, tile_app, tile_app, sumB_app] at ht
  obtain ⟨⟨t1, t2⟩, t3, t4, t5⟩ := ht
  obtain ⟨o1, ho1⟩ : ∃ o1, 184 + sumB A1 = o1 := ⟨_, rfl⟩
  obtain ⟨e, he⟩ : ∃ e, bs.length = e := ⟨_, rfl⟩
  rw [he] at t5
  have hp : (p = none ∧ w.off = o1 ∧ x.off = o1 ∧ w.size = x.size + (n.map Bk.size).getD 0) ∨ ∃ q, p = some q ∧ q.off = o1 ∧ isSz (q.size : Int) = true ∧ x.off = o1 + q.size ∧ w.off = o1 ∧ w.size = q.size + x.size + (n.map Bk.size).getD 0 := by
    cases p with
    | none =>
      left
      have e1 : x.off = o1 := by rw [t3, ← ho1]; simp [sumB]
      refine ⟨rfl, ?_, e1, ?_⟩
      · rw [← hw]; exact e1
      · rw [← hw]; show 0 + x.size + _ = _; omega
    | some q =>
      right
      obtain ⟨a, b, _⟩ := t2
      refine ⟨q, rfl, by rw [a, ho1], b, ?_, ?_, ?_⟩
      · rw [t3, ← ho1]; simp [sumB]; omega
      · rw [← hw]; show q.off = _; rw [a, ho1]
      · rw [← hw]; rfl
  have hxo : 184 + (sumB A1 + sumB p.toList) = x.off := t3.symm
  have t1' : tile 184 A1 o1 := by rw [← ho1]; exact t1
  rw [hxo] at t5
  rw [tile_app] at t5
  obtain ⟨t6, t7⟩ := t5
  have hn : (n = none ∧ (n.map Bk.size).getD 0 = 0 ∧ sumB n.toList = 0) ∨ ∃ m, n = some m ∧ m.off = x.off + x.size ∧ isSz (m.size : Int) = true ∧ (n.map Bk.size).getD 0 = m.size ∧ sumB n.toList = m.size := by
    cases n with
    | none => exact .inl ⟨rfl, rfl, rfl⟩
    | some m =>
      obtain ⟨a, b, _⟩ := t6
      exact .inr ⟨m, rfl, a, b, rfl, by simp [sumB]⟩
  obtain ⟨mA1, mA⟩ := tile_mem A1 _ _ t1'
  obtain ⟨mB1, mB⟩ := tile_mem B1 _ _ t7
  have sx := (isSz_iff _).1 t4
  have hwe : w.off + w.size = x.off + x.size + sumB n.toList ∧ w.off = o1 ∧ o1 ≤ x.off ∧ w.size % 16 = 0 ∧ 32 ≤ w.size := by
    rcases hp with ⟨_, p1, p2, p3⟩ | ⟨q, _, p1, p4, p2, p5, p3⟩
    · rcases hn with ⟨_, n1, n2⟩ | ⟨m, _, n0, n3, n1, n2⟩
      · omega
      · have := (isSz_iff _).1 n3; omega
    · have := (isSz_iff _).1 p4
      rcases hn with ⟨_, n1, n2⟩ | ⟨m, _, n0, n3, n1, n2⟩
      · omega
      · have := (isSz_iff _).1 n3; omega
  obtain ⟨w1, w2, w3, w4, w5⟩ := hwe
  have ho1e : o1 % 16 = 8 ∧ 184 ≤ o1 := by
    refine ⟨?_, by omega⟩
    have hxm := ((tile_mem _ _ _ hM.tl).2 x (by rw [hb]; simp)).2.2.2
    rcases hp with ⟨_, p1, p2, p3⟩ | ⟨q, _, p1, p4, p2, p5, p3⟩
    · omega
    · have := (isSz_iff _).1 p4; omega
  have hws : isSz (w.size : Int) = true := (isSz_iff _).2 (by omega)
  have inA : ∀ y ∈ A1, y.off + y.size ≤ w.off := fun y hy => by have := mA y hy; omega
  have inB : ∀ y ∈ B1, w.off + w.size ≤ y.off := fun y hy => by have := mB y hy; omega
  -- what is taken out
  have hn0 : ∀ y, n = some y → y ∈ H.blks ∧ y.off ∈ H.lists (clsB y) := fun y hy => by
    have hm : y ∈ H.blks := by rw [hb, hy]; simp
    obtain ⟨c1, c2⟩ := cls_of (hM.ls.st.facts hm).2.2.2.2.2
    exact ⟨hm, hF _ c2 _ (mem_freeL hm (hN.nf y hy) c1)⟩
  obtain ⟨b1, e1, M1, l1, k1⟩ := hM.takeO n hn0
  have hp0 : ∀ y, p = some y → y ∈ H.blks ∧ y.off ∈ tkO H.lists n (clsB y) := fun y hy => by
    have hm : y ∈ H.blks := by rw [hb, hy]; simp
    obtain ⟨c1, c2⟩ := cls_of (hM.ls.st.facts hm).2.2.2.2.2
    refine ⟨hm, tkO_mem.2 ⟨hF _ c2 _ (mem_freeL hm (hN.pf y hy) c1), fun z hz _ => ?_⟩⟩
    rcases hp with ⟨p0, _⟩ | ⟨q, p0, p1, p4, p2, _⟩
    · rw [p0] at hy; cases hy
    · rw [p0] at hy
      injection hy with hy
      subst hy
      rcases hn with ⟨n0, _⟩ | ⟨m, n0, n1, _⟩
      · rw [n0] at hz; cases hz
      · rw [n0] at hz
        injection hz with hz
        subst hz
        omega
  obtain ⟨b2, e2, M2, l2, k2⟩ := M1.takeO p hp0
  have k2 : Kept H.blks b1 b2 := k2
  have M2L : Lists b2 H.blks (tkO (tkO H.lists n) p) := M2.ls
  have hwl : w.off + w.size ≤ b2.length := by
    rcases B1 with _ | ⟨y, r⟩
    · have : x.off + x.size + sumB n.toList = e := t7
      omega
    · have := mB1; omega
  -- what is listed lies ahead, or behind
  have hL : ∀ c, c < 22 → ∀ o ∈ tkO (tkO H.lists n) p c, ∃ y ∈ A1 ++ w :: B1, y ∈ H.blks ∧ y.off = o ∧ (y.off + y.size ≤ w.off ∨ w.off + w.size ≤ y.off) := fun c hc o ho => by
    rw [tkO_mem, tkO_mem] at ho
    obtain ⟨⟨ho, hno⟩, hpo⟩ := ho
    obtain ⟨y, hy, ey, hyu, hyc⟩ := hM.ls.mem c hc o ho
    obtain ⟨c1, _⟩ := cls_of (hM.ls.st.facts hy).2.2.2.2.2
    have hcc : c = clsB y := by omega
    have hy' := hy
    rw [hb] at hy
    rcases List.mem_append.1 hy with hy | hy
    · rcases List.mem_append.1 hy with hy | hy
      · exact ⟨y, by simp [hy], hy', ey, .inl (inA y hy)⟩
      · exact absurd ey.symm (hpo y (by simpa using hy) hcc)
    · rcases List.mem_cons.1 hy with rfl | hy
      · rw [hu] at hyu; cases hyu
      · rcases List.mem_append.1 hy with hy | hy
        · exact absurd ey.symm (hno y (by simpa using hy) hcc)
        · exact ⟨y, by simp [hy], hy', ey, .inr (inB y hy)⟩
  have hQ : ∀ y ∈ A1 ++ w :: B1, y = w ∨ (y ∈ H.blks ∧ (y.off + y.size ≤ w.off ∨ w.off + w.size ≤ y.off)) := fun y hy => by
    rcases List.mem_append.1 hy with hy | hy
    · exact .inr ⟨by rw [hb]; simp [hy], .inl (inA y hy)⟩
    · rcases List.mem_cons.1 hy with rfl | hy
      · exact .inl rfl
      · exact .inr ⟨by rw [hb]; simp [hy], .inr (inB y hy)⟩
  have w184 : 184 ≤ w.off := by omega
  have w16 : w.off % 16 = 8 := by omega
  have LS := M2L.set w184 w16 hwl hws hQ hL
  have l3 := setT_length hws hwl
  have M3 : Md (setT b2 w) { H with blks := A1 ++ w :: B1, lists := tkO (tkO H.lists n) p } := by
    refine ⟨?_, LS, ?_, by rw [l3, l2, l1]; exact hM.len⟩
    · show tile 184 (A1 ++ w :: B1) _
      rw [l3, l2, l1, tile_app, ho1, he]
      refine ⟨t1', w2, hws, ?_⟩
      rw [show o1 + w.size = x.off + x.size + sumB n.toList by omega]
      exact t7
    · rw [setT_same hws hwl _ (by omega)]; exact M2.hi
  have hwm : w.off ∉ tkO (tkO H.lists n) p (clsB w) := fun hm => by
    obtain ⟨_, c2⟩ := cls_of hws
    obtain ⟨y, _, hyP, ey, hd⟩ := hL _ c2 _ hm
    have := hM.facts y hyP
    omega
  obtain ⟨out, e4, M4, l4, k4⟩ := M3.put (y := w) (by simp) hwu hwm
  refine ⟨b1, b2, out, e1, e2, ?_, e4, l1, by rw [l2, l1], by rw [l3, l2, l1], by rw [l4, l3, l2, l1], ?_, fun z hz hzu hzx i hi => ?_⟩
  · have := setB_of b2 w w184 w16 hwl hws
    rw [hwu] at this
    exact this
  · -- right
    refine Md.rt (M4.congr gb gl gc) (fun c hc o ho => ?_) ?_
    · rw [gb] at ho
      rw [gl, ptL_mem]
      obtain ⟨y, hy, ey, hyu, hyc⟩ := freeL_mem ho
      rcases hQ y hy with rfl | ⟨hyP, hd⟩
      · left
        obtain ⟨c1, _⟩ := cls_of hws
        exact ⟨by omega, ey.symm⟩
      · right
        rw [tkO_mem, tkO_mem]
        refine ⟨⟨by rw [← ey]; exact hF c hc _ (mem_freeL hyP hyu hyc), fun z hz _ => ?_⟩, fun z hz _ => ?_⟩
        · have hz0 : z.off = x.off + x.size ∧ z.off + z.size ≤ w.off + w.size := by
            rcases hn with ⟨n0, _⟩ | ⟨m, n0, n1, _, _, n4⟩
            · rw [n0] at hz; cases hz
            · rw [n0] at hz
              injection hz with hz
              subst hz
              omega
          have := hM.facts y hyP
          have := hM.facts z (hn0 z hz).1
          omega
        · have hz0 : z.off = o1 ∧ z.off + z.size ≤ w.off + w.size := by
            rcases hp with ⟨p0, _⟩ | ⟨q, p0, p1, p4, p2, _⟩
            · rw [p0] at hz; cases hz
            · rw [p0] at hz
              injection hz with hz
              subst hz
              omega
          have := hM.facts y hyP
          have := hM.facts z (hp0 z hz).1
          omega
    · rw [gb, noAdj_nadj, nadj_app]
      rw [hb, nadj_app, nadj_app, nadj_cons] at hadj
      rw [nadj_cons]
      simp only [Bool.and_eq_true, Bool.or_eq_true] at hadj ⊢
      obtain ⟨⟨a1, a2⟩, _, a3⟩ := hadj
      rw [hwu]
      refine ⟨a1, .inl ?_, ?_⟩
      · cases p with
        | none =>
          rcases List.eq_nil_or_concat A1 with e | ⟨r, y, e⟩
          · rw [e]; rfl
          · rw [List.concat_eq_append] at e
            rw [e, lastU_app]
            exact hN.pu rfl y r e
        | some q =>
          have hq := hN.pf q rfl
          have a2 : nadj (lastU true A1) [q] = true := a2
          rw [nadj_cons, hq, Bool.or_false, Bool.and_eq_true] at a2
          exact a2.1
      · rw [hu] at a3
        cases n with
        | none =>
          cases B1 with
          | nil => rfl
          | cons y r =>
            have hy := hN.nu rfl y r rfl
            have a3 : nadj true (y :: r) = true := a3
            rw [nadj_cons, hy, Bool.and_eq_true] at a3
            rw [nadj_cons, hy, Bool.and_eq_true]
            exact ⟨rfl, a3.2⟩
        | some m =>
          have hm := hN.nf m rfl
          have a3 : nadj true (m :: B1) = true := a3
          rw [nadj_cons, hm, Bool.and_eq_true] at a3
          exact a3.2
  · -- what is held
    have hz2 : z ∈ A1 ∨ z ∈ B1 := by
      rw [hb] at hz
      rcases List.mem_append.1 hz with hz | hz
      · rcases List.mem_append.1 hz with hz | hz
        · exact .inl hz
        · have := hN.pf z (by simpa using hz)
          rw [hzu] at this; cases this
      · rcases List.mem_cons.1 hz with hz | hz
        · exact absurd hz hzx
        · rcases List.mem_append.1 hz with hz | hz
          · have := hN.nf z (by simpa using hz)
            rw [hzu] at this; cases this
          · exact .inr hz
    have hzf := hM.facts z hz
    have ap := hM.ls.st.apart
    have zw : z.off + z.size ≤ w.off ∨ w.off + w.size ≤ z.off := by
      rcases hz2 with h2 | h2
      · exact .inl (inA z h2)
      · exact .inr (inB z h2)
    have zQ : z ∈ A1 ++ w :: B1 := by rcases hz2 with h2 | h2 <;> simp [h2]
    have s4 := k4.pay M3.facts M3.ls.st.apart (z := z) zQ hzu hi
    obtain ⟨i1, i2⟩ := hi
    have s3 := setT_get hws hwl i (by omega)
    rw [s4, s3, k2.pay hM.facts ap hz hzu ⟨i1, i2⟩, k1.pay hM.facts ap hz hzu ⟨i1, i2⟩]
end
end Go.Proofs.YtbldlidpapdkbaaGreatDoor

/- Cutting and taking in bytes, plain: each step, and that what stands then is the heap behind it; what Find tells. No program in sight. -/
namespace Go.Proofs.YtbldlidpapdkbaaGreatDoor

section
variable {bs : List UInt8} {H : Hp}
theorem Rt.congr {H' : Hp} (h : Rt bs H) (e1 : H'.blks = H.blks) (e2 : H'.lists = H.lists) (e3 : H'.cap = H.cap) : Rt bs H' := ⟨by rw [e1]; exact h.walk, by rw [e2]; exact h.all_, h.chk, by rw [e3]; exact h.len⟩
theorem Lists.takeO {P : List Bk} {L : Nat → List Nat} (h : Lists bs P L) (n : Option Bk) (hn : ∀ y, n = some y → y ∈ P ∧ y.off ∈ L (clsB y)) : ∃ out, outB bs n = some out ∧ Lists out P (tkO L n) ∧ out.length = bs.length ∧ Kept P bs out ∧ wordN out 0 / 4194304 = wordN bs 0 / 4194304 := by
  cases n with
  | none => exact ⟨bs, rfl, h, rfl, Kept.refl _ _, rfl⟩
  | some y =>
    obtain ⟨hy, hm⟩ := hn y rfl
    have hf := h.st.facts hy
    obtain ⟨_, hc22⟩ := cls_of hf.2.2.2.2.2
    obtain ⟨out, h1, h2, h3, h4⟩ := h.take hy hc22 hm
    have e : (fun q : Nat => decide (q ≠ y.off)) = (fun o => o != y.off) := by funext q; simp [bne]; rfl
    rw [e] at h2
    exact ⟨out, h1, h2, h3, h4, takeB_high h.len h1⟩
/-- Blocks one behind the other, one of them. -/
theorem tile_mid {A B : List Bk} {x : Bk} {e : Nat} (ht : tile 184 (A ++ x :: B) e) : tile 184 A x.off ∧ isSz (x.size : Int) = true ∧ tile (x.off + x.size) B e ∧ x.off % 16 = 8 ∧ 184 ≤ x.off ∧ x.off + x.size ≤ e ∧ (∀ y ∈ A, y.off + y.size ≤ x.off) ∧ ∀ y ∈ B, x.off + x.size ≤ y.off := by
  have hx := (tile_mem _ _ _ ht).2 x (by simp)
  rw [tile_app] at ht
  obtain ⟨t1, t2, t3, t4⟩ := ht
  rw [← t2] at t1 t4
  exact ⟨t1, t3, t4, by omega, by omega, by omega, fun y hy => ((tile_mem _ _ _ t1).2 y hy).2.1, fun y hy => ((tile_mem _ _ _ t4).2 y hy).1⟩
/-- A used block in two. -/
theorem Rt.cuts (h : Rt bs H) (hc : H.cap ≤ 16384) {A B : List Bk} {x : Bk} (hb : H.blks = A ++ x :: B) (hu : x.used = true) {s : Nat} (hs : isSz (s : Int) = true) (hle : s + 32 ≤ x.size) :
    setB bs (x.off : Int) (s : Int) true = some (setT bs ⟨x.off, s, true⟩) ∧
    setB (setT bs ⟨x.off, s, true⟩) ((x.off + s : Nat) : Int) ((x.size - s : Nat) : Int) true = some (setT (setT bs ⟨x.off, s, true⟩) ⟨x.off + s, x.size - s, true⟩) ∧
    (setT bs ⟨x.off, s, true⟩).length = bs.length ∧ (setT (setT bs ⟨x.off, s, true⟩) ⟨x.off + s, x.size - s, true⟩).length = bs.length ∧
    (((H.use A.length true).size A.length s).put (A.length + 1) ⟨x.off + s, x.size - s, true⟩).blks = (A ++ [⟨x.off, s, true⟩]) ++ ⟨x.off + s, x.size - s, true⟩ :: B ∧
    Rt (setT (setT bs ⟨x.off, s, true⟩) ⟨x.off + s, x.size - s, true⟩) (((H.use A.length true).size A.length s).put (A.length + 1) ⟨x.off + s, x.size - s, true⟩) ∧
    (∀ z ∈ H.blks, z ≠ x → ∀ i, Pay z i → (setT (setT bs ⟨x.off, s, true⟩) ⟨x.off + s, x.size - s, true⟩)[i]? = bs[i]?) ∧ (∀ i, Pay ⟨x.off, s, true⟩ i → (setT (setT bs ⟨x.off, s, true⟩) ⟨x.off + s, x.size - s, true⟩)[i]? = bs[i]?) := by
  have hM := h.md hc
  have hF := h.complete
  have hadj : nadj true H.blks = true := by rw [← noAdj_nadj]; exact h.nfree.2.1
  have ht := hM.tl
  rw [hb] at ht
  obtain ⟨t1, t2, t3, t4, t5, t6, tA, tB⟩ := tile_mid ht
  have sx := (isSz_iff _).1 t2
  have ss := (isSz_iff _).1 hs
  have hs2 : isSz ((x.size - s : Nat) : Int) = true := (isSz_iff _).2 (by omega)
  obtain ⟨y1, hy1⟩ : ∃ y1 : Bk, y1 = ⟨x.off, s, true⟩ := ⟨_, rfl⟩
  obtain ⟨y2, hy2⟩ : ∃ y2 : Bk, y2 = ⟨x.off + s, x.size - s, true⟩ := ⟨_, rfl⟩
  have o1 : y1.off = x.off := by rw [hy1]
  have z1 : y1.size = s := by rw [hy1]
  have u1 : y1.used = true := by rw [hy1]
  have o2 : y2.off = x.off + s := by rw [hy2]
  have z2 : y2.size = x.size - s := by rw [hy2]
  have u2 : y2.used = true := by rw [hy2]
  have s1 : setB bs (y1.off : Int) (y1.size : Int) y1.used = some (setT bs y1) := setB_of bs y1 (by omega) (by omega) (by omega) (by rw [z1]; exact hs)
  have l1 : (setT bs y1).length = bs.length := setT_length (by rw [z1]; exact hs) (by omega)
  have s2 : setB (setT bs y1) (y2.off : Int) (y2.size : Int) y2.used = some (setT (setT bs y1) y2) := setB_of _ y2 (by omega) (by omega) (by omega) (by rw [z2]; exact hs2)
  have l2 : (setT (setT bs y1) y2).length = bs.length := (setT_length (by rw [z2]; exact hs2) (by omega)).trans l1
  rw [o1, z1, u1] at s1
  rw [o2, z2, u2] at s2
  rw [← hy2, ← hy1]
  have hblk : (((H.use A.length true).size A.length s).put (A.length + 1) y2).blks = (A ++ [y1]) ++ y2 :: B := by
    have e : ((H.use A.length true).size A.length s).blks = (A ++ [y1]) ++ B := by
      rw [mid_size (mid_use hb true) s, hy1]
      simp
    show ((H.use A.length true).size A.length s).blks.take (A.length + 1) ++ y2 :: ((H.use A.length true).size A.length s).blks.drop (A.length + 1) = _
    rw [e, List.take_left' (by simp), List.drop_left' (by simp)]
  -- what is listed isn't x
  have hL : ∀ c, c < 22 → ∀ o ∈ H.lists c, ∃ y, (y ∈ A ∨ y ∈ B) ∧ y ∈ H.blks ∧ y.off = o ∧ (y.off + y.size ≤ x.off ∨ x.off + x.size ≤ y.off) := fun c hc o ho => by
    obtain ⟨y, hy, ey, hyu, _⟩ := hM.ls.mem c hc o ho
    have hy' := hy
    rw [hb] at hy
    rcases List.mem_append.1 hy with hy | hy
    · exact ⟨y, .inl hy, hy', ey, .inl (tA y hy)⟩
    · rcases List.mem_cons.1 hy with rfl | hy
      · rw [hu] at hyu; cases hyu
      · exact ⟨y, .inr hy, hy', ey, .inr (tB y hy)⟩
  have L1 : Lists (setT bs y1) (A ++ y1 :: B) H.lists := by
    refine hM.ls.set (by omega) (by omega) (by omega) (by rw [z1]; exact hs) (fun y hy => ?_) fun c hc o ho => ?_
    · rcases List.mem_append.1 hy with hy | hy
      · exact .inr ⟨by rw [hb]; simp [hy], .inl (by have := tA y hy; omega)⟩
      · rcases List.mem_cons.1 hy with rfl | hy
        · exact .inl rfl
        · exact .inr ⟨by rw [hb]; simp [hy], .inr (by have := tB y hy; omega)⟩
    · obtain ⟨y, hy, hyP, ey, hd⟩ := hL c hc o ho
      exact ⟨y, by rcases hy with hy | hy <;> simp [hy], hyP, ey, by omega⟩
  have L2 : Lists (setT (setT bs y1) y2) ((A ++ [y1]) ++ y2 :: B) H.lists := by
    refine L1.set (by omega) (by omega) (by omega) (by rw [z2]; exact hs2) (fun y hy => ?_) fun c hc o ho => ?_
    · rcases List.mem_append.1 hy with hy | hy
      · rcases List.mem_append.1 hy with hy | hy
        · exact .inr ⟨by simp [hy], .inl (by have := tA y hy; omega)⟩
        · rw [List.mem_singleton] at hy
          exact .inr ⟨by simp [hy], .inl (by rw [hy]; omega)⟩
      · rcases List.mem_cons.1 hy with rfl | hy
        · exact .inl rfl
        · exact .inr ⟨by simp [hy], .inr (by have := tB y hy; omega)⟩
    · obtain ⟨y, hy, hyP, ey, hd⟩ := hL c hc o ho
      exact ⟨y, by rcases hy with hy | hy <;> simp [hy], by rcases hy with hy | hy <;> simp [hy], ey, by omega⟩
  refine ⟨s1, s2, l1, l2, hblk, ?_, fun z hz hzx i hi => ?_, fun i hi => ?_⟩
  · have M : Md (setT (setT bs y1) y2) (((H.use A.length true).size A.length s).put (A.length + 1) y2) := by
      refine ⟨?_, by rw [hblk]; exact L2, ?_, by rw [l2]; exact hM.len⟩
      · rw [hblk, l2, List.append_assoc, tile_app]
        rw [tile_app] at ht
        obtain ⟨q1, q2, _⟩ := ht
        refine ⟨q1, by omega, by rw [z1]; exact hs, by omega, by rw [z2]; exact hs2, ?_⟩
        rw [← q2, show x.off + y1.size + y2.size = x.off + x.size by omega]
        exact t3
      · rw [setT_same (by rw [z2]; exact hs2) (by omega) _ (by omega), setT_same (by rw [z1]; exact hs) (by omega) _ (by omega)]
        exact hM.hi
    refine M.rt (fun c hc o ho => ?_) ?_
    · rw [hblk] at ho
      obtain ⟨y, hy, ey, hyu, hyc⟩ := freeL_mem ho
      have hyP : y ∈ H.blks := by
        rw [hb]
        rcases List.mem_append.1 hy with hy | hy
        · rcases List.mem_append.1 hy with hy | hy
          · simp [hy]
          · rw [List.mem_singleton] at hy
            rw [hy, u1] at hyu; cases hyu
        · rcases List.mem_cons.1 hy with rfl | hy
          · rw [u2] at hyu; cases hyu
          · simp [hy]
      rw [← ey]
      exact hF c hc _ (mem_freeL hyP hyu hyc)
    · rw [hblk, noAdj_nadj, nadj_app, nadj_app, nadj_cons, nadj_cons, lastU_app, u1, u2]
      rw [hb, nadj_app, nadj_cons, hu] at hadj
      simp only [Bool.and_eq_true, Bool.or_true] at hadj ⊢
      exact ⟨⟨hadj.1, trivial, rfl⟩, trivial, hadj.2.2⟩
  · obtain ⟨i1, i2⟩ := hi
    have hd : z.off + z.size ≤ x.off ∨ x.off + x.size ≤ z.off := by
      rw [hb] at hz
      rcases List.mem_append.1 hz with hz | hz
      · exact .inl (tA z hz)
      · rcases List.mem_cons.1 hz with hz | hz
        · exact absurd hz hzx
        · exact .inr (tB z hz)
    rw [setT_get (by rw [z2]; exact hs2) (by omega) i (by omega), setT_get (by rw [z1]; exact hs) (by omega) i (by omega)]
  · obtain ⟨i1, i2⟩ := hi
    rw [setT_get (by rw [z2]; exact hs2) (by omega) i (by omega), setT_get (by rw [z1]; exact hs) (by omega) i (by omega)]

/-- A free block is used. -/
theorem Rt.uses (h : Rt bs H) (hc : H.cap ≤ 16384) {A B : List Bk} {x : Bk} (hb : H.blks = A ++ x :: B) (hu : x.used = false) :
    ∃ b1, takeB bs (x.off : Int) = some b1 ∧ setB b1 (x.off : Int) (x.size : Int) true = some (setT b1 ⟨x.off, x.size, true⟩) ∧ b1.length = bs.length ∧ (setT b1 ⟨x.off, x.size, true⟩).length = bs.length ∧
      ((H.out A.length).use A.length true).blks = A ++ ⟨x.off, x.size, true⟩ :: B ∧ Rt (setT b1 ⟨x.off, x.size, true⟩) ((H.out A.length).use A.length true) ∧
      ∀ z ∈ H.blks, z.used = true → ∀ i, Pay z i → (setT b1 ⟨x.off, x.size, true⟩)[i]? = bs[i]? := by
  have hM := h.md hc
  have hF := h.complete
  have hadj : nadj true H.blks = true := by rw [← noAdj_nadj]; exact h.nfree.2.1
  have ht := hM.tl
  rw [hb] at ht
  obtain ⟨t1, t2, t3, t4, t5, t6, tA, tB⟩ := tile_mid ht
  have sx := (isSz_iff _).1 t2
  have hxP : x ∈ H.blks := by rw [hb]; simp
  obtain ⟨c1, c2⟩ := cls_of t2
  obtain ⟨b1, e1, L1, l1, k1, w1⟩ := hM.ls.takeO (some x) (fun y hy => by
    injection hy with hy
    subst hy
    exact ⟨hxP, hF _ c2 _ (mem_freeL hxP hu c1)⟩)
  obtain ⟨y1, hy1⟩ : ∃ y1 : Bk, y1 = ⟨x.off, x.size, true⟩ := ⟨_, rfl⟩
  have o1 : y1.off = x.off := by rw [hy1]
  have z1 : y1.size = x.size := by rw [hy1]
  have u1 : y1.used = true := by rw [hy1]
  have s1 : setB b1 (y1.off : Int) (y1.size : Int) y1.used = some (setT b1 y1) := setB_of b1 y1 (by omega) (by omega) (by omega) (by rw [z1]; exact t2)
  have l2 : (setT b1 y1).length = b1.length := setT_length (by rw [z1]; exact t2) (by omega)
  rw [o1, z1, u1] at s1
  rw [← hy1]
  have hblk : ((H.out A.length).use A.length true).blks = A ++ y1 :: B := by
    rw [mid_use (H := H.out A.length) (A := A) (y := x) (B := B) hb true, hy1]
  have hlst : ((H.out A.length).use A.length true).lists = tkL H.lists x := mid_out hb
  have hdA : ∀ y ∈ A ++ y1 :: B, y = y1 ∨ (y ∈ H.blks ∧ (y.off + y.size ≤ y1.off ∨ y1.off + y1.size ≤ y.off)) := fun y hy => by
    rcases List.mem_append.1 hy with hy | hy
    · exact .inr ⟨by rw [hb]; simp [hy], .inl (by have := tA y hy; omega)⟩
    · rcases List.mem_cons.1 hy with rfl | hy
      · exact .inl rfl
      · exact .inr ⟨by rw [hb]; simp [hy], .inr (by have := tB y hy; omega)⟩
  have L2 : Lists (setT b1 y1) (A ++ y1 :: B) (tkL H.lists x) := by
    refine L1.set (by omega) (by omega) (by omega) (by rw [z1]; exact t2) hdA fun c hc o ho => ?_
    have ho : o ∈ tkL H.lists x c := ho
    rw [tkL_mem] at ho
    obtain ⟨y, hy, ey, hyu, hyc⟩ := hM.ls.mem c hc o ho.1
    have hy' := hy
    rw [hb] at hy
    rcases List.mem_append.1 hy with hy | hy
    · exact ⟨y, by simp [hy], hy', ey, .inl (by have := tA y hy; omega)⟩
    · rcases List.mem_cons.1 hy with rfl | hy
      · exact absurd ey.symm (ho.2 (by omega))
      · exact ⟨y, by simp [hy], hy', ey, .inr (by have := tB y hy; omega)⟩
  refine ⟨b1, e1, s1, l1, l2.trans l1, hblk, ?_, fun z hz hzu i hi => ?_⟩
  · have hi := hM.hi
    have M : Md (setT b1 y1) ((H.out A.length).use A.length true) := by
      refine ⟨?_, by rw [hblk, hlst]; exact L2, ?_, by rw [l2, l1]; exact hM.len⟩
      · rw [hblk, l2, l1, tile_app]
        rw [tile_app] at ht
        obtain ⟨q1, q2, q3, q4⟩ := ht
        refine ⟨q1, by omega, by rw [z1]; exact t2, ?_⟩
        rw [z1]
        exact q4
      · rw [setT_same (by rw [z1]; exact t2) (by omega) _ (by omega)]
        omega
    refine M.rt (fun c hc o ho => ?_) ?_
    · rw [hblk] at ho
      rw [hlst, tkL_mem]
      obtain ⟨y, hy, ey, hyu, hyc⟩ := freeL_mem ho
      rcases hdA y hy with rfl | ⟨hyP, hd⟩
      · rw [u1] at hyu; cases hyu
      · have := hM.facts y hyP
        exact ⟨by rw [← ey]; exact hF c hc _ (mem_freeL hyP hyu hyc), fun _ => by omega⟩
    · rw [hblk, noAdj_nadj, nadj_app, nadj_cons, u1]
      rw [hb, nadj_app, nadj_cons, hu] at hadj
      simp only [Bool.and_eq_true, Bool.or_true] at hadj ⊢
      refine ⟨hadj.1, trivial, ?_⟩
      have h2 := hadj.2.2
      cases B with
      | nil => rfl
      | cons y r =>
        rw [nadj_cons] at h2 ⊢
        simp only [Bool.and_eq_true, Bool.or_eq_true, Bool.true_or, true_and] at h2 ⊢
        exact h2.2
  · have hd : z.off + z.size ≤ x.off ∨ x.off + x.size ≤ z.off := by
      rcases hM.ls.st.apart z hz x hxP with rfl | hd
      · rw [hu] at hzu; cases hzu
      · exact hd
    have k := k1.pay hM.facts hM.ls.st.apart hz hzu hi
    obtain ⟨i1, i2⟩ := hi
    rw [setT_get (by rw [z1]; exact t2) (by omega) i (by omega), k]

/-- A block behind all others, or in the last one's place. -/
theorem Rt.adds (h : Rt bs H) (hc : H.cap ≤ 16384) {A : List Bk} {p : Option Bk} {o s n : Nat} (hb : H.blks = A ++ p.toList) (hp : ∀ y, p = some y → y.used = false) (ho : o = 184 + sumB A) (hs : isSz (s : Int) = true) (hn : n + sumB p.toList = s) (hcap : bs.length + n ≤ H.cap) :
    ∃ b1, outB (bs ++ List.replicate n 0) p = some b1 ∧ setB b1 (o : Int) (s : Int) true = some (setT b1 ⟨o, s, true⟩) ∧ b1.length = bs.length + n ∧ (setT b1 ⟨o, s, true⟩).length = bs.length + n ∧
      (∀ H' : Hp, H'.blks = A ++ [⟨o, s, true⟩] → H'.lists = tkO H.lists p → H'.cap = H.cap → Rt (setT b1 ⟨o, s, true⟩) H') ∧
      ∀ z ∈ H.blks, z.used = true → ∀ i, Pay z i → (setT b1 ⟨o, s, true⟩)[i]? = bs[i]? := by
  have hM := h.md hc
  have hF := h.complete
  have hadj : nadj true H.blks = true := by rw [← noAdj_nadj]; exact h.nfree.2.1
  have ht := hM.tl
  rw [hb, tile_app, ← ho] at ht
  obtain ⟨t1, t2⟩ := ht
  have hlen : bs.length = o + sumB p.toList := tile_sum _ _ _ t2
  have ss := (isSz_iff _).1 hs
  have hA := (tile_mem _ _ _ t1).2
  have hpf : ∀ y, p = some y → y ∈ H.blks ∧ y.off = o := fun y hy => by
    rw [hy] at t2
    exact ⟨by rw [hb, hy]; simp, t2.1⟩
  have hlm : (bs ++ List.replicate n (0 : UInt8)).length = bs.length + n := by rw [List.length_append, List.length_replicate]
  have hl0 := hM.ls.len
  obtain ⟨b1, e1, L1, l1, k1, w1⟩ := (hM.ls.more n (by omega)).takeO p (fun y hy => by
    have hyP := (hpf y hy).1
    obtain ⟨c1, c2⟩ := cls_of (hM.ls.st.facts hyP).2.2.2.2.2
    exact ⟨hyP, hF _ c2 _ (mem_freeL hyP (hp y hy) c1)⟩)
  have o16 : o % 16 = 8 := by
    cases p with
    | none =>
      have e : tile 184 A o := t1
      rcases List.eq_nil_or_concat A with e1 | ⟨r, y, e1⟩
      · rw [e1] at ho
        have : o = 184 := ho
        omega
      · rw [List.concat_eq_append] at e1
        have hy := (tile_mem _ _ _ e).2 y (by rw [e1]; simp)
        rw [e1, tile_app] at e
        obtain ⟨_, q1, q2, q3⟩ := e
        have q3 : 184 + sumB r + y.size = o := q3
        have := (isSz_iff _).1 q2
        omega
    | some y =>
      have := hM.ls.st.facts (hpf y rfl).1
      have := (hpf y rfl).2
      omega
  have o184 : 184 ≤ o := by omega
  obtain ⟨y1, hy1⟩ : ∃ y1 : Bk, y1 = ⟨o, s, true⟩ := ⟨_, rfl⟩
  have o1 : y1.off = o := by rw [hy1]
  have z1 : y1.size = s := by rw [hy1]
  have u1 : y1.used = true := by rw [hy1]
  have hs1 : isSz (y1.size : Int) = true := by rw [z1]; exact hs
  have hle : y1.off + y1.size ≤ b1.length := by omega
  have s1 : setB b1 (y1.off : Int) (y1.size : Int) y1.used = some (setT b1 y1) := setB_of b1 y1 (by omega) (by omega) hle hs1
  have l2 : (setT b1 y1).length = b1.length := setT_length hs1 hle
  rw [o1, z1, u1] at s1
  rw [← hy1]
  have hdA : ∀ y ∈ A ++ [y1], y = y1 ∨ (y ∈ H.blks ∧ y ∈ A ∧ (y.off + y.size ≤ y1.off ∨ y1.off + y1.size ≤ y.off)) := fun y hy => by
    rcases List.mem_append.1 hy with hy | hy
    · exact .inr ⟨by rw [hb]; simp [hy], hy, .inl (by have := hA y hy; omega)⟩
    · exact .inl (by simpa using hy)
  have L2 : Lists (setT b1 y1) (A ++ [y1]) (tkO H.lists p) := by
    refine L1.set (by omega) (by omega) hle hs1 (fun y hy => (hdA y hy).imp id fun h => ⟨h.1, h.2.2⟩) fun c hc q hq => ?_
    rw [tkO_mem] at hq
    obtain ⟨y, hy, ey, hyu, hyc⟩ := hM.ls.mem c hc q hq.1
    have hy' := hy
    rw [hb] at hy
    rcases List.mem_append.1 hy with hy | hy
    · exact ⟨y, by simp [hy], hy', ey, .inl (by have := hA y hy; omega)⟩
    · obtain ⟨c1, _⟩ := cls_of (hM.ls.st.facts hy').2.2.2.2.2
      exact absurd ey.symm (hq.2 y (by simpa using hy) (by omega))
  refine ⟨b1, e1, s1, by omega, by omega, fun H' g1 g2 g3 => ?_, fun z hz hzu i hi => ?_⟩
  · have hi := hM.hi
    have hi2 : wordN (bs ++ List.replicate n (0 : UInt8)) 0 = wordN bs 0 := more_word _ _ _ (by omega)
    have M : Md (setT b1 y1) H' := by
      refine ⟨?_, by rw [g1, g2]; exact L2, ?_, by rw [g3]; omega⟩
      · rw [g1, tile_app, ← ho]
        exact ⟨t1, o1, hs1, by show o + y1.size = _; omega⟩
      · rw [setT_same hs1 hle _ (by omega)]
        omega
    refine M.rt (fun c hc q hq => ?_) ?_
    · rw [g1] at hq
      rw [g2, tkO_mem]
      obtain ⟨y, hy, ey, hyu, hyc⟩ := freeL_mem hq
      rcases hdA y hy with rfl | ⟨hyP, hyA, hd⟩
      · rw [u1] at hyu; cases hyu
      · have := hM.facts y hyP
        refine ⟨by rw [← ey]; exact hF c hc _ (mem_freeL hyP hyu hyc), fun z hz _ => ?_⟩
        have := (hpf z hz).2
        have := hA y hyA
        omega
    · rw [g1, noAdj_nadj, nadj_app, nadj_cons, u1]
      rw [hb, nadj_app] at hadj
      simp only [Bool.and_eq_true, Bool.or_true] at hadj ⊢
      exact ⟨hadj.1, trivial, rfl⟩
  · have hzf := hM.facts z hz
    have hzA : z ∈ A := by
      rw [hb] at hz
      rcases List.mem_append.1 hz with hz | hz
      · exact hz
      · have := hp z (by simpa using hz)
        rw [hzu] at this; cases this
    have hd := hA z hzA
    have k := k1.pay hM.facts hM.ls.st.apart hz hzu hi
    obtain ⟨i1, i2⟩ := hi
    rw [setT_get hs1 hle i (by omega), k, more_get _ _ _ (by omega)]

/-- What Find tells. -/
theorem findL_find (hg : ∀ x ∈ H.blks, getB bs (x.off : Int) = some x) (s : Nat) : ∀ L : List Nat, (∀ o ∈ L, ∃ i, atB (o : Int) H.blks = some i) → L.find? (fun o => decide ((s : Int) ≤ (szB bs o : Int))) = (findL H.blks s L).map fun i => (bkAt H.blks i).off
  | [], _ => rfl
  | o :: r, hL => by
    obtain ⟨i, hi⟩ := hL o (by simp)
    obtain ⟨h1, h2⟩ := atB_at hi
    have h2 : (bkAt H.blks i).off = o := by omega
    have hz : szB bs o = (bkAt H.blks i).size := by
      rw [← h2]
      exact szB_of (hg _ (List.mem_of_getElem? (bkAt_get h1)))
    have ih := findL_find hg s r fun q hq => hL q (by simp [hq])
    unfold findL
    rw [hi]
    dsimp only
    by_cases hle : s ≤ (bkAt H.blks i).size
    · rw [List.find?_cons_of_pos (by rw [hz]; exact decide_eq_true (by omega)), if_pos hle, Option.map_some, h2]
    · rw [List.find?_cons_of_neg (by rw [hz]; simp; omega), if_neg hle]
      exact ih
theorem Rt.findsC (h : Rt bs H) (s : Nat) : ∀ k c, c + k = 22 → findF bs (s : Int) k c = some (((H.findC s k c).map fun i => (bkAt H.blks i).off).getD 0)
  | 0, _, _ => rfl
  | k + 1, c, hc => by
    unfold findF Hp.findC
    rw [h.all_ c (by omega)]
    dsimp only
    rw [findL_find (walkB_tiles h.walk).2.2 s (H.lists c) (h.listed c (by omega))]
    cases findL H.blks s (H.lists c) with
    | none => exact h.findsC s k (c + 1) (by omega)
    | some i => rfl
theorem Rt.finds (h : Rt bs H) {s : Nat} (hs : isSz (s : Int) = true) : findB bs (s : Int) = some (((H.find s).map fun i => (bkAt H.blks i).off).getD 0) := by
  unfold findB Hp.find
  refine h.findsC s _ _ ?_
  obtain ⟨c, h1, h2⟩ := class_nat (x := ⟨0, s, false⟩) hs
  have h1 : classI (s : Int) = (c : Int) := h1
  omega
end
end Go.Proofs.YtbldlidpapdkbaaGreatDoor

/- What giving back, cutting and taking leave of what is held, plain. No program in sight. -/
namespace Go.Proofs.YtbldlidpapdkbaaGreatDoor

section
variable {bs : List UInt8} {H : Hp}
theorem Rt.mid (h : Rt bs H) (hc : H.cap ≤ 16384) {A B : List Bk} {x : Bk} (hb : H.blks = A ++ x :: B) : (∀ y ∈ A, 32 ≤ y.size ∧ y.off + y.size ≤ x.off) ∧ (∀ y ∈ B, x.off + x.size ≤ y.off) ∧ isSz (x.size : Int) = true ∧ 184 ≤ x.off ∧ 32 ≤ x.size ∧ x.off + x.size ≤ bs.length := by
  have hM := h.md hc
  have ht := hM.tl
  rw [hb] at ht
  obtain ⟨_, t2, _, _, t5, t6, tA, tB⟩ := tile_mid ht
  have hf := hM.facts
  have hx := hf x (by rw [hb]; simp)
  exact ⟨fun y hy => ⟨(hf y (by rw [hb]; simp [hy])).2, tA y hy⟩, tB, t2, t5, hx.2, t6⟩

/-- What is held behind Give. -/
theorem Rt.gave (h : Rt bs H) (hc : H.cap ≤ 16384) {A1 B1 : List Bk} {p n : Option Bk} {x : Bk} (hb : H.blks = (A1 ++ p.toList) ++ x :: (n.toList ++ B1)) (hN : Near A1 p n B1) {out : List UInt8}
    (hP : ∀ z ∈ H.blks, z.used = true → z ≠ x → ∀ i, Pay z i → out[i]? = bs[i]?) : Held H bs (H.give (A1 ++ p.toList).length) out := by
  intro z hz hzu y hy hyu e i i1 i2 i3
  obtain ⟨tA, tB, _, _, t5, _⟩ := h.mid hc hb
  obtain ⟨gb, _⟩ := give_at hb hN
  by_cases hzx : z = x
  · exfalso
    subst hzx
    rw [gb] at hy
    rcases List.mem_append.1 hy with hy | hy
    · have := tA y (by simp [hy]); omega
    · rcases List.mem_cons.1 hy with rfl | hy
      · cases hyu
      · have := tB y (by simp [hy]); omega
  · exact hP z hz hzu hzx i ⟨i1, i2⟩

/-- What is cut off is given back. -/
theorem Rt.cutting (h : Rt bs H) (hc : H.cap ≤ 16384) {A B : List Bk} {xo xs : Nat} (hb : H.blks = A ++ ⟨xo, xs, true⟩ :: B) {s : Nat} (hs : isSz (s : Int) = true) (hle : s + 32 ≤ xs) :
    ∃ (b1 b2 : List UInt8) (H1 : Hp) (A1 B1 : List Bk) (p n : Option Bk), setB bs (xo : Int) (s : Int) true = some b1 ∧ setB b1 ((xo + s : Nat) : Int) ((xs - s : Nat) : Int) true = some b2 ∧ b1.length = bs.length ∧ b2.length = bs.length ∧
      H1.cap = H.cap ∧ Rt b2 H1 ∧ H1.blks = (A1 ++ p.toList) ++ ⟨xo + s, xs - s, true⟩ :: (n.toList ++ B1) ∧ Near A1 p n B1 ∧ H1.give (A1 ++ p.toList).length = H.cut A.length s ∧
      ∀ out : List UInt8, (∀ z ∈ H1.blks, z.used = true → z ≠ ⟨xo + s, xs - s, true⟩ → ∀ i, Pay z i → out[i]? = b2[i]?) → Held H bs (H.cut A.length s) out ∧ ∀ z ∈ H.blks, z.used = true → z.off ≠ xo → ∀ i, Pay z i → out[i]? = bs[i]? := by
  obtain ⟨s1, s2, l1, l2, hblk, hR1, P1, P2⟩ := h.cuts hc hb rfl hs hle
  obtain ⟨tA, tB, _, t4, t5, _⟩ := h.mid hc hb
  dsimp only at s1 s2 l1 l2 hblk hR1 P1 P2 tA tB t4 t5
  have q := (isSz_iff _).1 hs
  obtain ⟨H1, hH1⟩ : ∃ H1, ((H.use A.length true).size A.length s).put (A.length + 1) ⟨xo + s, xs - s, true⟩ = H1 := ⟨_, rfl⟩
  rw [hH1] at hblk hR1
  obtain ⟨A1, p, n, B1, eA, eB, hN⟩ := near_of (A ++ [⟨xo, s, true⟩]) B
  have hlen : (A1 ++ p.toList).length = A.length + 1 := by rw [← eA]; simp
  have hbx : bkAt H.blks A.length = ⟨xo, xs, true⟩ := by rw [hb, mid_at]
  have hcut : H1.give (A1 ++ p.toList).length = H.cut A.length s := by
    unfold Hp.cut
    rw [hbx]
    dsimp only
    rw [if_neg (by omega), hH1, hlen]
  have hb1 : H1.blks = (A1 ++ p.toList) ++ ⟨xo + s, xs - s, true⟩ :: (n.toList ++ B1) := by rw [hblk, eA, eB]
  refine ⟨_, _, H1, A1, B1, p, n, s1, s2, l1, l2, by rw [← hH1]; rfl, hR1, hb1, hN, hcut, fun out hP => ?_⟩
  have hz : ∀ z ∈ H.blks, z.used = true → z.off ≠ xo → ∀ i, Pay z i → out[i]? = bs[i]? := fun z hz hzu hzo i hi => by
    have hne : z ≠ ⟨xo, xs, true⟩ := fun e => hzo (by rw [e])
    rw [← P1 z hz hne i hi]
    rw [hb] at hz
    rcases List.mem_append.1 hz with hz | hz
    · have := tA z hz
      exact hP z (by rw [hblk]; simp [hz]) hzu (fun e => by rw [e] at this; dsimp only at this; omega) i hi
    · rcases List.mem_cons.1 hz with hz | hz
      · exact absurd hz hne
      · have := tB z hz
        exact hP z (by rw [hblk]; simp [hz]) hzu (fun e => by rw [e] at this; dsimp only at this; omega) i hi
  refine ⟨fun z hzm hzu y hy hyu e i i1 i2 i3 => ?_, hz⟩
  by_cases hzo : z.off = xo
  · rw [← hcut] at hy
    obtain ⟨gb, _⟩ := give_at hb1 hN
    rw [gb] at hy
    have hy1 : y = ⟨xo, s, true⟩ := by
      rcases List.mem_append.1 hy with hy | hy
      · have hy : y ∈ A ++ [⟨xo, s, true⟩] := by rw [eA]; simp [hy]
        rcases List.mem_append.1 hy with hy | hy
        · have := tA y hy; omega
        · simpa using hy
      · rcases List.mem_cons.1 hy with rfl | hy
        · cases hyu
        · have hy : y ∈ B := by rw [eB]; simp [hy]
          have := tB y hy; omega
    subst hy1
    dsimp only at i3 e
    rw [← P2 i ⟨by dsimp only; omega, i3⟩]
    exact hP ⟨xo, s, true⟩ (by rw [hblk]; simp) rfl (fun e => by injection e with e1 e2; omega) i ⟨by dsimp only; omega, i3⟩
  · exact hz z hzm hzu hzo i ⟨i1, i2⟩
/-- Nothing is cut off. -/
theorem Rt.uncut (h : Rt bs H) {A B : List Bk} {xo xs : Nat} (hb : H.blks = A ++ ⟨xo, xs, true⟩ :: B) {s : Nat} (hlt : xs < s + 32) : Rt bs (H.cut A.length s) ∧ Held H bs (H.cut A.length s) bs := by
  have hbx : bkAt H.blks A.length = ⟨xo, xs, true⟩ := by rw [hb, mid_at]
  have hcut : H.cut A.length s = H.use A.length true := by
    unfold Hp.cut
    rw [hbx]
    dsimp only
    rw [if_pos (by omega)]
  refine ⟨?_, fun _ _ _ _ _ _ _ _ _ _ _ => rfl⟩
  rw [hcut]
  refine h.congr ?_ rfl rfl
  rw [mid_use hb true, hb]
end
end Go.Proofs.YtbldlidpapdkbaaGreatDoor

/- Taking, plain: a free block that is used and cut; a block at the end. No program in sight. -/
namespace Go.Proofs.YtbldlidpapdkbaaGreatDoor

theorem use_use {H : Hp} {i : Nat} (hi : i < H.blks.length) : (H.use i true).use i true = H.use i true := by
  have e : bkAt (H.use i true).blks i = { bkAt H.blks i with used := true } := by
    show bkAt (H.blks.set i _) i = _
    rw [bkAt_set _ _ _ _ hi, if_pos rfl]
  unfold Hp.use at e ⊢
  dsimp only at e ⊢
  rw [e, List.set_set]
theorem cut_use {H : Hp} {i s : Nat} (hi : i < H.blks.length) : (H.use i true).cut i s = H.cut i s := by
  have e : bkAt (H.use i true).blks i = { bkAt H.blks i with used := true } := by
    show bkAt (H.blks.set i _) i = _
    rw [bkAt_set _ _ _ _ hi, if_pos rfl]
  unfold Hp.cut
  rw [e, use_use hi]

theorem tailF_snoc (r : List Bk) (y : Bk) : tailF (r ++ [y]) = if y.used = true then 0 else y.size := by
  have e : bkAt (r ++ [y]) ((r ++ [y]).length - 1) = y := by
    rw [show (r ++ [y]).length - 1 = r.length by simp]
    exact mid_at r y []
  unfold tailF
  rw [if_neg (by simp), e]
section
variable {bs : List UInt8} {H : Hp}
/-- The last block, if it is free. -/
theorem Rt.tail (h : Rt bs H) (hc : H.cap ≤ 16384) : ∃ A p, H.blks = A ++ p.toList ∧ (∀ y, p = some y → y.used = false) ∧ frO (aheadB bs (bs.length : Int)) = p ∧ tailF H.blks = sumB p.toList := by
  have hM := h.md hc
  have hb : H.blks = H.blks ++ [] := by simp
  rcases hM.ends hb (o := bs.length) h.lenE.symm with ⟨e1, e2⟩ | ⟨r, y, e1, e2⟩
  · refine ⟨[], none, e1, fun y hy => (by cases hy), ?_, ?_⟩
    · rw [e2]; rfl
    · rw [e1]; rfl
  · have e3 := tailF_snoc r y
    cases hu : y.used with
    | true =>
      rw [hu, if_pos rfl] at e3
      refine ⟨H.blks, none, by simp, fun y hy => (by cases hy), ?_, by rw [e1, e3]; rfl⟩
      rw [e2]
      show (if y.used = true then none else some y) = none
      rw [hu, if_pos rfl]
    | false =>
      rw [hu, if_neg (by simp)] at e3
      refine ⟨r, some y, e1, ?_, ?_, by rw [e1, e3]; simp [sumB]⟩
      · intro z hz
        cases hz
        exact hu
      rw [e2]
      show (if y.used = true then none else some y) = some y
      rw [hu, if_neg (by simp)]
theorem take_fnd {s i : Nat} (hf : H.find s = some i) : H.take s = (some (bkAt H.blks i).off, (H.out i).cut i s) := by
  unfold Hp.take
  rw [hf]
theorem take_full {s : Nat} (hf : H.find s = none) (hcap : H.cap < lenB H.blks + s - tailF H.blks) : H.take s = (none, H) := by
  unfold Hp.take
  rw [hf]
  dsimp only
  rw [if_pos hcap]
/-- The heap with a block at the end. -/
theorem take_end {s : Nat} (hf : H.find s = none) (hcap : ¬ H.cap < lenB H.blks + s - tailF H.blks) {A : List Bk} {p : Option Bk} (hb : H.blks = A ++ p.toList) (ht : tailF H.blks = sumB p.toList)
    (hp : ∀ y, p = some y → y.off = 184 + sumB A ∧ 0 < y.size) : ∃ H', H.take s = (some (184 + sumB A), H') ∧ H'.blks = A ++ [⟨184 + sumB A, s, true⟩] ∧ H'.lists = tkO H.lists p ∧ H'.cap = H.cap := by
  refine ⟨(H.take s).2, ?_, ?_, ?_, ?_⟩
  · have : (H.take s).1 = some (184 + sumB A) := by
      unfold Hp.take
      rw [hf]
      dsimp only
      rw [if_neg hcap]
      cases p with
      | none =>
        have e : tailF H.blks = 0 := ht
        rw [e, if_neg (by omega)]
        rw [hb]; simp [lenB]
      | some y =>
        have e : tailF H.blks = y.size := by rw [ht]; simp [sumB]
        obtain ⟨h1, h2⟩ := hp y rfl
        rw [e, if_pos h2]
        have e2 : H.blks.length - 1 = A.length := by rw [hb]; simp
        rw [e2, hb]
        show some (bkAt (A ++ y :: []) A.length).off = _
        rw [mid_at, h1]
    rw [← this]
  · unfold Hp.take
    rw [hf]
    dsimp only
    rw [if_neg hcap]
    cases p with
    | none =>
      have e : tailF H.blks = 0 := ht
      rw [e, if_neg (by omega)]
      have hb' : H.blks = A := by rw [hb]; simp
      show H.blks.take H.blks.length ++ _ :: H.blks.drop H.blks.length = _
      rw [List.take_length, List.drop_length, hb']
      rfl
    | some y =>
      have e : tailF H.blks = y.size := by rw [ht]; simp [sumB]
      obtain ⟨h1, h2⟩ := hp y rfl
      rw [e, if_pos h2]
      have e2 : H.blks.length - 1 = A.length := by rw [hb]; simp
      rw [e2]
      have hb2 : (H.out A.length).blks = A ++ y :: [] := hb
      have := mid_use (mid_size hb2 s) true
      show (((H.out A.length).size A.length s).use A.length true).blks = _
      rw [this, ← h1]
  · unfold Hp.take
    rw [hf]
    dsimp only
    rw [if_neg hcap]
    cases p with
    | none =>
      have e : tailF H.blks = 0 := ht
      rw [e, if_neg (by omega)]
      rfl
    | some y =>
      have e : tailF H.blks = y.size := by rw [ht]; simp [sumB]
      obtain ⟨h1, h2⟩ := hp y rfl
      rw [e, if_pos h2]
      have e2 : H.blks.length - 1 = A.length := by rw [hb]; simp
      rw [e2]
      show (H.out A.length).lists = _
      rw [mid_out hb]
      rfl
  · exact take_cap
/-- What is held behind a free block was used and cut. -/
theorem Rt.usedHeld (h : Rt bs H) (hc : H.cap ≤ 16384) {A B : List Bk} {xo xs : Nat} (hb : H.blks = A ++ ⟨xo, xs, false⟩ :: B) {b2 out : List UInt8} {H2 H3 : Hp} (hb2 : H2.blks = A ++ ⟨xo, xs, true⟩ :: B)
    (h1 : ∀ z ∈ H.blks, z.used = true → ∀ i, Pay z i → b2[i]? = bs[i]?) (h2 : ∀ z ∈ H2.blks, z.used = true → z.off ≠ xo → ∀ i, Pay z i → out[i]? = b2[i]?) : Held H bs H3 out := by
  intro z hz hzu y _ _ _ i i1 i2 _
  have hp : Pay z i := ⟨i1, i2⟩
  obtain ⟨tA, tB, _, t4, t5, _⟩ := h.mid hc hb
  dsimp only at tA tB t4 t5
  rw [← h1 z hz hzu i hp]
  rw [hb] at hz
  rcases List.mem_append.1 hz with hz | hz
  · have := tA z hz
    exact h2 z (by rw [hb2]; simp [hz]) hzu (by omega) i hp
  · rcases List.mem_cons.1 hz with hz | hz
    · rw [hz] at hzu; cases hzu
    · have := tB z hz
      exact h2 z (by rw [hb2]; simp [hz]) hzu (by omega) i hp
end
end Go.Proofs.YtbldlidpapdkbaaGreatDoor

/- A block that gets more bytes in its place, plain: the free block behind it is taken out, the arena grows, its tags are laid anew. No program in sight. -/
namespace Go.Proofs.YtbldlidpapdkbaaGreatDoor

theorem nadj_true {l : List Bk} (h : nadj false l = true) : nadj true l = true := by
  cases l with
  | nil => rfl
  | cons y r =>
    rw [nadj_cons, Bool.false_or, Bool.and_eq_true] at h
    rw [nadj_cons, Bool.true_or, Bool.true_and]
    exact h.2
section
variable {bs : List UInt8} {H : Hp}
/-- The blocks and the lists of a block that has swallowed the free one behind it. -/
theorem widen_at {A B1 : List Bk} {n : Option Bk} {xo xs : Nat} (hb : H.blks = A ++ ⟨xo, xs, true⟩ :: (n.toList ++ B1)) (hf : ∀ y, n = some y → y.used = false) (hu : n = none → ∀ y r, B1 = y :: r → y.used = true) :
    (H.widen A.length).blks = A ++ ⟨xo, xs + (n.map Bk.size).getD 0, true⟩ :: B1 ∧ (H.widen A.length).lists = tkO H.lists n ∧ bothN H.blks A.length = xs + (n.map Bk.size).getD 0 ∧ nextF H.blks A.length = n.isSome := by
  have hbk : bkAt H.blks A.length = ⟨xo, xs, true⟩ := by rw [hb, mid_at]
  have hi : A.length < H.blks.length := by rw [hb]; simp
  cases n with
  | none =>
    have hn : nextF H.blks A.length = false := by
      rw [hb, nextF_mid]
      cases B1 with
      | nil => rfl
      | cons y r =>
        show (!y.used) = false
        rw [hu rfl y r rfl]; rfl
    have e := both_no hn
    rw [hbk] at e
    refine ⟨?_, ?_, e, by rw [hn]; rfl⟩
    · rw [(widen_same hn hi).1, hb]; rfl
    · unfold Hp.widen
      rw [swallow_no hn]; rfl
  | some m =>
    have hm := hf m rfl
    have hn : nextF H.blks A.length = true := by
      rw [hb, nextF_mid]
      show (!m.used) = true
      rw [hm]; rfl
    have e := both_yes hn
    have hbk1 : bkAt H.blks (A.length + 1) = m := by rw [hb]; exact mid_at1 A _ m B1
    rw [hbk, hbk1] at e
    refine ⟨?_, ?_, e, by rw [hn]; rfl⟩
    · rw [(widen_blks hn).1]
      exact mid_join (H := H.out (A.length + 1)) (y := ⟨xo, xs, true⟩) (z := m) hb
    · have hb' : H.blks = (A ++ [⟨xo, xs, true⟩]) ++ m :: B1 := by rw [hb]; simp
      have := mid_out hb'
      rw [List.length_append, List.length_singleton] at this
      unfold Hp.widen
      rw [swallow_yes hn]
      exact this

/-- More bytes in its place. -/
theorem Rt.wide (h : Rt bs H) (hc : H.cap ≤ 16384) {A B1 : List Bk} {n : Option Bk} {xo xs n0 t : Nat} (hb : H.blks = A ++ ⟨xo, xs, true⟩ :: (n.toList ++ B1)) (hf : ∀ y, n = some y → y.used = false)
    (ht : t = xs + (n.map Bk.size).getD 0 + n0) (hend : n0 = 0 ∨ B1 = []) (hs : isSz (t : Int) = true) (hcap : bs.length + n0 ≤ H.cap) :
    ∃ b1, outB (bs ++ List.replicate n0 0) n = some b1 ∧ setB b1 (xo : Int) (t : Int) true = some (setT b1 ⟨xo, t, true⟩) ∧ b1.length = bs.length + n0 ∧ (setT b1 ⟨xo, t, true⟩).length = bs.length + n0 ∧
      (∀ H' : Hp, H'.blks = A ++ ⟨xo, t, true⟩ :: B1 → H'.lists = tkO H.lists n → H'.cap = H.cap → Rt (setT b1 ⟨xo, t, true⟩) H') ∧
      (∀ z ∈ H.blks, z.used = true → z.off ≠ xo → ∀ i, Pay z i → (setT b1 ⟨xo, t, true⟩)[i]? = bs[i]?) ∧ ∀ i, Pay ⟨xo, xs, true⟩ i → (setT b1 ⟨xo, t, true⟩)[i]? = bs[i]? := by
  have hM := h.md hc
  have hF := h.complete
  have hadj : nadj true H.blks = true := by rw [← noAdj_nadj]; exact h.nfree.2.1
  have htl := hM.tl
  rw [hb] at htl
  obtain ⟨t1, t2, t3, t4, t5, t6, tA, tB⟩ := tile_mid htl
  dsimp only at t1 t2 t3 t4 t5 t6 tA tB
  rw [tile_app] at t3
  obtain ⟨t7, t8⟩ := t3
  have hl0 := hM.ls.len
  have ss := (isSz_iff _).1 hs
  have sx := (isSz_iff _).1 t2
  have hnz : (n.map Bk.size).getD 0 = sumB n.toList := by cases n <;> simp [sumB]
  have hB1 := (tile_mem _ _ _ t8).2
  have hle8 := (tile_mem _ _ _ t8).1
  have hlm : (bs ++ List.replicate n0 (0 : UInt8)).length = bs.length + n0 := by rw [List.length_append, List.length_replicate]
  have hnm : ∀ y, n = some y → y ∈ H.blks ∧ xo + xs ≤ y.off ∧ y.off + y.size ≤ xo + xs + sumB n.toList := fun y hy => by
    rw [hy] at t7
    obtain ⟨a, _, _⟩ := t7
    refine ⟨by rw [hb, hy]; simp, by omega, ?_⟩
    rw [hy]; simp [sumB]; omega
  obtain ⟨b1, e1, L1, l1, k1, w1⟩ := (hM.ls.more n0 (by omega)).takeO n (fun y hy => by
    have hyP := (hnm y hy).1
    obtain ⟨c1, c2⟩ := cls_of (hM.ls.st.facts hyP).2.2.2.2.2
    exact ⟨hyP, hF _ c2 _ (mem_freeL hyP (hf y hy) c1)⟩)
  obtain ⟨y1, hy1⟩ : ∃ y1 : Bk, y1 = ⟨xo, t, true⟩ := ⟨_, rfl⟩
  have o1 : y1.off = xo := by rw [hy1]
  have z1 : y1.size = t := by rw [hy1]
  have u1 : y1.used = true := by rw [hy1]
  have hs1 : isSz (y1.size : Int) = true := by rw [z1]; exact hs
  have hendl : xo + xs + sumB n.toList ≤ bs.length ∧ (n0 = 0 ∨ xo + xs + sumB n.toList = bs.length) := by
    refine ⟨hle8, hend.imp id fun e => ?_⟩
    rw [e] at t8
    exact t8
  have hle : y1.off + y1.size ≤ b1.length := by omega
  have s1 : setB b1 (y1.off : Int) (y1.size : Int) y1.used = some (setT b1 y1) := setB_of b1 y1 (by omega) (by omega) hle hs1
  have l2 : (setT b1 y1).length = b1.length := setT_length hs1 hle
  rw [o1, z1, u1] at s1
  rw [← hy1]
  have inB : ∀ y ∈ B1, y1.off + y1.size ≤ y.off := fun y hy => by
    rcases hend with e | e
    · have := (hB1 y hy).1; omega
    · rw [e] at hy; cases hy
  have hdA : ∀ y ∈ A ++ y1 :: B1, y = y1 ∨ (y ∈ H.blks ∧ (y.off + y.size ≤ y1.off ∨ y1.off + y1.size ≤ y.off)) := fun y hy => by
    rcases List.mem_append.1 hy with hy | hy
    · exact .inr ⟨by rw [hb]; simp [hy], .inl (by have := tA y hy; omega)⟩
    · rcases List.mem_cons.1 hy with rfl | hy
      · exact .inl rfl
      · exact .inr ⟨by rw [hb]; simp [hy], .inr (inB y hy)⟩
  have L2 : Lists (setT b1 y1) (A ++ y1 :: B1) (tkO H.lists n) := by
    refine L1.set (by omega) (by omega) hle hs1 hdA fun c hc q hq => ?_
    rw [tkO_mem] at hq
    obtain ⟨y, hy, ey, hyu, hyc⟩ := hM.ls.mem c hc q hq.1
    have hy' := hy
    rw [hb] at hy
    rcases List.mem_append.1 hy with hy | hy
    · exact ⟨y, by simp [hy], hy', ey, .inl (by have := tA y hy; omega)⟩
    · rcases List.mem_cons.1 hy with rfl | hy
      · cases hyu
      · rcases List.mem_append.1 hy with hy | hy
        · obtain ⟨c1, _⟩ := cls_of (hM.ls.st.facts hy').2.2.2.2.2
          exact absurd ey.symm (hq.2 y (by simpa using hy) (by omega))
        · exact ⟨y, by simp [hy], hy', ey, .inr (inB y hy)⟩
  refine ⟨b1, e1, s1, by omega, by omega, fun H' g1 g2 g3 => ?_, fun z hz hzu hzo i hi => ?_, fun i hi => ?_⟩
  · have hi := hM.hi
    have hi2 : wordN (bs ++ List.replicate n0 (0 : UInt8)) 0 = wordN bs 0 := more_word _ _ _ (by omega)
    have M : Md (setT b1 y1) H' := by
      refine ⟨?_, by rw [g1, g2]; exact L2, ?_, by rw [g3]; omega⟩
      · rw [g1, tile_app]
        have q0 : xo = 184 + sumB A := tile_sum _ _ _ t1
        rw [← q0]
        refine ⟨t1, o1, hs1, ?_⟩
        rw [l2, l1, hlm, z1]
        rcases hend with e | e
        · rw [show xo + t = xo + xs + sumB n.toList by omega, show bs.length + n0 = bs.length by omega]
          exact t8
        · rw [e]
          show xo + t = bs.length + n0
          have := hendl.2
          rw [e] at t8
          have t8 : xo + xs + sumB n.toList = bs.length := t8
          omega
      · rw [setT_same hs1 hle _ (by omega)]
        omega
    refine M.rt (fun c hc q hq => ?_) ?_
    · rw [g1] at hq
      rw [g2, tkO_mem]
      obtain ⟨y, hy, ey, hyu, hyc⟩ := freeL_mem hq
      rcases hdA y hy with rfl | ⟨hyP, hd⟩
      · rw [u1] at hyu; cases hyu
      · have := hM.facts y hyP
        refine ⟨by rw [← ey]; exact hF c hc _ (mem_freeL hyP hyu hyc), fun z hz _ => ?_⟩
        have := hnm z hz
        have := hM.facts z (hnm z hz).1
        omega
    · rw [g1, noAdj_nadj, nadj_app, nadj_cons, u1]
      rw [hb, nadj_app, nadj_cons] at hadj
      simp only [Bool.and_eq_true, Bool.or_true] at hadj ⊢
      refine ⟨hadj.1, trivial, ?_⟩
      have h2 := hadj.2.2
      cases n with
      | none => exact h2
      | some m =>
        have hm := hf m rfl
        have h2 : nadj true (m :: B1) = true := h2
        rw [nadj_cons, hm, Bool.and_eq_true] at h2
        exact nadj_true h2.2
  · have hd : z.off + z.size ≤ y1.off ∨ y1.off + y1.size ≤ z.off := by
      rw [hb] at hz
      rcases List.mem_append.1 hz with hz | hz
      · exact .inl (by have := tA z hz; omega)
      · rcases List.mem_cons.1 hz with rfl | hz
        · exact absurd rfl hzo
        · rcases List.mem_append.1 hz with hz | hz
          · have := hf z (by simpa using hz)
            rw [hzu] at this; cases this
          · exact .inr (inB z hz)
    have hzf := hM.ls.st.facts hz
    have k := k1.pay hM.facts hM.ls.st.apart hz hzu hi
    obtain ⟨i1, i2⟩ := hi
    rw [setT_get hs1 hle i (by omega), k, more_get _ _ _ (by omega)]
  · have hxP : (⟨xo, xs, true⟩ : Bk) ∈ H.blks := by rw [hb]; simp
    have k := k1.pay hM.facts hM.ls.st.apart hxP rfl hi
    obtain ⟨i1, i2⟩ := hi
    dsimp only at i1 i2
    have hzf := hM.ls.st.facts hxP
    dsimp only at hzf
    rw [setT_get hs1 hle i (by omega), k, more_get _ _ _ (by omega)]
end
end Go.Proofs.YtbldlidpapdkbaaGreatDoor

/- A region that draws its order, with two calls, one behind the other, and two new blocks made at any time among them; then a tail that comes in one order (genpair.py). -/
namespace Go.Proofs.YtbldlidpapdkbaaGreatDoor
open Go.RowKit

/-- What may come up when, as a tree. -/
inductive QT where
  | fin : QT
  | one : Nat → QT → QT
  | two : Nat → QT → Nat → QT → QT
  | three : Nat → QT → Nat → QT → Nat → QT → QT

section
variable {P : Program} {ops : Array Oper} {Q : Exit → Act → World → Prop} {T : List Nat}
def qLen (T : List Nat) : QT → Nat
  | .fin => T.length
  | .one _ q => 1 + qLen T q
  | .two _ q _ _ => 1 + qLen T q
  | .three _ q _ _ _ _ => 1 + qLen T q
def planQ (ops : Array Oper) (T : List Nat) : Array Bool → QT → Bool
  | l, .fin => seqT ops l T
  | l, .one i q => Region.ready .any ops l == [i] && (!mv ops i && planQ ops T (l.setIfInBounds i true) q)
  | l, .two i q j r => Region.ready .any ops l == [i, j] && (!mv ops i && (!mv ops j && (qLen T q == qLen T r && (planQ ops T (l.setIfInBounds i true) q && planQ ops T (l.setIfInBounds j true) r))))
  | l, .three i q j r k s => Region.ready .any ops l == [i, j, k] && (!mv ops i && (!mv ops j && (!mv ops k && (qLen T q == qLen T r && (qLen T q == qLen T s && (planQ ops T (l.setIfInBounds i true) q && (planQ ops T (l.setIfInBounds j true) r && planQ ops T (l.setIfInBounds k true) s)))))))
def wpQ (P : Program) (ops : Array Oper) (Q : Exit → Act → World → Prop) (T : List Nat) (B : Nat) : QT → Act → World → Prop
  | .fin, a, w => wpList P ops Q (pick ops T) a w
  | .one i q, a, w => wpOp P ops Q i (fun a' w' => Below B w w' ∧ wpQ P ops Q T B q a' w') a w
  | .two i q j r, a, w => wpOp P ops Q i (fun a' w' => Below B w w' ∧ wpQ P ops Q T B q a' w') a w ∧ wpOp P ops Q j (fun a' w' => Below B w w' ∧ wpQ P ops Q T B r a' w') a w
  | .three i q j r k s, a, w => wpOp P ops Q i (fun a' w' => Below B w w' ∧ wpQ P ops Q T B q a' w') a w ∧ wpOp P ops Q j (fun a' w' => Below B w w' ∧ wpQ P ops Q T B r a' w') a w ∧ wpOp P ops Q k (fun a' w' => Below B w w' ∧ wpQ P ops Q T B s a' w') a w

theorem q_step {B n i : Nat} {q : QT} {l : Array Bool} {a : Act} {w : World} (hm : mv ops i = false)
    (ih : ∀ a w, wpQ P ops Q T B q a w → wpAnyT P ops Q (Below B w) T n (l.setIfInBounds i true) a w)
    (h : wpOp P ops Q i (fun a' w' => Below B w w' ∧ wpQ P ops Q T B q a' w') a w) :
    wpOp P ops Q i (fun a' w' => (i ∉ T → mv ops i = false → Below B w w') ∧ (mv ops i = true → w' = w) ∧ wpAnyT P ops Q (Below B w) T n (l.setIfInBounds i true) a' w') a w :=
  wpOp_mono (fun a' w' hh => by
    refine ⟨fun _ _ => hh.1, fun e => ?_, wpAnyT_less (fun w3 h4 => hh.1.trans h4) _ _ _ _ (ih a' w' hh.2)⟩
    rw [hm] at e
    cases e) h

theorem planQ_any (B : Nat) : ∀ (q : QT) (l : Array Bool) (a : Act) (w : World), planQ ops T l q = true → wpQ P ops Q T B q a w → wpAnyT P ops Q (Below B w) T (qLen T q) l a w
  | .fin, l, a, w, hc, h => seqT_any (fun _ h => h) T l a w (fun _ h => h) hc h
  | .one i q, l, a, w, hc, h => by
    simp only [planQ, Bool.and_eq_true, beq_iff_eq, Bool.not_eq_true'] at hc
    obtain ⟨h1, m1, c1⟩ := hc
    have k := q_step m1 (fun a w => planQ_any B q _ a w c1) h
    show wpAnyT P ops Q (Below B w) T (1 + qLen T q) l a w
    rw [Nat.add_comm]
    refine ⟨fun h0 => (by rw [h1] at h0; cases h0), fun j hj => ?_⟩
    rw [h1] at hj
    obtain rfl : j = i := by simpa using hj
    exact k
  | .two i q j r, l, a, w, hc, h => by
    simp only [planQ, Bool.and_eq_true, beq_iff_eq, Bool.not_eq_true'] at hc
    obtain ⟨h1, m1, m2, e2, c1, c2⟩ := hc
    have k1 := q_step m1 (fun a w => planQ_any B q _ a w c1) h.1
    have k2 := q_step m2 (fun a w => planQ_any B r _ a w c2) h.2
    rw [← e2] at k2
    show wpAnyT P ops Q (Below B w) T (1 + qLen T q) l a w
    rw [Nat.add_comm]
    refine ⟨fun h0 => (by rw [h1] at h0; cases h0), fun j' hj => ?_⟩
    rw [h1] at hj
    rcases List.mem_cons.1 hj with rfl | hj
    · exact k1
    · obtain rfl : j' = j := by simpa using hj
      exact k2
  | .three i q j r k s, l, a, w, hc, h => by
    simp only [planQ, Bool.and_eq_true, beq_iff_eq, Bool.not_eq_true'] at hc
    obtain ⟨h1, m1, m2, m3, e2, e3, c1, c2, c3⟩ := hc
    have k1 := q_step m1 (fun a w => planQ_any B q _ a w c1) h.1
    have k2 := q_step m2 (fun a w => planQ_any B r _ a w c2) h.2.1
    have k3 := q_step m3 (fun a w => planQ_any B s _ a w c3) h.2.2
    rw [← e2] at k2
    rw [← e3] at k3
    show wpAnyT P ops Q (Below B w) T (1 + qLen T q) l a w
    rw [Nat.add_comm]
    refine ⟨fun h0 => (by rw [h1] at h0; cases h0), fun j' hj => ?_⟩
    rw [h1] at hj
    rcases List.mem_cons.1 hj with rfl | hj
    · exact k1
    · rcases List.mem_cons.1 hj with rfl | hj
      · exact k2
      · obtain rfl : j' = k := by simpa using hj
        exact k3

/-- The region: readers, then the tree. -/
theorem wp_region_q {id : Nat} {a : Act} {w : World} (B : Nat) (rs : List Nat) (q : QT) (T : List Nat) (hm : P.follows .mixedOrders = true) (hsel : Region.noSelect ops = true)
    (hc : (segT ops T (Array.replicate ops.size false) rs && (planQ ops T (mark (Array.replicate ops.size false) rs) q && qLen T q + rs.length == ops.size)) = true)
    (hQ : ∀ c a t v w, Q (.panic c) (Act.put a (some t) v) w → Q (.panic c) a w)
    (h : wpQuiet P ops (AfterB B w.drew) (fun a' => wpQ P ops Q T B q a' w.drew) (pick ops rs) a) : (Code.region id ops true).wp P Q a w := by
  simp only [Bool.and_eq_true, beq_iff_eq] at hc
  obtain ⟨h1, h2, h3⟩ := hc
  have hs := segT_any (T := T) hsel hQ B w.drew _ (qLen T q) rs _ a h1 h (fun a' ha => planQ_any B q _ a' _ h2 ha)
  rw [h3] at hs
  exact wp_region_any hm (wpAnyT_any _ _ _ _ hs)
theorem q_pick {B : Nat} {rs : List Nat} {q : QT} {a : Act} {w : World} {l : List Oper} (hl : pick ops rs = l) (h : wpQuiet P ops (AfterB B w) (fun a' => wpQ P ops Q T B q a' w) l a) : wpQuiet P ops (AfterB B w) (fun a' => wpQ P ops Q T B q a' w) (pick ops rs) a := by
  subst hl; exact h
theorem q_fin {B : Nat} {a : Act} {w : World} {t : List Oper} (ht : pick ops T = t) (h : wpList P ops Q t a w) : wpQ P ops Q T B .fin a w := by
  subst ht; exact h
end

/-- What the calls read stays. -/
def Ag (S : List Nat) (a0 a : Act) : Prop := ∀ s ∈ S, a.tmps.getD s undef = a0.tmps.getD s undef
theorem Ag.refl (S : List Nat) (a : Act) : Ag S a a := fun _ _ => rfl
theorem Ag.put {S : List Nat} {a0 a : Act} (h : Ag S a0 a) {d : Nat} (hd : d ∉ S) (v : Value) : Ag S a0 (a.put (some d) v) := fun s hs => by
  have hne : d ≠ s := fun e => hd (e ▸ hs)
  rw [← h s hs]
  simp [Act.put, Array.getElem?_setIfInBounds_ne hne]
theorem ne_put {x y : Nat} (h : x ≠ y) : ∀ d : Tmp, (some x : Option Tmp) = some d → (some y : Option Tmp) ≠ some d := fun _ e k => h (Option.some.inj (e.trans k.symm))
def ptrV (p : Nat) : Value := .pointer (some ⟨p, 0, none⟩)

section
variable {P : Program} {ops : Array Oper} {Q : Exit → Act → World → Prop}
/-- A call: its value, and nothing that was there has changed. -/
def Stp (P : Program) (ops : Array Oper) (Q : Exit → Act → World → Prop) (B : Nat) (w0 : World) (S : List Nat) (a0 : Act) (i d : Nat) (v : Value) : Prop :=
  ∀ (a : Act) (w : World) (K : Act → World → Prop), Ag S a0 a → Below B w0 w → (∀ w', Below w.heap.size w w' → K (a.put (some d) v) w') → wpOp P ops Q i K a w
/-- A new block. -/
def Sta (P : Program) (ops : Array Oper) (Q : Exit → Act → World → Prop) (j e : Nat) (cs : Array Value) (ty : TypeId) : Prop :=
  ∀ (a : Act) (w : World) (K : Act → World → Prop), K (a.put (some e) (ptrV w.heap.size)) (w.alloc (.cells cs ty)) → wpOp P ops Q j K a w
theorem stp_call {B i d : Nat} {w0 : World} {S : List Nat} {a0 : Act} {v : Value} {f : FuncId} {args : Array Operand} {tys : Array TypeId} {ty : TypeId} {pos : String} {after : Array Edge}
    (hf : ∀ (xs : Array Value) (w : World), (callFunc f xs).run P w = .ok (.enter f xs) w)
    (ho : ops[i]? = some { dst := some d, op := .call { callee := .value (.func f), args := args, argTypes := tys }, type := ty, pos := pos, after := after, guard := none })
    {vs : Array Value} (hvl : ∀ a, Ag S a0 a → args.toList.map a.eval = vs.toList)
    (hc : ∀ w, Below B w0 w → Calls P f vs w (fun e w' => e = .returned v ∧ Below w.heap.size w w')) : Stp P ops Q B w0 S a0 i d v := by
  intro a w K ha hb hk
  have hw : Region.wanted { dst := some d, op := .call { callee := .value (.func f), args := args, argTypes := tys }, type := ty, pos := pos, after := after, guard := none } (yielded ops a.tmps) = true := rfl
  unfold wpOp
  simp only [ho]
  rw [if_pos hw]
  refine .inl ?_
  have hvs : args.map a.eval = vs := Array.ext' (by simpa using hvl a ha)
  subst hvs
  unfold Oper.wp
  rw [execOp_call_go, hf]
  simp only [Oper.upon, Array.empty_append, Array.append_empty]
  refine (hc w hb).mono fun e w' hh => ?_
  obtain ⟨rfl, h1⟩ := hh
  exact hk w' h1
theorem stp_alloc {j e : Nat} {o : Oper} {cs : Array Value} {ty : TypeId} (ho : ops[j]? = some o) (hd : o.dst = some e) (hw : ∀ xs, Region.wanted o xs = true)
    (hr : ∀ (ρ : Operand → Value) (w : World), (execOp ρ o).run P w = .ok (.value (.pointer (some ⟨w.heap.size, 0, none⟩))) (w.alloc (.cells cs ty))) : Sta P ops Q j e cs ty := by
  intro a w K hk
  unfold wpOp
  simp only [ho]
  rw [if_pos (hw _)]
  refine .inl ?_
  unfold Oper.wp
  rw [hr]
  show K (a.put o.dst _) _
  rw [hd]
  exact hk
end
def pq211 (_ _ _ _ : Nat) : QT := .fin
def pq111 (i1 i2 j1 j2 : Nat) : QT := .one i2 (pq211 i1 i2 j1 j2)
def pq201 (i1 i2 j1 j2 : Nat) : QT := .one j1 (pq211 i1 i2 j1 j2)
def pq210 (i1 i2 j1 j2 : Nat) : QT := .one j2 (pq211 i1 i2 j1 j2)
def pq011 (i1 i2 j1 j2 : Nat) : QT := .one i1 (pq111 i1 i2 j1 j2)
def pq101 (i1 i2 j1 j2 : Nat) : QT := .two i2 (pq201 i1 i2 j1 j2) j1 (pq111 i1 i2 j1 j2)
def pq110 (i1 i2 j1 j2 : Nat) : QT := .two i2 (pq210 i1 i2 j1 j2) j2 (pq111 i1 i2 j1 j2)
def pq200 (i1 i2 j1 j2 : Nat) : QT := .two j1 (pq210 i1 i2 j1 j2) j2 (pq201 i1 i2 j1 j2)
def pq001 (i1 i2 j1 j2 : Nat) : QT := .two i1 (pq101 i1 i2 j1 j2) j1 (pq011 i1 i2 j1 j2)
def pq010 (i1 i2 j1 j2 : Nat) : QT := .two i1 (pq110 i1 i2 j1 j2) j2 (pq011 i1 i2 j1 j2)
def pq100 (i1 i2 j1 j2 : Nat) : QT := .three i2 (pq200 i1 i2 j1 j2) j1 (pq110 i1 i2 j1 j2) j2 (pq101 i1 i2 j1 j2)
def pq000 (i1 i2 j1 j2 : Nat) : QT := .three i1 (pq100 i1 i2 j1 j2) j1 (pq010 i1 i2 j1 j2) j2 (pq001 i1 i2 j1 j2)
/-- Two calls, two new blocks. -/
def pairQ (i1 i2 j1 j2 : Nat) : QT := pq000 i1 i2 j1 j2

section
variable {P : Program} {ops : Array Oper} {Q : Exit → Act → World → Prop} {T : List Nat} {B i1 i2 j1 j2 d1 d2 e1 e2 : Nat} {w0 : World} {S : List Nat} {a0 : Act} {v1 v2 : Value} {cs : Array Value} {ty : TypeId}
/-- All that is wanted of such a region. -/
structure PairOk (P : Program) (ops : Array Oper) (Q : Exit → Act → World → Prop) (T : List Nat) (B i1 i2 j1 j2 d1 d2 e1 e2 : Nat) (w0 : World) (S : List Nat) (a0 : Act) (v1 v2 : Value) (cs : Array Value) (ty : TypeId) : Prop where
  s1 : Stp P ops Q B w0 S a0 i1 d1 v1
  s2 : Stp P ops Q B w0 S a0 i2 d2 v2
  t1 : Sta P ops Q j1 e1 cs ty
  t2 : Sta P ops Q j2 e2 cs ty
  n1 : d1 ∉ S
  n2 : d2 ∉ S
  n3 : e1 ∉ S
  n4 : e2 ∉ S
  e12 : e1 ≠ d1 ∧ e1 ≠ d2 ∧ e2 ≠ d1 ∧ e2 ≠ d2 ∧ e2 ≠ e1
  hB : B = w0.heap.size
  fin : ∀ (p1 p2 : Nat) (w : World), B ≤ p1 → B ≤ p2 → p1 ≠ p2 → w.heap[p1]? = some (.cells cs ty (0, 0)) → w.heap[p2]? = some (.cells cs ty (0, 0)) → Below B w0 w →
    wpQ P ops Q T B .fin ((((a0.put (some d1) v1).put (some d2) v2).put (some e1) (ptrV p1)).put (some e2) (ptrV p2)) w
theorem pair211 (h : PairOk P ops Q T B i1 i2 j1 j2 d1 d2 e1 e2 w0 S a0 v1 v2 cs ty) : ∀ (p1 p2 : Nat) (w : World), Below B w0 w → B ≤ p1 → w.heap[p1]? = some (.cells cs ty (0, 0)) → B ≤ p2 → w.heap[p2]? = some (.cells cs ty (0, 0)) → p1 ≠ p2 → wpQ P ops Q T B (pq211 i1 i2 j1 j2) ((((a0.put (some d1) v1).put (some d2) v2).put (some e1) (ptrV p1)).put (some e2) (ptrV p2)) w := by
  intro p1 p2 w hb b1 x1 b2 x2 ne
  exact h.fin p1 p2 w b1 b2 ne x1 x2 hb
theorem pair111 (h : PairOk P ops Q T B i1 i2 j1 j2 d1 d2 e1 e2 w0 S a0 v1 v2 cs ty) : ∀ (p1 p2 : Nat) (w : World), Below B w0 w → B ≤ p1 → w.heap[p1]? = some (.cells cs ty (0, 0)) → B ≤ p2 → w.heap[p2]? = some (.cells cs ty (0, 0)) → p1 ≠ p2 → wpQ P ops Q T B (pq111 i1 i2 j1 j2) (((a0.put (some d1) v1).put (some e1) (ptrV p1)).put (some e2) (ptrV p2)) w := by
  intro p1 p2 w hb b1 x1 b2 x2 ne
  have hs : B ≤ w.heap.size := Nat.le_trans (Nat.le_of_eq h.hB) hb.size
  refine h.s2 _ _ _ (Ag.put (Ag.put (Ag.put (Ag.refl S a0) h.n1 v1) h.n3 (ptrV p1)) h.n4 (ptrV p2)) hb (fun w' hw => ⟨hw.mono hs, ?_⟩)
  rw [Act.put_comm ((a0.put (some d1) v1).put (some e1) (ptrV p1)) (ptrV p2) v2 (ne_put h.e12.2.2.2.1), Act.put_comm (a0.put (some d1) v1) (ptrV p1) v2 (ne_put h.e12.2.1)]
  exact pair211 h p1 p2 w' (hb.trans (hw.mono hs)) b1 ((hw.block p1 (heap_lt x1)).trans x1) b2 ((hw.block p2 (heap_lt x2)).trans x2) ne
theorem pair201 (h : PairOk P ops Q T B i1 i2 j1 j2 d1 d2 e1 e2 w0 S a0 v1 v2 cs ty) : ∀ (p2 : Nat) (w : World), Below B w0 w → B ≤ p2 → w.heap[p2]? = some (.cells cs ty (0, 0)) → wpQ P ops Q T B (pq201 i1 i2 j1 j2) (((a0.put (some d1) v1).put (some d2) v2).put (some e2) (ptrV p2)) w := by
  intro p2 w hb b2 x2
  have hs : B ≤ w.heap.size := Nat.le_trans (Nat.le_of_eq h.hB) hb.size
  refine h.t1 _ _ _ ⟨(Below.refl _ _).alloc hs _, ?_⟩
  rw [Act.put_comm ((a0.put (some d1) v1).put (some d2) v2) (ptrV p2) (ptrV w.heap.size) (ne_put h.e12.2.2.2.2)]
  exact pair211 h w.heap.size p2 _ (hb.trans ((Below.refl _ _).alloc hs _)) hs (heap_alloc_new w _) b2 ((heap_alloc_old _ _ (heap_lt x2)).trans x2) (fun e => by have := heap_lt x2; omega)
theorem pair210 (h : PairOk P ops Q T B i1 i2 j1 j2 d1 d2 e1 e2 w0 S a0 v1 v2 cs ty) : ∀ (p1 : Nat) (w : World), Below B w0 w → B ≤ p1 → w.heap[p1]? = some (.cells cs ty (0, 0)) → wpQ P ops Q T B (pq210 i1 i2 j1 j2) (((a0.put (some d1) v1).put (some d2) v2).put (some e1) (ptrV p1)) w := by
  intro p1 w hb b1 x1
  have hs : B ≤ w.heap.size := Nat.le_trans (Nat.le_of_eq h.hB) hb.size
  refine h.t2 _ _ _ ⟨(Below.refl _ _).alloc hs _, ?_⟩
  exact pair211 h p1 w.heap.size _ (hb.trans ((Below.refl _ _).alloc hs _)) b1 ((heap_alloc_old _ _ (heap_lt x1)).trans x1) hs (heap_alloc_new w _) (fun e => by have := heap_lt x1; omega)
theorem pair011 (h : PairOk P ops Q T B i1 i2 j1 j2 d1 d2 e1 e2 w0 S a0 v1 v2 cs ty) : ∀ (p1 p2 : Nat) (w : World), Below B w0 w → B ≤ p1 → w.heap[p1]? = some (.cells cs ty (0, 0)) → B ≤ p2 → w.heap[p2]? = some (.cells cs ty (0, 0)) → p1 ≠ p2 → wpQ P ops Q T B (pq011 i1 i2 j1 j2) ((a0.put (some e1) (ptrV p1)).put (some e2) (ptrV p2)) w := by
  intro p1 p2 w hb b1 x1 b2 x2 ne
  have hs : B ≤ w.heap.size := Nat.le_trans (Nat.le_of_eq h.hB) hb.size
  refine h.s1 _ _ _ (Ag.put (Ag.put (Ag.refl S a0) h.n3 (ptrV p1)) h.n4 (ptrV p2)) hb (fun w' hw => ⟨hw.mono hs, ?_⟩)
  rw [Act.put_comm (a0.put (some e1) (ptrV p1)) (ptrV p2) v1 (ne_put h.e12.2.2.1), Act.put_comm a0 (ptrV p1) v1 (ne_put h.e12.1)]
  exact pair111 h p1 p2 w' (hb.trans (hw.mono hs)) b1 ((hw.block p1 (heap_lt x1)).trans x1) b2 ((hw.block p2 (heap_lt x2)).trans x2) ne
theorem pair101 (h : PairOk P ops Q T B i1 i2 j1 j2 d1 d2 e1 e2 w0 S a0 v1 v2 cs ty) : ∀ (p2 : Nat) (w : World), Below B w0 w → B ≤ p2 → w.heap[p2]? = some (.cells cs ty (0, 0)) → wpQ P ops Q T B (pq101 i1 i2 j1 j2) ((a0.put (some d1) v1).put (some e2) (ptrV p2)) w := by
  intro p2 w hb b2 x2
  have hs : B ≤ w.heap.size := Nat.le_trans (Nat.le_of_eq h.hB) hb.size
  refine ⟨?_, ?_⟩
  · refine h.s2 _ _ _ (Ag.put (Ag.put (Ag.refl S a0) h.n1 v1) h.n4 (ptrV p2)) hb (fun w' hw => ⟨hw.mono hs, ?_⟩)
    rw [Act.put_comm (a0.put (some d1) v1) (ptrV p2) v2 (ne_put h.e12.2.2.2.1)]
    exact pair201 h p2 w' (hb.trans (hw.mono hs)) b2 ((hw.block p2 (heap_lt x2)).trans x2)
  · refine h.t1 _ _ _ ⟨(Below.refl _ _).alloc hs _, ?_⟩
    rw [Act.put_comm (a0.put (some d1) v1) (ptrV p2) (ptrV w.heap.size) (ne_put h.e12.2.2.2.2)]
    exact pair111 h w.heap.size p2 _ (hb.trans ((Below.refl _ _).alloc hs _)) hs (heap_alloc_new w _) b2 ((heap_alloc_old _ _ (heap_lt x2)).trans x2) (fun e => by have := heap_lt x2; omega)
theorem pair110 (h : PairOk P ops Q T B i1 i2 j1 j2 d1 d2 e1 e2 w0 S a0 v1 v2 cs ty) : ∀ (p1 : Nat) (w : World), Below B w0 w → B ≤ p1 → w.heap[p1]? = some (.cells cs ty (0, 0)) → wpQ P ops Q T B (pq110 i1 i2 j1 j2) ((a0.put (some d1) v1).put (some e1) (ptrV p1)) w := by
  intro p1 w hb b1 x1
  have hs : B ≤ w.heap.size := Nat.le_trans (Nat.le_of_eq h.hB) hb.size
  refine ⟨?_, ?_⟩
  · refine h.s2 _ _ _ (Ag.put (Ag.put (Ag.refl S a0) h.n1 v1) h.n3 (ptrV p1)) hb (fun w' hw => ⟨hw.mono hs, ?_⟩)
    rw [Act.put_comm (a0.put (some d1) v1) (ptrV p1) v2 (ne_put h.e12.2.1)]
    exact pair210 h p1 w' (hb.trans (hw.mono hs)) b1 ((hw.block p1 (heap_lt x1)).trans x1)
  · refine h.t2 _ _ _ ⟨(Below.refl _ _).alloc hs _, ?_⟩
    exact pair111 h p1 w.heap.size _ (hb.trans ((Below.refl _ _).alloc hs _)) b1 ((heap_alloc_old _ _ (heap_lt x1)).trans x1) hs (heap_alloc_new w _) (fun e => by have := heap_lt x1; omega)
theorem pair200 (h : PairOk P ops Q T B i1 i2 j1 j2 d1 d2 e1 e2 w0 S a0 v1 v2 cs ty) : ∀ (w : World), Below B w0 w → wpQ P ops Q T B (pq200 i1 i2 j1 j2) ((a0.put (some d1) v1).put (some d2) v2) w := by
  intro  w hb
  have hs : B ≤ w.heap.size := Nat.le_trans (Nat.le_of_eq h.hB) hb.size
  refine ⟨?_, ?_⟩
  · refine h.t1 _ _ _ ⟨(Below.refl _ _).alloc hs _, ?_⟩
    exact pair210 h w.heap.size _ (hb.trans ((Below.refl _ _).alloc hs _)) hs (heap_alloc_new w _)
  · refine h.t2 _ _ _ ⟨(Below.refl _ _).alloc hs _, ?_⟩
    exact pair201 h w.heap.size _ (hb.trans ((Below.refl _ _).alloc hs _)) hs (heap_alloc_new w _)
theorem pair001 (h : PairOk P ops Q T B i1 i2 j1 j2 d1 d2 e1 e2 w0 S a0 v1 v2 cs ty) : ∀ (p2 : Nat) (w : World), Below B w0 w → B ≤ p2 → w.heap[p2]? = some (.cells cs ty (0, 0)) → wpQ P ops Q T B (pq001 i1 i2 j1 j2) (a0.put (some e2) (ptrV p2)) w := by
  intro p2 w hb b2 x2
  have hs : B ≤ w.heap.size := Nat.le_trans (Nat.le_of_eq h.hB) hb.size
  refine ⟨?_, ?_⟩
  · refine h.s1 _ _ _ (Ag.put (Ag.refl S a0) h.n4 (ptrV p2)) hb (fun w' hw => ⟨hw.mono hs, ?_⟩)
    rw [Act.put_comm a0 (ptrV p2) v1 (ne_put h.e12.2.2.1)]
    exact pair101 h p2 w' (hb.trans (hw.mono hs)) b2 ((hw.block p2 (heap_lt x2)).trans x2)
  · refine h.t1 _ _ _ ⟨(Below.refl _ _).alloc hs _, ?_⟩
    rw [Act.put_comm a0 (ptrV p2) (ptrV w.heap.size) (ne_put h.e12.2.2.2.2)]
    exact pair011 h w.heap.size p2 _ (hb.trans ((Below.refl _ _).alloc hs _)) hs (heap_alloc_new w _) b2 ((heap_alloc_old _ _ (heap_lt x2)).trans x2) (fun e => by have := heap_lt x2; omega)
theorem pair010 (h : PairOk P ops Q T B i1 i2 j1 j2 d1 d2 e1 e2 w0 S a0 v1 v2 cs ty) : ∀ (p1 : Nat) (w : World), Below B w0 w → B ≤ p1 → w.heap[p1]? = some (.cells cs ty (0, 0)) → wpQ P ops Q T B (pq010 i1 i2 j1 j2) (a0.put (some e1) (ptrV p1)) w := by
  intro p1 w hb b1 x1
  have hs : B ≤ w.heap.size := Nat.le_trans (Nat.le_of_eq h.hB) hb.size
  refine ⟨?_, ?_⟩
  · refine h.s1 _ _ _ (Ag.put (Ag.refl S a0) h.n3 (ptrV p1)) hb (fun w' hw => ⟨hw.mono hs, ?_⟩)
    rw [Act.put_comm a0 (ptrV p1) v1 (ne_put h.e12.1)]
    exact pair110 h p1 w' (hb.trans (hw.mono hs)) b1 ((hw.block p1 (heap_lt x1)).trans x1)
  · refine h.t2 _ _ _ ⟨(Below.refl _ _).alloc hs _, ?_⟩
    exact pair011 h p1 w.heap.size _ (hb.trans ((Below.refl _ _).alloc hs _)) b1 ((heap_alloc_old _ _ (heap_lt x1)).trans x1) hs (heap_alloc_new w _) (fun e => by have := heap_lt x1; omega)
theorem pair100 (h : PairOk P ops Q T B i1 i2 j1 j2 d1 d2 e1 e2 w0 S a0 v1 v2 cs ty) : ∀ (w : World), Below B w0 w → wpQ P ops Q T B (pq100 i1 i2 j1 j2) (a0.put (some d1) v1) w := by
  intro  w hb
  have hs : B ≤ w.heap.size := Nat.le_trans (Nat.le_of_eq h.hB) hb.size
  refine ⟨?_, ?_, ?_⟩
  · refine h.s2 _ _ _ (Ag.put (Ag.refl S a0) h.n1 v1) hb (fun w' hw => ⟨hw.mono hs, ?_⟩)
    exact pair200 h  w' (hb.trans (hw.mono hs))
  · refine h.t1 _ _ _ ⟨(Below.refl _ _).alloc hs _, ?_⟩
    exact pair110 h w.heap.size _ (hb.trans ((Below.refl _ _).alloc hs _)) hs (heap_alloc_new w _)
  · refine h.t2 _ _ _ ⟨(Below.refl _ _).alloc hs _, ?_⟩
    exact pair101 h w.heap.size _ (hb.trans ((Below.refl _ _).alloc hs _)) hs (heap_alloc_new w _)
theorem pair000 (h : PairOk P ops Q T B i1 i2 j1 j2 d1 d2 e1 e2 w0 S a0 v1 v2 cs ty) : ∀ (w : World), Below B w0 w → wpQ P ops Q T B (pq000 i1 i2 j1 j2) a0 w := by
  intro  w hb
  have hs : B ≤ w.heap.size := Nat.le_trans (Nat.le_of_eq h.hB) hb.size
  refine ⟨?_, ?_, ?_⟩
  · refine h.s1 _ _ _ (Ag.refl S a0) hb (fun w' hw => ⟨hw.mono hs, ?_⟩)
    exact pair100 h  w' (hb.trans (hw.mono hs))
  · refine h.t1 _ _ _ ⟨(Below.refl _ _).alloc hs _, ?_⟩
    exact pair010 h w.heap.size _ (hb.trans ((Below.refl _ _).alloc hs _)) hs (heap_alloc_new w _)
  · refine h.t2 _ _ _ ⟨(Below.refl _ _).alloc hs _, ?_⟩
    exact pair001 h w.heap.size _ (hb.trans ((Below.refl _ _).alloc hs _)) hs (heap_alloc_new w _)
theorem qpair_any (h : PairOk P ops Q T B i1 i2 j1 j2 d1 d2 e1 e2 w0 S a0 v1 v2 cs ty) : wpQ P ops Q T B (pairQ i1 i2 j1 j2) a0 w0 := pair000 h w0 (Below.refl _ _)
end
end Go.Proofs.YtbldlidpapdkbaaGreatDoor
