/- Texts of mine, joined: ListM2, TileM, RebM, CheckM, CheckM2, CheckM3, HpM, HpM2, HpM3, Ref7a, Ref7b, Ref7c, Ref7d, Ref7e, Ref7f, Law00, OpenB, Ref9a, Ref9b, Ref9c, Ref9d, Ref10a, Ref10b, Ref11, Spec7, St7, Fork, Spec9, Law09a, Ls, FirstM, Law09c, Spec10, Spec11, Law11a, Hm1, Hm2, Hm3, Hm4. -/
import Derived.Laws.ResultCell
import Derived.Test.YtdjjbmefaggelaaGreatChecked
import Derived.Deep.QuietTactic
import Derived.BigQuiet
import Derived.WalkSpells
import Derived.IntWalk
import Derived.Deep.Grids
import Derived.Deep.Fields
import Derived.Lib.SmallJoins
import Derived.Great.BuildSlice
import Derived.Test.YtdjjbmefaggelaaGreatK1

/- Lists of free blocks in bytes: what Take comes to where the lists are right. No program in sight. -/
namespace Go.Proofs.YtdjjbmefaggelaaGreat

section
variable {bs : List UInt8} {P : List Bk} {L : Nat → List Nat}
theorem Lists.take (h : Lists bs P L) {x : Bk} (hx : x ∈ P) {c : Nat} (hc22 : c < 22) (ho : x.off ∈ L c) :
    ∃ bs', takeB bs (x.off : Int) = some bs' ∧ Lists bs' P (setL L c ((L c).filter fun q => decide (q ≠ x.off))) ∧ bs'.length = bs.length ∧ Kept P bs bs' := by
  have hf := h.st.facts hx
  have hlen := h.len
  have hsm := h.small
  obtain ⟨hxu, hxc⟩ : x.used = false ∧ classI (x.size : Int) = (c : Int) := by
    obtain ⟨y, hy, e, hu, hcl⟩ := h.mem c hc22 x.off ho
    have := h.st.uniq hy hx e
    subst this
    exact ⟨hu, hcl⟩
  have hfr : freeI bs (x.off : Int) = (c : Int) := by unfold freeI; rw [h.st.at_ x hx]; simp [hxu, hxc]
  obtain ⟨l1, l2, hL⟩ := List.append_of_mem ho
  have hnd := h.nodup c hc22
  have hlk := h.links c hc22
  rw [hL] at hnd hlk
  have hn1 : x.off ∉ l1 := fun e => by
    have := (List.nodup_append.1 hnd).2.2 x.off e x.off (by simp)
    exact this rfl
  have hn2 : x.off ∉ l2 := (List.nodup_cons.1 (List.nodup_append.1 hnd).2.1).1
  have hnd12 : (l1 ++ l2).Nodup := by
    refine List.nodup_append.2 ⟨(List.nodup_append.1 hnd).1, (List.nodup_cons.1 (List.nodup_append.1 hnd).2.1).2, fun a ha b hb => ?_⟩
    exact (List.nodup_append.1 hnd).2.2 a ha b (by simp [hb])
  have hfil : (L c).filter (fun q => decide (q ≠ x.off)) = l1 ++ l2 := by
    rw [hL, List.filter_append, List.filter_cons_of_neg (by simp)]
    congr 1
    · exact List.filter_eq_self.2 fun a ha => by simpa using fun e : a = x.off => hn1 (e ▸ ha)
    · exact List.filter_eq_self.2 fun a ha => by simpa using fun e : a = x.off => hn2 (e ▸ ha)
  rw [hfil]
  rw [link_append] at hlk
  obtain ⟨hk1, hk2, hk3, hk4⟩ := hlk
  obtain ⟨p, hp⟩ : ∃ p, l1.getLastD 0 = p := ⟨_, rfl⟩
  obtain ⟨n, hn⟩ : ∃ n, l2.headD 0 = n := ⟨_, rfl⟩
  rw [hp] at hk2
  rw [hn] at hk3
  -- what is ahead, and what is behind
  have inP : ∀ q, q ∈ L c → memberB bs q (c : Int) = true ∧ ∃ y ∈ P, y.off = q ∧ y.used = false := fun q hq => by
    obtain ⟨m, y, hy, e, hu, _⟩ := h.member hc22 hq
    exact ⟨m, y, hy, e, hu⟩
  have hpc : (l1 = [] ∧ p = 0) ∨ ∃ l, l1 = l ++ [p] ∧ p ∈ L c ∧ p ≠ x.off := by
    rcases List.eq_nil_or_concat l1 with e | ⟨l, q, e⟩
    · left; subst e; exact ⟨rfl, hp.symm⟩
    · right
      subst e
      have : q = p := by rw [← hp]; simp
      subst this
      exact ⟨l, by simp, by rw [hL]; simp, fun e => hn1 (by rw [← e]; simp)⟩
  have hnc : (l2 = [] ∧ n = 0) ∨ ∃ r, l2 = n :: r ∧ n ∈ L c ∧ n ≠ x.off := by
    cases l2 with
    | nil => left; exact ⟨rfl, hn.symm⟩
    | cons q r =>
      right
      obtain rfl : q = n := hn
      exact ⟨r, rfl, by rw [hL]; simp, fun e => hn2 (by rw [← e]; simp)⟩
  have hpn : p ≠ 0 → n ≠ 0 → p ≠ n := fun e1 e2 e => by
    rcases hpc with ⟨_, e0⟩ | ⟨l, el, _⟩
    · exact e1 e0
    · rcases hnc with ⟨_, e0⟩ | ⟨r, er, _⟩
      · exact e2 e0
      · have := (List.nodup_append.1 hnd12).2.2 p (by rw [el]; simp) n (by rw [er]; simp)
        exact this e
  have hplt : p < 18446744073709551616 := by rw [← hk2]; exact wordN_lt _ _
  have hnlt : n < 18446744073709551616 := by rw [← hk3]; exact wordN_lt _ _
  have hfirst : ¬ (p ≠ 0 ∧ (wordN bs (8 + 8 * c) : Int) = (x.off : Int)) := by
    rintro ⟨e1, e2⟩
    rcases hpc with ⟨_, e0⟩ | ⟨l, el, _⟩
    · exact e1 e0
    · have hh := h.head c hc22
      rw [hL, el] at hh
      refine hn1 ?_
      rw [el]
      cases l with
      | nil =>
        have hh : wordN bs (8 + 8 * c) = p := hh
        rw [show x.off = p by omega]
        simp
      | cons q r =>
        have hh : wordN bs (8 + 8 * c) = q := hh
        rw [show x.off = q by omega]
        simp
  have hput : takeB bs (x.off : Int) = some (markB (if n ≠ 0 then lyN (if p = 0 then lyN bs (8 + 8 * c) n else lyN bs (p + 8) n) (n + 16) p else (if p = 0 then lyN bs (8 + 8 * c) n else lyN bs (p + 8) n)) c) := by
    unfold takeB
    rw [hfr, if_neg (by omega)]
    simp only [Int.toNat_natCast, hk2, hk3]
    rw [if_neg, if_neg, if_neg, if_neg hfirst]
    · rintro ⟨e1, e2⟩
      rcases hnc with ⟨_, e0⟩ | ⟨r, er, hm, _⟩
      · exact e1 e0
      · rcases e2 with e2 | e2
        · rw [(inP n hm).1] at e2; cases e2
        · rw [er] at hk4
          exact e2 (by rw [hk4.1])
    · rintro ⟨e1, e2⟩
      rcases hpc with ⟨_, e0⟩ | ⟨l, el, hm, _⟩
      · exact e1 e0
      · rcases e2 with e2 | e2
        · rw [(inP p hm).1] at e2; cases e2
        · rw [el, link_append] at hk1
          exact e2 (by rw [hk1.2.2.1]; rfl)
    · rintro ⟨e1, e2⟩
      rcases hpc with ⟨e0, _⟩ | ⟨l, el, hm, _⟩
      · have := h.head c hc22
        rw [hL, e0] at this
        exact e2 (by rw [this]; rfl)
      · obtain ⟨_, y, hy, e, _⟩ := inP p hm
        have := h.st.facts hy
        omega
  obtain ⟨b1, hb1⟩ : ∃ b1, (if p = 0 then lyN bs (8 + 8 * c) n else lyN bs (p + 8) n) = b1 := ⟨_, rfl⟩
  have f1 : b1.length = bs.length ∧ Stands b1 P ∧ (∀ q, q % 8 = 0 → wordN b1 q = if q = (if p = 0 then 8 + 8 * c else p + 8) then n else wordN bs q) ∧ Kept P bs b1 := by
    rcases hpc with ⟨_, e0⟩ | ⟨l, el, hm, _⟩
    · rw [if_pos e0] at hb1
      subst hb1
      refine ⟨lyN_length _ _ _ (by omega), h.st.lay _ _ (.inl (by omega)) hlen, fun q hq => ?_, Kept.ly P _ _ _ (by omega) (.inl (by omega))⟩
      rw [wordN_ly _ _ _ _ (by omega) hnlt hq (by omega), if_pos e0]
    · obtain ⟨_, y, hy, e, hu⟩ := inP p hm
      have hy' := h.st.facts hy
      have e0 : p ≠ 0 := by omega
      rw [if_neg e0] at hb1
      subst hb1
      refine ⟨lyN_length _ _ _ (by omega), h.st.lay _ _ (.inr ⟨y, hy, by omega, by omega⟩) hlen, fun q hq => ?_, Kept.ly P _ _ _ (by omega) (.inr ⟨y, hy, hu, .inl (by omega)⟩)⟩
      rw [wordN_ly _ _ _ _ (by omega) hnlt hq (by omega), if_neg e0]
  obtain ⟨g1, st1, w1, k1⟩ := f1
  rw [hb1] at hput
  obtain ⟨b2, hb2⟩ : ∃ b2, (if n ≠ 0 then lyN b1 (n + 16) p else b1) = b2 := ⟨_, rfl⟩
  have f2 : b2.length = bs.length ∧ Stands b2 P ∧ (∀ q, q % 8 = 0 → wordN b2 q = if n ≠ 0 ∧ q = n + 16 then p else wordN b1 q) ∧ Kept P b1 b2 := by
    rcases hnc with ⟨_, e0⟩ | ⟨r, er, hm, _⟩
    · rw [if_neg (by omega)] at hb2
      subst hb2
      exact ⟨g1, st1, fun q _ => by rw [if_neg (by omega)], Kept.refl _ _⟩
    · obtain ⟨_, y, hy, e, hu⟩ := inP n hm
      have hy' := h.st.facts hy
      have e0 : n ≠ 0 := by omega
      rw [if_pos e0] at hb2
      subst hb2
      refine ⟨by rw [lyN_length _ _ _ (by omega)]; exact g1, st1.lay _ _ (.inr ⟨y, hy, by omega, by omega⟩) (by omega), fun q hq => ?_, Kept.ly P _ _ _ (by omega) (.inr ⟨y, hy, hu, .inr (by omega)⟩)⟩
      rw [wordN_ly _ _ _ _ (by omega) hplt hq (by omega)]
      by_cases e2 : q = n + 16
      · rw [if_pos e2, if_pos ⟨e0, e2⟩]
      · rw [if_neg e2, if_neg (fun h => e2 h.2)]
  obtain ⟨g2, st2, w2, k2⟩ := f2
  rw [hb2] at hput
  obtain ⟨m1, m2, m3, m4, m5⟩ := markB_spec b2 c hc22 (by omega)
  have n184 : n = 0 ∨ (184 ≤ n ∧ n % 16 = 8) := by
    rcases hnc with ⟨_, e0⟩ | ⟨r, er, hm, _⟩
    · exact .inl e0
    · obtain ⟨_, y, hy, e, _⟩ := inP n hm
      have := h.st.facts hy; omega
  have p184 : p = 0 ∨ (184 ≤ p ∧ p % 16 = 8) := by
    rcases hpc with ⟨_, e0⟩ | ⟨r, er, hm, _⟩
    · exact .inl e0
    · obtain ⟨_, y, hy, e, _⟩ := inP p hm
      have := h.st.facts hy; omega
  have hhead : wordN b2 (8 + 8 * c) = (l1 ++ l2).headD 0 := by
    rw [w2 _ (by omega), if_neg (by omega), w1 _ (by omega)]
    have hh := h.head c hc22
    rw [hL] at hh
    rcases hpc with ⟨el, e0⟩ | ⟨l, el, _⟩
    · rw [if_pos e0, if_pos rfl, el, ← hn]; rfl
    · have e0 : p ≠ 0 := by
        rcases p184 with e | e
        · obtain ⟨_, y, hy, e2, _⟩ := inP p (by rw [hL, el]; simp)
          have := h.st.facts hy; omega
        · omega
      rw [if_neg e0, if_neg (by omega), hh, el]
      cases l <;> rfl
  have hw : ∀ o, (∃ y ∈ P, y.off = o) → ∀ k, k = 8 ∨ k = 16 → wordN (markB b2 c) (o + k) = if p ≠ 0 ∧ o = p ∧ k = 8 then n else if n ≠ 0 ∧ o = n ∧ k = 16 then p else wordN bs (o + k) := by
    rintro o ⟨y, hy, rfl⟩ k hk
    have hy' := h.st.facts hy
    rw [m2 _ (by omega) (by omega), w2 _ (by omega), w1 _ (by omega)]
    by_cases e1 : p ≠ 0 ∧ y.off = p ∧ k = 8
    · rw [if_pos e1, if_neg (by omega), if_pos (by rw [if_neg e1.1]; omega)]
    · rw [if_neg e1]
      by_cases e2 : n ≠ 0 ∧ y.off = n ∧ k = 16
      · rw [if_pos e2, if_pos (by omega)]
      · rw [if_neg e2, if_neg (by omega), if_neg]
        by_cases e0 : p = 0
        · rw [if_pos e0]; omega
        · rw [if_neg e0]; omega
  refine ⟨_, hput, ⟨by omega, by omega, m4 P st2, fun d hd => ?_, fun d hd => ?_, fun d hd o ho => ?_, fun d hd => ?_, fun d hd => ?_⟩, by omega, (k1.trans k2).trans fun i h1 _ => m5 i (by omega)⟩
  · rw [m2 _ (by omega) (by omega)]
    unfold setL
    by_cases hdc : d = c
    · subst hdc; rw [if_pos rfl]; exact hhead
    · rw [if_neg hdc, ← h.head d hd, w2 _ (by omega), if_neg (by omega), w1 _ (by omega), if_neg]
      by_cases e0 : p = 0
      · rw [if_pos e0]; omega
      · rw [if_neg e0]; omega
  · rw [m3 d]
    unfold setL
    by_cases hdc : d = c
    · rw [if_pos hdc, if_pos hdc, hhead]
      cases hl : l1 ++ l2 with
      | nil => rfl
      | cons q r =>
        have hq : q ∈ L c := by
          rw [hL]
          have : q ∈ l1 ++ l2 := by rw [hl]; simp
          rcases List.mem_append.1 this with h1 | h1
          · exact List.mem_append_left _ h1
          · exact List.mem_append_right _ (List.mem_cons_of_mem _ h1)
        obtain ⟨_, y, hy, e, _⟩ := inP q hq
        have := h.st.facts hy
        have h0 : q ≠ 0 := by omega
        simp [h0]
    · rw [if_neg hdc, if_neg hdc, ← h.bit d hd, w2 _ rfl, if_neg (by omega), w1 _ rfl, if_neg]
      by_cases e0 : p = 0
      · rw [if_pos e0]; omega
      · rw [if_neg e0]; omega
  · unfold setL at ho
    by_cases hdc : d = c
    · subst hdc
      rw [if_pos rfl] at ho
      refine h.mem d hd o ?_
      rw [hL]
      rcases List.mem_append.1 ho with h1 | h1
      · exact List.mem_append_left _ h1
      · exact List.mem_append_right _ (List.mem_cons_of_mem _ h1)
    · rw [if_neg hdc] at ho
      exact h.mem d hd o ho
  · unfold setL
    by_cases hdc : d = c
    · subst hdc
      rw [if_pos rfl, link_append, hp, hn]
      have inl1 : ∀ q ∈ l1, ∃ y ∈ P, y.off = q := fun q hq => by
        obtain ⟨_, y, hy, e, _⟩ := inP q (by rw [hL]; simp [hq])
        exact ⟨y, hy, e⟩
      have inl2 : ∀ q ∈ l2, ∃ y ∈ P, y.off = q := fun q hq => by
        obtain ⟨_, y, hy, e, _⟩ := inP q (by rw [hL]; simp [hq])
        exact ⟨y, hy, e⟩
      have ne12 : ∀ q ∈ l1, n ≠ 0 → q ≠ n := fun q hq e0 e => by
        rcases hnc with ⟨_, e1⟩ | ⟨r, er, _⟩
        · exact e0 e1
        · exact (List.nodup_append.1 hnd12).2.2 q hq n (by rw [er]; simp) e
      have ne21 : ∀ q ∈ l2, p ≠ 0 → q ≠ p := fun q hq e0 e => by
        rcases hpc with ⟨_, e1⟩ | ⟨l, el, _⟩
        · exact e0 e1
        · exact (List.nodup_append.1 hnd12).2.2 p (by rw [el]; simp) q hq e.symm
      refine ⟨?_, ?_⟩
      · rcases hpc with ⟨el, e0⟩ | ⟨l, el, _⟩
        · rw [el]; trivial
        · have e0 : p ≠ 0 := by
            obtain ⟨y, hy, e2⟩ := inl1 p (by rw [el]; simp)
            have := h.st.facts hy; omega
          rw [el, link_append] at hk1 ⊢
          obtain ⟨hq1, hq2, hq3, _⟩ := hk1
          have hpl : p ∉ l := fun e => by
            have := (List.nodup_append.1 hnd12).1
            rw [el] at this
            exact (List.nodup_append.1 this).2.2 p e p (by simp) rfl
          refine ⟨link_congr l _ _ (fun q hq => ?_) hq1, ?_, ?_, trivial⟩
          · have hqi := inl1 q (by rw [el]; simp [hq])
            have hqp : q ≠ p := fun e => hpl (e ▸ hq)
            have hqn := ne12 q (by rw [el]; simp [hq])
            rw [hw q hqi 16 (.inr rfl), hw q hqi 8 (.inl rfl), if_neg (by omega), if_neg (fun e => hqn e.1 e.2.1), if_neg (fun e => hqp e.2.1), if_neg (by omega)]
            exact ⟨rfl, rfl⟩
          · rw [hw p (inl1 p (by rw [el]; simp)) 16 (.inr rfl), if_neg (by omega), if_neg (fun e => hpn e0 e.1 e.2.1)]
            exact hq2
          · rw [hw p (inl1 p (by rw [el]; simp)) 8 (.inl rfl), if_pos ⟨e0, rfl, rfl⟩]
            rfl
      · rcases hnc with ⟨er, e0⟩ | ⟨r, er, _⟩
        · rw [er]; trivial
        · have e0 : n ≠ 0 := by
            obtain ⟨y, hy, e2⟩ := inl2 n (by rw [er]; simp)
            have := h.st.facts hy; omega
          rw [er] at hk4 ⊢
          obtain ⟨hq1, hq2, hq3⟩ := hk4
          have hnr : n ∉ r := fun e => by
            have := (List.nodup_append.1 hnd12).2.1
            rw [er] at this
            exact (List.nodup_cons.1 this).1 e
          refine ⟨?_, ?_, link_congr r _ _ (fun q hq => ?_) hq3⟩
          · rw [hw n (inl2 n (by rw [er]; simp)) 16 (.inr rfl), if_neg (by omega), if_pos ⟨e0, rfl, rfl⟩]
          · rw [hw n (inl2 n (by rw [er]; simp)) 8 (.inl rfl), if_neg (fun e => ne21 n (by rw [er]; simp) e.1 e.2.1), if_neg (by omega)]
            exact hq2
          · have hqi := inl2 q (by rw [er]; simp [hq])
            have hqn : q ≠ n := fun e => hnr (e ▸ hq)
            have hqp := ne21 q (by rw [er]; simp [hq])
            rw [hw q hqi 16 (.inr rfl), hw q hqi 8 (.inl rfl), if_neg (by omega), if_neg (fun e => hqn e.2.1), if_neg (fun e => hqp e.1 e.2.1), if_neg (by omega)]
            exact ⟨rfl, rfl⟩
    · rw [if_neg hdc]
      refine link_congr (L d) _ _ (fun q hq => ?_) (h.links d hd)
      obtain ⟨y, hy, e, _, hcl⟩ := h.mem d hd q hq
      have other : ∀ z, z ∈ L c → q ≠ z := fun z hz e2 => by
        obtain ⟨z2, hz2, e3, _, hcl2⟩ := h.mem c hc22 z hz
        have := h.st.uniq hy hz2 (by omega)
        subst this
        rw [hcl] at hcl2; omega
      have hqp : ¬ (p ≠ 0 ∧ q = p) := by
        rintro ⟨e1, e2⟩
        rcases hpc with ⟨_, e0⟩ | ⟨l, el, hm, _⟩
        · exact e1 e0
        · exact other p hm e2
      have hqn : ¬ (n ≠ 0 ∧ q = n) := by
        rintro ⟨e1, e2⟩
        rcases hnc with ⟨_, e0⟩ | ⟨l, el, hm, _⟩
        · exact e1 e0
        · exact other n hm e2
      rw [hw q ⟨y, hy, e⟩ 16 (.inr rfl), hw q ⟨y, hy, e⟩ 8 (.inl rfl), if_neg (fun e => hqp ⟨e.1, e.2.1⟩), if_neg (fun e => hqn ⟨e.1, e.2.1⟩), if_neg (fun e => hqp ⟨e.1, e.2.1⟩), if_neg (fun e => hqn ⟨e.1, e.2.1⟩)]
      exact ⟨rfl, rfl⟩
  · unfold setL
    by_cases hdc : d = c
    · rw [if_pos hdc]; exact hnd12
    · rw [if_neg hdc]; exact h.nodup d hd
end
end Go.Proofs.YtdjjbmefaggelaaGreat

/- Blocks one behind the other: what comes of setting them all, of walking, of looking ahead. Plain facts, no program in sight. -/
namespace Go.Proofs.YtdjjbmefaggelaaGreat

def tagN (x : Bk) : Nat := packN (x.size : Int) x.used
/-- Both tags of a block laid. -/
def setT (bs : List UInt8) (x : Bk) : List UInt8 := lyN (lyN bs x.off (tagN x)) (x.off + x.size - 8) (tagN x)
/-- One behind the other, from o to e. -/
def tile : Nat → List Bk → Nat → Prop
  | o, [], e => o = e
  | o, x :: r, e => x.off = o ∧ isSz (x.size : Int) = true ∧ tile (o + x.size) r e

theorem tile_mem : ∀ (l : List Bk) (o e : Nat), tile o l e → o ≤ e ∧ ∀ x ∈ l, o ≤ x.off ∧ x.off + x.size ≤ e ∧ isSz (x.size : Int) = true ∧ x.off % 16 = o % 16
  | [], o, e, h => ⟨Nat.le_of_eq h, fun x hx => by cases hx⟩
  | y :: r, o, e, ⟨h1, h2, h3⟩ => by
    obtain ⟨q, h⟩ := tile_mem r _ e h3
    have hs := (isSz_iff _).1 h2
    refine ⟨by omega, fun x hx => ?_⟩
    rcases List.mem_cons.1 hx with rfl | hx
    · exact ⟨by omega, by omega, h2, by omega⟩
    · obtain ⟨a, b, c, d⟩ := h x hx
      exact ⟨by omega, b, c, by omega⟩
theorem tile_snoc : ∀ (l : List Bk) (o e : Nat) (x : Bk), tile o l e → x.off = e → isSz (x.size : Int) = true → tile o (l ++ [x]) (e + x.size)
  | [], o, e, x, h, h1, h2 => ⟨by rw [h1]; exact h.symm, h2, by have : o = e := h; rw [this]; rfl⟩
  | y :: r, o, e, x, ⟨a, b, c⟩, h1, h2 => ⟨a, b, tile_snoc r _ e x c h1 h2⟩
/-- Two of them are the same, or apart. -/
theorem tile_apart : ∀ (l : List Bk) (o e : Nat), tile o l e → ∀ x ∈ l, ∀ y ∈ l, x = y ∨ x.off + x.size ≤ y.off ∨ y.off + y.size ≤ x.off
  | [], _, _, _, x, hx, _, _ => by cases hx
  | z :: r, o, e, ⟨h1, h2, h3⟩, x, hx, y, hy => by
    have hm := (tile_mem r _ e h3).2
    rcases List.mem_cons.1 hx with rfl | hx'
    · rcases List.mem_cons.1 hy with rfl | hy'
      · exact .inl rfl
      · have := hm y hy'; exact .inr (.inl (by omega))
    · rcases List.mem_cons.1 hy with rfl | hy'
      · have := hm x hx'; exact .inr (.inr (by omega))
      · exact tile_apart r _ e h3 x hx' y hy' 

section
variable {bs : List UInt8} {x y : Bk}
theorem setT_length (hs : isSz (x.size : Int) = true) (h : x.off + x.size ≤ bs.length) : (setT bs x).length = bs.length := by
  have hs := (isSz_iff _).1 hs
  have e := lyN_length bs x.off (tagN x) (by omega)
  unfold setT
  rw [lyN_length _ _ _ (by omega), e]
theorem setT_same (hs : isSz (x.size : Int) = true) (h : x.off + x.size ≤ bs.length) (p : Nat) (hp : p + 8 ≤ x.off ∨ x.off + x.size ≤ p ∨ (x.off + 8 ≤ p ∧ p + 8 ≤ x.off + x.size - 8)) : wordN (setT bs x) p = wordN bs p := by
  have hs := (isSz_iff _).1 hs
  have e := lyN_length bs x.off (tagN x) (by omega)
  unfold setT
  rw [wordN_other _ _ _ _ (by omega) (by omega), wordN_other _ _ _ _ (by omega) (by omega)]
theorem setT_at (h1 : 184 ≤ x.off) (h2 : x.off % 16 = 8) (h3 : x.off + x.size ≤ bs.length) (hs : isSz (x.size : Int) = true) : getB (setT bs x) (x.off : Int) = some x := by
  have q := (isSz_iff _).1 hs
  have e := lyN_length bs x.off (tagN x) (by omega)
  have ht : tagN x < 18446744073709551616 := by have := packN_lt (x.size : Int) x.used; unfold tagN; omega
  have w1 : wordN (setT bs x) x.off = tagN x := by
    unfold setT
    rw [wordN_other _ _ _ _ (by omega) (by omega), wordN_same _ _ _ (by omega) ht]
  have w2 : wordN (setT bs x) (x.off + x.size - 8) = tagN x := by
    unfold setT
    rw [wordN_same _ _ _ (by omega) ht]
  refine getB_of h1 h2 (by rw [setT_length hs h3]; exact h3) ?_ (by rw [w1, w2])
  rw [w1]
  unfold tagN
  rw [unpN_packN hs]
  rfl
theorem setT_keep (hs : isSz (x.size : Int) = true) (h : x.off + x.size ≤ bs.length) (hy : getB bs (y.off : Int) = some y) (hd : y.off + y.size ≤ x.off ∨ x.off + x.size ≤ y.off) : getB (setT bs x) (y.off : Int) = some y := by
  obtain ⟨_, _, _, g3, g4, _⟩ := getB_some hy
  have q := (isSz_iff _).1 g4
  exact getB_congr bs _ y (setT_length hs h) hy (setT_same hs h _ (by omega)) (setT_same hs h _ (by omega))
end

/-- Blocks that stand one behind the other are walked. -/
theorem walkF_tile (bs : List UInt8) : ∀ (l : List Bk) (o k : Nat), tile o l bs.length → (∀ x ∈ l, getB bs (x.off : Int) = some x) → bs.length < o + k → walkF bs k o = some l
  | [], o, k, h, _, hk => by
    have h : o = bs.length := h
    obtain ⟨k, rfl⟩ : ∃ k', k = k' + 1 := ⟨k - 1, by omega⟩
    unfold walkF
    rw [if_neg (by omega)]
  | x :: r, o, k, ⟨h1, h2, h3⟩, hg, hk => by
    have q := (isSz_iff _).1 h2
    have hoe := (tile_mem r _ _ h3).1
    obtain ⟨k, rfl⟩ : ∃ k', k = k' + 1 := ⟨k - 1, by omega⟩
    unfold walkF
    rw [if_pos (by omega), ← h1, hg x (by simp)]
    dsimp only
    rw [h1, walkF_tile bs r (o + x.size) k h3 (fun y hy => hg y (by simp [hy])) (by omega)]
    rfl
theorem walkB_tile {bs : List UInt8} {l : List Bk} (h : tile 184 l bs.length) (hg : ∀ x ∈ l, getB bs (x.off : Int) = some x) : walkB bs = some l := by
  have := (tile_mem l _ _ h).1
  unfold walkB
  rw [if_neg (by omega)]
  exact walkF_tile bs l 184 _ h hg (by omega)
/-- And the other way round: what was walked is one behind the other. -/
theorem walkF_tiles (bs : List UInt8) : ∀ (k o : Nat) (l : List Bk), o ≤ bs.length → walkF bs k o = some l → tile o l bs.length ∧ ∀ x ∈ l, getB bs (x.off : Int) = some x
  | 0, _, _, _, h => by cases h
  | k + 1, o, l, ho, h => by
    unfold walkF at h
    by_cases hlt : o < bs.length
    · rw [if_pos hlt] at h
      cases hg : getB bs (o : Int) with
      | none => rw [hg] at h; cases h
      | some y =>
        rw [hg] at h
        dsimp only at h
        obtain ⟨g0, _, _, g3, g4, _⟩ := getB_some hg
        have g0 : y.off = o := by omega
        cases hr : walkF bs k (o + y.size) with
        | none => rw [hr] at h; cases h
        | some r =>
          rw [hr] at h
          injection h with h
          subst h
          obtain ⟨i1, i2⟩ := walkF_tiles bs k _ r (by omega) hr
          refine ⟨⟨g0, g4, i1⟩, fun x hx => ?_⟩
          rcases List.mem_cons.1 hx with rfl | hx
          · rw [g0]; exact hg
          · exact i2 x hx
    · rw [if_neg hlt] at h
      injection h with h
      subst h
      exact ⟨by show o = bs.length; omega, fun x hx => by cases hx⟩
theorem walkB_tiles {bs : List UInt8} {l : List Bk} (h : walkB bs = some l) : 184 ≤ bs.length ∧ tile 184 l bs.length ∧ ∀ x ∈ l, getB bs (x.off : Int) = some x := by
  unfold walkB at h
  split at h
  · cases h
  · exact ⟨by omega, walkF_tiles bs _ _ l (by omega) h⟩
/-- The block that ends there is told from behind. -/
theorem aheadB_of {bs : List UInt8} {x : Bk} (h : getB bs (x.off : Int) = some x) : aheadB bs ((x.off : Int) + (x.size : Int)) = some x := by
  obtain ⟨_, g1, _, g3, g4, g5, g6⟩ := getB_some h
  have q := (isSz_iff _).1 g4
  unfold aheadB
  rw [if_neg (by omega)]
  have e1 : ((x.off : Int) + (x.size : Int)).toNat - 8 = x.off + x.size - 8 := by omega
  have e2 : (x.off : Int) + (x.size : Int) - (x.size : Int) = (x.off : Int) := by omega
  rw [e1, g6, g5]
  dsimp only
  rw [e2, h]
  dsimp only
  rw [if_pos ⟨rfl, rfl⟩]
/-- Blocks in an arena whose head is 0: all lists are empty. -/
theorem lists_none {bs : List UInt8} {P : List Bk} (hl : 184 ≤ bs.length) (hm : bs.length ≤ 16384) (hst : Stands bs P) (hz : ∀ p, p + 8 ≤ 184 → p % 8 = 0 → wordN bs p = 0) : Lists bs P (fun _ => []) where
  len := hl
  small := hm
  st := hst
  head := fun c hc => by rw [hz _ (by omega) (by omega)]; rfl
  bit := fun c hc => by
    rw [hz 0 (by omega) rfl]
    have : ∀ c, bitN 0 c = false := fun c => by unfold bitN; simp
    rw [this]; rfl
  mem := fun c _ o ho => by cases ho
  links := fun c _ => trivial
  nodup := fun c _ => List.nodup_nil
end Go.Proofs.YtdjjbmefaggelaaGreat

/- The lists made anew, and what is found then. Plain facts, no program in sight. -/
namespace Go.Proofs.YtdjjbmefaggelaaGreat

/-- How many bytes the block at o has. -/
def szB (bs : List UInt8) (o : Nat) : Nat := match getB bs (o : Int) with
  | some x => x.size
  | none => 0
theorem szB_of {bs : List UInt8} {o : Nat} {x : Bk} (h : getB bs (o : Int) = some x) : szB bs o = x.size := by
  unfold szB; rw [h]
/-- The first block from class c on that has so many bytes. -/
def findF (bs : List UInt8) (s : Int) : Nat → Nat → Option Nat
  | 0, _ => some 0
  | k + 1, c => match allB bs c with
    | none => none
    | some l => match l.find? (fun o => decide (s ≤ (szB bs o : Int))) with
      | some o => some o
      | none => findF bs s k (c + 1)
def findB (bs : List UInt8) (s : Int) : Option Nat := findF bs s (22 - (classI s).toNat) (classI s).toNat
/-- A class's free blocks, the last one first. -/
def freeL (l : List Bk) (c : Nat) : List Nat := (l.reverse.filter fun x => !x.used && classI (x.size : Int) == (c : Int)).map Bk.off
theorem freeL_snoc (l : List Bk) (x : Bk) (c : Nat) : freeL (l ++ [x]) c = if x.used = false ∧ classI (x.size : Int) = (c : Int) then x.off :: freeL l c else freeL l c := by
  unfold freeL
  rw [List.reverse_append, List.reverse_singleton, List.singleton_append, List.filter_cons]
  by_cases h : x.used = false ∧ classI (x.size : Int) = (c : Int)
  · rw [if_pos h, if_pos (by simp [h.1, h.2]), List.map_cons]
  · rw [if_neg h, if_neg (by intro h'; apply h; simpa using h')]
theorem freeL_mem {l : List Bk} {c o : Nat} (h : o ∈ freeL l c) : ∃ x ∈ l, x.off = o ∧ x.used = false ∧ classI (x.size : Int) = (c : Int) := by
  unfold freeL at h
  obtain ⟨x, hx, e⟩ := List.mem_map.1 h
  obtain ⟨h1, h2⟩ := List.mem_filter.1 hx
  have h2' : x.used = false ∧ classI (x.size : Int) = (c : Int) := by simpa using h2
  exact ⟨x, List.mem_reverse.1 h1, e, h2'.1, h2'.2⟩
theorem mem_freeL {l : List Bk} {c : Nat} {x : Bk} (h : x ∈ l) (hu : x.used = false) (hc : classI (x.size : Int) = (c : Int)) : x.off ∈ freeL l c := by
  unfold freeL
  exact List.mem_map.2 ⟨x, List.mem_filter.2 ⟨List.mem_reverse.2 h, by simp [hu, hc]⟩, rfl⟩

theorem tile_ne : ∀ (l : List Bk) (o e : Nat), tile o l e → l.Pairwise (fun x y => x.off ≠ y.off)
  | [], _, _, _ => List.Pairwise.nil
  | x :: r, o, e, ⟨h1, h2, h3⟩ => by
    have q := (isSz_iff _).1 h2
    refine List.Pairwise.cons (fun y hy => ?_) (tile_ne r _ e h3)
    have := (tile_mem r _ e h3).2 y hy
    omega
theorem numB_zeros (n : Nat) : numB (List.replicate n 0) = 0 := by
  induction n with
  | zero => rfl
  | succ n ih => rw [List.replicate_succ]; simp [numB, ih]
theorem wordN_zeros (bs : List UInt8) (n p : Nat) (h : p + 8 ≤ n) : wordN (List.replicate n 0 ++ bs) p = 0 := by
  unfold wordN
  rw [List.drop_append_of_le_length (by simp; omega), List.take_append_of_le_length (by simp; omega), List.drop_replicate, List.take_replicate, numB_zeros]
/-- Greater sizes have no lesser class. -/
theorem classI_mono {a b : Int} (ha : isSz a = true) (hb : isSz b = true) (h : a ≤ b) : classI a ≤ classI b := by
  have key : ∀ s : Int, isSz s = true → (s ≤ 256 ∧ classI s = s / 16 - 2) ∨ (256 < s ∧ s < 512 ∧ classI s = 15) ∨ (512 ≤ s ∧ s < 1024 ∧ classI s = 16) ∨ (1024 ≤ s ∧ s < 2048 ∧ classI s = 17) ∨ (2048 ≤ s ∧ s < 4096 ∧ classI s = 18) ∨ (4096 ≤ s ∧ s < 8192 ∧ classI s = 19) ∨ (8192 ≤ s ∧ s < 16384 ∧ classI s = 20) ∨ (16384 ≤ s ∧ classI s = 21) := fun s hs => by
    unfold classI
    rw [if_neg (by rw [hs]; simp)]
    split
    · exact .inl ⟨by assumption, rfl⟩
    · split
      · exact .inr (.inl ⟨by omega, by assumption, rfl⟩)
      · split
        · exact .inr (.inr (.inl ⟨by omega, by assumption, rfl⟩))
        · split
          · exact .inr (.inr (.inr (.inl ⟨by omega, by assumption, rfl⟩)))
          · split
            · exact .inr (.inr (.inr (.inr (.inl ⟨by omega, by assumption, rfl⟩))))
            · split
              · exact .inr (.inr (.inr (.inr (.inr (.inl ⟨by omega, by assumption, rfl⟩)))))
              · split
                · exact .inr (.inr (.inr (.inr (.inr (.inr (.inl ⟨by omega, by assumption, rfl⟩))))))
                · exact .inr (.inr (.inr (.inr (.inr (.inr (.inr ⟨by omega, rfl⟩))))))
  rcases key a ha with h1 | h1 | h1 | h1 | h1 | h1 | h1 | h1 <;> rcases key b hb with h2 | h2 | h2 | h2 | h2 | h2 | h2 | h2 <;> omega
end Go.Proofs.YtdjjbmefaggelaaGreat

/- What Check asks, and that blocks whose lists are made anew are right. Plain facts, no program in sight. -/
namespace Go.Proofs.YtdjjbmefaggelaaGreat

theorem allF_len (bs : List UInt8) (c : Nat) : ∀ (k last p : Nat) (l : List Nat), allF bs c k last p = some l → l.length ≤ k
  | 0, last, p, l, h => by
    unfold allF at h
    split at h
    · injection h with h; subst h; exact Nat.le_refl _
    · cases h
  | k + 1, last, p, l, h => by
    unfold allF at h
    by_cases hp : p = 0
    · rw [if_pos hp] at h; injection h with h; subst h; exact Nat.zero_le _
    · rw [if_neg hp] at h
      dsimp only at h
      by_cases hm : memberB bs p (c : Int) = true ∧ wordN bs (p + 16) = last
      · rw [if_pos hm] at h
        cases hr : allF bs c k p (wordN bs (p + 8)) with
        | none => rw [hr] at h; cases h
        | some l' =>
          rw [hr] at h
          injection h with h
          subst h
          have := allF_len bs c k p _ l' hr
          rw [List.length_cons]; omega
      · rw [if_neg hm] at h; cases h
theorem allB_len {bs : List UInt8} {c : Nat} {l : List Nat} (h : allB bs c = some l) : l.length ≤ 1024 := by
  unfold allB at h
  split at h
  · cases h
  · split at h
    · cases h
    · exact allF_len bs c _ _ _ l h
theorem walkF_len (bs : List UInt8) : ∀ (k o : Nat) (l : List Bk), walkF bs k o = some l → l.length ≤ k
  | 0, _, _, h => by cases h
  | k + 1, o, l, h => by
    unfold walkF at h
    by_cases hlt : o < bs.length
    · rw [if_pos hlt] at h
      cases hg : getB bs (o : Int) with
      | none => rw [hg] at h; cases h
      | some y =>
        rw [hg] at h
        dsimp only at h
        cases hr : walkF bs k (o + y.size) with
        | none => rw [hr] at h; cases h
        | some r =>
          rw [hr] at h
          injection h with h
          subst h
          have := walkF_len bs k _ r hr
          rw [List.length_cons]; omega
    · rw [if_neg hlt] at h
      injection h with h
      subst h
      exact Nat.zero_le _
theorem walkB_len {bs : List UInt8} {l : List Bk} (h : walkB bs = some l) : l.length ≤ bs.length + 1 := by
  unfold walkB at h
  split at h
  · cases h
  · exact walkF_len bs _ _ l h

def cntFree (l : List Bk) : Nat := l.countP fun x => !x.used
def usedAt (l : List Bk) (i : Nat) : Bool := match l[i]? with
  | some x => x.used
  | none => true
def pairOk (l : List Bk) (i : Nat) : Bool := i == 0 || (usedAt l i || usedAt l (i - 1))
def noAdj (l : List Bk) : Bool := (List.range l.length).all (pairOk l)
def foundB (l : List Bk) (o : Nat) : Bool := l.any fun x => x.off == o && !x.used
def okO (l : List Bk) (all : List Nat) (o : Nat) : Bool := foundB l o && all.count o == 1
def chkC (bs : List UInt8) (l : List Bk) : Nat → Nat → Int → Bool
  | 0, _, fr => fr == 0
  | k + 1, c, fr => match allB bs c with
    | none => false
    | some all => all.all (okO l all) && chkC bs l k (c + 1) (fr - all.length)
def checkB (bs : List UInt8) : Bool := match walkB bs with
  | none => false
  | some l => decide (numO bs 0 < 4194304) && (noAdj l && chkC bs l 22 0 (cntFree l))


/-- How many numbers the lists from class c on have. -/
def sumF (l : List Bk) : Nat → Nat → Nat
  | 0, _ => 0
  | k + 1, c => (freeL l c).length + sumF l k (c + 1)
theorem sumF_nil : ∀ k c, sumF [] k c = 0
  | 0, _ => rfl
  | k + 1, c => by
    unfold sumF
    rw [sumF_nil k (c + 1)]; rfl
theorem sumF_snoc (l : List Bk) (x : Bk) : ∀ k c : Nat, sumF (l ++ [x]) k c = sumF l k c + if x.used = false ∧ (c : Int) ≤ classI (x.size : Int) ∧ classI (x.size : Int) < (c : Int) + (k : Int) then 1 else 0
  | 0, c => by
    unfold sumF
    rw [if_neg (by omega)]
  | k + 1, c => by
    unfold sumF
    rw [sumF_snoc l x k (c + 1), freeL_snoc]
    by_cases h : x.used = false ∧ classI (x.size : Int) = (c : Int)
    · rw [if_pos h, if_neg (by have := h.2; omega), if_pos ⟨h.1, by have := h.2; omega, by have := h.2; omega⟩, List.length_cons]
      omega
    · rw [if_neg h]
      by_cases h2 : x.used = false ∧ ((c : Int) ≤ classI (x.size : Int) ∧ classI (x.size : Int) < (c : Int) + ((k + 1 : Nat) : Int))
      · have : ¬ classI (x.size : Int) = (c : Int) := fun e => h ⟨h2.1, e⟩
        rw [if_pos h2, if_pos ⟨h2.1, by have := h2.2; omega, by have := h2.2; omega⟩]
        omega
      · rw [if_neg h2, if_neg (fun h3 => h2 ⟨h3.1, by have := h3.2; omega, by have := h3.2; omega⟩)]
        omega
/-- All classes have just the free ones. -/
theorem sumF_all (l : List Bk) (h : ∀ x ∈ l, isSz (x.size : Int) = true) : sumF l 22 0 = cntFree l := by
  have key : ∀ (r d : List Bk), (∀ x ∈ r, isSz (x.size : Int) = true) → sumF d 22 0 = cntFree d → sumF (d ++ r) 22 0 = cntFree (d ++ r) := by
    intro r
    induction r with
    | nil => intro d _ hd; rw [List.append_nil]; exact hd
    | cons x r ih =>
      intro d hr hd
      have e : d ++ x :: r = (d ++ [x]) ++ r := by simp
      rw [e]
      refine ih (d ++ [x]) (fun y hy => hr y (by simp [hy])) ?_
      obtain ⟨c, hc, hc22⟩ := class_nat (hr x (by simp))
      rw [sumF_snoc, hd]
      unfold cntFree
      rw [List.countP_append]
      cases hu : x.used with
      | true => rw [if_neg (by simp)]; simp [hu]
      | false => rw [if_pos ⟨rfl, by omega, by omega⟩]; simp [hu]
  have := key l [] h (sumF_nil 22 0)
  simpa using this

theorem freeL_len (l : List Bk) (c : Nat) : (freeL l c).length ≤ l.length := by
  unfold freeL
  rw [List.length_map]
  have := List.length_filter_le (fun x : Bk => !x.used && classI (x.size : Int) == (c : Int)) l.reverse
  rw [List.length_reverse] at this
  exact this
theorem chkC_lists {bs : List UInt8} {l : List Bk} (h : Lists bs l (freeL l)) (hl : l.length ≤ 1024) : ∀ (k c : Nat) (fr : Int), c + k = 22 → chkC bs l k c fr = (fr - sumF l k c == 0)
  | 0, c, fr, _ => by unfold chkC sumF; simp
  | k + 1, c, fr, hc => by
    have ha := h.all (c := c) (by omega) (Nat.le_trans (freeL_len l c) hl)
    have hok : (freeL l c).all (okO l (freeL l c)) = true := by
      rw [List.all_eq_true]
      intro o ho
      unfold okO foundB
      rw [Bool.and_eq_true]
      constructor
      · rw [List.any_eq_true]
        obtain ⟨x, hx, e, hu, _⟩ := freeL_mem ho
        exact ⟨x, hx, by simp [e, hu]⟩
      · rw [List.Nodup.count (h.nodup c (by omega)), if_pos ho]; rfl
    unfold chkC
    rw [ha]
    dsimp only
    rw [hok, Bool.true_and, chkC_lists h hl k (c + 1) _ (by omega)]
    have e : fr - (sumF l (k + 1) c : Nat) = fr - ((freeL l c).length : Int) - (sumF l k (c + 1) : Nat) := by
      have : sumF l (k + 1) c = (freeL l c).length + sumF l k (c + 1) := rfl
      omega
    rw [e]
/-- With lists of just the free ones: right, if no two free ones stand together. -/
theorem checkB_lists {bs : List UInt8} {l : List Bk} (hw : walkB bs = some l) (h : Lists bs l (freeL l)) (h0 : wordN bs 0 < 4194304) : checkB bs = noAdj l := by
  obtain ⟨h184, ht, hg⟩ := walkB_tiles hw
  have hm := tile_mem l _ _ ht
  have hlen : l.length ≤ 1024 := by
    have key : ∀ (l : List Bk) (o e : Nat), tile o l e → l.length * 32 + o ≤ e := by
      intro l
      induction l with
      | nil => intro o e h; have : o = e := h; simp; omega
      | cons x r ih =>
        rintro o e ⟨a, b, c⟩
        have q := (isSz_iff _).1 b
        have := ih _ _ c
        rw [List.length_cons]; omega
    have := key l _ _ ht
    have := h.small
    omega
  have e0 : numO bs 0 = wordN bs 0 := by unfold numO word?; rw [if_pos (by omega)]; rfl
  unfold checkB
  rw [hw]
  dsimp only
  rw [e0, decide_eq_true h0, Bool.true_and, chkC_lists h hlen 22 0 _ rfl, sumF_all l (fun x hx => (hm.2 x hx).2.2.1)]
  have : ((cntFree l : Int) - (cntFree l : Int) == 0) = true := by rw [Int.sub_self]; rfl
  rw [this, Bool.and_true]

/-- The bits behind the classes stay. -/
theorem bit_up (w c : Nat) (hc : c < 22) (h : bitN w c = false) : (w + 2 ^ c) / 4194304 = w / 4194304 := by
  obtain ⟨d, hd⟩ : ∃ d, 22 = c + 1 + d := ⟨21 - c, by omega⟩
  have e : 4194304 = 2 ^ (c + 1) * 2 ^ d := by rw [← Nat.pow_add, ← hd]
  have hp : 0 < 2 ^ c := Nat.two_pow_pos c
  have h1 : w / 2 ^ c % 2 = 0 := by
    unfold bitN at h
    have : ¬ w / 2 ^ c % 2 = 1 := by simpa using h
    omega
  have key : (w + 2 ^ c) / 2 ^ (c + 1) = w / 2 ^ (c + 1) := by
    rw [Nat.pow_succ, ← Nat.div_div_eq_div_mul, ← Nat.div_div_eq_div_mul, Nat.add_div_right _ hp]
    omega
  rw [e, ← Nat.div_div_eq_div_mul, ← Nat.div_div_eq_div_mul, key]
theorem bit_down (w c : Nat) (hc : c < 22) (h : bitN w c = true) : (w - 2 ^ c) / 4194304 = w / 4194304 := by
  have h1 := bitN_ge w c h
  have h2 := bit_up (w - 2 ^ c) c hc (bitN_sub_c w c h)
  rw [Nat.sub_add_cancel h1] at h2
  exact h2.symm
theorem markB_high (bs : List UInt8) (c : Nat) (hc : c < 22) (hl : 184 ≤ bs.length) : wordN (markB bs c) 0 / 4194304 = wordN bs 0 / 4194304 := by
  have hw := wordN_lt bs 0
  unfold markB
  split
  · rename_i h
    rw [wordN_same _ _ _ (by omega) (Nat.lt_of_le_of_lt (Nat.sub_le _ _) hw)]
    exact bit_down _ c hc h.1
  · split
    · rename_i h
      rw [wordN_same _ _ _ (by omega) (bitN_lt _ c (by omega) hw h.1)]
      exact bit_up _ c hc h.1
    · rfl
theorem markB_length (bs : List UInt8) (c : Nat) (hl : 184 ≤ bs.length) : (markB bs c).length = bs.length := by
  unfold markB
  split
  · exact lyN_length _ _ _ (by omega)
  · split
    · exact lyN_length _ _ _ (by omega)
    · rfl
theorem putB_high {bs out : List UInt8} {o : Int} (hl : 184 ≤ bs.length) (h : putB bs o = some out) : out.length = bs.length ∧ wordN out 0 / 4194304 = wordN bs 0 / 4194304 := by
  unfold putB at h
  by_cases hf : freeI bs o < 0
  · rw [if_pos hf] at h; cases h
  · rw [if_neg hf] at h
    obtain ⟨x, hg, hc⟩ : ∃ x, getB bs o = some x ∧ freeI bs o = classI (x.size : Int) := by
      unfold freeI at hf ⊢
      cases hg : getB bs o with
      | none => rw [hg] at hf; simp at hf
      | some x =>
        rw [hg] at hf
        dsimp only at hf ⊢
        cases hu : x.used with
        | true => rw [hu] at hf; simp at hf
        | false => exact ⟨x, rfl, by simp⟩
    have hb := classI_bounds (x.size : Int)
    obtain ⟨c, hcc⟩ : ∃ c, (freeI bs o).toNat = c := ⟨_, rfl⟩
    have hc22 : c < 22 := by omega
    obtain ⟨g0, g1, _, g3, g4, _⟩ := getB_some hg
    have q := (isSz_iff _).1 g4
    rw [hcc] at h
    dsimp only at h
    obtain ⟨f, hfe⟩ : ∃ f, wordN bs (8 + 8 * c) = f := ⟨_, rfl⟩
    rw [hfe] at h
    by_cases hm : (f : Int) = o ∨ (f ≠ 0 ∧ memberB bs f (c : Int) = false)
    · rw [if_pos hm] at h; cases h
    · rw [if_neg hm] at h
      injection h with h
      have ho : o.toNat = x.off := by omega
      rw [ho] at h
      have l1 := lyN_length bs (x.off + 8) f (by omega)
      have l2 := lyN_length (lyN bs (x.off + 8) f) (x.off + 16) 0 (by omega)
      have w2 : wordN (lyN (lyN bs (x.off + 8) f) (x.off + 16) 0) 0 = wordN bs 0 := by
        rw [wordN_other _ _ _ _ (by omega) (by omega), wordN_other _ _ _ _ (by omega) (by omega)]
      obtain ⟨b2, hb2⟩ : ∃ b2, (if f ≠ 0 then lyN (lyN (lyN bs (x.off + 8) f) (x.off + 16) 0) (f + 16) x.off else lyN (lyN bs (x.off + 8) f) (x.off + 16) 0) = b2 := ⟨_, rfl⟩
      have hb : b2.length = bs.length ∧ wordN b2 0 = wordN bs 0 := by
        rw [← hb2]
        by_cases hf0 : f ≠ 0
        · have hmem : memberB bs f (c : Int) = true := by
            cases hmb : memberB bs f (c : Int) with
            | true => rfl
            | false => exact absurd (.inr ⟨hf0, hmb⟩) hm
          unfold memberB at hmem
          cases hgf : getB bs (f : Int) with
          | none => rw [hgf] at hmem; simp at hmem
          | some y =>
            obtain ⟨r0, r1, _, r3, r4, _⟩ := getB_some hgf
            have q2 := (isSz_iff _).1 r4
            rw [if_pos hf0]
            exact ⟨(lyN_length _ _ _ (by omega)).trans (l2.trans l1), by rw [wordN_other _ _ _ _ (by omega) (by omega), w2]⟩
        · rw [if_neg hf0]
          exact ⟨l2.trans l1, w2⟩
      rw [hb2] at h
      have l3 := lyN_length b2 (8 + 8 * c) x.off (by omega)
      rw [← h]
      refine ⟨(markB_length _ c (by omega)).trans (l3.trans hb.1), ?_⟩
      rw [markB_high _ c hc22 (by omega), wordN_other _ _ _ _ (by omega) (by omega), hb.2]
end Go.Proofs.YtdjjbmefaggelaaGreat

/- A number of the head turned: not right. Plain facts, no program in sight. -/
namespace Go.Proofs.YtdjjbmefaggelaaGreat

theorem chkC_true {bs : List UInt8} {l : List Bk} : ∀ (k c : Nat) (fr : Int), chkC bs l k c fr = true → ∀ d, c ≤ d → d < c + k → ∃ al, allB bs d = some al ∧ al.all (okO l al) = true
  | 0, c, fr, _, d, h1, h2 => by omega
  | k + 1, c, fr, h, d, h1, h2 => by
    unfold chkC at h
    cases ha : allB bs c with
    | none => rw [ha] at h; cases h
    | some al =>
      rw [ha] at h
      dsimp only at h
      rw [Bool.and_eq_true] at h
      rcases Nat.lt_or_ge c d with hlt | hge
      · exact chkC_true k (c + 1) _ h.2 d hlt (by omega)
      · obtain rfl : d = c := by omega
        exact ⟨al, ha, h.1⟩
theorem allB_bit {bs : List UInt8} {c : Nat} {l : List Nat} (h : allB bs c = some l) : bitN (wordN bs 0) c = decide (wordN bs (8 + 8 * c) ≠ 0) ∧ allF bs c 1024 0 (wordN bs (8 + 8 * c)) = some l := by
  unfold allB at h
  split at h
  · cases h
  · split at h
    · cases h
    · rename_i hb
      exact ⟨Decidable.not_not.1 hb, h⟩
end Go.Proofs.YtdjjbmefaggelaaGreat

/- A tag turned: not right. Plain facts, no program in sight. -/
namespace Go.Proofs.YtdjjbmefaggelaaGreat

end Go.Proofs.YtdjjbmefaggelaaGreat

/- The document's heap, plain: blocks, lists, what each block holds; what in, out, drop, put, give, cut, Find, Take, Give, Trim come to. No program in sight. -/
namespace Go.Proofs.YtdjjbmefaggelaaGreat

/-- What a block holds: its slice, and the bytes. -/
abbrev Dt : Type := Value × List UInt8
def nilD : Dt := (.slice none 0 0, [])
/-- A heap. -/
structure Hp where
  cap : Nat
  blks : List Bk
  ds : List Dt
  lists : Nat → List Nat

/-- Where the last block ends. -/
def sumB : List Bk → Nat
  | [] => 0
  | x :: r => x.size + sumB r
def lenB (l : List Bk) : Nat := 184 + sumB l
/-- The i-th block. -/
def bkAt (l : List Bk) (i : Nat) : Bk := l.getD i ⟨0, 0, false⟩
/-- Which block stands at o. -/
def atB (o : Int) : List Bk → Option Nat
  | [] => none
  | x :: r => if (x.off : Int) = o then some 0 else (atB o r).map (· + 1)
def usedB (l : List Bk) (o : Int) : Option Nat := match atB o l with
  | none => none
  | some i => if (bkAt l i).used = true then some i else none
def clsB (x : Bk) : Nat := (classI (x.size : Int)).toNat
def Hp.out (H : Hp) (i : Nat) : Hp := { H with lists := setL H.lists (clsB (bkAt H.blks i)) ((H.lists (clsB (bkAt H.blks i))).filter fun o => o != (bkAt H.blks i).off) }
def Hp.in_ (H : Hp) (i : Nat) : Hp := { H with lists := setL H.lists (clsB (bkAt H.blks i)) ((bkAt H.blks i).off :: H.lists (clsB (bkAt H.blks i))) }
def Hp.drop (H : Hp) (i : Nat) : Hp := { H with blks := H.blks.take i ++ H.blks.drop (i + 1), ds := H.ds.take i ++ H.ds.drop (i + 1) }
def Hp.put (H : Hp) (i : Nat) (x : Bk) : Hp := { H with blks := H.blks.take i ++ x :: H.blks.drop i, ds := H.ds.take i ++ nilD :: H.ds.drop i }
def Hp.size (H : Hp) (i s : Nat) : Hp := { H with blks := H.blks.set i { bkAt H.blks i with size := s } }
def Hp.use (H : Hp) (i : Nat) (u : Bool) : Hp := { H with blks := H.blks.set i { bkAt H.blks i with used := u } }
def Hp.wipe (H : Hp) (i : Nat) : Hp := { H with ds := H.ds.set i nilD }
/-- Is there a free block right behind the i-th? -/
def nextF (l : List Bk) (i : Nat) : Bool := decide (i + 1 < l.length) && !(bkAt l (i + 1)).used
def prevF (l : List Bk) (i : Nat) : Bool := decide (0 < i) && !(bkAt l (i - 1)).used
/-- The i-th and the one behind it are one. -/
def Hp.join (H : Hp) (i : Nat) : Hp := ((H.size i ((bkAt H.blks i).size + (bkAt H.blks (i + 1)).size)).drop (i + 1))
def Hp.giveB (H : Hp) (i : Nat) : Hp := if nextF H.blks i = true then (H.out (i + 1)).join i else H
def Hp.giveC (H : Hp) (i : Nat) : Hp := if prevF H.blks i = true then ((H.out (i - 1)).join (i - 1)).in_ (i - 1) else H.in_ i
def Hp.give (H : Hp) (i : Nat) : Hp := (((H.use i false).wipe i).giveB i).giveC i
def Hp.cut (H : Hp) (i s : Nat) : Hp := if (bkAt H.blks i).size < s + 32 then H.use i true else (((H.use i true).size i s).put (i + 1) ⟨(bkAt H.blks i).off + s, (bkAt H.blks i).size - s, true⟩).give (i + 1)
/-- The first of a list with so many bytes. -/
def findL (l : List Bk) (s : Nat) : List Nat → Option Nat
  | [] => none
  | o :: r => match atB (o : Int) l with
    | none => none
    | some i => if s ≤ (bkAt l i).size then some i else findL l s r
def Hp.findC (H : Hp) (s : Nat) : Nat → Nat → Option Nat
  | 0, _ => none
  | k + 1, c => match findL H.blks s (H.lists c) with
    | some i => some i
    | none => H.findC s k (c + 1)
def Hp.find (H : Hp) (s : Nat) : Option Nat := H.findC s (22 - (classI (s : Int)).toNat) (classI (s : Int)).toNat
/-- How many bytes the last block has, if it is free. -/
def tailF (l : List Bk) : Nat := if l.length = 0 then 0 else if (bkAt l (l.length - 1)).used = true then 0 else (bkAt l (l.length - 1)).size
/-- Where a block of a size is taken, if it can be; the heap then. -/
def Hp.take (H : Hp) (s : Nat) : Option Nat × Hp := match H.find s with
  | some i => (some (bkAt H.blks i).off, (H.out i).cut i s)
  | none => if H.cap < lenB H.blks + s - tailF H.blks then (none, H)
    else if 0 < tailF H.blks then (some (bkAt H.blks (H.blks.length - 1)).off, ((H.out (H.blks.length - 1)).size (H.blks.length - 1) s).use (H.blks.length - 1) true)
    else (some (lenB H.blks), H.put H.blks.length ⟨lenB H.blks, s, true⟩)
def Hp.giveO (H : Hp) (o : Int) : Option Hp := (usedB H.blks o).map H.give
def Hp.trimO (H : Hp) (o : Int) (s : Nat) : Option Hp := match usedB H.blks o with
  | none => none
  | some i => if (bkAt H.blks i).size < s then none else some (H.cut i s)

/-- All blocks one behind the other, all within 16384 bytes; as many slices as blocks; no list is long. -/
structure Hp.Ok (H : Hp) : Prop where
  tl : tile 184 H.blks (lenB H.blks)
  le : lenB H.blks ≤ 16384
  dl : H.ds.length = H.blks.length
/-- Whatever is listed is a block. -/
def Hp.Listed (H : Hp) : Prop := ∀ c, c < 22 → ∀ o ∈ H.lists c, ∃ i, atB (o : Int) H.blks = some i

theorem tile_sum : ∀ (l : List Bk) (o e : Nat), tile o l e → e = o + sumB l
  | [], o, e, h => by simp [tile] at h; simp [sumB]; omega
  | x :: r, o, e, h => by
    obtain ⟨h1, h2, h3⟩ := h
    have := tile_sum r _ e h3
    simp [sumB]; omega
theorem tile_app : ∀ (a b : List Bk) (o e : Nat), tile o (a ++ b) e ↔ tile o a (o + sumB a) ∧ tile (o + sumB a) b e
  | [], b, o, e => by simp [sumB, tile]
  | x :: r, b, o, e => by
    simp only [List.cons_append, tile, sumB]
    rw [tile_app r b]
    constructor
    · rintro ⟨h1, h2, h3, h4⟩
      refine ⟨⟨h1, h2, ?_⟩, ?_⟩
      · rw [show o + (x.size + sumB r) = o + x.size + sumB r by omega]; exact h3
      · rw [show o + (x.size + sumB r) = o + x.size + sumB r by omega]; exact h4
    · rintro ⟨⟨h1, h2, h3⟩, h4⟩
      rw [show o + (x.size + sumB r) = o + x.size + sumB r by omega] at h3 h4
      exact ⟨h1, h2, h3, h4⟩
theorem sumB_app (a b : List Bk) : sumB (a ++ b) = sumB a + sumB b := by
  induction a with
  | nil => simp [sumB]
  | cons x r ih => simp only [List.cons_append, sumB, ih]; omega
theorem atB_some {o : Int} : ∀ {l : List Bk} {i : Nat}, atB o l = some i → ∃ x, l[i]? = some x ∧ (x.off : Int) = o
  | [], _, h => by cases h
  | x :: r, i, h => by
    unfold atB at h
    split at h
    · rename_i hx
      injection h with h
      subst h
      exact ⟨x, rfl, hx⟩
    · cases hr : atB o r with
      | none => rw [hr] at h; cases h
      | some j =>
        rw [hr] at h
        injection h with h
        subst h
        obtain ⟨y, h1, h2⟩ := atB_some hr
        exact ⟨y, by simpa using h1, h2⟩
theorem atB_none {o : Int} : ∀ {l : List Bk}, atB o l = none → ∀ x ∈ l, (x.off : Int) ≠ o
  | [], _, x, hx => by cases hx
  | y :: r, h, x, hx => by
    unfold atB at h
    split at h
    · cases h
    · rename_i hy
      rcases List.mem_cons.1 hx with rfl | hx
      · exact hy
      · cases hr : atB o r with
        | none => exact atB_none hr x hx
        | some j => rw [hr] at h; cases h
theorem bkAt_of {l : List Bk} {i : Nat} {x : Bk} (h : l[i]? = some x) : bkAt l i = x := by
  unfold bkAt
  rw [List.getD_eq_getElem?_getD, h]
  rfl
theorem bkAt_get {l : List Bk} {i : Nat} (h : i < l.length) : l[i]? = some (bkAt l i) := by
  rw [List.getElem?_eq_getElem h]
  exact congrArg some (bkAt_of (List.getElem?_eq_getElem h)).symm
theorem atB_at {l : List Bk} {i : Nat} {o : Int} (h : atB o l = some i) : i < l.length ∧ ((bkAt l i).off : Int) = o := by
  obtain ⟨x, h1, h2⟩ := atB_some h
  have hi : i < l.length := by
    rcases Nat.lt_or_ge i l.length with h | h
    · exact h
    · rw [List.getElem?_eq_none h] at h1; cases h1
  rw [bkAt_of h1]
  exact ⟨hi, h2⟩
theorem lst_split {α : Type} {l : List α} {i : Nat} {x : α} (h : l[i]? = some x) : l = l.take i ++ x :: l.drop (i + 1) := by
  have hi : i < l.length := by
    rcases Nat.lt_or_ge i l.length with h' | h'
    · exact h'
    · rw [List.getElem?_eq_none h'] at h; cases h
  have e : l[i] = x := by rw [List.getElem?_eq_getElem hi] at h; injection h
  calc l = l.take i ++ l.drop i := (List.take_append_drop i l).symm
    _ = _ := by rw [List.drop_eq_getElem_cons hi, e]
theorem lst_set {α : Type} {l : List α} {i : Nat} {x : α} (y : α) (h : l[i]? = some x) : l.set i y = l.take i ++ y :: l.drop (i + 1) := by
  have hi : i < l.length := by
    rcases Nat.lt_or_ge i l.length with h' | h'
    · exact h'
    · rw [List.getElem?_eq_none h'] at h; cases h
  rw [List.set_eq_take_append_cons_drop, if_pos hi]

section
variable {l : List Bk} {e i : Nat} {x : Bk}
/-- What lies ahead of the i-th block, it itself, and what lies behind it. -/
theorem tile_at (h : tile 184 l e) (hx : l[i]? = some x) : tile 184 (l.take i) x.off ∧ x.off = 184 + sumB (l.take i) ∧ isSz (x.size : Int) = true ∧ tile (x.off + x.size) (l.drop (i + 1)) e := by
  rw [lst_split hx, tile_app] at h
  obtain ⟨h1, h2, h3, h4⟩ := h
  have e1 : (184 + sumB (l.take i)) = x.off := by omega
  rw [e1] at h1
  refine ⟨h1, by omega, h3, ?_⟩
  rw [e1] at h4
  exact h4
theorem tile_of (h1 : tile 184 (l.take i) x.off) (h3 : isSz (x.size : Int) = true) {r : List Bk} (h4 : tile (x.off + x.size) r e) : tile 184 (l.take i ++ x :: r) e := by
  have := tile_sum _ _ _ h1
  rw [tile_app]
  rw [← this]
  exact ⟨h1, rfl, h3, h4⟩
theorem tile_len (h : tile 184 l e) : lenB l = e := by
  have := tile_sum _ _ _ h
  unfold lenB; omega
end
end Go.Proofs.YtdjjbmefaggelaaGreat

/- The document's heap, plain: that all stays one behind the other when a block is given, cut, taken. No program in sight. -/
namespace Go.Proofs.YtdjjbmefaggelaaGreat

theorem lst_lt {α : Type} {l : List α} {i : Nat} {x : α} (h : l[i]? = some x) : i < l.length := by
  rcases Nat.lt_or_ge i l.length with h' | h'
  · exact h'
  · rw [List.getElem?_eq_none h'] at h; cases h
theorem set_take {α : Type} (l : List α) (i : Nat) (y : α) (hi : i < l.length) : (l.set i y).take (i + 1) = l.take i ++ [y] := by
  rw [List.take_set, List.take_add_one, List.getElem?_eq_getElem hi]
  rw [Option.toList_some, List.set_append_right _ _ (by rw [List.length_take]; omega), List.length_take]
  congr 1
  have e : i - min i l.length = 0 := by omega
  rw [e]
  rfl
theorem set_drop {α : Type} (l : List α) (i k : Nat) (y : α) (hk : i < k) : (l.set i y).drop k = l.drop k := List.drop_set_of_lt hk
theorem bkAt_set (l : List Bk) (i j : Nat) (y : Bk) (hi : i < l.length) : bkAt (l.set i y) j = if j = i then y else bkAt l j := by
  unfold bkAt
  rw [List.getD_eq_getElem?_getD, List.getD_eq_getElem?_getD]
  by_cases h : j = i
  · subst h
    rw [List.getElem?_set_self hi, if_pos rfl]
    rfl
  · rw [List.getElem?_set_ne (fun e => h e.symm), if_neg h]
theorem sz_add {a b : Nat} (ha : isSz (a : Int) = true) (hb : isSz (b : Int) = true) (h : a + b ≤ 16384) : isSz ((a + b : Nat) : Int) = true := by
  have h1 := (isSz_iff _).1 ha
  have h2 := (isSz_iff _).1 hb
  exact (isSz_iff _).2 (by omega)

section
variable {H : Hp} {i s : Nat}
theorem Hp.Ok.at_ (h : H.Ok) (hi : i < H.blks.length) : tile 184 (H.blks.take i) (bkAt H.blks i).off ∧ isSz ((bkAt H.blks i).size : Int) = true ∧ tile ((bkAt H.blks i).off + (bkAt H.blks i).size) (H.blks.drop (i + 1)) (lenB H.blks) := by
  obtain ⟨a, _, b, c⟩ := tile_at h.tl (bkAt_get hi)
  exact ⟨a, b, c⟩
theorem Hp.Ok.sz (h : H.Ok) (hi : i < H.blks.length) : isSz ((bkAt H.blks i).size : Int) = true := (h.at_ hi).2.1
theorem Hp.Ok.len (h : H.Ok) : H.blks.length * 32 ≤ lenB H.blks := by
  have go : ∀ (l : List Bk) (o e : Nat), tile o l e → l.length * 32 ≤ sumB l := by
    intro l
    induction l with
    | nil => intro o e _; simp [sumB]
    | cons x r ih =>
      intro o e ht
      obtain ⟨_, h2, h3⟩ := ht
      have h4 := ih _ _ h3
      have h5 := (isSz_iff _).1 h2
      simp only [List.length_cons, sumB]
      omega
  have := go H.blks 184 _ h.tl
  unfold lenB
  omega
theorem Hp.Ok.n (h : H.Ok) : H.blks.length ≤ 512 := by
  have h1 := h.len
  have h2 := h.le
  omega
/-- The ends of the i-th, and of the one behind it. -/
theorem Hp.Ok.two (h : H.Ok) (hi : i + 1 < H.blks.length) : (bkAt H.blks (i + 1)).off = (bkAt H.blks i).off + (bkAt H.blks i).size ∧ (bkAt H.blks i).size + (bkAt H.blks (i + 1)).size ≤ 16384 := by
  obtain ⟨_, hs, ht⟩ := h.at_ (i := i) (by omega)
  rw [List.drop_eq_getElem_cons hi] at ht
  have e : H.blks[i + 1] = bkAt H.blks (i + 1) := by
    have := bkAt_get hi
    rw [List.getElem?_eq_getElem hi] at this
    exact Option.some.inj this
  rw [e] at ht
  obtain ⟨h1, _, h3⟩ := ht
  have h4 := (tile_mem _ _ _ h3).1
  have h5 := h.le
  exact ⟨h1, by omega⟩
/-- A block with the same place and size. -/
theorem Hp.Ok.same (h : H.Ok) (hi : i < H.blks.length) (y : Bk) (ho : y.off = (bkAt H.blks i).off) (hs : y.size = (bkAt H.blks i).size) : tile 184 (H.blks.set i y) (lenB H.blks) ∧ lenB (H.blks.set i y) = lenB H.blks := by
  obtain ⟨a, b, c⟩ := h.at_ hi
  have ht : tile 184 (H.blks.set i y) (lenB H.blks) := by
    rw [lst_set y (bkAt_get hi)]
    refine tile_of (by rw [ho]; exact a) (by rw [hs]; exact b) ?_
    rw [ho, hs]; exact c
  exact ⟨ht, tile_len ht⟩
theorem Hp.Ok.use (h : H.Ok) (hi : i < H.blks.length) (u : Bool) : (H.use i u).Ok := by
  obtain ⟨h1, h2⟩ := h.same hi { bkAt H.blks i with used := u } rfl rfl
  refine ⟨?_, ?_, ?_⟩
  · show tile 184 (H.blks.set i _) (lenB (H.blks.set i _))
    rw [h2]; exact h1
  · show lenB (H.blks.set i _) ≤ _
    rw [h2]; exact h.le
  · show H.ds.length = (H.blks.set i _).length
    rw [List.length_set]; exact h.dl
theorem Hp.Ok.wipe (h : H.Ok) : (H.wipe i).Ok := ⟨h.tl, h.le, by show (H.ds.set i _).length = _; rw [List.length_set]; exact h.dl⟩
theorem Hp.Ok.out (h : H.Ok) : (H.out i).Ok := ⟨h.tl, h.le, h.dl⟩
theorem Hp.Ok.in_ (h : H.Ok) : (H.in_ i).Ok := ⟨h.tl, h.le, h.dl⟩
theorem join_blks (H : Hp) (hi : i + 1 < H.blks.length) : (H.join i).blks = H.blks.take i ++ { bkAt H.blks i with size := (bkAt H.blks i).size + (bkAt H.blks (i + 1)).size } :: H.blks.drop (i + 2) := by
  show (H.blks.set i _).take (i + 1) ++ (H.blks.set i _).drop (i + 1 + 1) = _
  rw [set_take _ _ _ (by omega), set_drop _ _ _ _ (by omega), List.append_assoc]
  rfl
theorem Hp.Ok.join (h : H.Ok) (hi : i + 1 < H.blks.length) : (H.join i).Ok := by
  obtain ⟨a, b, c⟩ := h.at_ (i := i) (by omega)
  obtain ⟨_, b2, c2⟩ := h.at_ (i := i + 1) hi
  obtain ⟨e, hle⟩ := h.two hi
  have ht : tile 184 (H.join i).blks (lenB H.blks) := by
    rw [join_blks H hi]
    refine tile_of (x := { bkAt H.blks i with size := (bkAt H.blks i).size + (bkAt H.blks (i + 1)).size }) a (sz_add b b2 hle) ?_
    show tile ((bkAt H.blks i).off + ((bkAt H.blks i).size + (bkAt H.blks (i + 1)).size)) _ _
    rw [← Nat.add_assoc, ← e]
    exact c2
  have hl := tile_len ht
  refine ⟨by rw [hl]; exact ht, by rw [hl]; exact h.le, ?_⟩
  show (H.ds.take (i + 1) ++ H.ds.drop (i + 1 + 1)).length = (H.join i).blks.length
  rw [join_blks H hi]
  have := h.dl
  simp only [List.length_append, List.length_take, List.length_drop, List.length_cons]
  omega
theorem join_at (H : Hp) (hi : i + 1 < H.blks.length) : i < (H.join i).blks.length ∧ bkAt (H.join i).blks i = { bkAt H.blks i with size := (bkAt H.blks i).size + (bkAt H.blks (i + 1)).size } ∧ (H.join i).blks.length + 1 = H.blks.length := by
  rw [join_blks H hi]
  refine ⟨?_, bkAt_of ?_, ?_⟩
  · simp only [List.length_append, List.length_take, List.length_cons]; omega
  · rw [List.getElem?_append_right (by rw [List.length_take]; omega), List.length_take, show i - min i H.blks.length = 0 by omega]
    rfl
  · simp only [List.length_append, List.length_take, List.length_cons, List.length_drop]; omega
theorem cut_blks (H : Hp) (hi : i < H.blks.length) (y : Bk) : (((H.use i true).size i s).put (i + 1) y).blks = H.blks.take i ++ { bkAt H.blks i with used := true, size := s } :: y :: H.blks.drop (i + 1) := by
  have e : bkAt (H.blks.set i { bkAt H.blks i with used := true }) i = { bkAt H.blks i with used := true } := by rw [bkAt_set _ _ _ _ hi, if_pos rfl]
  show ((H.blks.set i { bkAt H.blks i with used := true }).set i { bkAt (H.blks.set i { bkAt H.blks i with used := true }) i with size := s }).take (i + 1) ++ y :: ((H.blks.set i { bkAt H.blks i with used := true }).set i { bkAt (H.blks.set i { bkAt H.blks i with used := true }) i with size := s }).drop (i + 1) = _
  rw [e, List.set_set, set_take _ _ _ hi, set_drop _ _ _ _ (by omega), List.append_assoc]
  rfl
theorem Hp.Ok.cut (h : H.Ok) (hi : i < H.blks.length) (hs : isSz (s : Int) = true) (hle : s + 32 ≤ (bkAt H.blks i).size) : (((H.use i true).size i s).put (i + 1) ⟨(bkAt H.blks i).off + s, (bkAt H.blks i).size - s, true⟩).Ok := by
  obtain ⟨a, b, c⟩ := h.at_ hi
  have h1 := (isSz_iff _).1 hs
  have h2 := (isSz_iff _).1 b
  have ht : tile 184 (((H.use i true).size i s).put (i + 1) ⟨(bkAt H.blks i).off + s, (bkAt H.blks i).size - s, true⟩).blks (lenB H.blks) := by
    rw [cut_blks H hi]
    refine tile_of (x := { bkAt H.blks i with used := true, size := s }) a hs ⟨rfl, (isSz_iff _).2 (by dsimp only; omega), ?_⟩
    dsimp only
    rw [show (bkAt H.blks i).off + s + ((bkAt H.blks i).size - s) = (bkAt H.blks i).off + (bkAt H.blks i).size by omega]
    exact c
  have hl := tile_len ht
  refine ⟨by rw [hl]; exact ht, by rw [hl]; exact h.le, ?_⟩
  rw [cut_blks H hi]
  show (H.ds.take (i + 1) ++ nilD :: H.ds.drop (i + 1)).length = _
  have := h.dl
  simp only [List.length_append, List.length_take, List.length_drop, List.length_cons]
  omega
theorem cut_len (H : Hp) (hi : i < H.blks.length) (y : Bk) : (((H.use i true).size i s).put (i + 1) y).blks.length = H.blks.length + 1 := by
  rw [cut_blks H hi]
  simp only [List.length_append, List.length_take, List.length_drop, List.length_cons]
  omega

/-- No list has more than N. -/
def Hp.Few (H : Hp) (N : Nat) : Prop := ∀ d, d < 22 → (H.lists d).length ≤ N
theorem Hp.Few.out {N : Nat} (h : H.Few N) : (H.out i).Few N := fun d hd => by
  show (setL H.lists _ _ d).length ≤ N
  unfold setL
  split
  · rename_i e
    rw [← e]
    exact Nat.le_trans (List.length_filter_le _ _) (h d hd)
  · exact h d hd
theorem Hp.Few.in_ {N : Nat} (h : H.Few N) : (H.in_ i).Few (N + 1) := fun d hd => by
  show (setL H.lists _ _ d).length ≤ N + 1
  unfold setL
  split
  · rename_i e
    rw [← e, List.length_cons]
    exact Nat.succ_le_succ (h d hd)
  · exact Nat.le_succ_of_le (h d hd)
theorem Hp.Few.more {N M : Nat} (h : H.Few N) (hm : N ≤ M) : H.Few M := fun d hd => Nat.le_trans (h d hd) hm
end
end Go.Proofs.YtdjjbmefaggelaaGreat

/- The document's heap, plain: that there are as many slices as blocks; an arena's bytes that are such a heap. No program in sight. -/
namespace Go.Proofs.YtdjjbmefaggelaaGreat

/-- As many slices as blocks. -/
def Hp.Dl (H : Hp) : Prop := H.ds.length = H.blks.length
section
variable {H : Hp} {i s : Nat}
theorem Hp.Dl.use (h : H.Dl) (u : Bool) : (H.use i u).Dl := by show H.ds.length = (H.blks.set i _).length; rw [List.length_set]; exact h
theorem Hp.Dl.size (h : H.Dl) : (H.size i s).Dl := by show H.ds.length = (H.blks.set i _).length; rw [List.length_set]; exact h
theorem Hp.Dl.wipe (h : H.Dl) : (H.wipe i).Dl := by show (H.ds.set i _).length = H.blks.length; rw [List.length_set]; exact h
theorem Hp.Dl.out (h : H.Dl) : (H.out i).Dl := h
theorem Hp.Dl.in_ (h : H.Dl) : (H.in_ i).Dl := h
theorem Hp.Dl.drop (h : H.Dl) : (H.drop i).Dl := by
  show (H.ds.take i ++ H.ds.drop (i + 1)).length = (H.blks.take i ++ H.blks.drop (i + 1)).length
  have h : H.ds.length = H.blks.length := h
  simp only [List.length_append, List.length_take, List.length_drop, h]
theorem Hp.Dl.put (h : H.Dl) (x : Bk) : (H.put i x).Dl := by
  show (H.ds.take i ++ nilD :: H.ds.drop i).length = (H.blks.take i ++ x :: H.blks.drop i).length
  have h : H.ds.length = H.blks.length := h
  simp only [List.length_append, List.length_take, List.length_drop, List.length_cons, h]
theorem Hp.Dl.join (h : H.Dl) : (H.join i).Dl := Hp.Dl.drop (Hp.Dl.size h)
theorem Hp.Dl.giveB (h : H.Dl) : (H.giveB i).Dl := by
  unfold Hp.giveB
  split
  · exact Hp.Dl.join (Hp.Dl.out h)
  · exact h
theorem Hp.Dl.giveC (h : H.Dl) : (H.giveC i).Dl := by
  unfold Hp.giveC
  split
  · exact Hp.Dl.in_ (Hp.Dl.join (Hp.Dl.out h))
  · exact Hp.Dl.in_ h
theorem Hp.Dl.give (h : H.Dl) : (H.give i).Dl := (h.use false).wipe.giveB.giveC
theorem Hp.Dl.cut (h : H.Dl) : (H.cut i s).Dl := by
  unfold Hp.cut
  split
  · exact h.use true
  · exact ((h.use true).size.put _).give
theorem Hp.Dl.take (h : H.Dl) : (H.take s).2.Dl := by
  unfold Hp.take
  split
  · exact Hp.Dl.cut (Hp.Dl.out h)
  · split
    · exact h
    · split
      · exact Hp.Dl.use (Hp.Dl.size (Hp.Dl.out h)) true
      · exact h.put _
theorem Hp.Dl.giveO {o : Int} {H' : Hp} (h : H.Dl) (hg : H.giveO o = some H') : H'.Dl := by
  unfold Hp.giveO at hg
  cases hu : usedB H.blks o with
  | none => rw [hu] at hg; cases hg
  | some i => rw [hu] at hg; injection hg with hg; subst hg; exact h.give
theorem Hp.Dl.trimO {o : Int} {H' : Hp} (h : H.Dl) (hg : H.trimO o s = some H') : H'.Dl := by
  unfold Hp.trimO at hg
  cases hu : usedB H.blks o with
  | none => rw [hu] at hg; cases hg
  | some i =>
    rw [hu] at hg
    dsimp only at hg
    split at hg
    · cases hg
    · injection hg with hg; subst hg; exact h.cut

theorem giveB_cap : (H.giveB i).cap = H.cap := by unfold Hp.giveB; split <;> rfl
theorem giveC_cap : (H.giveC i).cap = H.cap := by unfold Hp.giveC; split <;> rfl
theorem give_cap : (H.give i).cap = H.cap := by unfold Hp.give; rw [giveC_cap, giveB_cap]; rfl
theorem cut_cap : (H.cut i s).cap = H.cap := by
  unfold Hp.cut
  split
  · rfl
  · rw [give_cap]; rfl
theorem take_cap : (H.take s).2.cap = H.cap := by
  unfold Hp.take
  split
  · exact cut_cap
  · split
    · rfl
    · split <;> rfl
theorem giveO_cap {o : Int} {H' : Hp} (hg : H.giveO o = some H') : H'.cap = H.cap := by
  unfold Hp.giveO at hg
  cases hu : usedB H.blks o with
  | none => rw [hu] at hg; cases hg
  | some i => rw [hu] at hg; injection hg with hg; subst hg; exact give_cap
theorem trimO_cap {o : Int} {H' : Hp} (hg : H.trimO o s = some H') : H'.cap = H.cap := by
  unfold Hp.trimO at hg
  cases hu : usedB H.blks o with
  | none => rw [hu] at hg; cases hg
  | some i =>
    rw [hu] at hg
    dsimp only at hg
    split at hg
    · cases hg
    · injection hg with hg; subst hg; exact cut_cap
end

/-- Bytes that are a heap: its blocks, its lists; they are right. -/
structure Rt (bs : List UInt8) (H : Hp) : Prop where
  walk : walkB bs = some H.blks
  all_ : ∀ c, c < 22 → allB bs c = some (H.lists c)
  chk : checkB bs = true
  len : bs.length ≤ H.cap
section
variable {bs : List UInt8} {H : Hp}
theorem Rt.lenE (h : Rt bs H) : lenB H.blks = bs.length := tile_len (walkB_tiles h.walk).2.1
theorem Rt.ok (h : Rt bs H) (hc : H.cap ≤ 16384) (hd : H.Dl) : H.Ok := ⟨by rw [h.lenE]; exact (walkB_tiles h.walk).2.1, by rw [h.lenE]; exact Nat.le_trans h.len hc, hd⟩
theorem Rt.few (h : Rt bs H) : H.Few 1024 := fun d hd => allB_len (h.all_ d hd)
theorem atB_mem {l : List Bk} {x : Bk} (hx : x ∈ l) : ∃ i, atB (x.off : Int) l = some i := by
  cases h : atB (x.off : Int) l with
  | some i => exact ⟨i, rfl⟩
  | none => exact absurd rfl (atB_none h x hx)
theorem Rt.listed (h : Rt bs H) : H.Listed := fun c hc o ho => by
  have hk := h.chk
  unfold checkB at hk
  rw [h.walk] at hk
  simp only [Bool.and_eq_true] at hk
  obtain ⟨al, h1, h2⟩ := chkC_true 22 0 _ hk.2.2 c (Nat.zero_le _) (by omega)
  rw [h.all_ c hc] at h1
  injection h1 with h1
  subst h1
  have h3 := List.all_eq_true.1 h2 o ho
  unfold okO at h3
  rw [Bool.and_eq_true] at h3
  have h4 := h3.1
  unfold foundB at h4
  obtain ⟨x, hx, hx2⟩ := List.any_eq_true.1 h4
  simp only [Bool.and_eq_true, beq_iff_eq] at hx2
  rw [← hx2.1]
  exact atB_mem hx
end
/-- What is used in both heaps holds what it held, as far as both go. -/
def Held (H : Hp) (bs : List UInt8) (H' : Hp) (out : List UInt8) : Prop :=
  ∀ x ∈ H.blks, x.used = true → ∀ y ∈ H'.blks, y.used = true → y.off = x.off → ∀ i, x.off + 8 ≤ i → i + 8 < x.off + x.size → i + 8 < y.off + y.size → out[i]? = bs[i]?
end Go.Proofs.YtdjjbmefaggelaaGreat

/- The contracts of the document's own blocks: Word, Could, Get. -/
namespace Go.Proofs.YtdjjbmefaggelaaGreat
open Go.RowKit

/-- A block's value; what Get tells. -/
def Bk.val (x : Bk) : Value := .agg #[.int .i64 (x.off : Int), .int .i64 (x.size : Int), .bool x.used]
def bkV (o : Option Bk) : Value := match o with
  | some x => x.val
  | none => .agg #[.int .i64 0, .int .i64 0, .bool false]
theorem blk_set {w : World} {g : Nat} {t : TypeId} {a b c : Value} (h : w.heap[g]? = some (.cells #[a, b, c] t (0, 0))) (x y z : Value) :
    (((w.setCell ⟨g, 0, none⟩ x).setCell ⟨g, 1, none⟩ y).setCell ⟨g, 2, none⟩ z).heap[g]? = some (.cells #[x, y, z] t (0, 0)) := by
  have h1 := heap_setCell_same w g 0 _ _ x h
  have h2 := heap_setCell_same (w.setCell ⟨g, 0, none⟩ x) g 1 _ _ y h1
  have h3 := heap_setCell_same ((w.setCell ⟨g, 0, none⟩ x).setCell ⟨g, 1, none⟩ y) g 2 _ _ z h2
  rw [h3]
  rfl
theorem blk_cells {w : World} {g : Nat} {t : TypeId} {a b c : Value} (h : w.heap[g]? = some (.cells #[a, b, c] t (0, 0))) : (w.cell? ⟨g, 0, none⟩ = some a ∧ w.cell? ⟨g, 1, none⟩ = some b ∧ w.cell? ⟨g, 2, none⟩ = some c) ∧ (w.frozen? ⟨g, 0, none⟩ = false ∧ w.frozen? ⟨g, 1, none⟩ = false ∧ w.frozen? ⟨g, 2, none⟩ = false) := by
  refine ⟨⟨?_, ?_, ?_⟩, frozen_of_row w g 0 _ _ h, frozen_of_row w g 1 _ _ h, frozen_of_row w g 2 _ _ h⟩
  · rw [cell_of_row w g 0 _ _ (0, 0) h]; rfl
  · rw [cell_of_row w g 1 _ _ (0, 0) h]; rfl
  · rw [cell_of_row w g 2 _ _ (0, 0) h]; rfl
theorem blk_ret {fn : Func} {R : Ending → World → Prop} {a : Act} {w : World} {p u : Tmp} {g : Nat} {o s : Int} {b : Bool} {x : Value} (hres : fn.results = #[.cell p 53, .tmp u]) (hp : a.tmps.getD p undef = .pointer (some ⟨g, 0, none⟩)) (hx : a.tmps.getD u undef = x) (hd : a.defers = [])
    (hg : w.heap[g]? = some (.cells #[.int .i64 o, .int .i64 s, .bool b] 53 (0, 0))) (hR : R (.returned (.tuple #[.agg #[.int .i64 o, .int .i64 s, .bool b], x])) w) : bodyPost Tryz.prog fn R .ret a w := by
  have c0 := cell_of_row w g 0 _ _ (0, 0) hg
  have c1 := cell_of_row w g 1 _ _ (0, 0) hg
  have c2 := cell_of_row w g 2 _ _ (0, 0) hg
  simp only [List.getElem?_toArray, List.getElem?_cons_zero, List.getElem?_cons_succ] at c0 c1 c2
  refine bodyPost_ret (v := .tuple #[.agg #[.int .i64 o, .int .i64 s, .bool b], x]) ?_ hd hR
  rw [results_cell_tmp hres, hp, hx]
  simp [go_sem, c0, c1, c2]

section
variable (w : World)
end
end Go.Proofs.YtdjjbmefaggelaaGreat

/- The contracts of the document's own blocks: Get, all ways. -/
namespace Go.Proofs.YtdjjbmefaggelaaGreat
open Go.RowKit

section
variable (w : World)

end
end Go.Proofs.YtdjjbmefaggelaaGreat

/- The contracts of the document's own blocks: Ahead, all ways. -/
namespace Go.Proofs.YtdjjbmefaggelaaGreat
open Go.RowKit

theorem heap_lt' {w : World} {g : Nat} {o : Obj} (h : w.heap[g]? = some o) : g < w.heap.size := by
  rcases Nat.lt_or_ge g w.heap.size with h1 | h1
  · exact h1
  · rw [Array.getElem?_eq_none h1] at h; cases h

section
variable (w : World)

end
end Go.Proofs.YtdjjbmefaggelaaGreat

/- The contracts of the document's own blocks: Lay, Set. -/
namespace Go.Proofs.YtdjjbmefaggelaaGreat
open Go.RowKit

theorem u8_infb : (Tryz.prog.info? 5).map (fun i => (i.zero, i.size, i.bytes)) = some (some (.int .u8 0), 1, 1) := by kernel_rfl
/-- A number laid at an offset. -/
def layN (bs : List UInt8) (o v : Nat) : List UInt8 := lay bs o (lowB 8 v)
section
variable (w : World)
end
end Go.Proofs.YtdjjbmefaggelaaGreat

/- The contracts of the document's own blocks: Set. -/
namespace Go.Proofs.YtdjjbmefaggelaaGreat
open Go.RowKit

/-- Both tags of a block laid; none: it can't be. -/
def setB (bs : List UInt8) (o s : Int) (u : Bool) : Option (List UInt8) :=
  if isSz s = true ∧ could bs.length o s = true then some (layN (layN bs o.toNat (packN s u)) (o + s - 8).toNat (packN s u)) else none
section
variable (w : World)
end
end Go.Proofs.YtdjjbmefaggelaaGreat

/- The contracts of the document's own blocks: Walk. -/
namespace Go.Proofs.YtdjjbmefaggelaaGreat
open Go.RowKit

/-- Blocks as cells. -/
def flatK : List Bk → List Value
  | [] => []
  | x :: r => .int .i64 (x.off : Int) :: .int .i64 (x.size : Int) :: .bool x.used :: flatK r
theorem flatK_length : ∀ l : List Bk, (flatK l).length = l.length * 3
  | [] => rfl
  | x :: r => by simp [flatK, flatK_length r]; omega
theorem flatK_append (a b : List Bk) : flatK (a ++ b) = flatK a ++ flatK b := by
  induction a with
  | nil => rfl
  | cons x r ih => simp [flatK, ih]
theorem flatK_get : ∀ (l : List Bk) (i : Nat) (x : Bk), l[i]? = some x → (flatK l)[i * 3]? = some (.int .i64 (x.off : Int)) ∧ (flatK l)[i * 3 + 1]? = some (.int .i64 (x.size : Int)) ∧ (flatK l)[i * 3 + 2]? = some (.bool x.used)
  | [], _, _, h => by simp at h
  | y :: r, 0, x, h => by
    simp at h; subst h
    exact ⟨rfl, rfl, rfl⟩
  | y :: r, i + 1, x, h => by
    have := flatK_get r i x (by simpa using h)
    have e : (i + 1) * 3 = i * 3 + 1 + 1 + 1 := by omega
    rw [e]
    exact ⟨by simpa [flatK] using this.1, by simpa [flatK] using this.2.1, by simpa [flatK] using this.2.2⟩
theorem bk_inf : (Tryz.prog.info? 53).map (fun i => (i.zero, i.size, i.bytes)) = some (some (.agg #[.int .i64 0, .int .i64 0, .bool false]), 3, 24) := by kernel_rfl
theorem own_sl {w : World} {base n size : Nat} {t : TypeId} {v : Value} {xs : List Value} (h : w.ownsRow base t size v n xs) : ∃ A c, v = .slice A n c := by
  rcases h.2 with ⟨rfl, h0⟩ | ⟨g, cap, cur, rfl, _⟩
  · rw [h0]; exact ⟨none, 0, rfl⟩
  · exact ⟨_, _, rfl⟩
theorem own_below' {w w' : World} {base n size : Nat} {t : TypeId} {v : Value} {xs : List Value} (h : w.ownsRow base t size v n xs) (hb : Below w.heap.size w w') : w'.ownsRow base t size v n xs := by
  refine ⟨h.1, ?_⟩
  rcases h.2 with h2 | ⟨g, cap, cur, hv, hg, hh, r⟩
  · exact .inl h2
  · refine .inr ⟨g, cap, cur, hv, hg, ?_, r⟩
    have := (h.lt g (by rw [hv]; rfl)).2
    rw [hb.block g this]; exact hh

section
variable (w : World)
end
end Go.Proofs.YtdjjbmefaggelaaGreat

/- The contracts of the laws' words: Pick, Blocks and Ints of lists that are the same. -/
namespace Go.Proofs.YtdjjbmefaggelaaGreat
open Go.RowKit

/-- A slice of blocks reads so; a slice of numbers. -/
def BkRd (w : World) (B : Nat) (A : Option Addr) (l : List Bk) : Prop := 0 < l.length → ∃ b o, A = some ⟨b, o, none⟩ ∧ b < B ∧ ∀ j x, l[j]? = some x →
  w.cell? ⟨b, o + j * 3, none⟩ = some (.int .i64 (x.off : Int)) ∧ w.cell? ⟨b, o + j * 3 + 1, none⟩ = some (.int .i64 (x.size : Int)) ∧ w.cell? ⟨b, o + j * 3 + 2, none⟩ = some (.bool x.used)
def IRd (w : World) (B : Nat) (A : Option Addr) (l : List Int) : Prop := 0 < l.length → ∃ b o, A = some ⟨b, o, none⟩ ∧ b < B ∧ ∀ j x, l[j]? = some x → w.cell? ⟨b, o + j, none⟩ = some (.int .i64 x)
/-- A number, or a block, that is laid. -/
structure La where
  what : Int
  at_ : Int
  v : Nat
/-- A slice of such. -/
def LaRd (w : World) (B : Nat) (A : Option Addr) (l : List La) : Prop := 0 < l.length → ∃ b o, A = some ⟨b, o, none⟩ ∧ b < B ∧ ∀ j x, l[j]? = some x →
  w.cell? ⟨b, o + j * 3, none⟩ = some (.int .i64 x.what) ∧ w.cell? ⟨b, o + j * 3 + 1, none⟩ = some (.int .i64 x.at_) ∧ w.cell? ⟨b, o + j * 3 + 2, none⟩ = some (.int .u64 (x.v : Int)) ∧
  (-9223372036854775808 ≤ x.what ∧ x.what ≤ 9223372036854775807) ∧ (-9223372036854775808 ≤ x.at_ ∧ x.at_ ≤ 9223372036854775807) ∧ x.v < 18446744073709551616
theorem LaRd.below {w w' : World} {B : Nat} {A : Option Addr} {l : List La} (h : LaRd w B A l) (hb : Below B w w') : LaRd w' B A l := fun hn => by
  obtain ⟨b, o, e, hB, hc⟩ := h hn
  refine ⟨b, o, e, hB, fun j x hx => ?_⟩
  obtain ⟨h0, h1, h2, h3⟩ := hc j x hx
  exact ⟨(hb.cell (p := ⟨b, _, none⟩) hB).trans h0, (hb.cell (p := ⟨b, _, none⟩) hB).trans h1, (hb.cell (p := ⟨b, _, none⟩) hB).trans h2, h3⟩

theorem BkRd.below {w w' : World} {B : Nat} {A : Option Addr} {l : List Bk} (h : BkRd w B A l) (hb : Below B w w') : BkRd w' B A l := fun hn => by
  obtain ⟨b, o, e, hB, hc⟩ := h hn
  refine ⟨b, o, e, hB, fun j x hx => ?_⟩
  obtain ⟨h0, h1, h2⟩ := hc j x hx
  exact ⟨(hb.cell (p := ⟨b, _, none⟩) hB).trans h0, (hb.cell (p := ⟨b, _, none⟩) hB).trans h1, (hb.cell (p := ⟨b, _, none⟩) hB).trans h2⟩
theorem BkRd.more {w : World} {B B' : Nat} {A : Option Addr} {l : List Bk} (h : BkRd w B A l) (hB : B ≤ B') : BkRd w B' A l := fun hn => by
  obtain ⟨b, o, e, h1, hc⟩ := h hn
  exact ⟨b, o, e, Nat.lt_of_lt_of_le h1 hB, hc⟩
theorem IRd.below {w w' : World} {B : Nat} {A : Option Addr} {l : List Int} (h : IRd w B A l) (hb : Below B w w') : IRd w' B A l := fun hn => by
  obtain ⟨b, o, e, hB, hc⟩ := h hn
  exact ⟨b, o, e, hB, fun j x hx => (hb.cell (p := ⟨b, _, none⟩) hB).trans (hc j x hx)⟩
theorem IRd.more {w : World} {B B' : Nat} {A : Option Addr} {l : List Int} (h : IRd w B A l) (hB : B ≤ B') : IRd w B' A l := fun hn => by
  obtain ⟨b, o, e, h1, hc⟩ := h hn
  exact ⟨b, o, e, Nat.lt_of_lt_of_le h1 hB, hc⟩
theorem pk_i {k : IntKind} {a b : Int} (h : a = b) : Ending.returned (.int k a) = .returned (.int k b) := by rw [h]

set_option maxRecDepth 100000 in
set_option maxHeartbeats 400000 in
theorem lpick_any (n : Int) (m : Nat) (w : World) (hm : 0 < m) (hm2 : m ≤ 1000000) (p : Nat) (hp : (n % (m : Int)).toNat = p) :
    Calls Tryz.prog 19 #[.int .i64 n, .int .i64 (m : Int)] w fun e w' => e = .returned (.int .i64 (p : Int)) ∧ w = w' := by
  have h1 := Int.emod_nonneg n (b := (m : Int)) (by omega)
  have h2 := Int.emod_lt_of_pos n (b := (m : Int)) (by omega)
  obtain ⟨e, he⟩ : ∃ e, n % (m : Int) = e := ⟨_, rfl⟩
  rw [he] at h1 h2 hp
  have h3 : (n.tmod (m : Int) = e) ∨ (n.tmod (m : Int) = e - m) := by
    have := Int.tmod_eq_emod (a := n) (b := (m : Int))
    rw [he] at this
    rw [this]
    split
    · left; simp
    · right; simp
  obtain ⟨r, hr⟩ : ∃ r, n.tmod (m : Int) = r := ⟨_, rfl⟩
  rw [hr] at h3
  clear he
  have hm0 : ((m : Int) == 0) = false := by rw [beq_eq_false_iff_ne]; omega
  by_cases h4 : r < 0
  · have h6 : -1000000 ≤ r := by omega
    have h5 : r + (m : Int) = (p : Int) := by omega
    have H5 := Lib.hid h5
    clear h3 h5 hp
    go_enter Tryz.func19, Tryz.ntmps19
    go_wp2
    go_ret
    exact ⟨pk_i H5.out, rfl⟩
  · have h5 : r = (p : Int) := by omega
    have H5 := Lib.hid h5
    clear h3 h5 hp
    go_enter Tryz.func19, Tryz.ntmps19
    go_wp2
    go_ret
    exact ⟨pk_i H5.out, rfl⟩

end Go.Proofs.YtdjjbmefaggelaaGreat

/- Slices and structs that came in, in the words of the contracts: bytes, bools, numbers, what is laid, a block. -/
namespace Go.Proofs.YtdjjbmefaggelaaGreat
open Go.RowKit Go.ChangeShapes Go.WideShapes Go.Deep

theorem list_of {α : Type} {p : Nat → α → Prop} : ∀ (n : Nat), (∀ i, i < n → ∃ x, p i x) → ∃ l : List α, l.length = n ∧ ∀ i x, l[i]? = some x → p i x
  | 0, _ => ⟨[], rfl, fun i x h => by simp at h⟩
  | n + 1, h => by
    obtain ⟨l, hl, hp⟩ := list_of n (fun i hi => h i (by omega))
    obtain ⟨x, hx⟩ := h n (by omega)
    refine ⟨l ++ [x], by simp [hl], fun i y hy => ?_⟩
    rcases Nat.lt_or_ge i l.length with h1 | h1
    · rw [List.getElem?_append_left h1] at hy
      exact hp i y hy
    · rw [List.getElem?_append_right h1] at hy
      have e : i - l.length = 0 := by
        rcases Nat.eq_zero_or_pos (i - l.length) with h2 | h2
        · exact h2
        · rw [List.getElem?_eq_none (by simp; omega)] at hy; cases hy
      rw [e] at hy
      obtain rfl : x = y := by simpa using hy
      obtain rfl : i = n := by omega
      exact hx

theorem add_plain {w : World} {a : Addr} {v : Value} (h : w.cell? (a.add 0) = some v) : ∃ b o, a = ⟨b, o, none⟩ ∧ b < w.heap.size ∧ ∀ j, a.add j = ⟨b, o + j, none⟩ := by
  obtain ⟨b, o, sp⟩ := a
  obtain rfl : sp = none := by simpa [Addr.add] using World.cell?_spot h
  have e : ∀ j, (⟨b, o, none⟩ : Addr).add j = ⟨b, o + j, none⟩ := fun j => by unfold Addr.add; split <;> simp_all
  refine ⟨b, o, rfl, ?_, e⟩
  rw [e] at h
  exact cell_lt h

section
variable {H : Type} {enc : TypeId × Value → H} {w : World} {base : Nat} {held : Bool} {fuel : Nat} {A : Option Addr} {len cap : Nat} {x : DataW H × List MemPlace}
end
end Go.Proofs.YtdjjbmefaggelaaGreat

/- The contracts of the document's own lists: num, bit, one, Free, Member. -/
namespace Go.Proofs.YtdjjbmefaggelaaGreat
open Go.RowKit

theorem layN_eq (bs : List UInt8) (o v : Nat) : layN bs o v = lyN bs o v := by
  unfold layN lay lyN
  rw [lowB_length]

section
variable (w : World)
end
end Go.Proofs.YtdjjbmefaggelaaGreat

/- The contracts of the document's own lists: mark, Put. -/
namespace Go.Proofs.YtdjjbmefaggelaaGreat
open Go.RowKit

section
variable (w : World)
end
end Go.Proofs.YtdjjbmefaggelaaGreat

/- The contracts of the document's own lists: Put, all ways. -/
namespace Go.Proofs.YtdjjbmefaggelaaGreat
open Go.RowKit

section
variable (w : World)

end
end Go.Proofs.YtdjjbmefaggelaaGreat

/- The contracts of the document's own lists: All. -/
namespace Go.Proofs.YtdjjbmefaggelaaGreat
open Go.RowKit

theorem int_inf : (Tryz.prog.info? 3).map (fun i => (i.zero, i.size, i.bytes)) = some (some (.int .i64 0), 1, 8) := by kernel_rfl
def iV (n : Nat) : Value := .int .i64 (n : Int)
section
variable (w : World)
end
end Go.Proofs.YtdjjbmefaggelaaGreat

/- The contracts of the document's own fits: Find. -/
namespace Go.Proofs.YtdjjbmefaggelaaGreat
open Go.RowKit

theorem find_take {p : Nat → Bool} {l : List Nat} {j o : Nat} (h : ∀ q ∈ l.take j, p q = false) (hj : l[j]? = some o) (ho : p o = true) : l.find? p = some o := by
  have hlt : j < l.length := by
    rcases Nat.lt_or_ge j l.length with h | h
    · exact h
    · rw [List.getElem?_eq_none h] at hj; cases hj
  rw [List.getElem?_eq_getElem hlt] at hj
  injection hj with hj
  have e : l = l.take j ++ (o :: l.drop (j + 1)) := by rw [← hj, ← List.drop_eq_getElem_cons hlt, List.take_append_drop]
  rw [e, List.find?_append]
  have hn : (l.take j).find? p = none := List.find?_eq_none.2 fun q hq => by rw [h q hq]; simp
  rw [hn, Option.none_or, List.find?_cons_of_pos ho]
theorem find_none' {p : Nat → Bool} {l : List Nat} (h : ∀ q ∈ l, p q = false) : l.find? p = none := List.find?_eq_none.2 fun q hq => by rw [h q hq]; simp

theorem allF_member (bs : List UInt8) (c : Nat) : ∀ (k last p : Nat) (l : List Nat), allF bs c k last p = some l → ∀ o ∈ l, memberB bs o (c : Int) = true
  | 0, last, p, l, h, o, ho => by
    unfold allF at h
    split at h
    · injection h with h; subst h; cases ho
    · cases h
  | k + 1, last, p, l, h, o, ho => by
    unfold allF at h
    by_cases hp : p = 0
    · rw [if_pos hp] at h; injection h with h; subst h; cases ho
    · rw [if_neg hp] at h
      dsimp only at h
      by_cases hm : memberB bs p (c : Int) = true ∧ wordN bs (p + 16) = last
      · rw [if_pos hm] at h
        cases hr : allF bs c k p (wordN bs (p + 8)) with
        | none => rw [hr] at h; cases h
        | some l' =>
          rw [hr] at h
          injection h with h
          subst h
          rcases List.mem_cons.1 ho with e | ho
          · rw [e]; exact hm.1
          · exact allF_member bs c k p _ l' hr o ho
      · rw [if_neg hm] at h; cases h
theorem allB_member {bs : List UInt8} {c : Nat} {l : List Nat} (h : allB bs c = some l) : ∀ o ∈ l, memberB bs o (c : Int) = true := by
  unfold allB at h
  split at h
  · cases h
  · split at h
    · cases h
    · exact allF_member bs c _ _ _ l h
theorem memberB_get {bs : List UInt8} {p : Nat} {c : Int} (h : memberB bs p c = true) : p ≤ 20000 ∧ ∃ x, getB bs (p : Int) = some x := by
  unfold memberB at h
  cases hg : getB bs (p : Int) with
  | none => rw [hg] at h; simp at h
  | some x => rw [hg] at h; simp at h; exact ⟨h.1, x, rfl⟩
section
variable (w : World)
end
end Go.Proofs.YtdjjbmefaggelaaGreat

/- The contracts of the document's own fits: Rebuild. -/
namespace Go.Proofs.YtdjjbmefaggelaaGreat
open Go.RowKit

theorem own_bks {w : World} {base n : Nat} {t : TypeId} {A : Option Addr} {c : Nat} {l : List Bk} (h : w.ownsRow base t 3 (.slice A n c) n (flatK l)) (hn : n = l.length) : BkRd w w.heap.size A l := fun h0 => by
  rcases h.2 with ⟨_, h0'⟩ | ⟨g, _, _, h', _⟩
  · omega
  · injection h' with e
    subst e
    refine ⟨g, 0, rfl, (h.lt g rfl).2, fun j x hx => ?_⟩
    obtain ⟨q0, q1, q2⟩ := flatK_get l j x hx
    have hj : j < l.length := by
      rcases Nat.lt_or_ge j l.length with h | h
      · exact h
      · rw [List.getElem?_eq_none h] at hx; cases hx
    refine ⟨?_, ?_, ?_⟩
    · rw [Nat.zero_add, h.cellAt (j * 3) (by omega), q0]
    · rw [Nat.zero_add, h.cellAt (j * 3 + 1) (by omega), q1]
    · rw [Nat.zero_add, h.cellAt (j * 3 + 2) (by omega), q2]

/-- make([]byte, n): a block of n bytes that are 0. -/
theorem run_mk0 (n : Nat) (hn : n ≤ 1000000) (z : List UInt8) (hz : List.replicate n (0 : UInt8) = z) (W : World) : (Instr.makeSlice 28 (.int .i64 (n : Int)) (.int .i64 (n : Int))).run Tryz.prog W = .ok (.slice (some ⟨W.heap.size, 0, none⟩) n n) (W.alloc (.cells (rowB z) 5)) := by
  have := run_make_row' (P := Tryz.prog) 28 5 (.int .u8 0) 1 Tryz.underlying28 u8_infb rfl .i64 .i64 n (by omega) (by omega) W
  rw [rowB_zeros, hz] at this
  exact this
section
variable (w : World)
end
end Go.Proofs.YtdjjbmefaggelaaGreat

/- The contracts of the document's own check: in, Check. -/
namespace Go.Proofs.YtdjjbmefaggelaaGreat
open Go.RowKit

def nats (l : List Nat) : List Int := l.map fun n : Nat => (n : Int)
theorem own_ints {w : World} {base n : Nat} {t : TypeId} {A : Option Addr} {c : Nat} {l : List Nat} (h : w.ownsRow base t 1 (.slice A n c) n (l.map iV)) (hn : n = l.length) : IRd w w.heap.size A (nats l) := fun h0 => by
  have h0 : 0 < l.length := by simpa [nats] using h0
  rcases h.2 with ⟨_, h0'⟩ | ⟨g, _, _, h', _⟩
  · omega
  · injection h' with e
    subst e
    refine ⟨g, 0, rfl, (h.lt g rfl).2, fun j x hx => ?_⟩
    have hj : j < l.length := by
      rcases Nat.lt_or_ge j l.length with h | h
      · exact h
      · rw [nats, List.getElem?_map, List.getElem?_eq_none h] at hx; cases hx
    rw [Nat.zero_add, h.cellAt j (by omega), List.getElem?_map]
    rw [nats, List.getElem?_map] at hx
    cases hl : l[j]? with
    | none => rw [hl] at hx; cases hx
    | some y => rw [hl] at hx; injection hx with hx; rw [← hx]; rfl

theorem countP_take {α : Type} {p : α → Bool} {l : List α} {j : Nat} {x : α} (h : l[j]? = some x) : (l.take (j + 1)).countP p = (l.take j).countP p + if p x = true then 1 else 0 := by
  rw [List.take_add_one, h, List.countP_append]
  simp [List.countP_cons]
theorem any_take {α : Type} {p : α → Bool} {l : List α} {j : Nat} {x : α} (h : l[j]? = some x) : (l.take (j + 1)).any p = ((l.take j).any p || p x) := by
  rw [List.take_add_one, h, List.any_append]
  simp

section
variable (w : World)
end
end Go.Proofs.YtdjjbmefaggelaaGreat

/- What the program's blocks (layer 7) are to tell: the words in which the laws of the layers above ask for it. -/
namespace Go.Proofs.YtdjjbmefaggelaaGreat
open Go.RowKit

/-- No error, or one of api's. -/
def errV (ok : Bool) (k : Int) : Value := match ok with
  | true => .nilIface
  | false => .iface 75 (.int .i64 k)
/-- A block, or an error. -/
def BlkTold (x : Option Bk) (w : World) (e : Ending) (w' : World) : Prop := e = .returned (.tuple #[bkV x, errV x.isSome 3]) ∧ Below w.heap.size w w'
/-- Blocks, or an error. -/
def BlksTold (x : Option (List Bk)) (w : World) (e : Ending) (w' : World) : Prop :=
  ∃ A' c', e = .returned (.tuple #[.slice A' (x.getD []).length c', errV x.isSome 3]) ∧ w'.ownsRow w.heap.size 53 3 (.slice A' (x.getD []).length c') (x.getD []).length (flatK (x.getD [])) ∧ Below w.heap.size w w'
/-- The arena has other bytes, or there is an error, and all is as it was. -/
def Done (k : Int) (t : TypeId) (g base cap : Nat) (A : Option Addr) (y : Option (List UInt8)) (w : World) (e : Ending) (w' : World) : Prop :=
  match y with
  | none => e = .returned (errV false k) ∧ Below w.heap.size w w'
  | some out => e = .returned (errV true k) ∧ Became t g base cap A out w w'

def GetC : Prop := ∀ (w : World) (g base cap c : Nat) (A : Option Addr) (bs : List UInt8) (o : Int) (x : Option Bk), Ar w 88 g base cap A c bs → base ≤ 4611686018427387904 → bs.length ≤ 16384 → (-9223372036854775808 ≤ o ∧ o ≤ 9223372036854775807) → getB bs o = x →
  Calls Tryz.prog 22 #[.pointer (some ⟨g, 0, none⟩), .int .i64 o] w fun e w' => BlkTold x w e w'
def AheadC : Prop := ∀ (w : World) (g base cap c : Nat) (A : Option Addr) (bs : List UInt8) (o : Int) (x : Option Bk), Ar w 88 g base cap A c bs → base ≤ 4611686018427387904 → bs.length ≤ 16384 → (-9223372036854775808 ≤ o ∧ o ≤ 9223372036854775807) → aheadB bs o = x →
  Calls Tryz.prog 95 #[.pointer (some ⟨g, 0, none⟩), .int .i64 o] w fun e w' => BlkTold x w e w'
def SetC : Prop := ∀ (w : World) (g base cap c : Nat) (A : Option Addr) (bs : List UInt8) (o s : Int) (u : Bool) (y : Option (List UInt8)), Ar w 88 g base cap A c bs → base ≤ 4611686018427387904 → bs.length ≤ 16384 → (-9223372036854775808 ≤ o ∧ o ≤ 9223372036854775807) → (-9223372036854775808 ≤ s ∧ s ≤ 9223372036854775807) → setB bs o s u = y →
  Calls Tryz.prog 82 #[.pointer (some ⟨g, 0, none⟩), .agg #[.int .i64 o, .int .i64 s, .bool u]] w fun e w' => Done 1 88 g base cap A y w e w'
def WalkC : Prop := ∀ (w : World) (g base cap c : Nat) (A : Option Addr) (bs : List UInt8) (x : Option (List Bk)), Ar w 88 g base cap A c bs → base ≤ 4611686018427387904 → bs.length ≤ 16384 → walkB bs = x →
  Calls Tryz.prog 17 #[.pointer (some ⟨g, 0, none⟩)] w fun e w' => BlksTold x w e w'

theorem setB_of (bs : List UInt8) (x : Bk) (h1 : 184 ≤ x.off) (h2 : x.off % 16 = 8) (h3 : x.off + x.size ≤ bs.length) (h4 : isSz (x.size : Int) = true) : setB bs (x.off : Int) (x.size : Int) x.used = some (setT bs x) := by
  have h5 := (isSz_iff _).1 h4
  unfold setB setT tagN
  rw [if_pos ⟨h4, (could_iff _ _ _).2 (by omega)⟩, layN_eq, layN_eq]
  have e : ((x.off : Int) + (x.size : Int) - 8).toNat = x.off + x.size - 8 := by omega
  rw [e]
  simp
theorem BkRd.of_own {w : World} {base : Nat} {t : TypeId} {A : Option Addr} {c : Nat} {l : List Bk} (h : w.ownsRow base t 3 (.slice A l.length c) l.length (flatK l)) : BkRd w w.heap.size A l := own_bks h rfl

end Go.Proofs.YtdjjbmefaggelaaGreat

/- How a world stands in the walks of the laws of layers 7 to 11: an arena of the law's own, blocks behind a bound, what was there below it. -/
namespace Go.Proofs.YtdjjbmefaggelaaGreat
open Go.RowKit

/-- Since wB nothing below has changed; an arena lies above; these objects, too. -/
structure St (wB W : World) (g base cap : Nat) (A : Option Addr) (c : Nat) (bs : List UInt8) (L : List (Nat × Obj)) : Prop where
  bel : Below wB.heap.size wB W
  ar : Ar W 88 g base cap A c bs
  gB : wB.heap.size ≤ g
  aB : ∀ a, A = some a → wB.heap.size ≤ a.block
  has : ∀ p ∈ L, W.heap[p.1]? = some p.2

section
variable {wB W W' : World} {g base cap c : Nat} {A : Option Addr} {bs : List UInt8} {L : List (Nat × Obj)}
theorem St.size (h : St wB W g base cap A c bs L) : wB.heap.size ≤ W.heap.size := h.bel.size
theorem St.below (h : St wB W g base cap A c bs L) (hb : Below W.heap.size W W') : St wB W' g base cap A c bs L :=
  ⟨h.bel.trans (hb.mono h.size), h.ar.below hb, h.gB, h.aB, fun p hp => (hb.block p.1 (heap_lt (h.has p hp))).trans (h.has p hp)⟩
theorem St.alloc (h : St wB W g base cap A c bs L) (o : Obj) : St wB (W.alloc o) g base cap A c bs ((W.heap.size, o) :: L) := by
  have hb : Below W.heap.size W (W.alloc o) := (Below.refl _ _).alloc (Nat.le_refl _) o
  have h' := h.below hb
  refine ⟨h'.bel, h'.ar, h'.gB, h'.aB, fun p hp => ?_⟩
  rcases List.mem_cons.1 hp with rfl | hp
  · exact heap_alloc_new W o
  · exact h'.has p hp
theorem St.drewN (h : St wB W g base cap A c bs L) (k : Nat) : St wB (W.drewN k) g base cap A c bs L :=
  ⟨⟨h.bel.os, h.bel.tape, h.bel.output, h.bel.size, h.bel.block⟩, h.ar.drewN k, h.gB, h.aB, h.has⟩
theorem St.became {out : List UInt8} (h : St wB W g base cap A c bs L) (hb : Became 88 g base cap A out W W') : ∃ A' c', St wB W' g base cap A' c' out [] := by
  obtain ⟨A', c', har, hbl, hA⟩ := hb.below (B := wB.heap.size) h.gB h.aB h.size
  exact ⟨A', c', h.bel.trans hbl, har, h.gB, hA, fun p hp => by cases hp⟩
theorem St.made {w : World} {e : Ending} {w' : World} (h : MadeAr base cap bs w e w') : ∃ g A c, e = .returned (.pointer (some ⟨g, 0, none⟩)) ∧ St w w' g base cap A c bs [] := by
  obtain ⟨g, A, c, he, har, hb, hg, hA⟩ := h
  exact ⟨g, A, c, he, hb, har, hg, hA, fun p hp => by cases hp⟩
theorem St.rd (h : St wB W g base cap A c bs L) {n : Nat} {A' : Option Addr} {cs : List UInt8} (r : Rd wB wB.heap.size A' n cs) : Rd W W.heap.size A' n cs := (r.below h.bel).more h.size
theorem St.obj (h : St wB W g base cap A c bs L) {p : Nat} {o : Obj} (hp : (p, o) ∈ L) : W.heap[p]? = some o := h.has (p, o) hp
end
end Go.Proofs.YtdjjbmefaggelaaGreat

/- A region that draws its order, with one place at which two operations that are no readers may come up, one ahead of the other; a struct of a block made and filled in a region. -/
namespace Go.Proofs.YtdjjbmefaggelaaGreat
open Go.RowKit

section
variable {P : Program} {ops : Array Oper} {Q : Exit → Act → World → Prop}
end

/-- A new block's struct. -/
theorem alloc_blk (ρ : Operand → Value) (o : Oper) (ho : o.op = .alloc 53) (w : World) :
    (execOp ρ o).run Tryz.prog w = .ok (.value (.pointer (some ⟨w.heap.size, 0, none⟩))) (w.alloc (.cells #[.int .i64 0, .int .i64 0, .bool false] 53)) := by
  unfold execOp
  simp only [ho]
  simp [go_sem]

theorem store_blk (ρ : Operand → Value) (o : Oper) (x y : Operand) (ho : o.op = .store 53 x y) (w : World) (gx : Nat) (p q : Int) (r : Bool) (v0 v1 v2 : Value) (hx : ρ x = .pointer (some ⟨gx, 0, none⟩)) (hy : ρ y = .agg #[.int .i64 p, .int .i64 q, .bool r]) (h : w.heap[gx]? = some (.cells #[v0, v1, v2] 53 (0, 0))) :
    (execOp ρ o).run Tryz.prog w = .ok .skip (((w.setCell ⟨gx, 0, none⟩ (.int .i64 p)).setCell ⟨gx, 1, none⟩ (.int .i64 q)).setCell ⟨gx, 2, none⟩ (.bool r)) := by
  obtain ⟨⟨e0, e1, e2⟩, f0, f1, f2⟩ := blk_cells h
  unfold execOp
  simp only [ho, hx, hy]
  simp [go_sem, e0, e1, e2, f0, f1, f2]

section
variable {wB W : World} {g base cap c : Nat} {A : Option Addr} {bs : List UInt8} {L : List (Nat × Obj)}
end
end Go.Proofs.YtdjjbmefaggelaaGreat

/- What the program's lists (layer 9) are to tell: the words in which the laws ask for it. -/
namespace Go.Proofs.YtdjjbmefaggelaaGreat
open Go.RowKit

/-- Numbers, or an error. -/
def NumsTold (x : Option (List Nat)) (k : Int) (w : World) (e : Ending) (w' : World) : Prop :=
  ∃ A' c', e = .returned (.tuple #[.slice A' (x.getD []).length c', errV x.isSome k]) ∧ w'.ownsRow w.heap.size 3 1 (.slice A' (x.getD []).length c') (x.getD []).length ((x.getD []).map iV) ∧ Below w.heap.size w w'

def PutC : Prop := ∀ (w : World) (g base cap c : Nat) (A : Option Addr) (bs : List UInt8) (o : Int) (y : Option (List UInt8)), Ar w 88 g base cap A c bs → base ≤ 4611686018427387904 → bs.length ≤ 16384 → (-9223372036854775808 ≤ o ∧ o ≤ 9223372036854775807) → putB bs o = y →
  Calls Tryz.prog 84 #[.pointer (some ⟨g, 0, none⟩), .int .i64 o] w fun e w' => Done 3 88 g base cap A y w e w'
def TakeC : Prop := ∀ (w : World) (g base cap c : Nat) (A : Option Addr) (bs : List UInt8) (o : Int) (y : Option (List UInt8)), Ar w 88 g base cap A c bs → base ≤ 4611686018427387904 → bs.length ≤ 16384 → (-9223372036854775808 ≤ o ∧ o ≤ 9223372036854775807) → takeB bs o = y →
  Calls Tryz.prog 88 #[.pointer (some ⟨g, 0, none⟩), .int .i64 o] w fun e w' => Done 3 88 g base cap A y w e w'
def AllC : Prop := ∀ (w : World) (g base cap c : Nat) (A : Option Addr) (bs : List UInt8) (k : Nat) (x : Option (List Nat)), Ar w 88 g base cap A c bs → base ≤ 4611686018427387904 → bs.length ≤ 16384 → k < 22 → allB bs k = x →
  Calls Tryz.prog 44 #[.pointer (some ⟨g, 0, none⟩), .int .i64 (k : Int)] w fun e w' => NumsTold x 3 w e w'
end Go.Proofs.YtdjjbmefaggelaaGreat

/- Layer 9's laws: the head (the document's example). -/
namespace Go.Proofs.YtdjjbmefaggelaaGreat
open Go.RowKit

end Go.Proofs.YtdjjbmefaggelaaGreat

/- A row of lists of numbers in memory, beside an arena and a row of bools: how it stands in the walk of ListFirst. -/
namespace Go.Proofs.YtdjjbmefaggelaaGreat
open Go.RowKit

/-- Numbers in a row that is none of the blocks of S. -/
def Rw (S : Nat → Prop) (w : World) (A : Option Addr) (l : List Nat) : Prop := 0 < l.length → ∃ b o, A = some ⟨b, o, none⟩ ∧ b < w.heap.size ∧ ¬ S b ∧ ∀ (j x : Nat), l[j]? = some x → w.cell? ⟨b, o + j, none⟩ = some (.int .i64 (x : Int))
/-- A row of 22 lists. -/
structure Ls (S : Nat → Prop) (w : World) (gl : Nat) (L : Nat → List Nat) (cs : List Value) : Prop where
  len : cs.length = 22
  row : w.heap[gl]? = some (.cells cs.toArray 73 (0, 0))
  at_ : ∀ d, d < 22 → ∃ A c, cs[d]? = some (.slice A (L d).length c) ∧ (A = none → c = 0) ∧ Rw S w A (L d)

section
variable {S S' : Nat → Prop} {w w' : World} {gl : Nat} {L : Nat → List Nat} {cs : List Value} {A : Option Addr} {l : List Nat}
theorem Rw.nil (h : l = []) : Rw S w A l := fun h0 => by subst h; exact absurd h0 (by simp)
theorem Rw.keep (h : Rw S w A l) (hz : w.heap.size ≤ w'.heap.size) (hk : ∀ k, k < w.heap.size → ¬ S k → w'.heap[k]? = w.heap[k]? ∧ ¬ S' k) : Rw S' w' A l := fun h0 => by
  obtain ⟨b, o, e, hb, hn, hc⟩ := h h0
  obtain ⟨k1, k2⟩ := hk b hb hn
  exact ⟨b, o, e, Nat.lt_of_lt_of_le hb hz, k2, fun j x hx => (World.cell?_of_block (w := w) (a := ⟨b, o + j, none⟩) k1).trans (hc j x hx)⟩
theorem Rw.reads (h : Rw S w A l) : IRd w w.heap.size A (nats l) := fun h0 => by
  obtain ⟨b, o, e, hb, _, hc⟩ := h (by simpa [nats] using h0)
  refine ⟨b, o, e, hb, fun j x hx => ?_⟩
  rw [nats, List.getElem?_map] at hx
  cases hl : l[j]? with
  | none => rw [hl] at hx; cases hx
  | some y => rw [hl] at hx; injection hx with hx; rw [← hx]; exact hc j y hl
theorem Ls.keep (h : Ls S w gl L cs) (hz : w.heap.size ≤ w'.heap.size) (hg : w'.heap[gl]? = w.heap[gl]?) (hk : ∀ k, k < w.heap.size → ¬ S k → w'.heap[k]? = w.heap[k]? ∧ ¬ S' k) : Ls S' w' gl L cs :=
  ⟨h.len, hg.trans h.row, fun d hd => by obtain ⟨A, c, e, n, r⟩ := h.at_ d hd; exact ⟨A, c, e, n, r.keep hz hk⟩⟩
theorem Ls.cell (h : Ls S w gl L cs) {d : Nat} (hd : d < 22) : ∃ A c, w.cell? ⟨gl, d, none⟩ = some (.slice A (L d).length c) ∧ (A = none → c = 0) ∧ Rw S w A (L d) := by
  obtain ⟨A, c, e, n, r⟩ := h.at_ d hd
  refine ⟨A, c, ?_, n, r⟩
  rw [cell_of_row w gl d _ _ (0, 0) h.row]
  simpa using e
theorem Ls.set (h : Ls S w gl L cs) (hS : S gl) {d : Nat} (hd : d < 22) {A1 : Option Addr} {c1 : Nat} {l1 : List Nat} (hA1 : A1 = none → c1 = 0) (hr : Rw S w A1 l1) :
    Ls S (w.setCell ⟨gl, d, none⟩ (.slice A1 l1.length c1)) gl (setL L d l1) (cs.set d (.slice A1 l1.length c1)) := by
  have hz : w.heap.size ≤ (w.setCell ⟨gl, d, none⟩ (.slice A1 l1.length c1)).heap.size := by simp [World.setCell]
  have hk : ∀ k, k < w.heap.size → ¬ S k → (w.setCell ⟨gl, d, none⟩ (.slice A1 l1.length c1)).heap[k]? = w.heap[k]? ∧ ¬ S k := fun k _ hn => ⟨Below.heap_setCell w ⟨gl, d, none⟩ _ k (fun e => hn (e ▸ hS)), hn⟩
  refine ⟨by rw [List.length_set]; exact h.len, ?_, fun e he => ?_⟩
  · have := heap_setCell_same w gl d _ _ (.slice A1 l1.length c1) h.row
    rw [this]
    simp
  · by_cases hed : e = d
    · subst hed
      refine ⟨A1, c1, ?_, hA1, ?_⟩
      · rw [List.getElem?_set_self (by rw [h.len]; exact hd)]
        simp [setL]
      · have e2 : setL L e l1 e = l1 := by simp [setL]
        rw [e2]; exact hr.keep hz hk
    · obtain ⟨A, c, e1, n1, r⟩ := h.at_ e he
      have e2 : setL L d l1 e = L e := by simp [setL, hed]
      refine ⟨A, c, ?_, n1, ?_⟩
      · rw [List.getElem?_set_ne (fun h => hed h.symm), e2]; exact e1
      · rw [e2]; exact r.keep hz hk
end

/-- The arena's blocks, the row of lists, the row of bools. -/
def Sx (g : Nat) (A : Option Addr) (gl gi : Nat) (k : Nat) : Prop := k = gl ∨ k = gi ∨ foot g A k
/-- How all stands in ListFirst's great loop. -/
structure Lf (wB W : World) (g : Nat) (A : Option Addr) (c : Nat) (bs : List UInt8) (gl gi : Nat) (L : Nat → List Nat) (cs : List Value) (inn : List Bool) : Prop where
  st : St wB W g 32 16384 A c bs []
  ls : Ls (Sx g A gl gi) W gl L cs
  ir : W.heap[gi]? = some (.cells (inn.map Value.bool).toArray 4 (0, 0))
  nl : ¬ foot g A gl
  ni : ¬ foot g A gi
  ne : gl ≠ gi
  lB : wB.heap.size ≤ gl
  iB : wB.heap.size ≤ gi

section
variable {wB W W' : World} {g c gl gi : Nat} {A : Option Addr} {bs : List UInt8} {L : Nat → List Nat} {cs : List Value} {inn : List Bool}
theorem Lf.below (h : Lf wB W g A c bs gl gi L cs inn) (hb : Below W.heap.size W W') : Lf wB W' g A c bs gl gi L cs inn :=
  ⟨h.st.below hb, h.ls.keep hb.size (hb.block gl (heap_lt h.ls.row)) (fun k hk hn => ⟨hb.block k hk, hn⟩), (hb.block gi (heap_lt h.ir)).trans h.ir, h.nl, h.ni, h.ne, h.lB, h.iB⟩
theorem Lf.became {out : List UInt8} (h : Lf wB W g A c bs gl gi L cs inn) (hb : Became 88 g 32 16384 A out W W') : ∃ A' c', Lf wB W' g A' c' out gl gi L cs inn := by
  obtain ⟨A', c', har, ht, hA⟩ := hb
  have hnf : ∀ k, k < W.heap.size → ¬ foot g A k → ¬ foot g A' k := fun k hk hn hf => by
    rcases hf with rfl | ⟨a, e, rfl⟩
    · exact hn (.inl rfl)
    · rcases hA with hA | hA
      · exact hn (.inr ⟨a, hA ▸ e, rfl⟩)
      · have := hA a e; omega
  have hgl := heap_lt h.ls.row
  have hgi := heap_lt h.ir
  have hbl : Below wB.heap.size W W' := ht.below (fun k hk => by
    rcases hk with rfl | ⟨a, e, rfl⟩
    · exact h.st.gB
    · exact h.st.aB a e) h.st.size
  refine ⟨A', c', ⟨h.st.bel.trans hbl, har, h.st.gB, fun a ha => ?_, fun p hp => by cases hp⟩, h.ls.keep ht.size (ht.block gl hgl h.nl) (fun k hk hn => ?_), (ht.block gi hgi h.ni).trans h.ir, hnf gl hgl h.nl, hnf gi hgi h.ni, h.ne, h.lB, h.iB⟩
  · rcases hA with hA | hA
    · exact h.st.aB a (hA ▸ ha)
    · exact Nat.le_trans h.st.size (hA a ha)
  · refine ⟨ht.block k hk (fun hf => hn (.inr (.inr hf))), fun hs => ?_⟩
    rcases hs with e | e | hf
    · exact hn (.inl e)
    · exact hn (.inr (.inl e))
    · exact hnf k hk (fun h' => hn (.inr (.inr h'))) hf
theorem St.setB (h : St wB W g 32 16384 A c bs []) {k : Nat} (hk : ¬ foot g A k) (hB : wB.heap.size ≤ k) (i : Nat) (u : Value) : St wB (W.setCell ⟨k, i, none⟩ u) g 32 16384 A c bs [] :=
  ⟨h.bel.setCell (p := ⟨k, i, none⟩) hB u, h.ar.keep fun j hj => Below.heap_setCell W ⟨k, i, none⟩ u j (fun e => hk (by subst e; exact hj)), h.gB, h.aB, fun p hp => by cases hp⟩
theorem Lf.mark (h : Lf wB W g A c bs gl gi L cs inn) (k : Nat) (b : Bool) : Lf wB (W.setCell ⟨gi, k, none⟩ (.bool b)) g A c bs gl gi L cs (inn.set k b) := by
  refine ⟨h.st.setB h.ni h.iB k _, h.ls.keep (by simp [World.setCell]) (Below.heap_setCell W ⟨gi, k, none⟩ _ gl h.ne) (fun j _ hn => ⟨Below.heap_setCell W ⟨gi, k, none⟩ _ j (fun e => hn (.inr (.inl e))), hn⟩), ?_, h.nl, h.ni, h.ne, h.lB, h.iB⟩
  have := heap_setCell_same W gi k _ _ (.bool b) h.ir
  rw [this, List.map_set]
  simp
theorem Lf.put (h : Lf wB W g A c bs gl gi L cs inn) {d : Nat} (hd : d < 22) {A1 : Option Addr} {c1 : Nat} {l1 : List Nat} (hA1 : A1 = none → c1 = 0) (hr : Rw (Sx g A gl gi) W A1 l1) :
    Lf wB (W.setCell ⟨gl, d, none⟩ (.slice A1 l1.length c1)) g A c bs gl gi (setL L d l1) (cs.set d (.slice A1 l1.length c1)) inn :=
  ⟨h.st.setB h.nl h.lB d _, h.ls.set (.inl rfl) hd hA1 hr, (Below.heap_setCell W ⟨gl, d, none⟩ _ gi (fun e => h.ne e.symm)).trans h.ir, h.nl, h.ni, h.ne, h.lB, h.iB⟩
theorem Lf.bool (h : Lf wB W g A c bs gl gi L cs inn) {k : Nat} {b : Bool} (hk : inn[k]? = some b) : W.cell? ⟨gi, k, none⟩ = some (.bool b) := by
  rw [cell_of_row W gi k _ _ (0, 0) h.ir]
  simp [hk]
end
end Go.Proofs.YtdjjbmefaggelaaGreat

/- Free blocks parted by used ones, and which of them are in their lists: ListFirst's plain part. No program in sight. -/
namespace Go.Proofs.YtdjjbmefaggelaaGreat

/-- Each with a used one of 32 bytes behind it. -/
def inter : List Bk → List Bk
  | [] => []
  | x :: r => x :: ⟨x.off + x.size, 32, true⟩ :: inter r
theorem inter_sub (l : List Bk) : l.Sublist (inter l) := by
  induction l with
  | nil => exact List.Sublist.slnil
  | cons y r ih => exact (ih.cons _).cons_cons y
theorem inter_ne {l : List Bk} {e : Nat} (h : tile 184 (inter l) e) {j k : Nat} {x y : Bk} (hj : l[j]? = some x) (hk : l[k]? = some y) (hne : j ≠ k) : x.off ≠ y.off := by
  have hp := (tile_ne (inter l) 184 e h).sublist (inter_sub l)
  rw [List.pairwise_iff_getElem] at hp
  obtain ⟨j1, rfl⟩ := List.getElem?_eq_some_iff.1 hj
  obtain ⟨k1, rfl⟩ := List.getElem?_eq_some_iff.1 hk
  rcases Nat.lt_or_gt_of_ne hne with h1 | h1
  · exact hp j k j1 k1 h1
  · exact fun e => hp k j k1 j1 h1 e.symm

/-- Which are in their lists. -/
def InL (fr : List Bk) (inn : List Bool) (L : Nat → List Nat) : Prop := ∀ (k : Nat) (x : Bk) (c : Nat), fr[k]? = some x → classI (x.size : Int) = (c : Int) → (inn[k]? = some true ↔ x.off ∈ L c)
section
variable {fr : List Bk} {inn : List Bool} {L : Nat → List Nat} {e k c : Nat} {x : Bk}
theorem InL.put (h : InL fr inn L) (ht : tile 184 (inter fr) e) (hx : fr[k]? = some x) (hc : classI (x.size : Int) = (c : Int)) (hk : k < inn.length) : InL fr (inn.set k true) (setL L c (x.off :: L c)) := fun j y d hy hd => by
  by_cases hjk : j = k
  · subst hjk
    obtain rfl : y = x := Option.some.inj (hy.symm.trans hx)
    obtain rfl : d = c := by omega
    rw [List.getElem?_set_self hk]
    simp [setL]
  · have hne := inter_ne ht hy hx hjk
    rw [List.getElem?_set_ne (fun h => hjk h.symm), h j y d hy hd]
    unfold setL
    split
    · rename_i e; subst e; simp [hne]
    · exact Iff.rfl
theorem InL.take (h : InL fr inn L) (ht : tile 184 (inter fr) e) (hx : fr[k]? = some x) (hc : classI (x.size : Int) = (c : Int)) (hk : k < inn.length) : InL fr (inn.set k false) (setL L c ((L c).filter fun q => decide (q ≠ x.off))) := fun j y d hy hd => by
  by_cases hjk : j = k
  · subst hjk
    obtain rfl : y = x := Option.some.inj (hy.symm.trans hx)
    obtain rfl : d = c := by omega
    rw [List.getElem?_set_self hk]
    simp [setL]
  · have hne := inter_ne ht hy hx hjk
    rw [List.getElem?_set_ne (fun h => hjk h.symm), h j y d hy hd]
    unfold setL
    split
    · rename_i e; subst e; simp [hne]
    · exact Iff.rfl
end
end Go.Proofs.YtdjjbmefaggelaaGreat

/- The walk of ListFirst. -/
namespace Go.Proofs.YtdjjbmefaggelaaGreat
open Go.RowKit

theorem sl_infb : (Tryz.prog.info? 73).map (fun i => (i.zero, i.size, i.bytes)) = some (some (.slice none 0 0), 1, 24) := by kernel_rfl
theorem made_one (z : Value) (n : Nat) : madeCells #[z] n = (List.replicate n z).toArray := by
  apply Array.ext
  · simp [madeCells]
  · intro i h1 h2
    simp [madeCells, Nat.mod_one]
theorem mk_sls (W : World) : (Instr.makeSlice 66 (.int .i64 22) (.int .i64 22)).run Tryz.prog W = .ok (.slice (some ⟨W.heap.size, 0, none⟩) 22 22) (W.alloc (.cells (List.replicate 22 (Value.slice none 0 0)).toArray 73)) := by
  have h := run_make_row' (P := Tryz.prog) 66 73 (.slice none 0 0) 24 Tryz.underlying66 sl_infb rfl .i64 .i64 22 (by omega) (by omega) W
  rw [made_one] at h
  exact h

theorem run_one_int (w : World) (x : Int) : (Instr.buildSlice 73 1 #[(0, .int .i64 x)]).run Tryz.prog w = .ok (.slice (some ⟨w.heap.size, 0, none⟩) 1 1) (w.alloc (.cells #[.int .i64 x] 3)) := by
  obtain ⟨i0, hi, hz0, hz1, hz2⟩ := info_parts int_inf
  refine run_buildSlice w 73 3 1 _ _ i0 _ Tryz.underlying73 hi hz0 (by omega) (by omega) ?_
  rw [hz1]
  have e : Array.range (1 * 1) = #[0] := by decide
  rw [e]
  simp [Instr.fill, Value.cells]
theorem iv_one (l : List Nat) : ∀ u ∈ l.map iV, u.oneCell' = true := by
  intro u hu
  obtain ⟨x, _, rfl⟩ := List.mem_map.1 hu
  rfl
theorem rw_cells {S : Nat → Prop} {w : World} {ad : Addr} {l : List Nat} (h : Rw S w (some ad) l) : ∀ j u, (l.map iV)[j]? = some u → w.cell? (ad.add j) = some u := by
  intro j u hu
  rw [List.getElem?_map, Option.map_eq_some_iff] at hu
  obtain ⟨x, hx, rfl⟩ := hu
  have hj : j < l.length := by
    rcases Nat.lt_or_ge j l.length with h1 | h1
    · exact h1
    · rw [List.getElem?_eq_none h1] at hx; cases hx
  obtain ⟨b, off, e, _, _, hc⟩ := h (by omega)
  cases e
  have e : (⟨b, off, none⟩ : Addr).add j = ⟨b, off + j, none⟩ := by unfold Addr.add; split <;> simp_all
  rw [e]
  exact hc j x hx
theorem own_one (w : World) (x : Nat) : (w.alloc (.cells #[.int .i64 (x : Int)] 3)).ownsRow w.heap.size 3 1 (.slice (some ⟨w.heap.size, 0, none⟩) 1 1) 1 ([x].map iV) :=
  ⟨rfl, .inr ⟨w.heap.size, 1, _, rfl, Nat.le_refl _, heap_alloc_new w _, Nat.le_refl _, by unfold maxLen; omega, rfl, rfl⟩⟩
/-- append(own, src...) for numbers. -/
theorem append_ints {ops : Array Oper} {rest : List Oper} {o : Oper} {a : Act} {w : World} {Q : Exit → Act → World → Prop} (hgd : o.guard = none) (s x : Operand) (ho : o.op = .call { callee := .builtin .append, args := #[s, x], argTypes := #[73, 73] })
    (base : Nat) (v : Value) (n : Nat) (bs : List Nat) (hs : a.eval s = v) (hown : w.ownsRow base 3 1 v n (bs.map iV))
    (S : Nat → Prop) (A : Option Addr) (c : Nat) (cs : List Nat) (hx : a.eval x = .slice A cs.length c) (hr : Rw S w A cs) (hA : A = none → c = 0)
    (hb : n + cs.length ≤ 1000000) (hbase : base ≤ w.heap.size)
    (h : ∀ v' w', w'.ownsRow base 3 1 v' (n + cs.length) ((bs ++ cs).map iV) → w.grownBy w' v.ownBlock → wpList Tryz.prog ops Q rest (a.put o.dst v') w') : wpList Tryz.prog ops Q (o :: rest) a w := by
  obtain ⟨i0, hi, hz0, hz1, hz2⟩ := info_parts int_inf
  rcases A with _ | ad
  · obtain rfl := hA rfl
    have hm : cs.length = 0 := by
      rcases Nat.eq_zero_or_pos cs.length with h0 | h0
      · exact h0
      · obtain ⟨_, _, e1, _⟩ := hr h0
        cases e1
    obtain rfl : cs = [] := List.eq_nil_of_length_eq_zero hm
    refine wpList_append_own_none hgd s x 73 ho base 3 i0 1 Tryz.underlying73 hi v n _ hs hown hx ?_
    exact h v w (by simpa using hown) (World.grownBy.refl w _)
  · refine wpList_append_own w hgd s x 73 ho base 3 i0 (.int .i64 0) 1 8 Tryz.underlying73 hi hz0 hz1 hz2 rfl (by decide) v n _ hs hown ad cs.length c (cs.map iV) hx (by simp) (rw_cells hr) (iv_one cs) (by unfold maxLen; omega) (by omega) hbase ?_
    intro v' w' h1 h2 _
    exact h v' w' (by simpa using h1) h2
/-- A row of this call's own is none of what was there. -/
theorem rw_own {S : Nat → Prop} {w : World} {base n : Nat} {A : Option Addr} {c : Nat} {l : List Nat} (h : w.ownsRow base 3 1 (.slice A n c) n (l.map iV)) (hn : n = l.length) (hS : ∀ k, base ≤ k → ¬ S k) : Rw S w A l ∧ (A = none → c = 0) := by
  refine ⟨fun h0 => ?_, fun e => ?_⟩
  · rcases h.2 with ⟨_, h0'⟩ | ⟨g, _, _, h', _⟩
    · omega
    · injection h' with e
      subst e
      refine ⟨g, 0, rfl, (h.lt g rfl).2, hS g (h.lt g rfl).1, fun j x hx => ?_⟩
      have hj : j < l.length := by
        rcases Nat.lt_or_ge j l.length with h | h
        · exact h
        · rw [List.getElem?_eq_none h] at hx; cases hx
      rw [Nat.zero_add, h.cellAt j (by omega), List.getElem?_map, hx]
      rfl
  · subst e
    rcases h.2 with ⟨h', _⟩ | ⟨_, _, _, h', _⟩
    · injection h' with _ _ e
    · injection h' with e; cases e
end Go.Proofs.YtdjjbmefaggelaaGreat


/- What the program's fits (layer 10) are to tell: the words in which the laws ask for it. -/
namespace Go.Proofs.YtdjjbmefaggelaaGreat
open Go.RowKit

/-- What Find tells. -/
def findV (bs : List UInt8) (s : Int) : Value := if isSz s = true then .tuple #[.int .i64 (((findB bs s).getD 0 : Nat) : Int), errV (findB bs s).isSome 3] else .tuple #[.int .i64 0, errV false 1]
def FindC : Prop := ∀ (w : World) (g base cap c : Nat) (A : Option Addr) (bs : List UInt8) (s : Int), Ar w 88 g base cap A c bs → base ≤ 4611686018427387904 → bs.length ≤ 16384 → (-9223372036854775808 ≤ s ∧ s ≤ 9223372036854775807) →
  Calls Tryz.prog 57 #[.pointer (some ⟨g, 0, none⟩), .int .i64 s] w fun e w' => e = .returned (findV bs s) ∧ Below w.heap.size w w'
end Go.Proofs.YtdjjbmefaggelaaGreat

/- What the program's check (layer 11) is to tell. -/
namespace Go.Proofs.YtdjjbmefaggelaaGreat
open Go.RowKit

def CheckC : Prop := ∀ (w : World) (g base cap c : Nat) (A : Option Addr) (bs : List UInt8) (x : Bool), Ar w 88 g base cap A c bs → base ≤ 4611686018427387904 → bs.length ≤ 16384 → checkB bs = x →
  Calls Tryz.prog 20 #[.pointer (some ⟨g, 0, none⟩)] w fun e w' => e = .returned (errV x 3) ∧ Below w.heap.size w w'
end Go.Proofs.YtdjjbmefaggelaaGreat

/- Layer 11's laws: the head (the document's example). -/
namespace Go.Proofs.YtdjjbmefaggelaaGreat
open Go.RowKit

end Go.Proofs.YtdjjbmefaggelaaGreat

/- The document's heap in memory: how it lies there; Len, At, Used. -/
namespace Go.Proofs.YtdjjbmefaggelaaGreat
open Go.RowKit

/-- At block p lies a heap: its blocks, its slices of bytes, its lists, each in rows of its own; all of it in the blocks F. -/
structure Hm (F : Nat → Prop) (w : World) (p : Nat) (H : Hp) (Vb Vd : Value) (gl : Nat) (cs : List Value) : Prop where
  obj : w.heap[p]? = some (.cells #[.int .i64 (H.cap : Int), Vb, Vd, .slice (some ⟨gl, 0, none⟩) 22 22] 69 (0, 0))
  ob : w.ownsRow 0 53 3 Vb H.blks.length (flatK H.blks)
  od : w.ownsRow 0 28 1 Vd H.ds.length (H.ds.map Prod.fst)
  row : w.heap[gl]? = some (.cells cs.toArray 73 (0, 0))
  len : cs.length = 22
  at_ : ∀ d, d < 22 → ∃ v, cs[d]? = some v ∧ w.ownsRow 0 3 1 v (H.lists d).length ((H.lists d).map iV)
  fp : F p
  fl : F gl
  fb : ∀ k, Vb.ownBlock = some k → F k
  fd : ∀ k, Vd.ownBlock = some k → F k
  fi : ∀ d v k, d < 22 → cs[d]? = some v → v.ownBlock = some k → F k
  sl : ∀ d ∈ H.ds, ∃ A n c, d.1 = .slice A n c
/-- The same, where its parts lie left open. -/
def HM (F : Nat → Prop) (w : World) (p : Nat) (H : Hp) : Prop := ∃ Vb Vd gl cs, Hm F w p H Vb Vd gl cs
/-- Since w only blocks of the heap have changed, and it has become another. -/
def HT (F : Nat → Prop) (w : World) (p : Nat) (H' : Hp) (w' : World) : Prop := ∃ F', HM F' w' p H' ∧ Tch F w w' ∧ ∀ k, F' k → F k ∨ w.heap.size ≤ k

theorem own_keep {w w' : World} {base n size : Nat} {t : TypeId} {v : Value} {xs : List Value} (h : w.ownsRow base t size v n xs) (hk : ∀ k, v.ownBlock = some k → w'.heap[k]? = w.heap[k]?) : w'.ownsRow base t size v n xs := by
  refine ⟨h.1, ?_⟩
  rcases h.2 with h2 | ⟨g, cap, cur, hv, hg, hh, r⟩
  · exact .inl h2
  · exact .inr ⟨g, cap, cur, hv, hg, (hk g (by rw [hv]; rfl)).trans hh, r⟩
theorem own_base {w : World} {base base' n size : Nat} {t : TypeId} {v : Value} {xs : List Value} (h : w.ownsRow base t size v n xs) (hb : base' ≤ base) : w.ownsRow base' t size v n xs := by
  refine ⟨h.1, ?_⟩
  rcases h.2 with h2 | ⟨g, cap, cur, hv, hg, r⟩
  · exact .inl h2
  · exact .inr ⟨g, cap, cur, hv, Nat.le_trans hb hg, r⟩
/-- Rows of two types are two blocks. -/
theorem own_two {w : World} {base n size : Nat} {t t' : TypeId} {v : Value} {xs : List Value} {g : Nat} {o : Array Value} (h : w.ownsRow base t size v n xs) (hg : w.heap[g]? = some (.cells o t' (0, 0))) (ht : t ≠ t') : ∀ k, v.ownBlock = some k → k ≠ g := fun k hk e => by
  subst e
  rcases h.2 with ⟨rfl, _⟩ | ⟨g, cap, cur, rfl, _, hh, _⟩
  · cases hk
  · injection hk with hk
    have hk : g = k := hk
    subst hk
    rw [hh] at hg
    injection hg with hg
    injection hg with _ hg _
    exact ht hg
theorem own_lt {w : World} {base n size : Nat} {t : TypeId} {v : Value} {xs : List Value} (h : w.ownsRow base t size v n xs) {k : Nat} (hk : v.ownBlock = some k) : k < w.heap.size := (h.lt k hk).2

section
variable {F F' : Nat → Prop} {w w' w2 : World} {p gl : Nat} {H H' : Hp} {Vb Vd : Value} {cs : List Value}
theorem Hm.lt (h : Hm F w p H Vb Vd gl cs) : p < w.heap.size := heap_lt h.obj
theorem Hm.c0 (h : Hm F w p H Vb Vd gl cs) : w.cell? ⟨p, 0, none⟩ = some (.int .i64 (H.cap : Int)) := by rw [cell_of_row w p 0 _ _ (0, 0) h.obj]; rfl
theorem Hm.c1 (h : Hm F w p H Vb Vd gl cs) : w.cell? ⟨p, 1, none⟩ = some Vb := by rw [cell_of_row w p 1 _ _ (0, 0) h.obj]; rfl
theorem Hm.c2 (h : Hm F w p H Vb Vd gl cs) : w.cell? ⟨p, 2, none⟩ = some Vd := by rw [cell_of_row w p 2 _ _ (0, 0) h.obj]; rfl
theorem Hm.c3 (h : Hm F w p H Vb Vd gl cs) : w.cell? ⟨p, 3, none⟩ = some (.slice (some ⟨gl, 0, none⟩) 22 22) := by rw [cell_of_row w p 3 _ _ (0, 0) h.obj]; rfl
theorem Hm.thaw (h : Hm F w p H Vb Vd gl cs) (i : Nat) : w.frozen? ⟨p, i, none⟩ = false := frozen_of_row w p i _ _ h.obj
/-- Nothing of it has changed. -/
theorem Hm.keep (h : Hm F w p H Vb Vd gl cs) (hk : ∀ k, F k → w'.heap[k]? = w.heap[k]?) : Hm F w' p H Vb Vd gl cs :=
  ⟨(hk p h.fp).trans h.obj, own_keep h.ob (fun k e => hk k (h.fb k e)), own_keep h.od (fun k e => hk k (h.fd k e)), (hk gl h.fl).trans h.row, h.len,
   fun d hd => by obtain ⟨v, h1, h2⟩ := h.at_ d hd; exact ⟨v, h1, own_keep h2 (fun k e => hk k (h.fi d v k hd h1 e))⟩, h.fp, h.fl, h.fb, h.fd, h.fi, h.sl⟩
/-- The blocks that it really has. -/
def feet (p gl : Nat) (Vb Vd : Value) (cs : List Value) (k : Nat) : Prop := k = p ∨ k = gl ∨ Vb.ownBlock = some k ∨ Vd.ownBlock = some k ∨ ∃ d v, d < 22 ∧ cs[d]? = some v ∧ v.ownBlock = some k
theorem Hm.tight (h : Hm F w p H Vb Vd gl cs) : Hm (feet p gl Vb Vd cs) w p H Vb Vd gl cs :=
  ⟨h.obj, h.ob, h.od, h.row, h.len, h.at_, .inl rfl, .inr (.inl rfl), fun _ e => .inr (.inr (.inl e)), fun _ e => .inr (.inr (.inr (.inl e))), fun d v _ hd h1 e => .inr (.inr (.inr (.inr ⟨d, v, hd, h1, e⟩))), h.sl⟩
theorem Hm.feetF (h : Hm F w p H Vb Vd gl cs) {k : Nat} (hk : feet p gl Vb Vd cs k) : F k := by
  rcases hk with rfl | rfl | e | e | ⟨d, v, hd, h1, e⟩
  · exact h.fp
  · exact h.fl
  · exact h.fb k e
  · exact h.fd k e
  · exact h.fi d v k hd h1 e
theorem Hm.feet_lt (h : Hm F w p H Vb Vd gl cs) {k : Nat} (hk : feet p gl Vb Vd cs k) : k < w.heap.size := by
  rcases hk with rfl | rfl | e | e | ⟨d, v, hd, h1, e⟩
  · exact h.lt
  · exact heap_lt h.row
  · exact own_lt h.ob e
  · exact own_lt h.od e
  · obtain ⟨v', h1', h2⟩ := h.at_ d hd
    rw [h1] at h1'
    injection h1' with h1'
    subst h1'
    exact own_lt h2 e
theorem Hm.below (h : Hm F w p H Vb Vd gl cs) (hb : Below w.heap.size w w') : Hm F w' p H Vb Vd gl cs := by
  have h1 := h.tight.keep (w' := w') (fun k hk => hb.block k (h.feet_lt hk))
  exact ⟨h1.obj, h1.ob, h1.od, h1.row, h1.len, h1.at_, h.fp, h.fl, h.fb, h.fd, h.fi, h.sl⟩
theorem HM.below (h : HM F w p H) (hb : Below w.heap.size w w') : HM F w' p H := by
  obtain ⟨Vb, Vd, gl, cs, h⟩ := h
  exact ⟨Vb, Vd, gl, cs, h.below hb⟩
theorem HM.tch {S : Nat → Prop} (h : HM F w p H) (ht : Tch S w w') (hd : ∀ k, F k → ¬ S k) : HM F w' p H := by
  obtain ⟨Vb, Vd, gl, cs, h⟩ := h
  have h1 := h.tight.keep (w' := w') (fun k hk => ht.block k (h.feet_lt hk) (hd k (h.feetF hk)))
  exact ⟨Vb, Vd, gl, cs, h1.obj, h1.ob, h1.od, h1.row, h1.len, h1.at_, h.fp, h.fl, h.fb, h.fd, h.fi, h.sl⟩
theorem HT.refl (h : HM F w p H) : HT F w p H w := ⟨F, h, Tch.refl _ _, fun _ hk => .inl hk⟩
theorem HT.of_below (h : HM F w p H) (hb : Below w.heap.size w w') : HT F w p H w' := ⟨F, h.below hb, Tch.of_below hb, fun _ hk => .inl hk⟩
theorem HT.trans {F1 : Nat → Prop} (ht : Tch F w w') (hF : ∀ k, F1 k → F k ∨ w.heap.size ≤ k) (k : HT F1 w' p H' w2) : HT F w p H' w2 := by
  obtain ⟨F2, h2, t2, f2⟩ := k
  refine ⟨F2, h2, ht.trans t2 (fun i hi h1 => ?_), fun j hj => ?_⟩
  · rcases hF i h1 with h | h
    · exact h
    · omega
  · rcases f2 j hj with h | h
    · exact hF j h
    · exact .inr (Nat.le_trans ht.size h)
theorem HT.then (h : HT F w p H w') (k : ∀ F1, HM F1 w' p H → HT F1 w' p H' w2) : HT F w p H' w2 := by
  obtain ⟨F1, h1, t1, f1⟩ := h
  exact HT.trans t1 f1 (k F1 h1)
theorem HT.after (hb : Below w.heap.size w w') (h : HT F w' p H' w2) : HT F w p H' w2 := by
  obtain ⟨F1, h1, t1, f1⟩ := h
  exact ⟨F1, h1, (Tch.of_below hb).trans t1 (fun _ _ h => h), fun k hk => (f1 k hk).imp id (fun h => Nat.le_trans hb.size h)⟩
theorem HT.next (h : HT F w p H' w') (hb : Below w'.heap.size w' w2) : HT F w p H' w2 := by
  obtain ⟨F1, h1, t1, f1⟩ := h
  exact ⟨F1, h1.below hb, t1.trans (Tch.of_below (S := F) hb) (fun _ _ h => h), f1⟩
/-- A block's cells. -/
theorem own_blk {w : World} {n : Nat} {V : Value} {l : List Bk} (h : w.ownsRow 0 53 3 V n (flatK l)) {i : Nat} {x : Bk} (hx : l[i]? = some x) : ∃ b c, V = .slice (some ⟨b, 0, none⟩) n c ∧ b < w.heap.size ∧ n = l.length ∧ n ≤ c ∧ (w.cell? ⟨b, i * 3, none⟩ = some (.int .i64 (x.off : Int)) ∧ w.cell? ⟨b, i * 3 + 1, none⟩ = some (.int .i64 (x.size : Int)) ∧ w.cell? ⟨b, i * 3 + 2, none⟩ = some (.bool x.used)) ∧ ∀ j, w.frozen? ⟨b, j, none⟩ = false := by
  have hi : i < l.length := by
    rcases Nat.lt_or_ge i l.length with h' | h'
    · exact h'
    · rw [List.getElem?_eq_none h'] at hx; cases hx
  have hn : n = l.length := by
    have h1 := h.1
    rw [flatK_length] at h1
    omega
  rcases h.2 with ⟨_, h0⟩ | ⟨b, c, cur, rfl, _, hh, hnc, _⟩
  · omega
  · obtain ⟨f0, f1, f2⟩ := flatK_get l i x hx
    refine ⟨b, c, rfl, heap_lt hh, hn, hnc, ⟨?_, ?_, ?_⟩, fun j => frozen_of_row w b j _ _ hh⟩
    · rw [h.cellAt _ (by omega)]; exact f0
    · rw [h.cellAt _ (by omega)]; exact f1
    · rw [h.cellAt _ (by omega)]; exact f2
end
end Go.Proofs.YtdjjbmefaggelaaGreat

/- The contracts of the document's heap: New, Len, At, Used. -/
namespace Go.Proofs.YtdjjbmefaggelaaGreat
open Go.RowKit

/-- A place in a row, or -1. -/
def ixV (x : Option Nat) : Int := match x with
  | some i => (i : Int)
  | none => -1
theorem atB_drop (o : Int) (l : List Bk) (j : Nat) (x : Bk) (hx : l[j]? = some x) (h : atB o l = (atB o (l.drop j)).map (· + j)) :
    ((x.off : Int) = o → atB o l = some j) ∧ ((x.off : Int) ≠ o → atB o l = (atB o (l.drop (j + 1))).map (· + (j + 1))) := by
  have hj : j < l.length := by
    rcases Nat.lt_or_ge j l.length with h' | h'
    · exact h'
    · rw [List.getElem?_eq_none h'] at hx; cases hx
  have e : l[j] = x := by rw [List.getElem?_eq_getElem hj] at hx; injection hx
  rw [List.drop_eq_getElem_cons hj, e] at h
  refine ⟨fun hq => ?_, fun hq => ?_⟩
  · rw [h]
    unfold atB
    rw [if_pos hq]
    simp
  · rw [h]
    rw [atB, if_neg hq]
    cases atB o (l.drop (j + 1)) with
    | none => rfl
    | some k => simp; omega
theorem sumB_take {l : List Bk} {j : Nat} {x : Bk} (hx : l[j]? = some x) : sumB (l.take (j + 1)) = sumB (l.take j) + x.size := by
  rw [List.take_add_one, hx, sumB_app]
  simp [sumB]
theorem sumB_le (l : List Bk) (j : Nat) : sumB (l.take j) ≤ sumB l := by
  have : sumB l = sumB (l.take j) + sumB (l.drop j) := by rw [← sumB_app, List.take_append_drop]
  omega

section
variable {F : Nat → Prop} {w : World} {p gl : Nat} {H : Hp} {Vb Vd : Value} {cs : List Value}
set_option maxHeartbeats 1000000 in
theorem hlen_any (h : Hm F w p H Vb Vd gl cs) (hl : lenB H.blks ≤ 100000) (hn : H.blks.length ≤ 100000) :
    Calls Tryz.prog 38 #[.pointer (some ⟨p, 0, none⟩)] w fun e w' => e = .returned (.int .i64 (lenB H.blks : Int)) ∧ w = w' := by
  have c1 := h.c1
  obtain ⟨A, c, rfl⟩ := own_sl h.ob
  have HO := Lib.hid h.ob
  obtain ⟨l, hL⟩ : ∃ l, H.blks = l := ⟨_, rfl⟩
  obtain ⟨n, hN⟩ : ∃ n, l.length = n := ⟨_, rfl⟩
  rw [hL] at HO hl hn c1 ⊢
  rw [hN] at HO hn c1
  unfold lenB at hl ⊢
  have HN := Lib.hid hN
  clear h hL hN
  go_enter Tryz.func38, Tryz.ntmps38
  go_wp2
  go_loopw [3, 4] (fun s i wr => ∃ j : Nat, s = .int .i64 ((184 + sumB (l.take j) : Nat) : Int) ∧ i = .int .i64 (j : Int) ∧ j ≤ n ∧ w = wr) (fun _ i _ => n - (intOf i).toNat)
  case atStart => exact ⟨0, rfl, rfl, Nat.zero_le _, rfl⟩
  case round =>
    obtain ⟨j, rfl, rfl, hj, rfl⟩ := hrel
    by_cases hlt : j < n
    · obtain ⟨x, hx⟩ : ∃ x, l[j]? = some x := ⟨l[j]'(by rw [HN.out]; exact hlt), List.getElem?_eq_getElem _⟩
      obtain ⟨b, c', hV, hb, _, hnc, ⟨_, d1, _⟩, _⟩ := own_blk HO.out hx
      injection hV with hV1 _ hV3
      subst hV1 hV3
      have hsum := sumB_take hx
      have hle := sumB_le l (j + 1)
      have hji : (j : Int) < (n : Int) := by omega
      obtain ⟨sz, hsz⟩ : ∃ sz, x.size = sz := ⟨_, rfl⟩
      rw [hsz] at d1 hsum
      generalize hsm : sumB (l.take j) = sm at hsum ⊢
      have HS := Lib.hid hsum
      have hq : 184 + sm + sz ≤ 100000 := by omega
      clear hx hsum hsm hle hsz
      go_wp2
      go_roundw
      case rel => exact ⟨j + 1, by rw [HS.out]; go_num, by go_num, by omega, trivial⟩
      case measure => simp only [intOf]; omega
    · obtain rfl : n = j := by omega
      have hle := sumB_le l n
      have e : sumB (l.take n) = sumB l := by rw [List.take_of_length_le (by rw [HN.out]; exact Nat.le_refl _)]
      have HE := Lib.hid e
      clear e
      go_wp2
      go_ret
      exact ⟨rt_i (by rw [HE.out]), rfl⟩

set_option maxHeartbeats 1000000 in
theorem hat_any (h : Hm F w p H Vb Vd gl cs) (hn : H.blks.length ≤ 100000) (o : Int) (ho : -9223372036854775808 ≤ o ∧ o ≤ 9223372036854775807) (x : Option Nat) (hx : atB o H.blks = x) :
    Calls Tryz.prog 41 #[.pointer (some ⟨p, 0, none⟩), .int .i64 o] w fun e w' => e = .returned (.int .i64 (ixV x)) ∧ w = w' := by
  have c1 := h.c1
  obtain ⟨A, c, rfl⟩ := own_sl h.ob
  have HO := Lib.hid h.ob
  obtain ⟨l, hL⟩ : ∃ l, H.blks = l := ⟨_, rfl⟩
  obtain ⟨n, hN⟩ : ∃ n, l.length = n := ⟨_, rfl⟩
  rw [hL] at HO hn hx c1
  rw [hN] at HO hn c1
  have HN := Lib.hid hN
  have HX := Lib.hid hx
  clear h hL hN hx
  go_enter Tryz.func41, Tryz.ntmps41
  go_wp2
  go_loopw [5] (fun i wr => ∃ j : Nat, i = .int .i64 (j : Int) ∧ j ≤ n ∧ atB o l = (atB o (l.drop j)).map (· + j) ∧ w = wr) (fun i _ => n - (intOf i).toNat)
  case atStart => exact ⟨0, rfl, Nat.zero_le _, by simp, rfl⟩
  case round =>
    obtain ⟨j, rfl, hj, hat, rfl⟩ := hrel
    by_cases hlt : j < n
    · obtain ⟨y, hy⟩ : ∃ y, l[j]? = some y := ⟨l[j]'(by rw [HN.out]; exact hlt), List.getElem?_eq_getElem _⟩
      obtain ⟨b, c', hV, hb, _, hnc, ⟨d0, _, _⟩, _⟩ := own_blk HO.out hy
      injection hV with hV1 _ hV3
      subst hV1 hV3
      have had := atB_drop o l j y hy hat
      have hji : (j : Int) < (n : Int) := by omega
      obtain ⟨yo, hyo⟩ : ∃ yo, y.off = yo := ⟨_, rfl⟩
      rw [hyo] at d0 had
      clear hy hat hyo
      by_cases hq : (yo : Int) = o
      · have e : x = some j := by rw [← HX.out]; exact had.1 hq
        subst e
        clear had HX
        subst hq
        go_wp2
        go_ret
        exact ⟨rfl, rfl⟩
      · have hq2 : ((yo : Int) == o) = false := by rw [beq_eq_false_iff_ne]; exact hq
        have HA := Lib.hid (had.2 hq)
        clear had hq
        go_wp2
        go_roundw
        case rel => exact ⟨j + 1, by go_num, by omega, HA.out, trivial⟩
        case measure => simp only [intOf]; omega
    · have e : x = none := by
        rw [← HX.out, hat, List.drop_of_length_le (by rw [HN.out]; omega)]
        rfl
      subst e
      clear hat HX
      go_wp2
      go_ret
      exact ⟨rfl, rfl⟩

set_option maxHeartbeats 1000000 in
theorem husd_any (h : Hm F w p H Vb Vd gl cs) (hn : H.blks.length ≤ 100000) (o : Int) (ho : -9223372036854775808 ≤ o ∧ o ≤ 9223372036854775807) (x : Option Nat) (hx : usedB H.blks o = x) :
    Calls Tryz.prog 32 #[.pointer (some ⟨p, 0, none⟩), .int .i64 o] w fun e w' => e = .returned (.int .i64 (ixV x)) ∧ w = w' := by
  cases ha : atB o H.blks with
  | none =>
    obtain rfl : none = x := by rw [← hx]; unfold usedB; rw [ha]
    have HA := Lib.hid (hat_any h hn o ho _ ha)
    dsimp only [ixV] at HA
    clear ha hx
    go_enter Tryz.func32, Tryz.ntmps32
    go_wp2_with fail
    refine HA.out.mono ?_
    rintro e w' ⟨rfl, rfl⟩
    go_wp2
    go_ret
    exact ⟨rfl, rfl⟩
  | some i =>
    have HA := Lib.hid (hat_any h hn o ho _ ha)
    dsimp only [ixV] at HA
    obtain ⟨hi, _⟩ := atB_at ha
    have hget := bkAt_get hi
    obtain ⟨b, c, rfl, hb, _, hnc, ⟨_, _, d2⟩, _⟩ := own_blk h.ob hget
    have c1 := h.c1
    have hxx : (if (bkAt H.blks i).used = true then some i else none) = x := by rw [← hx]; unfold usedB; rw [ha]
    obtain ⟨u, hu⟩ : ∃ u, (bkAt H.blks i).used = u := ⟨_, rfl⟩
    rw [hu] at d2 hxx
    have hii : (i : Int) < (H.blks.length : Int) := by omega
    obtain ⟨n, hN⟩ : ∃ n, H.blks.length = n := ⟨_, rfl⟩
    rw [hN] at *
    clear hx ha hget hu h hN
    cases u with
    | true =>
      obtain rfl : some i = x := by rw [← hxx]; simp
      clear hxx
      go_enter Tryz.func32, Tryz.ntmps32
      go_wp2_with fail
      refine HA.out.mono ?_
      rintro e w' ⟨rfl, rfl⟩
      go_wp2
      go_ret
      exact ⟨rfl, rfl⟩
    | false =>
      obtain rfl : none = x := by rw [← hxx]; simp
      clear hxx
      go_enter Tryz.func32, Tryz.ntmps32
      go_wp2_with fail
      refine HA.out.mono ?_
      rintro e w' ⟨rfl, rfl⟩
      go_wp2
      go_ret
      exact ⟨rfl, rfl⟩
end
end Go.Proofs.YtdjjbmefaggelaaGreat

/- The contracts of the document's heap: in, out. -/
namespace Go.Proofs.YtdjjbmefaggelaaGreat
open Go.RowKit

section
variable {F : Nat → Prop} {w w' : World} {p gl : Nat} {H : Hp} {Vb Vd : Value} {cs : List Value}
/-- One list is another. -/
theorem Hm.lset (h : Hm F w p H Vb Vd gl cs) {d : Nat} (hd : d < 22) (v : Value) (l : List Nat) (hown : w.ownsRow 0 3 1 v l.length (l.map iV)) :
    Hm (fun k => F k ∨ v.ownBlock = some k) (w.setCell ⟨gl, d, none⟩ v) p { H with lists := setL H.lists d l } Vb Vd gl (cs.set d v) := by
  have hk : ∀ k, k ≠ gl → (w.setCell ⟨gl, d, none⟩ v).heap[k]? = w.heap[k]? := fun k hk => Below.heap_setCell w ⟨gl, d, none⟩ v k hk
  have hpg : p ≠ gl := fun e => by
    have h1 := h.obj
    rw [e, h.row] at h1
    injection h1 with h1
    injection h1 with _ h1 _
    exact absurd h1 (by decide)
  refine ⟨(hk p hpg).trans h.obj, own_keep h.ob (fun k e => hk k (own_two h.ob h.row (by decide) k e)), own_keep h.od (fun k e => hk k (own_two h.od h.row (by decide) k e)), ?_, by rw [List.length_set]; exact h.len, fun e he => ?_, .inl h.fp, .inl h.fl, fun k e => .inl (h.fb k e), fun k e => .inl (h.fd k e), fun e u k he hu hk => ?_, h.sl⟩
  · have := heap_setCell_same w gl d _ _ v h.row
    rw [this]
    simp
  · by_cases hed : e = d
    · subst hed
      refine ⟨v, by rw [List.getElem?_set_self (by rw [h.len]; exact hd)], ?_⟩
      have e2 : setL H.lists e l e = l := by simp [setL]
      dsimp only
      rw [e2]
      exact own_keep hown (fun k e => hk k (own_two hown h.row (by decide) k e))
    · obtain ⟨u, h1, h2⟩ := h.at_ e he
      have e2 : setL H.lists d l e = H.lists e := by simp [setL, hed]
      refine ⟨u, by rw [List.getElem?_set_ne (fun h => hed h.symm)]; exact h1, ?_⟩
      dsimp only
      rw [e2]
      exact own_keep h2 (fun k e => hk k (own_two h2 h.row (by decide) k e))
  · by_cases hed : e = d
    · subst hed
      rw [List.getElem?_set_self (by rw [h.len]; exact hd)] at hu
      injection hu with hu
      subst hu
      exact .inr hk
    · rw [List.getElem?_set_ne (fun h => hed h.symm)] at hu
      exact .inl (h.fi e u k he hu hk)
theorem Hm.lcell (h : Hm F w p H Vb Vd gl cs) {d : Nat} (hd : d < 22) : ∃ A c, w.cell? ⟨gl, d, none⟩ = some (.slice A (H.lists d).length c) ∧ w.ownsRow 0 3 1 (.slice A (H.lists d).length c) (H.lists d).length ((H.lists d).map iV) := by
  obtain ⟨v, h1, h2⟩ := h.at_ d hd
  obtain ⟨A, c, rfl⟩ := own_sl h2
  refine ⟨A, c, ?_, h2⟩
  rw [cell_of_row w gl d _ _ (0, 0) h.row]
  simpa using h1
theorem own_rw {A : Option Addr} {c : Nat} {l : List Nat} (h : w.ownsRow 0 3 1 (.slice A l.length c) l.length (l.map iV)) : Rw (fun _ => False) w A l ∧ (A = none → c = 0) := rw_own h rfl (fun _ _ => id)
theorem rw_src {S : Nat → Prop} {A : Option Addr} {c : Nat} {l : List Nat} (h : Rw S w A l) (hA : A = none → c = 0) : Src w A l.length c (l.map iV) := by
  refine ⟨fun e => ?_, fun ad e => by subst e; exact rw_cells h⟩
  subst e
  have h0 : l.length = 0 := by
    rcases Nat.eq_zero_or_pos l.length with h0 | h0
    · exact h0
    · obtain ⟨_, _, e, _⟩ := h h0
      cases e
  obtain rfl : l = [] := List.eq_nil_of_length_eq_zero h0
  exact ⟨rfl, hA rfl, rfl⟩
theorem Hm.wide (h : Hm F w p H Vb Vd gl cs) {F' : Nat → Prop} (hF : ∀ k, F k → F' k) : Hm F' w p H Vb Vd gl cs :=
  ⟨h.obj, h.ob, h.od, h.row, h.len, h.at_, hF _ h.fp, hF _ h.fl, fun k e => hF _ (h.fb k e), fun k e => hF _ (h.fd k e), fun d v k hd h1 e => hF _ (h.fi d v k hd h1 e), h.sl⟩

set_option maxHeartbeats 1000000 in
theorem hin_any (h : Hm F w p H Vb Vd gl cs) (i : Nat) (hi : i < H.blks.length) (hs : isSz ((bkAt H.blks i).size : Int) = true) (hll : ∀ d, d < 22 → (H.lists d).length ≤ 100000) :
    Calls Tryz.prog 85 #[.pointer (some ⟨p, 0, none⟩), .int .i64 (i : Int)] w fun e w' => e = .returned (.tuple #[]) ∧ HT F w p (H.in_ i) w' := by
  obtain ⟨cl, hcl, hcl22⟩ := class_nat hs
  have hget := bkAt_get hi
  have hIN : H.in_ i = { H with lists := setL H.lists cl ((bkAt H.blks i).off :: H.lists cl) } := by
    unfold Hp.in_ clsB
    rw [hcl, Int.toNat_natCast]
  rw [hIN]
  obtain ⟨b, c, rfl, hb, _, hnc, ⟨d0, d1, _⟩, _⟩ := own_blk h.ob hget
  have hss := (isSz_iff _).1 hs
  have c1 := h.c1
  have hii : (i : Int) < (H.blks.length : Int) := by omega
  have hplt := h.lt
  obtain ⟨xo, hxo⟩ : ∃ xo, (bkAt H.blks i).off = xo := ⟨_, rfl⟩
  obtain ⟨xs, hxs⟩ : ∃ xs, (bkAt H.blks i).size = xs := ⟨_, rfl⟩
  rw [hxo] at d0 ⊢
  rw [hxs] at d1 hcl hss
  obtain ⟨wd, hwd⟩ : ∃ wd, w.drew = wd := ⟨_, rfl⟩
  have hd := h.below (w' := wd) (by rw [← hwd]; exact (Below.refl _ _).drew)
  have hsz : w.heap.size = wd.heap.size := by rw [← hwd]; rfl
  have hbd : Below w.heap.size w wd := by rw [← hwd]; exact (Below.refl _ _).drew
  obtain ⟨A, cc, hcell, hlo⟩ := hd.lcell hcl22
  have hrw := own_rw hlo
  have hgl := heap_lt hd.row
  have hci : (cl : Int) < 22 := by omega
  have HL := Lib.hid (hll cl hcl22)
  have HD := Lib.hid hd
  have HWD := Lib.hid hwd
  have HRW := Lib.hid hrw
  have HBD := Lib.hid hbd
  have HCL := Lib.hid (fun W => rclass_any W (xs : Int) (by omega) (cl : Int) hcl)
  have HSZ := Lib.hid hsz
  have e0 := (World.cell?_of_block (w := w) (w' := wd) (a := ⟨b, i * 3, none⟩) (by rw [← hwd]; rfl)).trans d0
  have e1 := (World.cell?_of_block (w := w) (w' := wd) (a := ⟨p, 1, none⟩) (by rw [← hwd]; rfl)).trans c1
  have e3 := hd.c3
  have hbd' : b < wd.heap.size := by omega
  have hpd' : p < wd.heap.size := by omega
  obtain ⟨n, hN⟩ : ∃ n, H.blks.length = n := ⟨_, rfl⟩
  rw [hN] at c1 e1 hii hnc
  obtain ⟨LL, hLL⟩ : ∃ LL, H.lists cl = LL := ⟨_, rfl⟩
  rw [hLL] at HL HRW hcell
  have HLL := Lib.hid hLL
  clear hxo hxs hwd hd hbd hrw hget hs hcl hIN hlo h hsz hN hll
  go_enter Tryz.func85, Tryz.ntmps85
  go_wp2_with fail
  refine (HCL.out _).mono ?_
  rintro e w2 ⟨rfl, rfl⟩
  clear HCL d0 d1 c1
  go_wp2_with fail
  refine wp_region_plan wd.heap.size (.one [0, 1, 2, 3, 4, 5, 6, 7, 8, 9, 10, 11, 12, 14, 15, 16, 17, 18, 19, 20] 13 (.one [] 21 (.fin [22]))) [23] (by kernel_rfl) (by kernel_rfl) (by kernel_rfl) (fun _ _ _ _ _ h => h) ?_
  rw [HWD.out]
  have t0 : ∀ z : LaterB wd.heap.size wd, z.val.cell? ⟨b, i * 3, none⟩ = some (.int .i64 (xo : Int)) := fun z => (z.ext.cell (p := ⟨b, i * 3, none⟩) hbd').trans e0
  have t1 : ∀ z : LaterB wd.heap.size wd, z.val.cell? ⟨p, 1, none⟩ = some (.slice (some ⟨b, 0, none⟩) n c) := fun z => (z.ext.cell (p := ⟨p, 1, none⟩) hpd').trans e1
  have t3 : ∀ z : LaterB wd.heap.size wd, z.val.cell? ⟨p, 3, none⟩ = some (.slice (some ⟨gl, 0, none⟩) 22 22) := fun z => (z.ext.cell (p := ⟨p, 3, none⟩) hpd').trans e3
  have t4 : ∀ z : LaterB wd.heap.size wd, z.val.cell? ⟨gl, cl, none⟩ = some (.slice A LL.length cc) := fun z => (z.ext.cell (p := ⟨gl, cl, none⟩) hgl).trans hcell
  refine plan_one (l := ?seg1) ?hseg1 ?_
  case hseg1 => simp only [pick, List.getElem?_toArray, List.getElem?_cons_succ, List.getElem?_cons_zero]; rfl
  repeat (go_big_quiet_step (fail))
  refine wpQuiet_nil ?_
  clear t0 t1 t3 t4
  obtain ⟨w6, hw6⟩ : ∃ w6, wd.alloc (.cells #[.int .i64 (xo : Int)] 3) = w6 := ⟨_, rfl⟩
  have b6 : Below wd.heap.size wd w6 := by rw [← hw6]; exact (Below.refl _ _).alloc (Nat.le_refl _) _
  have own6 : w6.ownsRow wd.heap.size 3 1 (.slice (some ⟨wd.heap.size, 0, none⟩) 1 1) 1 ([xo].map iV) := by rw [← hw6]; exact own_one wd xo
  refine tail_val2 (some 27) (w1 := w6) (v := .slice (some ⟨wd.heap.size, 0, none⟩) 1 1) rfl rfl rfl (by rw [← hw6]; exact bslice_run rfl rfl (run_one_int wd (xo : Int))) b6 ⟨wd.heap.size, Nat.le_refl _, ?_⟩
  have OWN6 := Lib.hid own6
  have HB6 := Lib.hid b6
  have b6s := b6.size
  have HRW6 := Lib.hid (HRW.out.1.keep (w' := w6) (S' := fun _ => False) b6.size (fun k hk hn => ⟨b6.block k hk, hn⟩))
  have HCELL := Lib.hid hcell
  clear own6 b6 hw6 hcell HWD e0 e1 e3
  simp only [Act.put, List.setIfInBounds_toArray, List.set_cons_zero, List.set_cons_succ]
  refine plan_one (l := []) rfl ?_
  refine wpQuiet_nil ?_
  refine tail_app (some 35) (.tmp 27) (.tmp 34) 73 3 rfl rfl rfl rfl Tryz.underlying73 (.int .i64 0) 1 8 int_inf rfl (by decide) wd.heap.size (.slice (some ⟨wd.heap.size, 0, none⟩) 1 1) 1 ([xo].map iV) rfl OWN6.out (Nat.le_refl _) b6s A LL.length cc (LL.map iV) rfl (by simp) (rw_src HRW6.out HRW.out.2) (iv_one LL) (by have := HL.out; omega) (by omega) ?_
  intro x7 w7 own7 hb7 gr7
  have HB7 : Hid (Below wd.heap.size wd w7) := HB6.out.trans hb7
  have OWN7 : Hid (w7.ownsRow wd.heap.size 3 1 x7 (1 + LL.length) ((xo :: LL).map iV)) := own7
  refine ⟨wd.heap.size, Nat.le_refl _, ?_⟩
  clear own7 gr7 hb7
  obtain ⟨A7', c7', rfl⟩ := own_sl OWN7.out
  have HD7 := Lib.hid (HD.out.below HB7.out)
  have q3 : w7.cell? ⟨gl, cl, none⟩ = some (.slice A LL.length cc) := by
    have h2 := (HB7.out.cell (p := ⟨gl, cl, none⟩) hgl)
    rw [h2]; exact HCELL.out
  have f3 := frozen_of_row w7 gl cl _ _ HD7.out.row
  have hg7 := heap_lt HD7.out.row
  refine plan_fin (l := ?laP) (t := ?tlP) ?hlaP ?htlP ?_
  case hlaP => simp only [pick, List.getElem?_toArray, List.getElem?_cons_succ, List.getElem?_cons_zero]; rfl
  case htlP => simp only [pick, List.getElem?_toArray, List.getElem?_cons_succ, List.getElem?_cons_zero]; rfl
  simp only [Act.put, List.setIfInBounds_toArray, List.set_cons_zero, List.set_cons_succ]
  repeat (go_big_quiet_step (fail))
  refine wpQuiet_nil ?_
  go_wp2
  go_end0
  refine ⟨rfl, ?_⟩
  have hown := own_base OWN7.out (Nat.zero_le _)
  have e8 : (xo :: LL).length = 1 + LL.length := by rw [List.length_cons, Nat.add_comm]
  have h8 := HD7.out.lset hcl22 (.slice A7' (1 + LL.length) c7') (xo :: LL) (by rw [e8]; exact hown)
  rw [HLL.out]
  refine ⟨_, ⟨_, _, _, _, h8⟩, ?_, fun k hk => ?_⟩
  · exact ((Tch.of_below (S := F) (HBD.out.trans (by rw [HSZ.out]; exact HB7.out))).trans (Tch.set w7 ⟨gl, cl, none⟩ _ HD7.out.fl) (fun _ _ h => h))
  · exact hk.imp id (fun e => by have := (OWN7.out.lt k e).1; have := HSZ.out; omega)

set_option maxHeartbeats 2000000 in
theorem hout_any (h : Hm F w p H Vb Vd gl cs) (i : Nat) (hi : i < H.blks.length) (hs : isSz ((bkAt H.blks i).size : Int) = true) (hll : ∀ d, d < 22 → (H.lists d).length ≤ 100000) :
    Calls Tryz.prog 39 #[.pointer (some ⟨p, 0, none⟩), .int .i64 (i : Int)] w fun e w' => e = .returned (.tuple #[]) ∧ HT F w p (H.out i) w' := by
  obtain ⟨cl, hcl, hcl22⟩ := class_nat hs
  have hget := bkAt_get hi
  have hIN : H.out i = { H with lists := setL H.lists cl ((H.lists cl).filter fun o => o != (bkAt H.blks i).off) } := by
    unfold Hp.out clsB
    rw [hcl, Int.toNat_natCast]
  rw [hIN]
  obtain ⟨b, c, rfl, hb, _, hnc, ⟨d0, d1, _⟩, _⟩ := own_blk h.ob hget
  have hss := (isSz_iff _).1 hs
  have c1 := h.c1
  have c3 := h.c3
  have hii : (i : Int) < (H.blks.length : Int) := by omega
  have hplt := h.lt
  obtain ⟨xo, hxo⟩ : ∃ xo, (bkAt H.blks i).off = xo := ⟨_, rfl⟩
  obtain ⟨xs, hxs⟩ : ∃ xs, (bkAt H.blks i).size = xs := ⟨_, rfl⟩
  rw [hxo] at d0 ⊢
  rw [hxs] at d1 hcl hss
  obtain ⟨A, cc, hcell, hlo⟩ := h.lcell hcl22
  have hrw := own_rw hlo
  have hgl := heap_lt h.row
  have hci : (cl : Int) < 22 := by omega
  have HL := Lib.hid (hll cl hcl22)
  have HH := Lib.hid h
  have HCL := Lib.hid (fun W => rclass_any W (xs : Int) (by omega) (cl : Int) hcl)
  obtain ⟨n, hN⟩ : ∃ n, H.blks.length = n := ⟨_, rfl⟩
  rw [hN] at c1 hii hnc
  obtain ⟨LL, hLL⟩ : ∃ LL, H.lists cl = LL := ⟨_, rfl⟩
  obtain ⟨M, hM⟩ : ∃ M, LL.length = M := ⟨_, rfl⟩
  rw [hLL] at HL hrw hcell
  rw [hM] at HL hcell
  have HLL := Lib.hid hLL
  have HM := Lib.hid hM
  have HRW := Lib.hid hrw
  obtain ⟨B5, hB5⟩ : ∃ B5, w.heap.size = B5 := ⟨_, rfl⟩
  have HB5 := Lib.hid hB5
  have HCS : Hid (∀ W, Below B5 w W → W.cell? ⟨b, i * 3, none⟩ = some (.int .i64 (xo : Int)) ∧ W.cell? ⟨p, 1, none⟩ = some (.slice (some ⟨b, 0, none⟩) n c) ∧ W.cell? ⟨p, 3, none⟩ = some (.slice (some ⟨gl, 0, none⟩) 22 22) ∧ W.cell? ⟨gl, cl, none⟩ = some (.slice A M cc)) := fun W h' => ⟨(h'.cell (p := ⟨b, _, none⟩) (by rw [← hB5]; exact hb)).trans d0, (h'.cell (p := ⟨p, _, none⟩) (by rw [← hB5]; exact hplt)).trans c1, (h'.cell (p := ⟨p, _, none⟩) (by rw [← hB5]; exact hplt)).trans c3, (h'.cell (p := ⟨gl, _, none⟩) (by rw [← hB5]; exact hgl)).trans hcell⟩
  clear hxo hxs hrw hget hs hcl hIN hlo h hN hll hLL hM hB5 hcell
  go_enter Tryz.func39, Tryz.ntmps39
  go_wp2_with fail
  refine (HCL.out _).mono ?_
  rintro e w2 ⟨rfl, rfl⟩
  clear HCL d0 d1 c1 c3
  go_wp2
  go_loopw [5, 6] (fun q i wr => ∃ (m r : Nat) (G : List Nat), i = .int .i64 (m : Int) ∧ m ≤ M ∧ G.length = r ∧ G = (LL.take m).filter (fun o => o != xo) ∧ wr.ownsRow B5 3 1 q r (G.map iV) ∧ Below B5 w wr) (fun _ i _ => M - (intOf i).toNat)
  case atStart => exact ⟨0, 0, [], rfl, Nat.zero_le _, rfl, rfl, World.ownsRow_nil _ _ _ _, Below.refl _ _⟩
  case round =>
    obtain ⟨m, r, G, rfl, hm, hGr, hG, hown, hb9⟩ := hrel
    obtain ⟨A9, c9, rfl⟩ := own_sl hown
    have hBw : B5 ≤ wr.heap.size := by have := hb9.size; have := HB5.out; omega
    obtain ⟨_, k1, k3, k4⟩ := HCS.out wr hb9
    have hM100 := HL.out
    by_cases hlt : m < M
    · have hmi : (m : Int) < (M : Int) := by omega
      obtain ⟨y, hy⟩ : ∃ y, LL[m]? = some y := ⟨LL[m]'(by rw [HM.out]; exact hlt), List.getElem?_eq_getElem _⟩
      obtain ⟨bd, od, rfl, hbd, _, hcd⟩ := HRW.out.1 (by rw [HM.out]; omega)
      have hyc := hcd m y hy
      have hrM : r ≤ M := by rw [← hGr, hG]; exact Nat.le_trans (List.length_filter_le _ _) (by rw [List.length_take]; omega)
      obtain ⟨wd, hwd⟩ : ∃ wd, wr.drew = wd := ⟨_, rfl⟩
      have hbd1 : Below B5 w wd := by rw [← hwd]; exact hb9.drew
      have ownd := own_below' hown (w' := wd) (by rw [← hwd]; exact (Below.refl _ _).drew)
      have hwdB : B5 ≤ wd.heap.size := by rw [← hwd]; exact hBw
      have HYC : Hid (∀ W, Below B5 w W → W.cell? ⟨bd, od + m, none⟩ = some (.int .i64 (y : Int))) := fun W h' => (h'.cell (p := ⟨bd, od + m, none⟩) (by rw [← HB5.out]; exact hbd)).trans hyc
      have hfs : (LL.take (m + 1)).filter (fun o => o != xo) = if y = xo then G else G ++ [y] := by
        rw [List.take_add_one, hy, List.filter_append, hG]
        by_cases e : y = xo
        · simp [e]
        · simp [e]
      have HFS := Lib.hid hfs
      have HGR := Lib.hid hGr
      have HWD := Lib.hid hwd
      have HBD := Lib.hid hbd1
      have OWND := Lib.hid ownd
      have HALT : Hid (∀ k, (Value.slice A9 r c9).ownBlock = some k → B5 ≤ k ∧ k < wd.heap.size) := ownd.lt
      clear hy hbd hcd hyc hfs hGr hG hwd hbd1 ownd hown hb9
      by_cases hyx : y = xo
      · have hq1 : ((y : Int) != (xo : Int)) = false := by rw [bne_eq_false_iff_eq]; omega
        go_wp2_with fail
        refine wp_region_tail wd.heap.size [] [0, 1, 2, 3, 4, 5, 6, 7, 8, 9, 10, 11, 12, 13, 14, 15, 16, 17, 18] [] (by kernel_rfl) (by kernel_rfl) (by kernel_rfl) (fun _ _ _ _ _ h => h) ?_
        rw [HWD.out]
        have t0 : ∀ z : LaterB wd.heap.size wd, z.val.cell? ⟨bd, od + m, none⟩ = some (.int .i64 (y : Int)) := fun z => HYC.out z.val (HBD.out.trans (z.ext.mono hwdB))
        have t1 : ∀ z : LaterB wd.heap.size wd, z.val.cell? ⟨gl, cl, none⟩ = some (.slice (some ⟨bd, od, none⟩) M cc) := fun z => (HCS.out z.val (HBD.out.trans (z.ext.mono hwdB))).2.2.2
        have t2 : ∀ z : LaterB wd.heap.size wd, z.val.cell? ⟨b, i * 3, none⟩ = some (.int .i64 (xo : Int)) := fun z => (HCS.out z.val (HBD.out.trans (z.ext.mono hwdB))).1
        have t3 : ∀ z : LaterB wd.heap.size wd, z.val.cell? ⟨p, 1, none⟩ = some (.slice (some ⟨b, 0, none⟩) n c) := fun z => (HCS.out z.val (HBD.out.trans (z.ext.mono hwdB))).2.1
        have t4 : ∀ z : LaterB wd.heap.size wd, z.val.cell? ⟨p, 3, none⟩ = some (.slice (some ⟨gl, 0, none⟩) 22 22) := fun z => (HCS.out z.val (HBD.out.trans (z.ext.mono hwdB))).2.2.1
        refine tail_last (l := ?laF1) (t := []) ?hlaF1 ?htlF1 ?_
        case hlaF1 => simp only [pick, List.getElem?_toArray, List.getElem?_cons_succ, List.getElem?_cons_zero]; rfl
        case htlF1 => rfl
        repeat (go_big_quiet_step (fail))
        refine wpQuiet_nil ?_
        clear t0 t1 t2 t3 t4 k1 k3 k4
        go_wp2
        go_roundw
        case rel => exact ⟨m + 1, r, G, by go_num, by omega, HGR.out, by rw [HFS.out, if_pos hyx], OWND.out, HBD.out⟩
        case measure => simp only [intOf]; omega
      · have hq1 : ((y : Int) != (xo : Int)) = true := by rw [bne_iff_ne]; omega
        go_wp2_with fail
        refine wp_region_tail wd.heap.size [] [0, 1, 2, 3, 4, 5, 6, 7, 8, 9, 10, 11, 12, 13, 14, 15, 16, 17, 18] [] (by kernel_rfl) (by kernel_rfl) (by kernel_rfl) (fun _ _ _ _ _ h => h) ?_
        rw [HWD.out]
        have t0 : ∀ z : LaterB wd.heap.size wd, z.val.cell? ⟨bd, od + m, none⟩ = some (.int .i64 (y : Int)) := fun z => HYC.out z.val (HBD.out.trans (z.ext.mono hwdB))
        have t1 : ∀ z : LaterB wd.heap.size wd, z.val.cell? ⟨gl, cl, none⟩ = some (.slice (some ⟨bd, od, none⟩) M cc) := fun z => (HCS.out z.val (HBD.out.trans (z.ext.mono hwdB))).2.2.2
        have t2 : ∀ z : LaterB wd.heap.size wd, z.val.cell? ⟨b, i * 3, none⟩ = some (.int .i64 (xo : Int)) := fun z => (HCS.out z.val (HBD.out.trans (z.ext.mono hwdB))).1
        have t3 : ∀ z : LaterB wd.heap.size wd, z.val.cell? ⟨p, 1, none⟩ = some (.slice (some ⟨b, 0, none⟩) n c) := fun z => (HCS.out z.val (HBD.out.trans (z.ext.mono hwdB))).2.1
        have t4 : ∀ z : LaterB wd.heap.size wd, z.val.cell? ⟨p, 3, none⟩ = some (.slice (some ⟨gl, 0, none⟩) 22 22) := fun z => (HCS.out z.val (HBD.out.trans (z.ext.mono hwdB))).2.2.1
        refine tail_last (l := ?laF2) (t := []) ?hlaF2 ?htlF2 ?_
        case hlaF2 => simp only [pick, List.getElem?_toArray, List.getElem?_cons_succ, List.getElem?_cons_zero]; rfl
        case htlF2 => rfl
        repeat (go_big_quiet_step (fail))
        refine wpQuiet_nil ?_
        clear t0 t1 t2 t3 t4 k1 k3 k4
        have HY0 := HYC.out wd HBD.out
        obtain ⟨_, k1, k3, k4⟩ := HCS.out wd HBD.out
        obtain ⟨w6, hw6⟩ : ∃ w6, wd.alloc (.cells #[.int .i64 (y : Int)] 3) = w6 := ⟨_, rfl⟩
        have b6 : Below wd.heap.size wd w6 := by rw [← hw6]; exact (Below.refl _ _).alloc (Nat.le_refl _) _
        have n6 : w6.heap[wd.heap.size]? = some (.cells #[.int .i64 (y : Int)] 3 (0, 0)) := by rw [← hw6]; exact heap_alloc_new wd _
        have own6 := own_below' OWND.out b6
        have hr6 : Rw (fun _ => False) w6 (some ⟨wd.heap.size, 0, none⟩) [y] := fun _ => ⟨wd.heap.size, 0, rfl, heap_lt n6, id, fun j x hx => by
          rw [Nat.zero_add, cell_of_row w6 _ j _ _ (0, 0) n6]
          match j, hx with
          | 0, hx => simp at hx; subst hx; rfl⟩
        have h6B : B5 ≤ w6.heap.size := Nat.le_trans hwdB b6.size
        have OWN6 := Lib.hid own6
        have HR6 := Lib.hid hr6
        have HB6 := Lib.hid (HBD.out.trans (b6.mono hwdB))
        have HW6 := Lib.hid hw6
        clear own6 hr6 b6 n6 hw6
        go_wp2_with (first
          | (rw [HW6.out])
          | (at_builtin; go_must (refine append_ints rfl _ _ rfl B5 _ r G rfl OWN6.out (fun _ => False) (some ⟨wd.heap.size, 0, none⟩) 1 [y] rfl HR6.out (fun h => by cases h) (by rw [List.length_singleton]; omega) h6B ?_); intro x7 w7 own7 gr7;
             have HB7 : Hid (Below B5 w w7) := HB6.out.grown gr7 h6B (fun k hk => (HALT.out k hk).1); have OWN7 : Hid (w7.ownsRow B5 3 1 x7 (r + 1) ((G ++ [y]).map iV)) := own7; clear own7 gr7)
          | fail)
        go_roundw
        case rel => exact ⟨m + 1, r + 1, G ++ [y], by go_num, by omega, by rw [List.length_append, List.length_singleton, HGR.out], by rw [HFS.out, if_neg hyx], OWN7.out, HB7.out⟩
        case measure => simp only [intOf]; omega
    · obtain rfl : M = m := by omega
      rw [List.take_of_length_le (Nat.le_of_eq HM.out)] at hG
      have h9 := HH.out.below (w' := wr) (by rw [HB5.out]; exact hb9)
      have f3 := frozen_of_row wr gl cl _ _ h9.row
      have hset := h9.lset hcl22 (.slice A9 r c9) G (by rw [hGr]; exact own_base hown (Nat.zero_le _))
      have hto : HT F w p { H with lists := setL H.lists cl G } (wr.setCell ⟨gl, cl, none⟩ (.slice A9 r c9)) := by
        refine ⟨_, ⟨_, _, _, _, hset⟩, ?_, fun k hk => ?_⟩
        · exact (Tch.of_below (S := F) (by rw [HB5.out]; exact hb9)).trans (Tch.set wr ⟨gl, cl, none⟩ _ h9.fl) (fun _ _ h => h)
        · exact hk.imp id (fun e => by have := (hown.lt k e).1; have := HB5.out; omega)
      rw [hG] at hto
      have HTO := Lib.hid hto
      clear hto hset h9 hG hGr hown hb9
      go_wp2
      go_end0
      exact ⟨rfl, by rw [HLL.out]; exact HTO.out⟩
end
end Go.Proofs.YtdjjbmefaggelaaGreat

/- The contracts of the document's heap: drop, put. -/
namespace Go.Proofs.YtdjjbmefaggelaaGreat
open Go.RowKit

theorem sls_inf : (Tryz.prog.info? 28).map (fun i => (i.zero, i.size, i.bytes)) = some (some (.slice none 0 0), 1, 24) := by kernel_rfl
theorem run_none_b (w : World) : (Instr.buildSlice 49 0 #[]).run Tryz.prog w = .ok (.slice (some ⟨w.heap.size, 0, none⟩) 0 0) (w.alloc (.cells #[] 53)) := by
  simp [go_sem]
theorem run_none_s (w : World) : (Instr.buildSlice 67 0 #[]).run Tryz.prog w = .ok (.slice (some ⟨w.heap.size, 0, none⟩) 0 0) (w.alloc (.cells #[] 28)) := by
  simp [go_sem]
theorem flatK_take : ∀ (l : List Bk) (i : Nat), flatK (l.take i) = (flatK l).take (i * 3)
  | [], i => by simp [flatK]
  | x :: r, 0 => by simp [flatK]
  | x :: r, i + 1 => by
    have e : (i + 1) * 3 = i * 3 + 1 + 1 + 1 := by omega
    rw [e]
    simp [flatK, flatK_take r i]
theorem flatK_drop : ∀ (l : List Bk) (i : Nat), flatK (l.drop i) = (flatK l).drop (i * 3)
  | [], i => by simp [flatK]
  | x :: r, 0 => by simp
  | x :: r, i + 1 => by
    have e : (i + 1) * 3 = i * 3 + 1 + 1 + 1 := by omega
    rw [e]
    simp [flatK, flatK_drop r i]
theorem flatK_one (l : List Bk) : ∀ u ∈ flatK l, u.oneCell' = true := by
  induction l with
  | nil => intro u hu; cases hu
  | cons x r ih =>
    intro u hu
    simp only [flatK, List.mem_cons] at hu
    rcases hu with rfl | rfl | rfl | hu
    · rfl
    · rfl
    · rfl
    · exact ih u hu
theorem sl_one {l : List Dt} (h : ∀ d ∈ l, ∃ A n c, d.1 = Value.slice A n c) : ∀ u ∈ l.map Prod.fst, u.oneCell' = true := by
  intro u hu
  obtain ⟨d, hd, rfl⟩ := List.mem_map.1 hu
  obtain ⟨A, n, c, e⟩ := h d hd
  rw [e]
  rfl
theorem add_at (b k j : Nat) : (⟨b, k, none⟩ : Addr).add j = ⟨b, k + j, none⟩ := by unfold Addr.add; split <;> simp_all
/-- A part of a row. -/
theorem own_part {w : World} {base n c size b : Nat} {t : TypeId} {xs : List Value} (h : w.ownsRow base t size (.slice (some ⟨b, 0, none⟩) n c) n xs) (k m : Nat) (hkm : k + m ≤ n) (A : Addr) (hA : m = 0 ∨ A = ⟨b, k * size, none⟩) : Src w (some A) m c ((xs.drop (k * size)).take (m * size)) := by
  refine ⟨fun e => (by cases e), fun ad e j u hu => ?_⟩
  injection e with e
  subst e
  rcases hA with rfl | rfl
  · simp at hu
  · rw [add_at]
    have hlen : j < m * size := by
      rcases Nat.lt_or_ge j (m * size) with h1 | h1
      · exact h1
      · rw [List.getElem?_eq_none (Nat.le_trans (List.length_take_le _ _) h1)] at hu; cases hu
    rw [List.getElem?_take, if_pos hlen, List.getElem?_drop] at hu
    have h2 : k * size + m * size ≤ n * size := by rw [← Nat.add_mul]; exact Nat.mul_le_mul_right _ hkm
    rw [h.cellAt _ (by omega)]
    exact hu
theorem Src.cap {w : World} {A : Addr} {m c c' : Nat} {xs : List Value} (h : Src w (some A) m c xs) : Src w (some A) m c' xs := ⟨fun e => (by cases e), h.2⟩

section
variable {F : Nat → Prop} {w w' : World} {p gl : Nat} {H : Hp} {Vb Vd : Value} {cs : List Value}
theorem set_p (w : World) (p i : Nat) (v : Value) : ∀ k, k ≠ p → (w.setCell ⟨p, i, none⟩ v).heap[k]? = w.heap[k]? := fun k hk => Below.heap_setCell w ⟨p, i, none⟩ v k hk
theorem Hm.p_gl (h : Hm F w p H Vb Vd gl cs) : gl ≠ p := fun e => by
  have h1 := h.obj
  rw [← e, h.row] at h1
  injection h1 with h1
  injection h1 with _ h1 _
  exact absurd h1 (by decide)
/-- Other blocks. -/
theorem Hm.bset (h : Hm F w p H Vb Vd gl cs) (V : Value) (l : List Bk) (hown : w.ownsRow 0 53 3 V l.length (flatK l)) :
    Hm (fun k => F k ∨ V.ownBlock = some k) (w.setCell ⟨p, 1, none⟩ V) p { H with blks := l } V Vd gl cs := by
  have hk := set_p w p 1 V
  refine ⟨?_, own_keep hown (fun k e => hk k (own_two hown h.obj (by decide) k e)), own_keep h.od (fun k e => hk k (own_two h.od h.obj (by decide) k e)), (hk gl h.p_gl).trans h.row, h.len, fun d hd => ?_, .inl h.fp, .inl h.fl, fun k e => .inr e, fun k e => .inl (h.fd k e), fun d v k hd h1 e => .inl (h.fi d v k hd h1 e), h.sl⟩
  · have := heap_setCell_same w p 1 _ _ V h.obj
    rw [this]
    rfl
  · obtain ⟨v, h1, h2⟩ := h.at_ d hd
    exact ⟨v, h1, own_keep h2 (fun k e => hk k (own_two h2 h.obj (by decide) k e))⟩
/-- Other slices. -/
theorem Hm.dset (h : Hm F w p H Vb Vd gl cs) (V : Value) (l : List Dt) (hown : w.ownsRow 0 28 1 V l.length (l.map Prod.fst)) (hsl : ∀ d ∈ l, ∃ A n c, d.1 = Value.slice A n c) :
    Hm (fun k => F k ∨ V.ownBlock = some k) (w.setCell ⟨p, 2, none⟩ V) p { H with ds := l } Vb V gl cs := by
  have hk := set_p w p 2 V
  refine ⟨?_, own_keep h.ob (fun k e => hk k (own_two h.ob h.obj (by decide) k e)), own_keep hown (fun k e => hk k (own_two hown h.obj (by decide) k e)), (hk gl h.p_gl).trans h.row, h.len, fun d hd => ?_, .inl h.fp, .inl h.fl, fun k e => .inl (h.fb k e), fun k e => .inr e, fun d v k hd h1 e => .inl (h.fi d v k hd h1 e), hsl⟩
  · have := heap_setCell_same w p 2 _ _ V h.obj
    rw [this]
    rfl
  · obtain ⟨v, h1, h2⟩ := h.at_ d hd
    exact ⟨v, h1, own_keep h2 (fun k e => hk k (own_two h2 h.obj (by decide) k e))⟩
theorem own_nn {n size : Nat} {t : TypeId} {V : Value} {xs : List Value} (h : w.ownsRow 0 t size V n xs) (hn : 0 < n) : ∃ b c, V = .slice (some ⟨b, 0, none⟩) n c ∧ b < w.heap.size ∧ n ≤ c ∧ c ≤ maxLen := by
  rcases h.2 with ⟨_, h0⟩ | ⟨b, c, cur, rfl, _, hh, hnc, hm, _⟩
  · omega
  · exact ⟨b, c, rfl, heap_lt hh, hnc, hm⟩

set_option maxHeartbeats 1000000 in
theorem hdrop_any (h : Hm F w p H Vb Vd gl cs) (i : Nat) (hi : i < H.blks.length) (hn : H.blks.length ≤ 100000) (hdl : H.ds.length = H.blks.length) :
    Calls Tryz.prog 40 #[.pointer (some ⟨p, 0, none⟩), .int .i64 (i : Int)] w fun e w' => e = .returned (.tuple #[]) ∧ HT F w p (H.drop i) w' := by
  obtain ⟨b1, c1, rfl, hb1, hnc1, hm1⟩ := own_nn h.ob (by omega)
  obtain ⟨b2, c2, rfl, hb2, hnc2, hm2⟩ := own_nn h.od (by omega)
  have q1 := h.c1
  have hplt := h.lt
  obtain ⟨n, hN⟩ : ∃ n, H.blks.length = n := ⟨_, rfl⟩
  have HO1 : Hid (w.ownsRow 0 53 3 (.slice (some ⟨b1, 0, none⟩) n c1) n (flatK H.blks)) := (show World.ownsRow _ _ _ _ _ _ _ by rw [← hN]; exact h.ob)
  have HH := Lib.hid h
  have HN := Lib.hid hN
  rw [hN] at q1 hi hn hnc1 hdl
  rw [hdl] at hnc2
  obtain ⟨wd, hwd⟩ : ∃ wd, w.drew = wd := ⟨_, rfl⟩
  have hbd : Below w.heap.size w wd := by rw [← hwd]; exact (Below.refl _ _).drew
  have hsz : w.heap.size = wd.heap.size := by rw [← hwd]; rfl
  have HBD := Lib.hid hbd
  have HSZ := Lib.hid hsz
  have e1 := (World.cell?_of_block (w := w) (w' := wd) (a := ⟨p, 1, none⟩) (by rw [← hwd]; rfl)).trans q1
  have hpd : p < wd.heap.size := by omega
  have hbd1 : b1 < wd.heap.size := by omega
  have hpd1 : p < wd.heap.size := hpd
  have EE1 := Lib.hid e1
  have HDL2 : Hid (H.ds.length = n) := hdl
  have HWD1 := Lib.hid hwd
  have K1 := Lib.hid (own_below' HO1.out hbd)
  unfold maxLen at hm1 hm2
  have hin : (i : Int) < (n : Int) := by omega
  clear h hN hdl q1 hwd hbd hsz
  by_cases hc1 : c1 = i + 1
  · by_cases hc2 : c2 = i + 1
    · go_enter Tryz.func40, Tryz.ntmps40
      go_wp2_with fail
      refine wp_region_plan wd.heap.size (.one [0, 2, 3, 4, 5, 6, 7, 9, 10, 11, 12, 13, 14, 15] 1 (.one [] 8 (.one [] 16 (.fin [17, 18])))) [19] (by kernel_rfl) (by kernel_rfl) (by kernel_rfl) (fun _ _ _ _ _ h => h) ?_
      rw [HWD1.out]
      have t1 : ∀ z : LaterB wd.heap.size wd, z.val.cell? ⟨p, 1, none⟩ = some (.slice (some ⟨b1, 0, none⟩) n (i + 1)) := fun z => (z.ext.cell (p := ⟨p, 1, none⟩) hpd1).trans (by have := EE1.out; rw [hc1] at this; exact this)
      refine plan_one (l := ?seg1aa) ?hseg1aa ?_
      case hseg1aa => simp only [pick, List.getElem?_toArray, List.getElem?_cons_succ, List.getElem?_cons_zero]; rfl
      repeat (go_big_quiet_step (fail))
      refine wpQuiet_nil ?_
      clear t1
      obtain ⟨x1, hx1⟩ : ∃ x1, wd.alloc (.cells #[] 53) = x1 := ⟨_, rfl⟩
      have bx1 : Below wd.heap.size wd x1 := by rw [← hx1]; exact (Below.refl _ _).alloc (Nat.le_refl _) _
      have ownx1 : x1.ownsRow wd.heap.size 53 3 (.slice (some ⟨wd.heap.size, 0, none⟩) 0 0) 0 [] := by rw [← hx1]; exact World.ownsRow_lit wd _ 0 (Nat.le_refl _) (by unfold maxLen; omega) rfl
      refine tail_val2 (some 5) (w1 := x1) (v := .slice (some ⟨wd.heap.size, 0, none⟩) 0 0) rfl rfl rfl (by rw [← hx1]; exact bslice_run rfl rfl (run_none_b wd)) bx1 ⟨wd.heap.size, Nat.le_refl _, ?_⟩
      simp only [Act.put, List.setIfInBounds_toArray, List.set_cons_zero, List.set_cons_succ]
      refine plan_one (l := []) rfl ?_
      refine wpQuiet_nil ?_
      have s11 := ((own_part K1.out 0 i (by omega) ⟨b1, 0, none⟩ (.inr (by rw [Nat.zero_mul]))).cap (c' := (i + 1))).below bx1 (fun a e => by cases e; exact hbd1)
      refine tail_app (some 12) (.tmp 5) (.tmp 11) 49 53 rfl rfl rfl rfl Tryz.underlying49 (.agg #[.int .i64 0, .int .i64 0, .bool false]) 3 24 bk_inf rfl (by decide) wd.heap.size (.slice (some ⟨wd.heap.size, 0, none⟩) 0 0) 0 [] rfl ownx1 (Nat.le_refl _) bx1.size (some ⟨b1, 0, none⟩) i (i + 1) _ rfl ?l11aa s11 ?o11aa (by omega) (by omega) ?_
      case l11aa => have := K1.out.1; rw [List.length_take, List.length_drop]; omega
      case o11aa => exact fun u hu => (flatK_one H.blks) u (List.mem_of_mem_drop (List.mem_of_mem_take hu))
      intro y1 z1 owny1 bz1 _
      have bz21 := bx1.trans bz1
      refine ⟨wd.heap.size, Nat.le_refl _, ?_⟩
      simp only [Act.put, List.setIfInBounds_toArray, List.set_cons_zero, List.set_cons_succ]
      refine plan_one (l := []) rfl ?_
      refine wpQuiet_nil ?_
      have s21 := ((own_part K1.out (i + 1) (n - (i + 1)) (by omega) ⟨b1, 0, none⟩ (.inl (by omega))).cap (c' := 0)).below bz21 (fun a e => by cases e; exact hbd1)
      refine tail_app (some 20) (.tmp 12) (.tmp 19) 49 53 rfl rfl rfl rfl Tryz.underlying49 (.agg #[.int .i64 0, .int .i64 0, .bool false]) 3 24 bk_inf rfl (by decide) wd.heap.size y1 (0 + i) _ rfl owny1 (Nat.le_refl _) bz21.size (some ⟨b1, 0, none⟩) (n - (i + 1)) (0) _ rfl ?l21aa s21 ?o21aa (by omega) (by omega) ?_
      case l21aa => have := K1.out.1; rw [List.length_take, List.length_drop]; omega
      case o21aa => exact fun u hu => (flatK_one H.blks) u (List.mem_of_mem_drop (List.mem_of_mem_take hu))
      intro u1 v1 ownu1 bv1 _
      have bv21 := bz21.trans bv1
      rw [Nat.zero_add] at ownu1
      refine ⟨wd.heap.size, Nat.le_refl _, ?_⟩
      simp only [Act.put, List.setIfInBounds_toArray, List.set_cons_zero, List.set_cons_succ]
      obtain ⟨uA1, uc1, rfl⟩ := own_sl ownu1
      have e1u : i + (n - (i + 1)) = (H.blks.take i ++ H.blks.drop (i + 1)).length := by have := HN.out; rw [List.length_append, List.length_take, List.length_drop]; omega
      have hrow1 : v1.ownsRow wd.heap.size 53 3 (.slice uA1 (i + (n - (i + 1))) uc1) (H.blks.take i ++ H.blks.drop (i + 1)).length (flatK (H.blks.take i ++ H.blks.drop (i + 1))) := by
        rw [← e1u, flatK_append, flatK_take, flatK_drop]
        have e := ownu1
        rw [Nat.zero_mul, List.drop_zero, List.nil_append, List.take_of_length_le (i := (n - (i + 1)) * 3) (by have := K1.out.1; rw [List.length_drop]; omega)] at e
        exact e
      have HM1 := Lib.hid (HH.out.below (HBD.out.trans (by rw [HSZ.out]; exact bv21)))
      have hm2' := HM1.out.bset _ _ (own_base hrow1 (Nat.zero_le _))
      have HB1 := Lib.hid bv21
      have HL1 := Lib.hid hrow1.lt
      clear e1u s11 s21 owny1 ownx1 ownu1 bx1 bz1 bv1 hx1 hrow1 bz21 bv21
      have q1 := HM1.out.c1
      have f1 := HM1.out.thaw 1
      have hp1 := HM1.out.lt
      refine plan_fin (l := ?la1aa) (t := ?tl1aa) ?hla1aa ?htl1aa ?_
      case hla1aa => simp only [pick, List.getElem?_toArray, List.getElem?_cons_succ, List.getElem?_cons_zero]; rfl
      case htl1aa => simp only [pick, List.getElem?_toArray, List.getElem?_cons_succ, List.getElem?_cons_zero]; rfl
      repeat (go_big_quiet_step (fail))
      refine wpQuiet_nil ?_
      go_wp2_with fail
      clear q1 f1 hp1
      obtain ⟨v2, hv2⟩ : ∃ v2, v1.setCell ⟨p, 1, none⟩ (.slice uA1 (i + (n - (i + 1))) uc1) = v2 := ⟨_, rfl⟩
      rw [hv2] at hm2'
      obtain ⟨we, hwe⟩ : ∃ we, v2.drew = we := ⟨_, rfl⟩
      have hbe : Below v2.heap.size v2 we := by rw [← hwe]; exact (Below.refl _ _).drew
      have HME := Lib.hid (hm2'.below hbe)
      have htc : Tch F w we := ((Tch.of_below (S := F) (HBD.out.trans (by rw [HSZ.out]; exact HB1.out))).trans (by rw [← hv2]; exact Tch.set v1 ⟨p, 1, none⟩ _ HH.out.fp) (fun _ _ h => h)).trans (Tch.of_below (S := F) hbe) (fun _ _ h => h)
      have HTC := Lib.hid htc
      have HWD2 : Hid ((v1.setCell ⟨p, 1, none⟩ (.slice uA1 (i + (n - (i + 1))) uc1)).drew = we) := (show _ = _ by rw [hv2]; exact hwe)
      have hod : we.ownsRow 0 28 1 (.slice (some ⟨b2, 0, none⟩) n c2) n (H.ds.map Prod.fst) := by have e := HME.out.od; rw [← HDL2.out]; exact e
      have K2 := Lib.hid hod
      have EE2 : Hid (we.cell? ⟨p, 2, none⟩ = some (.slice (some ⟨b2, 0, none⟩) n c2)) := (show _ = _ by have e := HME.out.c2; rw [← HDL2.out]; exact e)
      have hpd2 := HME.out.lt
      have hbd2 : b2 < we.heap.size := own_lt hod rfl
      clear hm2' hv2 hwe hbe htc hod
      refine wp_region_plan we.heap.size (.one [0, 2, 3, 4, 5, 6, 7, 9, 10, 11, 12, 13, 14, 15] 1 (.one [] 8 (.one [] 16 (.fin [17, 18])))) [19] (by kernel_rfl) (by kernel_rfl) (by kernel_rfl) (fun _ _ _ _ _ h => h) ?_
      rw [HWD2.out]
      have t1 : ∀ z : LaterB we.heap.size we, z.val.cell? ⟨p, 2, none⟩ = some (.slice (some ⟨b2, 0, none⟩) n (i + 1)) := fun z => (z.ext.cell (p := ⟨p, 2, none⟩) hpd2).trans (by have := EE2.out; rw [hc2] at this; exact this)
      refine plan_one (l := ?seg2aa) ?hseg2aa ?_
      case hseg2aa => simp only [pick, List.getElem?_toArray, List.getElem?_cons_succ, List.getElem?_cons_zero]; rfl
      repeat (go_big_quiet_step (fail))
      refine wpQuiet_nil ?_
      clear t1
      obtain ⟨x2, hx2⟩ : ∃ x2, we.alloc (.cells #[] 28) = x2 := ⟨_, rfl⟩
      have bx2 : Below we.heap.size we x2 := by rw [← hx2]; exact (Below.refl _ _).alloc (Nat.le_refl _) _
      have ownx2 : x2.ownsRow we.heap.size 28 1 (.slice (some ⟨we.heap.size, 0, none⟩) 0 0) 0 [] := by rw [← hx2]; exact World.ownsRow_lit we _ 0 (Nat.le_refl _) (by unfold maxLen; omega) rfl
      refine tail_val2 (some 24) (w1 := x2) (v := .slice (some ⟨we.heap.size, 0, none⟩) 0 0) rfl rfl rfl (by rw [← hx2]; exact bslice_run rfl rfl (run_none_s we)) bx2 ⟨we.heap.size, Nat.le_refl _, ?_⟩
      simp only [Act.put, List.setIfInBounds_toArray, List.set_cons_zero, List.set_cons_succ]
      refine plan_one (l := []) rfl ?_
      refine wpQuiet_nil ?_
      have s12 := ((own_part K2.out 0 i (by omega) ⟨b2, 0, none⟩ (.inr (by rw [Nat.zero_mul]))).cap (c' := (i + 1))).below bx2 (fun a e => by cases e; exact hbd2)
      refine tail_app (some 31) (.tmp 24) (.tmp 30) 67 28 rfl rfl rfl rfl Tryz.underlying67 (.slice none 0 0) 1 24 sls_inf rfl (by decide) we.heap.size (.slice (some ⟨we.heap.size, 0, none⟩) 0 0) 0 [] rfl ownx2 (Nat.le_refl _) bx2.size (some ⟨b2, 0, none⟩) i (i + 1) _ rfl ?l12aa s12 ?o12aa (by omega) (by omega) ?_
      case l12aa => have := K2.out.1; rw [List.length_take, List.length_drop]; omega
      case o12aa => exact fun u hu => (sl_one HH.out.sl) u (List.mem_of_mem_drop (List.mem_of_mem_take hu))
      intro y2 z2 owny2 bz2 _
      have bz22 := bx2.trans bz2
      refine ⟨we.heap.size, Nat.le_refl _, ?_⟩
      simp only [Act.put, List.setIfInBounds_toArray, List.set_cons_zero, List.set_cons_succ]
      refine plan_one (l := []) rfl ?_
      refine wpQuiet_nil ?_
      have s22 := ((own_part K2.out (i + 1) (n - (i + 1)) (by omega) ⟨b2, 0, none⟩ (.inl (by omega))).cap (c' := 0)).below bz22 (fun a e => by cases e; exact hbd2)
      refine tail_app (some 39) (.tmp 31) (.tmp 38) 67 28 rfl rfl rfl rfl Tryz.underlying67 (.slice none 0 0) 1 24 sls_inf rfl (by decide) we.heap.size y2 (0 + i) _ rfl owny2 (Nat.le_refl _) bz22.size (some ⟨b2, 0, none⟩) (n - (i + 1)) (0) _ rfl ?l22aa s22 ?o22aa (by omega) (by omega) ?_
      case l22aa => have := K2.out.1; rw [List.length_take, List.length_drop]; omega
      case o22aa => exact fun u hu => (sl_one HH.out.sl) u (List.mem_of_mem_drop (List.mem_of_mem_take hu))
      intro u2 v2 ownu2 bv2 _
      have bv22 := bz22.trans bv2
      rw [Nat.zero_add] at ownu2
      refine ⟨we.heap.size, Nat.le_refl _, ?_⟩
      simp only [Act.put, List.setIfInBounds_toArray, List.set_cons_zero, List.set_cons_succ]
      obtain ⟨uA2, uc2, rfl⟩ := own_sl ownu2
      have e2u : i + (n - (i + 1)) = (H.ds.take i ++ H.ds.drop (i + 1)).length := by have := HDL2.out; rw [List.length_append, List.length_take, List.length_drop]; omega
      have hrow2 : v2.ownsRow we.heap.size 28 1 (.slice uA2 (i + (n - (i + 1))) uc2) (H.ds.take i ++ H.ds.drop (i + 1)).length ((H.ds.take i ++ H.ds.drop (i + 1)).map Prod.fst) := by
        rw [← e2u, List.map_append, List.map_take, List.map_drop]
        have e := ownu2
        rw [Nat.zero_mul, List.drop_zero, List.nil_append, Nat.mul_one, Nat.mul_one, Nat.mul_one, List.take_of_length_le (i := n - (i + 1)) (by have := K2.out.1; rw [List.length_drop]; omega)] at e
        exact e
      have HM2 := Lib.hid (HME.out.below bv22)
      have hm3 := HM2.out.dset _ _ (own_base hrow2 (Nat.zero_le _)) (fun d hd => HH.out.sl d (by rcases List.mem_append.1 hd with h | h; exact List.mem_of_mem_take h; exact List.mem_of_mem_drop h))
      have hto : HT F w p (H.drop i) (v2.setCell ⟨p, 2, none⟩ (.slice uA2 (i + (n - (i + 1))) uc2)) := by
        refine ⟨_, ⟨_, _, _, _, hm3⟩, ?_, fun k hk => ?_⟩
        · exact (HTC.out.trans (Tch.of_below (S := F) bv22) (fun _ _ h => h)).trans (Tch.set v2 ⟨p, 2, none⟩ _ HH.out.fp) (fun _ _ h => h)
        · have hs1 := HSZ.out
          rcases hk with (hk | hk) | hk
          · exact .inl hk
          · exact .inr (by have := (HL1.out k hk).1; omega)
          · exact .inr (by have := (hrow2.lt k hk).1; have := HTC.out.size; omega)
      have HTO := Lib.hid hto
      clear e2u s12 s22 owny2 ownx2 ownu2 bx2 bz2 bv2 hx2 hrow2 hm3 hto bz22 bv22
      have q2 := HM2.out.c2
      have f2 := HM2.out.thaw 2
      have hp2 := HM2.out.lt
      refine plan_fin (l := ?la2aa) (t := ?tl2aa) ?hla2aa ?htl2aa ?_
      case hla2aa => simp only [pick, List.getElem?_toArray, List.getElem?_cons_succ, List.getElem?_cons_zero]; rfl
      case htl2aa => simp only [pick, List.getElem?_toArray, List.getElem?_cons_succ, List.getElem?_cons_zero]; rfl
      repeat (go_big_quiet_step (fail))
      refine wpQuiet_nil ?_
      go_wp2
      go_end0
      exact ⟨rfl, HTO.out⟩
    · go_enter Tryz.func40, Tryz.ntmps40
      go_wp2_with fail
      refine wp_region_plan wd.heap.size (.one [0, 2, 3, 4, 5, 6, 7, 9, 10, 11, 12, 13, 14, 15] 1 (.one [] 8 (.one [] 16 (.fin [17, 18])))) [19] (by kernel_rfl) (by kernel_rfl) (by kernel_rfl) (fun _ _ _ _ _ h => h) ?_
      rw [HWD1.out]
      have t1 : ∀ z : LaterB wd.heap.size wd, z.val.cell? ⟨p, 1, none⟩ = some (.slice (some ⟨b1, 0, none⟩) n (i + 1)) := fun z => (z.ext.cell (p := ⟨p, 1, none⟩) hpd1).trans (by have := EE1.out; rw [hc1] at this; exact this)
      refine plan_one (l := ?seg1ab) ?hseg1ab ?_
      case hseg1ab => simp only [pick, List.getElem?_toArray, List.getElem?_cons_succ, List.getElem?_cons_zero]; rfl
      repeat (go_big_quiet_step (fail))
      refine wpQuiet_nil ?_
      clear t1
      obtain ⟨x1, hx1⟩ : ∃ x1, wd.alloc (.cells #[] 53) = x1 := ⟨_, rfl⟩
      have bx1 : Below wd.heap.size wd x1 := by rw [← hx1]; exact (Below.refl _ _).alloc (Nat.le_refl _) _
      have ownx1 : x1.ownsRow wd.heap.size 53 3 (.slice (some ⟨wd.heap.size, 0, none⟩) 0 0) 0 [] := by rw [← hx1]; exact World.ownsRow_lit wd _ 0 (Nat.le_refl _) (by unfold maxLen; omega) rfl
      refine tail_val2 (some 5) (w1 := x1) (v := .slice (some ⟨wd.heap.size, 0, none⟩) 0 0) rfl rfl rfl (by rw [← hx1]; exact bslice_run rfl rfl (run_none_b wd)) bx1 ⟨wd.heap.size, Nat.le_refl _, ?_⟩
      simp only [Act.put, List.setIfInBounds_toArray, List.set_cons_zero, List.set_cons_succ]
      refine plan_one (l := []) rfl ?_
      refine wpQuiet_nil ?_
      have s11 := ((own_part K1.out 0 i (by omega) ⟨b1, 0, none⟩ (.inr (by rw [Nat.zero_mul]))).cap (c' := (i + 1))).below bx1 (fun a e => by cases e; exact hbd1)
      refine tail_app (some 12) (.tmp 5) (.tmp 11) 49 53 rfl rfl rfl rfl Tryz.underlying49 (.agg #[.int .i64 0, .int .i64 0, .bool false]) 3 24 bk_inf rfl (by decide) wd.heap.size (.slice (some ⟨wd.heap.size, 0, none⟩) 0 0) 0 [] rfl ownx1 (Nat.le_refl _) bx1.size (some ⟨b1, 0, none⟩) i (i + 1) _ rfl ?l11ab s11 ?o11ab (by omega) (by omega) ?_
      case l11ab => have := K1.out.1; rw [List.length_take, List.length_drop]; omega
      case o11ab => exact fun u hu => (flatK_one H.blks) u (List.mem_of_mem_drop (List.mem_of_mem_take hu))
      intro y1 z1 owny1 bz1 _
      have bz21 := bx1.trans bz1
      refine ⟨wd.heap.size, Nat.le_refl _, ?_⟩
      simp only [Act.put, List.setIfInBounds_toArray, List.set_cons_zero, List.set_cons_succ]
      refine plan_one (l := []) rfl ?_
      refine wpQuiet_nil ?_
      have s21 := ((own_part K1.out (i + 1) (n - (i + 1)) (by omega) ⟨b1, 0, none⟩ (.inl (by omega))).cap (c' := 0)).below bz21 (fun a e => by cases e; exact hbd1)
      refine tail_app (some 20) (.tmp 12) (.tmp 19) 49 53 rfl rfl rfl rfl Tryz.underlying49 (.agg #[.int .i64 0, .int .i64 0, .bool false]) 3 24 bk_inf rfl (by decide) wd.heap.size y1 (0 + i) _ rfl owny1 (Nat.le_refl _) bz21.size (some ⟨b1, 0, none⟩) (n - (i + 1)) (0) _ rfl ?l21ab s21 ?o21ab (by omega) (by omega) ?_
      case l21ab => have := K1.out.1; rw [List.length_take, List.length_drop]; omega
      case o21ab => exact fun u hu => (flatK_one H.blks) u (List.mem_of_mem_drop (List.mem_of_mem_take hu))
      intro u1 v1 ownu1 bv1 _
      have bv21 := bz21.trans bv1
      rw [Nat.zero_add] at ownu1
      refine ⟨wd.heap.size, Nat.le_refl _, ?_⟩
      simp only [Act.put, List.setIfInBounds_toArray, List.set_cons_zero, List.set_cons_succ]
      obtain ⟨uA1, uc1, rfl⟩ := own_sl ownu1
      have e1u : i + (n - (i + 1)) = (H.blks.take i ++ H.blks.drop (i + 1)).length := by have := HN.out; rw [List.length_append, List.length_take, List.length_drop]; omega
      have hrow1 : v1.ownsRow wd.heap.size 53 3 (.slice uA1 (i + (n - (i + 1))) uc1) (H.blks.take i ++ H.blks.drop (i + 1)).length (flatK (H.blks.take i ++ H.blks.drop (i + 1))) := by
        rw [← e1u, flatK_append, flatK_take, flatK_drop]
        have e := ownu1
        rw [Nat.zero_mul, List.drop_zero, List.nil_append, List.take_of_length_le (i := (n - (i + 1)) * 3) (by have := K1.out.1; rw [List.length_drop]; omega)] at e
        exact e
      have HM1 := Lib.hid (HH.out.below (HBD.out.trans (by rw [HSZ.out]; exact bv21)))
      have hm2' := HM1.out.bset _ _ (own_base hrow1 (Nat.zero_le _))
      have HB1 := Lib.hid bv21
      have HL1 := Lib.hid hrow1.lt
      clear e1u s11 s21 owny1 ownx1 ownu1 bx1 bz1 bv1 hx1 hrow1 bz21 bv21
      have q1 := HM1.out.c1
      have f1 := HM1.out.thaw 1
      have hp1 := HM1.out.lt
      refine plan_fin (l := ?la1ab) (t := ?tl1ab) ?hla1ab ?htl1ab ?_
      case hla1ab => simp only [pick, List.getElem?_toArray, List.getElem?_cons_succ, List.getElem?_cons_zero]; rfl
      case htl1ab => simp only [pick, List.getElem?_toArray, List.getElem?_cons_succ, List.getElem?_cons_zero]; rfl
      repeat (go_big_quiet_step (fail))
      refine wpQuiet_nil ?_
      go_wp2_with fail
      clear q1 f1 hp1
      obtain ⟨v2, hv2⟩ : ∃ v2, v1.setCell ⟨p, 1, none⟩ (.slice uA1 (i + (n - (i + 1))) uc1) = v2 := ⟨_, rfl⟩
      rw [hv2] at hm2'
      obtain ⟨we, hwe⟩ : ∃ we, v2.drew = we := ⟨_, rfl⟩
      have hbe : Below v2.heap.size v2 we := by rw [← hwe]; exact (Below.refl _ _).drew
      have HME := Lib.hid (hm2'.below hbe)
      have htc : Tch F w we := ((Tch.of_below (S := F) (HBD.out.trans (by rw [HSZ.out]; exact HB1.out))).trans (by rw [← hv2]; exact Tch.set v1 ⟨p, 1, none⟩ _ HH.out.fp) (fun _ _ h => h)).trans (Tch.of_below (S := F) hbe) (fun _ _ h => h)
      have HTC := Lib.hid htc
      have HWD2 : Hid ((v1.setCell ⟨p, 1, none⟩ (.slice uA1 (i + (n - (i + 1))) uc1)).drew = we) := (show _ = _ by rw [hv2]; exact hwe)
      have hod : we.ownsRow 0 28 1 (.slice (some ⟨b2, 0, none⟩) n c2) n (H.ds.map Prod.fst) := by have e := HME.out.od; rw [← HDL2.out]; exact e
      have K2 := Lib.hid hod
      have EE2 : Hid (we.cell? ⟨p, 2, none⟩ = some (.slice (some ⟨b2, 0, none⟩) n c2)) := (show _ = _ by have e := HME.out.c2; rw [← HDL2.out]; exact e)
      have hpd2 := HME.out.lt
      have hbd2 : b2 < we.heap.size := own_lt hod rfl
      clear hm2' hv2 hwe hbe htc hod
      refine wp_region_plan we.heap.size (.one [0, 2, 3, 4, 5, 6, 7, 9, 10, 11, 12, 13, 14, 15] 1 (.one [] 8 (.one [] 16 (.fin [17, 18])))) [19] (by kernel_rfl) (by kernel_rfl) (by kernel_rfl) (fun _ _ _ _ _ h => h) ?_
      rw [HWD2.out]
      have t1 : ∀ z : LaterB we.heap.size we, z.val.cell? ⟨p, 2, none⟩ = some (.slice (some ⟨b2, 0, none⟩) n c2) := fun z => (z.ext.cell (p := ⟨p, 2, none⟩) hpd2).trans (by have := EE2.out; exact this)
      refine plan_one (l := ?seg2ab) ?hseg2ab ?_
      case hseg2ab => simp only [pick, List.getElem?_toArray, List.getElem?_cons_succ, List.getElem?_cons_zero]; rfl
      repeat (go_big_quiet_step (fail))
      refine wpQuiet_nil ?_
      clear t1
      obtain ⟨x2, hx2⟩ : ∃ x2, we.alloc (.cells #[] 28) = x2 := ⟨_, rfl⟩
      have bx2 : Below we.heap.size we x2 := by rw [← hx2]; exact (Below.refl _ _).alloc (Nat.le_refl _) _
      have ownx2 : x2.ownsRow we.heap.size 28 1 (.slice (some ⟨we.heap.size, 0, none⟩) 0 0) 0 [] := by rw [← hx2]; exact World.ownsRow_lit we _ 0 (Nat.le_refl _) (by unfold maxLen; omega) rfl
      refine tail_val2 (some 24) (w1 := x2) (v := .slice (some ⟨we.heap.size, 0, none⟩) 0 0) rfl rfl rfl (by rw [← hx2]; exact bslice_run rfl rfl (run_none_s we)) bx2 ⟨we.heap.size, Nat.le_refl _, ?_⟩
      simp only [Act.put, List.setIfInBounds_toArray, List.set_cons_zero, List.set_cons_succ]
      refine plan_one (l := []) rfl ?_
      refine wpQuiet_nil ?_
      have s12 := ((own_part K2.out 0 i (by omega) ⟨b2, 0, none⟩ (.inr (by rw [Nat.zero_mul]))).cap (c' := c2)).below bx2 (fun a e => by cases e; exact hbd2)
      refine tail_app (some 31) (.tmp 24) (.tmp 30) 67 28 rfl rfl rfl rfl Tryz.underlying67 (.slice none 0 0) 1 24 sls_inf rfl (by decide) we.heap.size (.slice (some ⟨we.heap.size, 0, none⟩) 0 0) 0 [] rfl ownx2 (Nat.le_refl _) bx2.size (some ⟨b2, 0, none⟩) i c2 _ rfl ?l12ab s12 ?o12ab (by omega) (by omega) ?_
      case l12ab => have := K2.out.1; rw [List.length_take, List.length_drop]; omega
      case o12ab => exact fun u hu => (sl_one HH.out.sl) u (List.mem_of_mem_drop (List.mem_of_mem_take hu))
      intro y2 z2 owny2 bz2 _
      have bz22 := bx2.trans bz2
      refine ⟨we.heap.size, Nat.le_refl _, ?_⟩
      simp only [Act.put, List.setIfInBounds_toArray, List.set_cons_zero, List.set_cons_succ]
      refine plan_one (l := []) rfl ?_
      refine wpQuiet_nil ?_
      have s22 := ((own_part K2.out (i + 1) (n - (i + 1)) (by omega) ⟨b2, i + 1, none⟩ (.inr (by rw [Nat.mul_one]))).cap (c' := c2 - (i + 1))).below bz22 (fun a e => by cases e; exact hbd2)
      refine tail_app (some 39) (.tmp 31) (.tmp 38) 67 28 rfl rfl rfl rfl Tryz.underlying67 (.slice none 0 0) 1 24 sls_inf rfl (by decide) we.heap.size y2 (0 + i) _ rfl owny2 (Nat.le_refl _) bz22.size (some ⟨b2, i + 1, none⟩) (n - (i + 1)) (c2 - (i + 1)) _ rfl ?l22ab s22 ?o22ab (by omega) (by omega) ?_
      case l22ab => have := K2.out.1; rw [List.length_take, List.length_drop]; omega
      case o22ab => exact fun u hu => (sl_one HH.out.sl) u (List.mem_of_mem_drop (List.mem_of_mem_take hu))
      intro u2 v2 ownu2 bv2 _
      have bv22 := bz22.trans bv2
      rw [Nat.zero_add] at ownu2
      refine ⟨we.heap.size, Nat.le_refl _, ?_⟩
      simp only [Act.put, List.setIfInBounds_toArray, List.set_cons_zero, List.set_cons_succ]
      obtain ⟨uA2, uc2, rfl⟩ := own_sl ownu2
      have e2u : i + (n - (i + 1)) = (H.ds.take i ++ H.ds.drop (i + 1)).length := by have := HDL2.out; rw [List.length_append, List.length_take, List.length_drop]; omega
      have hrow2 : v2.ownsRow we.heap.size 28 1 (.slice uA2 (i + (n - (i + 1))) uc2) (H.ds.take i ++ H.ds.drop (i + 1)).length ((H.ds.take i ++ H.ds.drop (i + 1)).map Prod.fst) := by
        rw [← e2u, List.map_append, List.map_take, List.map_drop]
        have e := ownu2
        rw [Nat.zero_mul, List.drop_zero, List.nil_append, Nat.mul_one, Nat.mul_one, Nat.mul_one, List.take_of_length_le (i := n - (i + 1)) (by have := K2.out.1; rw [List.length_drop]; omega)] at e
        exact e
      have HM2 := Lib.hid (HME.out.below bv22)
      have hm3 := HM2.out.dset _ _ (own_base hrow2 (Nat.zero_le _)) (fun d hd => HH.out.sl d (by rcases List.mem_append.1 hd with h | h; exact List.mem_of_mem_take h; exact List.mem_of_mem_drop h))
      have hto : HT F w p (H.drop i) (v2.setCell ⟨p, 2, none⟩ (.slice uA2 (i + (n - (i + 1))) uc2)) := by
        refine ⟨_, ⟨_, _, _, _, hm3⟩, ?_, fun k hk => ?_⟩
        · exact (HTC.out.trans (Tch.of_below (S := F) bv22) (fun _ _ h => h)).trans (Tch.set v2 ⟨p, 2, none⟩ _ HH.out.fp) (fun _ _ h => h)
        · have hs1 := HSZ.out
          rcases hk with (hk | hk) | hk
          · exact .inl hk
          · exact .inr (by have := (HL1.out k hk).1; omega)
          · exact .inr (by have := (hrow2.lt k hk).1; have := HTC.out.size; omega)
      have HTO := Lib.hid hto
      clear e2u s12 s22 owny2 ownx2 ownu2 bx2 bz2 bv2 hx2 hrow2 hm3 hto bz22 bv22
      have q2 := HM2.out.c2
      have f2 := HM2.out.thaw 2
      have hp2 := HM2.out.lt
      refine plan_fin (l := ?la2ab) (t := ?tl2ab) ?hla2ab ?htl2ab ?_
      case hla2ab => simp only [pick, List.getElem?_toArray, List.getElem?_cons_succ, List.getElem?_cons_zero]; rfl
      case htl2ab => simp only [pick, List.getElem?_toArray, List.getElem?_cons_succ, List.getElem?_cons_zero]; rfl
      repeat (go_big_quiet_step (fail))
      refine wpQuiet_nil ?_
      go_wp2
      go_end0
      exact ⟨rfl, HTO.out⟩
  · by_cases hc2 : c2 = i + 1
    · go_enter Tryz.func40, Tryz.ntmps40
      go_wp2_with fail
      refine wp_region_plan wd.heap.size (.one [0, 2, 3, 4, 5, 6, 7, 9, 10, 11, 12, 13, 14, 15] 1 (.one [] 8 (.one [] 16 (.fin [17, 18])))) [19] (by kernel_rfl) (by kernel_rfl) (by kernel_rfl) (fun _ _ _ _ _ h => h) ?_
      rw [HWD1.out]
      have t1 : ∀ z : LaterB wd.heap.size wd, z.val.cell? ⟨p, 1, none⟩ = some (.slice (some ⟨b1, 0, none⟩) n c1) := fun z => (z.ext.cell (p := ⟨p, 1, none⟩) hpd1).trans (by have := EE1.out; exact this)
      refine plan_one (l := ?seg1ba) ?hseg1ba ?_
      case hseg1ba => simp only [pick, List.getElem?_toArray, List.getElem?_cons_succ, List.getElem?_cons_zero]; rfl
      repeat (go_big_quiet_step (fail))
      refine wpQuiet_nil ?_
      clear t1
      obtain ⟨x1, hx1⟩ : ∃ x1, wd.alloc (.cells #[] 53) = x1 := ⟨_, rfl⟩
      have bx1 : Below wd.heap.size wd x1 := by rw [← hx1]; exact (Below.refl _ _).alloc (Nat.le_refl _) _
      have ownx1 : x1.ownsRow wd.heap.size 53 3 (.slice (some ⟨wd.heap.size, 0, none⟩) 0 0) 0 [] := by rw [← hx1]; exact World.ownsRow_lit wd _ 0 (Nat.le_refl _) (by unfold maxLen; omega) rfl
      refine tail_val2 (some 5) (w1 := x1) (v := .slice (some ⟨wd.heap.size, 0, none⟩) 0 0) rfl rfl rfl (by rw [← hx1]; exact bslice_run rfl rfl (run_none_b wd)) bx1 ⟨wd.heap.size, Nat.le_refl _, ?_⟩
      simp only [Act.put, List.setIfInBounds_toArray, List.set_cons_zero, List.set_cons_succ]
      refine plan_one (l := []) rfl ?_
      refine wpQuiet_nil ?_
      have s11 := ((own_part K1.out 0 i (by omega) ⟨b1, 0, none⟩ (.inr (by rw [Nat.zero_mul]))).cap (c' := c1)).below bx1 (fun a e => by cases e; exact hbd1)
      refine tail_app (some 12) (.tmp 5) (.tmp 11) 49 53 rfl rfl rfl rfl Tryz.underlying49 (.agg #[.int .i64 0, .int .i64 0, .bool false]) 3 24 bk_inf rfl (by decide) wd.heap.size (.slice (some ⟨wd.heap.size, 0, none⟩) 0 0) 0 [] rfl ownx1 (Nat.le_refl _) bx1.size (some ⟨b1, 0, none⟩) i c1 _ rfl ?l11ba s11 ?o11ba (by omega) (by omega) ?_
      case l11ba => have := K1.out.1; rw [List.length_take, List.length_drop]; omega
      case o11ba => exact fun u hu => (flatK_one H.blks) u (List.mem_of_mem_drop (List.mem_of_mem_take hu))
      intro y1 z1 owny1 bz1 _
      have bz21 := bx1.trans bz1
      refine ⟨wd.heap.size, Nat.le_refl _, ?_⟩
      simp only [Act.put, List.setIfInBounds_toArray, List.set_cons_zero, List.set_cons_succ]
      refine plan_one (l := []) rfl ?_
      refine wpQuiet_nil ?_
      have s21 := ((own_part K1.out (i + 1) (n - (i + 1)) (by omega) ⟨b1, (i + 1) * 3, none⟩ (.inr rfl)).cap (c' := c1 - (i + 1))).below bz21 (fun a e => by cases e; exact hbd1)
      refine tail_app (some 20) (.tmp 12) (.tmp 19) 49 53 rfl rfl rfl rfl Tryz.underlying49 (.agg #[.int .i64 0, .int .i64 0, .bool false]) 3 24 bk_inf rfl (by decide) wd.heap.size y1 (0 + i) _ rfl owny1 (Nat.le_refl _) bz21.size (some ⟨b1, (i + 1) * 3, none⟩) (n - (i + 1)) (c1 - (i + 1)) _ rfl ?l21ba s21 ?o21ba (by omega) (by omega) ?_
      case l21ba => have := K1.out.1; rw [List.length_take, List.length_drop]; omega
      case o21ba => exact fun u hu => (flatK_one H.blks) u (List.mem_of_mem_drop (List.mem_of_mem_take hu))
      intro u1 v1 ownu1 bv1 _
      have bv21 := bz21.trans bv1
      rw [Nat.zero_add] at ownu1
      refine ⟨wd.heap.size, Nat.le_refl _, ?_⟩
      simp only [Act.put, List.setIfInBounds_toArray, List.set_cons_zero, List.set_cons_succ]
      obtain ⟨uA1, uc1, rfl⟩ := own_sl ownu1
      have e1u : i + (n - (i + 1)) = (H.blks.take i ++ H.blks.drop (i + 1)).length := by have := HN.out; rw [List.length_append, List.length_take, List.length_drop]; omega
      have hrow1 : v1.ownsRow wd.heap.size 53 3 (.slice uA1 (i + (n - (i + 1))) uc1) (H.blks.take i ++ H.blks.drop (i + 1)).length (flatK (H.blks.take i ++ H.blks.drop (i + 1))) := by
        rw [← e1u, flatK_append, flatK_take, flatK_drop]
        have e := ownu1
        rw [Nat.zero_mul, List.drop_zero, List.nil_append, List.take_of_length_le (i := (n - (i + 1)) * 3) (by have := K1.out.1; rw [List.length_drop]; omega)] at e
        exact e
      have HM1 := Lib.hid (HH.out.below (HBD.out.trans (by rw [HSZ.out]; exact bv21)))
      have hm2' := HM1.out.bset _ _ (own_base hrow1 (Nat.zero_le _))
      have HB1 := Lib.hid bv21
      have HL1 := Lib.hid hrow1.lt
      clear e1u s11 s21 owny1 ownx1 ownu1 bx1 bz1 bv1 hx1 hrow1 bz21 bv21
      have q1 := HM1.out.c1
      have f1 := HM1.out.thaw 1
      have hp1 := HM1.out.lt
      refine plan_fin (l := ?la1ba) (t := ?tl1ba) ?hla1ba ?htl1ba ?_
      case hla1ba => simp only [pick, List.getElem?_toArray, List.getElem?_cons_succ, List.getElem?_cons_zero]; rfl
      case htl1ba => simp only [pick, List.getElem?_toArray, List.getElem?_cons_succ, List.getElem?_cons_zero]; rfl
      repeat (go_big_quiet_step (fail))
      refine wpQuiet_nil ?_
      go_wp2_with fail
      clear q1 f1 hp1
      obtain ⟨v2, hv2⟩ : ∃ v2, v1.setCell ⟨p, 1, none⟩ (.slice uA1 (i + (n - (i + 1))) uc1) = v2 := ⟨_, rfl⟩
      rw [hv2] at hm2'
      obtain ⟨we, hwe⟩ : ∃ we, v2.drew = we := ⟨_, rfl⟩
      have hbe : Below v2.heap.size v2 we := by rw [← hwe]; exact (Below.refl _ _).drew
      have HME := Lib.hid (hm2'.below hbe)
      have htc : Tch F w we := ((Tch.of_below (S := F) (HBD.out.trans (by rw [HSZ.out]; exact HB1.out))).trans (by rw [← hv2]; exact Tch.set v1 ⟨p, 1, none⟩ _ HH.out.fp) (fun _ _ h => h)).trans (Tch.of_below (S := F) hbe) (fun _ _ h => h)
      have HTC := Lib.hid htc
      have HWD2 : Hid ((v1.setCell ⟨p, 1, none⟩ (.slice uA1 (i + (n - (i + 1))) uc1)).drew = we) := (show _ = _ by rw [hv2]; exact hwe)
      have hod : we.ownsRow 0 28 1 (.slice (some ⟨b2, 0, none⟩) n c2) n (H.ds.map Prod.fst) := by have e := HME.out.od; rw [← HDL2.out]; exact e
      have K2 := Lib.hid hod
      have EE2 : Hid (we.cell? ⟨p, 2, none⟩ = some (.slice (some ⟨b2, 0, none⟩) n c2)) := (show _ = _ by have e := HME.out.c2; rw [← HDL2.out]; exact e)
      have hpd2 := HME.out.lt
      have hbd2 : b2 < we.heap.size := own_lt hod rfl
      clear hm2' hv2 hwe hbe htc hod
      refine wp_region_plan we.heap.size (.one [0, 2, 3, 4, 5, 6, 7, 9, 10, 11, 12, 13, 14, 15] 1 (.one [] 8 (.one [] 16 (.fin [17, 18])))) [19] (by kernel_rfl) (by kernel_rfl) (by kernel_rfl) (fun _ _ _ _ _ h => h) ?_
      rw [HWD2.out]
      have t1 : ∀ z : LaterB we.heap.size we, z.val.cell? ⟨p, 2, none⟩ = some (.slice (some ⟨b2, 0, none⟩) n (i + 1)) := fun z => (z.ext.cell (p := ⟨p, 2, none⟩) hpd2).trans (by have := EE2.out; rw [hc2] at this; exact this)
      refine plan_one (l := ?seg2ba) ?hseg2ba ?_
      case hseg2ba => simp only [pick, List.getElem?_toArray, List.getElem?_cons_succ, List.getElem?_cons_zero]; rfl
      repeat (go_big_quiet_step (fail))
      refine wpQuiet_nil ?_
      clear t1
      obtain ⟨x2, hx2⟩ : ∃ x2, we.alloc (.cells #[] 28) = x2 := ⟨_, rfl⟩
      have bx2 : Below we.heap.size we x2 := by rw [← hx2]; exact (Below.refl _ _).alloc (Nat.le_refl _) _
      have ownx2 : x2.ownsRow we.heap.size 28 1 (.slice (some ⟨we.heap.size, 0, none⟩) 0 0) 0 [] := by rw [← hx2]; exact World.ownsRow_lit we _ 0 (Nat.le_refl _) (by unfold maxLen; omega) rfl
      refine tail_val2 (some 24) (w1 := x2) (v := .slice (some ⟨we.heap.size, 0, none⟩) 0 0) rfl rfl rfl (by rw [← hx2]; exact bslice_run rfl rfl (run_none_s we)) bx2 ⟨we.heap.size, Nat.le_refl _, ?_⟩
      simp only [Act.put, List.setIfInBounds_toArray, List.set_cons_zero, List.set_cons_succ]
      refine plan_one (l := []) rfl ?_
      refine wpQuiet_nil ?_
      have s12 := ((own_part K2.out 0 i (by omega) ⟨b2, 0, none⟩ (.inr (by rw [Nat.zero_mul]))).cap (c' := (i + 1))).below bx2 (fun a e => by cases e; exact hbd2)
      refine tail_app (some 31) (.tmp 24) (.tmp 30) 67 28 rfl rfl rfl rfl Tryz.underlying67 (.slice none 0 0) 1 24 sls_inf rfl (by decide) we.heap.size (.slice (some ⟨we.heap.size, 0, none⟩) 0 0) 0 [] rfl ownx2 (Nat.le_refl _) bx2.size (some ⟨b2, 0, none⟩) i (i + 1) _ rfl ?l12ba s12 ?o12ba (by omega) (by omega) ?_
      case l12ba => have := K2.out.1; rw [List.length_take, List.length_drop]; omega
      case o12ba => exact fun u hu => (sl_one HH.out.sl) u (List.mem_of_mem_drop (List.mem_of_mem_take hu))
      intro y2 z2 owny2 bz2 _
      have bz22 := bx2.trans bz2
      refine ⟨we.heap.size, Nat.le_refl _, ?_⟩
      simp only [Act.put, List.setIfInBounds_toArray, List.set_cons_zero, List.set_cons_succ]
      refine plan_one (l := []) rfl ?_
      refine wpQuiet_nil ?_
      have s22 := ((own_part K2.out (i + 1) (n - (i + 1)) (by omega) ⟨b2, 0, none⟩ (.inl (by omega))).cap (c' := 0)).below bz22 (fun a e => by cases e; exact hbd2)
      refine tail_app (some 39) (.tmp 31) (.tmp 38) 67 28 rfl rfl rfl rfl Tryz.underlying67 (.slice none 0 0) 1 24 sls_inf rfl (by decide) we.heap.size y2 (0 + i) _ rfl owny2 (Nat.le_refl _) bz22.size (some ⟨b2, 0, none⟩) (n - (i + 1)) (0) _ rfl ?l22ba s22 ?o22ba (by omega) (by omega) ?_
      case l22ba => have := K2.out.1; rw [List.length_take, List.length_drop]; omega
      case o22ba => exact fun u hu => (sl_one HH.out.sl) u (List.mem_of_mem_drop (List.mem_of_mem_take hu))
      intro u2 v2 ownu2 bv2 _
      have bv22 := bz22.trans bv2
      rw [Nat.zero_add] at ownu2
      refine ⟨we.heap.size, Nat.le_refl _, ?_⟩
      simp only [Act.put, List.setIfInBounds_toArray, List.set_cons_zero, List.set_cons_succ]
      obtain ⟨uA2, uc2, rfl⟩ := own_sl ownu2
      have e2u : i + (n - (i + 1)) = (H.ds.take i ++ H.ds.drop (i + 1)).length := by have := HDL2.out; rw [List.length_append, List.length_take, List.length_drop]; omega
      have hrow2 : v2.ownsRow we.heap.size 28 1 (.slice uA2 (i + (n - (i + 1))) uc2) (H.ds.take i ++ H.ds.drop (i + 1)).length ((H.ds.take i ++ H.ds.drop (i + 1)).map Prod.fst) := by
        rw [← e2u, List.map_append, List.map_take, List.map_drop]
        have e := ownu2
        rw [Nat.zero_mul, List.drop_zero, List.nil_append, Nat.mul_one, Nat.mul_one, Nat.mul_one, List.take_of_length_le (i := n - (i + 1)) (by have := K2.out.1; rw [List.length_drop]; omega)] at e
        exact e
      have HM2 := Lib.hid (HME.out.below bv22)
      have hm3 := HM2.out.dset _ _ (own_base hrow2 (Nat.zero_le _)) (fun d hd => HH.out.sl d (by rcases List.mem_append.1 hd with h | h; exact List.mem_of_mem_take h; exact List.mem_of_mem_drop h))
      have hto : HT F w p (H.drop i) (v2.setCell ⟨p, 2, none⟩ (.slice uA2 (i + (n - (i + 1))) uc2)) := by
        refine ⟨_, ⟨_, _, _, _, hm3⟩, ?_, fun k hk => ?_⟩
        · exact (HTC.out.trans (Tch.of_below (S := F) bv22) (fun _ _ h => h)).trans (Tch.set v2 ⟨p, 2, none⟩ _ HH.out.fp) (fun _ _ h => h)
        · have hs1 := HSZ.out
          rcases hk with (hk | hk) | hk
          · exact .inl hk
          · exact .inr (by have := (HL1.out k hk).1; omega)
          · exact .inr (by have := (hrow2.lt k hk).1; have := HTC.out.size; omega)
      have HTO := Lib.hid hto
      clear e2u s12 s22 owny2 ownx2 ownu2 bx2 bz2 bv2 hx2 hrow2 hm3 hto bz22 bv22
      have q2 := HM2.out.c2
      have f2 := HM2.out.thaw 2
      have hp2 := HM2.out.lt
      refine plan_fin (l := ?la2ba) (t := ?tl2ba) ?hla2ba ?htl2ba ?_
      case hla2ba => simp only [pick, List.getElem?_toArray, List.getElem?_cons_succ, List.getElem?_cons_zero]; rfl
      case htl2ba => simp only [pick, List.getElem?_toArray, List.getElem?_cons_succ, List.getElem?_cons_zero]; rfl
      repeat (go_big_quiet_step (fail))
      refine wpQuiet_nil ?_
      go_wp2
      go_end0
      exact ⟨rfl, HTO.out⟩
    · go_enter Tryz.func40, Tryz.ntmps40
      go_wp2_with fail
      refine wp_region_plan wd.heap.size (.one [0, 2, 3, 4, 5, 6, 7, 9, 10, 11, 12, 13, 14, 15] 1 (.one [] 8 (.one [] 16 (.fin [17, 18])))) [19] (by kernel_rfl) (by kernel_rfl) (by kernel_rfl) (fun _ _ _ _ _ h => h) ?_
      rw [HWD1.out]
      have t1 : ∀ z : LaterB wd.heap.size wd, z.val.cell? ⟨p, 1, none⟩ = some (.slice (some ⟨b1, 0, none⟩) n c1) := fun z => (z.ext.cell (p := ⟨p, 1, none⟩) hpd1).trans (by have := EE1.out; exact this)
      refine plan_one (l := ?seg1bb) ?hseg1bb ?_
      case hseg1bb => simp only [pick, List.getElem?_toArray, List.getElem?_cons_succ, List.getElem?_cons_zero]; rfl
      repeat (go_big_quiet_step (fail))
      refine wpQuiet_nil ?_
      clear t1
      obtain ⟨x1, hx1⟩ : ∃ x1, wd.alloc (.cells #[] 53) = x1 := ⟨_, rfl⟩
      have bx1 : Below wd.heap.size wd x1 := by rw [← hx1]; exact (Below.refl _ _).alloc (Nat.le_refl _) _
      have ownx1 : x1.ownsRow wd.heap.size 53 3 (.slice (some ⟨wd.heap.size, 0, none⟩) 0 0) 0 [] := by rw [← hx1]; exact World.ownsRow_lit wd _ 0 (Nat.le_refl _) (by unfold maxLen; omega) rfl
      refine tail_val2 (some 5) (w1 := x1) (v := .slice (some ⟨wd.heap.size, 0, none⟩) 0 0) rfl rfl rfl (by rw [← hx1]; exact bslice_run rfl rfl (run_none_b wd)) bx1 ⟨wd.heap.size, Nat.le_refl _, ?_⟩
      simp only [Act.put, List.setIfInBounds_toArray, List.set_cons_zero, List.set_cons_succ]
      refine plan_one (l := []) rfl ?_
      refine wpQuiet_nil ?_
      have s11 := ((own_part K1.out 0 i (by omega) ⟨b1, 0, none⟩ (.inr (by rw [Nat.zero_mul]))).cap (c' := c1)).below bx1 (fun a e => by cases e; exact hbd1)
      refine tail_app (some 12) (.tmp 5) (.tmp 11) 49 53 rfl rfl rfl rfl Tryz.underlying49 (.agg #[.int .i64 0, .int .i64 0, .bool false]) 3 24 bk_inf rfl (by decide) wd.heap.size (.slice (some ⟨wd.heap.size, 0, none⟩) 0 0) 0 [] rfl ownx1 (Nat.le_refl _) bx1.size (some ⟨b1, 0, none⟩) i c1 _ rfl ?l11bb s11 ?o11bb (by omega) (by omega) ?_
      case l11bb => have := K1.out.1; rw [List.length_take, List.length_drop]; omega
      case o11bb => exact fun u hu => (flatK_one H.blks) u (List.mem_of_mem_drop (List.mem_of_mem_take hu))
      intro y1 z1 owny1 bz1 _
      have bz21 := bx1.trans bz1
      refine ⟨wd.heap.size, Nat.le_refl _, ?_⟩
      simp only [Act.put, List.setIfInBounds_toArray, List.set_cons_zero, List.set_cons_succ]
      refine plan_one (l := []) rfl ?_
      refine wpQuiet_nil ?_
      have s21 := ((own_part K1.out (i + 1) (n - (i + 1)) (by omega) ⟨b1, (i + 1) * 3, none⟩ (.inr rfl)).cap (c' := c1 - (i + 1))).below bz21 (fun a e => by cases e; exact hbd1)
      refine tail_app (some 20) (.tmp 12) (.tmp 19) 49 53 rfl rfl rfl rfl Tryz.underlying49 (.agg #[.int .i64 0, .int .i64 0, .bool false]) 3 24 bk_inf rfl (by decide) wd.heap.size y1 (0 + i) _ rfl owny1 (Nat.le_refl _) bz21.size (some ⟨b1, (i + 1) * 3, none⟩) (n - (i + 1)) (c1 - (i + 1)) _ rfl ?l21bb s21 ?o21bb (by omega) (by omega) ?_
      case l21bb => have := K1.out.1; rw [List.length_take, List.length_drop]; omega
      case o21bb => exact fun u hu => (flatK_one H.blks) u (List.mem_of_mem_drop (List.mem_of_mem_take hu))
      intro u1 v1 ownu1 bv1 _
      have bv21 := bz21.trans bv1
      rw [Nat.zero_add] at ownu1
      refine ⟨wd.heap.size, Nat.le_refl _, ?_⟩
      simp only [Act.put, List.setIfInBounds_toArray, List.set_cons_zero, List.set_cons_succ]
      obtain ⟨uA1, uc1, rfl⟩ := own_sl ownu1
      have e1u : i + (n - (i + 1)) = (H.blks.take i ++ H.blks.drop (i + 1)).length := by have := HN.out; rw [List.length_append, List.length_take, List.length_drop]; omega
      have hrow1 : v1.ownsRow wd.heap.size 53 3 (.slice uA1 (i + (n - (i + 1))) uc1) (H.blks.take i ++ H.blks.drop (i + 1)).length (flatK (H.blks.take i ++ H.blks.drop (i + 1))) := by
        rw [← e1u, flatK_append, flatK_take, flatK_drop]
        have e := ownu1
        rw [Nat.zero_mul, List.drop_zero, List.nil_append, List.take_of_length_le (i := (n - (i + 1)) * 3) (by have := K1.out.1; rw [List.length_drop]; omega)] at e
        exact e
      have HM1 := Lib.hid (HH.out.below (HBD.out.trans (by rw [HSZ.out]; exact bv21)))
      have hm2' := HM1.out.bset _ _ (own_base hrow1 (Nat.zero_le _))
      have HB1 := Lib.hid bv21
      have HL1 := Lib.hid hrow1.lt
      clear e1u s11 s21 owny1 ownx1 ownu1 bx1 bz1 bv1 hx1 hrow1 bz21 bv21
      have q1 := HM1.out.c1
      have f1 := HM1.out.thaw 1
      have hp1 := HM1.out.lt
      refine plan_fin (l := ?la1bb) (t := ?tl1bb) ?hla1bb ?htl1bb ?_
      case hla1bb => simp only [pick, List.getElem?_toArray, List.getElem?_cons_succ, List.getElem?_cons_zero]; rfl
      case htl1bb => simp only [pick, List.getElem?_toArray, List.getElem?_cons_succ, List.getElem?_cons_zero]; rfl
      repeat (go_big_quiet_step (fail))
      refine wpQuiet_nil ?_
      go_wp2_with fail
      clear q1 f1 hp1
      obtain ⟨v2, hv2⟩ : ∃ v2, v1.setCell ⟨p, 1, none⟩ (.slice uA1 (i + (n - (i + 1))) uc1) = v2 := ⟨_, rfl⟩
      rw [hv2] at hm2'
      obtain ⟨we, hwe⟩ : ∃ we, v2.drew = we := ⟨_, rfl⟩
      have hbe : Below v2.heap.size v2 we := by rw [← hwe]; exact (Below.refl _ _).drew
      have HME := Lib.hid (hm2'.below hbe)
      have htc : Tch F w we := ((Tch.of_below (S := F) (HBD.out.trans (by rw [HSZ.out]; exact HB1.out))).trans (by rw [← hv2]; exact Tch.set v1 ⟨p, 1, none⟩ _ HH.out.fp) (fun _ _ h => h)).trans (Tch.of_below (S := F) hbe) (fun _ _ h => h)
      have HTC := Lib.hid htc
      have HWD2 : Hid ((v1.setCell ⟨p, 1, none⟩ (.slice uA1 (i + (n - (i + 1))) uc1)).drew = we) := (show _ = _ by rw [hv2]; exact hwe)
      have hod : we.ownsRow 0 28 1 (.slice (some ⟨b2, 0, none⟩) n c2) n (H.ds.map Prod.fst) := by have e := HME.out.od; rw [← HDL2.out]; exact e
      have K2 := Lib.hid hod
      have EE2 : Hid (we.cell? ⟨p, 2, none⟩ = some (.slice (some ⟨b2, 0, none⟩) n c2)) := (show _ = _ by have e := HME.out.c2; rw [← HDL2.out]; exact e)
      have hpd2 := HME.out.lt
      have hbd2 : b2 < we.heap.size := own_lt hod rfl
      clear hm2' hv2 hwe hbe htc hod
      refine wp_region_plan we.heap.size (.one [0, 2, 3, 4, 5, 6, 7, 9, 10, 11, 12, 13, 14, 15] 1 (.one [] 8 (.one [] 16 (.fin [17, 18])))) [19] (by kernel_rfl) (by kernel_rfl) (by kernel_rfl) (fun _ _ _ _ _ h => h) ?_
      rw [HWD2.out]
      have t1 : ∀ z : LaterB we.heap.size we, z.val.cell? ⟨p, 2, none⟩ = some (.slice (some ⟨b2, 0, none⟩) n c2) := fun z => (z.ext.cell (p := ⟨p, 2, none⟩) hpd2).trans (by have := EE2.out; exact this)
      refine plan_one (l := ?seg2bb) ?hseg2bb ?_
      case hseg2bb => simp only [pick, List.getElem?_toArray, List.getElem?_cons_succ, List.getElem?_cons_zero]; rfl
      repeat (go_big_quiet_step (fail))
      refine wpQuiet_nil ?_
      clear t1
      obtain ⟨x2, hx2⟩ : ∃ x2, we.alloc (.cells #[] 28) = x2 := ⟨_, rfl⟩
      have bx2 : Below we.heap.size we x2 := by rw [← hx2]; exact (Below.refl _ _).alloc (Nat.le_refl _) _
      have ownx2 : x2.ownsRow we.heap.size 28 1 (.slice (some ⟨we.heap.size, 0, none⟩) 0 0) 0 [] := by rw [← hx2]; exact World.ownsRow_lit we _ 0 (Nat.le_refl _) (by unfold maxLen; omega) rfl
      refine tail_val2 (some 24) (w1 := x2) (v := .slice (some ⟨we.heap.size, 0, none⟩) 0 0) rfl rfl rfl (by rw [← hx2]; exact bslice_run rfl rfl (run_none_s we)) bx2 ⟨we.heap.size, Nat.le_refl _, ?_⟩
      simp only [Act.put, List.setIfInBounds_toArray, List.set_cons_zero, List.set_cons_succ]
      refine plan_one (l := []) rfl ?_
      refine wpQuiet_nil ?_
      have s12 := ((own_part K2.out 0 i (by omega) ⟨b2, 0, none⟩ (.inr (by rw [Nat.zero_mul]))).cap (c' := c2)).below bx2 (fun a e => by cases e; exact hbd2)
      refine tail_app (some 31) (.tmp 24) (.tmp 30) 67 28 rfl rfl rfl rfl Tryz.underlying67 (.slice none 0 0) 1 24 sls_inf rfl (by decide) we.heap.size (.slice (some ⟨we.heap.size, 0, none⟩) 0 0) 0 [] rfl ownx2 (Nat.le_refl _) bx2.size (some ⟨b2, 0, none⟩) i c2 _ rfl ?l12bb s12 ?o12bb (by omega) (by omega) ?_
      case l12bb => have := K2.out.1; rw [List.length_take, List.length_drop]; omega
      case o12bb => exact fun u hu => (sl_one HH.out.sl) u (List.mem_of_mem_drop (List.mem_of_mem_take hu))
      intro y2 z2 owny2 bz2 _
      have bz22 := bx2.trans bz2
      refine ⟨we.heap.size, Nat.le_refl _, ?_⟩
      simp only [Act.put, List.setIfInBounds_toArray, List.set_cons_zero, List.set_cons_succ]
      refine plan_one (l := []) rfl ?_
      refine wpQuiet_nil ?_
      have s22 := ((own_part K2.out (i + 1) (n - (i + 1)) (by omega) ⟨b2, i + 1, none⟩ (.inr (by rw [Nat.mul_one]))).cap (c' := c2 - (i + 1))).below bz22 (fun a e => by cases e; exact hbd2)
      refine tail_app (some 39) (.tmp 31) (.tmp 38) 67 28 rfl rfl rfl rfl Tryz.underlying67 (.slice none 0 0) 1 24 sls_inf rfl (by decide) we.heap.size y2 (0 + i) _ rfl owny2 (Nat.le_refl _) bz22.size (some ⟨b2, i + 1, none⟩) (n - (i + 1)) (c2 - (i + 1)) _ rfl ?l22bb s22 ?o22bb (by omega) (by omega) ?_
      case l22bb => have := K2.out.1; rw [List.length_take, List.length_drop]; omega
      case o22bb => exact fun u hu => (sl_one HH.out.sl) u (List.mem_of_mem_drop (List.mem_of_mem_take hu))
      intro u2 v2 ownu2 bv2 _
      have bv22 := bz22.trans bv2
      rw [Nat.zero_add] at ownu2
      refine ⟨we.heap.size, Nat.le_refl _, ?_⟩
      simp only [Act.put, List.setIfInBounds_toArray, List.set_cons_zero, List.set_cons_succ]
      obtain ⟨uA2, uc2, rfl⟩ := own_sl ownu2
      have e2u : i + (n - (i + 1)) = (H.ds.take i ++ H.ds.drop (i + 1)).length := by have := HDL2.out; rw [List.length_append, List.length_take, List.length_drop]; omega
      have hrow2 : v2.ownsRow we.heap.size 28 1 (.slice uA2 (i + (n - (i + 1))) uc2) (H.ds.take i ++ H.ds.drop (i + 1)).length ((H.ds.take i ++ H.ds.drop (i + 1)).map Prod.fst) := by
        rw [← e2u, List.map_append, List.map_take, List.map_drop]
        have e := ownu2
        rw [Nat.zero_mul, List.drop_zero, List.nil_append, Nat.mul_one, Nat.mul_one, Nat.mul_one, List.take_of_length_le (i := n - (i + 1)) (by have := K2.out.1; rw [List.length_drop]; omega)] at e
        exact e
      have HM2 := Lib.hid (HME.out.below bv22)
      have hm3 := HM2.out.dset _ _ (own_base hrow2 (Nat.zero_le _)) (fun d hd => HH.out.sl d (by rcases List.mem_append.1 hd with h | h; exact List.mem_of_mem_take h; exact List.mem_of_mem_drop h))
      have hto : HT F w p (H.drop i) (v2.setCell ⟨p, 2, none⟩ (.slice uA2 (i + (n - (i + 1))) uc2)) := by
        refine ⟨_, ⟨_, _, _, _, hm3⟩, ?_, fun k hk => ?_⟩
        · exact (HTC.out.trans (Tch.of_below (S := F) bv22) (fun _ _ h => h)).trans (Tch.set v2 ⟨p, 2, none⟩ _ HH.out.fp) (fun _ _ h => h)
        · have hs1 := HSZ.out
          rcases hk with (hk | hk) | hk
          · exact .inl hk
          · exact .inr (by have := (HL1.out k hk).1; omega)
          · exact .inr (by have := (hrow2.lt k hk).1; have := HTC.out.size; omega)
      have HTO := Lib.hid hto
      clear e2u s12 s22 owny2 ownx2 ownu2 bx2 bz2 bv2 hx2 hrow2 hm3 hto bz22 bv22
      have q2 := HM2.out.c2
      have f2 := HM2.out.thaw 2
      have hp2 := HM2.out.lt
      refine plan_fin (l := ?la2bb) (t := ?tl2bb) ?hla2bb ?htl2bb ?_
      case hla2bb => simp only [pick, List.getElem?_toArray, List.getElem?_cons_succ, List.getElem?_cons_zero]; rfl
      case htl2bb => simp only [pick, List.getElem?_toArray, List.getElem?_cons_succ, List.getElem?_cons_zero]; rfl
      repeat (go_big_quiet_step (fail))
      refine wpQuiet_nil ?_
      go_wp2
      go_end0
      exact ⟨rfl, HTO.out⟩
end
end Go.Proofs.YtdjjbmefaggelaaGreat
